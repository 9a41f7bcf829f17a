/- Layer 18: what is written, as data; what is read is good; what is good comes back. -/
import Derived.Test.YtbpnaclnninndaaModeC
namespace Go.Proofs.Ytbpnaclnninndaa
set_option linter.unusedVariables false
set_option linter.unusedSimpArgs false
open Go.RowKit

/-- what is written: the row, the arguments, the sign that stands last -/
abbrev TSt := List UInt8 × List ByteArray × Option Bool
def sgn (on : Bool) : UInt8 := if on then 43 else 45
def stepT (st : TSt) (x : Chg) : TSt :=
  (st.1 ++ (if st.2.2 = some x.1 then [] else [sgn x.1]) ++ [x.2.1], if takesB x.2.1 x.1 = true then st.2.1 ++ [x.2.2] else st.2.1, some x.1)
def textS (l : List Chg) : TSt := l.foldl stepT ([], [], none)
def textM (l : List Chg) : List ByteArray := if l = [] then [] else bs (textS l).1 :: (textS l).2.1
theorem textS_take (l : List Chg) (k : Nat) (h : k < l.length) : textS (l.take (k + 1)) = stepT (textS (l.take k)) l[k] := by
  unfold textS
  rw [List.take_succ_eq_append_getElem h, List.foldl_append]
  rfl
theorem textS_last (l : List Chg) (k : Nat) (h : k < l.length) : (textS (l.take (k + 1))).2.2 = some l[k].1 := by
  rw [textS_take l k h]; rfl

def rowR (p : Option Bool) : List Chg → List UInt8
  | [] => []
  | x :: r => (if p = some x.1 then [] else [sgn x.1]) ++ x.2.1 :: rowR (some x.1) r
def tk (x : Chg) : Bool := takesB x.2.1 x.1
def argsR (l : List Chg) : List ByteArray := (l.filter tk).map (·.2.2)
def manyT (l : List Chg) : Nat := (l.filter tk).length
theorem fold_text : ∀ (l : List Chg) (r : List UInt8) (a : List ByteArray) (p : Option Bool), (l.foldl stepT (r, a, p)).1 = r ++ rowR p l ∧ (l.foldl stepT (r, a, p)).2.1 = a ++ argsR l
  | [], r, a, p => by simp [rowR, argsR]
  | x :: l, r, a, p => by
    have h := fold_text l (stepT (r, a, p) x).1 (stepT (r, a, p) x).2.1 (some x.1)
    have e : (x :: l).foldl stepT (r, a, p) = l.foldl stepT ((stepT (r, a, p) x).1, (stepT (r, a, p) x).2.1, some x.1) := rfl
    rw [e, h.1, h.2]
    refine ⟨by simp [stepT, rowR], ?_⟩
    cases ht : tk x with
    | true =>
      have ht' : takesB x.2.1 x.1 = true := ht
      simp [stepT, argsR, List.filter_cons, ht, ht']
    | false =>
      have ht' : takesB x.2.1 x.1 = false := ht
      simp [stepT, argsR, List.filter_cons, ht, ht']
theorem textS_row (l : List Chg) : (textS l).1 = rowR none l := by unfold textS; simpa using (fold_text l [] [] none).1
theorem textS_args (l : List Chg) : (textS l).2.1 = argsR l := by unfold textS; simpa using (fold_text l [] [] none).2
theorem rowR_len : ∀ (l : List Chg) (p : Option Bool), (rowR p l).length ≤ 2 * l.length
  | [], p => by simp [rowR]
  | x :: r, p => by
    have := rowR_len r (some x.1)
    unfold rowR
    split <;> simp <;> omega
theorem argsR_len (l : List Chg) : (argsR l).length = manyT l := by simp [argsR, manyT]
theorem manyT_le (l : List Chg) : manyT l ≤ l.length := List.length_filter_le _ _
theorem textS_len (l : List Chg) : (textS l).1.length ≤ 2 * l.length ∧ (textS l).2.1.length ≤ l.length := by
  rw [textS_row, textS_args, argsR_len]
  exact ⟨rowR_len l none, manyT_le l⟩

/-! what is read is good -/
def goodC (x : Chg) : Prop := x.2.1 ≠ 43 ∧ x.2.1 ≠ 45 ∧ (tk x = false → x.2.2 = noArg)
theorem seqL_mem : ∀ (l : List UInt8) (on : Bool) (x : Letter), x ∈ seqL on l → x.1 ≠ 43 ∧ x.1 ≠ 45
  | [], on, x, h => by simp [seqL] at h
  | c :: r, on, x, h => by
    unfold seqL at h
    split at h
    · exact seqL_mem r _ x h
    · split at h
      · exact seqL_mem r _ x h
      · rcases List.mem_cons.1 h with rfl | h
        · exact ⟨‹_›, ‹_›⟩
        · exact seqL_mem r _ x h
theorem manyT_snoc (l : List Chg) (x : Chg) : manyT (l ++ [x]) = manyT l + if tk x = true then 1 else 0 := by
  unfold manyT
  rw [List.filter_append, List.length_append]
  cases h : tk x <;> simp [List.filter_cons, h]
def okP (st : PSt) : Prop := (∀ x ∈ st.1, goodC x) ∧ manyT st.1 = st.2.2 ∧ st.2.2 ≤ 4
theorem okP_step (ps : List ByteArray) (st : PSt) (x : Letter) (h1 : x.1 ≠ 43) (h2 : x.1 ≠ 45) (h : okP st) : okP (stepP ps st x) := by
  obtain ⟨out, a, n⟩ := st
  obtain ⟨c, on⟩ := x
  obtain ⟨hg, hm, hn⟩ := h
  simp only at hg hm hn h1 h2
  have snoc : ∀ y : Chg, goodC y → ∀ z ∈ out ++ [y], goodC z := fun y hy z hz => by
    rcases List.mem_append.1 hz with hz | hz
    · exact hg z hz
    · rw [List.mem_singleton.1 hz]; exact hy
  cases ht : takesB c on with
  | false =>
    rw [stepP_no ht]
    have hk : ∀ b, tk (on, c, b) = false := fun b => ht
    exact ⟨snoc _ ⟨h1, h2, fun _ => rfl⟩, by show manyT (out ++ [_]) = n; rw [manyT_snoc, hk]; simpa using hm, hn⟩
  | true =>
    have hk : ∀ b, tk (on, c, b) = true := fun b => ht
    have good : ∀ b, goodC (on, c, b) := fun b => ⟨h1, h2, fun h => by rw [hk] at h; cases h⟩
    have many : ∀ b, manyT (out ++ [(on, c, b)]) = n + 1 := fun b => by rw [manyT_snoc, hk, hm]; rfl
    by_cases h4 : n = 4
    · subst h4; rw [stepP_full ht]; exact ⟨hg, hm, hn⟩
    · by_cases ha : a < ps.length
      · rw [stepP_arg ht h4 ha]; exact ⟨snoc _ (good _), many _, by show n + 1 ≤ 4; omega⟩
      · by_cases hc : c = 98
        · subst hc; rw [stepP_list ht h4 ha]; exact ⟨snoc _ (good _), many _, by show n + 1 ≤ 4; omega⟩
        · rw [stepP_drop ht h4 ha hc]; exact ⟨hg, hm, hn⟩
theorem okP_fold (ps : List ByteArray) : ∀ (l : List Letter) (st : PSt), (∀ x ∈ l, x.1 ≠ 43 ∧ x.1 ≠ 45) → okP st → okP (l.foldl (stepP ps) st)
  | [], st, _, h => h
  | x :: l, st, hl, h => okP_fold ps l _ (fun y hy => hl y (List.mem_cons_of_mem _ hy)) (okP_step ps st x (hl x List.mem_cons_self).1 (hl x List.mem_cons_self).2 h)
theorem parse_good (ps : List ByteArray) : (∀ x ∈ parseM ps, goodC x) ∧ manyT (parseM ps) ≤ 4 := by
  unfold parseM
  split
  · have h := okP_fold ps _ ([], 1, 0) (seqL_mem ps[0].data.toList true) ⟨by simp, rfl, by decide⟩
    exact ⟨h.1, by rw [h.2.1]; exact h.2.2⟩
  · exact ⟨by simp, by decide⟩

/-! what is good comes back -/
theorem seqL_row : ∀ (l : List Chg) (p : Option Bool) (on : Bool), (p = none ∨ p = some on) → (∀ x ∈ l, goodC x) → seqL on (rowR p l) = l.map fun x => (x.2.1, x.1)
  | [], p, on, _, _ => by simp [rowR, seqL]
  | x :: r, p, on, hp, hg => by
    have hx := hg x List.mem_cons_self
    have ih := fun o => seqL_row r (some x.1) o
    have rest := ih x.1 (.inr rfl) fun y hy => hg y (List.mem_cons_of_mem _ hy)
    unfold rowR
    by_cases h : p = some x.1
    · rw [if_pos h]
      have ho : on = x.1 := by
        rcases hp with hp | hp
        · rw [hp] at h; cases h
        · rw [hp] at h; injection h
      subst ho
      show seqL x.1 (x.2.1 :: rowR (some x.1) r) = _
      unfold seqL
      rw [if_neg hx.1, if_neg hx.2.1, rest]
      rfl
    · rw [if_neg h]
      have hs : seqL on (sgn x.1 :: x.2.1 :: rowR (some x.1) r) = seqL x.1 (x.2.1 :: rowR (some x.1) r) := by
        obtain ⟨o, c, b⟩ := x
        cases o
        · rfl
        · rfl
      show seqL on (sgn x.1 :: x.2.1 :: rowR (some x.1) r) = _
      rw [hs]
      show seqL x.1 (x.2.1 :: rowR (some x.1) r) = _
      conv => lhs; unfold seqL
      rw [if_neg hx.1, if_neg hx.2.1, rest]
      rfl
theorem manyT_app (a b : List Chg) : manyT (a ++ b) = manyT a + manyT b := by simp [manyT]
theorem back_fold (row : ByteArray) (l : List Chg) (hg : ∀ x ∈ l, goodC x) (h4 : manyT l ≤ 4) : ∀ (suf pre : List Chg), l = pre ++ suf →
    (suf.map fun x => (x.2.1, x.1)).foldl (stepP (row :: argsR l)) (pre, 1 + manyT pre, manyT pre) = (l, 1 + manyT l, manyT l)
  | [], pre, h => by
    have : l = pre := by simpa using h
    subst this; rfl
  | x :: suf, pre, h => by
    have hl : l = (pre ++ [x]) ++ suf := by rw [h]; simp
    have ih := back_fold row l hg h4 suf (pre ++ [x]) hl
    have hx := hg x (by rw [h]; simp)
    have hm := manyT_snoc pre x
    have hml : manyT l = manyT (pre ++ [x]) + manyT suf := by rw [← manyT_app, ← hl]
    rw [List.map_cons, List.foldl_cons]
    have step : stepP (row :: argsR l) (pre, 1 + manyT pre, manyT pre) (x.2.1, x.1) = (pre ++ [x], 1 + manyT (pre ++ [x]), manyT (pre ++ [x])) := by
      cases ht : tk x with
      | false =>
        have ht' : takesB x.2.1 x.1 = false := ht
        rw [stepP_no ht', hm, ht]
        have : x = (x.1, x.2.1, noArg) := by rw [← hx.2.2 ht]
        rw [← this]; rfl
      | true =>
        have ht' : takesB x.2.1 x.1 = true := ht
        rw [ht] at hm
        simp only [if_true] at hm
        have ha : 1 + manyT pre < (row :: argsR l).length := by rw [List.length_cons, argsR_len]; omega
        have hget : (row :: argsR l)[1 + manyT pre]'ha = x.2.2 := by
          have e1 : argsR l = argsR pre ++ x.2.2 :: argsR suf := by
            rw [h]; unfold argsR; simp [List.filter_append, List.filter_cons, ht]
          have e2 : (row :: argsR l)[1 + manyT pre]? = some x.2.2 := by
            rw [show 1 + manyT pre = manyT pre + 1 by omega, List.getElem?_cons_succ, e1, List.getElem?_append_right (by rw [argsR_len]; exact Nat.le_refl _), argsR_len, Nat.sub_self]
            rfl
          rw [List.getElem?_eq_getElem ha] at e2
          exact Option.some.inj e2
        rw [stepP_arg ht' (by omega) ha, hget, hm, show 1 + manyT pre + 1 = 1 + (manyT pre + 1) by omega]
    rw [step]
    exact ih
theorem back (l : List Chg) (hg : ∀ x ∈ l, goodC x) (h4 : manyT l ≤ 4) : parseM (textM l) = l := by
  by_cases h : l = []
  · subst h; rfl
  · have e : textM l = bs (rowR none l) :: argsR l := by unfold textM; rw [if_neg h, textS_row, textS_args]
    rw [e]
    unfold parseM
    rw [dif_pos (by simp)]
    have := back_fold (bs (rowR none l)) l hg h4 l [] (by simp)
    simp only [List.getElem_cons_zero, bs_toList]
    rw [seqL_row l none true (.inl rfl) hg]
    have h0 : ([], 1, 0) = (([] : List Chg), 1 + manyT [], manyT []) := rfl
    rw [h0, this]
theorem back_parse (ps : List ByteArray) : parseM (textM (parseM ps)) = parseM ps := back _ (parse_good ps).1 (parse_good ps).2
end Go.Proofs.Ytbpnaclnninndaa
