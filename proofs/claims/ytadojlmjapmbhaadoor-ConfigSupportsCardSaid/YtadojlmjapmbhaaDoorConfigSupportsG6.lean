/- Texts of this proof, one behind the other. -/
import Derived.Test.YtadojlmjapmbhaaDoorConfigSupportsG5
import Derived.RangeFuncWrites
import Derived.RangeFuncBox
import Derived.Sort.CutIn
import Derived.Stop.RegionWithIn
import Derived.Test.YtadojlmjapmbhaaDoorConfigSupportsG4
import Derived.Test.YtadojlmjapmbhaaDoorConfigSupportsG3
import Derived.Test.YtadojlmjapmbhaaDoorConfigSupportsG1
import Derived.Deep.RegionHeld3
import Derived.Test.YtadojlmjapmbhaaDoorRows
import Derived.ProofKit
import Derived.OpenShut
import Derived.LaidMore
import Derived.Lay
import Derived.ShutString
import Derived.Below
import Derived.ChangeSame
section
/- Layer 18: modes.Parse. -/
namespace Go.Proofs.YtadojlmjapmbhaaDoor
set_option linter.unusedVariables false
set_option linter.unusedSimpArgs false
open Go.RowKit Go.Shelf
attribute [local go_sem] Oper.semAt_some

/-- what is left of the arguments -/
def ArgsAt (pg po : Nat) (ps : List ByteArray) (a : Nat) (v : Value) : Prop :=
  ∃ g o c, v = .slice (some ⟨g, o, none⟩) (ps.length - a) c ∧ ps.length - a ≤ c ∧ (a < ps.length → g = pg ∧ o = po + a)

/-- where the letters have led -/
def stP (ps : List ByteArray) (pre : List Letter) : PSt := pre.foldl (stepP ps) ([], 1, 0)
theorem stP_snoc (ps : List ByteArray) (pre : List Letter) (x : Letter) : stP ps (pre ++ [x]) = stepP ps (stP ps pre) x := by simp [stP]
theorem stP_bounds (ps : List ByteArray) (h : 0 < ps.length) (pre : List Letter) : (stP ps pre).1.length ≤ pre.length ∧ 1 ≤ (stP ps pre).2.1 ∧ (stP ps pre).2.1 ≤ ps.length ∧ (stP ps pre).2.2 ≤ pre.length := by
  have key : ∀ (l : List Letter) (s : PSt) (k : Nat), (s.1.length ≤ k ∧ 1 ≤ s.2.1 ∧ s.2.1 ≤ ps.length ∧ s.2.2 ≤ k) → ((l.foldl (stepP ps) s).1.length ≤ k + l.length ∧ 1 ≤ (l.foldl (stepP ps) s).2.1 ∧ (l.foldl (stepP ps) s).2.1 ≤ ps.length ∧ (l.foldl (stepP ps) s).2.2 ≤ k + l.length) := by
    intro l
    induction l with
    | nil => intro s k hs; simpa using hs
    | cons x r ih =>
      intro s k hs
      have h2 := ih (stepP ps s x) (k + 1) (by
        obtain ⟨h1, h2, h3, h4⟩ := hs
        unfold stepP
        split
        · split
          · exact ⟨by omega, h2, h3, by omega⟩
          · split
            · refine ⟨by simp; omega, by simp, by simp; omega, by simp; omega⟩
            · split
              · exact ⟨by simp; omega, h2, h3, by simp; omega⟩
              · exact ⟨by omega, h2, h3, by omega⟩
        · exact ⟨by simp; omega, h2, h3, by simp; omega⟩)
      simp only [List.foldl_cons, List.length_cons]
      have e : k + 1 + r.length = k + (r.length + 1) := by omega
      rw [e] at h2
      exact h2
  have := key pre ([], 1, 0) 0 (by simp; omega)
  simpa [stP] using this
theorem holds_own {β : Type} (B : Nat) (t : TypeId) (G : β → Value → Prop) : Own (fun s W => ∃ v, Boxed W B t v ∧ G s v) := fun s X Y row ⟨v, hs, hg⟩ hgr hrow =>
  ⟨v, hs.kept hgr (fun e' => by obtain ⟨o, ho, hc⟩ := hrow B e'.symm; rw [show X.heap[B]? = _ from hs] at ho; cases ho; cases hc), hg⟩

theorem grownBy_setAt (W : World) (b o : Nat) (v : Value) : W.grownBy (W.setCell ⟨b, o, none⟩ v) (some b) :=
  ⟨rfl, rfl, rfl, (KeepsWalks.setCell W _ v).size, fun k _ hk => Below.heap_setCell _ _ _ k (fun e => hk (by rw [e]))⟩
theorem boxed_otherAt {W : World} {B B' : Nat} {t : TypeId} {v : Value} (h : Boxed W B t v) (hne : B ≠ B') (o : Nat) (u : Value) : Boxed (W.setCell ⟨B', o, none⟩ u) B t v :=
  h.kept (grownBy_setAt W B' o u) (fun e => hne (by simpa using e))

theorem below_dn' {B : Nat} {a w : World} (h : Below B a w) (n : Nat) : Below B a (w.drewN n) := ⟨h.os, h.tape, h.output, h.size, h.block⟩
theorem keeps_dn' (W : World) (n : Nat) : KeepsOthers W (W.drewN n) := ⟨Nat.le_refl _, fun _ _ h _ => h⟩

theorem slice_from (g o n c : Nat) (h : 1 ≤ n) (hc : n ≤ c) : ∃ g1 o1, (∀ W, (Instr.slice 34 (.slice (some ⟨g, o, none⟩) n c) (some (.int .i64 1)) none none).run Tryd.prog W = .ok (.slice (some ⟨g1, o1, none⟩) (n - 1) (c - 1)) W) ∧ (1 < n → g1 = g ∧ o1 = o + 1) := by
  have hu : Tryd.prog.underlying 34 = some (.slice (Tryd.prog.elem 34)) := by kernel_rfl
  have hz : (Tryd.prog.info? (Tryd.prog.elem 34)).map (·.size) = some 1 := by kernel_rfl
  cases hie : Tryd.prog.info? (Tryd.prog.elem 34) with
  | none => rw [hie] at hz; cases hz
  | some ie =>
    rw [hie] at hz
    simp only [Option.map_some, Option.some.injEq] at hz
    by_cases h1 : c = 1
    · subst h1
      refine ⟨g, o, fun W => ?_, fun h2 => by omega⟩
      rw [run_slice_l W 34 _ _ _ hu _ _ (by omega) (by omega)]
      simp [sliced, sizeOf, hie, hz, go_sem]
    · refine ⟨g, o + 1, fun W => ?_, fun h2 => ⟨rfl, rfl⟩⟩
      rw [run_slice_l W 34 _ _ _ hu _ _ (by omega) (by omega)]
      have h3 : ¬ (c - 1 = 0) := by omega
      simp [sliced, sizeOf, hie, hz, go_sem, h1, Addr.add, show Tryd.t9.size = 1 from rfl]

end Go.Proofs.YtadojlmjapmbhaaDoor
end
section
/- Layer 18: what is written, as data; what is read is good; what is good comes back. -/
namespace Go.Proofs.YtadojlmjapmbhaaDoor
set_option linter.unusedVariables false
set_option linter.unusedSimpArgs false
open Go.RowKit

/-- what is written: the row, the arguments, the sign that stands last -/
abbrev TSt := List UInt8 × List ByteArray × Option Bool
def sgn (on : Bool) : UInt8 := if on then 43 else 45
def stepT (st : TSt) (x : Chg) : TSt :=
  (st.1 ++ (if st.2.2 = some x.1 then [] else [sgn x.1]) ++ [x.2.1], if takesB x.2.1 x.1 = true then st.2.1 ++ [x.2.2] else st.2.1, some x.1)
def textS (l : List Chg) : TSt := l.foldl stepT ([], [], none)
def textM (l : List Chg) : List ByteArray := if l = [] then [] else bs (textS l).1 :: (textS l).2.1
theorem textS_take (l : List Chg) (k : Nat) (h : k < l.length) : textS (l.take (k + 1)) = stepT (textS (l.take k)) l[k] := by
  unfold textS
  rw [List.take_succ_eq_append_getElem h, List.foldl_append]
  rfl
theorem textS_last (l : List Chg) (k : Nat) (h : k < l.length) : (textS (l.take (k + 1))).2.2 = some l[k].1 := by
  rw [textS_take l k h]; rfl

def rowR (p : Option Bool) : List Chg → List UInt8
  | [] => []
  | x :: r => (if p = some x.1 then [] else [sgn x.1]) ++ x.2.1 :: rowR (some x.1) r
def tk (x : Chg) : Bool := takesB x.2.1 x.1
def argsR (l : List Chg) : List ByteArray := (l.filter tk).map (·.2.2)
def manyT (l : List Chg) : Nat := (l.filter tk).length
theorem fold_text : ∀ (l : List Chg) (r : List UInt8) (a : List ByteArray) (p : Option Bool), (l.foldl stepT (r, a, p)).1 = r ++ rowR p l ∧ (l.foldl stepT (r, a, p)).2.1 = a ++ argsR l
  | [], r, a, p => by simp [rowR, argsR]
  | x :: l, r, a, p => by
    have h := fold_text l (stepT (r, a, p) x).1 (stepT (r, a, p) x).2.1 (some x.1)
    have e : (x :: l).foldl stepT (r, a, p) = l.foldl stepT ((stepT (r, a, p) x).1, (stepT (r, a, p) x).2.1, some x.1) := rfl
    rw [e, h.1, h.2]
    refine ⟨by simp [stepT, rowR], ?_⟩
    cases ht : tk x with
    | true =>
      have ht' : takesB x.2.1 x.1 = true := ht
      simp [stepT, argsR, List.filter_cons, ht, ht']
    | false =>
      have ht' : takesB x.2.1 x.1 = false := ht
      simp [stepT, argsR, List.filter_cons, ht, ht']
theorem textS_row (l : List Chg) : (textS l).1 = rowR none l := by unfold textS; simpa using (fold_text l [] [] none).1
theorem textS_args (l : List Chg) : (textS l).2.1 = argsR l := by unfold textS; simpa using (fold_text l [] [] none).2
theorem rowR_len : ∀ (l : List Chg) (p : Option Bool), (rowR p l).length ≤ 2 * l.length
  | [], p => by simp [rowR]
  | x :: r, p => by
    have := rowR_len r (some x.1)
    unfold rowR
    split <;> simp <;> omega
theorem argsR_len (l : List Chg) : (argsR l).length = manyT l := by simp [argsR, manyT]
theorem manyT_le (l : List Chg) : manyT l ≤ l.length := List.length_filter_le _ _
theorem textS_len (l : List Chg) : (textS l).1.length ≤ 2 * l.length ∧ (textS l).2.1.length ≤ l.length := by
  rw [textS_row, textS_args, argsR_len]
  exact ⟨rowR_len l none, manyT_le l⟩

/-! what is read is good -/
def goodC (x : Chg) : Prop := x.2.1 ≠ 43 ∧ x.2.1 ≠ 45 ∧ (tk x = false → x.2.2 = noArg)
theorem seqL_mem : ∀ (l : List UInt8) (on : Bool) (x : Letter), x ∈ seqL on l → x.1 ≠ 43 ∧ x.1 ≠ 45
  | [], on, x, h => by simp [seqL] at h
  | c :: r, on, x, h => by
    unfold seqL at h
    split at h
    · exact seqL_mem r _ x h
    · split at h
      · exact seqL_mem r _ x h
      · rcases List.mem_cons.1 h with rfl | h
        · exact ⟨‹_›, ‹_›⟩
        · exact seqL_mem r _ x h
theorem manyT_snoc (l : List Chg) (x : Chg) : manyT (l ++ [x]) = manyT l + if tk x = true then 1 else 0 := by
  unfold manyT
  rw [List.filter_append, List.length_append]
  cases h : tk x <;> simp [List.filter_cons, h]
def okP (st : PSt) : Prop := (∀ x ∈ st.1, goodC x) ∧ manyT st.1 = st.2.2 ∧ st.2.2 ≤ 4
theorem okP_step (ps : List ByteArray) (st : PSt) (x : Letter) (h1 : x.1 ≠ 43) (h2 : x.1 ≠ 45) (h : okP st) : okP (stepP ps st x) := by
  obtain ⟨out, a, n⟩ := st
  obtain ⟨c, on⟩ := x
  obtain ⟨hg, hm, hn⟩ := h
  simp only at hg hm hn h1 h2
  have snoc : ∀ y : Chg, goodC y → ∀ z ∈ out ++ [y], goodC z := fun y hy z hz => by
    rcases List.mem_append.1 hz with hz | hz
    · exact hg z hz
    · rw [List.mem_singleton.1 hz]; exact hy
  cases ht : takesB c on with
  | false =>
    rw [stepP_no ht]
    have hk : ∀ b, tk (on, c, b) = false := fun b => ht
    exact ⟨snoc _ ⟨h1, h2, fun _ => rfl⟩, by show manyT (out ++ [_]) = n; rw [manyT_snoc, hk]; simpa using hm, hn⟩
  | true =>
    have hk : ∀ b, tk (on, c, b) = true := fun b => ht
    have good : ∀ b, goodC (on, c, b) := fun b => ⟨h1, h2, fun h => by rw [hk] at h; cases h⟩
    have many : ∀ b, manyT (out ++ [(on, c, b)]) = n + 1 := fun b => by rw [manyT_snoc, hk, hm]; rfl
    by_cases h4 : n = 4
    · subst h4; rw [stepP_full ht]; exact ⟨hg, hm, hn⟩
    · by_cases ha : a < ps.length
      · rw [stepP_arg ht h4 ha]; exact ⟨snoc _ (good _), many _, by show n + 1 ≤ 4; omega⟩
      · by_cases hc : c = 98
        · subst hc; rw [stepP_list ht h4 ha]; exact ⟨snoc _ (good _), many _, by show n + 1 ≤ 4; omega⟩
        · rw [stepP_drop ht h4 ha hc]; exact ⟨hg, hm, hn⟩
theorem okP_fold (ps : List ByteArray) : ∀ (l : List Letter) (st : PSt), (∀ x ∈ l, x.1 ≠ 43 ∧ x.1 ≠ 45) → okP st → okP (l.foldl (stepP ps) st)
  | [], st, _, h => h
  | x :: l, st, hl, h => okP_fold ps l _ (fun y hy => hl y (List.mem_cons_of_mem _ hy)) (okP_step ps st x (hl x List.mem_cons_self).1 (hl x List.mem_cons_self).2 h)
theorem parse_good (ps : List ByteArray) : (∀ x ∈ parseM ps, goodC x) ∧ manyT (parseM ps) ≤ 4 := by
  unfold parseM
  split
  · have h := okP_fold ps _ ([], 1, 0) (seqL_mem ps[0].data.toList true) ⟨by simp, rfl, by decide⟩
    exact ⟨h.1, by rw [h.2.1]; exact h.2.2⟩
  · exact ⟨by simp, by decide⟩

/-! what is good comes back -/
theorem seqL_row : ∀ (l : List Chg) (p : Option Bool) (on : Bool), (p = none ∨ p = some on) → (∀ x ∈ l, goodC x) → seqL on (rowR p l) = l.map fun x => (x.2.1, x.1)
  | [], p, on, _, _ => by simp [rowR, seqL]
  | x :: r, p, on, hp, hg => by
    have hx := hg x List.mem_cons_self
    have ih := fun o => seqL_row r (some x.1) o
    have rest := ih x.1 (.inr rfl) fun y hy => hg y (List.mem_cons_of_mem _ hy)
    unfold rowR
    by_cases h : p = some x.1
    · rw [if_pos h]
      have ho : on = x.1 := by
        rcases hp with hp | hp
        · rw [hp] at h; cases h
        · rw [hp] at h; injection h
      subst ho
      show seqL x.1 (x.2.1 :: rowR (some x.1) r) = _
      unfold seqL
      rw [if_neg hx.1, if_neg hx.2.1, rest]
      rfl
    · rw [if_neg h]
      have hs : seqL on (sgn x.1 :: x.2.1 :: rowR (some x.1) r) = seqL x.1 (x.2.1 :: rowR (some x.1) r) := by
        obtain ⟨o, c, b⟩ := x
        cases o
        · rfl
        · rfl
      show seqL on (sgn x.1 :: x.2.1 :: rowR (some x.1) r) = _
      rw [hs]
      show seqL x.1 (x.2.1 :: rowR (some x.1) r) = _
      conv => lhs; unfold seqL
      rw [if_neg hx.1, if_neg hx.2.1, rest]
      rfl
theorem manyT_app (a b : List Chg) : manyT (a ++ b) = manyT a + manyT b := by simp [manyT]
theorem back_fold (row : ByteArray) (l : List Chg) (hg : ∀ x ∈ l, goodC x) (h4 : manyT l ≤ 4) : ∀ (suf pre : List Chg), l = pre ++ suf →
    (suf.map fun x => (x.2.1, x.1)).foldl (stepP (row :: argsR l)) (pre, 1 + manyT pre, manyT pre) = (l, 1 + manyT l, manyT l)
  | [], pre, h => by
    have : l = pre := by simpa using h
    subst this; rfl
  | x :: suf, pre, h => by
    have hl : l = (pre ++ [x]) ++ suf := by rw [h]; simp
    have ih := back_fold row l hg h4 suf (pre ++ [x]) hl
    have hx := hg x (by rw [h]; simp)
    have hm := manyT_snoc pre x
    have hml : manyT l = manyT (pre ++ [x]) + manyT suf := by rw [← manyT_app, ← hl]
    rw [List.map_cons, List.foldl_cons]
    have step : stepP (row :: argsR l) (pre, 1 + manyT pre, manyT pre) (x.2.1, x.1) = (pre ++ [x], 1 + manyT (pre ++ [x]), manyT (pre ++ [x])) := by
      cases ht : tk x with
      | false =>
        have ht' : takesB x.2.1 x.1 = false := ht
        rw [stepP_no ht', hm, ht]
        have : x = (x.1, x.2.1, noArg) := by rw [← hx.2.2 ht]
        rw [← this]; rfl
      | true =>
        have ht' : takesB x.2.1 x.1 = true := ht
        rw [ht] at hm
        simp only [if_true] at hm
        have ha : 1 + manyT pre < (row :: argsR l).length := by rw [List.length_cons, argsR_len]; omega
        have hget : (row :: argsR l)[1 + manyT pre]'ha = x.2.2 := by
          have e1 : argsR l = argsR pre ++ x.2.2 :: argsR suf := by
            rw [h]; unfold argsR; simp [List.filter_append, List.filter_cons, ht]
          have e2 : (row :: argsR l)[1 + manyT pre]? = some x.2.2 := by
            rw [show 1 + manyT pre = manyT pre + 1 by omega, List.getElem?_cons_succ, e1, List.getElem?_append_right (by rw [argsR_len]; exact Nat.le_refl _), argsR_len, Nat.sub_self]
            rfl
          rw [List.getElem?_eq_getElem ha] at e2
          exact Option.some.inj e2
        rw [stepP_arg ht' (by omega) ha, hget, hm, show 1 + manyT pre + 1 = 1 + (manyT pre + 1) by omega]
    rw [step]
    exact ih
theorem back (l : List Chg) (hg : ∀ x ∈ l, goodC x) (h4 : manyT l ≤ 4) : parseM (textM l) = l := by
  by_cases h : l = []
  · subst h; rfl
  · have e : textM l = bs (rowR none l) :: argsR l := by unfold textM; rw [if_neg h, textS_row, textS_args]
    rw [e]
    unfold parseM
    rw [dif_pos (by simp)]
    have := back_fold (bs (rowR none l)) l hg h4 l [] (by simp)
    simp only [List.getElem_cons_zero, bs_toList]
    rw [seqL_row l none true (.inl rfl) hg]
    have h0 : ([], 1, 0) = (([] : List Chg), 1 + manyT [], manyT []) := rfl
    rw [h0, this]
theorem back_parse (ps : List ByteArray) : parseM (textM (parseM ps)) = parseM ps := back _ (parse_good ps).1 (parse_good ps).2
end Go.Proofs.YtadojlmjapmbhaaDoor
end
section
/- Layer 18: rows of changes and of texts, nil let in; Parse, Same, Texts of such rows; great. -/
namespace Go.Proofs.YtadojlmjapmbhaaDoor
set_option linter.unusedVariables false
set_option linter.unusedSimpArgs false
open Go.RowKit Go.Shelf

/-- changes lie at an address, if there are any -/
def RowC (W : World) (A : Option Addr) (l : List Chg) : Prop :=
  0 < l.length → ∃ g o, A = some ⟨g, o, none⟩ ∧ ∀ i (h : i < l.length), W.cell? ⟨g, o + i * 3, none⟩ = some (.bool l[i].1) ∧ W.cell? ⟨g, o + i * 3 + 1, none⟩ = some (.int .u8 l[i].2.1.toNat) ∧ W.cell? ⟨g, o + i * 3 + 2, none⟩ = some (.string l[i].2.2)
/-- texts lie at an address, if there are any -/
def RowT (W : World) (A : Option Addr) (l : List ByteArray) : Prop :=
  0 < l.length → ∃ g o, A = some ⟨g, o, none⟩ ∧ ∀ i (h : i < l.length), W.cell? ⟨g, o + i, none⟩ = some (.string l[i])
theorem lt_of_cell {W : World} {g o : Nat} {v : Value} (h : W.cell? ⟨g, o, none⟩ = some v) : g < W.heap.size := by
  unfold World.cell? at h
  cases hb : W.heap[g]? with
  | none => simp [hb] at h
  | some x => exact (Array.getElem?_eq_some_iff.1 hb).1
theorem RowC.kept {W W' : World} {A : Option Addr} {l : List Chg} (h : RowC W A l) (hb : Below W.heap.size W W') : RowC W' A l := fun hl => by
  obtain ⟨g, o, rfl, hc⟩ := h hl
  have hg := lt_of_cell (hc 0 hl).1
  exact ⟨g, o, rfl, fun i hi => by
    rw [hb.cell (p := ⟨g, _, none⟩) hg, hb.cell (p := ⟨g, _, none⟩) hg, hb.cell (p := ⟨g, _, none⟩) hg]
    exact hc i hi⟩
theorem RowT.kept {W W' : World} {A : Option Addr} {l : List ByteArray} (h : RowT W A l) (hb : Below W.heap.size W W') : RowT W' A l := fun hl => by
  obtain ⟨g, o, rfl, hc⟩ := h hl
  have hg := lt_of_cell (hc 0 hl)
  exact ⟨g, o, rfl, fun i hi => by rw [hb.cell (p := ⟨g, _, none⟩) hg]; exact hc i hi⟩
theorem chL_len (l : List Chg) : (chL l).length = l.length * 3 := by
  induction l with
  | nil => rfl
  | cons x r ih =>
    have : chL (x :: r) = [.bool x.1, .int .u8 x.2.1.toNat, .string x.2.2] ++ chL r := by simp [chL]
    rw [this, List.length_append, ih]; simp; omega
theorem chL_get (l : List Chg) : ∀ i (h : i < l.length), (chL l)[i * 3]? = some (.bool l[i].1) ∧ (chL l)[i * 3 + 1]? = some (.int .u8 l[i].2.1.toNat) ∧ (chL l)[i * 3 + 2]? = some (.string l[i].2.2) := by
  induction l with
  | nil => intro i h; simp at h
  | cons x r ih =>
    intro i h
    have e : chL (x :: r) = .bool x.1 :: .int .u8 x.2.1.toNat :: .string x.2.2 :: chL r := by simp [chL]
    cases i with
    | zero => rw [e]; exact ⟨rfl, rfl, rfl⟩
    | succ k =>
      have := ih k (by simpa using h)
      rw [e, show (k + 1) * 3 = k * 3 + 3 by omega]
      exact this

theorem RowT.owned {W : World} {base : Nat} {v : Value} {l : List ByteArray} (h : W.ownsRow base 9 1 v l.length (l.map .string)) : ∃ A c, v = .slice A l.length c ∧ l.length ≤ c ∧ RowT W A l := by
  have h0 := h
  rcases h.2 with ⟨rfl, hn⟩ | ⟨g, cap, cur, rfl, _, _, hc, _⟩
  · exact ⟨none, 0, by rw [hn], by omega, fun hl => by omega⟩
  · refine ⟨_, cap, rfl, hc, fun hl => ⟨g, 0, rfl, fun i hi => ?_⟩⟩
    rw [Nat.zero_add, h0.cellAt _ (by omega)]
    simp [hi]



def ParsedTo (w : World) (ps : List ByteArray) (e : Ending) (w' : World) : Prop := ∃ A c, e = .returned (.slice A (parseM ps).length c) ∧ (parseM ps).length ≤ c ∧ RowC w' A (parseM ps) ∧ Below w.heap.size w w'



/-! Same, Texts -/




set_option maxHeartbeats 4000000 in
theorem texts_any (A B : Option Addr) (a b : List ByteArray) (c1 c2 : Nat) (w : World) (ha1 : a.length ≤ 100000) (h1 : RowT w A a) (h2 : RowT w B b) :
    Calls Tryd.prog 15 #[.slice A a.length c1, .slice B b.length c2] w fun e w' => e = .returned (.bool (decide (a = b))) ∧ ∃ n, w' = w.drewN n := by
  by_cases hl : a.length = b.length
  · have H1 := Lib.hid h1
    have H2 := Lib.hid h2
    have HL := Lib.hid hl
    have hne : ((a.length : Int) != (b.length : Int)) = false := by rw [hl]; simp
    clear h1 h2 hl
    go_enter Tryd.func15, Tryd.ntmps15
    go_wp2_with fail
    go_loopw [5] (fun i wr => ∃ k : Nat, i = .int .i64 k ∧ k ≤ a.length ∧ Hid (a.take k = b.take k ∧ ∃ n, wr = w.drewN n)) (fun i _ => a.length - (Go.RowKit.intOf i).toNat)
    case atStart => exact ⟨0, rfl, Nat.zero_le _, rfl, 0, rfl⟩
    case round =>
      obtain ⟨k, rfl, hk, HQ⟩ := hrel
      by_cases hlt : k < a.length
      · have hlt2 : k < b.length := by have := HL.out; omega
        obtain ⟨g1, o1, rfl, k1⟩ := H1.out (by omega)
        obtain ⟨g2, o2, rfl, k2⟩ := H2.out (by omega)
        have ca : wr.cell? ⟨g1, o1 + k, none⟩ = some (.string a[k]) := by obtain ⟨_, n, hn⟩ := HQ.out; rw [hn]; exact k1 k hlt
        have cb : wr.cell? ⟨g2, o2 + k, none⟩ = some (.string b[k]) := by obtain ⟨_, n, hn⟩ := HQ.out; rw [hn]; exact k2 k hlt2
        obtain ⟨eb, heb⟩ : ∃ x, (a[k].toList == b[k].toList) = x := ⟨_, rfl⟩
        have hnq : (a[k].toList != b[k].toList) = !eb := by rw [← heb]; rfl
        have hnq2 : (!(a[k].toList == b[k].toList)) = !eb := by rw [heb]
        have HE := Lib.hid heb
        clear heb k1 k2
        have p1 : (k : Int) < (a.length : Int) := by omega
        have p2 : (k : Int) < (b.length : Int) := by omega
        cases eb with
        | false =>
          go_wp2_with fail
          go_quiet (fail)
          all_goals go_wp2_with fail
          have hd : decide (a = b) = false := by
            rw [decide_eq_false_iff_not]
            intro e
            have := HE.out
            simp only [e] at this
            simp at this
          obtain ⟨_, n, hn⟩ := HQ.out
          rw [hd]
          subst hn
          go_ret
          exact ⟨rfl, _, by rw [World.drewN_drewN]⟩
        | true =>
          go_wp2_with fail
          go_quiet (fail)
          all_goals go_wp2_with fail
          have h3 : a[k] = b[k] := by
            have := HE.out
            rw [beq_iff_eq, ByteArray.toList_eq, ByteArray.toList_eq] at this
            exact ba_ext this
          have h4 : a.take (k + 1) = b.take (k + 1) := by
            rw [List.take_succ_eq_append_getElem hlt, List.take_succ_eq_append_getElem hlt2, HQ.out.1, h3]
          obtain ⟨_, n, hn⟩ := HQ.out
          exact ⟨⟨k + 1, by go_num, by omega, h4, n + nq, by subst hn; rw [World.drewN_drewN]⟩, by simp [Go.RowKit.intOf]; omega⟩
      · obtain rfl : k = a.length := by omega
        have hab : a = b := by
          have := HQ.out.1
          rw [List.take_of_length_le (Nat.le_refl _), List.take_of_length_le (by have := HL.out; omega)] at this
          exact this
        have hd : decide (a = b) = true := by simp [hab]
        obtain ⟨_, n, hn⟩ := HQ.out
        have p1 : ¬ ((a.length : Int) < (a.length : Int)) := by omega
        subst hn
        have HD := Lib.hid hd
        clear hd hab
        go_wp2_with fail
        go_ret
        exact ⟨ret_bool HD.out.symm, _, rfl⟩
  · have hd : decide (a = b) = false := by rw [decide_eq_false_iff_not]; intro e; exact hl (by rw [e])
    have hne : ((a.length : Int) != (b.length : Int)) = true := by rw [bne_iff_ne]; omega
    rw [hd]
    clear hd hl h1 h2
    go_enter Tryd.func15, Tryd.ntmps15
    go_wp2_with fail
    go_ret
    exact ⟨rfl, 0, rfl⟩

/-- more than is looked at? -/
def greatB (l : List ByteArray) : Bool := decide (20 < l.length) || l.any fun s => decide (60 < s.size)
theorem greatB_no {l : List ByteArray} (h : greatB l = false) : l.length ≤ 20 ∧ ∀ s ∈ l, s.size ≤ 60 := by
  unfold greatB at h
  rw [Bool.or_eq_false_iff] at h
  refine ⟨by simpa using h.1, fun s hs => ?_⟩
  have := List.any_eq_false.1 h.2 s hs
  simpa using this
end Go.Proofs.YtadojlmjapmbhaaDoor
end
section
/- The answers' Texts of two rows that read as one. -/
namespace Go.Proofs.YtadojlmjapmbhaaDoor
set_option linter.unusedVariables false
set_option linter.unusedSimpArgs false
open Go Go.RowKit Go.Lib Go.Shelf

theorem texts_is {W : World} {A B : Option Addr} {xs : List (List UInt8)} (c1 c2 : Nat) (hl : xs.length ≤ 100000) (h1 : ReadsT W A xs) (h2 : ReadsT W B xs) :
    Calls Tryd.prog 15 #[.slice A xs.length c1, .slice B xs.length c2] W fun e w' => e = .returned (.bool true) ∧ ∃ n, w' = W.drewN n := by
  have hR : ∀ {A : Option Addr}, ReadsT W A xs → RowT W A (xs.map bs) := fun {A} h h0 => by
    rw [List.length_map] at h0
    obtain ⟨g, o, e, _, hc⟩ := h h0
    refine ⟨g, o, e, fun i hi => ?_⟩
    rw [List.getElem_map]
    exact hc i (by rw [List.length_map] at hi; exact hi)
  have := texts_any A B (xs.map bs) (xs.map bs) c1 c2 W (by rw [List.length_map]; exact hl) (hR h1) (hR h2)
  rw [List.length_map, decide_eq_true rfl] at this
  exact this
/-- what a frame leaves reads as it read -/
theorem readsT_fr {W W' : World} {A : Option Addr} {xs : List (List UInt8)} {X : Nat → Prop} (h : ReadsT W A xs) (hf : Fr X W W') (hX : ∀ g o, A = some ⟨g, o, none⟩ → ¬ X g) : ReadsT W' A xs := fun h0 => by
  obtain ⟨g, o, e, hg, hc⟩ := h h0
  exact ⟨g, o, e, Nat.lt_of_lt_of_le hg hf.size, fun j hj => (hf.cell (p := ⟨g, o + j, none⟩) hg (hX g o e)).trans (hc j hj)⟩
end Go.Proofs.YtadojlmjapmbhaaDoor
end
section
/- A box with a row of texts of the call's own. -/
namespace Go.Proofs.YtadojlmjapmbhaaDoor
open Go Go.RowKit

/-- box S holds the row; its blocks are X -/
def BoxB (S base : Nat) (xs : List (List UInt8)) (X : Nat → Prop) (W : World) : Prop := ∃ v, W.heap[S]? = some (.cells #[v] 34 (0, 0)) ∧ OwnT base W v xs ∧ S < base ∧ ∀ k, X k ↔ (k = S ∨ v.ownBlock = some k)
theorem boxB_stays (S base : Nat) (xs : List (List UInt8)) : ∀ X V V', BoxB S base xs X V → (∀ k, X k → k < V.heap.size) → Fr (fun k => ¬ X k) V V' → BoxB S base xs X V' := fun X V V' ⟨v, h1, h2, h3, h4⟩ hl hf =>
  ⟨v, hf.blk h1 (fun e => e ((h4 S).2 (.inl rfl))), ownT_kept h2 fun g hg => hf.block g (h2.lt g hg).2 fun e => e ((h4 g).2 (.inr hg)), h3, h4⟩
/-- a text is put behind the row: what the round leaves -/
theorem boxB_put {S base l : Nat} {rb : Loop} {xs : List (List UInt8)} {x : List UInt8} {X1 : Nat → Prop} {V Vb W2 : World} {vb v1 : Value} (hG : ∀ k, X1 k → k < V.heap.size) (hX1 : ∀ k, X1 k ↔ (k = S ∨ vb.ownBlock = some k)) (hxl : ¬ X1 l) (hfb : Fr (fun k => k = l) V Vb) (hrb : Vb.heap[l]? = some (.loop rb)) (k3b : Vb.heap[S]? = some (.cells #[vb] 34 (0, 0))) (o3b : OwnT base Vb vb xs) (hzs : V.heap.size ≤ Vb.heap.size) (hSl : S < base)
    (hown1 : W2.ownsRow base 9 1 v1 (xs.length + 1) (xs.map encT ++ [encT x])) (hfr1 : Fr (fun k => vb.ownBlock = some k) Vb W2) (htie : ∀ k, v1.ownBlock = some k → vb.ownBlock = some k ∨ Vb.heap.size ≤ k) :
    ∃ X2, GrowX X1 X2 V (W2.setCell ⟨S, 0, none⟩ v1) ∧ Fr (fun k => k = l ∨ X1 k) V (W2.setCell ⟨S, 0, none⟩ v1) ∧ (W2.setCell ⟨S, 0, none⟩ v1).heap[l]? = some (.loop rb) ∧ BoxB S base (xs ++ [x]) X2 (W2.setCell ⟨S, 0, none⟩ v1) := by
  have hn3 : ∀ k, vb.ownBlock = some k → k ≠ S := fun k hk e => by have := (o3b.lt k hk).1; omega
  have e1 : W2.heap[S]? = some (.cells #[vb] 34 (0, 0)) := hfr1.blk k3b fun e => hn3 _ e rfl
  have hown2 : OwnT base W2 v1 (xs ++ [x]) := ownT_snoc hown1
  have hnx : v1.ownBlock ≠ some S := fun e => by have := (hown2.lt _ e).1; omega
  have hlS : l ≠ S := fun e => hxl ((hX1 l).2 (.inl e))
  have hl3 : ¬ vb.ownBlock = some l := fun e => hxl ((hX1 l).2 (.inr e))
  have hsz : (W2.setCell ⟨S, 0, none⟩ v1).heap.size = W2.heap.size := by simp
  refine ⟨fun k => k = S ∨ v1.ownBlock = some k, fun k hk => ?_, (((hfb.mono (Y := fun k => k = l ∨ X1 k) fun k _ e => .inl e).trans3 hfr1 fun k _ e => .inr ((hX1 k).2 (.inr e)))).setCell _ (.inr ((hX1 _).2 (.inl rfl))) _, blk_other (hfr1.blk hrb hl3) _ (by simpa using hlS) _, v1, blk_set e1 0 _, ?_, hSl, fun k => Iff.rfl⟩
  · rw [hsz]
    rcases hk with rfl | hk
    · exact ⟨blk_lt e1, fun _ => (hX1 _).2 (.inl rfl)⟩
    · refine ⟨(hown2.lt k hk).2, fun hlt => ?_⟩
      rcases htie k hk with e | e
      · exact (hX1 k).2 (.inr e)
      · omega
  · exact ownT_kept hown2 fun g hg => heap_setCell_other W2 _ g _ fun e => by simp at e; exact hnx (e ▸ hg)
/-- nothing is put -/
theorem boxB_skip {S base l : Nat} {rb : Loop} {xs : List (List UInt8)} {X1 : Nat → Prop} {V Vb : World} {vb : Value} (hG : ∀ k, X1 k → k < V.heap.size) (hX1 : ∀ k, X1 k ↔ (k = S ∨ vb.ownBlock = some k)) (hfb : Fr (fun k => k = l) V Vb) (hrb : Vb.heap[l]? = some (.loop rb)) (k3b : Vb.heap[S]? = some (.cells #[vb] 34 (0, 0))) (o3b : OwnT base Vb vb xs) (hSl : S < base) :
    ∃ X2, GrowX X1 X2 V Vb ∧ Fr (fun k => k = l ∨ X1 k) V Vb ∧ Vb.heap[l]? = some (.loop rb) ∧ BoxB S base xs X2 Vb :=
  ⟨X1, fun k hk => ⟨Nat.lt_of_lt_of_le (hG k hk) hfb.size, fun _ => hk⟩, hfb.mono (Y := fun k => k = l ∨ X1 k) fun k _ e => .inl e, hrb, vb, k3b, o3b, hSl, hX1⟩
end Go.Proofs.YtadojlmjapmbhaaDoor
end
section
/- Layer 15: the answers' Check; both under one answer; Usual; ConfigChecks, ConfigBounds, walked. -/
namespace Go.Proofs.YtadojlmjapmbhaaDoor
set_option linter.unusedVariables false
set_option linter.unusedSimpArgs false
open Go.RowKit

/-- what any configuration is told of -/
noncomputable def chkA (nm ps on op : ByteArray) (n0 n1 n2 n3 n4 n5 n6 n7 n8 n9 n10 : Int) : Int := if (dec (ServP nm) && dec (PassP ps) && dec (PassP on) && dec (PassP op) && (on.toList.isEmpty == op.toList.isEmpty)) = true then chkN n0 n1 n2 n3 n4 n5 n6 n7 n8 n9 n10 else 4
theorem check_v (nm ps on op : ByteArray) (n0 n1 n2 n3 n4 n5 n6 n7 n8 n9 n10 : Int) (w : World) (hr : Rowed w) (h1 : nm.size ≤ 1000000) (h2 : ps.size ≤ 1000000) (h3 : on.size ≤ 1000000) (h4 : op.size ≤ 1000000) :
    Calls Tryd.prog 24 #[cfg nm ps on op n0 n1 n2 n3 n4 n5 n6 n7 n8 n9 n10] w fun e w' => e = .returned (.int .i64 (chkA nm ps on op n0 n1 n2 n3 n4 n5 n6 n7 n8 n9 n10)) ∧ Below w.heap.size w w' := by
  by_cases h : (dec (ServP nm) && dec (PassP ps) && dec (PassP on) && dec (PassP op) && (on.toList.isEmpty == op.toList.isEmpty)) = true
  · rw [show chkA nm ps on op n0 n1 n2 n3 n4 n5 n6 n7 n8 n9 n10 = chkN n0 n1 n2 n3 n4 n5 n6 n7 n8 n9 n10 from if_pos h]
    simp only [Bool.and_eq_true] at h
    exact check_nums nm ps on op n0 n1 n2 n3 n4 n5 n6 n7 n8 n9 n10 w hr h1 h2 h3 h4 h.1.1.1.1 h.1.1.1.2 h.1.1.2 h.1.2 h.2
  · rw [show chkA nm ps on op n0 n1 n2 n3 n4 n5 n6 n7 n8 n9 n10 = 4 from if_neg h]
    exact check_texts nm ps on op n0 n1 n2 n3 n4 n5 n6 n7 n8 n9 n10 w hr h1 h2 h3 h4 (by simpa using h)

end Go.Proofs.YtadojlmjapmbhaaDoor
end
section
/- Layer 15: Usual; awake; ConfigChecks, ConfigBounds, walked. -/
namespace Go.Proofs.YtadojlmjapmbhaaDoor
set_option linter.unusedVariables false
set_option linter.unusedSimpArgs false
open Go.RowKit

/-- irc.example -/
def ircB : ByteArray := ⟨#[105, 114, 99, 46, 101, 120, 97, 109, 112, 108, 101]⟩
theorem serv_irc : ServP ircB := by
  refine ⟨⟨by decide, fun i hi => ?_⟩, ⟨by decide, by decide⟩, by decide, by decide⟩
  have hi' : i < 11 := hi
  rcases (by omega : i = 0 ∨ i = 1 ∨ i = 2 ∨ i = 3 ∨ i = 4 ∨ i = 5 ∨ i = 6 ∨ i = 7 ∨ i = 8 ∨ i = 9 ∨ i = 10) with rfl | rfl | rfl | rfl | rfl | rfl | rfl | rfl | rfl | rfl | rfl <;> rfl
theorem pass_em : PassP ⟨#[]⟩ := ⟨fun i h => absurd h (Nat.not_lt_zero _), by decide, fun h => absurd h (Nat.not_lt_zero _)⟩
theorem chk_usual (n0 n1 n2 n3 n4 n5 n6 n7 n8 n9 n10 : Int) : chkA ircB ⟨#[]⟩ ⟨#[]⟩ ⟨#[]⟩ n0 n1 n2 n3 n4 n5 n6 n7 n8 n9 n10 = chkN n0 n1 n2 n3 n4 n5 n6 n7 n8 n9 n10 := by
  unfold chkA
  rw [dec_iff.2 serv_irc, dec_iff.2 pass_em]
  simp
theorem bcell {W w1 : World} (hb : Below W.heap.size W w1) : (∀ b o, b < W.heap.size → w1.cell? ⟨b, o, none⟩ = W.cell? ⟨b, o, none⟩) ∧ (∀ b o, b < W.heap.size → w1.frozen? ⟨b, o, none⟩ = W.frozen? ⟨b, o, none⟩) :=
  ⟨fun b o h => hb.cell (p := ⟨b, o, none⟩) h, fun b o h => hb.frozen (p := ⟨b, o, none⟩) h⟩
theorem usual_any (w : World) : Calls Tryd.prog 23 #[] w fun e w' => e = .returned (cfg ircB ⟨#[]⟩ ⟨#[]⟩ ⟨#[]⟩ 100 8192 10 100 20 30 30 50 60 30 20) ∧ Below w.heap.size w w' := by
  unfold cfg ircB
  go_enter Tryd.func23, Tryd.ntmps23
  go_wp2_with fail
  refine bodyPost_ret (v := .agg #[.string ⟨#[105, 114, 99, 46, 101, 120, 97, 109, 112, 108, 101]⟩, .string ⟨#[]⟩, .string ⟨#[]⟩, .string ⟨#[]⟩, .int .i64 100, .int .i64 8192, .int .i64 10, .int .i64 100, .int .i64 20, .int .i64 30, .int .i64 30, .int .i64 50, .int .i64 60, .int .i64 30, .int .i64 20]) (by simp [results, Tryd.results23, go_sem]) rfl ?_
  exact ⟨rfl, (Below.refl _ _).alloc (Nat.le_refl _) _⟩

set_option maxRecDepth 100000 in
set_option maxHeartbeats 4000000 in
theorem awake15 (w : World) (hr : Rowed w) : Calls Tryd.prog 13 #[] w fun e w' => e = .returned (.bool true) ∧ Below w.heap.size w w' := by
  have hc : chkA ircB ⟨#[]⟩ ⟨#[]⟩ ⟨#[]⟩ 100 8192 10 100 20 30 30 50 60 30 20 = 0 := by rw [chk_usual]; decide
  have HC := Lib.hid hc
  have hq := Nat.le_refl w.heap.size
  have q := Below.refl w.heap.size w
  clear hc
  go_enter Tryd.func13, Tryd.ntmps13
  go_wp2_with fail
  refine (usual_any _).mono ?_
  rintro e w1 ⟨rfl, q1⟩
  unfold cfg ircB
  go_wp2_with fail
  have hr1 := rowed_below hr hq q1
  have hr2 := rowed_below hr1 (Nat.le_refl _) ((Below.refl _ _).alloc (Nat.le_refl _) (.cells #[.string ⟨#[105, 114, 99, 46, 101, 120, 97, 109, 112, 108, 101]⟩, .string ⟨#[]⟩, .string ⟨#[]⟩, .string ⟨#[]⟩, .int .i64 100, .int .i64 8192, .int .i64 10, .int .i64 100, .int .i64 20, .int .i64 30, .int .i64 30, .int .i64 50, .int .i64 60, .int .i64 30, .int .i64 20] 33))
  refine (check_v ircB ⟨#[]⟩ ⟨#[]⟩ ⟨#[]⟩ 100 8192 10 100 20 30 30 50 60 30 20 _ hr2 (by decide) (by decide) (by decide) (by decide)).mono ?_
  rintro e w2 ⟨rfl, q2⟩
  rw [HC.out]
  obtain ⟨hcc, hff⟩ := bcell q2
  clear hr1 hr2
  go_wp2_with fail
  go_ret
  refine ⟨ret_bool (str_em (by decide)), ?_⟩
  have q3 := q1.alloc q1.size (.cells #[.string ⟨#[105, 114, 99, 46, 101, 120, 97, 109, 112, 108, 101]⟩, .string ⟨#[]⟩, .string ⟨#[]⟩, .string ⟨#[]⟩, .int .i64 100, .int .i64 8192, .int .i64 10, .int .i64 100, .int .i64 20, .int .i64 30, .int .i64 30, .int .i64 50, .int .i64 60, .int .i64 30, .int .i64 20] 33)
  exact q3.trans (q2.mono (by have := q1.size; simp; omega))
end Go.Proofs.YtadojlmjapmbhaaDoor
end
section
/- A range over a function that tells a row xs, one by one: the body is told that what comes is the next of the row. Blocks Y: what the function that ranges reads and the body leaves alone; blocks X among them: what it writes between the rounds. -/
namespace Go.Proofs.YtadojlmjapmbhaaDoor
open Go Go.RowKit

/-- a region that does not panic, where what is owed at a panic hangs on the frame -/
theorem wpIn_noPanic {F : Fence} {n : Nat} {P : Program} {Q : Exit → Act → World → Prop} {a : Act} {w : World} {id : Nat} {ops : Array Oper} {b : Bool} (h : (Code.region id ops b).wpIn F n P (NoPanic Q) a w) : (Code.region id ops b).wpIn F n P Q a w :=
  wpIn_mono h fun e _ _ hq => by
    cases e with
    | panic ch => exact hq.elim
    | _ => exact hq
/-- what a function that ranges is worth, if it tells the row xs -/
def SeqT {α : Type} (F : Fence) (n : Nat) (P : Program) (g : Nat) (lb : Array Value) (encs : α → Array Value) (X Y : Nat → Prop) (xs : List α) (w : World) : Prop :=
  ∀ (l : Nat) (J Jx : List α → World → Prop) (V : World), Below w.heap.size w V → AbX X V.heap.size J → AbX X V.heap.size Jx →
    (∀ pre x r V1, pre ++ x :: r = xs → J pre V1 → YieldAt F (n - 1) P l (encs x) V1 fun e V' => (e = .returned (.bool true) ∧ J (pre ++ [x]) V' ∧ SameX Y V1 V') ∨ (e = .returned (.bool false) ∧ Jx (pre ++ [x]) V')) →
    J [] V → CallsIn F n P g (#[.func (.yield l) #[] #[]] ++ lb) V fun e V' => (∃ v, e = .returned v) ∧ (J xs V' ∨ ∃ pre r, pre ++ r = xs ∧ Jx pre V')
/-- how a round of the body ends -/
def EndT {α : Type} (B : Nat) (Y : Nat → Prop) (I : List α → World → Prop) (Ix : Code → List α → World → Prop) (xs : List α) (V : World) : Exit → Act → World → Prop
  | .normal, _, V' => KeepsFrom B V V' ∧ SameX Y V V' ∧ I xs V'
  | .ret, _, V' => KeepsFrom B V V' ∧ Ix .ret xs V'
  | .exit id, _, V' => KeepsFrom B V V' ∧ Ix (.exit id) xs V'
  | .goto t, _, V' => KeepsFrom B V V' ∧ Ix (.goto t) xs V'
  | .panic _, _, _ => False
  | .outgrown, _, _ => False

theorem wpIn_rangeT {F : Fence} {n : Nat} {P : Program} {w : World} {α : Type} {a : Act} {Q : Exit → Act → World → Prop} {g : Operand} {assign body : Code} {ps : Array Tmp} {gf : Nat} {lb : Array Value}
    {X Y : Nat → Prop} {encs : α → Array Value} {xs : List α} {w0 : World} (I : List α → World → Prop) (Ix : Code → List α → World → Prop)
    (hg : a.eval g = .func (.func gf) #[] lb) (hseq : SeqT F (n - 1) P gf lb encs X Y xs w0) (hb0 : Below w0.heap.size w0 w) (hX : ∀ b, X b → b < w.heap.size) (hY : ∀ b, Y b → b < w.heap.size) (hro : F.round = none) (h1 : 1 ≤ n) (hFg : F.fn gf)
    (eg : ∀ args v, (callFunc gf args).run P v = .ok (.enter gf args) v) (hps : ∀ x, (encs x).size = ps.size)
    (hI : OwnFrom w.heap.size I) (hIX : Lets X I) (hIx : ∀ c, OwnFrom w.heap.size (Ix c)) (hIxX : ∀ c, Lets X (Ix c)) (h0 : I [] w)
    (hround : ∀ l pre x r V0 V (K : Act → World → Prop), w.heap.size ≤ l → (∃ r, V.heap[l]? = some (.loop r)) → pre ++ x :: r = xs → I pre V → (∀ a1, body.wpIn (F.inRound l) (n - 1 - 1) P (EndT w.heap.size Y I Ix (pre ++ [x]) V) a1 V → K a1 V0) →
      assign.wpIn (F.inRound l) (n - 1 - 1) P (Exit.then K fun _ _ _ => False) { tmps := (ps.zip (encs x)).foldl (fun t (p, v) => t.setIfInBounds p v) a.tmps, defers := [] } V0)
    (hdone : ∀ D V, w.heap.size ≤ D → I xs V → V.heap[D]? = some (.deferred (some [])) → Q .normal { a with defers := { target := .collected D, args := #[] } :: a.defers } V)
    (hstop : ∀ D c pre r V, w.heap.size ≤ D → pre ++ r = xs → Ix c pre V → V.heap[D]? = some (.deferred (some [])) → c.wpIn F n P Q { a with defers := { target := .collected D, args := #[] } :: a.defers } V) :
    (Code.rangeFunc g ps assign body).wpIn F n P Q a w := by
  refine wpIn_rangeFunc fun fn hfn => ?_
  rw [hro]
  obtain ⟨R, hR⟩ : ∃ R : LoopState → Option Code → Loop, ∀ st pe, R st pe = { state := st, pending := pe, fn := fn, tmps := a.tmps, params := ps, assign := assign, body := body, defers := w.heap.size } := ⟨_, fun _ _ => rfl⟩
  obtain ⟨V1, hV1⟩ : ∃ V1, (w.alloc (.deferred (some []))).alloc (.loop (R .ready none)) = V1 := ⟨_, rfl⟩
  have hz : V1.heap.size = w.heap.size + 2 := by rw [← hV1]; simp
  have bk : Bk (w.heap.size + 1) w.heap.size (R .ready none) V1 := by
    subst hV1
    refine ⟨?_, (Below.heap_alloc _ _ _ (by simp)).trans (World.alloc_heap_new w _)⟩
    have h := World.alloc_heap_new (w.alloc (.deferred (some []))) (.loop (R .ready none))
    rwa [World.size_alloc] at h
  have i1 : I [] V1 := by subst hV1; exact hI.alloc _ (hI.alloc _ h0)
  have bel : Below w0.heap.size w0 V1 := by subst hV1; exact (hb0.alloc hb0.size _).alloc (by rw [World.size_alloc]; have := hb0.size; omega) _
  have hput : ∀ {s : List α} {V : World} {r : Loop} (r' : Loop), I s V → Bk (w.heap.size + 1) w.heap.size r V → I s (V.putObj (w.heap.size + 1) (.loop r')) := fun r' hi hb => hI.putObj _ hi (by omega) hb.1 rfl
  have hputx : ∀ {c : Code} {s : List α} {V : World} {r : Loop} (r' : Loop), Ix c s V → Bk (w.heap.size + 1) w.heap.size r V → Ix c s (V.putObj (w.heap.size + 1) (.loop r')) := fun {c} _ _ _ r' hi hb => (hIx c).putObj _ hi (by omega) hb.1 rfl
  have sput : ∀ (V : World) (r' : Loop), SameX Y V (V.putObj (w.heap.size + 1) (.loop r')) := fun V r' b hb => World.putObj_heap_other (by have := hY b hb; omega)
  have abook : ∀ {V V' : World} {row : Option Nat} {r : Loop}, Bk (w.heap.size + 1) w.heap.size r V → V.grownBy V' row → (∀ r, row = some r → X r ∨ (V1.heap.size ≤ r ∧ ∃ o : Obj, V.heap[r]? = some o ∧ o.isWalk = true)) → Bk (w.heap.size + 1) w.heap.size r V' := fun hb hgr hrow => by
    refine hb.grown hgr (fun e => ?_) (fun e => ?_)
    · rcases hrow _ e.symm with h | h
      · have := hX _ h; omega
      · omega
    · rcases hrow _ e.symm with h | h
      · have := hX _ h; omega
      · omega
  have own : ∀ {J : List α → World → Prop}, OwnFrom w.heap.size J → Lets X J → ∀ {s : List α} {V V' : World} {row : Option Nat}, J s V → V.grownBy V' row → (∀ r, row = some r → X r ∨ (V1.heap.size ≤ r ∧ ∃ o : Obj, V.heap[r]? = some o ∧ o.isWalk = true)) → J s V' := fun hJ hL s V V' row hj hgr hrow => by
    cases row with
    | none => exact hJ s V V' none hj hgr (fun _ e => by cases e)
    | some r =>
      rcases hrow r rfl with h | ⟨h, o, ho, hw⟩
      · exact hL s V V' r h hj hgr
      · exact hJ s V V' (some r) hj hgr (fun _ e => by cases e; exact ⟨by omega, o, ho, Obj.not_cells_of_walk hw⟩)
  refine ⟨w.heap.size + 1, [{ target := .collected w.heap.size, args := #[] }], V1, { target := .fn (.func gf) lb, args := #[.func (.yield (w.heap.size + 1)) #[] #[]] }, V1, gf, #[.func (.yield (w.heap.size + 1)) #[] #[]] ++ lb, V1, ?_, ?_, ?_, ?_, fun _ => h1, ?_⟩
  · rw [← hV1, hR]; exact run_enterLoop_outer _ _ _ _ _
  · simp only [resolve, hg]; simp [go_sem]
  · intro f' hf'; simp [Target.leads] at hf'; subst hf'; exact hFg
  · simp [invoke, go_sem, eg]
  refine (hseq (w.heap.size + 1) (fun pre V => I pre V ∧ Bk (w.heap.size + 1) w.heap.size (R .ready none) V) (fun pre V => ∃ c, Ix c pre V ∧ Bk (w.heap.size + 1) w.heap.size (R .done (some c)) V) V1 bel
    (fun s V V' row hj hgr hrow => ⟨own hI hIX hj.1 hgr hrow, abook hj.2 hgr hrow⟩)
    (fun s V V' row hj hgr hrow => hj.elim fun c hc => ⟨c, own (hIx c) (hIxX c) hc.1 hgr hrow, abook hc.2 hgr hrow⟩) ?round ⟨i1, bk⟩).mono ?behind
  case behind =>
    rintro e V2 ⟨⟨v, rfl⟩, (⟨hi, hb⟩ | ⟨pre, r, hSp, c, hi, hb⟩)⟩
    · have hend := run_endLoop (P := P) hb.1 (by rw [hR]; simp)
      rw [hR] at hend
      exact ⟨none, _, hend, hdone _ _ (Nat.le_refl _) (hput _ hi hb) (hb.put (by omega) _).2⟩
    · have hend := run_endLoop (P := P) hb.1 (by rw [hR]; simp)
      rw [hR] at hend
      exact ⟨some c, _, hend, hstop _ c pre r _ (Nat.le_refl _) hSp (hputx _ hi hb) (hb.put (by omega) _).2⟩
  case round =>
    rintro pre x r V hpx ⟨hi, hb⟩
    have hy := run_yield (P := P) (args := encs x) hb.1 (by rw [hR]; exact hps x)
    rw [hR] at hy
    have hb2 := hb.put (by omega) { R .ready none with state := .busy }
    refine ⟨fn, _, assign, body, hy, roundIn_of_wpIn hfn (hround (w.heap.size + 1) pre x r V _ _ (by omega) ⟨_, hb2.1⟩ hpx (hput _ hi hb) fun a1 hbody => ⟨_, run_beginRound hb.1 (by rw [hR]), ?_⟩)⟩
    refine wpIn_mono hbody ?_
    -- behind the body: the record is turned, whatever the way
    have turn : ∀ (j : Option Code) {V3 : World}, KeepsFrom w.heap.size (V.putObj (w.heap.size + 1) (.loop { R .ready none with state := .busy })) V3 →
        ∃ st, st = (if j.isNone then LoopState.ready else .done) ∧ (Instr.endRound (w.heap.size + 1) j).run P V3 = .ok (.bool j.isNone) (V3.putObj (w.heap.size + 1) (.loop (R st j))) ∧ Bk (w.heap.size + 1) w.heap.size { R .ready none with state := .busy } V3 ∧
          Bk (w.heap.size + 1) w.heap.size (R st j) (V3.putObj (w.heap.size + 1) (.loop (R st j))) := fun j V3 hk => by
      have hb3 := hb2.keeps hk (by omega) (Nat.le_refl _)
      have hend := run_endRound (P := P) j hb3.1
      refine ⟨_, rfl, ?_, hb3, hb3.put (by omega) _⟩
      rw [hend, hR, hR]
    rintro e a3 V3 hp
    cases e with
    | normal =>
      obtain ⟨hk, hs, hi3⟩ := hp
      obtain ⟨st, rfl, hr, hb3, hb4⟩ := turn none hk
      exact ⟨_, _, hr, .inl ⟨rfl, ⟨hput _ hi3 hb3, hb4⟩, ((sput V _).trans hs).trans (sput V3 _)⟩⟩
    | ret =>
      obtain ⟨st, rfl, hr, hb3, hb4⟩ := turn (some .ret) hp.1
      exact ⟨_, _, hr, .inr ⟨rfl, _, hputx _ hp.2 hb3, hb4⟩⟩
    | exit id =>
      obtain ⟨st, rfl, hr, hb3, hb4⟩ := turn (some (.exit id)) hp.1
      exact ⟨_, _, hr, .inr ⟨rfl, _, hputx _ hp.2 hb3, hb4⟩⟩
    | goto t =>
      obtain ⟨st, rfl, hr, hb3, hb4⟩ := turn (some (.goto t)) hp.1
      exact ⟨_, _, hr, .inr ⟨rfl, _, hputx _ hp.2 hb3, hb4⟩⟩
    | panic ch => exact hp.elim
    | outgrown => exact hp.elim
end Go.Proofs.YtadojlmjapmbhaaDoor
end
section
/- Layer 15: ConfigSupports. -/
namespace Go.Proofs.YtadojlmjapmbhaaDoor
set_option linter.unusedVariables false
set_option linter.unusedSimpArgs false
open Go Go.RowKit Go.Shelf Go.Lib
attribute [local go_sem] Oper.semAt_some

theorem Rowed.same {w w' : World} (h : Rowed w) (hs : w'.heap[(4 : Nat)]? = w.heap[(4 : Nat)]?) : Rowed w' := fun i hi => by
  obtain ⟨s, h1, h2⟩ := h i hi
  exact ⟨s, (World.cell?_of_block (w := w) (w' := w') (a := ⟨_, i, none⟩) hs).trans h1, h2⟩
theorem Rowed.lt {w : World} (h : Rowed w) : 4 < w.heap.size := by
  obtain ⟨s, h1, _⟩ := h 0 (by decide)
  unfold World.cell? at h1
  cases hb : w.heap[(4 : Nat)]? with
  | none => simp [hb] at h1
  | some o => exact (Array.getElem?_eq_some_iff.1 hb).1
def CellsC (c : Cf) (N : Nat) (W : World) : Prop := W.heap[N]? = some c.obj
set_option maxRecDepth 100000 in
set_option maxHeartbeats 16000000 in
theorem configSupports_walk (c : Cf) (hc : c.ok) (w : World) (hR : Rowed w) (hP : PowT w) :
    Calls Tryd.prog 4 #[c.val] w fun e w' => e = .returned (.bool true) ∧ RowKit.Below w.heap.size w w' := by
  obtain ⟨i0, hi, hz0, hz1, hz2⟩ := info_parts Tryd.infoT
  obtain ⟨N, hN⟩ : ∃ N, w.heap.size = N := ⟨_, rfl⟩
  obtain ⟨w0, hw0⟩ : ∃ w0, (w.alloc c.obj).alloc (.cells #[.bool false] 4) = w0 := ⟨_, rfl⟩
  have f0 : Fr (fun _ => False) w w0 := by rw [← hw0]; exact ((Fr.refl _ w).alloc _).alloc _
  have z0 : w0.heap.size = N + 2 := by rw [← hw0]; simp [hN]
  have a0 : w0.heap[N]? = some c.obj := by rw [← hw0, ← hN]; exact blk_alloc (heap_alloc_new w _) _
  have a1 : w0.heap[N + 1]? = some (.cells #[.bool false] 4 (0, 0)) := by rw [← hw0, ← hN]; exact heap_alloc2_new w _ _
  have hAw := Lib.hid (awake15 w0 (hR.same (f0.block _ hR.lt fun e => e)))
  have hP0 : PowT w0 := hP.same (f0.block _ hP.lt fun e => e)
  have hat : ∀ W, Fr (fun _ => False) w0 W → W.heap[N]? = some c.obj ∧ W.heap[N + 1]? = some (.cells #[.bool false] 4 (0, 0)) ∧ PowT W := fun W hf => ⟨hf.blk a0 fun e => e, hf.blk a1 fun e => e, hP0.same (hf.block _ hP0.lt fun e => e)⟩
  have HAT := Lib.hid hat
  have H0 := Lib.hid (And.intro f0 (And.intro z0 (And.intro hN (And.intro hc hP.lt))))
  have hw0' := hw0
  unfold Cf.obj at hw0'
  have HW := Lib.hid hw0'
  unfold Cf.val
  clear hw0 hw0' f0 z0 a0 a1 hR hP hP0 hat hc
  refine (callsIn_wide (n := 20)).1 ?_
  refine callsIn_of_wp_marks Tryd.func4 rfl trivial ?_ rfl
  simp only [Tryd.ntmps4, List.size_toArray, List.length_cons, List.length_nil, Nat.reduceAdd, Nat.reduceSub, Array.replicate_succ, Array.replicate_zero, List.push_toArray, List.append_toArray, List.nil_append, List.cons_append]
  gi_wp2_with fail
  rw [HW.out]
  try rw [hN]
  clear hN
  refine ⟨trivial, (calls_wide (.inl rfl) hAw.out).mono ?_⟩
  rintro e w1 ⟨rfl, q1⟩
  have F1 : Hid (Fr (fun _ => False) w0 w1) := Fr.of_below q1
  clear q1
  obtain ⟨w2, hw2⟩ : ∃ w2, w1.alloc (.cells #[.slice none 0 0] 34) = w2 := ⟨_, rfl⟩
  obtain ⟨S, hS⟩ : ∃ S, w1.heap.size = S := ⟨_, rfl⟩
  have kS : w2.heap[S]? = some (.cells #[.slice none 0 0] 34 (0, 0)) := by rw [← hw2, ← hS]; exact heap_alloc_new w1 _
  have z2 : w2.heap.size = S + 1 := by rw [← hw2, ← hS]; simp
  have f2 : Fr (fun _ => False) w1 w2 := by rw [← hw2]; exact (Fr.refl _ _).alloc _
  have F2 : Hid (Fr (fun _ => False) w0 w2) := F1.out.trans f2
  have hSN : N + 2 ≤ S := by obtain ⟨_, z0, _, _, _⟩ := H0.out; have := F1.out.size; omega
  obtain ⟨k0, k1, hP2⟩ := HAT.out _ F2.out
  have q0 := blk_cell k0 0; have q1 := blk_cell k0 1; have q2 := blk_cell k0 2; have q3 := blk_cell k0 3; have q4 := blk_cell k0 4; have q5 := blk_cell k0 5; have q6 := blk_cell k0 6; have q7 := blk_cell k0 7; have q8 := blk_cell k0 8; have q9 := blk_cell k0 9; have q10 := blk_cell k0 10; have q11 := blk_cell k0 11; have q12 := blk_cell k0 12; have q13 := blk_cell k0 13; have q14 := blk_cell k0 14
  rw [← hw2] at q0 q1 q2 q3 q4 q5 q6 q7 q8 q9 q10 q11 q12 q13 q14
  have hsu := Lib.hid (support_any c w2)
  unfold Cf.val at hsu
  have HW2 := Lib.hid hw2
  have HS := Lib.hid (And.intro kS (And.intro z2 hSN))
  have HSS := Lib.hid hS
  clear kS z2 f2 hSN k0 k1 hP2 hw2 hS
  gi_wp2_with fail
  rw [HW2.out]
  try rw [HSS.out]
  refine ⟨trivial, (calls_wide (.inl rfl) hsu.out).mono ?_⟩
  rintro e w3 ⟨rfl, hw3⟩
  have hnil : ∀ W b, (binOp BinOp.eql 36 (.func (.func 25) #[] #[.pointer (some ⟨b, 0, none⟩)]) Value.nilFunc).run Tryd.prog W = .ok (.bool false) W := fun W b => by rfl
  obtain ⟨kS, z2, hSN⟩ := HS.out
  have f3 : Fr (fun _ => False) w2 w3 := by rw [hw3]; exact (Fr.refl _ _).alloc _
  have kB3 : w3.heap[w2.heap.size]? = some c.obj := by rw [hw3]; exact heap_alloc_new w2 _
  have z3 : w3.heap.size = S + 2 := by rw [hw3]; simp [z2]
  have kS3 := f3.blk kS fun e => e
  have F3 : Hid (Fr (fun _ => False) w0 w3) := F2.out.trans f3
  rw [z2] at kB3 ⊢
  have H3 := Lib.hid (And.intro kB3 (And.intro z3 kS3))
  clear kS z2 f3 kB3 z3 kS3 hw3 hSN q0 q1 q2 q3 q4 q5 q6 q7 q8 q9 q10 q11 q12 q13 q14
  gi_wp2_with (simp only [hnil])
  obtain ⟨kB3, z3, kS3⟩ := H3.out
  obtain ⟨k0, k1, hP3⟩ := HAT.out _ F3.out
  obtain ⟨_, z2, hSN⟩ := HS.out
  have hpl := hP3.lt
  have hp0 := H0.out.2.2.2.2
  have hNw := H0.out.2.2.1
  refine wpIn_rangeF (X := fun k => k = S) (Y := supY (S + 1)) (xs := supL c) (encs := encL) (gf := 25) (lb := #[.pointer (some ⟨S + 1, 0, none⟩)]) (fun pre X W => BoxB S w3.heap.size pre X W) (fun _ _ _ _ => False)
    rfl (support_seqF c H0.out.2.2.2.1 (S + 1) w3 kB3 hP3) (fun k hk => ⟨by omega, fun e => by unfold supY at e; rcases e with e | e <;> omega⟩) (fun b hb => by unfold supY at hb; rcases hb with rfl | rfl <;> omega) (by omega) (enters_of Tryd.func25 (by kernel_rfl) rfl) (fun _ => rfl)
    (fun s => boxB_stays _ _ _) (fun c1 s X1 V1 V2 h => h.elim) ⟨_, kS3, ownT_nil _ _, by omega, fun k => by simp [Value.ownBlock]⟩ ?round ?done (fun _ _ _ _ _ _ _ _ _ _ _ h => h.elim)
  case round =>
    rintro l pre x r X1 V K rb hl2 hpx hI hG hxl hF hlV hK
    dsimp only [encL]
    have HK := Lib.hid hK
    have HV := Lib.hid (And.intro hpx (And.intro hI (And.intro hG (And.intro hxl (And.intro hF (And.intro hlV hl2))))))
    clear hK hpx hI hG hxl hF hlV hl2 kB3 z3 kS3 k0 k1 hP3 z2 hSN hpl hp0 hNw
    gi_wp2_with fail
    refine HK.out _ _ (Fr.refl _ _) fun Vb hfb hzb hsb hrb => ?_
    clear HK K
    obtain ⟨hpx, ⟨vb, k3, o3, hSl, hX1⟩, hG, hxl, hF, hlV, hl2⟩ := HV.out
    obtain ⟨kB3, z3, kS3⟩ := H3.out
    have hpl : pre.length ≤ 12 := by
      have h2 := congrArg List.length hpx
      rw [List.length_append, sup_len] at h2
      simp at h2
      omega
    have k3b := hfb.blk k3 (fun e => hxl ((hX1 l).2 (.inl e.symm)))
    have o3b : OwnT w3.heap.size Vb vb pre := ownT_kept o3 fun g hg => hfb.block g (o3.lt g hg).2 fun e => hxl ((hX1 l).2 (.inr (e ▸ hg)))
    have c3 := blk_cell k3b 0
    have hzs : Vb.heap.size = V.heap.size := hzb
    have hbz : w3.heap.size ≤ Vb.heap.size := by omega
    have hor : Vb.ownsRow w3.heap.size 9 1 vb pre.length (pre.map encT) := o3b
    have HO := Lib.hid hor
    have HE := Lib.hid (And.intro hX1 (And.intro hG (And.intro hxl (And.intro hfb (And.intro hrb (And.intro k3b (And.intro o3b (And.intro hzs (And.intro hSl hl2)))))))))
    have p20 : ¬ ((pre.length : Int) > 20) := by omega
    clear hpx k3 o3 hSl hX1 hG hxl hF hlV hl2 kB3 z3 kS3 k3b o3b hor hfb hzb hsb hrb hzs
    have hlen : ∀ W, (Builtin.len_ #[34] 3 #[vb]).run Tryd.prog W = .ok (.int .i64 pre.length) W := fun W => by obtain ⟨A, cp, rfl⟩ := row_slice HO.out; rfl
    gi_wp2_with (first | (gi_at_builtin; refine Hid.out ?_) | simp only [hlen])
    refine Lib.hid ?_
    refine wpListIn_one_t rfl _ _ 34 rfl w3.heap.size 9 i0 _ 1 16 Tryd.underlying34 hi hz0 hz1 hz2 rfl (by decide) _ _ _ rfl HO.out #[.string (bs x)] _ rfl rfl rfl (by intro u hu; simp at hu; subst hu; rfl) (by omega) (by decide) hbz ?_
    intro v1 W2 hown1 hfr1 htie
    obtain ⟨A1, c1', rfl⟩ := row_slice hown1
    have hn3 : ∀ k, vb.ownBlock = some k → k ≠ S := fun k hk e => by have := (HO.out.lt k hk).1; have := HE.out.2.2.2.2.2.2.2.2.1; omega
    have e1 : W2.heap[S]? = some (.cells #[vb] 34 (0, 0)) := hfr1.blk HE.out.2.2.2.2.2.1 fun e => hn3 _ e rfl
    have g1 := blk_cell e1 0
    have g2 := blk_free e1 0
    clear hn3
    gi_wp2_with fail
    obtain ⟨hX1, hG, hxl, hfb, hrb, k3b, o3b, hzs, hSl, hl2⟩ := HE.out
    exact boxB_put (fun k hk => (hG k hk).1) hX1 hxl hfb hrb k3b o3b (by omega) hSl hown1 hfr1 htie
  case done =>
    rintro D X2 V hD hxD hG hF ⟨u, k3, o3, hSl, hX2⟩ hdef
    obtain ⟨A, cp, rfl⟩ := row_slice o3
    have hlt3 : ∀ b, b < w3.heap.size → b ≠ S → V.heap[b]? = w3.heap[b]? := fun b hb hne => hF.block b hb hne
    have kk0 : V.heap[N]? = some c.obj := (hlt3 N (by omega) (by omega)).trans k0
    have kk1 : V.heap[N + 1]? = some (.cells #[.bool false] 4 (0, 0)) := (hlt3 (N + 1) (by omega) (by omega)).trans k1
    have hrd := reads_ownT o3
    obtain ⟨n3, hn3⟩ : ∃ n3, (supL c).length = n3 := ⟨_, rfl⟩
    have hn13 : n3 = 13 := by rw [← hn3]; exact sup_len c
    rw [hn3] at k3
    subst hn13
    have hq : ∀ W, Fr (fun _ => False) V W → (W.cell? ⟨S, 0, none⟩ = some (.slice A 13 cp) ∧ W.heap[N]? = some c.obj ∧ W.heap[N + 1]? = some (.cells #[.bool false] 4 (0, 0))) ∧ W.heap[D]? = some (.deferred (some [])) := fun W hf => ⟨⟨(blk_cell (hf.blk k3 fun e => e) 0).trans rfl, hf.blk kk0 fun e => e, hf.blk kk1 fun e => e⟩, hf.blk hdef fun e => e⟩
    have hsup := fun W => supportR_any c H0.out.2.2.2.1 W
    unfold Cf.val at hsup
    have hbV : RowKit.Below w.heap.size w V := by
      refine Fr.below (X := fun k => N ≤ k) ?_ (Nat.le_refl _) fun k hk (e : N ≤ k) => by omega
      exact ((H0.out.1.mono (Y := fun k => N ≤ k) fun _ _ e => e.elim).trans3 F3.out fun _ _ e => e.elim).trans3 hF fun k _ e => by rw [show k = S from e]; omega
    have HQ := Lib.hid hq
    have HSU := Lib.hid hsup
    have HE := Lib.hid (And.intro hrd (And.intro hn3 (And.intro hbV (And.intro hD hNw))))
    obtain ⟨⟨e1, e2, _⟩, _⟩ := hq V (Fr.refl _ _)
    have q0 := blk_cell e2 0; have q1 := blk_cell e2 1; have q2 := blk_cell e2 2; have q3 := blk_cell e2 3; have q4 := blk_cell e2 4; have q5 := blk_cell e2 5; have q6 := blk_cell e2 6; have q7 := blk_cell e2 7; have q8 := blk_cell e2 8; have q9 := blk_cell e2 9; have q10 := blk_cell e2 10; have q11 := blk_cell e2 11; have q12 := blk_cell e2 12; have q13 := blk_cell e2 13; have q14 := blk_cell e2 14
    clear k3 o3 hSl hX2 hG hxD hF hdef kB3 z3 kS3 k0 k1 hP3 z2 hSN hpl hp0 hNw hlt3 kk0 kk1 hrd hn3 hq hsup hbV e2 hD
    gi_wp2_with fail
    have hT : ∀ W A5 c2, ReadsT W A (supL c) → ReadsT W A5 (supL c) → Calls Tryd.prog 15 #[.slice A 13 cp, .slice A5 13 c2] W fun e w' => e = .returned (.bool true) ∧ ∃ n, w' = W.drewN n := fun W A5 c2 h1 h2 => by
      have := texts_is cp c2 (by rw [sup_len]; decide) h1 h2
      rwa [sup_len] at this
    have HTX := Lib.hid hT
    clear hT
    refine wpIn_noPanic ?_
    gi_region_with (first | (refine ⟨trivial, ?_⟩; gi_at_call 16; (with_reducible refine (calls_wide (.inl rfl) (HSU.out _)).mono ?_); rintro e w5 ⟨⟨A5, rfl, r5⟩, f5⟩; have G5 := Lib.hid (And.intro r5 (((Fr.refl (fun _ => False) V).drew).trans f5)); obtain ⟨⟨e1, _, _⟩, _⟩ := HQ.out _ G5.out.2; clear r5 f5) | (refine ⟨trivial, ?_⟩; gi_at_call 15; (with_reducible refine (calls_wide (.inl rfl) (HTX.out _ _ _ (readsT_fr HE.out.1 G5.out.2 fun _ _ _ e => e) G5.out.1)).mono ?_); rintro e w6 ⟨rfl, nd, rfl⟩; obtain ⟨⟨_, _, k9⟩, _⟩ := HQ.out _ (G5.out.2.drewN nd); have d9 := blk_cell k9 0; have g9 := blk_free k9 0; clear k9) | fail)
    all_goals
      dsimp only [NoPanic]
      gi_wp2_with fail
      obtain ⟨_, _, hbV, hD, hNw⟩ := HE.out
      obtain ⟨⟨_, _, k9⟩, hdef⟩ := HQ.out _ (G5.out.2.drewN nd)
      have hne : D ≠ N + 1 := by have := H3.out.2.1; have := HS.out.2.2; omega
      refine leaves_one D _ (blk_other hdef _ (by simpa using hne) _) fun w' hf => ⟨_, results_box rfl _ _ (N + 1) (.bool true) _ rfl (blk_cell (hf.blk (blk_set k9 0 _) fun e => hne e.symm) 0) Tryd.underlying4 rfl, rfl, ?_⟩
      refine Fr.below (X := fun k => N ≤ k) ?_ (Nat.le_refl _) fun k hk (e : N ≤ k) => by omega
      exact (((Fr.of_below (X := fun k => N ≤ k) (hNw ▸ hbV)).trans3 (G5.out.2.drewN nd) fun _ _ e => e.elim).setCell _ (show N ≤ N + 1 by omega) _).trans3 hf fun k _ e => by rw [show k = D from e]; have := H3.out.2.1; have := HS.out.2.2; omega
end Go.Proofs.YtadojlmjapmbhaaDoor
end
section
/- Layer 15: a configuration that is given, opened; what is laid, read. -/
namespace Go.Proofs.YtadojlmjapmbhaaDoor
set_option linter.unusedVariables false
set_option linter.unusedSimpArgs false
open Go Go.ChangeShapes Go.WideShapes Go.ChangeAt Go.RowKit

theorem wf_i64 {n : Int} (h : (Lit.int .i64 n).wf = true) : -9223372036854775808 ≤ n ∧ n ≤ 9223372036854775807 := by
  simp only [Lit.wf, IntKind.has, Bool.and_eq_true, decide_eq_true_eq] at h
  exact ⟨h.1, h.2⟩
set_option maxRecDepth 1000000 in
set_option maxHeartbeats 4000000 in
theorem open_cfw {H : Type} {enc : TypeId × Value → H} {W : World} {base b0 : Nat} {spare : Nat → Bool} {held : Bool} {r : Reach} {v : Value} {d : DataW H} {p : List MemPlace}
    (hv : Value.okWide Tryd.prog W r b0 33 v) (h : DataW.Trod enc Tryd.prog W base spare held 33 v d p) : ∃ c : Cf, v = c.val ∧ c.ok := by
  have hC : Tryd.prog.cellsOf 33 = 15 := by kernel_rfl
  have ks : Tryd.prog.cellsOf 9 = 1 := by kernel_rfl
  have ki : Tryd.prog.cellsOf 3 = 1 := by kernel_rfl
  obtain ⟨cs, rfl, hsz⟩ := okWide_struct Tryd.underlying33 hv
  obtain ⟨l⟩ := cs
  match l, hsz.trans hC with
  | [c0, c1, c2, c3, c4, c5, c6, c7, c8, c9, c10, c11, c12, c13, c14], _ =>
    obtain ⟨fuel, hf⟩ := h
    obtain ⟨xs, n, _, hx, _, hlen, hg⟩ := DataW.trod_struct Tryd.underlying33 hf
    have hl : xs.length = 15 := hlen
    have gs : ∀ i, i < 15 → ∃ y, xs[i]? = some y := fun i hi => ⟨xs[i]'(by omega), List.getElem?_eq_getElem (by omega)⟩
    obtain ⟨y0, e0⟩ := gs 0 (by omega)
    have g0 := hg 0 _ rfl
    rw [e0] at g0
    obtain ⟨s0, q0, _, z0⟩ := DataW.trod_string Tryd.underlying9 g0
    simp [Value.cells, ks, ki] at q0
    obtain ⟨y1, e1⟩ := gs 1 (by omega)
    have g1 := hg 1 _ rfl
    rw [e1] at g1
    obtain ⟨s1, q1, _, z1⟩ := DataW.trod_string Tryd.underlying9 g1
    simp [Value.cells, ks, ki] at q1
    obtain ⟨y2, e2⟩ := gs 2 (by omega)
    have g2 := hg 2 _ rfl
    rw [e2] at g2
    obtain ⟨s2, q2, _, z2⟩ := DataW.trod_string Tryd.underlying9 g2
    simp [Value.cells, ks, ki] at q2
    obtain ⟨y3, e3⟩ := gs 3 (by omega)
    have g3 := hg 3 _ rfl
    rw [e3] at g3
    obtain ⟨s3, q3, _, z3⟩ := DataW.trod_string Tryd.underlying9 g3
    simp [Value.cells, ks, ki] at q3
    obtain ⟨y4, e4⟩ := gs 4 (by omega)
    have g4 := hg 4 _ rfl
    rw [e4] at g4
    obtain ⟨m4, q4, _, z4⟩ := DataW.trod_int Tryd.underlying3 g4
    simp [Value.cells, ks, ki] at q4
    obtain ⟨y5, e5⟩ := gs 5 (by omega)
    have g5 := hg 5 _ rfl
    rw [e5] at g5
    obtain ⟨m5, q5, _, z5⟩ := DataW.trod_int Tryd.underlying3 g5
    simp [Value.cells, ks, ki] at q5
    obtain ⟨y6, e6⟩ := gs 6 (by omega)
    have g6 := hg 6 _ rfl
    rw [e6] at g6
    obtain ⟨m6, q6, _, z6⟩ := DataW.trod_int Tryd.underlying3 g6
    simp [Value.cells, ks, ki] at q6
    obtain ⟨y7, e7⟩ := gs 7 (by omega)
    have g7 := hg 7 _ rfl
    rw [e7] at g7
    obtain ⟨m7, q7, _, z7⟩ := DataW.trod_int Tryd.underlying3 g7
    simp [Value.cells, ks, ki] at q7
    obtain ⟨y8, e8⟩ := gs 8 (by omega)
    have g8 := hg 8 _ rfl
    rw [e8] at g8
    obtain ⟨m8, q8, _, z8⟩ := DataW.trod_int Tryd.underlying3 g8
    simp [Value.cells, ks, ki] at q8
    obtain ⟨y9, e9⟩ := gs 9 (by omega)
    have g9 := hg 9 _ rfl
    rw [e9] at g9
    obtain ⟨m9, q9, _, z9⟩ := DataW.trod_int Tryd.underlying3 g9
    simp [Value.cells, ks, ki] at q9
    obtain ⟨y10, e10⟩ := gs 10 (by omega)
    have g10 := hg 10 _ rfl
    rw [e10] at g10
    obtain ⟨m10, q10, _, z10⟩ := DataW.trod_int Tryd.underlying3 g10
    simp [Value.cells, ks, ki] at q10
    obtain ⟨y11, e11⟩ := gs 11 (by omega)
    have g11 := hg 11 _ rfl
    rw [e11] at g11
    obtain ⟨m11, q11, _, z11⟩ := DataW.trod_int Tryd.underlying3 g11
    simp [Value.cells, ks, ki] at q11
    obtain ⟨y12, e12⟩ := gs 12 (by omega)
    have g12 := hg 12 _ rfl
    rw [e12] at g12
    obtain ⟨m12, q12, _, z12⟩ := DataW.trod_int Tryd.underlying3 g12
    simp [Value.cells, ks, ki] at q12
    obtain ⟨y13, e13⟩ := gs 13 (by omega)
    have g13 := hg 13 _ rfl
    rw [e13] at g13
    obtain ⟨m13, q13, _, z13⟩ := DataW.trod_int Tryd.underlying3 g13
    simp [Value.cells, ks, ki] at q13
    obtain ⟨y14, e14⟩ := gs 14 (by omega)
    have g14 := hg 14 _ rfl
    rw [e14] at g14
    obtain ⟨m14, q14, _, z14⟩ := DataW.trod_int Tryd.underlying3 g14
    simp [Value.cells, ks, ki] at q14
    subst q0 q1 q2 q3 q4 q5 q6 q7 q8 q9 q10 q11 q12 q13 q14
    refine ⟨⟨s0, s1, s2, s3, m4, m5, m6, m7, m8, m9, m10, m11, m12, m13, m14⟩, rfl, ?_⟩
    intro x hx
    simp only [limC, List.mem_cons, List.not_mem_nil, or_false] at hx
    rcases hx with rfl | rfl | rfl | rfl
    · exact ⟨wf_i64 z6, (by decide : chanT.size ≤ 20)⟩
    · exact ⟨wf_i64 z8, (by decide : maxT.size ≤ 20)⟩
    · exact ⟨wf_i64 z10, (by decide : monT.size ≤ 20)⟩
    · exact ⟨wf_i64 z9, (by decide : watT.size ≤ 20)⟩

theorem powT_of {W : World} (h : laidMetH Tryd.prog [("math/bits.deBruijn32tab", Rows.laid_math_bits_deBruijn32tab), ("math/bits.deBruijn64tab", Rows.laid_math_bits_deBruijn64tab), ("internal/strconv.uint64pow10", Rows.laid_internal_strconv_uint64pow10), ("unicode/utf8.acceptRanges", Rows.laid_unicode_utf8_acceptRanges), ("rollcall/valid.bytesOf", Rows.laid_rollcall_valid_bytesOf), ("unicode/utf8.first", Rows.laid_unicode_utf8_first)] W) : PowT W := by
  rw [MakeChecks.laidMetH_plain _ _ _ (by kernel_rfl)] at h
  obtain ⟨ps, ⟨_, _, _, _, _, _, _, _, _, _, ⟨_, _, _, _, _, _, _, _, _, _, ⟨g, t, cs, fuel, p, q, hg, ht, hv, hd, _, _⟩, _⟩, _⟩, _⟩ := h
  obtain rfl := Option.some.inj (powG.symm.trans hg)
  obtain rfl := Option.some.inj ((show (Tryd.prog.globals[5]?).map (·.type) = some 98 by kernel_rfl).symm.trans ht)
  unfold PowT Lib.TabIs
  rw [hv, ← Lib.cells_of_tab (zs := Lib.pow10Tab) (k := .u64) Tryd.underlying98 Tryd.underlying84 (by kernel_rfl) (by kernel_rfl) hd]

theorem rowed_of6 {W : World} (h : laidMetH Tryd.prog [("math/bits.deBruijn32tab", Rows.laid_math_bits_deBruijn32tab), ("math/bits.deBruijn64tab", Rows.laid_math_bits_deBruijn64tab), ("internal/strconv.uint64pow10", Rows.laid_internal_strconv_uint64pow10), ("unicode/utf8.acceptRanges", Rows.laid_unicode_utf8_acceptRanges), ("rollcall/valid.bytesOf", Rows.laid_rollcall_valid_bytesOf), ("unicode/utf8.first", Rows.laid_unicode_utf8_first)] W) : Rowed W := by
  rw [MakeChecks.laidMetH_plain _ _ _ (by kernel_rfl)] at h
  obtain ⟨ps, ⟨_, _, _, _, _, _, _, _, _, _, ⟨_, _, _, _, _, _, _, _, _, _, ⟨_, _, _, _, _, _, _, _, _, _, ⟨_, _, _, _, _, _, _, _, _, _, ⟨g, t, cs, fuel, p, q, hg, ht, hv, hd, _, _⟩, _⟩, _⟩, _⟩, _⟩, _⟩ := h
  obtain rfl := Option.some.inj ((show Tryd.prog.globalNamed "rollcall/valid.bytesOf" = some 4 by kernel_rfl).symm.trans hg)
  obtain rfl := Option.some.inj ((show (Tryd.prog.globals[4]?).map (·.type) = some 96 by kernel_rfl).symm.trans ht)
  obtain ⟨xs, m, _, ex, _, hl, hel⟩ := DataW.trod_array Tryd.underlying96 hd
  intro i hi
  have c5 : Tryd.prog.cellsOf 9 = 1 := by kernel_rfl
  have e3 : (xs.map (·.1)) = (List.range 11).map fun k => .lit (.string (laidRow k)) := (DataW.agg.inj (Prod.mk.inj ex).1).symm
  have hlen : xs.length = 11 := by have := congrArg List.length e3; simpa using this
  have hE := hel i (by omega)
  rw [c5, Nat.mul_one, List.getElem?_eq_getElem (by omega)] at hE
  obtain ⟨s, e1, e2, _⟩ := DataW.trod_string Tryd.underlying9 hE
  have e4 : (xs.map (·.1))[i]? = ((List.range 11).map fun k => (DataW.lit (.string (laidRow k)) : DataW Unit))[i]? := by rw [e3]
  rw [List.getElem?_map, List.getElem?_map, List.getElem?_eq_getElem (by omega : i < xs.length), List.getElem?_eq_getElem (by simpa using hi : i < (List.range 11).length), e2] at e4
  have hz : s.data.toList = laidRow i := by
    simp only [Option.map_some, Option.some.injEq, DataW.lit.injEq, Lit.string.injEq, List.getElem_range] at e4
    exact e4
  refine ⟨s, ?_, hz⟩
  rw [World.var?_cell hg hv i]
  have : cs.toList[i]? = some (.string s) := by
    have h0 : ((cs.toList.drop i).take 1)[0]? = some (.string s) := by rw [e1]; rfl
    simpa using h0
  simpa using this

/-- what is laid -/
def LaidC (W : World) : Prop := Rowed W ∧ PowT W
theorem configSupports_laid (c : Cf) (hc : c.ok) (w : World) (h : LaidC w) : Calls Tryd.prog 4 #[c.val] w fun e w' => e = .returned (.bool true) ∧ RowKit.Below w.heap.size w w' := configSupports_walk c hc w h.1 h.2
end Go.Proofs.YtadojlmjapmbhaaDoor
end
section
/- A law's last step where the call has made memory of its own, of whatever sort: what lay before lies as it lay, so each argument reads as it read. -/
namespace Go.Proofs.YtadojlmjapmbhaaDoor
open Go Go.RowKit Go.WideShapes Go.ChangeShapes

theorem post_below {H : Type} {enc : TypeId × Value → H} {P : Program} {f : Func} {s : ChangeSpec} {apart fresh handsOn again : Bool} {W W' : World} {args : Array Value} {v : Value} {ds gs : List (DataW H)} {all pa pv : List MemPlace}
    (hW : DataW.Whole enc P f.params.toList s.vars apart W args.toList ds gs all)
    (hr : ∀ (b : Nat) (sp : Nat → Bool) (hd : Bool), DataW.TrodAll enc P W' b sp hd f.resultTypes.toList (v.resultList f.resultTypes.size) (s.fn H (ds ++ gs)).results [])
    (ha : ∀ sp : Nat → Bool, (∀ p ∈ all, sp p.block = true) → DataW.TrodAll enc P W' 0 sp true f.params.toList args.toList (s.fn H (ds ++ gs)).args pa)
    (hv : ∀ sp : Nat → Bool, (∀ p ∈ all, sp p.block = true) → DataW.TrodVars enc P W' sp s.vars (s.fn H (ds ++ gs)).vars pv)
    (hpl : all = pa ++ pv) (hB : Below W.heap.size W W')
    (hok : ∀ (j : Nat) (t : TypeId) (r : Value), f.resultTypes[j]? = some t → (v.resultList f.resultTypes.size)[j]? = some r → Value.okWide P W' .any 0 t r) :
    s.post enc P f apart fresh handsOn again W args v W' := by
  have low : ∀ p ∈ all, p.block < W.heap.size := fun p hp => hW.lt p hp
  refine ⟨ds, gs, all, [], pa, pv, hW, hr _ _ _, ha (fun b => decide (b < W.heap.size)) fun p hp => by simpa using low p hp, hv (fun b => decide (b < W.heap.size)) fun p hp => by simpa using low p hp,
    World.keptBut_mono (fun p hp => ⟨hp, .inr (by rw [hpl, List.mem_append] at hp; exact hp)⟩) (hB.frame (· ∈ all)), fun _ => ?_⟩
  obtain ⟨_, _, _, _, _, hfrozen, hapart⟩ := hW
  have same : ∀ p : MemPlace, p ∈ ([] ++ pa) ++ pv → p ∈ all := fun p hp => by rw [hpl]; simpa using hp
  refine ⟨hok, _, _, ([] ++ pa) ++ pv, ⟨[] ++ pa, pv, trodAll_append (ha _ fun _ _ => rfl) (hr _ _ _), hv _ fun _ _ => rfl, rfl, fun b off hp => ?_, fun h => ?_⟩, fun p hp _ => ?_⟩
  · rw [hB.frozen (low _ (same _ hp))]
    exact hfrozen b off (same _ hp)
  · have := hapart h
    rw [hpl] at this
    simpa using this
  · rw [hpl]
    simpa using hp
end Go.Proofs.YtadojlmjapmbhaaDoor
end
