/- Layer 18: rows of changes and of texts, nil let in; Parse, Same, Texts of such rows; great. -/
import Derived.Test.YtbpnaclnninndaaModeD
import Derived.Test.YtbpnaclnninndaaModeM
namespace Go.Proofs.Ytbpnaclnninndaa
set_option linter.unusedVariables false
set_option linter.unusedSimpArgs false
open Go.RowKit Go.Shelf

/-- changes lie at an address, if there are any -/
def RowC (W : World) (A : Option Addr) (l : List Chg) : Prop :=
  0 < l.length → ∃ g o, A = some ⟨g, o, none⟩ ∧ ∀ i (h : i < l.length), W.cell? ⟨g, o + i * 3, none⟩ = some (.bool l[i].1) ∧ W.cell? ⟨g, o + i * 3 + 1, none⟩ = some (.int .u8 l[i].2.1.toNat) ∧ W.cell? ⟨g, o + i * 3 + 2, none⟩ = some (.string l[i].2.2)
/-- texts lie at an address, if there are any -/
def RowT (W : World) (A : Option Addr) (l : List ByteArray) : Prop :=
  0 < l.length → ∃ g o, A = some ⟨g, o, none⟩ ∧ ∀ i (h : i < l.length), W.cell? ⟨g, o + i, none⟩ = some (.string l[i])
theorem lt_of_cell {W : World} {g o : Nat} {v : Value} (h : W.cell? ⟨g, o, none⟩ = some v) : g < W.heap.size := by
  unfold World.cell? at h
  cases hb : W.heap[g]? with
  | none => simp [hb] at h
  | some x => exact (Array.getElem?_eq_some_iff.1 hb).1
theorem RowC.kept {W W' : World} {A : Option Addr} {l : List Chg} (h : RowC W A l) (hb : Below W.heap.size W W') : RowC W' A l := fun hl => by
  obtain ⟨g, o, rfl, hc⟩ := h hl
  have hg := lt_of_cell (hc 0 hl).1
  exact ⟨g, o, rfl, fun i hi => by
    rw [hb.cell (p := ⟨g, _, none⟩) hg, hb.cell (p := ⟨g, _, none⟩) hg, hb.cell (p := ⟨g, _, none⟩) hg]
    exact hc i hi⟩
theorem RowT.kept {W W' : World} {A : Option Addr} {l : List ByteArray} (h : RowT W A l) (hb : Below W.heap.size W W') : RowT W' A l := fun hl => by
  obtain ⟨g, o, rfl, hc⟩ := h hl
  have hg := lt_of_cell (hc 0 hl)
  exact ⟨g, o, rfl, fun i hi => by rw [hb.cell (p := ⟨g, _, none⟩) hg]; exact hc i hi⟩
theorem chL_len (l : List Chg) : (chL l).length = l.length * 3 := by
  induction l with
  | nil => rfl
  | cons x r ih =>
    have : chL (x :: r) = [.bool x.1, .int .u8 x.2.1.toNat, .string x.2.2] ++ chL r := by simp [chL]
    rw [this, List.length_append, ih]; simp; omega
theorem chL_get (l : List Chg) : ∀ i (h : i < l.length), (chL l)[i * 3]? = some (.bool l[i].1) ∧ (chL l)[i * 3 + 1]? = some (.int .u8 l[i].2.1.toNat) ∧ (chL l)[i * 3 + 2]? = some (.string l[i].2.2) := by
  induction l with
  | nil => intro i h; simp at h
  | cons x r ih =>
    intro i h
    have e : chL (x :: r) = .bool x.1 :: .int .u8 x.2.1.toNat :: .string x.2.2 :: chL r := by simp [chL]
    cases i with
    | zero => rw [e]; exact ⟨rfl, rfl, rfl⟩
    | succ k =>
      have := ih k (by simpa using h)
      rw [e, show (k + 1) * 3 = k * 3 + 3 by omega]
      exact this
/-- what the call has made -/
theorem RowC.owned {W : World} {base : Nat} {v : Value} {l : List Chg} (h : W.ownsRow base 29 3 v l.length (chL l)) : ∃ A c, v = .slice A l.length c ∧ l.length ≤ c ∧ RowC W A l := by
  have h0 := h
  rcases h.2 with ⟨rfl, hn⟩ | ⟨g, cap, cur, rfl, _, _, hc, _⟩
  · exact ⟨none, 0, by rw [hn], by omega, fun hl => by omega⟩
  · refine ⟨_, cap, rfl, hc, fun hl => ⟨g, 0, rfl, fun i hi => ?_⟩⟩
    have hg := chL_get l i hi
    refine ⟨?_, ?_, ?_⟩
    · rw [Nat.zero_add, h0.cellAt _ (by omega)]; exact hg.1
    · rw [Nat.zero_add, h0.cellAt _ (by omega)]; exact hg.2.1
    · rw [Nat.zero_add, h0.cellAt _ (by omega)]; exact hg.2.2
theorem RowT.owned {W : World} {base : Nat} {v : Value} {l : List ByteArray} (h : W.ownsRow base 9 1 v l.length (l.map .string)) : ∃ A c, v = .slice A l.length c ∧ l.length ≤ c ∧ RowT W A l := by
  have h0 := h
  rcases h.2 with ⟨rfl, hn⟩ | ⟨g, cap, cur, rfl, _, _, hc, _⟩
  · exact ⟨none, 0, by rw [hn], by omega, fun hl => by omega⟩
  · refine ⟨_, cap, rfl, hc, fun hl => ⟨g, 0, rfl, fun i hi => ?_⟩⟩
    rw [Nat.zero_add, h0.cellAt _ (by omega)]
    simp [hi]

/-- rows of any address are rows of a block, or have nothing -/
theorem parse_zero (A : Option Addr) (c : Nat) (w : World) :
    Calls Try.prog 9 #[.slice A 0 c] w fun e w' => e = .returned (.slice none 0 0) ∧ Below w.heap.size w w' := by
  refine (callsIn_wide (n := 5)).1 ?_
  refine callsIn_of_wp Try.func9 rfl trivial ?_ rfl
  simp only [Try.ntmps9, List.size_toArray, List.length_cons, List.length_nil, Nat.reduceAdd, Nat.reduceSub, Array.replicate_succ, Array.replicate_zero, List.push_toArray, List.append_toArray, List.nil_append, List.cons_append]
  gi_wp2
  refine wpIn_scope ?_
  gi_wp2
  rw [noGoto_ret']
  refine bodyPost_ret (results_tmp rfl _ _ _) rfl ?_
  exact ⟨rfl, Below.refl _ _⟩
theorem parser_zero (A : Option Addr) (c : Nat) (w : World) :
    Calls Try.prog 12 #[.slice A 0 c] w fun e w' => e = .returned (.slice none 0 0) ∧ Below w.heap.size w w' := by
  go_enter Try.func12, Try.ntmps12
  go_wp2_with fail
  go_ret
  exact ⟨rfl, Below.refl _ _⟩
def ParsedTo (w : World) (ps : List ByteArray) (e : Ending) (w' : World) : Prop := ∃ A c, e = .returned (.slice A (parseM ps).length c) ∧ (parseM ps).length ≤ c ∧ RowC w' A (parseM ps) ∧ Below w.heap.size w w'
theorem parse_any (A : Option Addr) (ps : List ByteArray) (c : Nat) (w : World) (hl : ps.length ≤ 100000) (hc : ps.length ≤ c) (h0 : ∀ s ∈ ps, s.size ≤ 1000000) (hr : RowT w A ps) :
    Calls Try.prog 9 #[.slice A ps.length c] w (ParsedTo w ps) := by
  by_cases h : 0 < ps.length
  · obtain ⟨g, o, rfl, hcell⟩ := hr h
    refine (parse_v g o c ps w hl hc (fun h => h0 _ (List.getElem_mem h)) (lt_of_cell (hcell 0 h)) hcell).mono ?_
    rintro e w' ⟨v, rfl, hown, hB, _⟩
    obtain ⟨A, c', rfl, hc', hrow⟩ := RowC.owned hown
    exact ⟨A, c', rfl, hc', hrow, hB⟩
  · have : ps = [] := List.eq_nil_of_length_eq_zero (by omega)
    subst this
    exact (parse_zero A c w).mono fun e w' ⟨he, hB⟩ => ⟨none, 0, he, Nat.le_refl _, fun h => absurd h (by decide), hB⟩
theorem parser_any (A : Option Addr) (ps : List ByteArray) (c : Nat) (w : World) (hl : ps.length ≤ 100000) (h0 : ∀ s ∈ ps, s.size ≤ 1000000) (hr : RowT w A ps) :
    Calls Try.prog 12 #[.slice A ps.length c] w (ParsedTo w ps) := by
  by_cases h : 0 < ps.length
  · obtain ⟨g, o, rfl, hcell⟩ := hr h
    refine (parse_r g o c ps w hl (fun h => h0 _ (List.getElem_mem h)) (lt_of_cell (hcell 0 h)) hcell).mono ?_
    rintro e w' ⟨v, rfl, hown, hB, _⟩
    obtain ⟨A, c', rfl, hc', hrow⟩ := RowC.owned hown
    exact ⟨A, c', rfl, hc', hrow, hB⟩
  · have : ps = [] := List.eq_nil_of_length_eq_zero (by omega)
    subst this
    exact (parser_zero A c w).mono fun e w' ⟨he, hB⟩ => ⟨none, 0, he, Nat.le_refl _, fun h => absurd h (by decide), hB⟩

/-! Same, Texts -/
theorem same_len (A B : Option Addr) (c1 c2 n m : Nat) (w : World) (h : n ≠ m) :
    Calls Try.prog 11 #[.slice A n c1, .slice B m c2] w fun e w' => e = .returned (.bool false) ∧ w = w' := by
  have hne : ((n : Int) != (m : Int)) = true := by rw [bne_iff_ne]; omega
  clear h
  go_enter Try.func11, Try.ntmps11
  go_wp2_with fail
  go_ret
  exact ⟨rfl, rfl⟩
theorem same_zero (A B : Option Addr) (c1 c2 : Nat) (w : World) :
    Calls Try.prog 11 #[.slice A 0 c1, .slice B 0 c2] w fun e w' => e = .returned (.bool true) ∧ w = w' := by
  go_enter Try.func11, Try.ntmps11
  go_wp2_with fail
  go_loopw [5] (fun i wr => i = .int .i64 0 ∧ w = wr) (fun i _ => 0)
  case atStart => exact ⟨rfl, rfl⟩
  case round =>
    obtain ⟨rfl, rfl⟩ := hrel
    go_wp2_with fail
    go_ret
    exact ⟨rfl, rfl⟩
theorem same_any (A B : Option Addr) (a b : List Chg) (c1 c2 : Nat) (w : World) (ha : a.length ≤ 100000) (h1 : RowC w A a) (h2 : RowC w B b) :
    Calls Try.prog 11 #[.slice A a.length c1, .slice B b.length c2] w fun e w' => e = .returned (.bool (decide (a = b))) ∧ ∃ n, w' = w.drewN n := by
  by_cases hl : a.length = b.length
  · by_cases h : 0 < a.length
    · obtain ⟨g1, o1, rfl, k1⟩ := h1 h
      obtain ⟨g2, o2, rfl, k2⟩ := h2 (by omega)
      exact same_rows g1 o1 c1 g2 o2 c2 a b w hl ha k1 k2
    · have e1 : a = [] := List.eq_nil_of_length_eq_zero (by omega)
      have e2 : b = [] := List.eq_nil_of_length_eq_zero (by omega)
      subst e1; subst e2
      exact (same_zero A B c1 c2 w).mono fun e w' ⟨he, hw⟩ => ⟨by rw [he]; rfl, 0, hw.symm⟩
  · have hd : decide (a = b) = false := by rw [decide_eq_false_iff_not]; intro e; exact hl (by rw [e])
    rw [hd]
    exact (same_len A B c1 c2 _ _ w hl).mono fun e w' ⟨he, hw⟩ => ⟨he, 0, hw.symm⟩

set_option maxHeartbeats 4000000 in
theorem texts_any (A B : Option Addr) (a b : List ByteArray) (c1 c2 : Nat) (w : World) (ha1 : a.length ≤ 100000) (h1 : RowT w A a) (h2 : RowT w B b) :
    Calls Try.prog 15 #[.slice A a.length c1, .slice B b.length c2] w fun e w' => e = .returned (.bool (decide (a = b))) ∧ ∃ n, w' = w.drewN n := by
  by_cases hl : a.length = b.length
  · have H1 := Lib.hid h1
    have H2 := Lib.hid h2
    have HL := Lib.hid hl
    have hne : ((a.length : Int) != (b.length : Int)) = false := by rw [hl]; simp
    clear h1 h2 hl
    go_enter Try.func15, Try.ntmps15
    go_wp2_with fail
    go_loopw [5] (fun i wr => ∃ k : Nat, i = .int .i64 k ∧ k ≤ a.length ∧ Hid (a.take k = b.take k ∧ ∃ n, wr = w.drewN n)) (fun i _ => a.length - (intOf i).toNat)
    case atStart => exact ⟨0, rfl, Nat.zero_le _, rfl, 0, rfl⟩
    case round =>
      obtain ⟨k, rfl, hk, HQ⟩ := hrel
      by_cases hlt : k < a.length
      · have hlt2 : k < b.length := by have := HL.out; omega
        obtain ⟨g1, o1, rfl, k1⟩ := H1.out (by omega)
        obtain ⟨g2, o2, rfl, k2⟩ := H2.out (by omega)
        have ca : wr.cell? ⟨g1, o1 + k, none⟩ = some (.string a[k]) := by obtain ⟨_, n, hn⟩ := HQ.out; rw [hn]; exact k1 k hlt
        have cb : wr.cell? ⟨g2, o2 + k, none⟩ = some (.string b[k]) := by obtain ⟨_, n, hn⟩ := HQ.out; rw [hn]; exact k2 k hlt2
        obtain ⟨eb, heb⟩ : ∃ x, (a[k].toList == b[k].toList) = x := ⟨_, rfl⟩
        have hnq : (a[k].toList != b[k].toList) = !eb := by rw [← heb]; rfl
        have hnq2 : (!(a[k].toList == b[k].toList)) = !eb := by rw [heb]
        have HE := Lib.hid heb
        clear heb k1 k2
        have p1 : (k : Int) < (a.length : Int) := by omega
        have p2 : (k : Int) < (b.length : Int) := by omega
        cases eb with
        | false =>
          go_wp2_with fail
          go_quiet (fail)
          all_goals go_wp2_with fail
          have hd : decide (a = b) = false := by
            rw [decide_eq_false_iff_not]
            intro e
            have := HE.out
            simp only [e] at this
            simp at this
          obtain ⟨_, n, hn⟩ := HQ.out
          rw [hd]
          subst hn
          go_ret
          exact ⟨rfl, _, by rw [World.drewN_drewN]⟩
        | true =>
          go_wp2_with fail
          go_quiet (fail)
          all_goals go_wp2_with fail
          have h3 : a[k] = b[k] := by
            have := HE.out
            rw [beq_iff_eq, ByteArray.toList_eq, ByteArray.toList_eq] at this
            exact ba_ext this
          have h4 : a.take (k + 1) = b.take (k + 1) := by
            rw [List.take_succ_eq_append_getElem hlt, List.take_succ_eq_append_getElem hlt2, HQ.out.1, h3]
          obtain ⟨_, n, hn⟩ := HQ.out
          exact ⟨⟨k + 1, by go_num, by omega, h4, n + nq, by subst hn; rw [World.drewN_drewN]⟩, by simp [intOf]; omega⟩
      · obtain rfl : k = a.length := by omega
        have hab : a = b := by
          have := HQ.out.1
          rw [List.take_of_length_le (Nat.le_refl _), List.take_of_length_le (by have := HL.out; omega)] at this
          exact this
        have hd : decide (a = b) = true := by simp [hab]
        obtain ⟨_, n, hn⟩ := HQ.out
        have p1 : ¬ ((a.length : Int) < (a.length : Int)) := by omega
        subst hn
        have HD := Lib.hid hd
        clear hd hab
        go_wp2_with fail
        go_ret
        exact ⟨ret_bool HD.out.symm, _, rfl⟩
  · have hd : decide (a = b) = false := by rw [decide_eq_false_iff_not]; intro e; exact hl (by rw [e])
    have hne : ((a.length : Int) != (b.length : Int)) = true := by rw [bne_iff_ne]; omega
    rw [hd]
    clear hd hl h1 h2
    go_enter Try.func15, Try.ntmps15
    go_wp2_with fail
    go_ret
    exact ⟨rfl, 0, rfl⟩

/-- more than is looked at? -/
def greatB (l : List ByteArray) : Bool := decide (20 < l.length) || l.any fun s => decide (60 < s.size)
theorem greatB_no {l : List ByteArray} (h : greatB l = false) : l.length ≤ 20 ∧ ∀ s ∈ l, s.size ≤ 60 := by
  unfold greatB at h
  rw [Bool.or_eq_false_iff] at h
  refine ⟨by simpa using h.1, fun s hs => ?_⟩
  have := List.any_eq_false.1 h.2 s hs
  simpa using this
set_option maxHeartbeats 4000000 in
theorem great_any (A : Option Addr) (l : List ByteArray) (c : Nat) (w : World) (hl : l.length ≤ maxLen) (hs : ∀ s ∈ l, s.size ≤ maxLen) (hr : RowT w A l) :
    Calls Try.prog 8 #[.slice A l.length c] w fun e w' => e = .returned (.bool (greatB l)) ∧ w = w' := by
  unfold maxLen at hl hs
  by_cases h20 : 20 < l.length
  · have hg : greatB l = true := by simp [greatB, h20]
    have p1 : (l.length : Int) > 20 := by omega
    rw [hg]
    clear hg h20 hr hs
    go_enter Try.func8, Try.ntmps8
    go_wp2_with fail
    go_ret
    exact ⟨rfl, rfl⟩
  · have p1 : ¬ ((l.length : Int) > 20) := by omega
    have hg : greatB l = l.any fun s => decide (60 < s.size) := by simp [greatB, h20]
    rw [hg]
    have HS := Lib.hid hs
    have HR := Lib.hid hr
    clear hg hs hr
    go_enter Try.func8, Try.ntmps8
    go_wp2_with fail
    go_loopw [3] (fun i wr => ∃ k : Nat, i = .int .i64 k ∧ k ≤ l.length ∧ Hid ((l.take k).any (fun s => decide (60 < s.size)) = false) ∧ w = wr) (fun i _ => l.length - (intOf i).toNat)
    case atStart => exact ⟨0, rfl, Nat.zero_le _, rfl, rfl⟩
    case round =>
      obtain ⟨k, rfl, hk, HQ, rfl⟩ := hrel
      by_cases hlt : k < l.length
      · obtain ⟨g, o, rfl, hc⟩ := HR.out (by omega)
        have ck := hc k hlt
        have hsz := HS.out l[k] (List.getElem_mem hlt)
        have p2 : (k : Int) < (l.length : Int) := by omega
        have hsn : (l.take (k + 1)).any (fun s => decide (60 < s.size)) = ((l.take k).any (fun s => decide (60 < s.size)) || decide (60 < l[k].size)) := by
          rw [List.take_succ_eq_append_getElem hlt, List.any_append, List.any_cons, List.any_nil, Bool.or_false]
        have HN := Lib.hid hsn
        clear hc hsn
        by_cases hbig : 60 < l[k].size
        · have p3 : (l[k].size : Int) > 60 := by omega
          go_wp2_with fail
          have hd : l.any (fun s => decide (60 < s.size)) = true := by
            rw [List.any_eq_true]; exact ⟨l[k], List.getElem_mem hlt, by simpa using hbig⟩
          go_ret
          exact ⟨ret_bool hd.symm, rfl⟩
        · have p3 : ¬ ((l[k].size : Int) > 60) := by omega
          go_wp2_with fail
          go_roundw
          case rel => exact ⟨k + 1, by go_num, by omega, by show _ = false; have h := HN.out; rw [HQ.out] at h; rw [h]; simpa using hbig, by first | rfl | trivial⟩
          case measure => simp [intOf]; omega
      · obtain rfl : k = l.length := by omega
        have hd : l.any (fun s => decide (60 < s.size)) = false := by have := HQ.out; rwa [List.take_of_length_le (Nat.le_refl _)] at this
        have HD := Lib.hid hd
        clear hd
        have p2 : ¬ ((l.length : Int) < (l.length : Int)) := by omega
        go_wp2_with fail
        go_ret
        exact ⟨ret_bool HD.out.symm, rfl⟩
end Go.Proofs.Ytbpnaclnninndaa
