/- Layer 18: the walks of ModesParses, ModesBack. -/
import Derived.Test.YtbpnaclnninndaaModeL
namespace Go.Proofs.Ytbpnaclnninndaa
set_option linter.unusedVariables false
set_option linter.unusedSimpArgs false
open Go.RowKit Go.Shelf

/-- a slice of these changes is handed back -/
def GivesC (w : World) (L : List Chg) (e : Ending) (w' : World) : Prop := ∃ A c, e = .returned (.slice A L.length c) ∧ L.length ≤ c ∧ RowC w' A L ∧ Below w.heap.size w w'
/-- a slice of these texts is handed back -/
def GivesT (w : World) (L : List ByteArray) (e : Ending) (w' : World) : Prop := ∃ A c, e = .returned (.slice A L.length c) ∧ L.length ≤ c ∧ RowT w' A L ∧ Below w.heap.size w w'
theorem below_of_drew {w w' : World} (h : ∃ n, w' = w.drewN n) : Below w.heap.size w w' := by
  obtain ⟨n, rfl⟩ := h
  exact below_dn' (Below.refl _ w) n
theorem manyT_take (L : List Chg) (k : Nat) (h : k < L.length) : manyT (L.take (k + 1)) = manyT (L.take k) + if tk L[k] = true then 1 else 0 := by
  rw [List.take_succ_eq_append_getElem h, manyT_snoc]

theorem textM_cons (L : List Chg) (h : L ≠ []) : textM L = bs (textS L).1 :: (textS L).2.1 := by unfold textM; rw [if_neg h]
theorem textM_head (L : List Chg) (h : 0 < (textM L).length) : (textM L)[0].size ≤ 2 * L.length := by
  by_cases hL : L = []
  · subst hL; exact absurd h (by decide)
  · have e : (textM L)[0]? = some (bs (textS L).1) := by rw [textM_cons L hL]; rfl
    rw [List.getElem?_eq_getElem h] at e
    rw [Option.some.inj e, bs_size]
    exact (textS_len L).1
theorem textM_len (L : List Chg) : (textM L).length ≤ L.length + 1 := by
  by_cases hL : L = []
  · subst hL; decide
  · rw [textM_cons L hL, List.length_cons]
    have := (textS_len L).2
    omega

set_option maxRecDepth 100000 in
set_option maxHeartbeats 4000000 in
theorem modesParses_walk (A : Option Addr) (ps : List ByteArray) (c : Nat) (w : World) (hl : ps.length ≤ maxLen) (hc : ps.length ≤ c) (hs : ∀ s ∈ ps, s.size ≤ maxLen) (hr : RowT w A ps) :
    Calls Try.prog 3 #[.slice A ps.length c] w fun e w' => e = .returned (.bool true) ∧ Below w.heap.size w w' := by
  have HR := Lib.hid hr
  have hG : ∀ W, RowT W A ps → Calls Try.prog 8 #[.slice A ps.length c] W fun e w' => e = .returned (.bool (greatB ps)) ∧ W = w' := fun W h => great_any A ps c W hl hs h
  clear hr
  cases hg : greatB ps with
  | true =>
    rw [hg] at hG
    clear hg hl hs hc
    go_enter Try.func3, Try.ntmps3
    go_wp2_with fail
    go_at_call 7
    refine (awake18 _).mono ?_
    rintro e w1 ⟨rfl, q1⟩
    have Q1 := Lib.hid q1
    clear q1
    go_wp2_with fail
    go_at_call 8
    refine (hG _ (HR.out.kept Q1.out)).mono ?_
    rintro e w' ⟨rfl, rfl⟩
    go_wp2_with fail
    go_ret
    exact ⟨rfl, Q1.out⟩
  | false =>
    rw [hg] at hG
    obtain ⟨hl20, hs60⟩ := greatB_no hg
    have hlen := parse_len ps 60 hs60
    have hmany := (parse_good ps).2
    have hP : ∀ W, RowT W A ps → Calls Try.prog 9 #[.slice A ps.length c] W (GivesC W (parseM ps)) := fun W h => parse_any0 A ps c W (by omega) hc (fun h0 => by have := hs60 _ (List.getElem_mem h0); omega) h
    have hPr : ∀ W, RowT W A ps → Calls Try.prog 12 #[.slice A ps.length c] W (GivesC W (parseM ps)) := fun W h => parser_any A ps c W (by omega) (fun s h0 => by have := hs60 _ h0; omega) h
    obtain ⟨L, hL⟩ : ∃ L, parseM ps = L := ⟨_, rfl⟩
    rw [hL] at hlen hmany hP hPr
    clear hg hl hs hL hs60 hl20 hc
    have hm4 : ((manyT L : Nat) : Int) ≤ 4 := by omega
    go_enter Try.func3, Try.ntmps3
    go_wp2_with fail
    go_at_call 7
    refine (awake18 _).mono ?_
    rintro e w1 ⟨rfl, q1⟩
    have Q1 := Lib.hid q1
    clear q1
    go_wp2_with fail
    go_at_call 8
    refine (hG _ (HR.out.kept Q1.out)).mono ?_
    rintro e w' ⟨rfl, rfl⟩
    go_wp2_with fail
    go_at_call 9
    refine (hP _ (HR.out.kept Q1.out)).mono ?_
    rintro e w2 ⟨A2, c2, rfl, hc2, hr2, q2⟩
    have Q2 : Hid (Below w.heap.size w w2 ∧ RowC w2 A2 L) := ⟨bjn Q1.out Q1.out.size q2, hr2⟩
    clear hG hP hr2 q2 hc2
    go_wp2_with fail
    go_loopw [4, 5] (fun n i wr => ∃ k : Nat, n = .int .i64 (manyT (L.take k)) ∧ i = .int .i64 k ∧ k ≤ L.length ∧ Hid (Below w.heap.size w wr ∧ RowC wr A2 L)) (fun _ i _ => L.length - (intOf i).toNat)
    case atStart => exact ⟨0, rfl, rfl, Nat.zero_le _, Q2⟩
    case round =>
      obtain ⟨k, rfl, rfl, hk, HQ⟩ := hrel
      by_cases hlt : k < L.length
      · have hst := manyT_take L k hlt
        have hmk : manyT (L.take k) ≤ 60 := by have := manyT_le (L.take k); rw [List.length_take] at this; omega
        obtain ⟨g2, o2, rfl, hcell⟩ := HQ.out.2 (by omega)
        have hk3 := hcell k hlt
        obtain ⟨⟨on, ch, ag⟩, hx⟩ : ∃ x, L[k] = x := ⟨_, rfl⟩
        rw [hx] at hk3 hst
        obtain ⟨c0, c1, c2'⟩ := hk3
        simp only at c0 c1 c2'
        have hp1 : (k : Int) < (L.length : Int) := by omega
        have ht : ∀ W, Calls Try.prog 10 #[.int .u8 ↑ch.toNat, .bool on] W fun e w' => e = .returned (.bool (takesB ch on)) ∧ W = w' := fun W => takes_b _ _ W
        obtain ⟨m, hm⟩ : ∃ m, manyT (L.take k) = m := ⟨_, rfl⟩
        rw [hm] at hst hmk ⊢
        have HST := Lib.hid hst
        clear hx hcell hst hm
        cases htk : takesB ch on
        · rw [htk] at ht
          have HT := Lib.hid htk
          clear htk
          go_wp2_with fail
          go_quiet ((go_at_call 10; exact Calls.quiet_of_same ((ht _).mono fun e w' h => ⟨h.1, h.2.symm⟩)))
          go_wp2_with fail
          go_roundw
          case rel => exact ⟨k + 1, by rw [HST.out, show tk (on, ch, ag) = false from HT.out]; rfl, by go_num, by omega, below_dn' HQ.out.1 nq, HQ.out.2⟩
          case measure => simp [intOf]; omega
        · rw [htk] at ht
          have HT := Lib.hid htk
          clear htk
          go_wp2_with fail
          go_quiet ((go_at_call 10; exact Calls.quiet_of_same ((ht _).mono fun e w' h => ⟨h.1, h.2.symm⟩)))
          go_wp2_with fail
          go_roundw
          case rel => exact ⟨k + 1, by rw [HST.out, show tk (on, ch, ag) = true from HT.out]; go_num, by go_num, by omega, below_dn' HQ.out.1 nq, HQ.out.2⟩
          case measure => simp [intOf]; omega
      · obtain rfl : k = L.length := by omega
        have hp1 : ¬ ((L.length : Int) < (L.length : Int)) := by omega
        rw [List.take_of_length_le (Nat.le_refl _)]
        obtain ⟨m, hm⟩ : ∃ m, manyT L = m := ⟨_, rfl⟩
        rw [hm] at hm4 ⊢
        clear hm
        go_wp2_with fail
        go_at_call 12
        refine (hPr _ (HR.out.kept HQ.out.1)).mono ?_
        rintro e w3 ⟨A3, c3, rfl, hc3, hr3, q3⟩
        have hs := same_any A2 A3 L L c2 c3 w3 (by omega) (HQ.out.2.kept q3) hr3
        rw [decide_eq_true rfl] at hs
        have Q3 := Lib.hid (bjn HQ.out.1 HQ.out.1.size q3)
        clear hPr hr3 q3
        go_wp2_with fail
        go_at_call 11
        refine hs.mono ?_
        rintro e w4 ⟨rfl, h4⟩
        have Q4 := Lib.hid (bjn Q3.out Q3.out.size (below_of_drew h4))
        clear hs h4
        go_wp2_with fail
        go_ret
        exact ⟨rfl, Q4.out⟩

set_option maxRecDepth 100000 in
set_option maxHeartbeats 4000000 in
theorem modesBack_walk (A : Option Addr) (ps : List ByteArray) (c : Nat) (w : World) (hl : ps.length ≤ maxLen) (hc : ps.length ≤ c) (hs : ∀ s ∈ ps, s.size ≤ maxLen) (hr : RowT w A ps) :
    Calls Try.prog 5 #[.slice A ps.length c] w fun e w' => e = .returned (.bool true) ∧ Below w.heap.size w w' := by
  have HR := Lib.hid hr
  have hG : ∀ W, RowT W A ps → Calls Try.prog 8 #[.slice A ps.length c] W fun e w' => e = .returned (.bool (greatB ps)) ∧ W = w' := fun W h => great_any A ps c W hl hs h
  clear hr
  cases hg : greatB ps with
  | true =>
    rw [hg] at hG
    clear hg hl hs hc
    go_enter Try.func5, Try.ntmps5
    go_wp2_with fail
    go_at_call 7
    refine (awake18 _).mono ?_
    rintro e w1 ⟨rfl, q1⟩
    have Q1 := Lib.hid q1
    clear q1
    go_wp2_with fail
    go_at_call 8
    refine (hG _ (HR.out.kept Q1.out)).mono ?_
    rintro e w' ⟨rfl, rfl⟩
    go_wp2_with fail
    go_ret
    exact ⟨rfl, Q1.out⟩
  | false =>
    rw [hg] at hG
    obtain ⟨hl20, hs60⟩ := greatB_no hg
    have hlen := parse_len ps 60 hs60
    have hback := back_parse ps
    have hP : ∀ W, RowT W A ps → Calls Try.prog 9 #[.slice A ps.length c] W (GivesC W (parseM ps)) := fun W h => parse_any0 A ps c W (by omega) hc (fun h0 => by have := hs60 _ (List.getElem_mem h0); omega) h
    obtain ⟨L, hL⟩ : ∃ L, parseM ps = L := ⟨_, rfl⟩
    rw [hL] at hlen hP hback
    have htl := textS_len L
    have hT : ∀ W A2 c2, RowC W A2 L → Calls Try.prog 16 #[.slice A2 L.length c2] W (GivesT W (textM L)) := fun W A2 c2 h => text_v A2 L c2 W (by omega) h
    have hB : ∀ W A3 c3, (textM L).length ≤ c3 → RowT W A3 (textM L) → Calls Try.prog 9 #[.slice A3 (textM L).length c3] W (GivesC W L) := fun W A3 c3 h1 h2 => by
      have h4 := textM_len L
      have := parse_any0 A3 (textM L) c3 W (by omega) h1 (fun h0 => by have := textM_head L h0; omega) h2
      unfold ParsedTo at this
      rw [hback] at this
      exact this
    obtain ⟨T, hT0⟩ : ∃ T, textM L = T := ⟨_, rfl⟩
    rw [hT0] at hT hB
    clear hg hl hs hL hs60 hl20 hc hback htl hT0
    go_enter Try.func5, Try.ntmps5
    go_wp2_with fail
    go_at_call 7
    refine (awake18 _).mono ?_
    rintro e w1 ⟨rfl, q1⟩
    have Q1 := Lib.hid q1
    clear q1
    go_wp2_with fail
    go_at_call 8
    refine (hG _ (HR.out.kept Q1.out)).mono ?_
    rintro e w' ⟨rfl, rfl⟩
    go_wp2_with fail
    go_at_call 9
    refine (hP _ (HR.out.kept Q1.out)).mono ?_
    rintro e w2 ⟨A2, c2, rfl, hc2, hr2, q2⟩
    have Q2 : Hid (Below w.heap.size w w2 ∧ RowC w2 A2 L) := ⟨bjn Q1.out Q1.out.size q2, hr2⟩
    clear hG hP hr2 q2 hc2
    go_wp2_with fail
    go_loopw [4] (fun i wr => ∃ k : Nat, i = .int .i64 k ∧ k ≤ L.length ∧ Hid (Below w.heap.size w wr ∧ RowC wr A2 L)) (fun i _ => L.length - (intOf i).toNat)
    case atStart => exact ⟨0, rfl, Nat.zero_le _, Q2⟩
    case round =>
      obtain ⟨k, rfl, hk, HQ⟩ := hrel
      by_cases hlt : k < L.length
      · obtain ⟨g2, o2, rfl, hcell⟩ := HQ.out.2 (by omega)
        have hk3 := hcell k hlt
        obtain ⟨⟨on, ch, ag⟩, hx⟩ : ∃ x, L[k] = x := ⟨_, rfl⟩
        rw [hx] at hk3
        obtain ⟨c0, c1, c2'⟩ := hk3
        simp only at c0 c1 c2'
        have hp1 : (k : Int) < (L.length : Int) := by omega
        have hL1 : ∀ W, Calls Try.prog 14 #[.agg #[.bool on, .int .u8 ch.toNat, .string ag]] W fun e w' => e = .returned (.bool (listsB (on, ch, ag))) ∧ Below W.heap.size W w' := fun W => lists_v (on, ch, ag) W
        clear hx hcell
        cases hli : listsB (on, ch, ag)
        · rw [hli] at hL1
          clear hli
          go_wp2_with fail
          go_at_call 14
          refine (hL1 _).mono ?_
          rintro e w3 ⟨rfl, q3⟩
          have Q3 : Hid (Below w.heap.size w w3 ∧ RowC w3 (some ⟨g2, o2, none⟩) L) := ⟨bjn HQ.out.1 HQ.out.1.size q3, HQ.out.2.kept q3⟩
          clear q3 c0 c1 c2'
          go_wp2_with fail
          go_roundw
          case rel => exact ⟨k + 1, by go_num, by omega, Q3⟩
          case measure => simp [intOf]; omega
        · rw [hli] at hL1
          clear hli
          go_wp2_with fail
          go_at_call 14
          refine (hL1 _).mono ?_
          rintro e w3 ⟨rfl, q3⟩
          have Q3 := Lib.hid (bjn HQ.out.1 HQ.out.1.size q3)
          clear q3 c0 c1 c2'
          go_wp2_with fail
          go_ret
          exact ⟨rfl, Q3.out⟩
      · obtain rfl : k = L.length := by omega
        have hp1 : ¬ ((L.length : Int) < (L.length : Int)) := by omega
        go_wp2_with fail
        go_at_call 16
        refine (hT _ _ _ HQ.out.2).mono ?_
        rintro e w3 ⟨A3, c3, rfl, hc3, hr3, q3⟩
        have Q3 : Hid (Below w.heap.size w w3 ∧ RowC w3 A2 L ∧ RowT w3 A3 T) := ⟨bjn HQ.out.1 HQ.out.1.size q3, HQ.out.2.kept q3, hr3⟩
        clear hT q3 hr3
        go_wp2_with fail
        go_at_call 9
        refine (hB _ _ _ hc3 Q3.out.2.2).mono ?_
        rintro e w4 ⟨A4, c4, rfl, hc4, hr4, q4⟩
        have hs := same_any A4 A2 L L c4 c2 w4 (by omega) hr4 (Q3.out.2.1.kept q4)
        rw [decide_eq_true rfl] at hs
        have Q4 := Lib.hid (bjn Q3.out.1 Q3.out.1.size q4)
        clear hB hr4 q4
        go_wp2_with fail
        go_at_call 11
        refine hs.mono ?_
        rintro e w5 ⟨rfl, h5⟩
        have Q5 := Lib.hid (bjn Q4.out Q4.out.size (below_of_drew h5))
        clear hs h5
        go_wp2_with fail
        go_ret
        exact ⟨rfl, Q5.out⟩
end Go.Proofs.Ytbpnaclnninndaa
