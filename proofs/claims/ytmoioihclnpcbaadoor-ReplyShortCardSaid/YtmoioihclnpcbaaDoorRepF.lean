/- Layer 14: Numeric. -/
import Derived.Test.YtmoioihclnpcbaaDoorRepE
namespace Go.Proofs.YtmoioihclnpcbaaDoor
set_option linter.unusedVariables false
set_option linter.unusedSimpArgs false
open Go Go.RowKit

theorem d14_nat (n : Nat) : (d14 n).toNat = 48 + n % 10 := by simp [d14]; omega
theorem code_cmd (n : Nat) : cmdB (bs (codeL n)) = true := by
  have h1 : capsB (bs (codeL n)) = false := (allI_no (s := bs (codeL n)) (p := fun _ b => betw 65 90 b) (k := 0) (by simp [codeL]) (by
    show betw 65 90 (d14 (n / 100)) = false
    unfold betw
    rw [d14_nat]
    exact decide_eq_false fun h => by omega)).symm
  have h2 : digsB (bs (codeL n)) = true := allI_iff.2 fun i hi => by
    have h3 : i < 3 := by simpa [codeL] using hi
    obtain rfl | rfl | rfl : i = 0 ∨ i = 1 ∨ i = 2 := by omega
    · show betw 48 57 (d14 (n / 100)) = true
      unfold betw; rw [d14_nat]; exact decide_eq_true ⟨by omega, by omega⟩
    · show betw 48 57 (d14 (n / 10)) = true
      unfold betw; rw [d14_nat]; exact decide_eq_true ⟨by omega, by omega⟩
    · show betw 48 57 (d14 n) = true
      unfold betw; rw [d14_nat]; exact decide_eq_true ⟨by omega, by omega⟩
  unfold cmdB
  rw [h1, h2]
  simp [codeL]
/-- whom a numeric is told -/
def toL (to : List UInt8) : List UInt8 := if to = [] then [42] else to
/-- the line of a numeric -/
def numL (server to : List UInt8) (n : Nat) (ps : List (List UInt8)) : List UInt8 := makeL server (codeL n) (toL to :: ps)
/-- the rows that are put together -/
theorem two_rows (w : World) (to : List UInt8) (v : Value) (N : Nat) (hN : w.heap.size = N) :
    ((w.alloc (.cells #[.string (bs to)] 9)).alloc (.cells #[.slice (some ⟨N, 0, none⟩) 1 1, v] 25)).cell? ⟨N + 1, 0, none⟩ = some (.slice (some ⟨N, 0, none⟩) 1 1) ∧
    ((w.alloc (.cells #[.string (bs to)] 9)).alloc (.cells #[.slice (some ⟨N, 0, none⟩) 1 1, v] 25)).cell? ⟨N + 1, 1, none⟩ = some v ∧
    ((w.alloc (.cells #[.string (bs to)] 9)).alloc (.cells #[.slice (some ⟨N, 0, none⟩) 1 1, v] 25)).cell? ⟨N, 0, none⟩ = some (.string (bs to)) := by
  have h1 := heap_alloc_new (w.alloc (.cells #[.string (bs to)] 9)) (.cells #[.slice (some ⟨N, 0, none⟩) 1 1, v] 25)
  rw [World.size_alloc, hN] at h1
  have h2 := blk_alloc (heap_alloc_new w (.cells #[.string (bs to)] 9)) (.cells #[.slice (some ⟨N, 0, none⟩) 1 1, v] 25)
  rw [hN] at h2
  exact ⟨blk_cell h1 0, blk_cell h1 1, blk_cell h2 0⟩
theorem conc_rows (w1 : World) (to : List UInt8) (A : Option Addr) (c : Nat) (ps : List (List UInt8)) (hR : ReadsT w1 A ps) (hl : ps.length ≤ 14) :
    Calls Tryd.prog 12 #[.slice (some ⟨w1.heap.size + 1, 0, none⟩) 2 2] ((w1.alloc (.cells #[.string (bs to)] 9)).alloc (.cells #[.slice (some ⟨w1.heap.size, 0, none⟩) 1 1, .slice A ps.length c] 25)) fun e w' => ∃ A2 c2, e = .returned (.slice A2 (to :: ps).length c2) ∧ ReadsT w' A2 (to :: ps) ∧ Below w1.heap.size w1 w' := by
  obtain ⟨h1, h2, h3⟩ := two_rows w1 to (.slice A ps.length c) w1.heap.size rfl
  obtain ⟨W, hW⟩ : ∃ W, ((w1.alloc (.cells #[.string (bs to)] 9)).alloc (.cells #[.slice (some ⟨w1.heap.size, 0, none⟩) 1 1, .slice A ps.length c] 25)) = W := ⟨_, rfl⟩
  have hs : W.heap.size = w1.heap.size + 2 := by rw [← hW]; simp
  have hb : Below w1.heap.size w1 W := by rw [← hW]; exact ((Below.refl _ w1).alloc (Nat.le_refl _) _).alloc (by simp) _
  rw [hW] at h1 h2 h3 ⊢
  have hr1 : ReadsT W (some ⟨w1.heap.size, 0, none⟩) [to] := fun _ => ⟨_, _, rfl, by omega, fun j hj => by
    obtain rfl : j = 0 := by simpa using hj
    exact h3⟩
  refine (concatM (w1.heap.size + 1) 2 (some ⟨w1.heap.size, 0, none⟩) A 1 c [to] ps W h1 h2 hr1 (readsT_below hR hb (Nat.le_refl _)) (by simp only [List.length_cons, List.length_nil]; omega) (by simp; omega) (by omega)).mono ?_
  rintro e w' ⟨v, rfl, ho, hb2⟩
  obtain ⟨A2, c2, rfl⟩ := row_slice ho
  exact ⟨A2, c2, rfl, reads_ownT ho, hb.trans (hb2.mono (by omega))⟩
set_option maxRecDepth 100000 in
set_option maxHeartbeats 8000000 in
theorem numericM (server to : List UInt8) (n : Nat) (A : Option Addr) (c : Nat) (ps : List (List UInt8)) (w : World) (hR : ReadsT w A ps) (hm : Mx w) (hp : PowW w) (h0 : 1 ≤ n) (h1 : n ≤ 999) (h2 : ps.length ≤ 14) (h3 : server.length ≤ 1000000) (h4 : to.length ≤ 90000) (h5 : ∀ p ∈ ps, p.length ≤ 90000) :
    Calls Tryd.prog 8 #[.string (bs server), .int .i64 n, .string (bs to), .slice A ps.length c] w fun e w' => e = .returned (.string (bs (numL server to n ps))) ∧ Below w.heap.size w w' := by
  have HR := Lib.hid hR
  have HM := Lib.hid hm
  have HD := Lib.hid (digitsM n h0 h1 w hp)
  clear hR hm hp
  unfold numL
  cases to with
  | nil =>
    have e0 : bs ([] : List UInt8) = ({ data := #[] } : ByteArray) := rfl
    rw [e0, show toL [] = [42] from rfl]
    clear e0
    go_enter Tryd.func8, Tryd.ntmps8
    go_wp2_with fail
    refine HD.out.mono ?_
    rintro e w1 ⟨rfl, hb1⟩
    have hs1 := hb1.size
    have HC := Lib.hid (conc_rows w1 ([42]) A c ps (readsT_below HR.out hb1 (Nat.le_refl _)) h2)
    have HB1 := Lib.hid hb1
    have HS1 := Lib.hid hs1
    clear hb1 hs1
    go_wp2_with fail
    refine HC.out.mono ?_
    rintro e w2 ⟨A2, c2, rfl, hr2, hb2⟩
    have HW := Lib.hid (HB1.out.trans (hb2.mono HS1.out))
    have HMK := Lib.hid (makeM server (codeL n) A2 c2 (([42]) :: ps) w2 hr2 (mx_kept HM.out HW.out (Nat.le_refl _)) (code_cmd n) h3 (by simp [codeL]) (by simp; omega) (by
      intro p hp
      rcases List.mem_cons.1 hp with rfl | hp
      · first | exact h4 | simp
      · exact h5 p hp))
    clear hr2 hb2 HC
    go_wp2_with fail
    refine HMK.out.mono ?_
    rintro e w3 ⟨rfl, hb3⟩
    have HB3 := Lib.hid hb3
    clear hb3
    go_wp2_with fail
    go_ret
    exact ⟨rfl, HW.out.trans (HB3.out.mono HW.out.size)⟩
  | cons b0 r0 =>
    have hemp := str_ne (s := bs (b0 :: r0)) (by simp)
    rw [show toL (b0 :: r0) = b0 :: r0 from rfl]
    go_enter Tryd.func8, Tryd.ntmps8
    go_wp2_with fail
    refine HD.out.mono ?_
    rintro e w1 ⟨rfl, hb1⟩
    have hs1 := hb1.size
    have HC := Lib.hid (conc_rows w1 (b0 :: r0) A c ps (readsT_below HR.out hb1 (Nat.le_refl _)) h2)
    have HB1 := Lib.hid hb1
    have HS1 := Lib.hid hs1
    clear hb1 hs1
    go_wp2_with fail
    refine HC.out.mono ?_
    rintro e w2 ⟨A2, c2, rfl, hr2, hb2⟩
    have HW := Lib.hid (HB1.out.trans (hb2.mono HS1.out))
    have HMK := Lib.hid (makeM server (codeL n) A2 c2 ((b0 :: r0) :: ps) w2 hr2 (mx_kept HM.out HW.out (Nat.le_refl _)) (code_cmd n) h3 (by simp [codeL]) (by simp; omega) (by
      intro p hp
      rcases List.mem_cons.1 hp with rfl | hp
      · first | exact h4 | simp
      · exact h5 p hp))
    clear hr2 hb2 HC
    go_wp2_with fail
    refine HMK.out.mono ?_
    rintro e w3 ⟨rfl, hb3⟩
    have HB3 := Lib.hid hb3
    clear hb3
    go_wp2_with fail
    go_ret
    exact ⟨rfl, HW.out.trans (HB3.out.mono HW.out.size)⟩
end Go.Proofs.YtmoioihclnpcbaaDoor
