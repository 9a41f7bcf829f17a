/- Layer 18: awake; ModesParses, ModesBack. -/
import Derived.Test.YtbpnaclnninndaaModeR
namespace Go.Proofs.Ytbpnaclnninndaa
set_option linter.unusedVariables false
set_option linter.unusedSimpArgs false
open Go.RowKit Go.Shelf

theorem bjn {B : Nat} {w w1 w2 : World} (h : Below B w w1) (hB : B ≤ w1.heap.size) (k : Below w1.heap.size w1 w2) : Below B w w2 := h.trans (k.mono hB)
theorem parse_any0 (A : Option Addr) (ps : List ByteArray) (c : Nat) (w : World) (hl : ps.length ≤ 100000) (hc : ps.length ≤ c) (h0 : ∀ h : 0 < ps.length, ps[0].size ≤ 1000000) (hr : RowT w A ps) :
    Calls Try.prog 9 #[.slice A ps.length c] w (ParsedTo w ps) := by
  by_cases h : 0 < ps.length
  · obtain ⟨g, o, rfl, hcell⟩ := hr h
    refine (parse_v g o c ps w hl hc h0 (lt_of_cell (hcell 0 h)) hcell).mono ?_
    rintro e w' ⟨v, rfl, hown, hB, _⟩
    obtain ⟨A, c', rfl, hc', hrow⟩ := RowC.owned hown
    exact ⟨A, c', rfl, hc', hrow, hB⟩
  · have : ps = [] := List.eq_nil_of_length_eq_zero (by omega)
    subst this
    exact (parse_zero A c w).mono fun e w' ⟨he, hB⟩ => ⟨none, 0, he, Nat.le_refl _, fun h => absurd h (by decide), hB⟩
theorem parse_len (ps : List ByteArray) (n : Nat) (h : ∀ s ∈ ps, s.size ≤ n) : (parseM ps).length ≤ n := by
  unfold parseM
  split
  · rename_i h0
    have h1 := stP_bounds ps h0 (seqL true ps[0].data.toList)
    have h2 := seqL_len true ps[0].data.toList
    have h3 := h ps[0] (List.getElem_mem h0)
    have h4 : ps[0].data.toList.length = ps[0].size := by simp
    have h5 := h1.1
    unfold stP at h5
    omega
  · simp

def plusO : ByteArray := ⟨#[43, 111, 45, 107, 43, 98]⟩
def annB : ByteArray := ⟨#[97, 110, 110]⟩
def keyB : ByteArray := ⟨#[107, 101, 121]⟩
theorem awake_parse : parseM [plusO, annB, keyB] = [(true, 111, annB), (false, 107, keyB), (true, 98, noArg)] := by decide +kernel
theorem rowt3 (w : World) (a b c : ByteArray) : RowT (w.alloc (.cells #[.string a, .string b, .string c] 9)) (some ⟨w.heap.size, 0, none⟩) [a, b, c] := fun _ =>
  ⟨w.heap.size, 0, rfl, fun i hi => by
    have h := cell_of_row _ w.heap.size (0 + i) _ _ _ (heap_alloc_new w (.cells #[.string a, .string b, .string c] 9))
    rw [h]
    rcases i with _ | _ | _ | i
    · rfl
    · rfl
    · rfl
    · simp at hi; omega⟩
theorem rowc3 (w : World) (a b c : Chg) : RowC (w.alloc (.cells (chL [a, b, c]).toArray 29)) (some ⟨w.heap.size, 0, none⟩) [a, b, c] := fun _ =>
  ⟨w.heap.size, 0, rfl, fun i hi => by
    have h := fun j => cell_of_row _ w.heap.size j _ _ _ (heap_alloc_new w (.cells (chL [a, b, c]).toArray 29))
    rw [h, h, h]
    rcases i with _ | _ | _ | i
    · exact ⟨rfl, rfl, rfl⟩
    · exact ⟨rfl, rfl, rfl⟩
    · exact ⟨rfl, rfl, rfl⟩
    · simp at hi; omega⟩

set_option maxHeartbeats 4000000 in
theorem awake18 (w : World) : Calls Try.prog 7 #[] w fun e w' => e = .returned (.bool true) ∧ Below w.heap.size w w' := by
  go_enter Try.func7, Try.ntmps7
  go_wp2_with fail
  have h1 := parse_any0 (some ⟨w.heap.size, 0, none⟩) [plusO, annB, keyB] 3 _ (by decide) (by decide) (by intro _; exact (by decide : plusO.size ≤ 1000000)) (rowt3 w plusO annB keyB)
  go_at_call 9
  refine h1.mono ?_
  rintro e w1 ⟨A1, c1, rfl, hc1, hr1, hB1⟩
  clear h1
  rw [awake_parse] at hc1 hr1 ⊢
  obtain ⟨g1, o1, rfl, hk⟩ := hr1 (by decide)
  have H2 := Lib.hid hr1
  have hB1' : Below w.heap.size w w1 := bjn ((Below.refl _ w).alloc (Nat.le_refl _) _) (by simp) hB1
  have H1 := Lib.hid hB1'
  have k0 := hk 0 (by decide); have k2 := hk 2 (by decide)
  have hg := lt_of_cell k0.1
  clear hk hr1 hB1 hB1'
  go_wp2_with fail
  have h2 := same_any (some ⟨g1, o1, none⟩) (some ⟨w1.heap.size, 0, none⟩) [(true, 111, annB), (false, 107, keyB), (true, 98, noArg)] [(true, 111, annB), (false, 107, keyB), (true, 98, noArg)] c1 3 _ (by decide) (H2.out.kept ((Below.refl _ w1).alloc (Nat.le_refl _) _)) (rowc3 w1 (true, 111, annB) (false, 107, keyB) (true, 98, noArg))
  have L2 : ∀ W, Calls Try.prog 14 #[.agg #[.bool true, .int .u8 98, .string ⟨#[]⟩]] W fun e w' => e = .returned (.bool true) ∧ Below W.heap.size W w' := fun W => (lists_v (true, 98, noArg) W).mono fun e w' h => ⟨by rw [h.1, show listsB (true, 98, noArg) = true by decide +kernel], h.2⟩
  have L0 : ∀ W, Calls Try.prog 14 #[.agg #[.bool true, .int .u8 111, .string annB]] W fun e w' => e = .returned (.bool false) ∧ Below W.heap.size W w' := fun W => (lists_v (true, 111, annB) W).mono fun e w' h => ⟨by rw [h.1, show listsB (true, 111, annB) = false by decide +kernel], h.2⟩
  refine h2.mono ?_
  rintro e w2 ⟨rfl, n2, hw2⟩
  have hB2 : Below w1.heap.size w1 w2 := hw2 ▸ below_dn' ((Below.refl _ w1).alloc (Nat.le_refl _) _) n2
  have x0 : w2.cell? ⟨g1, o1 + 6, none⟩ = some (.bool true) := (hB2.cell (p := ⟨g1, o1 + 6, none⟩) hg).trans k2.1
  have x1 : w2.cell? ⟨g1, o1 + 6 + 1, none⟩ = some (.int .u8 98) := (hB2.cell (p := ⟨g1, o1 + 6 + 1, none⟩) hg).trans k2.2.1
  have x2 : w2.cell? ⟨g1, o1 + 6 + 2, none⟩ = some (.string ⟨#[]⟩) := (hB2.cell (p := ⟨g1, o1 + 6 + 2, none⟩) hg).trans k2.2.2
  have K0 := Lib.hid k0
  have HB2 := Lib.hid hB2
  have hc0 := hB2.size
  clear h2 hw2 hB2 k0 k2 hc1
  have hd : decide ([(true, 111, annB), (false, 107, keyB), (true, 98, noArg)] = ([(true, 111, annB), (false, 107, keyB), (true, 98, noArg)] : List Chg)) = true := decide_eq_true rfl
  rw [hd]
  clear hd
  go_wp2_with fail
  go_at_call 14
  refine (L2 _).mono ?_
  rintro e w3 ⟨rfl, q3⟩
  have hB3 : Below w1.heap.size w1 w3 := bjn HB2.out hc0 q3
  have y0 : w3.cell? ⟨g1, o1, none⟩ = some (.bool true) := (hB3.cell (p := ⟨g1, o1, none⟩) hg).trans K0.out.1
  have y1 : w3.cell? ⟨g1, o1 + 1, none⟩ = some (.int .u8 111) := (hB3.cell (p := ⟨g1, o1 + 1, none⟩) hg).trans K0.out.2.1
  have y2 : w3.cell? ⟨g1, o1 + 2, none⟩ = some (.string annB) := (hB3.cell (p := ⟨g1, o1 + 2, none⟩) hg).trans K0.out.2.2
  have HB3 := Lib.hid hB3
  have hc3 := hB3.size
  clear q3 hB3 x0 x1 x2
  go_wp2_with fail
  go_at_call 14
  refine (L0 _).mono ?_
  rintro e w4 ⟨rfl, q4⟩
  have hB4 : Below w1.heap.size w1 w4 := bjn HB3.out hc3 q4
  have hc1 := H1.out.size
  have hBf : Below w.heap.size w w4 := bjn H1.out hc1 hB4
  have HF := Lib.hid hBf
  clear q4 hB4 hBf y0 y1 y2
  go_wp2_with fail
  go_ret
  exact ⟨rfl, HF.out⟩
end Go.Proofs.Ytbpnaclnninndaa
