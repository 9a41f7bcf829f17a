/- Arguments that are somebody, or a member, by value, opened. -/
import Derived.Test.YteepgklilhljiaaDoorPersB
import Derived.ProofKit
import Derived.OpenShut
import Derived.ShutString
import Derived.ChangeArms
import Derived.ChangeSame
import Derived.WideShapes
namespace Go.Proofs.YteepgklilhljiaaDoor
set_option linter.unusedVariables false
set_option linter.unusedSimpArgs false
open Go Go.ChangeShapes Go.WideShapes Go.RowKit

set_option maxRecDepth 1000000 in
set_option maxHeartbeats 4000000 in
theorem open_per {H : Type} {enc : TypeId × Value → H} {W : World} {base b0 : Nat} {spare : Nat → Bool} {held : Bool} {r : Reach} {v : Value} {d : DataW H} {p : List MemPlace}
    (hv : Value.okWide Tryd.prog W r b0 26 v) (h : DataW.Trod enc Tryd.prog W base spare held 26 v d p) :
    ∃ (m0 : Int) (s1 : ByteArray) (s2 : ByteArray) (s3 : ByteArray) (s4 : ByteArray) (s5 : ByteArray) (b6 : Bool) (b7 : Bool) (m8 : Int) (m9 : Int), v = per m0 s1 s2 s3 s4 s5 b6 b7 m8 m9 ∧ s1.size ≤ maxLen ∧ s2.size ≤ maxLen ∧ s3.size ≤ maxLen ∧ s4.size ≤ maxLen ∧ s5.size ≤ maxLen := by
  have hC : Tryd.prog.cellsOf 26 = 10 := by kernel_rfl
  have ks : Tryd.prog.cellsOf 9 = 1 := by kernel_rfl
  have ki : Tryd.prog.cellsOf 3 = 1 := by kernel_rfl
  have kb : Tryd.prog.cellsOf 4 = 1 := by kernel_rfl
  obtain ⟨cs, rfl, hsz⟩ := okWide_struct Tryd.underlying26 hv
  obtain ⟨l⟩ := cs
  match l, hsz.trans hC with
  | [c0, c1, c2, c3, c4, c5, c6, c7, c8, c9], _ =>
    obtain ⟨fuel, hf⟩ := h
    obtain ⟨xs, n, _, hx, _, hlen, hg⟩ := DataW.trod_struct Tryd.underlying26 hf
    have hl : xs.length = 10 := hlen
    have gs : ∀ i, i < 10 → ∃ y, xs[i]? = some y := fun i hi => ⟨xs[i]'(by omega), List.getElem?_eq_getElem (by omega)⟩
    obtain ⟨y0, e0⟩ := gs 0 (by omega)
    have g0 := hg 0 _ rfl
    rw [e0] at g0
    obtain ⟨m0, q0, _⟩ := DataW.trod_int Tryd.underlying3 g0
    simp [Value.cells, ki] at q0
    obtain ⟨y1, e1⟩ := gs 1 (by omega)
    have g1 := hg 1 _ rfl
    rw [e1] at g1
    obtain ⟨s1, q1, _, z1⟩ := DataW.trod_string Tryd.underlying9 g1
    simp [Value.cells, ks] at q1
    obtain ⟨y2, e2⟩ := gs 2 (by omega)
    have g2 := hg 2 _ rfl
    rw [e2] at g2
    obtain ⟨s2, q2, _, z2⟩ := DataW.trod_string Tryd.underlying9 g2
    simp [Value.cells, ks] at q2
    obtain ⟨y3, e3⟩ := gs 3 (by omega)
    have g3 := hg 3 _ rfl
    rw [e3] at g3
    obtain ⟨s3, q3, _, z3⟩ := DataW.trod_string Tryd.underlying9 g3
    simp [Value.cells, ks] at q3
    obtain ⟨y4, e4⟩ := gs 4 (by omega)
    have g4 := hg 4 _ rfl
    rw [e4] at g4
    obtain ⟨s4, q4, _, z4⟩ := DataW.trod_string Tryd.underlying9 g4
    simp [Value.cells, ks] at q4
    obtain ⟨y5, e5⟩ := gs 5 (by omega)
    have g5 := hg 5 _ rfl
    rw [e5] at g5
    obtain ⟨s5, q5, _, z5⟩ := DataW.trod_string Tryd.underlying9 g5
    simp [Value.cells, ks] at q5
    obtain ⟨y6, e6⟩ := gs 6 (by omega)
    have g6 := hg 6 _ rfl
    rw [e6] at g6
    obtain ⟨b6, q6, _⟩ := DataW.trod_bool Tryd.underlying4 g6
    simp [Value.cells, kb] at q6
    obtain ⟨y7, e7⟩ := gs 7 (by omega)
    have g7 := hg 7 _ rfl
    rw [e7] at g7
    obtain ⟨b7, q7, _⟩ := DataW.trod_bool Tryd.underlying4 g7
    simp [Value.cells, kb] at q7
    obtain ⟨y8, e8⟩ := gs 8 (by omega)
    have g8 := hg 8 _ rfl
    rw [e8] at g8
    obtain ⟨m8, q8, _⟩ := DataW.trod_int Tryd.underlying3 g8
    simp [Value.cells, ki] at q8
    obtain ⟨y9, e9⟩ := gs 9 (by omega)
    have g9 := hg 9 _ rfl
    rw [e9] at g9
    obtain ⟨m9, q9, _⟩ := DataW.trod_int Tryd.underlying3 g9
    simp [Value.cells, ki] at q9
    subst q0 q1 q2 q3 q4 q5 q6 q7 q8 q9
    exact ⟨m0, s1, s2, s3, s4, s5, b6, b7, m8, m9, rfl, z1, z2, z3, z4, z5⟩
set_option maxRecDepth 1000000 in
set_option maxHeartbeats 4000000 in
theorem open_memb {H : Type} {enc : TypeId × Value → H} {W : World} {base b0 : Nat} {spare : Nat → Bool} {held : Bool} {r : Reach} {v : Value} {d : DataW H} {p : List MemPlace}
    (hv : Value.okWide Tryd.prog W r b0 28 v) (h : DataW.Trod enc Tryd.prog W base spare held 28 v d p) :
    ∃ (m0 : Int) (b1 : Bool) (b2 : Bool), v = memb m0 b1 b2 := by
  have hC : Tryd.prog.cellsOf 28 = 3 := by kernel_rfl
  have ki : Tryd.prog.cellsOf 3 = 1 := by kernel_rfl
  have kb : Tryd.prog.cellsOf 4 = 1 := by kernel_rfl
  obtain ⟨cs, rfl, hsz⟩ := okWide_struct Tryd.underlying28 hv
  obtain ⟨l⟩ := cs
  match l, hsz.trans hC with
  | [c0, c1, c2], _ =>
    obtain ⟨fuel, hf⟩ := h
    obtain ⟨xs, n, _, hx, _, hlen, hg⟩ := DataW.trod_struct Tryd.underlying28 hf
    have hl : xs.length = 3 := hlen
    have gs : ∀ i, i < 3 → ∃ y, xs[i]? = some y := fun i hi => ⟨xs[i]'(by omega), List.getElem?_eq_getElem (by omega)⟩
    obtain ⟨y0, e0⟩ := gs 0 (by omega)
    have g0 := hg 0 _ rfl
    rw [e0] at g0
    obtain ⟨m0, q0, _⟩ := DataW.trod_int Tryd.underlying3 g0
    simp [Value.cells, ki] at q0
    obtain ⟨y1, e1⟩ := gs 1 (by omega)
    have g1 := hg 1 _ rfl
    rw [e1] at g1
    obtain ⟨b1, q1, _⟩ := DataW.trod_bool Tryd.underlying4 g1
    simp [Value.cells, kb] at q1
    obtain ⟨y2, e2⟩ := gs 2 (by omega)
    have g2 := hg 2 _ rfl
    rw [e2] at g2
    obtain ⟨b2, q2, _⟩ := DataW.trod_bool Tryd.underlying4 g2
    simp [Value.cells, kb] at q2
    subst q0 q1 q2
    exact ⟨m0, b1, b2, rfl⟩
end Go.Proofs.YteepgklilhljiaaDoor
