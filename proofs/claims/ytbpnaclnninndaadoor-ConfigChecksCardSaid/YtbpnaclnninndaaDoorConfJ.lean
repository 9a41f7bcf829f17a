/- An argument that is a configuration, opened. -/
import Derived.Test.YtbpnaclnninndaaDoorConfE
import Derived.Test.YtbpnaclnninndaaDoorFlat
import Derived.ProofKit
import Derived.OpenShut
import Derived.ShutString
namespace Go.Proofs.YtbpnaclnninndaaDoor
set_option linter.unusedVariables false
set_option linter.unusedSimpArgs false
open Go Go.ChangeShapes Go.WideShapes Go.RowKit

set_option maxRecDepth 1000000 in
theorem cfg_plain : ∀ f ∈ ((Tryd.prog.underlying 34).elim #[] fun d => match d with | .struct fs => fs | _ => #[]).toList, Plain Tryd.prog f.type := by
  rw [Tryd.underlying34]
  intro f hf
  simp only [Option.elim, List.mem_cons, List.mem_nil_iff, or_false] at hf
  rcases hf with rfl | rfl | rfl | rfl | rfl | rfl | rfl | rfl | rfl | rfl | rfl | rfl | rfl | rfl | rfl
  all_goals first | exact .inl Tryd.underlying9 | exact .inr ⟨_, Tryd.underlying3⟩
set_option maxRecDepth 1000000 in
set_option maxHeartbeats 4000000 in
theorem open_cfg {H : Type} {enc : TypeId × Value → H} {W : World} {base b0 : Nat} {spare : Nat → Bool} {held : Bool} {r : Reach} {v : Value} {d : DataW H} {p : List MemPlace}
    (hv : Value.okWide Tryd.prog W r b0 34 v) (h : DataW.Trod enc Tryd.prog W base spare held 34 v d p) :
    ∃ (nm ps on op : ByteArray) (n0 n1 n2 n3 n4 n5 n6 n7 n8 n9 n10 : Int), v = cfg nm ps on op n0 n1 n2 n3 n4 n5 n6 n7 n8 n9 n10 ∧ nm.size ≤ maxLen ∧ ps.size ≤ maxLen ∧ on.size ≤ maxLen ∧ op.size ≤ maxLen := by
  have hC : Tryd.prog.cellsOf 34 = 15 := by kernel_rfl
  have k5 : Tryd.prog.cellsOf 9 = 1 := by kernel_rfl
  have k3 : Tryd.prog.cellsOf 3 = 1 := by kernel_rfl
  obtain ⟨cs, rfl, hsz⟩ := okWide_struct Tryd.underlying34 hv
  obtain ⟨l⟩ := cs
  match l, hsz.trans hC with
  | [c0, c1, c2, c3, c4, c5, c6, c7, c8, c9, c10, c11, c12, c13, c14], _ =>
    obtain ⟨fuel, hf⟩ := h
    obtain ⟨xs, n, _, hx, _, hlen, hg⟩ := DataW.trod_struct Tryd.underlying34 hf
    have hl : xs.length = 15 := hlen
    have gs : ∀ i, i < 15 → ∃ y, xs[i]? = some y := fun i hi => ⟨xs[i]'(by omega), List.getElem?_eq_getElem (by omega)⟩
    obtain ⟨y0, e0⟩ := gs 0 (by omega)
    have g0 := hg 0 _ rfl
    rw [e0] at g0
    obtain ⟨s0, q0, _, z0⟩ := DataW.trod_string Tryd.underlying9 g0
    simp [Value.cells, k5] at q0
    obtain ⟨y1, e1⟩ := gs 1 (by omega)
    have g1 := hg 1 _ rfl
    rw [e1] at g1
    obtain ⟨s1, q1, _, z1⟩ := DataW.trod_string Tryd.underlying9 g1
    simp [Value.cells, k5] at q1
    obtain ⟨y2, e2⟩ := gs 2 (by omega)
    have g2 := hg 2 _ rfl
    rw [e2] at g2
    obtain ⟨s2, q2, _, z2⟩ := DataW.trod_string Tryd.underlying9 g2
    simp [Value.cells, k5] at q2
    obtain ⟨y3, e3⟩ := gs 3 (by omega)
    have g3 := hg 3 _ rfl
    rw [e3] at g3
    obtain ⟨s3, q3, _, z3⟩ := DataW.trod_string Tryd.underlying9 g3
    simp [Value.cells, k5] at q3
    obtain ⟨y4, e4⟩ := gs 4 (by omega)
    have g4 := hg 4 _ rfl
    rw [e4] at g4
    obtain ⟨m4, q4, _⟩ := DataW.trod_int Tryd.underlying3 g4
    simp [Value.cells, k3] at q4
    obtain ⟨y5, e5⟩ := gs 5 (by omega)
    have g5 := hg 5 _ rfl
    rw [e5] at g5
    obtain ⟨m5, q5, _⟩ := DataW.trod_int Tryd.underlying3 g5
    simp [Value.cells, k3] at q5
    obtain ⟨y6, e6⟩ := gs 6 (by omega)
    have g6 := hg 6 _ rfl
    rw [e6] at g6
    obtain ⟨m6, q6, _⟩ := DataW.trod_int Tryd.underlying3 g6
    simp [Value.cells, k3] at q6
    obtain ⟨y7, e7⟩ := gs 7 (by omega)
    have g7 := hg 7 _ rfl
    rw [e7] at g7
    obtain ⟨m7, q7, _⟩ := DataW.trod_int Tryd.underlying3 g7
    simp [Value.cells, k3] at q7
    obtain ⟨y8, e8⟩ := gs 8 (by omega)
    have g8 := hg 8 _ rfl
    rw [e8] at g8
    obtain ⟨m8, q8, _⟩ := DataW.trod_int Tryd.underlying3 g8
    simp [Value.cells, k3] at q8
    obtain ⟨y9, e9⟩ := gs 9 (by omega)
    have g9 := hg 9 _ rfl
    rw [e9] at g9
    obtain ⟨m9, q9, _⟩ := DataW.trod_int Tryd.underlying3 g9
    simp [Value.cells, k3] at q9
    obtain ⟨y10, e10⟩ := gs 10 (by omega)
    have g10 := hg 10 _ rfl
    rw [e10] at g10
    obtain ⟨m10, q10, _⟩ := DataW.trod_int Tryd.underlying3 g10
    simp [Value.cells, k3] at q10
    obtain ⟨y11, e11⟩ := gs 11 (by omega)
    have g11 := hg 11 _ rfl
    rw [e11] at g11
    obtain ⟨m11, q11, _⟩ := DataW.trod_int Tryd.underlying3 g11
    simp [Value.cells, k3] at q11
    obtain ⟨y12, e12⟩ := gs 12 (by omega)
    have g12 := hg 12 _ rfl
    rw [e12] at g12
    obtain ⟨m12, q12, _⟩ := DataW.trod_int Tryd.underlying3 g12
    simp [Value.cells, k3] at q12
    obtain ⟨y13, e13⟩ := gs 13 (by omega)
    have g13 := hg 13 _ rfl
    rw [e13] at g13
    obtain ⟨m13, q13, _⟩ := DataW.trod_int Tryd.underlying3 g13
    simp [Value.cells, k3] at q13
    obtain ⟨y14, e14⟩ := gs 14 (by omega)
    have g14 := hg 14 _ rfl
    rw [e14] at g14
    obtain ⟨m14, q14, _⟩ := DataW.trod_int Tryd.underlying3 g14
    simp [Value.cells, k3] at q14
    subst q0 q1 q2 q3 q4 q5 q6 q7 q8 q9 q10 q11 q12 q13 q14
    exact ⟨s0, s1, s2, s3, m4, m5, m6, m7, m8, m9, m10, m11, m12, m13, m14, rfl, z0, z1, z2, z3⟩
theorem cfg_Trod {H : Type} {enc : TypeId × Value → H} {W W' : World} {base base' : Nat} {spare spare' : Nat → Bool} {held held' : Bool} {v : Value} {d : DataW H} {p : List MemPlace}
    (h : DataW.Trod enc Tryd.prog W base spare held 34 v d p) : DataW.Trod enc Tryd.prog W' base' spare' held' 34 v d p :=
  flat_Trod Tryd.underlying34 (fun f hf => cfg_plain f (by rw [Tryd.underlying34]; exact hf)) h
end Go.Proofs.YtbpnaclnninndaaDoor
