/- Arguments that are slices of flat things, opened (by gendec.py). -/
import Derived.Test.YtfdaeajafmcjcaaArgsG
import Derived.Test.YtfdaeajafmcjcaaChecked
namespace Go.Proofs.Ytfdaeajafmcjcaa
set_option linter.unusedVariables false
set_option linter.unusedSimpArgs false
open Go Go.ChangeShapes Go.WideShapes Go.RowKit

abbrev zbkT : Type := Int × ByteArray × Int
/-- its cells -/
def zbkL (x : zbkT) : List Value := [.int .i64 x.1, .string x.2.1, .int .i64 x.2.2]
def zbkG (x : zbkT) : Prop := (Lit.int .i64 x.1).wf = true ∧ x.2.1.size ≤ maxLen ∧ (Lit.int .i64 x.2.2).wf = true
set_option maxRecDepth 1000000 in
theorem dec_zbk {H : Type} {enc : TypeId × Value → H} {W : World} {base : Nat} {spare : Nat → Bool} {held : Bool} {fuel : Nat} {cs : List Value} {y : DataW H × List MemPlace} (hlen : cs.length = 3) (hf : DataW.trod enc Try.prog W base spare held fuel 34 cs = some y) : ∃ x, cs = zbkL x ∧ zbkG x := by
  have ks : Try.prog.cellsOf 9 = 1 := by kernel_rfl
  have ki : Try.prog.cellsOf 3 = 1 := by kernel_rfl
  match cs, hlen with
  | [c0, c1, c2], _ =>
    obtain ⟨xs, n, _, hx, _, hln, hg⟩ := DataW.trod_struct Try.underlying34 hf
    have hl : xs.length = 3 := hln
    have gs : ∀ i, i < 3 → ∃ y, xs[i]? = some y := fun i hi => ⟨xs[i]'(by omega), List.getElem?_eq_getElem (by omega)⟩
    obtain ⟨y0, e0⟩ := gs 0 (by omega)
    have g0 := hg 0 _ rfl
    rw [e0] at g0
    obtain ⟨m0, q0, _, z0⟩ := DataW.trod_int Try.underlying3 g0
    simp [ki] at q0
    obtain ⟨y1, e1⟩ := gs 1 (by omega)
    have g1 := hg 1 _ rfl
    rw [e1] at g1
    obtain ⟨s1, q1, _, z1⟩ := DataW.trod_string Try.underlying9 g1
    simp [ks] at q1
    obtain ⟨y2, e2⟩ := gs 2 (by omega)
    have g2 := hg 2 _ rfl
    rw [e2] at g2
    obtain ⟨m2, q2, _, z2⟩ := DataW.trod_int Try.underlying3 g2
    simp [ki] at q2
    subst q0 q1 q2
    exact ⟨(m0, s1, m2), rfl, ⟨z0, z1, z2⟩⟩
set_option maxRecDepth 1000000 in
theorem open_zbks {H : Type} {enc : TypeId × Value → H} {W : World} {base : Nat} {v : Value} {d : DataW H} {p : List MemPlace} (hval : Value.okWide Try.prog W .any base 22 v) (h : DataW.Trod enc Try.prog W 0 (fun _ => true) true 22 v d p) :
    ∃ (A : Option Addr) (l : List zbkT) (c : Nat), v = .slice A l.length c ∧ l.length ≤ c ∧ c ≤ maxLen ∧ (∀ x ∈ l, zbkG x) ∧ (0 < l.length → ∃ g o, A = some ⟨g, o, none⟩ ∧ g < W.heap.size ∧ ∀ i (h : i < l.length) j u, (zbkL l[i])[j]? = some u → W.cell? ⟨g, o + i * 3 + j, none⟩ = some u) := by
  have hc : Try.prog.cellsOf 34 = 3 := by kernel_rfl
  exact open_elems (by decide) zbkL zbkG Try.underlying22 hc (fun _ _ _ hl hf => dec_zbk hl hf) hval h
end Go.Proofs.Ytfdaeajafmcjcaa
