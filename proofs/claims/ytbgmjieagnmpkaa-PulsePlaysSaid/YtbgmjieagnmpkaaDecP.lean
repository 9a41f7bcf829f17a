/- Arguments that are slices of flat things, opened (by gendec.py). -/
import Derived.Test.YtbgmjieagnmpkaaArgsG
import Derived.Test.YtbgmjieagnmpkaaChecked
namespace Go.Proofs.Ytbgmjieagnmpkaa
set_option linter.unusedVariables false
set_option linter.unusedSimpArgs false
open Go Go.ChangeShapes Go.WideShapes Go.RowKit

abbrev zboT : Type := Bool
/-- its cells -/
def zboL (x : zboT) : List Value := [.bool x]
def zboG (x : zboT) : Prop := True
set_option maxRecDepth 1000000 in
theorem dec_zbo {H : Type} {enc : TypeId × Value → H} {W : World} {base : Nat} {spare : Nat → Bool} {held : Bool} {fuel : Nat} {cs : List Value} {y : DataW H × List MemPlace} (hlen : cs.length = 1) (hf : DataW.trod enc Try.prog W base spare held fuel 4 cs = some y) : ∃ x, cs = zboL x ∧ zboG x := by
  obtain ⟨b0, q0, _⟩ := DataW.trod_bool Try.underlying4 hf
  exact ⟨b0, q0, trivial⟩
set_option maxRecDepth 1000000 in
theorem open_zbos {H : Type} {enc : TypeId × Value → H} {W : World} {base : Nat} {v : Value} {d : DataW H} {p : List MemPlace} (hval : Value.okWide Try.prog W .any base 77 v) (h : DataW.Trod enc Try.prog W 0 (fun _ => true) true 77 v d p) :
    ∃ (A : Option Addr) (l : List zboT) (c : Nat), v = .slice A l.length c ∧ l.length ≤ c ∧ c ≤ maxLen ∧ (∀ x ∈ l, zboG x) ∧ (0 < l.length → ∃ g o, A = some ⟨g, o, none⟩ ∧ g < W.heap.size ∧ ∀ i (h : i < l.length) j u, (zboL l[i])[j]? = some u → W.cell? ⟨g, o + i * 1 + j, none⟩ = some u) := by
  have hc : Try.prog.cellsOf 4 = 1 := by kernel_rfl
  exact open_elems (by decide) zboL zboG Try.underlying77 hc (fun _ _ _ hl hf => dec_zbo hl hf) hval h
abbrev zpaT : Type := Int × Int × Int
/-- its cells -/
def zpaL (x : zpaT) : List Value := [.int .i64 x.1, .int .i64 x.2.1, .int .i64 x.2.2]
def zpaG (x : zpaT) : Prop := (Lit.int .i64 x.1).wf = true ∧ (Lit.int .i64 x.2.1).wf = true ∧ (Lit.int .i64 x.2.2).wf = true
set_option maxRecDepth 1000000 in
theorem dec_zpa {H : Type} {enc : TypeId × Value → H} {W : World} {base : Nat} {spare : Nat → Bool} {held : Bool} {fuel : Nat} {cs : List Value} {y : DataW H × List MemPlace} (hlen : cs.length = 3) (hf : DataW.trod enc Try.prog W base spare held fuel 67 cs = some y) : ∃ x, cs = zpaL x ∧ zpaG x := by
  have ki : Try.prog.cellsOf 3 = 1 := by kernel_rfl
  match cs, hlen with
  | [c0, c1, c2], _ =>
    obtain ⟨xs, n, _, hx, _, hln, hg⟩ := DataW.trod_struct Try.underlying67 hf
    have hl : xs.length = 3 := hln
    have gs : ∀ i, i < 3 → ∃ y, xs[i]? = some y := fun i hi => ⟨xs[i]'(by omega), List.getElem?_eq_getElem (by omega)⟩
    obtain ⟨y0, e0⟩ := gs 0 (by omega)
    have g0 := hg 0 _ rfl
    rw [e0] at g0
    obtain ⟨m0, q0, _, z0⟩ := DataW.trod_int Try.underlying3 g0
    simp [ki] at q0
    obtain ⟨y1, e1⟩ := gs 1 (by omega)
    have g1 := hg 1 _ rfl
    rw [e1] at g1
    obtain ⟨m1, q1, _, z1⟩ := DataW.trod_int Try.underlying3 g1
    simp [ki] at q1
    obtain ⟨y2, e2⟩ := gs 2 (by omega)
    have g2 := hg 2 _ rfl
    rw [e2] at g2
    obtain ⟨m2, q2, _, z2⟩ := DataW.trod_int Try.underlying3 g2
    simp [ki] at q2
    subst q0 q1 q2
    exact ⟨(m0, m1, m2), rfl, ⟨z0, z1, z2⟩⟩
set_option maxRecDepth 1000000 in
theorem open_zpas {H : Type} {enc : TypeId × Value → H} {W : World} {base : Nat} {v : Value} {d : DataW H} {p : List MemPlace} (hval : Value.okWide Try.prog W .any base 57 v) (h : DataW.Trod enc Try.prog W 0 (fun _ => true) true 57 v d p) :
    ∃ (A : Option Addr) (l : List zpaT) (c : Nat), v = .slice A l.length c ∧ l.length ≤ c ∧ c ≤ maxLen ∧ (∀ x ∈ l, zpaG x) ∧ (0 < l.length → ∃ g o, A = some ⟨g, o, none⟩ ∧ g < W.heap.size ∧ ∀ i (h : i < l.length) j u, (zpaL l[i])[j]? = some u → W.cell? ⟨g, o + i * 3 + j, none⟩ = some u) := by
  have hc : Try.prog.cellsOf 67 = 3 := by kernel_rfl
  exact open_elems (by decide) zpaL zpaG Try.underlying57 hc (fun _ _ _ hl hf => dec_zpa hl hf) hval h
end Go.Proofs.Ytbgmjieagnmpkaa
