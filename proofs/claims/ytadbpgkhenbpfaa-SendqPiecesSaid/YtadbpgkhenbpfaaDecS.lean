/- Arguments that are slices of flat things, opened (by gendec.py). -/
import Derived.Test.YtadbpgkhenbpfaaArgsG
import Derived.Test.YtadbpgkhenbpfaaChecked
namespace Go.Proofs.Ytadbpgkhenbpfaa
set_option linter.unusedVariables false
set_option linter.unusedSimpArgs false
open Go Go.ChangeShapes Go.WideShapes Go.RowKit

abbrev zsqT : Type := Int × ByteArray × Int
/-- its cells -/
def zsqL (x : zsqT) : List Value := [.int .i64 x.1, .string x.2.1, .int .i64 x.2.2]
def zsqG (x : zsqT) : Prop := (Lit.int .i64 x.1).wf = true ∧ x.2.1.size ≤ maxLen ∧ (Lit.int .i64 x.2.2).wf = true
set_option maxRecDepth 1000000 in
theorem dec_zsq {H : Type} {enc : TypeId × Value → H} {W : World} {base : Nat} {spare : Nat → Bool} {held : Bool} {fuel : Nat} {cs : List Value} {y : DataW H × List MemPlace} (hlen : cs.length = 3) (hf : DataW.trod enc Try.prog W base spare held fuel 25 cs = some y) : ∃ x, cs = zsqL x ∧ zsqG x := by
  have ks : Try.prog.cellsOf 9 = 1 := by kernel_rfl
  have ki : Try.prog.cellsOf 3 = 1 := by kernel_rfl
  match cs, hlen with
  | [c0, c1, c2], _ =>
    obtain ⟨xs, n, _, hx, _, hln, hg⟩ := DataW.trod_struct Try.underlying25 hf
    have hl : xs.length = 3 := hln
    have gs : ∀ i, i < 3 → ∃ y, xs[i]? = some y := fun i hi => ⟨xs[i]'(by omega), List.getElem?_eq_getElem (by omega)⟩
    obtain ⟨y0, e0⟩ := gs 0 (by omega)
    have g0 := hg 0 _ rfl
    rw [e0] at g0
    obtain ⟨m0, q0, _, z0⟩ := DataW.trod_int Try.underlying3 g0
    simp [ki] at q0
    obtain ⟨y1, e1⟩ := gs 1 (by omega)
    have g1 := hg 1 _ rfl
    rw [e1] at g1
    obtain ⟨s1, q1, _, z1⟩ := DataW.trod_string Try.underlying9 g1
    simp [ks] at q1
    obtain ⟨y2, e2⟩ := gs 2 (by omega)
    have g2 := hg 2 _ rfl
    rw [e2] at g2
    obtain ⟨m2, q2, _, z2⟩ := DataW.trod_int Try.underlying3 g2
    simp [ki] at q2
    subst q0 q1 q2
    exact ⟨(m0, s1, m2), rfl, ⟨z0, z1, z2⟩⟩
set_option maxRecDepth 1000000 in
theorem open_zsqs {H : Type} {enc : TypeId × Value → H} {W : World} {base : Nat} {v : Value} {d : DataW H} {p : List MemPlace} (hval : Value.okWide Try.prog W .any base 22 v) (h : DataW.Trod enc Try.prog W 0 (fun _ => true) true 22 v d p) :
    ∃ (A : Option Addr) (l : List zsqT) (c : Nat), v = .slice A l.length c ∧ l.length ≤ c ∧ c ≤ maxLen ∧ (∀ x ∈ l, zsqG x) ∧ (0 < l.length → ∃ g o, A = some ⟨g, o, none⟩ ∧ g < W.heap.size ∧ ∀ i (h : i < l.length) j u, (zsqL l[i])[j]? = some u → W.cell? ⟨g, o + i * 3 + j, none⟩ = some u) := by
  have hc : Try.prog.cellsOf 25 = 3 := by kernel_rfl
  exact open_elems (by decide) zsqL zsqG Try.underlying22 hc (fun _ _ _ hl hf => dec_zsq hl hf) hval h
abbrev zbyT : Type := Int
/-- its cells -/
def zbyL (x : zbyT) : List Value := [.int .u8 x]
def zbyG (x : zbyT) : Prop := (Lit.int .u8 x).wf = true
set_option maxRecDepth 1000000 in
theorem dec_zby {H : Type} {enc : TypeId × Value → H} {W : World} {base : Nat} {spare : Nat → Bool} {held : Bool} {fuel : Nat} {cs : List Value} {y : DataW H × List MemPlace} (hlen : cs.length = 1) (hf : DataW.trod enc Try.prog W base spare held fuel 5 cs = some y) : ∃ x, cs = zbyL x ∧ zbyG x := by
  obtain ⟨m0, q0, _, z0⟩ := DataW.trod_int Try.underlying5 hf
  exact ⟨m0, q0, z0⟩
set_option maxRecDepth 1000000 in
theorem open_zbys {H : Type} {enc : TypeId × Value → H} {W : World} {base : Nat} {v : Value} {d : DataW H} {p : List MemPlace} (hval : Value.okWide Try.prog W .any base 34 v) (h : DataW.Trod enc Try.prog W 0 (fun _ => true) true 34 v d p) :
    ∃ (A : Option Addr) (l : List zbyT) (c : Nat), v = .slice A l.length c ∧ l.length ≤ c ∧ c ≤ maxLen ∧ (∀ x ∈ l, zbyG x) ∧ (0 < l.length → ∃ g o, A = some ⟨g, o, none⟩ ∧ g < W.heap.size ∧ ∀ i (h : i < l.length) j u, (zbyL l[i])[j]? = some u → W.cell? ⟨g, o + i * 1 + j, none⟩ = some u) := by
  have hc : Try.prog.cellsOf 5 = 1 := by kernel_rfl
  exact open_elems (by decide) zbyL zbyG Try.underlying34 hc (fun _ _ _ hl hf => dec_zby hl hf) hval h
end Go.Proofs.Ytadbpgkhenbpfaa
