/- Arguments that are slices of flat things, opened (by gendec.py). -/
import Derived.Test.YtaajfbbogihbnaaDoorArgsG
import Derived.Test.YtaajfbbogihbnaaDoorChecked
namespace Go.Proofs.YtaajfbbogihbnaaDoor
set_option linter.unusedVariables false
set_option linter.unusedSimpArgs false
open Go Go.ChangeShapes Go.WideShapes Go.RowKit

abbrev zinT : Type := Int
/-- its cells -/
def zinL (x : zinT) : List Value := [.int .i64 x]
def zinG (x : zinT) : Prop := (Lit.int .i64 x).wf = true
set_option maxRecDepth 1000000 in
theorem dec_zin {H : Type} {enc : TypeId × Value → H} {W : World} {base : Nat} {spare : Nat → Bool} {held : Bool} {fuel : Nat} {cs : List Value} {y : DataW H × List MemPlace} (hlen : cs.length = 1) (hf : DataW.trod enc Tryd.prog W base spare held fuel 3 cs = some y) : ∃ x, cs = zinL x ∧ zinG x := by
  obtain ⟨m0, q0, _, z0⟩ := DataW.trod_int Tryd.underlying3 hf
  exact ⟨m0, q0, z0⟩

abbrev zenT : Type := ByteArray × Int
/-- its cells -/
def zenL (x : zenT) : List Value := [.string x.1, .int .i64 x.2]
def zenG (x : zenT) : Prop := x.1.size ≤ maxLen ∧ (Lit.int .i64 x.2).wf = true


abbrev zacT : Type := Int × ByteArray × Int
/-- its cells -/
def zacL (x : zacT) : List Value := [.int .i64 x.1, .string x.2.1, .int .i64 x.2.2]
def zacG (x : zacT) : Prop := (Lit.int .i64 x.1).wf = true ∧ x.2.1.size ≤ maxLen ∧ (Lit.int .i64 x.2.2).wf = true


abbrev ztxT : Type := ByteArray
/-- its cells -/
def ztxL (x : ztxT) : List Value := [.string x]
def ztxG (x : ztxT) : Prop := x.size ≤ maxLen
set_option maxRecDepth 1000000 in
theorem dec_ztx {H : Type} {enc : TypeId × Value → H} {W : World} {base : Nat} {spare : Nat → Bool} {held : Bool} {fuel : Nat} {cs : List Value} {y : DataW H × List MemPlace} (hlen : cs.length = 1) (hf : DataW.trod enc Tryd.prog W base spare held fuel 9 cs = some y) : ∃ x, cs = ztxL x ∧ ztxG x := by
  obtain ⟨s0, q0, _, z0⟩ := DataW.trod_string Tryd.underlying9 hf
  exact ⟨s0, q0, z0⟩
set_option maxRecDepth 1000000 in
theorem open_ztxs {H : Type} {enc : TypeId × Value → H} {W : World} {base : Nat} {v : Value} {d : DataW H} {p : List MemPlace} (hval : Value.okWide Tryd.prog W .any base 40 v) (h : DataW.Trod enc Tryd.prog W 0 (fun _ => true) true 40 v d p) :
    ∃ (A : Option Addr) (l : List ztxT) (c : Nat), v = .slice A l.length c ∧ l.length ≤ c ∧ c ≤ maxLen ∧ (∀ x ∈ l, ztxG x) ∧ (0 < l.length → ∃ g o, A = some ⟨g, o, none⟩ ∧ g < W.heap.size ∧ ∀ i (h : i < l.length) j u, (ztxL l[i])[j]? = some u → W.cell? ⟨g, o + i * 1 + j, none⟩ = some u) := by
  have hc : Tryd.prog.cellsOf 9 = 1 := by kernel_rfl
  exact open_elems (by decide) ztxL ztxG Tryd.underlying40 hc (fun _ _ _ hl hf => dec_ztx hl hf) hval h
end Go.Proofs.YtaajfbbogihbnaaDoor
