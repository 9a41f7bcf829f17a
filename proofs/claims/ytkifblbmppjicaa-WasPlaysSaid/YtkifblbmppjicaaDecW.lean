/- Arguments that are slices of flat things, opened (by gendec.py). -/
import Derived.Test.YtkifblbmppjicaaArgsG
import Derived.Test.YtkifblbmppjicaaChecked
namespace Go.Proofs.Ytkifblbmppjicaa
set_option linter.unusedVariables false
set_option linter.unusedSimpArgs false
open Go Go.ChangeShapes Go.WideShapes Go.RowKit

abbrev zinT : Type := Int
/-- its cells -/
def zinL (x : zinT) : List Value := [.int .i64 x]
def zinG (x : zinT) : Prop := (Lit.int .i64 x).wf = true
set_option maxRecDepth 1000000 in
theorem dec_zin {H : Type} {enc : TypeId × Value → H} {W : World} {base : Nat} {spare : Nat → Bool} {held : Bool} {fuel : Nat} {cs : List Value} {y : DataW H × List MemPlace} (hlen : cs.length = 1) (hf : DataW.trod enc Try.prog W base spare held fuel 3 cs = some y) : ∃ x, cs = zinL x ∧ zinG x := by
  obtain ⟨m0, q0, _, z0⟩ := DataW.trod_int Try.underlying3 hf
  exact ⟨m0, q0, z0⟩
set_option maxRecDepth 1000000 in
theorem open_zins {H : Type} {enc : TypeId × Value → H} {W : World} {base : Nat} {v : Value} {d : DataW H} {p : List MemPlace} (hval : Value.okWide Try.prog W .any base 35 v) (h : DataW.Trod enc Try.prog W 0 (fun _ => true) true 35 v d p) :
    ∃ (A : Option Addr) (l : List zinT) (c : Nat), v = .slice A l.length c ∧ l.length ≤ c ∧ c ≤ maxLen ∧ (∀ x ∈ l, zinG x) ∧ (0 < l.length → ∃ g o, A = some ⟨g, o, none⟩ ∧ g < W.heap.size ∧ ∀ i (h : i < l.length) j u, (zinL l[i])[j]? = some u → W.cell? ⟨g, o + i * 1 + j, none⟩ = some u) := by
  have hc : Try.prog.cellsOf 3 = 1 := by kernel_rfl
  exact open_elems (by decide) zinL zinG Try.underlying35 hc (fun _ _ _ hl hf => dec_zin hl hf) hval h
abbrev zenT : Type := ByteArray × Int
/-- its cells -/
def zenL (x : zenT) : List Value := [.string x.1, .int .i64 x.2]
def zenG (x : zenT) : Prop := x.1.size ≤ maxLen ∧ (Lit.int .i64 x.2).wf = true
set_option maxRecDepth 1000000 in
theorem dec_zen {H : Type} {enc : TypeId × Value → H} {W : World} {base : Nat} {spare : Nat → Bool} {held : Bool} {fuel : Nat} {cs : List Value} {y : DataW H × List MemPlace} (hlen : cs.length = 2) (hf : DataW.trod enc Try.prog W base spare held fuel 29 cs = some y) : ∃ x, cs = zenL x ∧ zenG x := by
  have ks : Try.prog.cellsOf 9 = 1 := by kernel_rfl
  have ki : Try.prog.cellsOf 3 = 1 := by kernel_rfl
  match cs, hlen with
  | [c0, c1], _ =>
    obtain ⟨xs, n, _, hx, _, hln, hg⟩ := DataW.trod_struct Try.underlying29 hf
    have hl : xs.length = 2 := hln
    have gs : ∀ i, i < 2 → ∃ y, xs[i]? = some y := fun i hi => ⟨xs[i]'(by omega), List.getElem?_eq_getElem (by omega)⟩
    obtain ⟨y0, e0⟩ := gs 0 (by omega)
    have g0 := hg 0 _ rfl
    rw [e0] at g0
    obtain ⟨s0, q0, _, z0⟩ := DataW.trod_string Try.underlying9 g0
    simp [ks] at q0
    obtain ⟨y1, e1⟩ := gs 1 (by omega)
    have g1 := hg 1 _ rfl
    rw [e1] at g1
    obtain ⟨m1, q1, _, z1⟩ := DataW.trod_int Try.underlying3 g1
    simp [ki] at q1
    subst q0 q1
    exact ⟨(s0, m1), rfl, ⟨z0, z1⟩⟩
set_option maxRecDepth 1000000 in
theorem open_zens {H : Type} {enc : TypeId × Value → H} {W : World} {base : Nat} {v : Value} {d : DataW H} {p : List MemPlace} (hval : Value.okWide Try.prog W .any base 22 v) (h : DataW.Trod enc Try.prog W 0 (fun _ => true) true 22 v d p) :
    ∃ (A : Option Addr) (l : List zenT) (c : Nat), v = .slice A l.length c ∧ l.length ≤ c ∧ c ≤ maxLen ∧ (∀ x ∈ l, zenG x) ∧ (0 < l.length → ∃ g o, A = some ⟨g, o, none⟩ ∧ g < W.heap.size ∧ ∀ i (h : i < l.length) j u, (zenL l[i])[j]? = some u → W.cell? ⟨g, o + i * 2 + j, none⟩ = some u) := by
  have hc : Try.prog.cellsOf 29 = 2 := by kernel_rfl
  exact open_elems (by decide) zenL zenG Try.underlying22 hc (fun _ _ _ hl hf => dec_zen hl hf) hval h
abbrev zacT : Type := Int × ByteArray × Int
/-- its cells -/
def zacL (x : zacT) : List Value := [.int .i64 x.1, .string x.2.1, .int .i64 x.2.2]
def zacG (x : zacT) : Prop := (Lit.int .i64 x.1).wf = true ∧ x.2.1.size ≤ maxLen ∧ (Lit.int .i64 x.2.2).wf = true
set_option maxRecDepth 1000000 in
theorem dec_zac {H : Type} {enc : TypeId × Value → H} {W : World} {base : Nat} {spare : Nat → Bool} {held : Bool} {fuel : Nat} {cs : List Value} {y : DataW H × List MemPlace} (hlen : cs.length = 3) (hf : DataW.trod enc Try.prog W base spare held fuel 49 cs = some y) : ∃ x, cs = zacL x ∧ zacG x := by
  have ks : Try.prog.cellsOf 9 = 1 := by kernel_rfl
  have ki : Try.prog.cellsOf 3 = 1 := by kernel_rfl
  match cs, hlen with
  | [c0, c1, c2], _ =>
    obtain ⟨xs, n, _, hx, _, hln, hg⟩ := DataW.trod_struct Try.underlying49 hf
    have hl : xs.length = 3 := hln
    have gs : ∀ i, i < 3 → ∃ y, xs[i]? = some y := fun i hi => ⟨xs[i]'(by omega), List.getElem?_eq_getElem (by omega)⟩
    obtain ⟨y0, e0⟩ := gs 0 (by omega)
    have g0 := hg 0 _ rfl
    rw [e0] at g0
    obtain ⟨m0, q0, _, z0⟩ := DataW.trod_int Try.underlying3 g0
    simp [ki] at q0
    obtain ⟨y1, e1⟩ := gs 1 (by omega)
    have g1 := hg 1 _ rfl
    rw [e1] at g1
    obtain ⟨s1, q1, _, z1⟩ := DataW.trod_string Try.underlying9 g1
    simp [ks] at q1
    obtain ⟨y2, e2⟩ := gs 2 (by omega)
    have g2 := hg 2 _ rfl
    rw [e2] at g2
    obtain ⟨m2, q2, _, z2⟩ := DataW.trod_int Try.underlying3 g2
    simp [ki] at q2
    subst q0 q1 q2
    exact ⟨(m0, s1, m2), rfl, ⟨z0, z1, z2⟩⟩
set_option maxRecDepth 1000000 in
theorem open_zacs {H : Type} {enc : TypeId × Value → H} {W : World} {base : Nat} {v : Value} {d : DataW H} {p : List MemPlace} (hval : Value.okWide Try.prog W .any base 40 v) (h : DataW.Trod enc Try.prog W 0 (fun _ => true) true 40 v d p) :
    ∃ (A : Option Addr) (l : List zacT) (c : Nat), v = .slice A l.length c ∧ l.length ≤ c ∧ c ≤ maxLen ∧ (∀ x ∈ l, zacG x) ∧ (0 < l.length → ∃ g o, A = some ⟨g, o, none⟩ ∧ g < W.heap.size ∧ ∀ i (h : i < l.length) j u, (zacL l[i])[j]? = some u → W.cell? ⟨g, o + i * 3 + j, none⟩ = some u) := by
  have hc : Try.prog.cellsOf 49 = 3 := by kernel_rfl
  exact open_elems (by decide) zacL zacG Try.underlying40 hc (fun _ _ _ hl hf => dec_zac hl hf) hval h
abbrev ztxT : Type := ByteArray
/-- its cells -/
def ztxL (x : ztxT) : List Value := [.string x]
def ztxG (x : ztxT) : Prop := x.size ≤ maxLen
set_option maxRecDepth 1000000 in
theorem dec_ztx {H : Type} {enc : TypeId × Value → H} {W : World} {base : Nat} {spare : Nat → Bool} {held : Bool} {fuel : Nat} {cs : List Value} {y : DataW H × List MemPlace} (hlen : cs.length = 1) (hf : DataW.trod enc Try.prog W base spare held fuel 9 cs = some y) : ∃ x, cs = ztxL x ∧ ztxG x := by
  obtain ⟨s0, q0, _, z0⟩ := DataW.trod_string Try.underlying9 hf
  exact ⟨s0, q0, z0⟩
set_option maxRecDepth 1000000 in
theorem open_ztxs {H : Type} {enc : TypeId × Value → H} {W : World} {base : Nat} {v : Value} {d : DataW H} {p : List MemPlace} (hval : Value.okWide Try.prog W .any base 61 v) (h : DataW.Trod enc Try.prog W 0 (fun _ => true) true 61 v d p) :
    ∃ (A : Option Addr) (l : List ztxT) (c : Nat), v = .slice A l.length c ∧ l.length ≤ c ∧ c ≤ maxLen ∧ (∀ x ∈ l, ztxG x) ∧ (0 < l.length → ∃ g o, A = some ⟨g, o, none⟩ ∧ g < W.heap.size ∧ ∀ i (h : i < l.length) j u, (ztxL l[i])[j]? = some u → W.cell? ⟨g, o + i * 1 + j, none⟩ = some u) := by
  have hc : Try.prog.cellsOf 9 = 1 := by kernel_rfl
  exact open_elems (by decide) ztxL ztxG Try.underlying61 hc (fun _ _ _ hl hf => dec_ztx hl hf) hval h
end Go.Proofs.Ytkifblbmppjicaa
