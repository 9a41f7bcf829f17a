/- Layer 5: bytes as they are given. -/
import Derived.Test.YtaajfbbogihbnaaDoorFrL
namespace Go.Proofs.YtaajfbbogihbnaaDoor
set_option linter.unusedVariables false
set_option linter.unusedSimpArgs false
open Go Go.ChangeShapes Go.WideShapes Go.RowKit Go.Deep Go.Shelf Go.Lib

theorem z8_nat {a : Int} (h : (Lit.int .u8 a).wf = true) : ((a.toNat.toUInt8).toNat : Int) = a := by
  have hr : IntKind.u8.min ≤ a ∧ a ≤ IntKind.u8.max := by simpa [Lit.wf] using h
  have hm : IntKind.u8.min = 0 := by decide
  have hM : IntKind.u8.max = 255 := by decide
  rw [hm, hM] at hr
  have h255 : a.toNat < 256 := by omega
  have : (a.toNat.toUInt8).toNat = a.toNat := by simp; omega
  rw [this]; omega
set_option maxRecDepth 1000000 in
theorem open_z8 {H : Type} {enc : TypeId × Value → H} {W : World} {base : Nat} {v : Value} {d : DataW H} {p : List MemPlace} (hval : Value.okWide Tryd.prog W .any base 26 v) (h : DataW.Trod enc Tryd.prog W 0 (fun _ => true) true 26 v d p) : ∃ (E : Option Addr) (c : Nat) (es : List UInt8), v = .slice E es.length c ∧ Lie8 W E es := by
  obtain ⟨A, l, c, rfl, h1, h2, h3, h4⟩ := open_elems (k := 1) (by decide) z8L z8G Tryd.underlying26 (by kernel_rfl) (fun _ _ _ hl hf => dec_z8 hl hf) hval h
  refine ⟨A, c, l.map fun z => z.toNat.toUInt8, by simp, fun h0 => ?_⟩
  rw [List.length_map] at h0
  obtain ⟨g, o, e, hg, hc⟩ := h4 h0
  refine ⟨g, o, e, hg, fun j hj => ?_⟩
  have hj2 : j < l.length := by simpa using hj
  have hq := hc j hj2 0 _ rfl
  rw [Nat.mul_one, Nat.add_zero] at hq
  rw [hq, List.getElem_map]
  unfold enc8
  rw [z8_nat (h3 _ (List.getElem_mem _))]
end Go.Proofs.YtaajfbbogihbnaaDoor
