/- Layer 10: tales and sets between two numbers; what was read stays. -/
import Derived.Test.YteiiaocohpbanaaSetP
import Derived.Test.YteiiaocohpbanaaDecW
namespace Go.Proofs.Yteiiaocohpbanaa
set_option linter.unusedVariables false
set_option linter.unusedSimpArgs false
open Go Go.RowKit Go.Lib Go.Sort Go.Shelf

/-- a tale whose blocks lie between two numbers -/
def TaleIn (lo hi : Nat) (w : World) (F : Value) (xs : List Int) : Prop := hi ≤ w.heap.size ∧ ∃ B v, lo ≤ B ∧ B < hi ∧ F = .func (.func 33) #[] #[.pointer (some ⟨B, 0, none⟩)] ∧ w.heap[B]? = some (.cells #[v] 26 (0, 0)) ∧ v.ownBlock ≠ some B ∧ OwnI lo w v xs ∧ ∀ g, v.ownBlock = some g → g < hi
theorem talein_of {base : Nat} {w : World} {F : Value} {xs : List Int} (h : TaleAt base w F xs) : TaleIn base w.heap.size w F xs := by
  obtain ⟨B, v, h0, h1, h2, h3, h4⟩ := h
  exact ⟨Nat.le_refl _, B, v, h0, blk_lt h2, h1, h2, h3, h4, fun g hg => (h4.lt g hg).2⟩
theorem talein_fr {lo hi : Nat} {X : Nat → Prop} {w w' : World} {F : Value} {xs : List Int} (h : TaleIn lo hi w F xs) (hf : Fr X w w') (hX : ∀ k, lo ≤ k → k < hi → ¬ X k) : TaleIn lo hi w' F xs := by
  obtain ⟨z, B, v, h0, h1, h2, h3, h4, h5, h6⟩ := h
  exact ⟨Nat.le_trans z hf.size, B, v, h0, h1, h2, hf.blk h3 (hX B h0 h1), h4, own_kept h5 fun g hg => hf.block g (h5.lt g hg).2 (hX g (h5.lt g hg).1 (h6 g hg)), h6⟩
theorem talein_tale {lo hi : Nat} {w : World} {F : Value} {xs : List Int} (h : TaleIn lo hi w F xs) : TaleAt lo w F xs := by
  obtain ⟨z, B, v, h0, h1, h2, h3, h4, h5, h6⟩ := h
  exact ⟨B, v, h0, h2, h3, h4, h5⟩
/-- a set's blocks -/
theorem set_blocks {base : Nat} {w : World} {s : Nat} {ob : Option Nat} {xs : List Int} (h : SetAt base w s ob xs) : ∀ k, ob = some k → base ≤ k ∧ k < w.heap.size := by
  obtain ⟨⟨v, _, rfl, b⟩, _, _⟩ := h
  exact fun k hk => b.lt k hk
theorem set_fr {base : Nat} {X : Nat → Prop} {w w' : World} {s : Nat} {ob : Option Nat} {xs : List Int} (h : SetAt base w s ob xs) (hf : Fr X w w') (hs : ¬ X s) (ho : ∀ k, ob = some k → ¬ X k) : SetAt base w' s ob xs := by
  have hb := set_blocks h
  refine set_kept h ?_ fun g hg => hf.block g (hb g hg).2 (ho g hg)
  obtain ⟨⟨v, a, _⟩, _⟩ := h
  exact hf.block s (blk_lt a) hs
theorem rd10 {w W : World} {C : Option Addr} {ls : List Int} (hr : ReadsI w C ls) (hb : RowKit.Below w.heap.size w W) (s : Nat) (o2 : Option Nat) (h1 : w.heap.size ≤ s) (h2 : ∀ k, o2 = some k → w.heap.size ≤ k) : 0 < ls.length → ∃ g o, C = some ⟨g, o, none⟩ ∧ g < W.heap.size ∧ g ≠ s ∧ o2 ≠ some g ∧ ∀ j (h : j < ls.length), W.cell? ⟨g, o + j, none⟩ = some (.int .i64 ls[j]) := fun h0 => by
  obtain ⟨g, o, e1, e2, e3⟩ := hr h0
  exact ⟨g, o, e1, Nat.lt_of_lt_of_le e2 hb.size, by omega, fun e => by have := h2 g e; omega, fun j hj => (World.cell?_of_block (w := w) (w' := W) (a := ⟨g, o + j, none⟩) (hb.block g e2)).trans (e3 j hj)⟩
theorem reads_of {w : World} {A : Option Addr} {l : List zinT} (hc : 0 < l.length → ∃ g o, A = some ⟨g, o, none⟩ ∧ g < w.heap.size ∧ ∀ i (h : i < l.length) j u, (zinL l[i])[j]? = some u → w.cell? ⟨g, o + i * 1 + j, none⟩ = some u) : ReadsI w A l := fun h => by
  obtain ⟨g, o, h1, h2, h3⟩ := hc h
  exact ⟨g, o, h1, h2, fun i hi => by have := h3 i hi 0 (.int .i64 l[i]) rfl; simpa using this⟩
end Go.Proofs.Yteiiaocohpbanaa
