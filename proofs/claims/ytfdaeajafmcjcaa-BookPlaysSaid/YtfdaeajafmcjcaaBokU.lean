/- Layer 2: BookPlays: both books, apart. -/
import Derived.Test.YtfdaeajafmcjcaaBokS2
import Derived.Test.YtfdaeajafmcjcaaBokT
namespace Go.Proofs.Ytfdaeajafmcjcaa
set_option linter.unusedVariables false
set_option linter.unusedSimpArgs false
open Go Go.RowKit Go.Maps Go.Sort Go.Shelf Go.Lib

/-- the book t (its map b) holds T, the document's x holds U -/
structure PlayB (w : World) (t b B x : Nat) (most : Int) (T : List (KeyB × Ent VI)) (U : List (Ent VI)) (W : World) : Prop where
  below : RowKit.Below w.heap.size w W
  bok : BokI w.heap.size W t b most T
  ref : RefB B W x most U
  two : TwoU T U
  ok : OkUB U
  tB : t < B
  bB : b < B
  Bw : B ≤ W.heap.size
theorem PlayB.xB {w W : World} {t b B x : Nat} {most : Int} {T : List (KeyB × Ent VI)} {U : List (Ent VI)} (h : PlayB w t b B x most T U W) : B ≤ x := h.ref.1
theorem PlayB.lt {w W : World} {t b B x : Nat} {most : Int} {T : List (KeyB × Ent VI)} {U : List (Ent VI)} (h : PlayB w t b B x most T U W) : t < W.heap.size ∧ b < W.heap.size ∧ x < W.heap.size :=
  ⟨(bokI_lt h.bok).1, (bokI_lt h.bok).2, refB_lt h.ref⟩
/-- both books do one thing -/
theorem PlayB.both {w W W1 W2 : World} {t b B x : Nat} {most : Int} {T T1 : List (KeyB × Ent VI)} {U U1 : List (Ent VI)} (h : PlayB w t b B x most T U W) (h1 : BokI w.heap.size W1 t b most T1) (hf : Fr (fun j => j = b) W W1) (h2 : RefB B W2 x most U1) (hg : Fr (fun j => B ≤ j) W1 W2) (h3 : TwoU T1 U1) (h4 : OkUB U1) : PlayB w t b B x most T1 U1 W2 where
  below := (h.below.trans (hf.below h.below.size fun j _ e => by rw [e]; exact h.bok.2.1)).trans (hg.below (Nat.le_trans h.below.size hf.size) fun j _ e => by have := h.bok.1; have := h.tB; omega)
  bok := bokI_fr h1 hg (by have := h.tB; omega) (by have := h.bB; omega)
  ref := h2
  two := h3
  ok := h4
  tB := h.tB
  bB := h.bB
  Bw := Nat.le_trans h.Bw (Nat.le_trans hf.size hg.size)
/-- nothing that is theirs is written -/
theorem PlayB.rest {w W W1 : World} {t b B x : Nat} {most : Int} {T : List (KeyB × Ent VI)} {U : List (Ent VI)} (h : PlayB w t b B x most T U W) (hf : Fr (fun _ => False) W W1) : PlayB w t b B x most T U W1 where
  below := h.below.trans (hf.below h.below.size fun _ _ e => e.elim)
  bok := bokI_fr h.bok hf (fun e => e) fun e => e
  ref := refB_fr h.ref hf fun _ _ e => e
  two := h.two
  ok := h.ok
  tB := h.tB
  bB := h.bB
  Bw := Nat.le_trans h.Bw hf.size
theorem PlayB.still {w W W1 : World} {t b B x : Nat} {most : Int} {T : List (KeyB × Ent VI)} {U : List (Ent VI)} (h : PlayB w t b B x most T U W) (hb : RowKit.Below W.heap.size W W1) : PlayB w t b B x most T U W1 := h.rest (Fr.of_below hb)
/-- its beginning -/
theorem playB_start {w w1 W1 W2 : World} {t b : Nat} {most : Int} (h0 : RowKit.Below w.heap.size w w1) (h1 : BokI w1.heap.size W1 t b most []) (h2 : RowKit.Below w1.heap.size w1 W1) (h3 : W2 = W1.alloc (.cells #[.int .i64 most, .slice none 0 0] 32)) : PlayB w t b W1.heap.size W1.heap.size most [] [] W2 := by
  subst h3
  have hz := h0.size
  have hl := bokI_lt h1
  have hf : Fr (fun _ => False) W1 (W1.alloc (.cells #[.int .i64 most, .slice none 0 0] 32)) := (Fr.refl _ W1).alloc _
  have ht : BokI w.heap.size W1 t b most [] := ⟨Nat.le_trans hz h1.1, Nat.le_trans hz h1.2.1, h1.2.2⟩
  exact ⟨(h0.trans (h2.mono hz)).trans (hf.below (Nat.le_trans hz h2.size) fun _ _ e => e.elim), bokI_fr ht hf (fun e => e) fun e => e, ⟨Nat.le_refl _, none, 0, heap_alloc_new W1 _, ownU_nil _ _, by simp [Value.ownBlock]⟩, ⟨List.Perm.refl _, fun p hp => (by cases hp), List.nodup_nil⟩, fun e he => (by cases he), hl.1, hl.2, by simp⟩
end Go.Proofs.Ytfdaeajafmcjcaa
