/- Layer 9: TimerPlays: both tables, apart. -/
import Derived.Test.YtbgmjieagnmpkaaTimT
namespace Go.Proofs.Ytbgmjieagnmpkaa
set_option linter.unusedVariables false
set_option linter.unusedSimpArgs false
open Go Go.RowKit Go.Maps Go.Sort Go.Shelf Go.Lib

/-- the table t (its map b) holds T, the document's x holds U -/
structure PlayG (w : World) (t b B x : Nat) (T U : List (KeyS × Int)) (W : World) : Prop where
  below : RowKit.Below w.heap.size w W
  tab : TabS w.heap.size W t b T
  ref : RefS B W x U
  tB : t < B
  bB : b < B
  Bw : B ≤ W.heap.size
theorem PlayG.nodup {w W : World} {t b B x : Nat} {T U : List (KeyS × Int)} (h : PlayG w t b B x T U W) : (T.map (·.1)).Nodup := by
  obtain ⟨_, _, _, _, D, _, h2, _⟩ := h.tab
  exact h2.nodup
theorem PlayG.okT {w W : World} {t b B x : Nat} {T U : List (KeyS × Int)} (h : PlayG w t b B x T U W) : OkTS T := by
  obtain ⟨_, _, _, _, D, _, _, h2⟩ := h.tab
  exact h2
theorem PlayG.xB {w W : World} {t b B x : Nat} {T U : List (KeyS × Int)} (h : PlayG w t b B x T U W) : B ≤ x := h.ref.1
theorem PlayG.lt {w W : World} {t b B x : Nat} {T U : List (KeyS × Int)} (h : PlayG w t b B x T U W) : t < W.heap.size ∧ b < W.heap.size ∧ x < W.heap.size := by
  obtain ⟨_, _, _, h2, _⟩ := h.ref
  exact ⟨(tabS_lt h.tab).1, (tabS_lt h.tab).2, blk_lt h2⟩
/-- the program's table does something -/
theorem PlayG.tim {w W W1 : World} {t b B x : Nat} {T T1 U : List (KeyS × Int)} (h : PlayG w t b B x T U W) (h1 : TabS w.heap.size W1 t b T1) (hf : Fr (fun j => j = b) W W1) : PlayG w t b B x T1 U W1 where
  below := h.below.trans (hf.below h.below.size fun j _ e => by rw [e]; exact h.tab.2.1)
  tab := h1
  ref := refS_fr h.ref hf fun j hj e => by have := h.bB; omega
  tB := h.tB
  bB := h.bB
  Bw := Nat.le_trans h.Bw hf.size
/-- the document's does -/
theorem PlayG.doc {w W W1 : World} {t b B x : Nat} {T U U1 : List (KeyS × Int)} (h : PlayG w t b B x T U W) (h1 : RefS B W1 x U1) (hf : Fr (fun j => j = x) W W1) : PlayG w t b B x T U1 W1 where
  below := h.below.trans (hf.below h.below.size fun j _ e => by have := h.tab.1; have := h.tB; have := h.ref.1; omega)
  tab := tabS_fr h.tab hf (fun e => by have := h.tB; have := h.ref.1; omega) fun e => by have := h.bB; have := h.ref.1; omega
  ref := h1
  tB := h.tB
  bB := h.bB
  Bw := Nat.le_trans h.Bw hf.size
/-- nothing that is theirs is written -/
theorem PlayG.rest {w W W1 : World} {t b B x : Nat} {T U : List (KeyS × Int)} (h : PlayG w t b B x T U W) (hf : Fr (fun _ => False) W W1) : PlayG w t b B x T U W1 where
  below := h.below.trans (hf.below h.below.size fun _ _ e => e.elim)
  tab := tabS_fr h.tab hf (fun e => e) fun e => e
  ref := refS_fr h.ref hf fun _ _ e => e
  tB := h.tB
  bB := h.bB
  Bw := Nat.le_trans h.Bw hf.size
theorem PlayG.still {w W W1 : World} {t b B x : Nat} {T U : List (KeyS × Int)} (h : PlayG w t b B x T U W) (hb : RowKit.Below W.heap.size W W1) : PlayG w t b B x T U W1 := h.rest (Fr.of_below hb)
/-- its beginning -/
theorem playG_start {w w1 W1 W2 : World} {t b : Nat} (h0 : RowKit.Below w.heap.size w w1) (h1 : TabS w1.heap.size W1 t b []) (h2 : RowKit.Below w1.heap.size w1 W1) (h3 : W2 = W1.alloc (.cells #[.slice none 0 0] 30)) : PlayG w t b W1.heap.size W1.heap.size [] [] W2 := by
  subst h3
  have hz := h0.size
  have hl := tabS_lt h1
  have hf : Fr (fun _ => False) W1 (W1.alloc (.cells #[.slice none 0 0] 30)) := (Fr.refl _ W1).alloc _
  have ht : TabS w.heap.size W1 t b [] := ⟨Nat.le_trans hz h1.1, Nat.le_trans hz h1.2.1, h1.2.2⟩
  exact ⟨(h0.trans (h2.mono hz)).trans (hf.below (Nat.le_trans hz h2.size) fun _ _ e => e.elim), tabS_fr ht hf (fun e => e) fun e => e, ⟨Nat.le_refl _, none, 0, heap_alloc_new W1 _, ownFS_nil _ _, by simp [Value.ownBlock]⟩, hl.1, hl.2, by simp⟩
theorem len_setM_le (T : List (KeyS × Int)) (k : KeyS) (v : Int) : (setM T k v).length ≤ T.length + 1 := by
  unfold setM
  rw [List.length_append]
  have := List.length_filter_le (fun p : KeyS × Int => decide (p.1 ≠ k)) T
  simp only [List.length_singleton]
  omega
theorem len_delM_le (T : List (KeyS × Int)) (k : KeyS) : (delM T k).length ≤ T.length := List.length_filter_le _ _
/-- where the keys of what is due are taken away one by one -/
theorem remMS_take {T : List (KeyS × Int)} (now : Int) {j : Nat} (hj : j < (dueMS T now).length) : remMS T ((dueMS T now).take (j + 1)) = delM (remMS T ((dueMS T now).take j)) (dueMS T now)[j].1 := by
  rw [List.take_succ_eq_append_getElem hj, remMS_snoc]
theorem nodup_remMS {T : List (KeyS × Int)} (h : (T.map (·.1)).Nodup) (pre : List (KeyS × Int)) : ((remMS T pre).map (·.1)).Nodup := h.sublist ((List.filter_sublist).map _)
theorem len_remMS (T pre : List (KeyS × Int)) : (remMS T pre).length ≤ T.length := List.length_filter_le _ _
end Go.Proofs.Ytbgmjieagnmpkaa
