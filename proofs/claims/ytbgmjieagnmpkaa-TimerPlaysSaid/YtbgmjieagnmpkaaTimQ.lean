/- Layer 9: the document's table: Set. -/
import Derived.Test.YtbgmjieagnmpkaaTimP
namespace Go.Proofs.Ytbgmjieagnmpkaa
set_option linter.unusedVariables false
set_option linter.unusedSimpArgs false
open Go Go.RowKit Go.Maps Go.Sort Go.Shelf Go.Lib

theorem srcFS {w : World} {base : Nat} {A : Option Addr} {c : Nat} {xs : List (KeyS × Int)} (h : OwnFS base w (.slice A xs.length c) xs) : Src Try.prog 2 28 (.slice A xs.length c) xs.length (xs.flatMap encCS) w := by
  rcases h.2 with ⟨h1, h2⟩ | ⟨g, cap, cur, h1, h3, h4, h5, _, h6, h7⟩
  · have h3 : xs = [] := List.length_eq_zero_iff.1 h2
    subst h3
    injection h1 with q1 q2 q3
    subst q1
    exact Src.ofNil w Try.underlying28 c
  · injection h1 with q1 q2 q3
    subst q1
    exact Src.ofSlice w Try.underlying28 ⟨g, 0, none⟩ xs.length c (xs.flatMap encCS) (encCS_len xs) (fun j u hu => h.cells (g := g) rfl j u hu) (encCS_one xs)
/-- what Set leaves -/
def SetR (base x : Nat) (T : List (KeyS × Int)) (k : KeyS) (v : Int) (w : World) (e : Ending) (w' : World) : Prop := e = .returned (.tuple #[]) ∧ RefS base w' x (setM T k v) ∧ Fr (fun j => j = x) w w'
set_option maxRecDepth 100000 in
set_option maxHeartbeats 16000000 in
theorem ref_set {base : Nat} {w : World} {x : Nat} {T : List (KeyS × Int)} (h : RefS base w x T) (hb : base ≤ w.heap.size) (hnd : (T.map (·.1)).Nodup) (hl : T.length ≤ 1000000) (k : KeyS) (v : Int) :
    Calls Try.prog 17 #[.pointer (some ⟨x, 0, none⟩), kVS k, .int .i64 v] w (SetR base x T k v w) := by
  obtain ⟨i0, hi0, hz0, hz1, hz2⟩ := info_parts Try.infoFS
  have hst := ref_stop h hb hnd hl k
  have hxl : x < w.heap.size := by obtain ⟨_, _, _, h2, _⟩ := h; exact blk_lt h2
  unfold kVS at *
  clear h hnd
  go_enter Try.func17, Try.ntmps17
  go_wp2_with fail
  refine hst.mono ?_
  rintro e w1 ⟨rfl, h1, f1⟩
  have hDl : (delM T k).length ≤ 1000000 := Nat.le_trans (List.length_filter_le _ _) hl
  have hset : setM T k v = delM T k ++ [(k, v)] := rfl
  obtain ⟨D, hD⟩ : ∃ D, delM T k = D := ⟨_, rfl⟩
  rw [hD] at h1 hDl hset
  have hz1' := f1.size
  have HS := Lib.hid (And.intro hset f1)
  clear hset hD hst f1
  obtain ⟨h0, A, c, h2, h3, h4⟩ := h1
  have kN := heap_alloc_new w1 (.cells #[] 38)
  have kx := blk_alloc h2 (.cells #[] 38)
  have d1 := blk_cell kx 0
  have hxw1 : x < w1.heap.size := blk_lt h2
  have H3 := Lib.hid (And.intro h3 h4)
  clear h2 h3 h4
  go_wp2_with (at_builtin; refine Hid.out ?_)
  refine Lib.hid ?_
  obtain ⟨W2, hW2⟩ : ∃ W2, w1.alloc (.cells #[] 38) = W2 := ⟨_, rfl⟩
  have f2 : Fr (fun _ => False) w1 W2 := by rw [← hW2]; exact (Fr.refl _ _).alloc _
  have z2 : W2.heap.size = w1.heap.size + 1 := by rw [← hW2]; simp
  obtain ⟨h3, h4⟩ := H3.out
  have o2 : OwnFS base W2 (.slice A D.length c) D := ownFS_kept h3 fun g hg => f2.block g (h3.lt g hg).2 fun e => e
  rw [hW2] at kN kx ⊢
  have hown : W2.ownsRow w1.heap.size 38 2 (.slice (some ⟨w1.heap.size, 0, none⟩) 0 0) 0 [] := ⟨by simp, .inr ⟨w1.heap.size, 0, #[], rfl, Nat.le_refl _, kN, by simp, by decide, by simp, by simp⟩⟩
  refine wpList_app_u rfl _ _ 28 28 rfl w1.heap.size 38 i0 _ 2 24 Try.underlying28 hi0 hz0 hz1 hz2 rfl _ 0 [] rfl hown (.slice A D.length c) D.length (D.flatMap encCS) rfl (srcFS o2) (by omega) (by decide) (by omega) ?_
  intro v3 W3 o3 f3 t3
  obtain ⟨A3, c3, ev3⟩ := row_slice o3
  subst ev3
  rw [Nat.zero_add, List.nil_append] at o3
  rw [Nat.zero_add] at t3 ⊢
  have k3 := f3.blk kx (fun e => by have : w1.heap.size = x := Option.some.inj e; omega)
  have hz3 := f3.size
  have t3' : ∀ j, (Value.slice A3 D.length c3).ownBlock = some j → w1.heap.size ≤ j := fun j hj => by
    rcases t3 j hj with e | e
    · have : w1.heap.size = j := Option.some.inj e; omega
    · omega
  have H3 := Lib.hid (And.intro o3 (And.intro f2 (And.intro f3 t3')))
  clear hW2 o2 hown f3 t3 t3' d1 kN kx h3 h4 o3 f2
  go_wp2_with (at_builtin; refine Hid.out ?_)
  refine Lib.hid ?_
  refine wpList_one_t rfl _ _ 28 rfl w1.heap.size 38 i0 _ 2 24 Try.underlying28 hi0 hz0 hz1 hz2 rfl (by decide) _ D.length (D.flatMap encCS) rfl H3.out.1 #[.string (bs k), .int .i64 v] W3.heap.size rfl rfl rfl (by intro u hu; simp at hu; rcases hu with rfl | rfl <;> rfl) (by omega) (by decide) (by omega) ?_
  intro v4 W4 o4 f4 t4
  obtain ⟨A4, c4, ev4⟩ := row_slice o4
  subst ev4
  obtain ⟨o3, f2, f3, t3'⟩ := H3.out
  have hlen : (D ++ [(k, v)]).length = D.length + 1 := by simp
  have o4' : OwnFS w1.heap.size W4 (.slice A4 (D.length + 1) c4) (D ++ [(k, v)]) := ownFS_of o4 hlen.symm (by rw [List.flatMap_append]; simp [encCS, kVS])
  have k4 := f4.blk k3 (fun e => by have := t3' x e; omega)
  have h4x : ∀ j, (Value.slice A4 (D.length + 1) c4).ownBlock = some j → w1.heap.size ≤ j := fun j hj => (o4'.lt j hj).1
  have fall : Fr (fun j => j = x) w1 W4 := ((f2.mono (Y := fun j => j = x) fun _ _ e => e.elim).trans3 f3 fun j hj e => by have : w1.heap.size = j := Option.some.inj e; omega).trans3 f4 fun j hj e => by have := t3' j e; omega
  have d4 := blk_cell k4 0
  have g4 := blk_free k4 0
  have H4 := Lib.hid (And.intro o4' (And.intro k4 (And.intro h4x fall)))
  clear o4 o4' t4 f4 o3 f2 f3 t3' h4x fall k4 k3 H3
  go_wp2_with fail
  go_end0
  obtain ⟨o4', k4, h4x, fall⟩ := H4.out
  obtain ⟨hset, f1⟩ := HS.out
  have hne : ∀ j, (Value.slice A4 (D.length + 1) c4).ownBlock = some j → j ≠ x := fun j hj e => by have := h4x j hj; omega
  refine ⟨rfl, ?_, Fr.setCell (X := fun j => j = x) (f1.trans3 fall fun _ _ e => e) ⟨x, 0, none⟩ rfl _⟩
  rw [hset]
  refine ⟨h0, A4, c4, ?_, ?_, ?_⟩
  · rw [hlen]
    exact (blk_set k4 0 _).trans rfl
  · rw [hlen]
    exact ownFS_base (ownFS_kept o4' fun j hj => heap_setCell_other W4 _ j _ fun e => hne j hj (by simpa using e)) (by omega)
  · rw [hlen]
    exact fun e => hne x e rfl
end Go.Proofs.Ytbgmjieagnmpkaa
