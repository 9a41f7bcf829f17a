/- Layer 10: slices.Insert of one number, at a row of the call's own. -/
import Derived.Test.YteiiaocohpbanaaSetC
namespace Go.Proofs.Yteiiaocohpbanaa
set_option linter.unusedVariables false
set_option linter.unusedSimpArgs false
open Go Go.RowKit Go.Lib Go.Sort Go.Shelf

theorem row_grown {w : World} {base : Nat} {zs : List Int} {m old : Nat} (hm : zs.length = m) (hz : m ≤ 1000001) (hb : base ≤ w.heap.size) {cur : Array Value} (hs : cur.size = grownCap w m old 3) (ht : cur.toList.take m = zs.map (Value.int .i64)) {W : World} (hW : W.heap[w.heap.size]? = some (.cells cur 3 (0, 0))) :
    OwnI base W (.slice (some ⟨w.heap.size, 0, none⟩) m (grownCap w m old 3)) zs := by
  subst hm
  refine ⟨by simp, .inr ⟨w.heap.size, _, cur, rfl, hb, hW, grownCap_ge _ _ _ _, grownCap_le_maxLen _ _ _ _ (by unfold maxLen; omega), by rw [hs, Nat.mul_one], by rw [Nat.mul_one]; exact ht⟩⟩

theorem ins_get {α : Type} (xs : List α) (i : Nat) (hi : i ≤ xs.length) (x : α) (j : Nat) : (xs.take i ++ x :: xs.drop i)[j]? = if j < i then xs[j]? else if j = i then some x else xs[j - 1]? := by
  rw [List.getElem?_append, List.length_take, Nat.min_eq_left hi]
  by_cases h : j < i
  · rw [if_pos h, if_pos h, List.getElem?_take_of_lt h]
  · rw [if_neg h, if_neg h]
    by_cases e : j = i
    · subst e; rw [if_pos rfl, Nat.sub_self]; rfl
    · rw [if_neg e, show j - i = (j - i - 1) + 1 by omega, List.getElem?_cons_succ, List.getElem?_drop, show i + (j - i - 1) = j - 1 by omega]
theorem take_of_get' {cur : Array Value} {ys : List Int} (hs : ys.length ≤ cur.size) (h : ∀ j, j < ys.length → cur[j]? = (ys[j]?).map (Value.int .i64)) : cur.toList.take ys.length = ys.map (Value.int .i64) :=
  take_of_get hs fun j hj => by rw [h j hj, List.getElem?_eq_getElem hj]; rfl
theorem own_get' {w : World} {g : Nat} {xs : List Int} {cur : Array Value} {T : TypeId} (hg : w.heap[g]? = some (.cells cur T (0, 0))) (ht : cur.toList.take xs.length = xs.map (Value.int .i64)) (j : Nat) (hj : j < xs.length) : cur[j]? = (xs[j]?).map (Value.int .i64) := by
  rw [own_get (base := 0) (w := w) (cap := 0) hg ht j hj, List.getElem?_eq_getElem hj]; rfl

set_option maxHeartbeats 1000000 in
theorem insert_own {base : Nat} {w : World} {v : Value} {xs : List Int} (h : OwnI base w v xs) (hl : xs.length ≤ 1000000) (i : Nat) (hi : i ≤ xs.length) (x : Int) (vb : Nat) (hvb : w.heap[vb]? = some (.cells #[.int .i64 x] 3 (0, 0))) (hne : v.ownBlock ≠ some vb) (hbw : base ≤ w.heap.size) :
    Calls Try.prog 27 #[v, .int .i64 i, .slice (some ⟨vb, 0, none⟩) 1 1] w fun e w' => (∃ v', e = .returned v' ∧ OwnI base w' v' (xs.take i ++ x :: xs.drop i) ∧ Tie w v v') ∧ Fr (vB v) w w' := by
  have hvs : ∀ j u, [Value.int .i64 x][j]? = some u → w.cell? ⟨vb, 0 + j, none⟩ = some u := by
    intro j u hu
    rw [Nat.zero_add, blk_cell hvb j]
    rw [← hu]
    exact (Array.getElem?_toList (xs := #[Value.int .i64 x]) (i := j)).symm
  have h1v : ∀ u ∈ [Value.int .i64 x], u.oneCell' = true := by intro u hu; simp at hu; subst hu; rfl
  have hT : Try.laysNm221_ren.t 3 = 3 := rfl
  have hlen : (xs.take i ++ x :: xs.drop i).length = xs.length + 1 := by simp; omega
  rcases h.2 with ⟨rfl, h0⟩ | ⟨g, cap, cur, rfl, hb, hg, hn, hm, hcs, ht⟩
  · obtain rfl : xs = [] := List.length_eq_zero_iff.1 h0
    obtain rfl : i = 0 := by simpa using hi
    refine (Any2.slices_Insert_int_end_grow Try.laysNm221 none 0 0 vb 0 1 1 [] [.int .i64 x] w (by omega) (by omega) (by omega) (by omega) rfl rfl (fun _ => rfl) (fun a ha => by cases ha) hvs h1v).mono ?_
    rintro e w' ⟨he, hw⟩
    rw [hT] at he hw
    subst he; subst hw
    refine ⟨⟨_, rfl, row_grown (zs := [x]) rfl (by simp) hbw ?_ ?_ (heap_alloc_new w.drew _), tie_new rfl (Nat.le_refl _)⟩, (Fr.refl _ w).drew.alloc _⟩
    · have := grownCap_ge w (0 + 1) 0 3
      simp [size_zeroCells, Value.cells] at this ⊢; omega
    · simp
  · rw [Nat.mul_one] at ht hcs
    have hgb : g ≠ vb := fun e => hne (by rw [e]; rfl)
    have hH := holds_of_blockI hg ht
    have hcell : ∀ j u, (xs.map (Value.int .i64))[j]? = some u → w.cell? ⟨g, 0 + j, none⟩ = some u := by
      intro j u hu
      rw [Nat.zero_add, blk_cell hg j]
      have hj : j < xs.length := by have := (List.getElem?_eq_some_iff.1 hu).1; simpa using this
      rw [own_get (base := 0) (w := w) (cap := cap) hg ht j hj, ← hu]
      simp [hj]
    have hcl : (xs.map (Value.int .i64)).length = xs.length := by simp
    have hmm := hm
    unfold maxLen at hmm
    by_cases hroom : xs.length + 1 ≤ cap
    · have hsome : ∀ j, j < cap → (w.cell? ⟨g, j, none⟩).isSome = true := fun j hj => by rw [blk_cell hg j, Array.getElem?_eq_getElem (by omega)]; rfl
      by_cases hend : i = xs.length
      · subst hend
        refine (Any2.slices_Insert_int_end_room Try.laysNm221 g 0 xs.length cap vb 0 1 1 [.int .i64 x] w (by omega) hroom (by omega) rfl (fun j hj => by rw [show 0 + xs.length + j = xs.length + j by omega]; exact hsome _ (by omega)) (fun j _ => blk_free hg _) hvs h1v).mono ?_
        rintro e w' ⟨rfl, rfl⟩
        obtain ⟨cur', k1, k2, k3⟩ := heap_setCells (b := g) [Value.int .i64 x] (0 + xs.length) w cur hg
        refine ⟨⟨_, rfl, ⟨by simp, .inr ⟨g, cap, cur', ?_, hb, k1, by omega, hm, by omega, ?_⟩⟩, tie_same rfl⟩, fr_setCells (X := vB (.slice (some ⟨g, 0, none⟩) xs.length cap)) (.inl (by rfl)) _ _ _ (Fr.refl _ w)⟩
        · rw [hlen]
        · rw [Nat.mul_one]
          refine take_of_get' (by omega) fun j hj => ?_
          rw [k3 j, ins_get _ _ (Nat.le_refl _)]
          by_cases e : j < xs.length
          · rw [if_neg (by omega), if_pos e]; exact own_get' hg ht j e
          · obtain rfl : j = xs.length := by omega
            rw [if_pos ⟨by omega, by simp, by omega⟩, if_neg e, if_pos rfl]
            simp
      · have hil : i < xs.length := by omega
        refine (Any2.slices_Insert_int_shift Try.laysNm221 g 0 xs.length cap i vb 0 1 1 (xs.map (Value.int .i64)) [.int .i64 x] w hil (by omega) hroom (by omega) (fun e => hgb e.symm) hcl rfl hcell (fun j hj => by rw [Nat.zero_add]; exact hsome j (by omega)) (fun j _ => blk_free hg _) hvs (int_cells xs) h1v _ _ _ _
          (show w.shape? vb = some (3, 1) by simp [World.shape?, hvb]) (show w.shape? g = some (3, cap) by simp [World.shape?, hg, hcs]) (by omega) (blk_free hvb _) (by simp [World.frozen?, hvb])).mono ?_
        rintro e w' ⟨rfl, rfl⟩
        obtain ⟨cur1, k1, k2, k3⟩ := heap_setCells (b := g) ((xs.map (Value.int .i64)).drop i) (0 + (i + 1)) w.drew cur hg
        obtain ⟨cur2, p1, p2, p3⟩ := heap_setCells (b := g) [Value.int .i64 x] (0 + i) _ cur1 k1
        refine ⟨⟨_, rfl, ⟨by simp, .inr ⟨g, cap, cur2, ?_, hb, p1, by omega, hm, by omega, ?_⟩⟩, tie_same rfl⟩, fr_setCells (X := vB (.slice (some ⟨g, 0, none⟩) xs.length cap)) (.inl (by rfl)) _ _ _ (fr_setCells (X := vB (.slice (some ⟨g, 0, none⟩) xs.length cap)) (.inl (by rfl)) _ _ _ (Fr.refl _ w).drew)⟩
        · rw [hlen]
        · rw [Nat.mul_one]
          refine take_of_get' (by omega) fun j hj => ?_
          rw [p3 j, ins_get _ _ hi]
          by_cases e : j = i
          · subst e
            rw [if_pos ⟨by omega, by simp, by omega⟩, if_neg (by omega), if_pos rfl]
            simp
          · rw [if_neg (by simp; omega), k3 j]
            by_cases c : j < i
            · rw [if_neg (by omega), if_pos c]; exact own_get' hg ht j (by omega)
            · rw [if_pos ⟨by omega, by simp; omega, by omega⟩, if_neg c, if_neg e, List.getElem?_drop, List.getElem?_map, show i + (j - (0 + (i + 1))) = j - 1 by omega]
    · by_cases hend : i = xs.length
      · subst hend
        refine (Any2.slices_Insert_int_end_grow Try.laysNm221 (some ⟨g, 0, none⟩) xs.length cap vb 0 1 1 (xs.map (Value.int .i64)) [.int .i64 x] w (by omega) hn (by omega) (by omega) hcl rfl (fun h => by cases h) (fun a ha j u hu => by cases ha; rw [Addr.add_lit]; exact hcell j u hu) hvs h1v).mono ?_
        rintro e w' ⟨he, hw⟩
        rw [hT] at he hw
        subst he; subst hw
        have e1 : (xs.map (Value.int .i64) ++ [Value.int .i64 x]).length = xs.length + 1 := by simp
        refine ⟨⟨_, rfl, row_grown (zs := xs.take xs.length ++ x :: xs.drop xs.length) (by simp) (by omega) hbw ?_ ?_ (heap_alloc_new w.drew _), tie_new rfl (Nat.le_refl _)⟩, (Fr.refl _ w).drew.alloc _⟩
        · have := grownCap_ge w (xs.length + 1) cap 3
          simp [size_zeroCells, Value.cells]; omega
        · rw [Array.toList_append, ← e1, List.take_left]
          simp
      · have hil : i < xs.length := by omega
        refine (Any2.slices_Insert_int_grow Try.laysNm221 g 0 xs.length cap i vb 0 1 1 (xs.map (Value.int .i64)) [.int .i64 x] w hil (by omega) hn (by omega) (by omega) hcl rfl hcell hvs (int_cells xs) h1v).mono ?_
        rintro e w' ⟨he, hw⟩
        rw [hT] at he hw
        subst he; subst hw
        have hge := grownCap_ge w (xs.length + 1) cap 3
        obtain ⟨G, hG⟩ : ∃ G, grownCap w (xs.length + 1) cap 3 = G := ⟨_, rfl⟩
        obtain ⟨C, hC⟩ : ∃ C, ((xs.map (Value.int .i64)).take i).toArray ++ Builtin.zeroCells (Value.int .i64 0).cells (xs.length + 1 - i) ++ Builtin.zeroCells (Value.int .i64 0).cells (G - (xs.length + 1)) = C := ⟨_, rfl⟩
        have hCs : C.size = G := by
          rw [← hC]
          simp [size_zeroCells, Value.cells]; omega
        have hCl : ∀ j, j < i → C[j]? = (xs[j]?).map (Value.int .i64) := fun j hj => by
          rw [← hC, Array.getElem?_append_left (by simp; omega), Array.getElem?_append_left (by simp; omega), List.getElem?_toArray, List.getElem?_take_of_lt hj, List.getElem?_map]
        rw [hG] at hge ⊢
        rw [hC]
        obtain ⟨cur1, k1, k2, k3⟩ := heap_setCells (b := w.heap.size) [Value.int .i64 x] i (w.alloc (.cells C 3)).drew C (heap_alloc_new w _)
        obtain ⟨cur2, p1, p2, p3⟩ := heap_setCells (b := w.heap.size) ((xs.map (Value.int .i64)).drop i) (i + 1) (((w.alloc (.cells C 3)).drew.setCells w.heap.size i [Value.int .i64 x]).drew) cur1 k1
        have hrow := row_grown (w := w) (old := cap) (m := xs.length + 1) (zs := xs.take i ++ x :: xs.drop i) (cur := cur2) hlen (by omega) hbw (by omega) (by
          rw [← hlen]
          refine take_of_get' (by omega) fun j hj => ?_
          rw [p3 j, ins_get _ _ hi]
          by_cases c : j < i
          · rw [if_neg (by omega), if_pos c, k3 j, if_neg (by omega)]; exact hCl j c
          · by_cases e : j = i
            · subst e
              rw [if_neg (by omega), if_neg c, if_pos rfl, k3 j, if_pos ⟨by omega, by simp, by omega⟩]
              simp
            · rw [if_pos ⟨by omega, by simp; omega, by omega⟩, if_neg c, if_neg e, List.getElem?_drop, List.getElem?_map, show i + (j - (i + 1)) = j - 1 by omega]) p1
        rw [hG] at hrow
        exact ⟨⟨_, rfl, hrow, tie_new rfl (Nat.le_refl _)⟩, fr_setCells (.inr (Nat.le_refl _)) _ _ _ (fr_setCells (.inr (Nat.le_refl _)) _ _ _ ((Fr.refl _ w).alloc _).drew).drew⟩
end Go.Proofs.Yteiiaocohpbanaa
