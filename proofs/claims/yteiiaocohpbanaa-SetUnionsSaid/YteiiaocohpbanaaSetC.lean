/- Layer 10: slices.Insert, Delete, Clone at slices of integers of the call's own. -/
import Derived.Test.YteiiaocohpbanaaSetB
import Derived.Deep.Draws
namespace Go.Proofs.Yteiiaocohpbanaa
set_option linter.unusedVariables false
set_option linter.unusedSimpArgs false
open Go Go.RowKit Go.Lib Go.Sort Go.Shelf

theorem int_cells (xs : List Int) : ∀ u ∈ xs.map (Value.int .i64), u.oneCell' = true := by
  intro u hu
  obtain ⟨x, _, rfl⟩ := List.mem_map.1 hu
  rfl
/-- a row of cells written over -/
theorem heap_setCells {b : Nat} {T : TypeId} : ∀ (vs : List Value) (o : Nat) (w : World) (cur : Array Value), w.heap[b]? = some (.cells cur T (0, 0)) → ∃ cur', (w.setCells b o vs).heap[b]? = some (.cells cur' T (0, 0)) ∧ cur'.size = cur.size ∧
    ∀ j, cur'[j]? = if o ≤ j ∧ j < o + vs.length ∧ j < cur.size then vs[j - o]? else cur[j]?
  | [], o, w, cur, h => ⟨cur, h, rfl, fun j => by rw [if_neg (by simp; omega)]⟩
  | v :: r, o, w, cur, h => by
    obtain ⟨cur', h1, h2, h3⟩ := heap_setCells r (o + 1) (w.setCell ⟨b, o, none⟩ v) _ (blk_set h o v)
    refine ⟨cur', h1, by simpa using h2, fun j => ?_⟩
    rw [h3 j]
    simp only [Array.size_setIfInBounds, List.length_cons]
    by_cases e : j = o
    · subst e
      rw [if_neg (by omega), Array.getElem?_setIfInBounds, if_pos rfl]
      by_cases hj : j < cur.size
      · rw [if_pos hj, if_pos (by omega)]; simp
      · rw [if_neg hj, if_neg (by omega), Array.getElem?_eq_none (by omega)]
    · by_cases c : o + 1 ≤ j ∧ j < o + 1 + r.length ∧ j < cur.size
      · rw [if_pos c, if_pos (by omega)]
        rw [show j - o = (j - (o + 1)) + 1 by omega]; rfl
      · rw [if_neg c, Array.getElem?_setIfInBounds, if_neg (fun h => e h.symm), if_neg (by omega)]
theorem fr_setCells {X : Nat → Prop} {a : World} {b : Nat} (hb : X b ∨ a.heap.size ≤ b) : ∀ (vs : List Value) (o : Nat) (w : World), Fr X a w → Fr X a (w.setCells b o vs)
  | [], _, _, h => h
  | v :: r, o, w, h => fr_setCells hb r (o + 1) _ (by rcases hb with hb | hb; exact h.setCell _ hb _; exact h.setNew _ hb _)
theorem take_of_get {cur : Array Value} {ys : List Int} (hs : ys.length ≤ cur.size) (h : ∀ j (hj : j < ys.length), cur[j]? = some (.int .i64 ys[j])) : cur.toList.take ys.length = ys.map (Value.int .i64) := by
  apply List.ext_getElem?
  intro j
  by_cases hj : j < ys.length
  · rw [List.getElem?_take_of_lt hj, Array.getElem?_toList, h j hj]; simp [hj]
  · rw [List.getElem?_take_eq_none (by omega), List.getElem?_eq_none (by simp; omega)]
theorem own_get {base : Nat} {w : World} {g cap : Nat} {xs : List Int} {cur : Array Value} {T : TypeId} (hg : w.heap[g]? = some (.cells cur T (0, 0))) (ht : cur.toList.take xs.length = xs.map (Value.int .i64)) (j : Nat) (hj : j < xs.length) : cur[j]? = some (.int .i64 xs[j]) := by
  have h1 : (cur.toList.take xs.length)[j]? = (xs.map (Value.int .i64))[j]? := by rw [ht]
  rw [List.getElem?_take_of_lt hj, Array.getElem?_toList] at h1
  rw [h1]; simp [hj]

theorem clone_own {base : Nat} {w : World} {v : Value} {xs : List Int} (h : OwnI base w v xs) (hl : xs.length ≤ 1000000) :
    Calls Try.prog 28 #[v] w fun e w' => (∃ v', e = .returned v' ∧ OwnI w.heap.size w' v' xs) ∧ Below w.heap.size w w' := by
  rcases h.2 with ⟨rfl, h0⟩ | ⟨g, cap, cur, rfl, hb, hg, hn, hm, hcs, ht⟩
  · obtain rfl : xs = [] := List.length_eq_zero_iff.1 h0
    refine (Try.slices_Clone_int_nil 0 0 w).mono ?_
    rintro e w' ⟨rfl, rfl⟩
    exact ⟨⟨_, rfl, World.ownsRow_nil _ _ _ _⟩, Below.refl _ _⟩
  · rw [Nat.mul_one] at ht
    refine (Try.slices_Clone_int g 0 xs.length cap xs w (Nat.le_refl _) (by omega) (fun j hj => by
      have := (holds_of_blockI hg ht j (by simpa using hj)).1
      rw [this]
      simp [List.getD, List.getElem?_eq_getElem hj, hj])).mono ?_
    rintro e w' ⟨v', rfl, hr, _, hbl⟩
    rw [List.take_length] at hr
    exact ⟨⟨v', rfl, hr⟩, hbl⟩
theorem delete_own {base : Nat} {w : World} {v : Value} {xs : List Int} (h : OwnI base w v xs) (hl : xs.length ≤ 1000000) (i : Nat) (hi : i < xs.length) :
    Calls Try.prog 26 #[v, .int .i64 i, .int .i64 (i + 1 : Nat)] w fun e w' => (∃ v', e = .returned v' ∧ OwnI base w' v' (xs.take i ++ xs.drop (i + 1)) ∧ Tie w v v') ∧ Fr (vB v) w w' := by
  rcases h.2 with ⟨rfl, h0⟩ | ⟨g, cap, cur, rfl, hb, hg, hn, hm, hcs, ht⟩
  · omega
  · rw [Nat.mul_one] at ht hcs
    have hH := holds_of_blockI hg ht
    have hq := Try.slices_Delete_int_cells g 0 xs.length cap i (i + 1) xs w (Nat.le_refl _) hn (by unfold maxLen at hm; omega) (by omega) (by omega) (fun j hj => by
      rw [(hH j (by simpa using hj)).1]
      simp [List.getD, List.getElem?_eq_getElem hj, hj]) (fun j hj => (hH j (by simpa using hj)).2)
    refine hq.mono ?_
    rintro e w' ⟨rfl, q, rfl⟩
    rw [List.take_length]
    have hlen : (xs.take i ++ xs.drop (i + 1)).length = xs.length - 1 := by simp; omega
    obtain ⟨cur', h1, h2, h3⟩ := heap_setCells (b := g) ((xs.take i ++ xs.drop (i + 1) ++ List.replicate (i + 1 - i) 0).map (Value.int .i64)) 0 (w.drewN q) cur hg
    refine ⟨⟨_, rfl, ⟨by simp, .inr ⟨g, cap, cur', ?_, hb, h1, by omega, hm, by omega, ?_⟩⟩, tie_same rfl⟩, fr_setCells (X := vB (.slice (some ⟨g, 0, none⟩) xs.length cap)) (.inl (by rfl)) _ _ _ ((Fr.refl _ w).drewN q)⟩
    · rw [hlen, show xs.length - (i + 1 - i) = xs.length - 1 by omega]
    · rw [Nat.mul_one]
      refine take_of_get (by omega) fun j hj => ?_
      rw [h3 j, if_pos ⟨by omega, by simp at hj ⊢; omega, by omega⟩, Nat.sub_zero, List.getElem?_map, List.getElem?_append_left hj, List.getElem?_eq_getElem hj]
      rfl
end Go.Proofs.Yteiiaocohpbanaa
