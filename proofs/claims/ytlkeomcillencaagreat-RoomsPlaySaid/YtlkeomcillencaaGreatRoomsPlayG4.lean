/- Texts of this proof, one behind the other. -/
import Derived.Test.YtlkeomcillencaaGreatRoomsPlayG3
import Derived.Test.YtlkeomcillencaaGreatRoomsPlayG1
import Derived.Deep.RegionHeld3
import Derived.Sort.LoopGhostIn
import Derived.Test.YtlkeomcillencaaGreatRoomsPlayG2
set_option linter.unusedVariables false
set_option linter.unusedSimpArgs false
section
/- Layer 10: slices.Insert of one number, at a row of the call's own. -/
namespace Go.Proofs.YtlkeomcillencaaGreat
open Go Go.RowKit Go.Lib Go.Sort Go.Shelf

theorem row_grown {w : World} {base : Nat} {zs : List Int} {m old : Nat} (hm : zs.length = m) (hz : m ≤ 1000001) (hb : base ≤ w.heap.size) {cur : Array Value} (hs : cur.size = grownCap w m old 3) (ht : cur.toList.take m = zs.map (Value.int .i64)) {W : World} (hW : W.heap[w.heap.size]? = some (.cells cur 3 (0, 0))) :
    OwnI base W (.slice (some ⟨w.heap.size, 0, none⟩) m (grownCap w m old 3)) zs := by
  subst hm
  refine ⟨by simp, .inr ⟨w.heap.size, _, cur, rfl, hb, hW, grownCap_ge _ _ _ _, grownCap_le_maxLen _ _ _ _ (by unfold maxLen; omega), by rw [hs, Nat.mul_one], by rw [Nat.mul_one]; exact ht⟩⟩

theorem ins_get {α : Type} (xs : List α) (i : Nat) (hi : i ≤ xs.length) (x : α) (j : Nat) : (xs.take i ++ x :: xs.drop i)[j]? = if j < i then xs[j]? else if j = i then some x else xs[j - 1]? := by
  rw [List.getElem?_append, List.length_take, Nat.min_eq_left hi]
  by_cases h : j < i
  · rw [if_pos h, if_pos h, List.getElem?_take_of_lt h]
  · rw [if_neg h, if_neg h]
    by_cases e : j = i
    · subst e; rw [if_pos rfl, Nat.sub_self]; rfl
    · rw [if_neg e, show j - i = (j - i - 1) + 1 by omega, List.getElem?_cons_succ, List.getElem?_drop, show i + (j - i - 1) = j - 1 by omega]
theorem take_of_get' {cur : Array Value} {ys : List Int} (hs : ys.length ≤ cur.size) (h : ∀ j, j < ys.length → cur[j]? = (ys[j]?).map (Value.int .i64)) : cur.toList.take ys.length = ys.map (Value.int .i64) :=
  take_of_get hs fun j hj => by rw [h j hj, List.getElem?_eq_getElem hj]; rfl
theorem own_get' {w : World} {g : Nat} {xs : List Int} {cur : Array Value} {T : TypeId} (hg : w.heap[g]? = some (.cells cur T (0, 0))) (ht : cur.toList.take xs.length = xs.map (Value.int .i64)) (j : Nat) (hj : j < xs.length) : cur[j]? = (xs[j]?).map (Value.int .i64) := by
  rw [own_get (base := 0) (w := w) (cap := 0) hg ht j hj, List.getElem?_eq_getElem hj]; rfl

set_option maxHeartbeats 1000000 in
theorem insert_own {base : Nat} {w : World} {v : Value} {xs : List Int} (h : OwnI base w v xs) (hl : xs.length ≤ 1000000) (i : Nat) (hi : i ≤ xs.length) (x : Int) (vb : Nat) (hvb : w.heap[vb]? = some (.cells #[.int .i64 x] 3 (0, 0))) (hne : v.ownBlock ≠ some vb) (hbw : base ≤ w.heap.size) :
    Calls Tryz.prog 125 #[v, .int .i64 i, .slice (some ⟨vb, 0, none⟩) 1 1] w fun e w' => (∃ v', e = .returned v' ∧ OwnI base w' v' (xs.take i ++ x :: xs.drop i) ∧ Tie w v v') ∧ Fr (vB v) w w' := by
  have hvs : ∀ j u, [Value.int .i64 x][j]? = some u → w.cell? ⟨vb, 0 + j, none⟩ = some u := by
    intro j u hu
    rw [Nat.zero_add, blk_cell hvb j]
    rw [← hu]
    exact (Array.getElem?_toList (xs := #[Value.int .i64 x]) (i := j)).symm
  have h1v : ∀ u ∈ [Value.int .i64 x], u.oneCell' = true := by intro u hu; simp at hu; subst hu; rfl
  have hT : Tryz.laysNm221_ren.t 3 = 3 := rfl
  have hlen : (xs.take i ++ x :: xs.drop i).length = xs.length + 1 := by simp; omega
  rcases h.2 with ⟨rfl, h0⟩ | ⟨g, cap, cur, rfl, hb, hg, hn, hm, hcs, ht⟩
  · obtain rfl : xs = [] := List.length_eq_zero_iff.1 h0
    obtain rfl : i = 0 := by simpa using hi
    refine (Any2.slices_Insert_int_end_grow Tryz.laysNm221 none 0 0 vb 0 1 1 [] [.int .i64 x] w (by omega) (by omega) (by omega) (by omega) rfl rfl (fun _ => rfl) (fun a ha => by cases ha) hvs h1v).mono ?_
    rintro e w' ⟨he, hw⟩
    rw [hT] at he hw
    subst he; subst hw
    refine ⟨⟨_, rfl, row_grown (zs := [x]) rfl (by simp) hbw ?_ ?_ (heap_alloc_new w.drew _), tie_new rfl (Nat.le_refl _)⟩, (Fr.refl _ w).drew.alloc _⟩
    · have := grownCap_ge w (0 + 1) 0 3
      simp [size_zeroCells, Value.cells] at this ⊢; omega
    · simp
  · rw [Nat.mul_one] at ht hcs
    have hgb : g ≠ vb := fun e => hne (by rw [e]; rfl)
    have hH := holds_of_blockI hg ht
    have hcell : ∀ j u, (xs.map (Value.int .i64))[j]? = some u → w.cell? ⟨g, 0 + j, none⟩ = some u := by
      intro j u hu
      rw [Nat.zero_add, blk_cell hg j]
      have hj : j < xs.length := by have := (List.getElem?_eq_some_iff.1 hu).1; simpa using this
      rw [own_get (base := 0) (w := w) (cap := cap) hg ht j hj, ← hu]
      simp [hj]
    have hcl : (xs.map (Value.int .i64)).length = xs.length := by simp
    have hmm := hm
    unfold maxLen at hmm
    by_cases hroom : xs.length + 1 ≤ cap
    · have hsome : ∀ j, j < cap → (w.cell? ⟨g, j, none⟩).isSome = true := fun j hj => by rw [blk_cell hg j, Array.getElem?_eq_getElem (by omega)]; rfl
      by_cases hend : i = xs.length
      · subst hend
        refine (Any2.slices_Insert_int_end_room Tryz.laysNm221 g 0 xs.length cap vb 0 1 1 [.int .i64 x] w (by omega) hroom (by omega) rfl (fun j hj => by rw [show 0 + xs.length + j = xs.length + j by omega]; exact hsome _ (by omega)) (fun j _ => blk_free hg _) hvs h1v).mono ?_
        rintro e w' ⟨rfl, rfl⟩
        obtain ⟨cur', k1, k2, k3⟩ := heap_setCells (b := g) [Value.int .i64 x] (0 + xs.length) w cur hg
        refine ⟨⟨_, rfl, ⟨by simp, .inr ⟨g, cap, cur', ?_, hb, k1, by omega, hm, by omega, ?_⟩⟩, tie_same rfl⟩, fr_setCells (X := vB (.slice (some ⟨g, 0, none⟩) xs.length cap)) (.inl (by rfl)) _ _ _ (Fr.refl _ w)⟩
        · rw [hlen]
        · rw [Nat.mul_one]
          refine take_of_get' (by omega) fun j hj => ?_
          rw [k3 j, ins_get _ _ (Nat.le_refl _)]
          by_cases e : j < xs.length
          · rw [if_neg (by omega), if_pos e]; exact own_get' hg ht j e
          · obtain rfl : j = xs.length := by omega
            rw [if_pos ⟨by omega, by simp, by omega⟩, if_neg e, if_pos rfl]
            simp
      · have hil : i < xs.length := by omega
        refine (Any2.slices_Insert_int_shift Tryz.laysNm221 g 0 xs.length cap i vb 0 1 1 (xs.map (Value.int .i64)) [.int .i64 x] w hil (by omega) hroom (by omega) (fun e => hgb e.symm) hcl rfl hcell (fun j hj => by rw [Nat.zero_add]; exact hsome j (by omega)) (fun j _ => blk_free hg _) hvs (int_cells xs) h1v _ _ _ _
          (show w.shape? vb = some (3, 1) by simp [World.shape?, hvb]) (show w.shape? g = some (3, cap) by simp [World.shape?, hg, hcs]) (by omega) (blk_free hvb _) (by simp [World.frozen?, hvb])).mono ?_
        rintro e w' ⟨rfl, rfl⟩
        obtain ⟨cur1, k1, k2, k3⟩ := heap_setCells (b := g) ((xs.map (Value.int .i64)).drop i) (0 + (i + 1)) w.drew cur hg
        obtain ⟨cur2, p1, p2, p3⟩ := heap_setCells (b := g) [Value.int .i64 x] (0 + i) _ cur1 k1
        refine ⟨⟨_, rfl, ⟨by simp, .inr ⟨g, cap, cur2, ?_, hb, p1, by omega, hm, by omega, ?_⟩⟩, tie_same rfl⟩, fr_setCells (X := vB (.slice (some ⟨g, 0, none⟩) xs.length cap)) (.inl (by rfl)) _ _ _ (fr_setCells (X := vB (.slice (some ⟨g, 0, none⟩) xs.length cap)) (.inl (by rfl)) _ _ _ (Fr.refl _ w).drew)⟩
        · rw [hlen]
        · rw [Nat.mul_one]
          refine take_of_get' (by omega) fun j hj => ?_
          rw [p3 j, ins_get _ _ hi]
          by_cases e : j = i
          · subst e
            rw [if_pos ⟨by omega, by simp, by omega⟩, if_neg (by omega), if_pos rfl]
            simp
          · rw [if_neg (by simp; omega), k3 j]
            by_cases c : j < i
            · rw [if_neg (by omega), if_pos c]; exact own_get' hg ht j (by omega)
            · rw [if_pos ⟨by omega, by simp; omega, by omega⟩, if_neg c, if_neg e, List.getElem?_drop, List.getElem?_map, show i + (j - (0 + (i + 1))) = j - 1 by omega]
    · by_cases hend : i = xs.length
      · subst hend
        refine (Any2.slices_Insert_int_end_grow Tryz.laysNm221 (some ⟨g, 0, none⟩) xs.length cap vb 0 1 1 (xs.map (Value.int .i64)) [.int .i64 x] w (by omega) hn (by omega) (by omega) hcl rfl (fun h => by cases h) (fun a ha j u hu => by cases ha; rw [Addr.add_lit]; exact hcell j u hu) hvs h1v).mono ?_
        rintro e w' ⟨he, hw⟩
        rw [hT] at he hw
        subst he; subst hw
        have e1 : (xs.map (Value.int .i64) ++ [Value.int .i64 x]).length = xs.length + 1 := by simp
        refine ⟨⟨_, rfl, row_grown (zs := xs.take xs.length ++ x :: xs.drop xs.length) (by simp) (by omega) hbw ?_ ?_ (heap_alloc_new w.drew _), tie_new rfl (Nat.le_refl _)⟩, (Fr.refl _ w).drew.alloc _⟩
        · have := grownCap_ge w (xs.length + 1) cap 3
          simp [size_zeroCells, Value.cells]; omega
        · rw [Array.toList_append, ← e1, List.take_left]
          simp
      · have hil : i < xs.length := by omega
        refine (Any2.slices_Insert_int_grow Tryz.laysNm221 g 0 xs.length cap i vb 0 1 1 (xs.map (Value.int .i64)) [.int .i64 x] w hil (by omega) hn (by omega) (by omega) hcl rfl hcell hvs (int_cells xs) h1v).mono ?_
        rintro e w' ⟨he, hw⟩
        rw [hT] at he hw
        subst he; subst hw
        have hge := grownCap_ge w (xs.length + 1) cap 3
        obtain ⟨G, hG⟩ : ∃ G, grownCap w (xs.length + 1) cap 3 = G := ⟨_, rfl⟩
        obtain ⟨C, hC⟩ : ∃ C, ((xs.map (Value.int .i64)).take i).toArray ++ Builtin.zeroCells (Value.int .i64 0).cells (xs.length + 1 - i) ++ Builtin.zeroCells (Value.int .i64 0).cells (G - (xs.length + 1)) = C := ⟨_, rfl⟩
        have hCs : C.size = G := by
          rw [← hC]
          simp [size_zeroCells, Value.cells]; omega
        have hCl : ∀ j, j < i → C[j]? = (xs[j]?).map (Value.int .i64) := fun j hj => by
          rw [← hC, Array.getElem?_append_left (by simp; omega), Array.getElem?_append_left (by simp; omega), List.getElem?_toArray, List.getElem?_take_of_lt hj, List.getElem?_map]
        rw [hG] at hge ⊢
        rw [hC]
        obtain ⟨cur1, k1, k2, k3⟩ := heap_setCells (b := w.heap.size) [Value.int .i64 x] i (w.alloc (.cells C 3)).drew C (heap_alloc_new w _)
        obtain ⟨cur2, p1, p2, p3⟩ := heap_setCells (b := w.heap.size) ((xs.map (Value.int .i64)).drop i) (i + 1) (((w.alloc (.cells C 3)).drew.setCells w.heap.size i [Value.int .i64 x]).drew) cur1 k1
        have hrow := row_grown (w := w) (old := cap) (m := xs.length + 1) (zs := xs.take i ++ x :: xs.drop i) (cur := cur2) hlen (by omega) hbw (by omega) (by
          rw [← hlen]
          refine take_of_get' (by omega) fun j hj => ?_
          rw [p3 j, ins_get _ _ hi]
          by_cases c : j < i
          · rw [if_neg (by omega), if_pos c, k3 j, if_neg (by omega)]; exact hCl j c
          · by_cases e : j = i
            · subst e
              rw [if_neg (by omega), if_neg c, if_pos rfl, k3 j, if_pos ⟨by omega, by simp, by omega⟩]
              simp
            · rw [if_pos ⟨by omega, by simp; omega, by omega⟩, if_neg c, if_neg e, List.getElem?_drop, List.getElem?_map, show i + (j - (i + 1)) = j - 1 by omega]) p1
        rw [hG] at hrow
        exact ⟨⟨_, rfl, hrow, tie_new rfl (Nat.le_refl _)⟩, fr_setCells (.inr (Nat.le_refl _)) _ _ _ (fr_setCells (.inr (Nat.le_refl _)) _ _ _ ((Fr.refl _ w).alloc _).drew).drew⟩
end Go.Proofs.YtlkeomcillencaaGreat
end
section
/- Layer 10: a set as it lies; Has, Len, List, Add. -/
namespace Go.Proofs.YtlkeomcillencaaGreat
open Go Go.RowKit Go.Lib Go.Sort Go.Shelf

/-- a set: its block, its row's block, its things -/
def SetAt (base : Nat) (w : World) (s : Nat) (ob : Option Nat) (xs : List Int) : Prop :=
  (∃ v, w.heap[s]? = some (.cells #[v] 149 (0, 0)) ∧ v.ownBlock = ob ∧ OwnI base w v xs) ∧ ob ≠ some s ∧ xs.Pairwise (· < ·)
/-- one thing more -/
def insI (xs : List Int) (x : Int) : List Int := if xs.contains x then xs else xs.take (xs.countP (· < x)) ++ x :: xs.drop (xs.countP (· < x))
theorem countP_le (xs : List Int) (x : Int) : xs.countP (· < x) ≤ xs.length := List.countP_le_length
theorem take_lt : ∀ {xs : List Int}, xs.Pairwise (· < ·) → ∀ x, (∀ y ∈ xs.take (xs.countP (· < x)), y < x) ∧ (∀ y ∈ xs.drop (xs.countP (· < x)), x ≤ y)
  | [], _, x => by simp
  | a :: xs, h, x => by
    rw [List.pairwise_cons] at h
    obtain ⟨i1, i2⟩ := take_lt h.2 x
    by_cases c : a < x
    · rw [List.countP_cons_of_pos (by simpa using c)]
      refine ⟨fun y hy => ?_, fun y hy => i2 y (by simpa using hy)⟩
      rw [List.take_succ_cons, List.mem_cons] at hy
      rcases hy with rfl | hy
      · exact c
      · exact i1 y hy
    · have hz : (a :: xs).countP (· < x) = 0 := by
        rw [List.countP_eq_zero]
        intro y hy
        rcases List.mem_cons.1 hy with rfl | hy
        · simpa using c
        · have := h.1 y hy; simp; omega
      rw [hz]
      refine ⟨by simp, fun y hy => ?_⟩
      rw [List.drop_zero] at hy
      rcases List.mem_cons.1 hy with rfl | hy
      · omega
      · have := h.1 y hy; omega
theorem insI_up {xs : List Int} (h : xs.Pairwise (· < ·)) (x : Int) : (insI xs x).Pairwise (· < ·) := by
  unfold insI
  split
  · exact h
  · next hc =>
    obtain ⟨h1, h2⟩ := take_lt h x
    have hp := h
    rw [← List.take_append_drop (xs.countP (· < x)) xs] at hp
    obtain ⟨p1, p2, p3⟩ := List.pairwise_append.1 hp
    refine List.pairwise_append.2 ⟨p1, List.pairwise_cons.2 ⟨fun y hy => ?_, p2⟩, fun y hy z hz => ?_⟩
    · have h3 := h2 y hy
      have h4 : y ≠ x := by
        rintro rfl
        exact hc (by simpa using List.mem_of_mem_drop hy)
      omega
    · rcases List.mem_cons.1 hz with rfl | hz
      · exact h1 y hy
      · exact p3 y hy z hz
theorem insI_len (xs : List Int) (x : Int) : (insI xs x).length = if xs.contains x then xs.length else xs.length + 1 := by
  unfold insI
  have := countP_le xs x
  split
  · rfl
  · simp; omega
theorem up_le {xs : List Int} (h : xs.Pairwise (· < ·)) : xs.Pairwise (· ≤ ·) := h.imp fun h => by omega
/-- many -/
def insAll (xs ls : List Int) : List Int := ls.foldl insI xs
theorem insAll_snoc (xs ls : List Int) (x : Int) : insAll xs (ls ++ [x]) = insI (insAll xs ls) x := by simp [insAll]
theorem insAll_len (xs : List Int) : ∀ ls : List Int, (insAll xs ls).length ≤ xs.length + ls.length ∧ xs.length ≤ (insAll xs ls).length := by
  refine snoc_ind ?_ ?_
  · simp [insAll]
  · intro l x ih
    rw [insAll_snoc, insI_len, List.length_append, List.length_singleton]
    split <;> omega
theorem insAll_up {xs : List Int} (h : xs.Pairwise (· < ·)) : ∀ ls : List Int, (insAll xs ls).Pairwise (· < ·) := by
  refine snoc_ind h ?_
  intro l x ih
  rw [insAll_snoc]
  exact insI_up ih x

theorem own_kept {base : Nat} {w W : World} {v : Value} {xs : List Int} (h : OwnI base w v xs) (hs : ∀ g, v.ownBlock = some g → W.heap[g]? = w.heap[g]?) : OwnI base W v xs := row_same h hs
theorem set_kept {base : Nat} {w W : World} {s : Nat} {ob : Option Nat} {xs : List Int} (h : SetAt base w s ob xs) (h1 : W.heap[s]? = w.heap[s]?) (h2 : ∀ g, ob = some g → W.heap[g]? = w.heap[g]?) : SetAt base W s ob xs := by
  obtain ⟨⟨v, a, rfl, b⟩, c, d⟩ := h
  exact ⟨⟨v, h1.trans a, rfl, own_kept b h2⟩, c, d⟩
theorem set_below {base : Nat} {w W : World} {s : Nat} {ob : Option Nat} {xs : List Int} (h : SetAt base w s ob xs) (hb : Below w.heap.size w W) : SetAt base W s ob xs := by
  obtain ⟨⟨v, a, rfl, b⟩, c, d⟩ := h
  exact ⟨⟨v, (hb.block _ (blk_lt a)).trans a, rfl, own_kept b fun g hg => hb.block g (b.lt g hg).2⟩, c, d⟩



theorem set_len_nil (w : World) : Calls Tryz.prog 97 #[.pointer none] w fun e w' => e = .returned (.int .i64 0) ∧ w' = w := by
  go_enter Tryz.func97, Tryz.ntmps97
  go_wp2_with fail
  go_ret
  exact ⟨rfl, rfl⟩
theorem set_len {base : Nat} {w : World} {s : Nat} {ob : Option Nat} {xs : List Int} (h : SetAt base w s ob xs) :
    Calls Tryz.prog 97 #[.pointer (some ⟨s, 0, none⟩)] w fun e w' => e = .returned (.int .i64 xs.length) ∧ w' = w := by
  obtain ⟨⟨v, hv, hob, hown⟩, hne, hup⟩ := h
  obtain ⟨A, c, rfl⟩ := row_slice hown
  have c0 := blk_cell hv 0
  clear hv hob hown hup
  go_enter Tryz.func97, Tryz.ntmps97
  go_wp2_with fail
  go_ret
  exact ⟨rfl, rfl⟩
theorem set_list_nil (w : World) : Calls Tryz.prog 117 #[.pointer none] w fun e w' => e = .returned (.slice none 0 0) ∧ w' = w := by
  go_enter Tryz.func117, Tryz.ntmps117
  go_wp2_with fail
  go_ret
  exact ⟨rfl, rfl⟩
/-- a slice of numbers, handed back -/
def ListP (xs : List Int) (w : World) (e : Ending) (w' : World) : Prop := (∃ v', e = .returned v' ∧ OwnI w.heap.size w' v' xs) ∧ Below w.heap.size w w'
theorem set_list {base : Nat} {w : World} {s : Nat} {ob : Option Nat} {xs : List Int} (h : SetAt base w s ob xs) (hl : xs.length ≤ 1000000) :
    Calls Tryz.prog 117 #[.pointer (some ⟨s, 0, none⟩)] w (ListP xs w) := by
  obtain ⟨⟨v, hv, hob, hown⟩, hne, hup⟩ := h
  have hc := clone_own hown hl
  obtain ⟨A, c, rfl⟩ := row_slice hown
  have c0 := blk_cell hv 0
  have HC := Lib.hid hc
  clear hc hv hob hown hup
  go_enter Tryz.func117, Tryz.ntmps117
  go_wp2_with fail
  refine HC.out.mono ?_
  rintro e w1 ⟨⟨v', rfl, h1⟩, h2⟩
  obtain ⟨A', c', rfl⟩ := row_slice h1
  have H := Lib.hid (And.intro h1 h2)
  clear h1 h2
  go_wp2_with fail
  go_ret
  exact ⟨⟨_, rfl, H.out.1⟩, H.out.2⟩

/-- behind some came in -/
def AddP (base : Nat) (w : World) (s : Nat) (ob : Option Nat) (xs ls : List Int) (wr : World) : Prop :=
  ∃ ob', SetAt base wr s ob' (insAll xs ls) ∧ (∀ k, ob' = some k → k < w.heap.size → ob = some k) ∧ Fr (fun k => k = s ∨ ob = some k) w wr
set_option maxRecDepth 100000 in
set_option maxHeartbeats 4000000 in
theorem set_add {base : Nat} {w : World} {s : Nat} {ob : Option Nat} {xs : List Int} (h : SetAt base w s ob xs) (hbw : base ≤ w.heap.size) (A : Option Addr) (ls : List Int) (c : Nat) (hl : xs.length + ls.length ≤ 1000000)
    (hc : 0 < ls.length → ∃ g o, A = some ⟨g, o, none⟩ ∧ g < w.heap.size ∧ g ≠ s ∧ ob ≠ some g ∧ ∀ j (h : j < ls.length), w.cell? ⟨g, o + j, none⟩ = some (.int .i64 ls[j])) :
    Calls Tryz.prog 104 #[.pointer (some ⟨s, 0, none⟩), .slice A ls.length c] w fun e w' => e = .returned (.int .i64 ((insAll xs ls).length - xs.length : Nat)) ∧ AddP base w s ob xs ls w' := by
  have hs0 : s < w.heap.size := by obtain ⟨⟨v, hv, _⟩, _⟩ := h; exact blk_lt hv
  have H0 : Hid (AddP base w s ob xs [] w) := ⟨ob, h, fun _ h _ => h, Fr.refl _ _⟩
  have HC := Lib.hid hc
  clear hc h
  go_enter Tryz.func104, Tryz.ntmps104
  go_wp2_with fail
  go_loopw [5, 14] (fun cm ct wr => ∃ k : Nat, ct = .int .i64 k ∧ k ≤ ls.length ∧ cm = .int .i64 ((insAll xs (ls.take k)).length - xs.length : Nat) ∧ Hid (AddP base w s ob xs (ls.take k) wr)) (fun _ ct _ => ls.length - (Go.RowKit.intOf ct).toNat)
  case atStart => exact ⟨0, rfl, Nat.zero_le _, by simp [insAll], by simpa using H0⟩
  case round =>
    obtain ⟨k, rfl, hk, rfl, HA⟩ := hrel
    by_cases hlt : k < ls.length
    · obtain ⟨g, o, rfl, hg, hgs, hgo, hcell⟩ := HC.out (by omega)
      obtain ⟨ob', hset, hob', hfr⟩ := HA.out
      have e0 : wr.cell? ⟨g, o + k, none⟩ = some (.int .i64 ls[k]) := (hfr.cell (p := ⟨g, o + k, none⟩) hg (by rintro (h | h); exact hgs h; exact hgo h)).trans (hcell k hlt)
      have htk : ls.take (k + 1) = ls.take k ++ [ls[k]] := List.take_succ_eq_append_getElem hlt
      obtain ⟨x, hx⟩ : ∃ x, ls[k] = x := ⟨_, rfl⟩
      rw [hx] at e0 htk
      obtain ⟨ys, hys⟩ : ∃ ys, insAll xs (ls.take k) = ys := ⟨_, rfl⟩
      have hins : insAll xs (ls.take (k + 1)) = insI ys x := by rw [htk, insAll_snoc, hys]
      have hyl := insAll_len xs (ls.take k)
      rw [List.length_take, hys] at hyl
      have hy1 : ys.length ≤ 1000000 := by omega
      have hy2 : ys.length - xs.length ≤ 1000000 := by omega
      rw [hys] at hset ⊢
      obtain ⟨⟨v, hv, hvo, hown⟩, hne, hup⟩ := hset
      have hbs := bsearch_own hown hy1 (up_le hup) x
      obtain ⟨av, cv, rfl⟩ := row_slice hown
      have c0 := blk_cell hv 0
      have f0 := blk_free hv 0
      obtain ⟨b, hb⟩ : ∃ b, ys.contains x = b := ⟨_, rfl⟩
      rw [hb] at hbs
      have hz := hfr.size
      have H := Lib.hid (And.intro hv (And.intro hvo (And.intro hown (And.intro hne (And.intro hup (And.intro hob' (And.intro hfr (And.intro hins (And.intro hyl hb)))))))))
      have HB := Lib.hid hbs
      clear hbs hv hvo hown hne hup hob' hfr hins hyl hb hys htk hx hcell
      go_wp2_with fail
      refine HB.out.mono ?_
      rintro e w1 ⟨rfl, q, rfl⟩
      cases b with
      | true =>
        go_wp2_with fail
        obtain ⟨hv, hvo, hown, hne, hup, hob', hfr, hins, hyl, hb⟩ := H.out
        have hi2 : insI ys x = ys := by unfold insI; rw [if_pos hb]
        have hnew : AddP base w s ob xs (ls.take (k + 1)) (wr.drewN q) := by
          refine ⟨ob', ⟨⟨_, hv, hvo, ?_⟩, hne, ?_⟩, hob', hfr.drewN q⟩
          · rw [hins, hi2]; exact hown
          · rw [hins, hi2]; exact hup
        have HN := Lib.hid hnew
        have hlen : (insAll xs (ls.take (k + 1))).length = ys.length := by rw [hins, hi2]
        have HL := Lib.hid hlen
        clear hnew hlen hv hvo hown hne hup hob' hfr hins hyl hb hi2
        go_roundw
        case rel => exact ⟨k + 1, by go_num, by omega, by rw [HL.out], HN⟩
        case measure => simp [Go.RowKit.intOf]; omega
      | false =>
        go_wp2_with fail
        obtain ⟨hv, hvo, hown, hne, hup, hob', hfr, hins, hyl, hb⟩ := H.out
        have hi2 : insI ys x = ys.take (ys.countP (· < x)) ++ x :: ys.drop (ys.countP (· < x)) := by unfold insI; rw [hb]; rfl
        have hil : (insI ys x).length = ys.length + 1 := by rw [insI_len, hb]; rfl
        have hiu := insI_up hup x
        obtain ⟨W2, hW2⟩ : ∃ W2, (wr.drewN q).alloc (Obj.cells #[Value.int IntKind.i64 x] 3) = W2 := ⟨_, rfl⟩
        have hsz : (wr.drewN q).heap.size = wr.heap.size := rfl
        have hf2 : Fr (fun k => k = s ∨ ob = some k) w W2 := by rw [← hW2]; exact (hfr.drewN q).alloc _
        have hv2 : W2.heap[s]? = some (.cells #[.slice av ys.length cv] 149 (0, 0)) := by rw [← hW2]; exact blk_alloc (by exact hv) _
        have hn2 : W2.heap[wr.heap.size]? = some (.cells #[.int .i64 x] 3 (0, 0)) := by rw [← hW2, ← hsz]; exact heap_alloc_new _ _
        have hbel : Below wr.heap.size wr W2 := by rw [← hW2]; exact Below.alloc (⟨rfl, rfl, rfl, Nat.le_refl _, fun _ _ => rfl⟩ : Below wr.heap.size wr (wr.drewN q)) (Nat.le_refl _) _
        have ho2 : OwnI base W2 (.slice av ys.length cv) ys := own_kept hown fun g hg => hbel.block g (hown.lt g hg).2
        have hlt2 : ob' ≠ some wr.heap.size := fun e => by have := (hown.lt wr.heap.size (by rw [hvo, e])).2; omega
        have hsl := blk_lt hv2
        have hb2 : base ≤ W2.heap.size := by have := hf2.size; omega
        have HI := Lib.hid (insert_own ho2 hy1 _ (countP_le ys x) x _ hn2 (by rw [hvo]; exact hlt2) hb2)
        rw [hW2]
        have H2 := Lib.hid (And.intro hf2 (And.intro hv2 (And.intro hil (And.intro hiu hi2))))
        clear hW2 hf2 hv2 hn2 hbel ho2 hlt2 hb2 hv hvo hown hne hup hob' hfr hins hyl hb hi2 hil hiu hsz c0 f0
        refine HI.out.mono ?_
        rintro e w3 ⟨⟨v', rfl, ho3, ht3⟩, hf3⟩
        obtain ⟨hv, hvo, hown, hne, hup, hob', hfr, hins, hyl, hb⟩ := H.out
        obtain ⟨hf2, hv2, hil, hiu, hi2⟩ := H2.out
        rw [← hi2] at ho3
        have hns : ¬ vB (.slice av ys.length cv) s := fun e => hne (hvo ▸ e)
        have hv3 := hf3.blk hv2 hns
        have c3 := blk_cell hv3 0
        have f3 := blk_free hv3 0
        obtain ⟨A', c', rfl⟩ := row_slice ho3
        have hns' : (Value.slice A' (insI ys x).length c').ownBlock ≠ some s := fun e => hns (ht3 s e hsl)
        have hnew : AddP base w s ob xs (ls.take (k + 1)) (w3.setCell ⟨s, 0, none⟩ (.slice A' (insI ys x).length c')) := by
          have hf3' : Fr (fun k => k = s ∨ ob = some k) w w3 := hf2.trans2 hf3 fun k hk e => .inr (hob' k (hvo ▸ e) hk)
          refine ⟨_, ⟨⟨_, blk_set hv3 0 _, rfl, ?_⟩, hns', ?_⟩, ?_, hf3'.setCell _ (.inl rfl) _⟩
          · rw [hins]
            exact own_kept ho3 fun g hg => Below.heap_setCell _ _ _ _ fun e => by cases e; exact hns' hg
          · rw [hins]; exact hiu
          · intro k2 hk2 hl2
            have := ht3 k2 hk2 (Nat.lt_of_lt_of_le hl2 hf2.size)
            exact hob' k2 (hvo ▸ this) hl2
        have HN := Lib.hid hnew
        have hlen : (insAll xs (ls.take (k + 1))).length = ys.length + 1 := by rw [hins, hil]
        have HL := Lib.hid hlen
        have hyx : xs.length ≤ ys.length := hyl.2
        clear hnew hlen hv hvo hown hne hup hob' hfr hins hyl hb hi2 hil hiu hf2 hv2 ho3 ht3 hf3 hns hns' hv3
        go_wp2_with fail
        go_roundw
        case rel => exact ⟨k + 1, by go_num, by omega, by rw [HL.out]; rw [show ys.length + 1 - xs.length = (ys.length - xs.length) + 1 by omega]; go_num, HN⟩
        case measure => simp [Go.RowKit.intOf]; omega
    · obtain rfl : k = ls.length := by omega
      rw [List.take_length] at HA ⊢
      go_wp2_with fail
      go_ret
      exact ⟨rfl, HA.out⟩
end Go.Proofs.YtlkeomcillencaaGreat
end
section
/- Layer 10: Remove. -/
namespace Go.Proofs.YtlkeomcillencaaGreat
open Go Go.RowKit Go.Lib Go.Sort Go.Shelf

/-- one thing less -/
def delI (xs : List Int) (x : Int) : List Int := if xs.contains x then xs.take (xs.countP (· < x)) ++ xs.drop (xs.countP (· < x) + 1) else xs
theorem countP_lt {xs : List Int} {x : Int} (hx : x ∈ xs) : xs.countP (· < x) < xs.length := by
  have h := List.countP_le_length (p := fun y => decide (y < x)) (l := xs)
  rcases Nat.lt_or_ge (xs.countP fun y => decide (y < x)) xs.length with h' | h'
  · exact h'
  · have := List.countP_eq_length.1 (Nat.le_antisymm h h') x hx
    simp at this
theorem delI_sub (xs : List Int) (x : Int) : (delI xs x).Sublist xs := by
  unfold delI
  split
  · conv => rhs; rw [← List.take_append_drop (xs.countP (· < x)) xs]
    exact List.Sublist.append (List.Sublist.refl _) (by rw [← List.drop_drop]; exact List.drop_sublist _ _)
  · exact List.Sublist.refl _
theorem delI_up {xs : List Int} (h : xs.Pairwise (· < ·)) (x : Int) : (delI xs x).Pairwise (· < ·) := h.sublist (delI_sub xs x)
theorem delI_len (xs : List Int) (x : Int) : (delI xs x).length = if xs.contains x then xs.length - 1 else xs.length := by
  unfold delI
  split
  · next hc =>
    have := countP_lt (xs := xs) (x := x) (by simpa using hc)
    simp; omega
  · rfl
/-- many -/
def delAll (xs ls : List Int) : List Int := ls.foldl delI xs
theorem delAll_snoc (xs ls : List Int) (x : Int) : delAll xs (ls ++ [x]) = delI (delAll xs ls) x := by simp [delAll]
theorem delAll_len (xs : List Int) : ∀ ls : List Int, (delAll xs ls).length ≤ xs.length := by
  refine snoc_ind ?_ ?_
  · simp [delAll]
  · intro l x ih
    rw [delAll_snoc]
    exact Nat.le_trans (delI_sub _ _).length_le ih

/-- behind some went -/
def RemP (base : Nat) (w : World) (s : Nat) (ob : Option Nat) (xs ls : List Int) (wr : World) : Prop :=
  ∃ ob', SetAt base wr s ob' (delAll xs ls) ∧ (∀ k, ob' = some k → k < w.heap.size → ob = some k) ∧ Fr (fun k => k = s ∨ ob = some k) w wr
set_option maxRecDepth 100000 in
set_option maxHeartbeats 4000000 in
theorem set_rem {base : Nat} {w : World} {s : Nat} {ob : Option Nat} {xs : List Int} (h : SetAt base w s ob xs) (hbw : base ≤ w.heap.size) (A : Option Addr) (ls : List Int) (c : Nat) (hl : xs.length ≤ 1000000) (hll : ls.length ≤ 1000000)
    (hc : 0 < ls.length → ∃ g o, A = some ⟨g, o, none⟩ ∧ g < w.heap.size ∧ g ≠ s ∧ ob ≠ some g ∧ ∀ j (h : j < ls.length), w.cell? ⟨g, o + j, none⟩ = some (.int .i64 ls[j])) :
    Calls Tryz.prog 79 #[.pointer (some ⟨s, 0, none⟩), .slice A ls.length c] w fun e w' => e = .returned (.int .i64 (xs.length - (delAll xs ls).length : Nat)) ∧ RemP base w s ob xs ls w' := by
  have hs0 : s < w.heap.size := by obtain ⟨⟨v, hv, _⟩, _⟩ := h; exact blk_lt hv
  have H0 : Hid (RemP base w s ob xs [] w) := ⟨ob, h, fun _ h _ => h, Fr.refl _ _⟩
  have HC := Lib.hid hc
  clear hc h
  go_enter Tryz.func79, Tryz.ntmps79
  go_wp2_with fail
  go_loopw [5, 14] (fun cm ct wr => ∃ k : Nat, ct = .int .i64 k ∧ k ≤ ls.length ∧ cm = .int .i64 (xs.length - (delAll xs (ls.take k)).length : Nat) ∧ Hid (RemP base w s ob xs (ls.take k) wr)) (fun _ ct _ => ls.length - (Go.RowKit.intOf ct).toNat)
  case atStart => exact ⟨0, rfl, Nat.zero_le _, by simp [delAll], by simpa using H0⟩
  case round =>
    obtain ⟨k, rfl, hk, rfl, HA⟩ := hrel
    by_cases hlt : k < ls.length
    · obtain ⟨g, o, rfl, hg, hgs, hgo, hcell⟩ := HC.out (by omega)
      obtain ⟨ob', hset, hob', hfr⟩ := HA.out
      have e0 : wr.cell? ⟨g, o + k, none⟩ = some (.int .i64 ls[k]) := (hfr.cell (p := ⟨g, o + k, none⟩) hg (by rintro (h | h); exact hgs h; exact hgo h)).trans (hcell k hlt)
      have htk : ls.take (k + 1) = ls.take k ++ [ls[k]] := List.take_succ_eq_append_getElem hlt
      obtain ⟨x, hx⟩ : ∃ x, ls[k] = x := ⟨_, rfl⟩
      rw [hx] at e0 htk
      obtain ⟨ys, hys⟩ : ∃ ys, delAll xs (ls.take k) = ys := ⟨_, rfl⟩
      have hins : delAll xs (ls.take (k + 1)) = delI ys x := by rw [htk, delAll_snoc, hys]
      have hyl := delAll_len xs (ls.take k)
      rw [hys] at hyl
      have hy1 : ys.length ≤ 1000000 := by omega
      have hy2 : xs.length - ys.length ≤ 1000000 := by omega
      rw [hys] at hset ⊢
      obtain ⟨⟨v, hv, hvo, hown⟩, hne, hup⟩ := hset
      have hbs := bsearch_own hown hy1 (up_le hup) x
      obtain ⟨av, cv, rfl⟩ := row_slice hown
      have c0 := blk_cell hv 0
      have f0 := blk_free hv 0
      obtain ⟨b, hb⟩ : ∃ b, ys.contains x = b := ⟨_, rfl⟩
      rw [hb] at hbs
      have hz := hfr.size
      have H := Lib.hid (And.intro hv (And.intro hvo (And.intro hown (And.intro hne (And.intro hup (And.intro hob' (And.intro hfr (And.intro hins (And.intro hyl hb)))))))))
      have HB := Lib.hid hbs
      clear hbs hv hvo hown hne hup hob' hfr hins hyl hb hys htk hx hcell
      go_wp2_with fail
      refine HB.out.mono ?_
      rintro e w1 ⟨rfl, q, rfl⟩
      cases b with
      | true =>
        obtain ⟨hv, hvo, hown, hne, hup, hob', hfr, hins, hyl, hb⟩ := H.out
        have hi2 : delI ys x = ys.take (ys.countP (· < x)) ++ ys.drop (ys.countP (· < x) + 1) := by unfold delI; rw [hb]; rfl
        have hlt3 : ys.countP (· < x) < ys.length := countP_lt (by simpa using hb)
        have hil : (delI ys x).length = ys.length - 1 := by rw [delI_len, hb]; rfl
        have hiu := delI_up hup x
        have hw2 : (wr.drewN q).heap = wr.heap := rfl
        have HI := Lib.hid (delete_own (base := base) (w := wr.drewN q) (own_kept hown fun g _ => by rw [hw2]) hy1 _ hlt3)
        obtain ⟨i, hi⟩ : ∃ i, ys.countP (fun y => decide (y < x)) = i := ⟨_, rfl⟩
        rw [hi] at hlt3 HI
        rw [hi]
        have H2 := Lib.hid (And.intro hil (And.intro hiu (And.intro hi2 hi)))
        clear hv hvo hown hne hup hob' hfr hins hyl hb hi2 hil hiu hw2 hi
        go_wp2_with fail
        refine HI.out.mono ?_
        rintro e w3 ⟨⟨v', rfl, ho3, ht3⟩, hf3⟩
        obtain ⟨hv, hvo, hown, hne, hup, hob', hfr, hins, hyl, hb⟩ := H.out
        obtain ⟨hil, hiu, hi2, hi⟩ := H2.out
        rw [← hi, ← hi2] at ho3
        have hf2 : Fr (fun k => k = s ∨ ob = some k) w (wr.drewN q) := hfr.drewN q
        have hsl : s < (wr.drewN q).heap.size := blk_lt hv
        have hns : ¬ vB (.slice av ys.length cv) s := fun e => hne (hvo ▸ e)
        have hv3 := hf3.blk (k := s) (o := .cells #[.slice av ys.length cv] 149 (0, 0)) hv hns
        have c3 := blk_cell hv3 0
        have f3 := blk_free hv3 0
        obtain ⟨A', c', rfl⟩ := row_slice ho3
        have hns' : (Value.slice A' (delI ys x).length c').ownBlock ≠ some s := fun e => hns (ht3 s e hsl)
        have hnew : RemP base w s ob xs (ls.take (k + 1)) (w3.setCell ⟨s, 0, none⟩ (.slice A' (delI ys x).length c')) := by
          have hf3' : Fr (fun k => k = s ∨ ob = some k) w w3 := hf2.trans2 hf3 fun k hk e => .inr (hob' k (hvo ▸ e) hk)
          refine ⟨_, ⟨⟨_, blk_set hv3 0 _, rfl, ?_⟩, hns', ?_⟩, ?_, hf3'.setCell _ (.inl rfl) _⟩
          · rw [hins]
            exact own_kept ho3 fun g hg => Below.heap_setCell _ _ _ _ fun e => by cases e; exact hns' hg
          · rw [hins]; exact hiu
          · intro k2 hk2 hl2
            have := ht3 k2 hk2 (Nat.lt_of_lt_of_le hl2 hf2.size)
            exact hob' k2 (hvo ▸ this) hl2
        have HN := Lib.hid hnew
        have hy0 : 1 ≤ ys.length := by omega
        have hlen : (delAll xs (ls.take (k + 1))).length = ys.length - 1 := by rw [hins, hil]
        have HL := Lib.hid hlen
        have hyx : ys.length ≤ xs.length := hyl
        clear hnew hlen hv hvo hown hne hup hob' hfr hins hyl hb hi2 hil hiu hf2 hi ho3 ht3 hf3 hns hns' hv3
        go_wp2_with fail
        go_roundw
        case rel => exact ⟨k + 1, by go_num, by omega, by rw [HL.out]; rw [show xs.length - (ys.length - 1) = (xs.length - ys.length) + 1 by omega]; go_num, HN⟩
        case measure => simp [Go.RowKit.intOf]; omega
      | false =>
        go_wp2_with fail
        obtain ⟨hv, hvo, hown, hne, hup, hob', hfr, hins, hyl, hb⟩ := H.out
        have hi2 : delI ys x = ys := by unfold delI; rw [hb]; rfl
        have hnew : RemP base w s ob xs (ls.take (k + 1)) (wr.drewN q) := by
          refine ⟨ob', ⟨⟨_, hv, hvo, ?_⟩, hne, ?_⟩, hob', hfr.drewN q⟩
          · rw [hins, hi2]; exact hown
          · rw [hins, hi2]; exact hup
        have HN := Lib.hid hnew
        have hlen : (delAll xs (ls.take (k + 1))).length = ys.length := by rw [hins, hi2]
        have HL := Lib.hid hlen
        clear hnew hlen hv hvo hown hne hup hob' hfr hins hyl hb hi2
        go_roundw
        case rel => exact ⟨k + 1, by go_num, by omega, by rw [HL.out], HN⟩
        case measure => simp [Go.RowKit.intOf]; omega
    · obtain rfl : k = ls.length := by omega
      rw [List.take_length] at HA ⊢
      go_wp2_with fail
      go_ret
      exact ⟨rfl, HA.out⟩
end Go.Proofs.YtlkeomcillencaaGreat
end
section
/- A range over a function that tells a row xs, one by one: the body is told that what comes is the next of the row. Blocks Y: what the function that ranges reads and the body leaves alone; blocks X among them: what it writes between the rounds. -/
namespace Go.Proofs.YtlkeomcillencaaGreat
open Go Go.RowKit

/-- a region that does not panic, where what is owed at a panic hangs on the frame -/
theorem wpIn_noPanic {F : Fence} {n : Nat} {P : Program} {Q : Exit → Act → World → Prop} {a : Act} {w : World} {id : Nat} {ops : Array Oper} {b : Bool} (h : (Code.region id ops b).wpIn F n P (NoPanic Q) a w) : (Code.region id ops b).wpIn F n P Q a w :=
  wpIn_mono h fun e _ _ hq => by
    cases e with
    | panic ch => exact hq.elim
    | _ => exact hq
/-- what a function that ranges is worth, if it tells the row xs -/
def SeqT {α : Type} (F : Fence) (n : Nat) (P : Program) (g : Nat) (lb : Array Value) (encs : α → Array Value) (X Y : Nat → Prop) (xs : List α) (w : World) : Prop :=
  ∀ (l : Nat) (J Jx : List α → World → Prop) (V : World), Below w.heap.size w V → AbX X V.heap.size J → AbX X V.heap.size Jx →
    (∀ pre x r V1, pre ++ x :: r = xs → J pre V1 → YieldAt F (n - 1) P l (encs x) V1 fun e V' => (e = .returned (.bool true) ∧ J (pre ++ [x]) V' ∧ SameX Y V1 V') ∨ (e = .returned (.bool false) ∧ Jx (pre ++ [x]) V')) →
    J [] V → CallsIn F n P g (#[.func (.yield l) #[] #[]] ++ lb) V fun e V' => (∃ v, e = .returned v) ∧ (J xs V' ∨ ∃ pre r, pre ++ r = xs ∧ Jx pre V')
/-- how a round of the body ends -/
def EndT {α : Type} (B : Nat) (Y : Nat → Prop) (I : List α → World → Prop) (Ix : Code → List α → World → Prop) (xs : List α) (V : World) : Exit → Act → World → Prop
  | .normal, _, V' => KeepsFrom B V V' ∧ SameX Y V V' ∧ I xs V'
  | .ret, _, V' => KeepsFrom B V V' ∧ Ix .ret xs V'
  | .exit id, _, V' => KeepsFrom B V V' ∧ Ix (.exit id) xs V'
  | .goto t, _, V' => KeepsFrom B V V' ∧ Ix (.goto t) xs V'
  | .panic _, _, _ => False
  | .outgrown, _, _ => False

theorem wpIn_rangeT {F : Fence} {n : Nat} {P : Program} {w : World} {α : Type} {a : Act} {Q : Exit → Act → World → Prop} {g : Operand} {assign body : Code} {ps : Array Tmp} {gf : Nat} {lb : Array Value}
    {X Y : Nat → Prop} {encs : α → Array Value} {xs : List α} {w0 : World} (I : List α → World → Prop) (Ix : Code → List α → World → Prop)
    (hg : a.eval g = .func (.func gf) #[] lb) (hseq : SeqT F (n - 1) P gf lb encs X Y xs w0) (hb0 : Below w0.heap.size w0 w) (hX : ∀ b, X b → b < w.heap.size) (hY : ∀ b, Y b → b < w.heap.size) (hro : F.round = none) (h1 : 1 ≤ n) (hFg : F.fn gf)
    (eg : ∀ args v, (callFunc gf args).run P v = .ok (.enter gf args) v) (hps : ∀ x, (encs x).size = ps.size)
    (hI : OwnFrom w.heap.size I) (hIX : Lets X I) (hIx : ∀ c, OwnFrom w.heap.size (Ix c)) (hIxX : ∀ c, Lets X (Ix c)) (h0 : I [] w)
    (hround : ∀ l pre x r V0 V (K : Act → World → Prop), w.heap.size ≤ l → (∃ r, V.heap[l]? = some (.loop r)) → pre ++ x :: r = xs → I pre V → (∀ a1, body.wpIn (F.inRound l) (n - 1 - 1) P (EndT w.heap.size Y I Ix (pre ++ [x]) V) a1 V → K a1 V0) →
      assign.wpIn (F.inRound l) (n - 1 - 1) P (Exit.then K fun _ _ _ => False) { tmps := (ps.zip (encs x)).foldl (fun t (p, v) => t.setIfInBounds p v) a.tmps, defers := [] } V0)
    (hdone : ∀ D V, w.heap.size ≤ D → I xs V → V.heap[D]? = some (.deferred (some [])) → Q .normal { a with defers := { target := .collected D, args := #[] } :: a.defers } V)
    (hstop : ∀ D c pre r V, w.heap.size ≤ D → pre ++ r = xs → Ix c pre V → V.heap[D]? = some (.deferred (some [])) → c.wpIn F n P Q { a with defers := { target := .collected D, args := #[] } :: a.defers } V) :
    (Code.rangeFunc g ps assign body).wpIn F n P Q a w := by
  refine wpIn_rangeFunc fun fn hfn => ?_
  rw [hro]
  obtain ⟨R, hR⟩ : ∃ R : LoopState → Option Code → Loop, ∀ st pe, R st pe = { state := st, pending := pe, fn := fn, tmps := a.tmps, params := ps, assign := assign, body := body, defers := w.heap.size } := ⟨_, fun _ _ => rfl⟩
  obtain ⟨V1, hV1⟩ : ∃ V1, (w.alloc (.deferred (some []))).alloc (.loop (R .ready none)) = V1 := ⟨_, rfl⟩
  have hz : V1.heap.size = w.heap.size + 2 := by rw [← hV1]; simp
  have bk : Bk (w.heap.size + 1) w.heap.size (R .ready none) V1 := by
    subst hV1
    refine ⟨?_, (Below.heap_alloc _ _ _ (by simp)).trans (World.alloc_heap_new w _)⟩
    have h := World.alloc_heap_new (w.alloc (.deferred (some []))) (.loop (R .ready none))
    rwa [World.size_alloc] at h
  have i1 : I [] V1 := by subst hV1; exact hI.alloc _ (hI.alloc _ h0)
  have bel : Below w0.heap.size w0 V1 := by subst hV1; exact (hb0.alloc hb0.size _).alloc (by rw [World.size_alloc]; have := hb0.size; omega) _
  have hput : ∀ {s : List α} {V : World} {r : Loop} (r' : Loop), I s V → Bk (w.heap.size + 1) w.heap.size r V → I s (V.putObj (w.heap.size + 1) (.loop r')) := fun r' hi hb => hI.putObj _ hi (by omega) hb.1 rfl
  have hputx : ∀ {c : Code} {s : List α} {V : World} {r : Loop} (r' : Loop), Ix c s V → Bk (w.heap.size + 1) w.heap.size r V → Ix c s (V.putObj (w.heap.size + 1) (.loop r')) := fun {c} _ _ _ r' hi hb => (hIx c).putObj _ hi (by omega) hb.1 rfl
  have sput : ∀ (V : World) (r' : Loop), SameX Y V (V.putObj (w.heap.size + 1) (.loop r')) := fun V r' b hb => World.putObj_heap_other (by have := hY b hb; omega)
  have abook : ∀ {V V' : World} {row : Option Nat} {r : Loop}, Bk (w.heap.size + 1) w.heap.size r V → V.grownBy V' row → (∀ r, row = some r → X r ∨ (V1.heap.size ≤ r ∧ ∃ o : Obj, V.heap[r]? = some o ∧ o.isWalk = true)) → Bk (w.heap.size + 1) w.heap.size r V' := fun hb hgr hrow => by
    refine hb.grown hgr (fun e => ?_) (fun e => ?_)
    · rcases hrow _ e.symm with h | h
      · have := hX _ h; omega
      · omega
    · rcases hrow _ e.symm with h | h
      · have := hX _ h; omega
      · omega
  have own : ∀ {J : List α → World → Prop}, OwnFrom w.heap.size J → Lets X J → ∀ {s : List α} {V V' : World} {row : Option Nat}, J s V → V.grownBy V' row → (∀ r, row = some r → X r ∨ (V1.heap.size ≤ r ∧ ∃ o : Obj, V.heap[r]? = some o ∧ o.isWalk = true)) → J s V' := fun hJ hL s V V' row hj hgr hrow => by
    cases row with
    | none => exact hJ s V V' none hj hgr (fun _ e => by cases e)
    | some r =>
      rcases hrow r rfl with h | ⟨h, o, ho, hw⟩
      · exact hL s V V' r h hj hgr
      · exact hJ s V V' (some r) hj hgr (fun _ e => by cases e; exact ⟨by omega, o, ho, Obj.not_cells_of_walk hw⟩)
  refine ⟨w.heap.size + 1, [{ target := .collected w.heap.size, args := #[] }], V1, { target := .fn (.func gf) lb, args := #[.func (.yield (w.heap.size + 1)) #[] #[]] }, V1, gf, #[.func (.yield (w.heap.size + 1)) #[] #[]] ++ lb, V1, ?_, ?_, ?_, ?_, fun _ => h1, ?_⟩
  · rw [← hV1, hR]; exact run_enterLoop_outer _ _ _ _ _
  · simp only [resolve, hg]; simp [go_sem]
  · intro f' hf'; simp [Target.leads] at hf'; subst hf'; exact hFg
  · simp [invoke, go_sem, eg]
  refine (hseq (w.heap.size + 1) (fun pre V => I pre V ∧ Bk (w.heap.size + 1) w.heap.size (R .ready none) V) (fun pre V => ∃ c, Ix c pre V ∧ Bk (w.heap.size + 1) w.heap.size (R .done (some c)) V) V1 bel
    (fun s V V' row hj hgr hrow => ⟨own hI hIX hj.1 hgr hrow, abook hj.2 hgr hrow⟩)
    (fun s V V' row hj hgr hrow => hj.elim fun c hc => ⟨c, own (hIx c) (hIxX c) hc.1 hgr hrow, abook hc.2 hgr hrow⟩) ?round ⟨i1, bk⟩).mono ?behind
  case behind =>
    rintro e V2 ⟨⟨v, rfl⟩, (⟨hi, hb⟩ | ⟨pre, r, hSp, c, hi, hb⟩)⟩
    · have hend := run_endLoop (P := P) hb.1 (by rw [hR]; simp)
      rw [hR] at hend
      exact ⟨none, _, hend, hdone _ _ (Nat.le_refl _) (hput _ hi hb) (hb.put (by omega) _).2⟩
    · have hend := run_endLoop (P := P) hb.1 (by rw [hR]; simp)
      rw [hR] at hend
      exact ⟨some c, _, hend, hstop _ c pre r _ (Nat.le_refl _) hSp (hputx _ hi hb) (hb.put (by omega) _).2⟩
  case round =>
    rintro pre x r V hpx ⟨hi, hb⟩
    have hy := run_yield (P := P) (args := encs x) hb.1 (by rw [hR]; exact hps x)
    rw [hR] at hy
    have hb2 := hb.put (by omega) { R .ready none with state := .busy }
    refine ⟨fn, _, assign, body, hy, roundIn_of_wpIn hfn (hround (w.heap.size + 1) pre x r V _ _ (by omega) ⟨_, hb2.1⟩ hpx (hput _ hi hb) fun a1 hbody => ⟨_, run_beginRound hb.1 (by rw [hR]), ?_⟩)⟩
    refine wpIn_mono hbody ?_
    -- behind the body: the record is turned, whatever the way
    have turn : ∀ (j : Option Code) {V3 : World}, KeepsFrom w.heap.size (V.putObj (w.heap.size + 1) (.loop { R .ready none with state := .busy })) V3 →
        ∃ st, st = (if j.isNone then LoopState.ready else .done) ∧ (Instr.endRound (w.heap.size + 1) j).run P V3 = .ok (.bool j.isNone) (V3.putObj (w.heap.size + 1) (.loop (R st j))) ∧ Bk (w.heap.size + 1) w.heap.size { R .ready none with state := .busy } V3 ∧
          Bk (w.heap.size + 1) w.heap.size (R st j) (V3.putObj (w.heap.size + 1) (.loop (R st j))) := fun j V3 hk => by
      have hb3 := hb2.keeps hk (by omega) (Nat.le_refl _)
      have hend := run_endRound (P := P) j hb3.1
      refine ⟨_, rfl, ?_, hb3, hb3.put (by omega) _⟩
      rw [hend, hR, hR]
    rintro e a3 V3 hp
    cases e with
    | normal =>
      obtain ⟨hk, hs, hi3⟩ := hp
      obtain ⟨st, rfl, hr, hb3, hb4⟩ := turn none hk
      exact ⟨_, _, hr, .inl ⟨rfl, ⟨hput _ hi3 hb3, hb4⟩, ((sput V _).trans hs).trans (sput V3 _)⟩⟩
    | ret =>
      obtain ⟨st, rfl, hr, hb3, hb4⟩ := turn (some .ret) hp.1
      exact ⟨_, _, hr, .inr ⟨rfl, _, hputx _ hp.2 hb3, hb4⟩⟩
    | exit id =>
      obtain ⟨st, rfl, hr, hb3, hb4⟩ := turn (some (.exit id)) hp.1
      exact ⟨_, _, hr, .inr ⟨rfl, _, hputx _ hp.2 hb3, hb4⟩⟩
    | goto t =>
      obtain ⟨st, rfl, hr, hb3, hb4⟩ := turn (some (.goto t)) hp.1
      exact ⟨_, _, hr, .inr ⟨rfl, _, hputx _ hp.2 hb3, hb4⟩⟩
    | panic ch => exact hp.elim
    | outgrown => exact hp.elim
end Go.Proofs.YtlkeomcillencaaGreat
end
section
/- Layer 10: what tells a row of numbers, as a function that ranges: slices.Values; All. -/
namespace Go.Proofs.YtlkeomcillencaaGreat
open Go Go.RowKit Go.Lib Go.Sort Go.Shelf

def encI (x : Int) : Array Value := #[.int .i64 x]
/-- the blocks of a tale -/
def rowY (B : Nat) (v : Value) : Nat → Prop := fun b => b = B ∨ v.ownBlock = some b
set_option maxRecDepth 100000 in
set_option maxHeartbeats 4000000 in
theorem values_tells (n : Nat) (hn : 2 ≤ n) (base B : Nat) (v : Value) (xs : List Int) (w : World) (hxs : xs.length ≤ 1000000) (hb : w.heap[B]? = some (.cells #[v] 56 (0, 0))) (hr : OwnI base w v xs) :
    SeqT Fence.wide n Tryz.prog 116 #[.pointer (some ⟨B, 0, none⟩)] encI (fun _ => False) (rowY B v) xs w := fun l J Jx V hV hJ hJx hY h0 => by
  have hbV := (hV.block B (blk_lt hb)).trans hb
  have c0 : V.cell? ⟨B, 0, none⟩ = some v := (blk_cell hbV 0).trans rfl
  have hrV : OwnI base V v xs := own_kept hr fun g hg => hV.block g (hr.lt g hg).2
  obtain ⟨A, c, rfl⟩ := row_slice hr
  have HR := Lib.hid hrV
  have HB := Lib.hid hbV
  have HY := Lib.hid hY
  have HJ := Lib.hid hJ
  have HJx := Lib.hid hJx
  clear hb hr hV hrV hbV hY hJ hJx
  refine callsIn_of_wp Tryz.func116 rfl trivial ?_ rfl
  simp only [Tryz.ntmps116, List.size_toArray, List.length_cons, List.length_nil, Nat.reduceAdd, Nat.reduceSub, Array.replicate_succ, Array.replicate_zero, List.push_toArray, List.append_toArray, List.nil_append, List.cons_append]
  gi_wp2
  gi_loopw [7] (fun c1 wr => ∃ k : Nat, c1 = .int .i64 k ∧ k ≤ xs.length ∧ Hid (SameX (rowY B (.slice A xs.length c)) V wr) ∧ Hid (J (xs.take k) wr)) (fun c1 _ => xs.length - (Go.RowKit.intOf c1).toNat)
  case atStart => exact ⟨0, rfl, Nat.zero_le _, fun _ _ => rfl, h0⟩
  case round =>
    obtain ⟨k, rfl, hk, HS, HJk⟩ := hrel
    by_cases hlt : k < xs.length
    · obtain ⟨g, cap, cur, hAs, hg2, ht⟩ : ∃ g cap cur, Value.slice A xs.length c = .slice (some ⟨g, 0, none⟩) xs.length cap ∧ V.heap[g]? = some (.cells cur 3 (0, 0)) ∧ cur.toList.take xs.length = xs.map (Value.int .i64) := by
        rcases HR.out.2 with ⟨h1, h2⟩ | ⟨g, cap, cur, h1, _, h3, _, _, _, h6⟩
        · omega
        · rw [Nat.mul_one] at h6; exact ⟨g, cap, cur, h1, h3, h6⟩
      cases hAs
      obtain ⟨x, hx⟩ : ∃ x, xs[k] = x := ⟨_, rfl⟩
      have e0 : wr.cell? ⟨g, k, none⟩ = some (.int .i64 x) := by
        rw [HS.out.cell (b := g) (o := k) (.inr rfl), blk_cell hg2, own_get (base := 0) (w := V) (cap := 0) hg2 ht k hlt, hx]
      have hsp : xs.take k ++ x :: xs.drop (k + 1) = xs := by rw [← hx, ← List.drop_eq_getElem_cons hlt]; exact List.take_append_drop k xs
      have htk : xs.take (k + 1) = xs.take k ++ [x] := by rw [List.take_succ_eq_append_getElem hlt, hx]
      have HT := Lib.hid htk
      have HSP := Lib.hid hsp
      have hyy := HY.out (xs.take k) x (xs.drop (k + 1)) wr hsp HJk.out
      obtain ⟨fn, tmps, assign, body, hy, hR⟩ := hyy
      dsimp only [encI] at hy
      clear hx htk hsp hg2 ht
      gi_wp2_with fail
      refine ⟨fun _ => by omega, hR.mono ?_⟩
      rintro e W3 (⟨rfl, hJ3, hK3⟩ | ⟨rfl, hJx3⟩)
      · have hS3 : Hid (SameX (rowY B (.slice (some ⟨g, 0, none⟩) xs.length c)) V W3) := HS.out.trans hK3
        rw [← HT.out] at hJ3
        have HJ3 := Lib.hid hJ3
        clear hJ3 hK3 hR hy
        gi_wp2_with fail
        go_roundw
        case rel => exact ⟨k + 1, by go_num, by omega, hS3, HJ3⟩
        case measure => simp [Go.RowKit.intOf]; omega
      · clear hR hy
        gi_wp2_with fail
        refine bodyPost_ret (results_none rfl _ _ _) rfl ?_
        exact ⟨⟨_, rfl⟩, .inr ⟨_, xs.drop (k + 1), by simpa using HSP.out, hJx3⟩⟩
    · obtain rfl : k = xs.length := by omega
      gi_wp2_with fail
      go_end0
      have hj := HJk.out
      rw [List.take_length] at hj
      exact ⟨⟨_, rfl⟩, .inl hj⟩

/-- a tale of numbers, handed back -/
def ValsP (v : Value) (w : World) (e : Ending) (w' : World) : Prop :=
  e = .returned (.func (.func 116) #[] #[.pointer (some ⟨w.heap.size, 0, none⟩)]) ∧ w'.heap[w.heap.size]? = some (.cells #[v] 56 (0, 0)) ∧ Below w.heap.size w w'
theorem values_calls (A : Option Addr) (l c : Nat) (w : World) : Calls Tryz.prog 86 #[.slice A l c] w (ValsP (.slice A l c) w) := by
  go_enter Tryz.func86, Tryz.ntmps86
  go_wp2_with fail
  go_ret
  exact ⟨rfl, heap_alloc_new _ _, (Below.refl _ _).alloc (Nat.le_refl _) _⟩
/-- what tells xs: a tale, its box, the value in it -/
def TaleAt (base : Nat) (w : World) (F : Value) (xs : List Int) : Prop := ∃ B v, base ≤ B ∧ F = .func (.func 116) #[] #[.pointer (some ⟨B, 0, none⟩)] ∧ w.heap[B]? = some (.cells #[v] 56 (0, 0)) ∧ v.ownBlock ≠ some B ∧ OwnI base w v xs
theorem tale_below {base : Nat} {w W : World} {F : Value} {xs : List Int} (h : TaleAt base w F xs) {n : Nat} (hb : Below n w W) (hn : w.heap.size ≤ n) : TaleAt base W F xs := by
  obtain ⟨B, v, h0, h1, h2, h3, h4⟩ := h
  exact ⟨B, v, h0, h1, (hb.block _ (Nat.lt_of_lt_of_le (blk_lt h2) hn)).trans h2, h3, own_kept h4 fun g hg => hb.block g (Nat.lt_of_lt_of_le (h4.lt g hg).2 hn)⟩
def AllP (xs : List Int) (w : World) (e : Ending) (w' : World) : Prop := (∃ F, e = .returned F ∧ TaleAt w.heap.size w' F xs) ∧ Below w.heap.size w w'
theorem all_of {xs : List Int} {w w1 w2 : World} {v : Value} {e : Ending} (h1 : OwnI w.heap.size w1 v xs) (h2 : Below w.heap.size w w1) (h3 : ValsP v w1 e w2) : AllP xs w e w2 := by
  obtain ⟨rfl, a, b⟩ := h3
  refine ⟨⟨_, rfl, _, v, h2.size, rfl, a, fun e => ?_, own_kept h1 fun g hg => b.block g (h1.lt g hg).2⟩, h2.trans (b.mono h2.size)⟩
  have := (h1.lt _ e).2
  omega
theorem own_nil (base : Nat) (w : World) : OwnI base w (.slice none 0 0) [] := World.ownsRow_nil _ _ _ _
theorem set_all_nil (w : World) : Calls Tryz.prog 88 #[.pointer none] w (AllP [] w) := by
  have h1 := set_list_nil w
  have h2 := values_calls none 0 0 w
  go_enter Tryz.func88, Tryz.ntmps88
  go_wp2_with fail
  refine h1.mono ?_
  rintro e w1 ⟨rfl, rfl⟩
  go_wp2_with fail
  refine h2.mono ?_
  intro e w2 h
  have hx := all_of (own_nil _ _) (Below.refl _ _) h
  obtain ⟨⟨F, rfl, h4⟩, h5⟩ := hx
  have H := Lib.hid (And.intro h4 h5)
  clear h h4 h5
  go_wp2_with fail
  go_ret
  exact ⟨⟨_, rfl, H.out.1⟩, H.out.2⟩
theorem set_all {base : Nat} {w : World} {s : Nat} {ob : Option Nat} {xs : List Int} (h : SetAt base w s ob xs) (hl : xs.length ≤ 1000000) :
    Calls Tryz.prog 88 #[.pointer (some ⟨s, 0, none⟩)] w (AllP xs w) := by
  have H := Lib.hid (set_list h hl)
  clear h
  go_enter Tryz.func88, Tryz.ntmps88
  go_wp2_with fail
  refine H.out.mono ?_
  rintro e w1 ⟨⟨v', rfl, h1⟩, h2⟩
  obtain ⟨A', c', rfl⟩ := row_slice h1
  have HV := values_calls A' xs.length c' w1
  have HH := Lib.hid (And.intro h1 h2)
  clear h1 h2
  go_wp2_with fail
  refine HV.mono ?_
  intro e w2 h
  obtain ⟨⟨F, rfl, h4⟩, h5⟩ := all_of HH.out.1 HH.out.2 h
  have H2 := Lib.hid (And.intro h4 h5)
  clear h h4 h5
  go_wp2_with fail
  go_ret
  exact ⟨⟨_, rfl, H2.out.1⟩, H2.out.2⟩
end Go.Proofs.YtlkeomcillencaaGreat
end
section
/- Layer 10: what the law is told: a row of numbers out of any function that tells it. -/
namespace Go.Proofs.YtlkeomcillencaaGreat
open Go Go.RowKit Go.Lib Go.Sort Go.Shelf
attribute [local go_sem] Oper.semAt_some

theorem Tryz.infoI : (Tryz.prog.info? 3).map (fun i => (i.zero, i.size, i.bytes)) = some (some (.int .i64 0), 1, 8) := by kernel_rfl
/-- what tells xs, whatever function it is -/
def Tells (w : World) (F : Value) (xs : List Int) : Prop := ∃ gf lb Y, F = .func (.func gf) #[] lb ∧ (∀ n, 10 ≤ n → SeqT Fence.wide n Tryz.prog gf lb encI (fun _ => False) Y xs w) ∧ (∀ b, Y b → b < w.heap.size) ∧ (∀ args v, (callFunc gf args).run Tryz.prog v = .ok (.enter gf args) v)
theorem tells_below {w W : World} {F : Value} {xs : List Int} (h : Tells w F xs) (hb : Below w.heap.size w W) : Tells W F xs := by
  obtain ⟨gf, lb, Y, h1, h2, h3, h4⟩ := h
  exact ⟨gf, lb, Y, h1, fun n hn l J Jx V hV => h2 n hn l J Jx V (hb.trans (hV.mono hb.size)), fun b hb2 => Nat.lt_of_lt_of_le (h3 b hb2) hb.size, h4⟩
theorem tells_tale {base : Nat} {w : World} {F : Value} {xs : List Int} (h : TaleAt base w F xs) (hl : xs.length ≤ 1000000) : Tells w F xs := by
  obtain ⟨B, v, h0, h1, h2, h3, h4⟩ := h
  refine ⟨_, _, rowY B v, h1, fun n hn => values_tells n (by omega) base B v xs w hl h2 h4, fun b hb => ?_, enters_of Tryz.func116 (by kernel_rfl) rfl⟩
  rcases hb with rfl | hb
  · exact blk_lt h2
  · exact (h4.lt b hb).2

/-- a slice in its box, and its row -/
def BoxI (B : Nat) (base : Nat) (W : World) (l : List Int) : Prop := ∃ v, W.heap[B]? = some (.cells #[v] 56 (0, 0)) ∧ OwnI base W v l
theorem boxI_own (B base : Nat) {β : Type} (f : β → List Int) : Own (fun s W => BoxI B base W (f s)) := fun s X Y row hs hg hrow => by
  obtain ⟨v, h1, h2⟩ := hs
  refine ⟨v, (hg.block B (blk_lt h1) (fun e => ?_)).trans h1, own_kept h2 fun g hg2 => hg.block g (h2.lt g hg2).2 fun e => ?_⟩
  · obtain ⟨o, ho, hc⟩ := hrow B e.symm; rw [h1] at ho; cases ho; cases hc
  · obtain ⟨o, ho, hc⟩ := hrow g e.symm
    obtain ⟨o2, ho2, hc2⟩ := own_cells h2 g hg2
    rw [ho] at ho2; cases ho2; rw [hc] at hc2; cases hc2
theorem results_box2 {P : Program} {fn : Func} {p q : Tmp} {ty ty2 : TypeId} (h : fn.results = #[.cell p ty, .cell q ty2]) (tmps : Array Value) (w : World) (g g2 : Nat) (v u : Value) (d d2 : TypeDesc) (hp : tmps.getD p undef = .pointer (some ⟨g, 0, none⟩)) (hc : w.cell? ⟨g, 0, none⟩ = some v)
    (hp2 : tmps.getD q undef = .pointer (some ⟨g2, 0, none⟩)) (hc2 : w.cell? ⟨g2, 0, none⟩ = some u)
    (hu : P.underlying ty = some d) (hd : (match d with | .struct _ | .array _ _ => true | _ => false) = false) (hu2 : P.underlying ty2 = some d2) (hd2 : (match d2 with | .struct _ | .array _ _ => true | _ => false) = false) : (results fn tmps).run P w = .ok (.tuple #[v, u]) w := by
  have hp' : tmps[p]?.getD undef = .pointer (some ⟨g, 0, none⟩) := by simpa using hp
  have hp2' : tmps[q]?.getD undef = .pointer (some ⟨g2, 0, none⟩) := by simpa using hp2
  have hagg : (isAgg ty).run P w = .ok false w := by
    unfold isAgg
    rw [Sem.run_bind, run_underlying hu w]
    cases d <;> simp_all
  have hagg2 : (isAgg ty2).run P w = .ok false w := by
    unfold isAgg
    rw [Sem.run_bind, run_underlying hu2 w]
    cases d2 <;> simp_all
  simp [results, h, hp', hp2', asAddr, loadVar, Sem.run_bind, hagg, hagg2, go_sem, hc, hc2]

theorem row_base' {W : World} {base base' : Nat} {v : Value} {xs : List Int} (h : OwnI base W v xs) (hb : base' ≤ base) : OwnI base' W v xs := by
  obtain ⟨h1, h2⟩ := h
  refine ⟨h1, ?_⟩
  rcases h2 with h2 | ⟨g, cap, cur, rfl, h3, h4⟩
  · exact .inl h2
  · exact .inr ⟨g, cap, cur, rfl, by omega, h4⟩
def ToldP (xs : List Int) (w : World) (e : Ending) (w' : World) : Prop := (∃ v', e = .returned (.tuple #[v', .bool true]) ∧ OwnI w.heap.size w' v' xs) ∧ Below w.heap.size w w'
end Go.Proofs.YtlkeomcillencaaGreat
end
section
/- Layer 10: gather: what some functions tell, each thing once, rising. -/
namespace Go.Proofs.YtlkeomcillencaaGreat
open Go Go.RowKit Go.Lib Go.Sort Go.Shelf
attribute [local go_sem] Oper.semAt_some

/-- a mark that a range over a function leaves -/
def mark (D : Nat) : Deferred := { target := .collected D, args := #[] }
/-- a function leaves through its marks -/
theorem leaves_marks {F : Fence} {n : Nat} {P : Program} {fn : Func} {tmps : Array Value} {R : Ending → World → Prop} : ∀ (Ds : List Nat) (w : World), Ds.Nodup → (∀ D ∈ Ds, w.heap[D]? = some (.deferred (some []))) →
    (∀ w', Fr (fun k => k ∈ Ds) w w' → ∃ v, (results fn tmps).run P w' = .ok v w' ∧ R (.returned v) w') → LeavesInM F n P fn tmps R (Ds.map mark) .returning w
  | [], w, _, _, h => h w (Fr.refl _ _)
  | D :: Ds, w, hn, hd, h => by
    rw [List.nodup_cons] at hn
    have h0 := hd D (by simp)
    refine ⟨by simp, .inl ⟨_, _, rfl, run_takeDeferred h0, ?_⟩⟩
    refine leaves_marks Ds _ hn.2 (fun D2 h2 => (World.putObj_heap_other fun e => hn.1 (by cases e; exact h2)).trans (hd D2 (by simp [h2]))) fun w' hf => h w' ?_
    have h1 : Fr (fun k => k ∈ D :: Ds) w (w.putObj D (.deferred none)) := ⟨rfl, rfl, rfl, by simp [World.putObj], fun k _ hk => World.putObj_heap_other fun e => hk (by simp [e])⟩
    exact h1.trans2 hf fun k _ hk => by simp [hk]

theorem marks_own {β : Type} (B : Nat) (Ds : List Nat) : OwnFrom B (fun (_ : β) V => ∀ D ∈ Ds, D < B ∧ V.heap[D]? = some (.deferred (some []))) := fun s V V' row h hg hrow D hD => by
  obtain ⟨a, b⟩ := h D hD
  exact ⟨a, (hg.block D (blk_lt b) (fun e => by have := (hrow D e.symm).1; omega)).trans b⟩
def GatG (w : World) (tl : List (List Int)) (Ds : List Nat) (k : Nat) (W : World) : Prop :=
  Ds.Nodup ∧ (∀ D ∈ Ds, w.heap.size < D ∧ W.heap[D]? = some (.deferred (some []))) ∧ BoxI w.heap.size (w.heap.size + 1) W ((tl.take k).flatten) ∧ Below w.heap.size w W
set_option maxRecDepth 100000 in
set_option maxHeartbeats 4000000 in
theorem gather_of {w : World} (A : Option Addr) (tl : List (List Int)) (c : Nat) (hn : tl.length ≤ 1000) (hl : tl.flatten.length ≤ 1000000)
    (hc : 0 < tl.length → ∃ g o, A = some ⟨g, o, none⟩ ∧ g < w.heap.size ∧ ∀ j (h : j < tl.length), ∃ F, w.cell? ⟨g, o + j, none⟩ = some F ∧ Tells w F tl[j]) (ss : List Int) (hss : (tl.flatten.mergeSort fun x y => decide (x ≤ y)) = ss) :
    Calls Tryz.prog 85 #[.slice A tl.length c] w (ListP (compact ss) w) := by
  have hsl : ss.length ≤ 1000000 := by rw [← hss, List.length_mergeSort]; exact hl
  have HSS := Lib.hid hss
  clear hss
  obtain ⟨i0, hi, hz0, hz1, hz2⟩ := info_parts Tryz.infoI
  refine (callsIn_wide (n := 30)).1 ?_
  refine callsIn_of_wp_marks Tryz.func85 rfl trivial ?_ rfl
  simp only [Tryz.ntmps85, List.size_toArray, List.length_cons, List.length_nil, Nat.reduceAdd, Nat.reduceSub, Array.replicate_succ, Array.replicate_zero, List.push_toArray, List.append_toArray, List.nil_append, List.cons_append]
  gi_wp2_with fail
  have hb0 : (w.alloc (Obj.cells #[Value.slice none 0 0] 56)).heap[w.heap.size]? = some (.cells #[.slice none 0 0] 56 (0, 0)) := heap_alloc_new w _
  have G0 : GatG w tl [] 0 (w.alloc (Obj.cells #[Value.slice none 0 0] 56)) := ⟨List.nodup_nil, (fun _ h => by cases h), ⟨_, hb0, own_nil _ _⟩, (Below.refl _ w).alloc (Nat.le_refl _) _⟩
  have HC := Lib.hid hc
  clear hb0 hc
  refine wpIn_loop_ghost_k (fun n a W => ∃ (k : Nat) (Ds : List Nat) (u5 u10 u11 u12 u13 u19 : Value), n = tl.length - k ∧ k ≤ tl.length ∧ a = { tmps := #[Value.slice A tl.length c, undef, Value.slice none 0 0, Value.pointer (some { block := w.heap.size, off := 0 }), undef, u5, undef, Value.slice A tl.length c, Value.int IntKind.i64 tl.length, Value.int IntKind.i64 k, u10, u11, u12, u13, undef, undef, undef, undef, undef, u19, undef, undef, undef, undef], defers := Ds.map mark } ∧ Hid (GatG w tl Ds k W)) tl.length ⟨0, [], _, _, _, _, _, _, rfl, Nat.zero_le _, rfl, G0⟩ ?_
  clear G0
  rintro gk a W ⟨k, Ds, u5, u10, u11, u12, u13, u19, hgk, hk, rfl, HG⟩ J K hJ hK
  by_cases hlt : k < tl.length
  · obtain ⟨g, o, rfl, hg, hcell⟩ := HC.out (by omega)
    obtain ⟨F, hF, hT⟩ := hcell k hlt
    obtain ⟨gf, lb, Y, rfl, hseq, hY, heg⟩ := hT
    obtain ⟨d1, d2, ⟨vb, d3, d4⟩, d5⟩ := HG.out
    have e0 : W.cell? ⟨g, o + k, none⟩ = some (.func (.func gf) #[] lb) := (World.cell?_of_block (w := w) (w' := W) (a := ⟨g, o + k, none⟩) (d5.block g hg)).trans hF
    have HSq := Lib.hid hseq
    have HEg := Lib.hid heg
    have HJ := Lib.hid hJ
    have HK := Lib.hid hK
    have hWz := d5.size
    clear d1 d2 d3 d4 d5 hcell hF hseq heg hJ hK
    gi_wp2_with fail
    obtain ⟨d1, d2, ⟨vb, d3, d4⟩, d5⟩ := HG.out
    have hfl : ((tl.take k).flatten).length + (tl[k]).length ≤ tl.flatten.length := by
      have h1 := congrArg (fun l => (List.flatten l).length) (List.take_append_drop (k + 1) tl)
      simp only [List.flatten_append, List.length_append, List.take_succ_eq_append_getElem hlt, List.flatten_cons, List.flatten_nil, List.append_nil] at h1
      omega
    have htk : (tl.take (k + 1)).flatten = (tl.take k).flatten ++ tl[k] := by rw [List.take_succ_eq_append_getElem hlt, List.flatten_append, List.flatten_cons, List.flatten_nil, List.append_nil]
    obtain ⟨xs, hxs⟩ : ∃ xs, tl[k] = xs := ⟨_, rfl⟩
    obtain ⟨ys, hys⟩ : ∃ ys, (tl.take k).flatten = ys := ⟨_, rfl⟩
    have HSq' := HSq.out
    rw [hxs] at HSq' hfl htk
    rw [hys] at d4 hfl htk
    have hYl : ∀ b, Y b → b < W.heap.size := fun b hb => by have := hY b hb; omega
    refine wpIn_rangeT (X := fun _ => False) (Y := Y) (xs := xs) (encs := encI) (w0 := w) (gf := gf) (lb := lb)
      (fun pre V => (BoxI w.heap.size (w.heap.size + 1) V (ys ++ pre) ∧ (∀ D ∈ Ds, D < W.heap.size ∧ V.heap[D]? = some (.deferred (some [])))) ∧ Below w.heap.size w V) (fun _ _ _ => False)
      rfl (HSq' _ (by omega)) d5 (fun _ h => h.elim) hYl rfl (by omega) trivial HEg.out (fun _ => rfl)
      (OwnFrom.and (OwnFrom.and ((boxI_own _ _ (fun pre => ys ++ pre)).from _) (marks_own _ _)) (ownFrom_below (Nat.le_refl _) d5.size)) (fun _ _ _ _ h => h.elim) (fun _ _ _ _ _ h _ _ => h) (fun _ _ _ _ _ h => h.elim)
      ⟨⟨⟨_, d3, by rw [List.append_nil]; exact d4⟩, fun D hD => ⟨blk_lt (d2 D hD).2, (d2 D hD).2⟩⟩, d5⟩ ?round ?done (fun _ _ _ _ _ _ _ h _ => h.elim)
    case round =>
      rintro l pre x r V0 V K2 hl2 ⟨rl, hrl⟩ hpx ⟨⟨⟨vb, h3, h4⟩, h6⟩, h5⟩ hK
      dsimp only [encI]
      have HK2 := Lib.hid hK
      clear hK
      gi_wp2
      refine HK2.out _ ?_
      clear HK2 K2
      have c3 := blk_cell h3 0
      have f3 := blk_free h3 0
      have hpl : pre.length + 1 ≤ xs.length := by
        have := congrArg List.length hpx
        simp at this; omega
      have hVz := h5.size
      have hVw : W.heap.size ≤ V.heap.size := by have := blk_lt hrl; omega
      have hsz := blk_lt d3
      have hyl : (ys ++ pre).length = ys.length + pre.length := List.length_append
      obtain ⟨zs, hzs⟩ : ∃ zs, ys ++ pre = zs := ⟨_, rfl⟩
      rw [hzs] at h4 hyl
      have hzl : zs.length ≤ 1000000 := by omega
      clear hyl
      have hor : V.ownsRow (w.heap.size + 1) 3 1 vb zs.length (zs.map (Value.int .i64)) := h4
      have HZ := Lib.hid hzs
      clear hzs
      have HO := Lib.hid hor
      have H := Lib.hid (And.intro h3 (And.intro h4 (And.intro h5 (And.intro h6 hrl))))
      clear h3 h4 h5 h6 hrl hor d1 d2 d3 d4 d5 hpx HSq' htk hxs hys
      gi_wp2_with (first | (gi_at_builtin; refine Hid.out ?_))
      refine Lib.hid ?_
      refine wpListIn_app_fr rfl _ _ 56 rfl (w.heap.size + 1) 3 i0 _ 1 8 Tryz.underlying56 hi hz0 hz1 hz2 rfl (by decide) _ _ _ rfl HO.out #[.int .i64 x] _ rfl rfl rfl (by intro u hu; simp at hu; subst hu; rfl) (by omega) (by decide) (by omega) ?_
      intro v1 W2 hown1 hfr1
      obtain ⟨A1, c1', rfl⟩ := row_slice hown1
      have e1 : W2.heap[w.heap.size]? = some (.cells #[vb] 56 (0, 0)) := (fr_own HO.out hfr1 (by omega) (by omega : w.heap.size < V.heap.size)).trans H.out.1
      have g1 := blk_cell e1 0
      have g2 := blk_free e1 0
      gi_wp2_with fail
      obtain ⟨h3, h4, h5, h6, hrl⟩ := H.out
      have hfr : Fr (fun k => vb.ownBlock = some k ∨ k = w.heap.size) V (W2.setCell ⟨w.heap.size, 0, none⟩ (.slice A1 (zs.length + 1) c1')) := (hfr1.mono fun _ _ h => .inl h).setCell _ (.inr rfl) _
      have hno : ∀ c, c < w.heap.size → ¬ (vb.ownBlock = some c ∨ c = w.heap.size) := by
        rintro c hc (e | e)
        · have := (h4.lt _ e).1; omega
        · omega
      refine ⟨hfr.keeps ?_ _, ?_, ⟨⟨.slice A1 (zs.length + 1) c1', ?_, ?_⟩, ?_⟩, h5.trans (hfr.below h5.size ?_)⟩
      · rintro k hk (e | rfl)
        · exact own_cells h4 k e
        · exact ⟨_, h3, rfl⟩
      · intro c hc
        have := hY c hc
        exact hfr.block c (by omega) (hno c (by omega))
      · have := blk_set e1 0 (.slice A1 (zs.length + 1) c1'); exact this
      · have hown2 : OwnI (w.heap.size + 1) W2 (.slice A1 (zs.length + 1) c1') (ys ++ (pre ++ [x])) := by
          rw [← List.append_assoc, HZ.out]; unfold OwnI; rw [List.length_append, List.map_append]; exact hown1
        exact own_kept hown2 fun g hg => heap_setCell_other W2 _ g _ (by have := (hown2.lt g hg).1; simp; omega)
      · intro D hD
        refine ⟨(h6 D hD).1, hfr.blk (h6 D hD).2 ?_⟩
        rintro (e | e)
        · obtain ⟨o2, a1, a2⟩ := own_cells h4 D e
          rw [(h6 D hD).2] at a1; cases a1; cases a2
        · subst e
          have := (h6 _ hD).2
          rw [h3] at this; cases this
      · rintro k hk (e | rfl)
        · have := (h4.lt k e).1; omega
        · omega
    case done =>
      rintro D V hD ⟨⟨⟨vb, h3, h4⟩, h6⟩, h5⟩ hdef
      have hG : GatG w tl (D :: Ds) (k + 1) V := by
        refine ⟨List.nodup_cons.2 ⟨fun e => by have := (h6 D e).1; omega, d1⟩, ?_, ⟨vb, h3, by rw [htk]; exact h4⟩, h5⟩
        intro E hE
        rcases List.mem_cons.1 hE with rfl | hE
        · exact ⟨by have := blk_lt d3; omega, hdef⟩
        · exact ⟨(d2 E hE).1, (h6 E hE).2⟩
      have HG2 := Lib.hid hG
      clear hG h3 h4 h5 h6 hdef d1 d2 d3 d4 d5 HSq' htk hxs hys hYl
      gi_wp2_with fail
      exact HK.out _ _ (Handed.intro (tl.length - (k + 1)) (by omega) (HJ.out _ _ _ ⟨k + 1, D :: Ds, _, _, _, _, _, _, rfl, by omega, rfl, HG2⟩))
  · obtain rfl : k = tl.length := by omega
    have htk : (tl.take tl.length).flatten = tl.flatten := by rw [List.take_length]
    obtain ⟨d1, d2, ⟨vb, d3, d4⟩, d5⟩ := HG.out
    rw [htk] at d4
    have c0 := blk_cell d3 0
    have hso := sort_own d4 (by omega)
    have hbz := blk_lt d3
    have hWz := d5.size
    rw [HSS.out] at hso
    have HS := Lib.hid hso
    have H := Lib.hid (And.intro d1 (And.intro d2 (And.intro d3 (And.intro d4 d5))))
    clear hJ d1 d2 d3 d4 d5 hso htk
    gi_wp2_with fail
    refine ⟨trivial, ((callsIn_wide (n := 29)).2 HS.out).mono ?_⟩
    rintro e W1 ⟨rfl, o1, f1⟩
    have hnv : ¬ vB vb w.heap.size := fun e => by have := (H.out.2.2.2.1.lt _ e).1; omega
    have b1 := f1.blk H.out.2.2.1 hnv
    have c1 := blk_cell b1 0
    have hco := compact_own o1 hsl
    have HO := Lib.hid hco
    have H1 := Lib.hid (And.intro o1 (And.intro f1 b1))
    clear o1 f1 b1 hco hnv
    gi_wp2_with fail
    refine ⟨trivial, ((callsIn_wide (n := 29)).2 HO.out).mono ?_⟩
    rintro e W2 ⟨⟨v', rfl, o2⟩, f2⟩
    have H2 := Lib.hid (And.intro o2 f2)
    clear o2 f2
    gi_wp2_with fail
    obtain ⟨d1, d2, d3, d4, d5⟩ := H.out
    obtain ⟨o1, f1, b1⟩ := H1.out
    obtain ⟨o2, f2⟩ := H2.out
    have m1 : ∀ D ∈ Ds, W1.heap[D]? = some (.deferred (some [])) := fun D hD => f1.blk (d2 D hD).2 fun e => by
      obtain ⟨o, a, b⟩ := own_cells d4 D e
      rw [(d2 D hD).2] at a; cases a; cases b
    have m2 : ∀ D ∈ Ds, W2.heap[D]? = some (.deferred (some [])) := fun D hD => f2.blk (m1 D hD) fun e => by
      obtain ⟨o, a, b⟩ := own_cells o1 D e
      rw [m1 D hD] at a; cases a; cases b
    refine leaves_marks Ds W2 d1 m2 fun w' hf => ⟨_, results_tmp rfl _ _ _, ⟨v', rfl, ?_⟩, ?_⟩
    · refine own_kept (row_base' o2 (by omega)) fun g hg => hf.block g (o2.lt g hg).2 fun e => ?_
      obtain ⟨o, a, b⟩ := own_cells o2 g hg
      rw [m2 g e] at a; cases a; cases b
    · refine d5.trans ((f1.below d5.size fun k _ e => ?_).trans ((f2.below (Nat.le_trans d5.size f1.size) fun k _ e => ?_).trans (hf.below (Nat.le_trans d5.size (Nat.le_trans f1.size f2.size)) fun k _ e => ?_)))
      · have := (d4.lt k e).1; omega
      · have := (o1.lt k e).1; omega
      · have := (d2 k e).1; omega
end Go.Proofs.YtlkeomcillencaaGreat
end
