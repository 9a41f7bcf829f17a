/- Layer 9, keys of kind int: the order of items. -/
import Derived.Test.YtbgmjieagnmpkaaTimCI
import Derived.Test.YtbgmjieagnmpkaaCmpI
import Derived.Test.YtbgmjieagnmpkaaReg
import Derived.Deep.QuietTactic
import Derived.BigQuiet
import Derived.Sort.Grow
namespace Go.Proofs.Ytbgmjieagnmpkaa
set_option linter.unusedVariables false
set_option linter.unusedSimpArgs false
open Go Go.RowKit Go.Maps Go.Sort Go.Shelf

theorem grow_threeI (W : World) (a b c : Obj) : (((W.alloc a).alloc b).alloc c).drew = grow (W.drewN 1) #[a, b, c] := by
  rw [alloc_eq_grow, alloc_eq_grow, alloc_eq_grow, grow_grow, grow_grow]; rfl
/-- which item stands ahead -/
def cmpTI (x y : KeyI × Int) : Int := orI (cmpI x.2 y.2) (cmpI x.1 y.1)
def encCI (x : KeyI × Int) : List Value := [kVI x.1, .int .i64 x.2]
theorem cmpVI (a b : KeyI) (w : World) : Calls Try.prog 61 #[kVI a, kVI b] w fun e w' => e = .returned (.int .i64 (cmpI a b)) ∧ w' = w := cmp_int a b w
set_option maxRecDepth 100000 in
set_option maxHeartbeats 4000000 in
theorem compare_itemsI (x y : KeyI × Int) (W : World) : Calls Try.prog 50 #[.agg (encCI x).toArray, .agg (encCI y).toArray] W fun e w' => e = .returned (.int .i64 (cmpTI x y)) ∧ ∃ q os', w' = grow (W.drewN q) os' := by
  have h1 := cmp_int x.2 y.2
  have h2 := cmpVI x.1 y.1
  have h3 := or_two (cmpI x.2 y.2) (cmpI x.1 y.1)
  obtain ⟨r, hr⟩ : ∃ r, cmpTI x y = r := ⟨_, rfl⟩
  unfold cmpTI at hr
  rw [hr] at h3
  obtain ⟨x1, x2⟩ := x
  obtain ⟨y1, y2⟩ := y
  have e0 : cmpTI (x1, x2) (y1, y2) = r := hr
  rw [e0]
  dsimp only at *
  obtain ⟨c1, hc1⟩ : ∃ c, cmpI x2 y2 = c := ⟨_, rfl⟩
  obtain ⟨c2, hc2⟩ : ∃ c, cmpI x1 y1 = c := ⟨_, rfl⟩
  rw [hc1] at h1 h3
  rw [hc2] at h2 h3
  have H1 := Lib.hid h1
  have H2 := Lib.hid h2
  have H3 := Lib.hid h3
  clear h1 h2 h3 hr e0 hc1 hc2
  obtain ⟨w2, hw2⟩ : ∃ w2, (W.alloc (Obj.cells #[kVI x1, .int .i64 x2] 103)).alloc (Obj.cells #[kVI y1, .int .i64 y2] 103) = w2 := ⟨_, rfl⟩
  have b1 : w2.heap[W.heap.size]? = some (.cells #[kVI x1, .int .i64 x2] 103 (0, 0)) := by rw [← hw2]; exact blk_alloc (heap_alloc_new W _) _
  have b2 : w2.heap[W.heap.size + 1]? = some (.cells #[kVI y1, .int .i64 y2] 103 (0, 0)) := by
    rw [← hw2]
    have := heap_alloc_new (W.alloc (Obj.cells #[kVI x1, .int .i64 x2] 103)) (Obj.cells #[kVI y1, .int .i64 y2] 103)
    rwa [World.size_alloc] at this
  have z2 : w2.heap.size = W.heap.size + 2 := by rw [← hw2]; simp
  have HW := Lib.hid hw2
  have HB := Lib.hid (And.intro b1 (And.intro b2 z2))
  clear b1 b2 z2 hw2
  unfold encCI kVI at *
  go_enter Try.func50, Try.ntmps50
  go_wp2_with fail
  rw [HW.out]
  obtain ⟨b1, b2, z2⟩ := HB.out
  refine wp_region_held_drew (S := fun V => V.cell? ⟨W.heap.size, 0, none⟩ = some (.int .i64 x1) ∧ V.cell? ⟨W.heap.size, 1, none⟩ = some (.int .i64 x2) ∧ V.cell? ⟨W.heap.size + 1, 0, none⟩ = some (.int .i64 y1) ∧ V.cell? ⟨W.heap.size + 1, 1, none⟩ = some (.int .i64 y2)) (by kernel_rfl) (by exact ⟨blk_cell b1 0, blk_cell b1 1, blk_cell b2 0, blk_cell b2 1⟩) (fun hHeld => ?_)
  refine wpAnyH_read (i := 0) (oi := { dst := some 5, op := Go.Op.fieldAddr 103 (Go.Operand.tmp 2) 1, type := 0, pos := "timer.go:19", after := #[], guard := none }) ?_ rfl (by kernel_rfl) (by kernel_rfl) (by kernel_rfl) (fun _ _ _ h => h) (by rfl) (by assumption) ?_ ?_
  rotate_left
  · (intro w0 hS0; go_simp <;> (try with_reducible rfl))
  try simp only [Act.put, List.setIfInBounds_toArray, List.set_cons_zero, List.set_cons_succ]
  refine wpAnyH_read (i := 2) (oi := { dst := some 7, op := Go.Op.fieldAddr 103 (Go.Operand.tmp 3) 1, type := 0, pos := "timer.go:19", after := #[], guard := none }) ?_ rfl (by kernel_rfl) (by kernel_rfl) (by kernel_rfl) (fun _ _ _ h => h) (by rfl) (by assumption) ?_ ?_
  rotate_left
  · (intro w0 hS0; go_simp <;> (try with_reducible rfl))
  try simp only [Act.put, List.setIfInBounds_toArray, List.set_cons_zero, List.set_cons_succ]
  refine wpAnyH_read (i := 5) (oi := { dst := some 10, op := Go.Op.fieldAddr 103 (Go.Operand.tmp 2) 0, type := 0, pos := "timer.go:19", after := #[], guard := none }) ?_ rfl (by kernel_rfl) (by kernel_rfl) (by kernel_rfl) (fun _ _ _ h => h) (by rfl) (by assumption) ?_ ?_
  rotate_left
  · (intro w0 hS0; go_simp <;> (try with_reducible rfl))
  try simp only [Act.put, List.setIfInBounds_toArray, List.set_cons_zero, List.set_cons_succ]
  refine wpAnyH_read (i := 7) (oi := { dst := some 12, op := Go.Op.fieldAddr 103 (Go.Operand.tmp 3) 0, type := 0, pos := "timer.go:19", after := #[], guard := none }) ?_ rfl (by kernel_rfl) (by kernel_rfl) (by kernel_rfl) (fun _ _ _ h => h) (by rfl) (by assumption) ?_ ?_
  rotate_left
  · (intro w0 hS0; go_simp <;> (try with_reducible rfl))
  try simp only [Act.put, List.setIfInBounds_toArray, List.set_cons_zero, List.set_cons_succ]
  refine wpAnyH_read (i := 1) (oi := { dst := some 6, op := Go.Op.load 3 (Go.Operand.tmp 5), type := 3, pos := "timer.go:19", after := #[{ on := 0, ground := Go.Ground.data }], guard := none }) ?_ rfl (by kernel_rfl) (by kernel_rfl) (by kernel_rfl) (fun _ _ _ h => h) (by rfl) (by assumption) ?_ ?_
  rotate_left
  · (intro w0 hS0; (try dsimp only at hS0); obtain ⟨s1, s2, s3, s4⟩ := hS0; go_simp <;> (try with_reducible rfl))
  try simp only [Act.put, List.setIfInBounds_toArray, List.set_cons_zero, List.set_cons_succ]
  refine wpAnyH_read (i := 3) (oi := { dst := some 8, op := Go.Op.load 3 (Go.Operand.tmp 7), type := 3, pos := "timer.go:19", after := #[{ on := 2, ground := Go.Ground.data }], guard := none }) ?_ rfl (by kernel_rfl) (by kernel_rfl) (by kernel_rfl) (fun _ _ _ h => h) (by rfl) (by assumption) ?_ ?_
  rotate_left
  · (intro w0 hS0; (try dsimp only at hS0); obtain ⟨s1, s2, s3, s4⟩ := hS0; go_simp <;> (try with_reducible rfl))
  try simp only [Act.put, List.setIfInBounds_toArray, List.set_cons_zero, List.set_cons_succ]
  refine wpAnyH_read (i := 6) (oi := { dst := some 11, op := Go.Op.load 3 (Go.Operand.tmp 10), type := 3, pos := "timer.go:19", after := #[{ on := 5, ground := Go.Ground.data }], guard := none }) ?_ rfl (by kernel_rfl) (by kernel_rfl) (by kernel_rfl) (fun _ _ _ h => h) (by rfl) (by assumption) ?_ ?_
  rotate_left
  · (intro w0 hS0; (try dsimp only at hS0); obtain ⟨s1, s2, s3, s4⟩ := hS0; go_simp <;> (try with_reducible rfl))
  try simp only [Act.put, List.setIfInBounds_toArray, List.set_cons_zero, List.set_cons_succ]
  refine wpAnyH_read (i := 8) (oi := { dst := some 13, op := Go.Op.load 3 (Go.Operand.tmp 12), type := 3, pos := "timer.go:19", after := #[{ on := 7, ground := Go.Ground.data }], guard := none }) ?_ rfl (by kernel_rfl) (by kernel_rfl) (by kernel_rfl) (fun _ _ _ h => h) (by rfl) (by assumption) ?_ ?_
  rotate_left
  · (intro w0 hS0; (try dsimp only at hS0); obtain ⟨s1, s2, s3, s4⟩ := hS0; go_simp <;> (try with_reducible rfl))
  try simp only [Act.put, List.setIfInBounds_toArray, List.set_cons_zero, List.set_cons_succ]
  refine wpAnyH_one (i := 4) (o := { dst := some 9, op := Go.Op.call { callee := Go.Callee.value (Go.Operand.func 61), args := #[Go.Operand.tmp 6, Go.Operand.tmp 8], argTypes := #[3, 3] }, type := 3, pos := "timer.go:19", after := #[{ on := 1, ground := Go.Ground.data }, { on := 3, ground := Go.Ground.data }], guard := none }) (by kernel_rfl) rfl (by rfl) (fun K hK => ?_)
  go_simp
  refine (H1.out _).mono ?_
  rintro e w9 ⟨rfl, rfl⟩
  go_wp2_with fail
  refine hK.out _ _ ?_ (fun hHeld => ?_)
  · (first | assumption | trivial)
  clear hK K
  try simp only [Act.put, List.setIfInBounds_toArray, List.set_cons_zero, List.set_cons_succ]
  refine wpAnyH_one (i := 9) (o := { dst := some 14, op := Go.Op.call { callee := Go.Callee.value (Go.Operand.func 61), args := #[Go.Operand.tmp 11, Go.Operand.tmp 13], argTypes := #[3, 3] }, type := 3, pos := "timer.go:19", after := #[{ on := 6, ground := Go.Ground.data }, { on := 8, ground := Go.Ground.data }, { on := 4, ground := Go.Ground.chain }], guard := none }) (by kernel_rfl) rfl (by rfl) (fun K hK => ?_)
  go_simp
  refine (H2.out _).mono ?_
  rintro e w9 ⟨rfl, rfl⟩
  go_wp2_with fail
  refine hK.out _ _ ?_ (fun hHeld => ?_)
  · (first | assumption | trivial)
  clear hK K
  try simp only [Act.put, List.setIfInBounds_toArray, List.set_cons_zero, List.set_cons_succ]
  refine wpAnyH_one (i := 10) (o := { dst := some 15, op := Go.Op.buildSlice 48 2 #[(0, Go.Operand.tmp 9), (1, Go.Operand.tmp 14)], type := 48, pos := "timer.go:19", after := #[{ on := 4, ground := Go.Ground.data }, { on := 9, ground := Go.Ground.data }], guard := none }) (by kernel_rfl) rfl (by rfl) (fun K hK => ?_)
  go_simp
  refine hK.out _ _ ?_ (fun hHeld => ?_)
  · exact ⟨blk_cell (blk_alloc (W := w2.drew) b1 _) 0, blk_cell (blk_alloc (W := w2.drew) b1 _) 1, blk_cell (blk_alloc (W := w2.drew) b2 _) 0, blk_cell (blk_alloc (W := w2.drew) b2 _) 1⟩
  clear hK K
  try simp only [Act.put, List.setIfInBounds_toArray, List.set_cons_zero, List.set_cons_succ]
  refine wpAnyH_one (i := 11) (o := { dst := some 16, op := Go.Op.call { callee := Go.Callee.value (Go.Operand.func 60), args := #[Go.Operand.tmp 15], argTypes := #[48] }, type := 3, pos := "timer.go:19", after := #[{ on := 10, ground := Go.Ground.data }, { on := 9, ground := Go.Ground.chain }], guard := none }) (by kernel_rfl) rfl (by rfl) (fun K hK => ?_)
  go_simp
  have hn := heap_alloc_new w2 (Obj.cells #[.int .i64 c1, .int .i64 c2] 3)
  rw [z2] at hn
  refine (H3.out _ _ _ ?_ ?_).mono ?_
  · exact blk_cell hn 0
  · exact blk_cell hn 1
  rintro e w9 ⟨rfl, rfl⟩
  go_wp2_with fail
  refine hK.out _ _ ?_ (fun hHeld => ?_)
  · (first | assumption | trivial)
  clear hK K
  try simp only [Act.put, List.setIfInBounds_toArray, List.set_cons_zero, List.set_cons_succ]
  refine wpAnyH_read (i := 12) (oi := { dst := some 4, op := Go.Op.assign (Go.Operand.tmp 16), type := 3, pos := "timer.go:19", after := #[{ on := 11, ground := Go.Ground.data }, { on := 11, ground := Go.Ground.chain }, { on := 0, ground := Go.Ground.phase }, { on := 1, ground := Go.Ground.phase }, { on := 2, ground := Go.Ground.phase }, { on := 3, ground := Go.Ground.phase }, { on := 4, ground := Go.Ground.phase }, { on := 5, ground := Go.Ground.phase }, { on := 6, ground := Go.Ground.phase }, { on := 7, ground := Go.Ground.phase }, { on := 8, ground := Go.Ground.phase }, { on := 9, ground := Go.Ground.phase }, { on := 10, ground := Go.Ground.phase }, { on := 11, ground := Go.Ground.phase }], guard := none }) ?_ rfl (by kernel_rfl) (by kernel_rfl) (by kernel_rfl) (fun _ _ _ h => h) (by rfl) (by assumption) ?_ ?_
  rotate_left
  · (intro w0 hS0; go_simp <;> (try with_reducible rfl))
  try simp only [Act.put, List.setIfInBounds_toArray, List.set_cons_zero, List.set_cons_succ]
  refine wpAnyH_done (by kernel_rfl) ?_ _
  go_wp2_with fail
  go_ret
  exact ⟨rfl, 1, #[_, _, _], by rw [← HW.out]; exact grow_threeI _ _ _ _⟩
end Go.Proofs.Ytbgmjieagnmpkaa
