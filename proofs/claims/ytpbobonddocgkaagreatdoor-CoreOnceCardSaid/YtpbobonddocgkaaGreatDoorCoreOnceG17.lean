/- Texts of this proof, one behind the other. -/
import Derived.Test.YtpbobonddocgkaaGreatDoorCoreOnceG16
import Derived.Test.YtpbobonddocgkaaGreatDoorCoreOnceG11
set_option linter.unusedVariables false
set_option linter.unusedSimpArgs false
section
/- Layer 23: who a connection is. -/
namespace Go.Proofs.YtpbobonddocgkaaGreatDoor
open Go Go.RowKit Go.Maps Go.Lib Go.Sort Go.Shelf

section
variable {W a : World} {B : Nat} {T : TypeId} {X : Nat → Prop} {c0 c1 c2 c3 c4 c5 c6 c7 c8 c9 v0 v1 v2 v3 v4 v5 v6 v7 v8 v9 : Value}
theorem set10 (h : W.heap[B]? = some (.cells #[c0, c1, c2, c3, c4, c5, c6, c7, c8, c9] T (0, 0))) : ((((((((((W.setCell ⟨B, 0, none⟩ v0).setCell ⟨B, 1, none⟩ v1).setCell ⟨B, 2, none⟩ v2).setCell ⟨B, 3, none⟩ v3).setCell ⟨B, 4, none⟩ v4).setCell ⟨B, 5, none⟩ v5).setCell ⟨B, 6, none⟩ v6).setCell ⟨B, 7, none⟩ v7).setCell ⟨B, 8, none⟩ v8).setCell ⟨B, 9, none⟩ v9).heap[B]? = some (.cells #[v0, v1, v2, v3, v4, v5, v6, v7, v8, v9] T (0, 0)) := by
  have := blk_set (blk_set (blk_set (blk_set (blk_set (blk_set (blk_set (blk_set (blk_set (blk_set h 0 v0) 1 v1) 2 v2) 3 v3) 4 v4) 5 v5) 6 v6) 7 v7) 8 v8) 9 v9
  simpa using this
theorem set10_fr (h : Fr X a W) (hB : X B) : Fr X a ((((((((((W.setCell ⟨B, 0, none⟩ v0).setCell ⟨B, 1, none⟩ v1).setCell ⟨B, 2, none⟩ v2).setCell ⟨B, 3, none⟩ v3).setCell ⟨B, 4, none⟩ v4).setCell ⟨B, 5, none⟩ v5).setCell ⟨B, 6, none⟩ v6).setCell ⟨B, 7, none⟩ v7).setCell ⟨B, 8, none⟩ v8).setCell ⟨B, 9, none⟩ v9) :=
  Fr.setCell (Fr.setCell (Fr.setCell (Fr.setCell (Fr.setCell (Fr.setCell (Fr.setCell (Fr.setCell (Fr.setCell (Fr.setCell h ⟨B, 0, none⟩ hB v0) ⟨B, 1, none⟩ hB v1) ⟨B, 2, none⟩ hB v2) ⟨B, 3, none⟩ hB v3) ⟨B, 4, none⟩ hB v4) ⟨B, 5, none⟩ hB v5) ⟨B, 6, none⟩ hB v6) ⟨B, 7, none⟩ hB v7) ⟨B, 8, none⟩ hB v8) ⟨B, 9, none⟩ hB v9
theorem res_ten {P : Program} {fn : Func} {p : Tmp} {ty : TypeId} {tmps : Array Value} {V : World} {N : Nat} {T : TypeId} (h : fn.results = #[.cell p ty]) (hp : tmps.getD p undef = .pointer (some ⟨N, 0, none⟩)) (hg : (isAgg ty).run P V = .ok true V) (hz : (sizeOf ty).run P V = .ok 10 V)
    (h0 : V.heap[N]? = some (.cells #[c0, c1, c2, c3, c4, c5, c6, c7, c8, c9] T (0, 0))) : (results fn tmps).run P V = .ok (.agg #[c0, c1, c2, c3, c4, c5, c6, c7, c8, c9]) V := by
  have k := fun j => blk_cell h0 j
  have hp' : tmps[p]?.getD undef = .pointer (some ⟨N, 0, none⟩) := by simpa using hp
  have k0 := k 0; have k1 := k 1; have k2 := k 2; have k3 := k 3; have k4 := k 4; have k5 := k 5; have k6 := k 6; have k7 := k 7; have k8 := k 8; have k9 := k 9
  simp [results, h, hp', asAddr, loadVar, Sem.run_bind, hg, hz, loadCells, loadCellsFrom, k0, k1, k2, k3, k4, k5, k6, k7, k8, k9, Result.andThen, go_sem]
end
section
variable {base : Nat} {w w' : World} {G : CoG} {C : Nat → CTag} {K : List (Int × CE)} {T : List (KeyB × Ent VI)} {n : Nat}
/-- cells of a connection that tell who it is -/
def PcS (B : Nat) (nick user : List UInt8) (W : World) : Prop := W.cell? ⟨B, 5, none⟩ = some (.string (bs nick)) ∧ W.cell? ⟨B, 6, none⟩ = some (.string (bs user)) ∧ W.cell? ⟨B, 0, none⟩ = some (.string (bs hostL)) ∧ W.cell? ⟨B, 7, none⟩ = some (.string ⟨#[]⟩) ∧ W.cell? ⟨B, 9, none⟩ = some (.string ⟨#[]⟩) ∧ W.cell? ⟨B, 10, none⟩ = some (.bool false) ∧ W.cell? ⟨B, 11, none⟩ = some (.bool false) ∧ W.cell? ⟨B, 12, none⟩ = some (.int .i64 0) ∧ W.cell? ⟨B, 13, none⟩ = some (.int .i64 0)
theorem CoAt.pcS (h : CoAt base G C K T n w) {id : Int} {e : CE} (hl : lookM K id = some e) : PcS e.B e.nick e.user w :=
  ⟨h.cellC hl 5, h.cellC hl 6, h.cellC hl 0, h.cellC hl 7, h.cellC hl 9, h.cellC hl 10, h.cellC hl 11, h.cellC hl 12, h.cellC hl 13⟩
set_option maxRecDepth 100000 in
set_option maxHeartbeats 16000000 in
theorem person_any (h : CoAt base G C K T n w) {id : Int} {e : CE} (hl : lookM K id = some e) (j : Int) : Calls Tryz.prog 30 #[.pointer (some ⟨e.B, 0, none⟩), .int .i64 j] w fun r w' => r = .returned (perV j e.nick e.user) ∧ Below w.heap.size w w' := by
  unfold perV per
  obtain ⟨N, hN⟩ : ∃ N, w.heap.size = N := ⟨_, rfl⟩
  obtain ⟨w1, hw1⟩ : ∃ w1, w.alloc (Obj.cells #[.int .i64 0, .string ⟨#[]⟩, .string ⟨#[]⟩, .string ⟨#[]⟩, .string ⟨#[]⟩, .string ⟨#[]⟩, .bool false, .bool false, .int .i64 0, .int .i64 0] 61) = w1 := ⟨_, rfl⟩
  have f1 : Fr (fun _ => False) w w1 := by rw [← hw1]; exact (Fr.refl _ w).alloc _
  have k1 : w1.heap[N]? = some (.cells #[.int .i64 0, .string ⟨#[]⟩, .string ⟨#[]⟩, .string ⟨#[]⟩, .string ⟨#[]⟩, .string ⟨#[]⟩, .bool false, .bool false, .int .i64 0, .int .i64 0] 61 (0, 0)) := by rw [← hw1, ← hN]; exact heap_alloc_new w _
  have h1 := h.fr f1 fun _ _ e => e
  have HP := Lib.hid (fun W (hW : Fr (fun _ => False) w1 W) => (h1.fr hW fun _ _ e => e).pcS hl)
  have d0 := blk_cell k1 0
  have d1 := blk_cell k1 1
  have d2 := blk_cell k1 2
  have d3 := blk_cell k1 3
  have d4 := blk_cell k1 4
  have d5 := blk_cell k1 5
  have d6 := blk_cell k1 6
  have d7 := blk_cell k1 7
  have d8 := blk_cell k1 8
  have d9 := blk_cell k1 9
  have g0 := blk_free k1 0
  have g1 := blk_free k1 1
  have g2 := blk_free k1 2
  have g3 := blk_free k1 3
  have g4 := blk_free k1 4
  have g5 := blk_free k1 5
  have g6 := blk_free k1 6
  have g7 := blk_free k1 7
  have g8 := blk_free k1 8
  have g9 := blk_free k1 9
  have HW := Lib.hid (And.intro hN (And.intro hw1 (And.intro f1 k1)))
  clear h hl h1 hN hw1 f1 k1
  go_enter Tryz.func30, Tryz.ntmps30
  go_upto_region 1 with fail
  rw [HW.out.2.1]
  rw [HW.out.1]
  refine wp_region_z (S := fun W => Fr (fun _ => False) w1 W) (z := 46) (by kernel_rfl) (by exact (Fr.refl _ w1).drew) (fun hHeld => ?_)
  refine wpAnyZ_read (i := 0) (oi := { dst := some 5, op := Go.Op.move (Go.Operand.tmp 1), type := 3, pos := "core.go:46", after := #[], guard := none }) ?_ rfl (by kernel_rfl) (by kernel_rfl) (by kernel_rfl) (by kernel_rfl) (fun _ _ _ h => h) (by rfl) (by assumption) ?_ ?_
  rotate_left
  · (intro w0 hS0; go_simp <;> (try with_reducible rfl))
  try simp only [Act.put, List.setIfInBounds_toArray, List.set_cons_zero, List.set_cons_succ]
  refine wpAnyZ_read (i := 1) (oi := { dst := some 6, op := Go.Op.move (Go.Operand.tmp 0), type := 66, pos := "core.go:46", after := #[], guard := none }) ?_ rfl (by kernel_rfl) (by kernel_rfl) (by kernel_rfl) (by kernel_rfl) (fun _ _ _ h => h) (by rfl) (by assumption) ?_ ?_
  rotate_left
  · (intro w0 hS0; go_simp <;> (try with_reducible rfl))
  try simp only [Act.put, List.setIfInBounds_toArray, List.set_cons_zero, List.set_cons_succ]
  refine wpAnyZ_read (i := 2) (oi := { dst := some 7, op := Go.Op.nilCheck (Go.Operand.tmp 6), type := 0, pos := "core.go:46", after := #[{ on := 1, ground := Go.Ground.data }], guard := none }) ?_ rfl (by kernel_rfl) (by kernel_rfl) (by kernel_rfl) (by kernel_rfl) (fun _ _ _ h => h) (by rfl) (by assumption) ?_ ?_
  rotate_left
  · (intro w0 hS0; go_simp <;> (try with_reducible rfl))
  try simp only [Act.put, List.setIfInBounds_toArray, List.set_cons_zero, List.set_cons_succ]
  refine wpAnyZ_read (i := 3) (oi := { dst := some 8, op := Go.Op.fieldAddr 72 (Go.Operand.tmp 7) 2, type := 0, pos := "core.go:46", after := #[{ on := 2, ground := Go.Ground.data }], guard := none }) ?_ rfl (by kernel_rfl) (by kernel_rfl) (by kernel_rfl) (by kernel_rfl) (fun _ _ _ h => h) (by rfl) (by assumption) ?_ ?_
  rotate_left
  · (intro w0 hS0; go_simp <;> (try with_reducible rfl))
  try simp only [Act.put, List.setIfInBounds_toArray, List.set_cons_zero, List.set_cons_succ]
  refine wpAnyZ_read (i := 4) (oi := { dst := some 9, op := Go.Op.fieldAddr 34 (Go.Operand.tmp 8) 3, type := 0, pos := "core.go:46", after := #[{ on := 3, ground := Go.Ground.data }], guard := none }) ?_ rfl (by kernel_rfl) (by kernel_rfl) (by kernel_rfl) (by kernel_rfl) (fun _ _ _ h => h) (by rfl) (by assumption) ?_ ?_
  rotate_left
  · (intro w0 hS0; go_simp <;> (try with_reducible rfl))
  try simp only [Act.put, List.setIfInBounds_toArray, List.set_cons_zero, List.set_cons_succ]
  refine wpAnyZ_read (i := 6) (oi := { dst := some 11, op := Go.Op.move (Go.Operand.tmp 0), type := 66, pos := "core.go:46", after := #[], guard := none }) ?_ rfl (by kernel_rfl) (by kernel_rfl) (by kernel_rfl) (by kernel_rfl) (fun _ _ _ h => h) (by rfl) (by assumption) ?_ ?_
  rotate_left
  · (intro w0 hS0; go_simp <;> (try with_reducible rfl))
  try simp only [Act.put, List.setIfInBounds_toArray, List.set_cons_zero, List.set_cons_succ]
  refine wpAnyZ_read (i := 7) (oi := { dst := some 12, op := Go.Op.nilCheck (Go.Operand.tmp 11), type := 0, pos := "core.go:46", after := #[{ on := 6, ground := Go.Ground.data }], guard := none }) ?_ rfl (by kernel_rfl) (by kernel_rfl) (by kernel_rfl) (by kernel_rfl) (fun _ _ _ h => h) (by rfl) (by assumption) ?_ ?_
  rotate_left
  · (intro w0 hS0; go_simp <;> (try with_reducible rfl))
  try simp only [Act.put, List.setIfInBounds_toArray, List.set_cons_zero, List.set_cons_succ]
  refine wpAnyZ_read (i := 8) (oi := { dst := some 13, op := Go.Op.fieldAddr 72 (Go.Operand.tmp 12) 2, type := 0, pos := "core.go:46", after := #[{ on := 7, ground := Go.Ground.data }], guard := none }) ?_ rfl (by kernel_rfl) (by kernel_rfl) (by kernel_rfl) (by kernel_rfl) (fun _ _ _ h => h) (by rfl) (by assumption) ?_ ?_
  rotate_left
  · (intro w0 hS0; go_simp <;> (try with_reducible rfl))
  try simp only [Act.put, List.setIfInBounds_toArray, List.set_cons_zero, List.set_cons_succ]
  refine wpAnyZ_read (i := 9) (oi := { dst := some 14, op := Go.Op.fieldAddr 34 (Go.Operand.tmp 13) 4, type := 0, pos := "core.go:46", after := #[{ on := 8, ground := Go.Ground.data }], guard := none }) ?_ rfl (by kernel_rfl) (by kernel_rfl) (by kernel_rfl) (by kernel_rfl) (fun _ _ _ h => h) (by rfl) (by assumption) ?_ ?_
  rotate_left
  · (intro w0 hS0; go_simp <;> (try with_reducible rfl))
  try simp only [Act.put, List.setIfInBounds_toArray, List.set_cons_zero, List.set_cons_succ]
  refine wpAnyZ_read (i := 11) (oi := { dst := some 16, op := Go.Op.move (Go.Operand.tmp 0), type := 66, pos := "core.go:46", after := #[], guard := none }) ?_ rfl (by kernel_rfl) (by kernel_rfl) (by kernel_rfl) (by kernel_rfl) (fun _ _ _ h => h) (by rfl) (by assumption) ?_ ?_
  rotate_left
  · (intro w0 hS0; go_simp <;> (try with_reducible rfl))
  try simp only [Act.put, List.setIfInBounds_toArray, List.set_cons_zero, List.set_cons_succ]
  refine wpAnyZ_read (i := 12) (oi := { dst := some 17, op := Go.Op.nilCheck (Go.Operand.tmp 16), type := 0, pos := "core.go:46", after := #[{ on := 11, ground := Go.Ground.data }], guard := none }) ?_ rfl (by kernel_rfl) (by kernel_rfl) (by kernel_rfl) (by kernel_rfl) (fun _ _ _ h => h) (by rfl) (by assumption) ?_ ?_
  rotate_left
  · (intro w0 hS0; go_simp <;> (try with_reducible rfl))
  try simp only [Act.put, List.setIfInBounds_toArray, List.set_cons_zero, List.set_cons_succ]
  refine wpAnyZ_read (i := 13) (oi := { dst := some 18, op := Go.Op.fieldAddr 72 (Go.Operand.tmp 17) 0, type := 0, pos := "core.go:46", after := #[{ on := 12, ground := Go.Ground.data }], guard := none }) ?_ rfl (by kernel_rfl) (by kernel_rfl) (by kernel_rfl) (by kernel_rfl) (fun _ _ _ h => h) (by rfl) (by assumption) ?_ ?_
  rotate_left
  · (intro w0 hS0; go_simp <;> (try with_reducible rfl))
  try simp only [Act.put, List.setIfInBounds_toArray, List.set_cons_zero, List.set_cons_succ]
  refine wpAnyZ_read (i := 15) (oi := { dst := some 20, op := Go.Op.move (Go.Operand.tmp 0), type := 66, pos := "core.go:46", after := #[], guard := none }) ?_ rfl (by kernel_rfl) (by kernel_rfl) (by kernel_rfl) (by kernel_rfl) (fun _ _ _ h => h) (by rfl) (by assumption) ?_ ?_
  rotate_left
  · (intro w0 hS0; go_simp <;> (try with_reducible rfl))
  try simp only [Act.put, List.setIfInBounds_toArray, List.set_cons_zero, List.set_cons_succ]
  refine wpAnyZ_read (i := 16) (oi := { dst := some 21, op := Go.Op.nilCheck (Go.Operand.tmp 20), type := 0, pos := "core.go:46", after := #[{ on := 15, ground := Go.Ground.data }], guard := none }) ?_ rfl (by kernel_rfl) (by kernel_rfl) (by kernel_rfl) (by kernel_rfl) (fun _ _ _ h => h) (by rfl) (by assumption) ?_ ?_
  rotate_left
  · (intro w0 hS0; go_simp <;> (try with_reducible rfl))
  try simp only [Act.put, List.setIfInBounds_toArray, List.set_cons_zero, List.set_cons_succ]
  refine wpAnyZ_read (i := 17) (oi := { dst := some 22, op := Go.Op.fieldAddr 72 (Go.Operand.tmp 21) 2, type := 0, pos := "core.go:46", after := #[{ on := 16, ground := Go.Ground.data }], guard := none }) ?_ rfl (by kernel_rfl) (by kernel_rfl) (by kernel_rfl) (by kernel_rfl) (fun _ _ _ h => h) (by rfl) (by assumption) ?_ ?_
  rotate_left
  · (intro w0 hS0; go_simp <;> (try with_reducible rfl))
  try simp only [Act.put, List.setIfInBounds_toArray, List.set_cons_zero, List.set_cons_succ]
  refine wpAnyZ_read (i := 18) (oi := { dst := some 23, op := Go.Op.fieldAddr 34 (Go.Operand.tmp 22) 5, type := 0, pos := "core.go:46", after := #[{ on := 17, ground := Go.Ground.data }], guard := none }) ?_ rfl (by kernel_rfl) (by kernel_rfl) (by kernel_rfl) (by kernel_rfl) (fun _ _ _ h => h) (by rfl) (by assumption) ?_ ?_
  rotate_left
  · (intro w0 hS0; go_simp <;> (try with_reducible rfl))
  try simp only [Act.put, List.setIfInBounds_toArray, List.set_cons_zero, List.set_cons_succ]
  refine wpAnyZ_read (i := 20) (oi := { dst := some 25, op := Go.Op.move (Go.Operand.tmp 0), type := 66, pos := "core.go:46", after := #[], guard := none }) ?_ rfl (by kernel_rfl) (by kernel_rfl) (by kernel_rfl) (by kernel_rfl) (fun _ _ _ h => h) (by rfl) (by assumption) ?_ ?_
  rotate_left
  · (intro w0 hS0; go_simp <;> (try with_reducible rfl))
  try simp only [Act.put, List.setIfInBounds_toArray, List.set_cons_zero, List.set_cons_succ]
  refine wpAnyZ_read (i := 21) (oi := { dst := some 26, op := Go.Op.nilCheck (Go.Operand.tmp 25), type := 0, pos := "core.go:46", after := #[{ on := 20, ground := Go.Ground.data }], guard := none }) ?_ rfl (by kernel_rfl) (by kernel_rfl) (by kernel_rfl) (by kernel_rfl) (fun _ _ _ h => h) (by rfl) (by assumption) ?_ ?_
  rotate_left
  · (intro w0 hS0; go_simp <;> (try with_reducible rfl))
  try simp only [Act.put, List.setIfInBounds_toArray, List.set_cons_zero, List.set_cons_succ]
  refine wpAnyZ_read (i := 22) (oi := { dst := some 27, op := Go.Op.fieldAddr 72 (Go.Operand.tmp 26) 3, type := 0, pos := "core.go:46", after := #[{ on := 21, ground := Go.Ground.data }], guard := none }) ?_ rfl (by kernel_rfl) (by kernel_rfl) (by kernel_rfl) (by kernel_rfl) (fun _ _ _ h => h) (by rfl) (by assumption) ?_ ?_
  rotate_left
  · (intro w0 hS0; go_simp <;> (try with_reducible rfl))
  try simp only [Act.put, List.setIfInBounds_toArray, List.set_cons_zero, List.set_cons_succ]
  refine wpAnyZ_read (i := 23) (oi := { dst := some 28, op := Go.Op.fieldAddr 70 (Go.Operand.tmp 27) 0, type := 0, pos := "core.go:46", after := #[{ on := 22, ground := Go.Ground.data }], guard := none }) ?_ rfl (by kernel_rfl) (by kernel_rfl) (by kernel_rfl) (by kernel_rfl) (fun _ _ _ h => h) (by rfl) (by assumption) ?_ ?_
  rotate_left
  · (intro w0 hS0; go_simp <;> (try with_reducible rfl))
  try simp only [Act.put, List.setIfInBounds_toArray, List.set_cons_zero, List.set_cons_succ]
  refine wpAnyZ_read (i := 25) (oi := { dst := some 30, op := Go.Op.move (Go.Operand.tmp 0), type := 66, pos := "core.go:46", after := #[], guard := none }) ?_ rfl (by kernel_rfl) (by kernel_rfl) (by kernel_rfl) (by kernel_rfl) (fun _ _ _ h => h) (by rfl) (by assumption) ?_ ?_
  rotate_left
  · (intro w0 hS0; go_simp <;> (try with_reducible rfl))
  try simp only [Act.put, List.setIfInBounds_toArray, List.set_cons_zero, List.set_cons_succ]
  refine wpAnyZ_read (i := 26) (oi := { dst := some 31, op := Go.Op.nilCheck (Go.Operand.tmp 30), type := 0, pos := "core.go:46", after := #[{ on := 25, ground := Go.Ground.data }], guard := none }) ?_ rfl (by kernel_rfl) (by kernel_rfl) (by kernel_rfl) (by kernel_rfl) (fun _ _ _ h => h) (by rfl) (by assumption) ?_ ?_
  rotate_left
  · (intro w0 hS0; go_simp <;> (try with_reducible rfl))
  try simp only [Act.put, List.setIfInBounds_toArray, List.set_cons_zero, List.set_cons_succ]
  refine wpAnyZ_read (i := 27) (oi := { dst := some 32, op := Go.Op.fieldAddr 72 (Go.Operand.tmp 31) 3, type := 0, pos := "core.go:46", after := #[{ on := 26, ground := Go.Ground.data }], guard := none }) ?_ rfl (by kernel_rfl) (by kernel_rfl) (by kernel_rfl) (by kernel_rfl) (fun _ _ _ h => h) (by rfl) (by assumption) ?_ ?_
  rotate_left
  · (intro w0 hS0; go_simp <;> (try with_reducible rfl))
  try simp only [Act.put, List.setIfInBounds_toArray, List.set_cons_zero, List.set_cons_succ]
  refine wpAnyZ_read (i := 28) (oi := { dst := some 33, op := Go.Op.fieldAddr 70 (Go.Operand.tmp 32) 1, type := 0, pos := "core.go:46", after := #[{ on := 27, ground := Go.Ground.data }], guard := none }) ?_ rfl (by kernel_rfl) (by kernel_rfl) (by kernel_rfl) (by kernel_rfl) (fun _ _ _ h => h) (by rfl) (by assumption) ?_ ?_
  rotate_left
  · (intro w0 hS0; go_simp <;> (try with_reducible rfl))
  try simp only [Act.put, List.setIfInBounds_toArray, List.set_cons_zero, List.set_cons_succ]
  refine wpAnyZ_read (i := 30) (oi := { dst := some 35, op := Go.Op.move (Go.Operand.tmp 0), type := 66, pos := "core.go:46", after := #[], guard := none }) ?_ rfl (by kernel_rfl) (by kernel_rfl) (by kernel_rfl) (by kernel_rfl) (fun _ _ _ h => h) (by rfl) (by assumption) ?_ ?_
  rotate_left
  · (intro w0 hS0; go_simp <;> (try with_reducible rfl))
  try simp only [Act.put, List.setIfInBounds_toArray, List.set_cons_zero, List.set_cons_succ]
  refine wpAnyZ_read (i := 31) (oi := { dst := some 36, op := Go.Op.nilCheck (Go.Operand.tmp 35), type := 0, pos := "core.go:46", after := #[{ on := 30, ground := Go.Ground.data }], guard := none }) ?_ rfl (by kernel_rfl) (by kernel_rfl) (by kernel_rfl) (by kernel_rfl) (fun _ _ _ h => h) (by rfl) (by assumption) ?_ ?_
  rotate_left
  · (intro w0 hS0; go_simp <;> (try with_reducible rfl))
  try simp only [Act.put, List.setIfInBounds_toArray, List.set_cons_zero, List.set_cons_succ]
  refine wpAnyZ_read (i := 32) (oi := { dst := some 37, op := Go.Op.fieldAddr 72 (Go.Operand.tmp 36) 3, type := 0, pos := "core.go:46", after := #[{ on := 31, ground := Go.Ground.data }], guard := none }) ?_ rfl (by kernel_rfl) (by kernel_rfl) (by kernel_rfl) (by kernel_rfl) (fun _ _ _ h => h) (by rfl) (by assumption) ?_ ?_
  rotate_left
  · (intro w0 hS0; go_simp <;> (try with_reducible rfl))
  try simp only [Act.put, List.setIfInBounds_toArray, List.set_cons_zero, List.set_cons_succ]
  refine wpAnyZ_read (i := 33) (oi := { dst := some 38, op := Go.Op.fieldAddr 70 (Go.Operand.tmp 37) 2, type := 0, pos := "core.go:46", after := #[{ on := 32, ground := Go.Ground.data }], guard := none }) ?_ rfl (by kernel_rfl) (by kernel_rfl) (by kernel_rfl) (by kernel_rfl) (fun _ _ _ h => h) (by rfl) (by assumption) ?_ ?_
  rotate_left
  · (intro w0 hS0; go_simp <;> (try with_reducible rfl))
  try simp only [Act.put, List.setIfInBounds_toArray, List.set_cons_zero, List.set_cons_succ]
  refine wpAnyZ_read (i := 35) (oi := { dst := some 40, op := Go.Op.move (Go.Operand.tmp 0), type := 66, pos := "core.go:46", after := #[], guard := none }) ?_ rfl (by kernel_rfl) (by kernel_rfl) (by kernel_rfl) (by kernel_rfl) (fun _ _ _ h => h) (by rfl) (by assumption) ?_ ?_
  rotate_left
  · (intro w0 hS0; go_simp <;> (try with_reducible rfl))
  try simp only [Act.put, List.setIfInBounds_toArray, List.set_cons_zero, List.set_cons_succ]
  refine wpAnyZ_read (i := 36) (oi := { dst := some 41, op := Go.Op.nilCheck (Go.Operand.tmp 40), type := 0, pos := "core.go:46", after := #[{ on := 35, ground := Go.Ground.data }], guard := none }) ?_ rfl (by kernel_rfl) (by kernel_rfl) (by kernel_rfl) (by kernel_rfl) (fun _ _ _ h => h) (by rfl) (by assumption) ?_ ?_
  rotate_left
  · (intro w0 hS0; go_simp <;> (try with_reducible rfl))
  try simp only [Act.put, List.setIfInBounds_toArray, List.set_cons_zero, List.set_cons_succ]
  refine wpAnyZ_read (i := 37) (oi := { dst := some 42, op := Go.Op.fieldAddr 72 (Go.Operand.tmp 41) 3, type := 0, pos := "core.go:46", after := #[{ on := 36, ground := Go.Ground.data }], guard := none }) ?_ rfl (by kernel_rfl) (by kernel_rfl) (by kernel_rfl) (by kernel_rfl) (fun _ _ _ h => h) (by rfl) (by assumption) ?_ ?_
  rotate_left
  · (intro w0 hS0; go_simp <;> (try with_reducible rfl))
  try simp only [Act.put, List.setIfInBounds_toArray, List.set_cons_zero, List.set_cons_succ]
  refine wpAnyZ_read (i := 38) (oi := { dst := some 43, op := Go.Op.fieldAddr 70 (Go.Operand.tmp 42) 3, type := 0, pos := "core.go:46", after := #[{ on := 37, ground := Go.Ground.data }], guard := none }) ?_ rfl (by kernel_rfl) (by kernel_rfl) (by kernel_rfl) (by kernel_rfl) (fun _ _ _ h => h) (by rfl) (by assumption) ?_ ?_
  rotate_left
  · (intro w0 hS0; go_simp <;> (try with_reducible rfl))
  try simp only [Act.put, List.setIfInBounds_toArray, List.set_cons_zero, List.set_cons_succ]
  refine wpAnyZ_read (i := 40) (oi := { dst := some 45, op := Go.Op.move (Go.Operand.tmp 0), type := 66, pos := "core.go:46", after := #[], guard := none }) ?_ rfl (by kernel_rfl) (by kernel_rfl) (by kernel_rfl) (by kernel_rfl) (fun _ _ _ h => h) (by rfl) (by assumption) ?_ ?_
  rotate_left
  · (intro w0 hS0; go_simp <;> (try with_reducible rfl))
  try simp only [Act.put, List.setIfInBounds_toArray, List.set_cons_zero, List.set_cons_succ]
  refine wpAnyZ_read (i := 41) (oi := { dst := some 46, op := Go.Op.nilCheck (Go.Operand.tmp 45), type := 0, pos := "core.go:46", after := #[{ on := 40, ground := Go.Ground.data }], guard := none }) ?_ rfl (by kernel_rfl) (by kernel_rfl) (by kernel_rfl) (by kernel_rfl) (fun _ _ _ h => h) (by rfl) (by assumption) ?_ ?_
  rotate_left
  · (intro w0 hS0; go_simp <;> (try with_reducible rfl))
  try simp only [Act.put, List.setIfInBounds_toArray, List.set_cons_zero, List.set_cons_succ]
  refine wpAnyZ_read (i := 42) (oi := { dst := some 47, op := Go.Op.fieldAddr 72 (Go.Operand.tmp 46) 3, type := 0, pos := "core.go:46", after := #[{ on := 41, ground := Go.Ground.data }], guard := none }) ?_ rfl (by kernel_rfl) (by kernel_rfl) (by kernel_rfl) (by kernel_rfl) (fun _ _ _ h => h) (by rfl) (by assumption) ?_ ?_
  rotate_left
  · (intro w0 hS0; go_simp <;> (try with_reducible rfl))
  try simp only [Act.put, List.setIfInBounds_toArray, List.set_cons_zero, List.set_cons_succ]
  refine wpAnyZ_read (i := 43) (oi := { dst := some 48, op := Go.Op.fieldAddr 70 (Go.Operand.tmp 47) 4, type := 0, pos := "core.go:46", after := #[{ on := 42, ground := Go.Ground.data }], guard := none }) ?_ rfl (by kernel_rfl) (by kernel_rfl) (by kernel_rfl) (by kernel_rfl) (fun _ _ _ h => h) (by rfl) (by assumption) ?_ ?_
  rotate_left
  · (intro w0 hS0; go_simp <;> (try with_reducible rfl))
  try simp only [Act.put, List.setIfInBounds_toArray, List.set_cons_zero, List.set_cons_succ]
  refine wpAnyZ_read (i := 5) (oi := { dst := some 10, op := Go.Op.load 9 (Go.Operand.tmp 9), type := 9, pos := "core.go:46", after := #[{ on := 4, ground := Go.Ground.data }], guard := none }) ?_ rfl (by kernel_rfl) (by kernel_rfl) (by kernel_rfl) (by kernel_rfl) (fun _ _ _ h => h) (by rfl) (by assumption) ?_ ?_
  rotate_left
  · (intro w0 hS0; obtain ⟨s0, s1, s2, s3, s4, s5, s6, s7, s8⟩ := HP.out w0 hS0; (try clear hHeld); go_simp <;> (try with_reducible rfl))
  try simp only [Act.put, List.setIfInBounds_toArray, List.set_cons_zero, List.set_cons_succ]
  refine wpAnyZ_read (i := 10) (oi := { dst := some 15, op := Go.Op.load 9 (Go.Operand.tmp 14), type := 9, pos := "core.go:46", after := #[{ on := 9, ground := Go.Ground.data }], guard := none }) ?_ rfl (by kernel_rfl) (by kernel_rfl) (by kernel_rfl) (by kernel_rfl) (fun _ _ _ h => h) (by rfl) (by assumption) ?_ ?_
  rotate_left
  · (intro w0 hS0; obtain ⟨s0, s1, s2, s3, s4, s5, s6, s7, s8⟩ := HP.out w0 hS0; (try clear hHeld); go_simp <;> (try with_reducible rfl))
  try simp only [Act.put, List.setIfInBounds_toArray, List.set_cons_zero, List.set_cons_succ]
  refine wpAnyZ_read (i := 14) (oi := { dst := some 19, op := Go.Op.load 9 (Go.Operand.tmp 18), type := 9, pos := "core.go:46", after := #[{ on := 13, ground := Go.Ground.data }], guard := none }) ?_ rfl (by kernel_rfl) (by kernel_rfl) (by kernel_rfl) (by kernel_rfl) (fun _ _ _ h => h) (by rfl) (by assumption) ?_ ?_
  rotate_left
  · (intro w0 hS0; obtain ⟨s0, s1, s2, s3, s4, s5, s6, s7, s8⟩ := HP.out w0 hS0; (try clear hHeld); go_simp <;> (try with_reducible rfl))
  try simp only [Act.put, List.setIfInBounds_toArray, List.set_cons_zero, List.set_cons_succ]
  refine wpAnyZ_read (i := 19) (oi := { dst := some 24, op := Go.Op.load 9 (Go.Operand.tmp 23), type := 9, pos := "core.go:46", after := #[{ on := 18, ground := Go.Ground.data }], guard := none }) ?_ rfl (by kernel_rfl) (by kernel_rfl) (by kernel_rfl) (by kernel_rfl) (fun _ _ _ h => h) (by rfl) (by assumption) ?_ ?_
  rotate_left
  · (intro w0 hS0; obtain ⟨s0, s1, s2, s3, s4, s5, s6, s7, s8⟩ := HP.out w0 hS0; (try clear hHeld); go_simp <;> (try with_reducible rfl))
  try simp only [Act.put, List.setIfInBounds_toArray, List.set_cons_zero, List.set_cons_succ]
  refine wpAnyZ_read (i := 24) (oi := { dst := some 29, op := Go.Op.load 9 (Go.Operand.tmp 28), type := 9, pos := "core.go:46", after := #[{ on := 23, ground := Go.Ground.data }], guard := none }) ?_ rfl (by kernel_rfl) (by kernel_rfl) (by kernel_rfl) (by kernel_rfl) (fun _ _ _ h => h) (by rfl) (by assumption) ?_ ?_
  rotate_left
  · (intro w0 hS0; obtain ⟨s0, s1, s2, s3, s4, s5, s6, s7, s8⟩ := HP.out w0 hS0; (try clear hHeld); go_simp <;> (try with_reducible rfl))
  try simp only [Act.put, List.setIfInBounds_toArray, List.set_cons_zero, List.set_cons_succ]
  refine wpAnyZ_read (i := 29) (oi := { dst := some 34, op := Go.Op.load 4 (Go.Operand.tmp 33), type := 4, pos := "core.go:46", after := #[{ on := 28, ground := Go.Ground.data }], guard := none }) ?_ rfl (by kernel_rfl) (by kernel_rfl) (by kernel_rfl) (by kernel_rfl) (fun _ _ _ h => h) (by rfl) (by assumption) ?_ ?_
  rotate_left
  · (intro w0 hS0; obtain ⟨s0, s1, s2, s3, s4, s5, s6, s7, s8⟩ := HP.out w0 hS0; (try clear hHeld); go_simp <;> (try with_reducible rfl))
  try simp only [Act.put, List.setIfInBounds_toArray, List.set_cons_zero, List.set_cons_succ]
  refine wpAnyZ_read (i := 34) (oi := { dst := some 39, op := Go.Op.load 4 (Go.Operand.tmp 38), type := 4, pos := "core.go:46", after := #[{ on := 33, ground := Go.Ground.data }], guard := none }) ?_ rfl (by kernel_rfl) (by kernel_rfl) (by kernel_rfl) (by kernel_rfl) (fun _ _ _ h => h) (by rfl) (by assumption) ?_ ?_
  rotate_left
  · (intro w0 hS0; obtain ⟨s0, s1, s2, s3, s4, s5, s6, s7, s8⟩ := HP.out w0 hS0; (try clear hHeld); go_simp <;> (try with_reducible rfl))
  try simp only [Act.put, List.setIfInBounds_toArray, List.set_cons_zero, List.set_cons_succ]
  refine wpAnyZ_read (i := 39) (oi := { dst := some 44, op := Go.Op.load 3 (Go.Operand.tmp 43), type := 3, pos := "core.go:46", after := #[{ on := 38, ground := Go.Ground.data }], guard := none }) ?_ rfl (by kernel_rfl) (by kernel_rfl) (by kernel_rfl) (by kernel_rfl) (fun _ _ _ h => h) (by rfl) (by assumption) ?_ ?_
  rotate_left
  · (intro w0 hS0; obtain ⟨s0, s1, s2, s3, s4, s5, s6, s7, s8⟩ := HP.out w0 hS0; (try clear hHeld); go_simp <;> (try with_reducible rfl))
  try simp only [Act.put, List.setIfInBounds_toArray, List.set_cons_zero, List.set_cons_succ]
  refine wpAnyZ_read (i := 44) (oi := { dst := some 49, op := Go.Op.load 3 (Go.Operand.tmp 48), type := 3, pos := "core.go:46", after := #[{ on := 43, ground := Go.Ground.data }], guard := none }) ?_ rfl (by kernel_rfl) (by kernel_rfl) (by kernel_rfl) (by kernel_rfl) (fun _ _ _ h => h) (by rfl) (by assumption) ?_ ?_
  rotate_left
  · (intro w0 hS0; obtain ⟨s0, s1, s2, s3, s4, s5, s6, s7, s8⟩ := HP.out w0 hS0; (try clear hHeld); go_simp <;> (try with_reducible rfl))
  try simp only [Act.put, List.setIfInBounds_toArray, List.set_cons_zero, List.set_cons_succ]
  refine wpAnyZ_read (i := 45) (oi := { dst := some 50, op := Go.Op.build 61 #[(0, Go.Operand.tmp 5), (1, Go.Operand.tmp 10), (2, Go.Operand.tmp 15), (3, Go.Operand.tmp 19), (4, Go.Operand.tmp 24), (5, Go.Operand.tmp 29), (6, Go.Operand.tmp 34), (7, Go.Operand.tmp 39), (8, Go.Operand.tmp 44), (9, Go.Operand.tmp 49)], type := 61, pos := "core.go:46", after := #[{ on := 0, ground := Go.Ground.data }, { on := 5, ground := Go.Ground.data }, { on := 10, ground := Go.Ground.data }, { on := 14, ground := Go.Ground.data }, { on := 19, ground := Go.Ground.data }, { on := 24, ground := Go.Ground.data }, { on := 29, ground := Go.Ground.data }, { on := 34, ground := Go.Ground.data }, { on := 39, ground := Go.Ground.data }, { on := 44, ground := Go.Ground.data }], guard := none }) ?_ rfl (by kernel_rfl) (by kernel_rfl) (by kernel_rfl) (by kernel_rfl) (fun _ _ _ h => h) (by rfl) (by assumption) ?_ ?_
  rotate_left
  · (intro w0 hS0; go_simp <;> (try with_reducible rfl))
  try simp only [Act.put, List.setIfInBounds_toArray, List.set_cons_zero, List.set_cons_succ]
  refine wpAnyZ_last (o := { dst := none, op := Go.Op.store 61 (Go.Operand.tmp 4) (Go.Operand.tmp 50), type := 0, pos := "core.go:46", after := #[{ on := 45, ground := Go.Ground.data }, { on := 0, ground := Go.Ground.phase }, { on := 1, ground := Go.Ground.phase }, { on := 2, ground := Go.Ground.phase }, { on := 3, ground := Go.Ground.phase }, { on := 4, ground := Go.Ground.phase }, { on := 5, ground := Go.Ground.phase }, { on := 6, ground := Go.Ground.phase }, { on := 7, ground := Go.Ground.phase }, { on := 8, ground := Go.Ground.phase }, { on := 9, ground := Go.Ground.phase }, { on := 10, ground := Go.Ground.phase }, { on := 11, ground := Go.Ground.phase }, { on := 12, ground := Go.Ground.phase }, { on := 13, ground := Go.Ground.phase }, { on := 14, ground := Go.Ground.phase }, { on := 15, ground := Go.Ground.phase }, { on := 16, ground := Go.Ground.phase }, { on := 17, ground := Go.Ground.phase }, { on := 18, ground := Go.Ground.phase }, { on := 19, ground := Go.Ground.phase }, { on := 20, ground := Go.Ground.phase }, { on := 21, ground := Go.Ground.phase }, { on := 22, ground := Go.Ground.phase }, { on := 23, ground := Go.Ground.phase }, { on := 24, ground := Go.Ground.phase }, { on := 25, ground := Go.Ground.phase }, { on := 26, ground := Go.Ground.phase }, { on := 27, ground := Go.Ground.phase }, { on := 28, ground := Go.Ground.phase }, { on := 29, ground := Go.Ground.phase }, { on := 30, ground := Go.Ground.phase }, { on := 31, ground := Go.Ground.phase }, { on := 32, ground := Go.Ground.phase }, { on := 33, ground := Go.Ground.phase }, { on := 34, ground := Go.Ground.phase }, { on := 35, ground := Go.Ground.phase }, { on := 36, ground := Go.Ground.phase }, { on := 37, ground := Go.Ground.phase }, { on := 38, ground := Go.Ground.phase }, { on := 39, ground := Go.Ground.phase }, { on := 40, ground := Go.Ground.phase }, { on := 41, ground := Go.Ground.phase }, { on := 42, ground := Go.Ground.phase }, { on := 43, ground := Go.Ground.phase }, { on := 44, ground := Go.Ground.phase }, { on := 45, ground := Go.Ground.phase }], guard := none }) (by kernel_rfl) rfl (by rfl) (fun K hK => ?_)
  go_simp
  refine hK.out _ _ ?_
  clear hK K
  try simp only [Act.put, List.setIfInBounds_toArray, List.set_cons_zero, List.set_cons_succ]
  refine wpAnyZ_done (by kernel_rfl) ?_ _
  go_wp2_with fail
  refine bodyPost_ret (res_ten rfl rfl (Tryz.isAgg61 _) (Tryz.sizeOf61 _) (blk_drew (set10 HW.out.2.2.2))) rfl ⟨rfl, (set10_fr (X := fun k => k = N) (HW.out.2.2.1.mono fun _ _ e => e.elim) rfl).drew.below (Nat.le_refl _) fun k _ e => by have := HW.out.1; omega⟩
end
end Go.Proofs.YtpbobonddocgkaaGreatDoor
end
section
/- Layer 23: Register. -/
namespace Go.Proofs.YtpbobonddocgkaaGreatDoor
open Go Go.RowKit Go.Maps Go.Lib Go.Sort Go.Shelf

/-- where the pulse lies, and the tick -/
def PuS (c p : Nat) (W : World) : Prop := W.cell? ⟨c, 22, none⟩ = some (.pointer (some ⟨p, 0, none⟩)) ∧ W.cell? ⟨c, 15, none⟩ = some (.int .i64 0)
theorem updM_twice (K : List (Int × CE)) (id : Int) (a b : CE) : updM (updM K id a) id b = updM K id b := by
  unfold updM
  rw [List.map_map]
  apply List.map_congr_left
  intro p _
  by_cases h : p.1 = id
  · simp [h]
  · simp [h]
theorem len_setM_le {α β : Type} [DecidableEq α] (T : List (α × β)) (k : α) (v : β) : (setM T k v).length ≤ T.length + 1 := by
  unfold setM; rw [List.length_append, List.length_singleton]; have := List.length_filter_le (fun p : α × β => decide (p.1 ≠ k)) T; omega
theorem len_delM_le {α β : Type} [DecidableEq α] (T : List (α × β)) (k : α) : (delM T k).length ≤ T.length := List.length_filter_le _ _
section
variable {base : Nat} {w w' : World} {G : CoG} {C : Nat → CTag} {K : List (Int × CE)} {T : List (KeyB × Ent VI)} {n : Nat}
theorem CoAt.puS (h : CoAt base G C K T n w) : PuS G.c G.PB.p w := ⟨h.cell 22, h.cell 15⟩
set_option maxRecDepth 100000 in
set_option maxHeartbeats 16000000 in
theorem register_any (h : CoAt base G C K T n w) (hg : GlobB base w) (hn : n ≤ 1000) {id : Int} {B q f : Nat} {ob : Option Nat} {a b : UInt8} {nk us : List UInt8} {s : QS} (hl : lookM K id = some ⟨B, q, f, ob, a :: nk, b :: us, false, s⟩)
    (hnk : (a :: nk).length ≤ 100) (hus : (b :: us).length ≤ 100) (hU : G.U = []) : Calls Tryz.prog 10 #[.pointer (some ⟨G.c, 0, none⟩), .int .i64 id] w
    fun r w' => r = .returned (.bool true) ∧ CoTo base G C (updM K id ⟨B, q, f, ob, a :: nk, b :: us, true, s⟩) T (n + 1) w w' := by
  have hid := h.okK (lookM_memP hl)
  have HL := Lib.hid (live_some h hl)
  have p8 : w.cell? ⟨B, 8, none⟩ = some (.bool false) := h.cellC hl 8
  have p5 : w.cell? ⟨B, 5, none⟩ = some (.string (bs (a :: nk))) := h.cellC hl 5
  have p6 : w.cell? ⟨B, 6, none⟩ = some (.string (bs (b :: us))) := h.cellC hl 6
  have p3 : w.cell? ⟨B, 3, none⟩ = some (.bool false) := h.cellC hl 3
  have g8 : w.frozen? ⟨B, 8, none⟩ = false := h.freeC hl 8
  have g3 : w.frozen? ⟨B, 3, none⟩ = false := h.freeC hl 3
  have H := Lib.hid (And.intro h (And.intro hg (And.intro hl (And.intro hid (And.intro hnk (And.intro hus (And.intro hU hn)))))))
  have nea := str_ne (s := bs (a :: nk)) (by simp)
  have neb := str_ne (s := bs (b :: us)) (by simp)
  clear h hg hl hid hnk hus hU hn
  go_enter Tryz.func10, Tryz.ntmps10
  go_wp2_with fail
  refine HL.out.mono ?_
  rintro r w1 ⟨rfl, rfl⟩
  clear HL
  go_upto_region 5 with fail
  obtain ⟨h, hg, hl, hid, hnk, hus, hU, hn⟩ := H.out
  have hbq : w1.heap[B]? = some (Obj.cells (connC ⟨B, q, f, ob, a :: nk, b :: us, false, s⟩) 72 (0, 0)) := h.conn _ (lookM_memP hl)
  obtain ⟨W3, hW3⟩ : ∃ W3, (w1.setCell ⟨B, 8, none⟩ (.bool true)).setCell ⟨B, 3, none⟩ (.bool false) = W3 := ⟨_, rfl⟩
  have hto3 : CoTo base G C (updM K id ⟨B, q, f, ob, a :: nk, b :: us, true, s⟩) T n w1 W3 := by
    rw [← hW3]
    exact h.connTo hl (e' := ⟨B, q, f, ob, a :: nk, b :: us, true, s⟩) rfl rfl rfl rfl (blk_set (blk_set hbq 8 (.bool true)) 3 (.bool false)) (Fr.setCell (Fr.setCell (Fr.refl (fun k => k = B) _) ⟨B, 8, none⟩ rfl (.bool true)) ⟨B, 3, none⟩ rfl (.bool false))
  obtain ⟨C3, h3, o3⟩ := hto3
  have hl3 : lookM (updM K id ⟨B, q, f, ob, a :: nk, b :: us, true, s⟩) id = some ⟨B, q, f, ob, a :: nk, b :: us, true, s⟩ := by rw [look_updM hl, if_pos rfl]
  have HP := Lib.hid (fun W (hW : Fr (fun _ => False) W3 W) => (show W.cell? ⟨G.c, 15, none⟩ = some (.int .i64 0) from (h3.fr hW fun _ _ e => e).cell 15))
  have hbq3 : W3.heap[B]? = some (Obj.cells (connC ⟨B, q, f, ob, a :: nk, b :: us, true, s⟩) 72 (0, 0)) := h3.conn _ (lookM_memP hl3)
  have r9 := blk_cell hbq3 9
  have r10 := blk_cell hbq3 10
  have r11 := blk_cell hbq3 11
  have r12 := blk_cell hbq3 12
  have r13 := blk_cell hbq3 13
  have i9 := blk_free hbq3 9
  have i10 := blk_free hbq3 10
  have i11 := blk_free hbq3 11
  have i12 := blk_free hbq3 12
  have i13 := blk_free hbq3 13
  unfold connC at r9 r10 r11 r12 r13
  have H3 := Lib.hid (And.intro h3 (And.intro o3 (And.intro hl3 hbq3)))
  have HW3 := Lib.hid hW3
  clear h hg hl hid hnk hus hU hn hbq hW3 h3 o3 hl3 hbq3 p8 p5 p6 p3 g8 g3
  rw [HW3.out]
  refine wp_region_z (S := fun W => Fr (fun _ => False) W3 W) (z := 12) (by kernel_rfl) (by exact (Fr.refl _ W3).drew) (fun hHeld => ?_)
  refine wpAnyZ_read (i := 0) (oi := { dst := some 42, op := Go.Op.move (Go.Operand.tmp 5), type := 66, pos := "core.go:267", after := #[], guard := none }) ?_ rfl (by kernel_rfl) (by kernel_rfl) (by kernel_rfl) (by kernel_rfl) (fun _ _ _ h => h) (by rfl) (by assumption) ?_ ?_
  rotate_left
  · (intro w0 hS0; go_simp <;> (try with_reducible rfl))
  try simp only [Act.put, List.setIfInBounds_toArray, List.set_cons_zero, List.set_cons_succ]
  refine wpAnyZ_read (i := 1) (oi := { dst := some 43, op := Go.Op.move (Go.Operand.tmp 0), type := 24, pos := "core.go:267", after := #[], guard := none }) ?_ rfl (by kernel_rfl) (by kernel_rfl) (by kernel_rfl) (by kernel_rfl) (fun _ _ _ h => h) (by rfl) (by assumption) ?_ ?_
  rotate_left
  · (intro w0 hS0; go_simp <;> (try with_reducible rfl))
  try simp only [Act.put, List.setIfInBounds_toArray, List.set_cons_zero, List.set_cons_succ]
  refine wpAnyZ_read (i := 2) (oi := { dst := some 44, op := Go.Op.nilCheck (Go.Operand.tmp 43), type := 0, pos := "core.go:267", after := #[{ on := 1, ground := Go.Ground.data }], guard := none }) ?_ rfl (by kernel_rfl) (by kernel_rfl) (by kernel_rfl) (by kernel_rfl) (fun _ _ _ h => h) (by rfl) (by assumption) ?_ ?_
  rotate_left
  · (intro w0 hS0; go_simp <;> (try with_reducible rfl))
  try simp only [Act.put, List.setIfInBounds_toArray, List.set_cons_zero, List.set_cons_succ]
  refine wpAnyZ_read (i := 3) (oi := { dst := some 45, op := Go.Op.fieldAddr 55 (Go.Operand.tmp 44) 1, type := 0, pos := "core.go:267", after := #[{ on := 2, ground := Go.Ground.data }], guard := none }) ?_ rfl (by kernel_rfl) (by kernel_rfl) (by kernel_rfl) (by kernel_rfl) (fun _ _ _ h => h) (by rfl) (by assumption) ?_ ?_
  rotate_left
  · (intro w0 hS0; go_simp <;> (try with_reducible rfl))
  try simp only [Act.put, List.setIfInBounds_toArray, List.set_cons_zero, List.set_cons_succ]
  refine wpAnyZ_read (i := 5) (oi := { dst := some 47, op := Go.Op.move (Go.Operand.tmp 0), type := 24, pos := "core.go:267", after := #[], guard := none }) ?_ rfl (by kernel_rfl) (by kernel_rfl) (by kernel_rfl) (by kernel_rfl) (fun _ _ _ h => h) (by rfl) (by assumption) ?_ ?_
  rotate_left
  · (intro w0 hS0; go_simp <;> (try with_reducible rfl))
  try simp only [Act.put, List.setIfInBounds_toArray, List.set_cons_zero, List.set_cons_succ]
  refine wpAnyZ_read (i := 6) (oi := { dst := some 48, op := Go.Op.nilCheck (Go.Operand.tmp 47), type := 0, pos := "core.go:267", after := #[{ on := 5, ground := Go.Ground.data }], guard := none }) ?_ rfl (by kernel_rfl) (by kernel_rfl) (by kernel_rfl) (by kernel_rfl) (fun _ _ _ h => h) (by rfl) (by assumption) ?_ ?_
  rotate_left
  · (intro w0 hS0; go_simp <;> (try with_reducible rfl))
  try simp only [Act.put, List.setIfInBounds_toArray, List.set_cons_zero, List.set_cons_succ]
  refine wpAnyZ_read (i := 7) (oi := { dst := some 49, op := Go.Op.fieldAddr 55 (Go.Operand.tmp 48) 1, type := 0, pos := "core.go:267", after := #[{ on := 6, ground := Go.Ground.data }], guard := none }) ?_ rfl (by kernel_rfl) (by kernel_rfl) (by kernel_rfl) (by kernel_rfl) (fun _ _ _ h => h) (by rfl) (by assumption) ?_ ?_
  rotate_left
  · (intro w0 hS0; go_simp <;> (try with_reducible rfl))
  try simp only [Act.put, List.setIfInBounds_toArray, List.set_cons_zero, List.set_cons_succ]
  refine wpAnyZ_read (i := 4) (oi := { dst := some 46, op := Go.Op.load 3 (Go.Operand.tmp 45), type := 3, pos := "core.go:267", after := #[{ on := 3, ground := Go.Ground.data }], guard := none }) ?_ rfl (by kernel_rfl) (by kernel_rfl) (by kernel_rfl) (by kernel_rfl) (fun _ _ _ h => h) (by rfl) (by assumption) ?_ ?_
  rotate_left
  · (intro w0 hS0; have s15 := HP.out w0 hS0; (try clear hHeld); go_simp <;> (try with_reducible rfl))
  try simp only [Act.put, List.setIfInBounds_toArray, List.set_cons_zero, List.set_cons_succ]
  refine wpAnyZ_read (i := 8) (oi := { dst := some 50, op := Go.Op.load 3 (Go.Operand.tmp 49), type := 3, pos := "core.go:267", after := #[{ on := 7, ground := Go.Ground.data }], guard := none }) ?_ rfl (by kernel_rfl) (by kernel_rfl) (by kernel_rfl) (by kernel_rfl) (fun _ _ _ h => h) (by rfl) (by assumption) ?_ ?_
  rotate_left
  · (intro w0 hS0; have s15 := HP.out w0 hS0; (try clear hHeld); go_simp <;> (try with_reducible rfl))
  try simp only [Act.put, List.setIfInBounds_toArray, List.set_cons_zero, List.set_cons_succ]
  refine wpAnyZ_read (i := 9) (oi := { dst := some 51, op := Go.Op.build 70 #[(3, Go.Operand.tmp 46), (4, Go.Operand.tmp 50)], type := 70, pos := "core.go:267", after := #[{ on := 4, ground := Go.Ground.data }, { on := 8, ground := Go.Ground.data }], guard := none }) ?_ rfl (by kernel_rfl) (by kernel_rfl) (by kernel_rfl) (by kernel_rfl) (fun _ _ _ h => h) (by rfl) (by assumption) ?_ ?_
  rotate_left
  · (intro w0 hS0; go_simp <;> (try with_reducible rfl))
  try simp only [Act.put, List.setIfInBounds_toArray, List.set_cons_zero, List.set_cons_succ]
  refine wpAnyZ_one (i := 10) (o := { dst := some 52, op := Go.Op.nilCheck (Go.Operand.tmp 42), type := 0, pos := "core.go:267", after := #[{ on := 0, ground := Go.Ground.data }, { on := 0, ground := Go.Ground.phase }, { on := 1, ground := Go.Ground.phase }, { on := 2, ground := Go.Ground.phase }, { on := 3, ground := Go.Ground.phase }, { on := 4, ground := Go.Ground.phase }, { on := 5, ground := Go.Ground.phase }, { on := 6, ground := Go.Ground.phase }, { on := 7, ground := Go.Ground.phase }, { on := 8, ground := Go.Ground.phase }, { on := 9, ground := Go.Ground.phase }], guard := none }) (by kernel_rfl) rfl (by rfl) (fun K hK => ?_)
  go_simp
  refine hK.out _ _ ?_ (fun hHeld => ?_)
  · (first | assumption | trivial)
  clear hK K
  try simp only [Act.put, List.setIfInBounds_toArray, List.set_cons_zero, List.set_cons_succ]
  refine wpAnyZ_read (i := 11) (oi := { dst := some 53, op := Go.Op.fieldAddr 72 (Go.Operand.tmp 52) 3, type := 0, pos := "core.go:267", after := #[{ on := 10, ground := Go.Ground.data }, { on := 0, ground := Go.Ground.phase }, { on := 1, ground := Go.Ground.phase }, { on := 2, ground := Go.Ground.phase }, { on := 3, ground := Go.Ground.phase }, { on := 4, ground := Go.Ground.phase }, { on := 5, ground := Go.Ground.phase }, { on := 6, ground := Go.Ground.phase }, { on := 7, ground := Go.Ground.phase }, { on := 8, ground := Go.Ground.phase }, { on := 9, ground := Go.Ground.phase }], guard := none }) ?_ rfl (by kernel_rfl) (by kernel_rfl) (by kernel_rfl) (by kernel_rfl) (fun _ _ _ h => h) (by rfl) (by assumption) ?_ ?_
  rotate_left
  · (intro w0 hS0; go_simp <;> (try with_reducible rfl))
  try simp only [Act.put, List.setIfInBounds_toArray, List.set_cons_zero, List.set_cons_succ]
  refine wpAnyZ_last (o := { dst := none, op := Go.Op.store 70 (Go.Operand.tmp 53) (Go.Operand.tmp 51), type := 0, pos := "core.go:267", after := #[{ on := 11, ground := Go.Ground.data }, { on := 9, ground := Go.Ground.data }, { on := 0, ground := Go.Ground.phase }, { on := 1, ground := Go.Ground.phase }, { on := 2, ground := Go.Ground.phase }, { on := 3, ground := Go.Ground.phase }, { on := 4, ground := Go.Ground.phase }, { on := 5, ground := Go.Ground.phase }, { on := 6, ground := Go.Ground.phase }, { on := 7, ground := Go.Ground.phase }, { on := 8, ground := Go.Ground.phase }, { on := 9, ground := Go.Ground.phase }], guard := none }) (by kernel_rfl) rfl (by rfl) (fun K hK => ?_)
  go_simp
  refine hK.out _ _ ?_
  clear hK K
  try simp only [Act.put, List.setIfInBounds_toArray, List.set_cons_zero, List.set_cons_succ]
  refine wpAnyZ_done (by kernel_rfl) ?_ _
  go_upto_region 6 with fail
  obtain ⟨h, hg, hl, hid, hnk, hus, hU, hn⟩ := H.out
  obtain ⟨h3, o3, hl3, hbq3⟩ := H3.out
  obtain ⟨W5, hW5⟩ : ∃ W5, (((((W3.setCell ⟨B, 9, none⟩ (.string ⟨#[]⟩)).setCell ⟨B, 10, none⟩ (.bool false)).setCell ⟨B, 11, none⟩ (.bool false)).setCell ⟨B, 12, none⟩ (.int .i64 0)).setCell ⟨B, 13, none⟩ (.int .i64 0)).drew = W5 := ⟨_, rfl⟩
  have hto5 : CoTo base G C3 (updM K id ⟨B, q, f, ob, a :: nk, b :: us, true, s⟩) T n W3 W5 := by
    rw [← hW5, ← updM_twice K id ⟨B, q, f, ob, a :: nk, b :: us, true, s⟩ ⟨B, q, f, ob, a :: nk, b :: us, true, s⟩]
    exact h3.connTo hl3 (e' := ⟨B, q, f, ob, a :: nk, b :: us, true, s⟩) rfl rfl rfl rfl (blk_drew (blk_set (blk_set (blk_set (blk_set (blk_set hbq3 9 (.string ⟨#[]⟩)) 10 (.bool false)) 11 (.bool false)) 12 (.int .i64 0)) 13 (.int .i64 0)))
      (Fr.setCell (Fr.setCell (Fr.setCell (Fr.setCell (Fr.setCell (Fr.refl (fun k => k = B) _) ⟨B, 9, none⟩ rfl (.string ⟨#[]⟩)) ⟨B, 10, none⟩ rfl (.bool false)) ⟨B, 11, none⟩ rfl (.bool false)) ⟨B, 12, none⟩ rfl (.int .i64 0)) ⟨B, 13, none⟩ rfl (.int .i64 0)).drew
  have hto5 := CoTo.trans o3 hto5
  obtain ⟨C5, h5, o5⟩ := hto5
  have h5d := h5.fr (Fr.refl (fun _ => False) W5).drew fun _ _ e => e
  have HS5 := Lib.hid h5d.puS
  obtain ⟨L, Q, A, u1, u2, u3⟩ := h5d.pul
  have hid2 : OkKI id := hid
  have HPu := pul_reg u1 hid2 (now := 0) (by decide) (by omega)
  obtain ⟨R, hR⟩ : ∃ R, regT G.n8 0 id (tickM G.n8 G.n9 G.n10 L Q A id) L Q A = R := ⟨_, rfl⟩
  have hR1 : R.1.length ≤ n + 1 ∧ R.2.1.length ≤ n + 1 := by
    rw [← hR]
    unfold regT
    have e1 := len_delM_le L id
    have e2 := len_setM_le Q id (0 + G.n8)
    split
    · dsimp only; omega
    · dsimp only; omega
  rw [hR] at HPu
  have HPu := Lib.hid HPu
  unfold Step3 StepG at HPu
  have HAf : Hid (∀ W, PulG base W G.PB G.n8 G.n9 G.n10 R.1 R.2.1 R.2.2 → Fr G.PB.X W5.drew W → CoTo base G C (updM K id ⟨B, q, f, ob, a :: nk, b :: us, true, s⟩) T (n + 1) w1 W) := fun W hp hf =>
    CoTo.trans ⟨o5.1, o5.2.drew⟩ (h5d.pulTo hp hR1.1 hR1.2 hf)
  have HAS : Hid (∀ W, CoTo base G C (updM K id ⟨B, q, f, ob, a :: nk, b :: us, true, s⟩) T (n + 1) w1 W → PuS G.c G.PB.p W) := fun W ⟨C1, h1, _⟩ => h1.puS
  have HW5 := Lib.hid hW5
  clear h hg hl hid hid2 hnk hus hU hn h3 o3 hl3 hbq3 hW5 h5 o5 h5d u1 u2 u3 hR hR1 r9 r10 r11 r12 r13 i9 i10 i11 i12 i13 HP
  rw [HW5.out]
  refine wp_region_held_drew (S := PuS G.c G.PB.p) (by kernel_rfl) (by exact HS5.out) (fun hHeld => ?_)
  refine wpAnyH_read (i := 0) (oi := { dst := some 54, op := Go.Op.move (Go.Operand.tmp 0), type := 24, pos := "core.go:268", after := #[], guard := none }) ?_ rfl (by kernel_rfl) (by kernel_rfl) (by kernel_rfl) (fun _ _ _ h => h) (by rfl) (by assumption) ?_ ?_
  rotate_left
  · (intro w0 hS0; go_simp <;> (try with_reducible rfl))
  try simp only [Act.put, List.setIfInBounds_toArray, List.set_cons_zero, List.set_cons_succ]
  refine wpAnyH_read (i := 1) (oi := { dst := some 55, op := Go.Op.nilCheck (Go.Operand.tmp 54), type := 0, pos := "core.go:268", after := #[{ on := 0, ground := Go.Ground.data }], guard := none }) ?_ rfl (by kernel_rfl) (by kernel_rfl) (by kernel_rfl) (fun _ _ _ h => h) (by rfl) (by assumption) ?_ ?_
  rotate_left
  · (intro w0 hS0; go_simp <;> (try with_reducible rfl))
  try simp only [Act.put, List.setIfInBounds_toArray, List.set_cons_zero, List.set_cons_succ]
  refine wpAnyH_read (i := 2) (oi := { dst := some 56, op := Go.Op.fieldAddr 55 (Go.Operand.tmp 55) 8, type := 0, pos := "core.go:268", after := #[{ on := 1, ground := Go.Ground.data }], guard := none }) ?_ rfl (by kernel_rfl) (by kernel_rfl) (by kernel_rfl) (fun _ _ _ h => h) (by rfl) (by assumption) ?_ ?_
  rotate_left
  · (intro w0 hS0; go_simp <;> (try with_reducible rfl))
  try simp only [Act.put, List.setIfInBounds_toArray, List.set_cons_zero, List.set_cons_succ]
  refine wpAnyH_read (i := 4) (oi := { dst := some 58, op := Go.Op.move (Go.Operand.tmp 1), type := 3, pos := "core.go:268", after := #[], guard := none }) ?_ rfl (by kernel_rfl) (by kernel_rfl) (by kernel_rfl) (fun _ _ _ h => h) (by rfl) (by assumption) ?_ ?_
  rotate_left
  · (intro w0 hS0; go_simp <;> (try with_reducible rfl))
  try simp only [Act.put, List.setIfInBounds_toArray, List.set_cons_zero, List.set_cons_succ]
  refine wpAnyH_read (i := 5) (oi := { dst := some 59, op := Go.Op.move (Go.Operand.tmp 0), type := 24, pos := "core.go:268", after := #[], guard := none }) ?_ rfl (by kernel_rfl) (by kernel_rfl) (by kernel_rfl) (fun _ _ _ h => h) (by rfl) (by assumption) ?_ ?_
  rotate_left
  · (intro w0 hS0; go_simp <;> (try with_reducible rfl))
  try simp only [Act.put, List.setIfInBounds_toArray, List.set_cons_zero, List.set_cons_succ]
  refine wpAnyH_read (i := 6) (oi := { dst := some 60, op := Go.Op.nilCheck (Go.Operand.tmp 59), type := 0, pos := "core.go:268", after := #[{ on := 5, ground := Go.Ground.data }], guard := none }) ?_ rfl (by kernel_rfl) (by kernel_rfl) (by kernel_rfl) (fun _ _ _ h => h) (by rfl) (by assumption) ?_ ?_
  rotate_left
  · (intro w0 hS0; go_simp <;> (try with_reducible rfl))
  try simp only [Act.put, List.setIfInBounds_toArray, List.set_cons_zero, List.set_cons_succ]
  refine wpAnyH_read (i := 7) (oi := { dst := some 61, op := Go.Op.fieldAddr 55 (Go.Operand.tmp 60) 1, type := 0, pos := "core.go:268", after := #[{ on := 6, ground := Go.Ground.data }], guard := none }) ?_ rfl (by kernel_rfl) (by kernel_rfl) (by kernel_rfl) (fun _ _ _ h => h) (by rfl) (by assumption) ?_ ?_
  rotate_left
  · (intro w0 hS0; go_simp <;> (try with_reducible rfl))
  try simp only [Act.put, List.setIfInBounds_toArray, List.set_cons_zero, List.set_cons_succ]
  refine wpAnyH_read (i := 3) (oi := { dst := some 57, op := Go.Op.load 49 (Go.Operand.tmp 56), type := 49, pos := "core.go:268", after := #[{ on := 2, ground := Go.Ground.data }], guard := none }) ?_ rfl (by kernel_rfl) (by kernel_rfl) (by kernel_rfl) (fun _ _ _ h => h) (by rfl) (by assumption) ?_ ?_
  rotate_left
  · (intro w0 hS0; obtain ⟨s22, s15⟩ := hS0; (try clear hHeld); go_simp <;> (try with_reducible rfl))
  try simp only [Act.put, List.setIfInBounds_toArray, List.set_cons_zero, List.set_cons_succ]
  refine wpAnyH_read (i := 8) (oi := { dst := some 62, op := Go.Op.load 3 (Go.Operand.tmp 61), type := 3, pos := "core.go:268", after := #[{ on := 7, ground := Go.Ground.data }], guard := none }) ?_ rfl (by kernel_rfl) (by kernel_rfl) (by kernel_rfl) (fun _ _ _ h => h) (by rfl) (by assumption) ?_ ?_
  rotate_left
  · (intro w0 hS0; obtain ⟨s22, s15⟩ := hS0; (try clear hHeld); go_simp <;> (try with_reducible rfl))
  try simp only [Act.put, List.setIfInBounds_toArray, List.set_cons_zero, List.set_cons_succ]
  refine wpAnyH_one (i := 9) (o := { dst := some 63, op := Go.Op.call { callee := Go.Callee.value (Go.Operand.func 36), args := #[Go.Operand.tmp 57, Go.Operand.tmp 58, Go.Operand.tmp 62], argTypes := #[49, 3, 3] }, type := 0, pos := "core.go:268", after := #[{ on := 3, ground := Go.Ground.data }, { on := 4, ground := Go.Ground.data }, { on := 8, ground := Go.Ground.data }], guard := none }) (by kernel_rfl) rfl (by rfl) (fun K hK => ?_)
  clear hHeld
  go_simp
  refine (HPu.out).mono ?_
  rintro r1 W6 ⟨rfl, hp6, hf6⟩
  have HT6 := Lib.hid (HAf.out _ hp6 hf6)
  have HS6 := Lib.hid (HAS.out _ HT6.out)
  clear hp6 hf6
  refine hK.out _ _ ?_ (fun hHeld => ?_)
  · exact HS6.out
  clear hK K
  try simp only [Act.put, List.setIfInBounds_toArray, List.set_cons_zero, List.set_cons_succ]
  refine wpAnyH_done (by kernel_rfl) ?_ _
  obtain ⟨h, hg, hl, hid, hnk, hus, hU, hn⟩ := H.out
  obtain ⟨C6, h6, o6⟩ := HT6.out
  have hl6 : lookM (updM K id ⟨B, q, f, ob, a :: nk, b :: us, true, s⟩) id = some ⟨B, q, f, ob, a :: nk, b :: us, true, s⟩ := by rw [look_updM hl, if_pos rfl]
  have HPer := Lib.hid (person_any h6 hl6 id)
  dsimp only at HPer
  have HTe : Hid (∀ W, Below W6.heap.size W6 W → Calls Tryz.prog 35 #[.pointer (some ⟨G.c, 0, none⟩), perV id (a :: nk) (b :: us)] W fun r w' => r = .returned (.tuple #[]) ∧ CoTo base G C (updM K id ⟨B, q, f, ob, a :: nk, b :: us, true, s⟩) T (n + 1) w1 w') := fun W hW => by
    have h7 := h6.below hW
    refine (tellHeld_any h7 ((hg.onto (h.up o6)).onto (hW.mono h6.base_le)) (by rw [hU]; simp) hnk hus (E := []) (fun a => by rw [hU]; simp) (i := 0) (e := ⟨0, 0, 0, none, [], [], false, s⟩) (.inl rfl) (fun e => by cases e)).mono ?_
    rintro r w' ⟨rfl, ob2, hto⟩
    rw [KE_nil] at hto
    exact ⟨rfl, CoTo.trans o6 (CoTo.trans (OntoC.of_below C6 hW) hto)⟩
  clear h hg hl hid hnk hus hU hn h6 o6 hl6
  go_wp2_with fail
  refine HPer.out.mono ?_
  rintro r w7 ⟨rfl, b7⟩
  have HT7 := Lib.hid (HTe.out w7 b7)
  clear HPer HTe b7
  go_wp2_with fail
  refine HT7.out.mono ?_
  rintro r w8 ⟨rfl, hto⟩
  have HT8 := Lib.hid hto
  clear HT7 hto
  go_wp2_with fail
  go_ret
  exact ⟨rfl, HT8.out⟩
end
end Go.Proofs.YtpbobonddocgkaaGreatDoor
end
section
/- Layer 23: Claim. -/
namespace Go.Proofs.YtpbobonddocgkaaGreatDoor
open Go Go.RowKit Go.Maps Go.Lib Go.Sort Go.Shelf

theorem bs_list (l : List UInt8) : (bs l).data.toList = l := by simp
/-- where the book lies; the former nickname, in its box -/
def ClS (c ht N : Nat) (nick : List UInt8) (W : World) : Prop := W.cell? ⟨c, 17, none⟩ = some (.pointer (some ⟨ht, 0, none⟩)) ∧ W.cell? ⟨N, 1, none⟩ = some (.string (bs nick))
section
variable {base : Nat} {w w' : World} {G : CoG} {C : Nat → CTag} {K : List (Int × CE)} {T : List (KeyB × Ent VI)} {n : Nat}
set_option maxRecDepth 100000 in
set_option maxHeartbeats 16000000 in
theorem claim_first (h : CoAt base G C K T n w) (hg : GlobB base w) {id : Int} {e : CE} (hl : lookM K id = some e) (hdn : e.done = false) (hnk : e.nick.length ≤ 100) (hus : e.user.length ≤ 100) {nm : List UInt8} (hnm : nm.length ≤ 100) (hv : dec (NickP (bs nm)) = true) (hh : lookM T (foldL nm) = none) (hT : (delM T (foldL e.nick)).length < G.n0) (hT2 : T.length ≤ 1000) :
    Calls Tryz.prog 7 #[.pointer (some ⟨G.c, 0, none⟩), .int .i64 id, .string (bs nm)] w fun r w' => r = .returned (.bool true) ∧ CoTo base G C (updM K id { e with nick := nm }) (setM (delM T (foldL e.nick)) (foldL nm) ⟨bs nm, foldL nm, id⟩) n w w' := by
  have hid := h.okK (lookM_memP hl)
  have HL := Lib.hid (live_some h hl)
  have hho := holder_any h (nm := nm) (by omega)
  rw [hh] at hho
  simp only [Option.getD_none, Option.isSome_none] at hho
  obtain ⟨z0, hz0⟩ : ∃ z0, (zeroEI).thing = z0 := ⟨_, rfl⟩
  rw [hz0] at hho
  clear hz0
  have HHo := Lib.hid hho
  have HNi := Lib.hid (fun W (hW : Below w.heap.size w W) => (by have := nick_v (bs nm) W (by simp; omega) (hg.onto (hW.mono h.base_le)).glob.1; rw [hv] at this; exact this : Calls Tryz.prog 29 #[.string (bs nm)] W fun e w' => e = .returned (.bool true) ∧ W = w'))
  have HPe := Lib.hid (fun W (hW : Below w.heap.size w W) => person_any (h.below hW) hl id)
  unfold perV per at HPe
  have H := Lib.hid (And.intro h (And.intro hg (And.intro hl (And.intro hid (And.intro hnk (And.intro hus (And.intro hnm (And.intro hT (And.intro hT2 hdn)))))))))
  have HH := Lib.hid hh
  clear h hg hl hid hnk hus hnm hT hT2 hh hho hv hdn
  go_enter Tryz.func7, Tryz.ntmps7
  go_wp2_with fail
  refine HL.out.mono ?_
  rintro r w1 ⟨rfl, rfl⟩
  clear HL
  go_wp2_with fail
  refine HHo.out.mono ?_
  rintro r w2 ⟨rfl, b2⟩
  have HNi2 := Lib.hid (HNi.out w2 b2)
  have B2 := Lib.hid b2
  clear HHo HNi b2
  go_wp2_with fail
  refine HNi2.out.mono ?_
  rintro r w2' ⟨rfl, rfl⟩
  clear HNi2
  have HPe2 := Lib.hid (HPe.out w2 B2.out)
  clear HPe
  go_wp2_with fail
  refine HPe2.out.mono ?_
  rintro r w3 ⟨rfl, b3⟩
  have B3 := Lib.hid (B2.out.trans (b3.mono B2.out.size))
  clear HPe2 B2 b3
  obtain ⟨N, hN⟩ : ∃ N, w3.heap.size = N := ⟨_, rfl⟩
  go_upto_region 6 with fail
  obtain ⟨h, hg, hl, hid, hnk, hus, hnm, hT, hT2, hdn⟩ := H.out
  obtain ⟨W5, hW5⟩ : ∃ W5, w3.alloc (Obj.cells #[.int .i64 id, .string (bs e.nick), .string (bs e.user), .string (bs hostL), .string ⟨#[]⟩, .string ⟨#[]⟩, .bool false, .bool false, .int .i64 0, .int .i64 0] 61) = W5 := ⟨_, rfl⟩
  have k5 : W5.heap[N]? = some (Obj.cells #[.int .i64 id, .string (bs e.nick), .string (bs e.user), .string (bs hostL), .string ⟨#[]⟩, .string ⟨#[]⟩, .bool false, .bool false, .int .i64 0, .int .i64 0] 61 (0, 0)) := by rw [← hW5, ← hN]; exact heap_alloc_new w3 _
  have b5 : Below w3.heap.size w3 W5 := by
    rw [← hW5]
    exact (Below.refl _ w3).alloc (Nat.le_refl _) _
  have bW : Below w1.heap.size w1 W5 := B3.out.trans (b5.mono B3.out.size)
  have h5 := h.below bW
  have hCN : C N = ctag0 := h.cN N (by have := B3.out.size; omega)
  have hNlt : N < W5.heap.size := blk_lt k5
  have h5d := h5.fr (Fr.refl (fun _ => False) W5).drew fun _ _ e => e
  have HDe := Lib.hid (bok_delI h5d.hol (name := bs e.nick) (by simp; omega))
  rw [bs_list e.nick] at HDe
  have HAf : Hid (∀ W, BokI base W G.ht G.hb G.n0 (delM T (foldL e.nick)) → Fr (fun j => j = G.hb) W5.drew W → CoTo base G C K (delM T (foldL e.nick)) n W5 W) := fun W h1 h2 => CoTo.trans ⟨fun _ _ => rfl, (Fr.refl _ W5).drew⟩ (h5d.holTo h1 h2)
  have hcl : ∀ (C' : Nat → CTag) (K' : List (Int × CE)) (T' : List (KeyB × Ent VI)) W, CoAt base G C' K' T' n W → OntoC C C' W5 W → ClS G.c G.ht N e.nick W ∧ W.heap[N]? = some (Obj.cells #[.int .i64 id, .string (bs e.nick), .string (bs e.user), .string (bs hostL), .string ⟨#[]⟩, .string ⟨#[]⟩, .bool false, .bool false, .int .i64 0, .int .i64 0] 61 (0, 0)) := fun C' K' T' W h1 h2 =>
    have k := h2.2.blk k5 (by rw [hCN]; simp)
    ⟨⟨h1.cell 17, blk_cell k 1⟩, k⟩
  have HAS : Hid (∀ W, CoTo base G C K (delM T (foldL e.nick)) n W5 W → ClS G.c G.ht N e.nick W) := fun W ⟨C1, h1, h2⟩ => (hcl C1 _ _ W h1 h2).1
  have HS5 := Lib.hid (hcl C K T W5.drew h5d ⟨fun _ _ => rfl, (Fr.refl _ W5).drew⟩).1
  have HW5 := Lib.hid hW5
  have H5 := Lib.hid (And.intro bW (And.intro hcl hCN))
  have HN := Lib.hid hN
  clear h hg hl hid hnk hus hnm hT hT2 hdn hW5 k5 b5 bW h5 hCN hNlt h5d hcl hN
  rw [HW5.out]
  refine wp_region_held_drew (S := ClS G.c G.ht N e.nick) (by kernel_rfl) (by exact HS5.out) (fun hHeld => ?_)
  refine wpAnyH_read (i := 0) (oi := { dst := some 38, op := Go.Op.move (Go.Operand.tmp 0), type := 24, pos := "core.go:250", after := #[], guard := none }) ?_ rfl (by kernel_rfl) (by kernel_rfl) (by kernel_rfl) (fun _ _ _ h => h) (by rfl) (by assumption) ?_ ?_
  rotate_left
  · (intro w0 hS0; go_simp <;> (try with_reducible rfl))
  try simp only [Act.put, List.setIfInBounds_toArray, List.set_cons_zero, List.set_cons_succ]
  refine wpAnyH_read (i := 1) (oi := { dst := some 39, op := Go.Op.nilCheck (Go.Operand.tmp 38), type := 0, pos := "core.go:250", after := #[{ on := 0, ground := Go.Ground.data }], guard := none }) ?_ rfl (by kernel_rfl) (by kernel_rfl) (by kernel_rfl) (fun _ _ _ h => h) (by rfl) (by assumption) ?_ ?_
  rotate_left
  · (intro w0 hS0; go_simp <;> (try with_reducible rfl))
  try simp only [Act.put, List.setIfInBounds_toArray, List.set_cons_zero, List.set_cons_succ]
  refine wpAnyH_read (i := 2) (oi := { dst := some 40, op := Go.Op.fieldAddr 55 (Go.Operand.tmp 39) 3, type := 0, pos := "core.go:250", after := #[{ on := 1, ground := Go.Ground.data }], guard := none }) ?_ rfl (by kernel_rfl) (by kernel_rfl) (by kernel_rfl) (fun _ _ _ h => h) (by rfl) (by assumption) ?_ ?_
  rotate_left
  · (intro w0 hS0; go_simp <;> (try with_reducible rfl))
  try simp only [Act.put, List.setIfInBounds_toArray, List.set_cons_zero, List.set_cons_succ]
  refine wpAnyH_read (i := 4) (oi := { dst := some 42, op := Go.Op.fieldAddr 61 (Go.Operand.tmp 10) 1, type := 0, pos := "core.go:250", after := #[], guard := none }) ?_ rfl (by kernel_rfl) (by kernel_rfl) (by kernel_rfl) (fun _ _ _ h => h) (by rfl) (by assumption) ?_ ?_
  rotate_left
  · (intro w0 hS0; go_simp <;> (try with_reducible rfl))
  try simp only [Act.put, List.setIfInBounds_toArray, List.set_cons_zero, List.set_cons_succ]
  refine wpAnyH_read (i := 3) (oi := { dst := some 41, op := Go.Op.load 51 (Go.Operand.tmp 40), type := 51, pos := "core.go:250", after := #[{ on := 2, ground := Go.Ground.data }], guard := none }) ?_ rfl (by kernel_rfl) (by kernel_rfl) (by kernel_rfl) (fun _ _ _ h => h) (by rfl) (by assumption) ?_ ?_
  rotate_left
  · (intro w0 hS0; obtain ⟨s17, s1⟩ := hS0; (try clear hHeld); go_simp <;> (try with_reducible rfl))
  try simp only [Act.put, List.setIfInBounds_toArray, List.set_cons_zero, List.set_cons_succ]
  refine wpAnyH_read (i := 5) (oi := { dst := some 43, op := Go.Op.load 9 (Go.Operand.tmp 42), type := 9, pos := "core.go:250", after := #[{ on := 4, ground := Go.Ground.data }], guard := none }) ?_ rfl (by kernel_rfl) (by kernel_rfl) (by kernel_rfl) (fun _ _ _ h => h) (by rfl) (by assumption) ?_ ?_
  rotate_left
  · (intro w0 hS0; obtain ⟨s17, s1⟩ := hS0; (try clear hHeld); go_simp <;> (try with_reducible rfl))
  try simp only [Act.put, List.setIfInBounds_toArray, List.set_cons_zero, List.set_cons_succ]
  refine wpAnyH_one (i := 6) (o := { dst := some 44, op := Go.Op.call { callee := Go.Callee.value (Go.Operand.func 31), args := #[Go.Operand.tmp 41, Go.Operand.tmp 43], argTypes := #[51, 9] }, type := 4, pos := "core.go:250", after := #[{ on := 3, ground := Go.Ground.data }, { on := 5, ground := Go.Ground.data }], guard := none }) (by kernel_rfl) rfl (by rfl) (fun K hK => ?_)
  clear hHeld
  go_simp
  refine (HDe.out).mono ?_
  rintro r1 w6 ⟨rfl, hd6, hf6⟩
  have HT6 := Lib.hid (HAf.out _ hd6 hf6)
  have HS6 := Lib.hid (HAS.out _ HT6.out)
  clear hd6 hf6
  refine hK.out _ _ ?_ (fun hHeld => ?_)
  · exact HS6.out
  clear hK K
  try simp only [Act.put, List.setIfInBounds_toArray, List.set_cons_zero, List.set_cons_succ]
  refine wpAnyH_done (by kernel_rfl) ?_ _
  obtain ⟨h, hg, hl, hid, hnk, hus, hnm, hT, hT2, hdn⟩ := H.out
  obtain ⟨C6, h6, o6⟩ := HT6.out
  have c17 : w6.cell? ⟨G.c, 17, none⟩ = some (.pointer (some ⟨G.ht, 0, none⟩)) := h6.cell 17
  have hput := bok_putI h6.hol (name := bs nm) (v := id) (by simp; omega) hid (by have := len_delM_le T (foldL e.nick); omega)
  unfold PutPI at hput
  simp only [bs_list, thVI] at hput
  have HPut := Lib.hid hput
  have H6 := Lib.hid (And.intro h6 o6)
  clear h hg hl hid hnk hus hnm hT hT2 hdn h6 o6 hput
  go_wp2_with fail
  refine HPut.out.mono ?_
  rintro r w7 ⟨hq, hf7⟩
  obtain ⟨h, hg, hl, hid, hnk, hus, hnm, hT, hT2, hdn⟩ := H.out
  obtain ⟨h6, o6⟩ := H6.out
  rcases hq with ⟨_, rfl, hq⟩ | ⟨⟨_, hbad⟩, _, _⟩
  rotate_left
  · exact absurd hT (by omega)
  obtain ⟨C7, h7, o7⟩ := h6.holTo hq hf7
  have hbq : w7.heap[e.B]? = some (Obj.cells (connC e) 72 (0, 0)) := h7.conn _ (lookM_memP hl)
  have p5 := blk_cell hbq 5
  have i5 := blk_free hbq 5
  unfold connC at p5
  obtain ⟨W8, hW8⟩ : ∃ W8, w7.setCell ⟨e.B, 5, none⟩ (.string (bs nm)) = W8 := ⟨_, rfl⟩
  have hto8 : CoTo base G C7 (updM K id { e with nick := nm }) (setM (delM T (foldL e.nick)) (foldL nm) ⟨bs nm, foldL nm, id⟩) n w7 W8 := by
    rw [← hW8]
    exact h7.connTo hl (e' := { e with nick := nm }) rfl rfl rfl rfl (blk_set hbq 5 (.string (bs nm))) (Fr.setCell (Fr.refl (fun k => k = e.B) _) ⟨e.B, 5, none⟩ rfl (.string (bs nm)))
  obtain ⟨C8, h8, o8⟩ := hto8
  have oA : OntoC C C8 W5 W8 := (o6.trans o7).trans o8
  have hl8 : lookM (updM K id { e with nick := nm }) id = some { e with nick := nm } := by rw [look_updM hl, if_pos rfl]
  have p8 : (w7.setCell ⟨e.B, 5, none⟩ (.string (bs nm))).cell? ⟨e.B, 8, none⟩ = some (.bool false) := by rw [hW8, ← hdn]; exact h8.cellC hl8 8
  have k8 := (H5.out.2.1 C8 _ _ W8 h8 oA).2
  have n1 : (w7.setCell ⟨e.B, 5, none⟩ (.string (bs nm))).cell? ⟨N, 1, none⟩ = some (.string (bs e.nick)) := by rw [hW8]; exact blk_cell k8 1
  have H8 := Lib.hid (And.intro h8 (And.intro oA (And.intro hl8 k8)))
  have HW8 := Lib.hid hW8
  clear h hg hl hid hnk hus hnm hT hT2 hdn h6 o6 hq hf7 h7 o7 hbq hW8 h8 o8 oA hl8 k8 c17 HPut H6 HT6 HS6 HAf HAS HDe HS5
  go_wp2_with fail
  go_ret
  rw [HW8.out]
  obtain ⟨h8, oA, hl8, k8⟩ := H8.out
  exact ⟨rfl, CoTo.trans (OntoC.of_below C H5.out.1) ⟨C8, h8, oA⟩⟩
end
end Go.Proofs.YtpbobonddocgkaaGreatDoor
end
