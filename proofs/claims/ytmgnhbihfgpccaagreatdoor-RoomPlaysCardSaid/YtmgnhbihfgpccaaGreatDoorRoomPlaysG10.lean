/- Texts of this proof, one behind the other. -/
import Derived.Test.YtmgnhbihfgpccaaGreatDoorRoomPlaysG9
import Derived.Test.YtmgnhbihfgpccaaGreatDoorRoomPlaysG1
import Derived.Laws.IdiomCopy
import Derived.Laws.ResultCell
set_option linter.unusedVariables false
set_option linter.unusedSimpArgs false
section
/- Layer 19: a change of a flag. -/
namespace Go.Proofs.YtmgnhbihfgpccaaGreatDoor
open Go Go.RowKit

theorem below_dd (W : World) (n : Nat) : RowKit.Below W.heap.size W (W.drew.drewN n) := ⟨rfl, rfl, rfl, Nat.le_refl _, fun _ _ => rfl⟩
/-- a flag -/
def chgFl (r : Rm) (on : Bool) (c : UInt8) : Told × Rm := if r.fl.has c = on then (noT 0, r) else (⟨on, c, [], 0⟩, { r with fl := r.fl.flip c })
set_option maxRecDepth 100000 in
set_option maxHeartbeats 8000000 in
theorem changeFlag_any {base B : Nat} {q : RmV} {r : Rm} {w : World} (h : RoomAt base B q r w) (on : Bool) (c : UInt8) (arg : List UInt8) :
    Calls Tryz.prog 46 #[.pointer (some ⟨B, 0, none⟩), chgV on c arg] w fun e w' => e = .returned (chgFl r on c).1.val ∧ ChgW base B q (chgFl r on c).2 w w' := by
  obtain ⟨N, hN⟩ : ∃ N, w.heap.size = N := ⟨_, rfl⟩
  obtain ⟨ab, hab⟩ : ∃ ab, bs arg = ab := ⟨_, rfl⟩
  have hcv : chgV on c arg = .agg #[.bool on, .int .u8 c.toNat, .string ab] := by rw [← hab]; rfl
  rw [hcv]
  obtain ⟨W0, hW0⟩ : ∃ W0, ((w.alloc (.cells #[.bool on, .int .u8 c.toNat, .string ab] 31)).alloc (.cells #[.bool false, .int .u8 0, .string ⟨#[]⟩] 31)) = W0 := ⟨_, rfl⟩
  have b0 : RowKit.Below w.heap.size w W0 := by rw [← hW0]; exact ((Below.refl _ w).alloc (Nat.le_refl _) _).alloc (by simp) _
  have k0 : W0.heap[N]? = some (.cells #[.bool on, .int .u8 c.toNat, .string ab] 31 (0, 0)) := by rw [← hW0, ← hN]; exact blk_alloc (heap_alloc_new w _) _
  have k1 : W0.heap[N + 1]? = some (.cells #[.bool false, .int .u8 0, .string ⟨#[]⟩] 31 (0, 0)) := by rw [← hW0, ← hN]; exact heap_alloc2_new w _ _
  have h0 := h.below b0
  have hlt : ∀ k, RmX B q k → k < w.heap.size := fun k hk => (h.lt k hk).2
  have HF := Lib.hid (fun (W : World) (hW : W.heap[B]? = some (rmO r q)) => flag_any hW c)
  have HB := Lib.hid (fun W => bit_any c W)
  have HX := Lib.hid (fl_xor r.fl c)
  have H := Lib.hid (And.intro h0 (And.intro b0 (And.intro k0 (And.intro k1 (And.intro hN hlt)))))
  have HW := Lib.hid hW0
  obtain ⟨f, hf⟩ : ∃ f, flN r.fl = f := ⟨_, rfl⟩
  obtain ⟨bt, hbt⟩ : ∃ bt, bitI c = bt := ⟨_, rfl⟩
  have z0 : W0.cell? ⟨B, 3, none⟩ = some (.int .i64 f) := by rw [← hf]; exact blk_cell h0.1 3
  have z1 := blk_cell k0 1
  rw [hbt] at HB HX
  rw [hf] at HX
  have HZ := Lib.hid (And.intro z0 z1)
  have hfr : W0.frozen? ⟨B, 3, none⟩ = false := blk_free h0.1 3
  have HFR := Lib.hid hfr
  clear h h0 b0 k0 k1 hW0 hN hab hcv hf hbt z0 z1 hlt hfr
  unfold chgFl
  obtain ⟨x, hx⟩ : ∃ x, r.fl.has c = x := ⟨_, rfl⟩
  simp only [hx] at HF ⊢
  clear hx
  by_cases hxo : x = on
  · have hxe := hxo.symm
    subst hxe
    clear hxo
    rw [if_pos rfl]
    unfold noT Told.val chgV
    have hW0 := HW.out
    have hN := H.out.2.2.2.2.1
    go_enter Tryz.func46, Tryz.ntmps46
    go_wp2_with fail
    clear hW0 hN
    refine wp_region_held_drew (S := fun V => V.heap[B]? = some (rmO r q) ∧ V.heap[N]? = some (.cells #[.bool on, .int .u8 c.toNat, .string ab] 31 (0, 0))) (by kernel_rfl) (by exact ⟨H.out.1.1, H.out.2.2.1⟩) (fun hHeld => ?_)
    refine wpAnyH_read (i := 0) (oi := { dst := some 6, op := Go.Op.move (Go.Operand.tmp 0), type := 25, pos := "room.go:229", after := #[], guard := none }) ?_ rfl (by kernel_rfl) (by kernel_rfl) (by kernel_rfl) (fun _ _ _ h => h) (by rfl) (by exact hHeld) ?_ ?_
    rotate_left
    · (intro w0 hS0; have s0 := blk_cell hS0.2 0; have s1 := blk_cell hS0.2 1; go_simp <;> (try with_reducible rfl))
    try simp only [Act.put, List.setIfInBounds_toArray, List.set_cons_zero, List.set_cons_succ]
    refine wpAnyH_read (i := 1) (oi := { dst := some 7, op := Go.Op.fieldAddr 31 (Go.Operand.tmp 3) 1, type := 0, pos := "room.go:229", after := #[], guard := none }) ?_ rfl (by kernel_rfl) (by kernel_rfl) (by kernel_rfl) (fun _ _ _ h => h) (by rfl) (by exact hHeld) ?_ ?_
    rotate_left
    · (intro w0 hS0; have s0 := blk_cell hS0.2 0; have s1 := blk_cell hS0.2 1; go_simp <;> (try with_reducible rfl))
    try simp only [Act.put, List.setIfInBounds_toArray, List.set_cons_zero, List.set_cons_succ]
    refine wpAnyH_read (i := 4) (oi := { dst := some 10, op := Go.Op.fieldAddr 31 (Go.Operand.tmp 3) 0, type := 0, pos := "room.go:229", after := #[], guard := none }) ?_ rfl (by kernel_rfl) (by kernel_rfl) (by kernel_rfl) (fun _ _ _ h => h) (by rfl) (by exact hHeld) ?_ ?_
    rotate_left
    · (intro w0 hS0; have s0 := blk_cell hS0.2 0; have s1 := blk_cell hS0.2 1; go_simp <;> (try with_reducible rfl))
    try simp only [Act.put, List.setIfInBounds_toArray, List.set_cons_zero, List.set_cons_succ]
    refine wpAnyH_read (i := 2) (oi := { dst := some 8, op := Go.Op.load 5 (Go.Operand.tmp 7), type := 5, pos := "room.go:229", after := #[{ on := 1, ground := Go.Ground.data }], guard := none }) ?_ rfl (by kernel_rfl) (by kernel_rfl) (by kernel_rfl) (fun _ _ _ h => h) (by rfl) (by exact hHeld) ?_ ?_
    rotate_left
    · (intro w0 hS0; have s0 := blk_cell hS0.2 0; have s1 := blk_cell hS0.2 1; go_simp <;> (try with_reducible rfl))
    try simp only [Act.put, List.setIfInBounds_toArray, List.set_cons_zero, List.set_cons_succ]
    refine wpAnyH_read (i := 5) (oi := { dst := some 11, op := Go.Op.load 4 (Go.Operand.tmp 10), type := 4, pos := "room.go:229", after := #[{ on := 4, ground := Go.Ground.data }], guard := none }) ?_ rfl (by kernel_rfl) (by kernel_rfl) (by kernel_rfl) (fun _ _ _ h => h) (by rfl) (by exact hHeld) ?_ ?_
    rotate_left
    · (intro w0 hS0; have s0 := blk_cell hS0.2 0; have s1 := blk_cell hS0.2 1; go_simp <;> (try with_reducible rfl))
    try simp only [Act.put, List.setIfInBounds_toArray, List.set_cons_zero, List.set_cons_succ]
    refine wpAnyH_one (i := 3) (o := { dst := some 9, op := Go.Op.call { callee := Go.Callee.value (Go.Operand.func 22), args := #[Go.Operand.tmp 6, Go.Operand.tmp 8], argTypes := #[25, 5] }, type := 4, pos := "room.go:229", after := #[{ on := 0, ground := Go.Ground.data }, { on := 2, ground := Go.Ground.data }], guard := none }) (by kernel_rfl) rfl (by rfl) (fun K hK => ?_)
    go_simp
    refine (HF.out _ hHeld.1).mono ?_
    rintro e w5 ⟨rfl, nn, rfl⟩
    refine hK.out _ _ ?_ (fun hHeld => ?_)
    · exact hHeld
    clear hK K
    try simp only [Act.put, List.setIfInBounds_toArray, List.set_cons_zero, List.set_cons_succ]
    refine wpAnyH_read (i := 6) (oi := { dst := some 12, op := Go.Op.binOp Go.BinOp.eql 4 (Go.Operand.tmp 9) (Go.Operand.tmp 11) 4, type := 4, pos := "room.go:229", after := #[{ on := 3, ground := Go.Ground.data }, { on := 5, ground := Go.Ground.data }], guard := none }) ?_ rfl (by kernel_rfl) (by kernel_rfl) (by kernel_rfl) (fun _ _ _ h => h) (by rfl) (by exact hHeld) ?_ ?_
    rotate_left
    · (intro w0 hS0; have s0 := blk_cell hS0.2 0; have s1 := blk_cell hS0.2 1; go_simp <;> (try with_reducible rfl))
    try simp only [Act.put, List.setIfInBounds_toArray, List.set_cons_zero, List.set_cons_succ]
    refine wpAnyH_done (by kernel_rfl) ?_ _
    obtain ⟨W5, hW5⟩ : ∃ W5, W0.drew.drewN nn = W5 := ⟨_, rfl⟩
    rw [hW5]
    have b5 : RowKit.Below w.heap.size w W5 := by rw [← hW5]; exact H.out.2.1.trans ((below_dd W0 nn).mono H.out.2.1.size)
    have k5 : W5.heap[N]? = some (.cells #[.bool on, .int .u8 c.toNat, .string ab] 31 (0, 0)) := by rw [← hW5]; exact H.out.2.2.1
    have r5 : W5.heap[N + 1]? = some (.cells #[.bool false, .int .u8 0, .string ⟨#[]⟩] 31 (0, 0)) := by rw [← hW5]; exact H.out.2.2.2.1
    have a5 : RoomAt base B q r W5 := H.out.1.fr (Z := fun _ => False) (by rw [← hW5]; exact Fr.of_below (below_dd W0 nn)) fun _ _ e => e
    have H5 := Lib.hid (And.intro b5 (And.intro k5 (And.intro r5 (And.intro a5 (And.intro H.out.2.2.2.2.1 H.out.2.2.2.2.2)))))
    clear hW5 b5 k5 r5 a5 H HF HW hHeld
    have q0 := blk_cell H5.out.2.2.1 0; have q1 := blk_cell H5.out.2.2.1 1; have q2 := blk_cell H5.out.2.2.1 2; have g0 := blk_free H5.out.2.2.1 0; have g1 := blk_free H5.out.2.2.1 1; have g2 := blk_free H5.out.2.2.1 2
    go_wp2_with fail
    have kk := fun j => blk_cell (set3R (x := .bool false) (y := .int .u8 0) (z := .string ⟨#[]⟩) H5.out.2.2.1) j
    refine bodyPost_ret (res_three rfl rfl (Tryz.isAgg31 _) (Tryz.sizeOf31 _) (kk 0) (kk 1) (kk 2)) rfl ⟨rfl, ?_⟩
    obtain ⟨b5, k5, r5, a5, hN, hlt⟩ := H5.out
    exact ChgW.boxed (N := N + 1) ⟨q, a5, Fr.refl _ _, fun _ hk _ => hk⟩ b5 hlt (by omega) (blk_lt r5) set3R_fr
  · have hW0 := HW.out
    have hN := H.out.2.2.2.2.1
    rw [if_neg hxo]
    have hxn : (x == on) = false := by cases x <;> cases on <;> simp_all
    unfold Told.val chgV
    go_enter Tryz.func46, Tryz.ntmps46
    go_wp2_with fail
    clear hW0 hN
    refine wp_region_held_drew (S := fun V => V.heap[B]? = some (rmO r q) ∧ V.heap[N]? = some (.cells #[.bool on, .int .u8 c.toNat, .string ab] 31 (0, 0))) (by kernel_rfl) (by exact ⟨H.out.1.1, H.out.2.2.1⟩) (fun hHeld => ?_)
    refine wpAnyH_read (i := 0) (oi := { dst := some 6, op := Go.Op.move (Go.Operand.tmp 0), type := 25, pos := "room.go:229", after := #[], guard := none }) ?_ rfl (by kernel_rfl) (by kernel_rfl) (by kernel_rfl) (fun _ _ _ h => h) (by rfl) (by exact hHeld) ?_ ?_
    rotate_left
    · (intro w0 hS0; have s0 := blk_cell hS0.2 0; have s1 := blk_cell hS0.2 1; go_simp <;> (try with_reducible rfl))
    try simp only [Act.put, List.setIfInBounds_toArray, List.set_cons_zero, List.set_cons_succ]
    refine wpAnyH_read (i := 1) (oi := { dst := some 7, op := Go.Op.fieldAddr 31 (Go.Operand.tmp 3) 1, type := 0, pos := "room.go:229", after := #[], guard := none }) ?_ rfl (by kernel_rfl) (by kernel_rfl) (by kernel_rfl) (fun _ _ _ h => h) (by rfl) (by exact hHeld) ?_ ?_
    rotate_left
    · (intro w0 hS0; have s0 := blk_cell hS0.2 0; have s1 := blk_cell hS0.2 1; go_simp <;> (try with_reducible rfl))
    try simp only [Act.put, List.setIfInBounds_toArray, List.set_cons_zero, List.set_cons_succ]
    refine wpAnyH_read (i := 4) (oi := { dst := some 10, op := Go.Op.fieldAddr 31 (Go.Operand.tmp 3) 0, type := 0, pos := "room.go:229", after := #[], guard := none }) ?_ rfl (by kernel_rfl) (by kernel_rfl) (by kernel_rfl) (fun _ _ _ h => h) (by rfl) (by exact hHeld) ?_ ?_
    rotate_left
    · (intro w0 hS0; have s0 := blk_cell hS0.2 0; have s1 := blk_cell hS0.2 1; go_simp <;> (try with_reducible rfl))
    try simp only [Act.put, List.setIfInBounds_toArray, List.set_cons_zero, List.set_cons_succ]
    refine wpAnyH_read (i := 2) (oi := { dst := some 8, op := Go.Op.load 5 (Go.Operand.tmp 7), type := 5, pos := "room.go:229", after := #[{ on := 1, ground := Go.Ground.data }], guard := none }) ?_ rfl (by kernel_rfl) (by kernel_rfl) (by kernel_rfl) (fun _ _ _ h => h) (by rfl) (by exact hHeld) ?_ ?_
    rotate_left
    · (intro w0 hS0; have s0 := blk_cell hS0.2 0; have s1 := blk_cell hS0.2 1; go_simp <;> (try with_reducible rfl))
    try simp only [Act.put, List.setIfInBounds_toArray, List.set_cons_zero, List.set_cons_succ]
    refine wpAnyH_read (i := 5) (oi := { dst := some 11, op := Go.Op.load 4 (Go.Operand.tmp 10), type := 4, pos := "room.go:229", after := #[{ on := 4, ground := Go.Ground.data }], guard := none }) ?_ rfl (by kernel_rfl) (by kernel_rfl) (by kernel_rfl) (fun _ _ _ h => h) (by rfl) (by exact hHeld) ?_ ?_
    rotate_left
    · (intro w0 hS0; have s0 := blk_cell hS0.2 0; have s1 := blk_cell hS0.2 1; go_simp <;> (try with_reducible rfl))
    try simp only [Act.put, List.setIfInBounds_toArray, List.set_cons_zero, List.set_cons_succ]
    refine wpAnyH_one (i := 3) (o := { dst := some 9, op := Go.Op.call { callee := Go.Callee.value (Go.Operand.func 22), args := #[Go.Operand.tmp 6, Go.Operand.tmp 8], argTypes := #[25, 5] }, type := 4, pos := "room.go:229", after := #[{ on := 0, ground := Go.Ground.data }, { on := 2, ground := Go.Ground.data }], guard := none }) (by kernel_rfl) rfl (by rfl) (fun K hK => ?_)
    go_simp
    refine (HF.out _ hHeld.1).mono ?_
    rintro e w5 ⟨rfl, nn, rfl⟩
    refine hK.out _ _ ?_ (fun hHeld => ?_)
    · exact hHeld
    clear hK K
    try simp only [Act.put, List.setIfInBounds_toArray, List.set_cons_zero, List.set_cons_succ]
    refine wpAnyH_read (i := 6) (oi := { dst := some 12, op := Go.Op.binOp Go.BinOp.eql 4 (Go.Operand.tmp 9) (Go.Operand.tmp 11) 4, type := 4, pos := "room.go:229", after := #[{ on := 3, ground := Go.Ground.data }, { on := 5, ground := Go.Ground.data }], guard := none }) ?_ rfl (by kernel_rfl) (by kernel_rfl) (by kernel_rfl) (fun _ _ _ h => h) (by rfl) (by exact hHeld) ?_ ?_
    rotate_left
    · (intro w0 hS0; have s0 := blk_cell hS0.2 0; have s1 := blk_cell hS0.2 1; go_simp <;> (try with_reducible rfl))
    try simp only [Act.put, List.setIfInBounds_toArray, List.set_cons_zero, List.set_cons_succ]
    refine wpAnyH_done (by kernel_rfl) ?_ _
    obtain ⟨W5, hW5⟩ : ∃ W5, W0.drew.drewN nn = W5 := ⟨_, rfl⟩
    rw [hW5]
    have b5 : RowKit.Below w.heap.size w W5 := by rw [← hW5]; exact H.out.2.1.trans ((below_dd W0 nn).mono H.out.2.1.size)
    have k5 : W5.heap[N]? = some (.cells #[.bool on, .int .u8 c.toNat, .string ab] 31 (0, 0)) := by rw [← hW5]; exact H.out.2.2.1
    have r5 : W5.heap[N + 1]? = some (.cells #[.bool false, .int .u8 0, .string ⟨#[]⟩] 31 (0, 0)) := by rw [← hW5]; exact H.out.2.2.2.1
    have a5 : RoomAt base B q r W5 := H.out.1.fr (Z := fun _ => False) (by rw [← hW5]; exact Fr.of_below (below_dd W0 nn)) fun _ _ e => e
    have z0 : W5.drew.cell? ⟨B, 3, none⟩ = some (.int .i64 f) := by rw [← hW5]; exact HZ.out.1
    have z1 : W5.drew.cell? ⟨N, 1, none⟩ = some (.int .u8 c.toNat) := by rw [← hW5]; exact HZ.out.2
    have H5 := Lib.hid (And.intro b5 (And.intro k5 (And.intro r5 (And.intro a5 (And.intro H.out.2.2.2.2.1 H.out.2.2.2.2.2)))))
    clear hW5 b5 k5 r5 a5 H HF HW hHeld HZ
    have hfr : W5.frozen? ⟨B, 3, none⟩ = false := blk_free H5.out.2.2.2.1.1 3
    go_wp2_with fail
    refine wp_region_z (S := fun V => V.cell? ⟨B, 3, none⟩ = some (.int .i64 f) ∧ V.cell? ⟨N, 1, none⟩ = some (.int .u8 c.toNat)) (z := 10) (by kernel_rfl) (by exact ⟨z0, z1⟩) (fun hHeld => ?_)
    refine wpAnyZ_read (i := 0) (oi := { dst := some 14, op := Go.Op.move (Go.Operand.tmp 0), type := 25, pos := "room.go:232", after := #[], guard := none }) ?_ rfl (by kernel_rfl) (by kernel_rfl) (by kernel_rfl) (by kernel_rfl) (fun _ _ _ h => h) (by rfl) (by exact hHeld) ?_ ?_
    rotate_left
    · (intro w0 hS0; have s0 := hS0.1; have s1 := hS0.2; go_simp <;> (try with_reducible rfl))
    try simp only [Act.put, List.setIfInBounds_toArray, List.set_cons_zero, List.set_cons_succ]
    refine wpAnyZ_read (i := 1) (oi := { dst := some 15, op := Go.Op.nilCheck (Go.Operand.tmp 14), type := 0, pos := "room.go:232", after := #[{ on := 0, ground := Go.Ground.data }], guard := none }) ?_ rfl (by kernel_rfl) (by kernel_rfl) (by kernel_rfl) (by kernel_rfl) (fun _ _ _ h => h) (by rfl) (by exact hHeld) ?_ ?_
    rotate_left
    · (intro w0 hS0; have s0 := hS0.1; have s1 := hS0.2; go_simp <;> (try with_reducible rfl))
    try simp only [Act.put, List.setIfInBounds_toArray, List.set_cons_zero, List.set_cons_succ]
    refine wpAnyZ_read (i := 2) (oi := { dst := some 16, op := Go.Op.fieldAddr 68 (Go.Operand.tmp 15) 3, type := 0, pos := "room.go:232", after := #[{ on := 1, ground := Go.Ground.data }], guard := none }) ?_ rfl (by kernel_rfl) (by kernel_rfl) (by kernel_rfl) (by kernel_rfl) (fun _ _ _ h => h) (by rfl) (by exact hHeld) ?_ ?_
    rotate_left
    · (intro w0 hS0; have s0 := hS0.1; have s1 := hS0.2; go_simp <;> (try with_reducible rfl))
    try simp only [Act.put, List.setIfInBounds_toArray, List.set_cons_zero, List.set_cons_succ]
    refine wpAnyZ_read (i := 4) (oi := { dst := some 18, op := Go.Op.fieldAddr 31 (Go.Operand.tmp 3) 1, type := 0, pos := "room.go:232", after := #[], guard := none }) ?_ rfl (by kernel_rfl) (by kernel_rfl) (by kernel_rfl) (by kernel_rfl) (fun _ _ _ h => h) (by rfl) (by exact hHeld) ?_ ?_
    rotate_left
    · (intro w0 hS0; have s0 := hS0.1; have s1 := hS0.2; go_simp <;> (try with_reducible rfl))
    try simp only [Act.put, List.setIfInBounds_toArray, List.set_cons_zero, List.set_cons_succ]
    refine wpAnyZ_read (i := 3) (oi := { dst := some 17, op := Go.Op.load 3 (Go.Operand.tmp 16), type := 3, pos := "room.go:232", after := #[{ on := 2, ground := Go.Ground.data }], guard := none }) ?_ rfl (by kernel_rfl) (by kernel_rfl) (by kernel_rfl) (by kernel_rfl) (fun _ _ _ h => h) (by rfl) (by exact hHeld) ?_ ?_
    rotate_left
    · (intro w0 hS0; have s0 := hS0.1; have s1 := hS0.2; go_simp <;> (try with_reducible rfl))
    try simp only [Act.put, List.setIfInBounds_toArray, List.set_cons_zero, List.set_cons_succ]
    refine wpAnyZ_read (i := 5) (oi := { dst := some 19, op := Go.Op.load 5 (Go.Operand.tmp 18), type := 5, pos := "room.go:232", after := #[{ on := 4, ground := Go.Ground.data }], guard := none }) ?_ rfl (by kernel_rfl) (by kernel_rfl) (by kernel_rfl) (by kernel_rfl) (fun _ _ _ h => h) (by rfl) (by exact hHeld) ?_ ?_
    rotate_left
    · (intro w0 hS0; have s0 := hS0.1; have s1 := hS0.2; go_simp <;> (try with_reducible rfl))
    try simp only [Act.put, List.setIfInBounds_toArray, List.set_cons_zero, List.set_cons_succ]
    refine wpAnyZ_one (i := 6) (o := { dst := some 20, op := Go.Op.call { callee := Go.Callee.value (Go.Operand.func 45), args := #[Go.Operand.tmp 19], argTypes := #[5] }, type := 3, pos := "room.go:232", after := #[{ on := 5, ground := Go.Ground.data }], guard := none }) (by kernel_rfl) rfl (by rfl) (fun K hK => ?_)
    go_simp
    refine (HB.out _).mono ?_
    rintro e w5 ⟨rfl, rfl⟩
    refine hK.out _ _ ?_ (fun hHeld => ?_)
    · exact hHeld
    clear hK K
    try simp only [Act.put, List.setIfInBounds_toArray, List.set_cons_zero, List.set_cons_succ]
    refine wpAnyZ_read (i := 7) (oi := { dst := some 21, op := Go.Op.binOp Go.BinOp.xor 3 (Go.Operand.tmp 17) (Go.Operand.tmp 20) 3, type := 3, pos := "room.go:232", after := #[{ on := 3, ground := Go.Ground.data }, { on := 6, ground := Go.Ground.data }], guard := none }) ?_ rfl (by kernel_rfl) (by kernel_rfl) (by kernel_rfl) (by kernel_rfl) (fun _ _ _ h => h) (by rfl) (by exact hHeld) ?_ ?_
    rotate_left
    · (intro w0 hS0; have s0 := hS0.1; have s1 := hS0.2; go_simp <;> (try with_reducible rfl))
    try simp only [Act.put, List.setIfInBounds_toArray, List.set_cons_zero, List.set_cons_succ]
    refine wpAnyZ_one (i := 8) (o := { dst := some 22, op := Go.Op.nilCheck (Go.Operand.tmp 14), type := 0, pos := "room.go:232", after := #[{ on := 0, ground := Go.Ground.data }, { on := 0, ground := Go.Ground.phase }, { on := 1, ground := Go.Ground.phase }, { on := 2, ground := Go.Ground.phase }, { on := 3, ground := Go.Ground.phase }, { on := 4, ground := Go.Ground.phase }, { on := 5, ground := Go.Ground.phase }, { on := 6, ground := Go.Ground.phase }, { on := 7, ground := Go.Ground.phase }], guard := none }) (by kernel_rfl) rfl (by rfl) (fun K hK => ?_)
    go_simp
    refine hK.out _ _ ?_ (fun hHeld => ?_)
    · (first | assumption | trivial)
    clear hK K
    try simp only [Act.put, List.setIfInBounds_toArray, List.set_cons_zero, List.set_cons_succ]
    refine wpAnyZ_read (i := 9) (oi := { dst := some 23, op := Go.Op.fieldAddr 68 (Go.Operand.tmp 22) 3, type := 0, pos := "room.go:232", after := #[{ on := 8, ground := Go.Ground.data }, { on := 0, ground := Go.Ground.phase }, { on := 1, ground := Go.Ground.phase }, { on := 2, ground := Go.Ground.phase }, { on := 3, ground := Go.Ground.phase }, { on := 4, ground := Go.Ground.phase }, { on := 5, ground := Go.Ground.phase }, { on := 6, ground := Go.Ground.phase }, { on := 7, ground := Go.Ground.phase }], guard := none }) ?_ rfl (by kernel_rfl) (by kernel_rfl) (by kernel_rfl) (by kernel_rfl) (fun _ _ _ h => h) (by rfl) (by exact hHeld) ?_ ?_
    rotate_left
    · (intro w0 hS0; have s0 := hS0.1; have s1 := hS0.2; go_simp <;> (try with_reducible rfl))
    try simp only [Act.put, List.setIfInBounds_toArray, List.set_cons_zero, List.set_cons_succ]
    refine wpAnyZ_last (o := { dst := none, op := Go.Op.store 3 (Go.Operand.tmp 23) (Go.Operand.tmp 21), type := 0, pos := "room.go:232", after := #[{ on := 9, ground := Go.Ground.data }, { on := 7, ground := Go.Ground.data }, { on := 6, ground := Go.Ground.chain }, { on := 0, ground := Go.Ground.phase }, { on := 1, ground := Go.Ground.phase }, { on := 2, ground := Go.Ground.phase }, { on := 3, ground := Go.Ground.phase }, { on := 4, ground := Go.Ground.phase }, { on := 5, ground := Go.Ground.phase }, { on := 6, ground := Go.Ground.phase }, { on := 7, ground := Go.Ground.phase }], guard := none }) (by kernel_rfl) rfl (by rfl) (fun K hK => ?_)
    go_simp
    have s0 := hHeld.1
    refine hK.out _ _ ?_
    clear hK K
    try simp only [Act.put, List.setIfInBounds_toArray, List.set_cons_zero, List.set_cons_succ]
    refine wpAnyZ_done (by kernel_rfl) ?_ _
    rw [HX.out]
    obtain ⟨fv, hfv⟩ : ∃ fv, Value.int .i64 (flN (r.fl.flip c)) = fv := ⟨_, rfl⟩
    obtain ⟨b5, k5, r5, a5, hN, hlt⟩ := H5.out
    have hBl : B < w.heap.size := hlt B (.inl rfl)
    obtain ⟨W6, hW6⟩ : ∃ W6, (W5.setCell ⟨B, 3, none⟩ (.int .i64 (flN (r.fl.flip c)))).drew = W6 := ⟨_, rfl⟩
    have f6 : Fr (fun k => k = B) W5 W6 := by rw [← hW6]; exact (Fr.setCell (X := fun k => k = B) (Fr.refl _ W5) ⟨B, 3, none⟩ rfl _).drew
    have a6 : RoomAt base B q { r with fl := r.fl.flip c } W6 := by rw [← hW6]; exact (a5.upd (r' := { r with fl := r.fl.flip c }) 3 (.int .i64 (flN (r.fl.flip c))) rfl rfl rfl rfl).fr (Z := fun _ => False) (Fr.refl _ _).drew fun _ _ e => e
    have k6 := f6.blk k5 (by omega)
    have r6 := f6.blk r5 (by omega)
    rw [hW6]
    have H6 := Lib.hid (And.intro k6 (And.intro r6 (And.intro a6 f6)))
    clear hW6 f6 a6 k6 r6 b5 k5 r5 a5 hfv z0 z1 hfr hHeld
    obtain ⟨c0, c1, c2⟩ : _ ∧ _ ∧ _ := ⟨blk_cell H6.out.1 0, blk_cell H6.out.1 1, blk_cell H6.out.1 2⟩
    have q0 := blk_cell H6.out.2.1 0; have q1 := blk_cell H6.out.2.1 1; have q2 := blk_cell H6.out.2.1 2; have g0 := blk_free H6.out.2.1 0; have g1 := blk_free H6.out.2.1 1; have g2 := blk_free H6.out.2.1 2
    clear hN hlt
    go_wp2_with fail
    have kk := fun j => blk_cell (set3R (x := .bool on) (y := .int .u8 c.toNat) (z := .string ⟨#[]⟩) H6.out.2.1) j
    refine bodyPost_ret (res_three rfl rfl (Tryz.isAgg31 _) (Tryz.sizeOf31 _) (kk 0) (kk 1) (kk 2)) rfl ⟨rfl, ?_⟩
    obtain ⟨b5, k5, r5, a5, hN, hlt⟩ := H5.out
    exact ChgW.boxed (N := N + 1) ⟨q, H6.out.2.2.1, H6.out.2.2.2.mono fun k _ e => .inl e, fun _ hk _ => hk⟩ b5 hlt (by omega) (blk_lt r5) set3R_fr
end Go.Proofs.YtmgnhbihfgpccaaGreatDoor
end
section
/- Layer 19: a cell of a row of one's own, written. -/
namespace Go.Proofs.YtmgnhbihfgpccaaGreatDoor
open Go Go.RowKit

theorem row_set {W : World} {base : Nat} {e : TypeId} {size g n cap : Nat} {xs : List Value} (h : W.ownsRow base e size (.slice (some ⟨g, 0, none⟩) n cap) n xs) (t : Nat) (ht : t < n * size) (u : Value) :
    (W.setCell ⟨g, t, none⟩ u).ownsRow base e size (.slice (some ⟨g, 0, none⟩) n cap) n (xs.set t u) := by
  obtain ⟨h1, h2⟩ := h
  refine ⟨by rw [List.length_set]; exact h1, .inr ?_⟩
  rcases h2 with ⟨h2, h3⟩ | ⟨g', cap', cur, h2, h3, h4, h5, h6, h7, h8⟩
  · subst h3; omega
  · injection h2 with e1 e2 e3
    injection e1 with e1
    injection e1 with e1 _ _
    subst e1; subst e3
    refine ⟨g, cap, cur.setIfInBounds t u, rfl, h3, heap_setCell_same W g t _ _ u h4, h5, h6, by rw [Array.size_setIfInBounds]; exact h7, ?_⟩
    rw [Array.toList_setIfInBounds, List.take_set, h8]
theorem flat_set : ∀ (xs : List Mem) (j i : Nat) (hj : j < xs.length) (hi : i < 3) (m : Mem) (u : Value), encM m = (encM xs[j]).set i u → (xs.flatMap encM).set (j * 3 + i) u = (xs.set j m).flatMap encM
  | [], j, _, h, _, _, _, _ => absurd h (Nat.not_lt_zero _)
  | x :: r, 0, i, _, hi, m, u, he => by
    rw [List.flatMap_cons, List.set_cons_zero, List.flatMap_cons, List.set_append_left _ _ (by show 0 * 3 + i < 3; omega), he]
    simp
  | x :: r, j + 1, i, hj, hi, m, u, he => by
    rw [List.flatMap_cons, List.set_cons_succ, List.flatMap_cons, List.set_append_right _ _ (by show 3 ≤ (j + 1) * 3 + i; omega)]
    rw [show (j + 1) * 3 + i - (encM x).length = j * 3 + i by show (j + 1) * 3 + i - 3 = _; omega, flat_set r j i (by simpa using hj) hi m u (by simpa using he)]
theorem ownM_set {base : Nat} {W : World} {g c : Nat} {xs : List Mem} (h : OwnM base W (.slice (some ⟨g, 0, none⟩) xs.length c) xs) (j i : Nat) (hj : j < xs.length) (hi : i < 3) (m : Mem) (u : Value) (he : encM m = (encM xs[j]).set i u) :
    OwnM base (W.setCell ⟨g, j * 3 + i, none⟩ u) (.slice (some ⟨g, 0, none⟩) (xs.set j m).length c) (xs.set j m) := by
  have := row_set h (j * 3 + i) (by have : j + 1 ≤ xs.length := hj; have := Nat.mul_le_mul_right 3 this; omega) u
  unfold OwnM
  rw [List.length_set, ← flat_set xs j i hj hi m u he]
  exact this
/-- one of the members anew -/
theorem RoomAt.toMem {base B : Nat} {q : RmV} {r : Rm} {W W' : World} (h : RoomAt base B q r W) {v : Value} {ms : List Mem} (ho : OwnM base W' v ms) (hu : UpM ms) (hb : W'.heap[B]? = some (rmO { r with mem := ms } { q with vm := v }))
    (hf : Fr (fun k => k = B ∨ q.vm.ownBlock = some k) W W') : RoomAt base B { q with vm := v } { r with mem := ms } W' := by
  have ha := h.apart
  have hl := h.lt
  obtain ⟨g1, g2, g3, g4, g5, g6, g7⟩ := h
  refine ⟨hb, ho, ownT_kept g3 fun g hg => hf.block g (g3.lt g hg).2 ?_, set_kept g4 (hf.block _ (hl _ (.inr (.inr (.inr (.inl rfl))))).2 ?_) (fun g hg => hf.block g (hl _ (.inr (.inr (.inr (.inr hg))))).2 ?_), g5, g6, hu⟩
  · rintro (e | e)
    · exact ha.1.2.1 (e ▸ hg)
    · exact (ha.2.1 g e).1 hg
  · rintro (e | e)
    · exact ha.1.2.2.1 e
    · exact (ha.2.1 _ e).2.1 rfl
  · rintro (e | e)
    · exact ha.1.2.2.2 (e ▸ hg)
    · exact (ha.2.1 g e).2.2 hg
theorem chgW_mem {base B : Nat} {q : RmV} {r : Rm} {W W' : World} (h : RoomAt base B q r W) {v : Value} {ms : List Mem} (ho : OwnM base W' v ms) (hu : UpM ms) (hb : W'.heap[B]? = some (rmO { r with mem := ms } { q with vm := v }))
    (hf : Fr (fun k => k = B ∨ q.vm.ownBlock = some k) W W') (hv : ∀ k, v.ownBlock = some k → k < W.heap.size → q.vm.ownBlock = some k) : ChgW base B q { r with mem := ms } W W' := by
  refine ⟨{ q with vm := v }, h.toMem ho hu hb hf, hf.mono fun k _ e => ?_, fun k hk hlt => ?_⟩
  · rcases e with e | e
    · exact .inl e
    · exact .inr (.inl e)
  · rcases hk with e | e | e | e | e
    · exact .inl e
    · exact .inr (.inl (hv k e hlt))
    · exact .inr (.inr (.inl e))
    · exact .inr (.inr (.inr (.inl e)))
    · exact .inr (.inr (.inr (.inr e)))
end Go.Proofs.YtmgnhbihfgpccaaGreatDoor
end
section
/- copy and clear at elements of any number of cells. -/
namespace Go.Proofs.YtmgnhbihfgpccaaGreatDoor
open Go

theorem run_copy_flat {P : Program} (w : World) (dT sT ty elem : TypeId) (size b o dLen dCap : Nat) (a : Addr) (sLen sCap : Nat) (cs : List Value)
    (hu : P.underlying dT = some (.slice elem)) (hs : (P.info? elem).map (·.size) = some size) (hn : cs.length = Nat.min sLen dLen * size)
    (hsrc : ∀ j v, cs[j]? = some v → w.cell? (a.add j) = some v) (hc : ∀ j, j < cs.length → (w.cell? ⟨b, o + j, none⟩).isSome = true) (hf : ∀ j, j < cs.length → w.frozen? ⟨b, o + j, none⟩ = false) (h1 : ∀ v ∈ cs, v.oneCell' = true) :
    (Builtin.copy_ #[dT, sT] ty #[.slice (some ⟨b, o, none⟩) dLen dCap, .slice (some a) sLen sCap]).run P w = .ok (goInt (Nat.min sLen dLen)) (w.setCells b o cs) := by
  have hl := run_loadCells_list (P := P) w a cs hsrc
  have hst := run_storeCells_cells (P := P) b o cs 0 w (by simpa using hc) (by simpa using hf) h1
  cases hq : P.info? elem with
  | none => simp [hq] at hs
  | some i =>
    have hi : i.size = size := by simpa [hq] using hs
    simp [Builtin.copy_, run_underlying hu, Builtin.lenOf, Builtin.firstCells, sizeOf, typeInfo, hq, hi, ← hn, hl, hst]
end Go.Proofs.YtmgnhbihfgpccaaGreatDoor
end
section
/- Drawn regions: two writing operations may come up. A box of seven cells. -/
namespace Go.Proofs.YtmgnhbihfgpccaaGreatDoor
open Go Go.RowKit

theorem wpAnyH_two {P : Program} {md : Region.Mode} {ops : Array Oper} {Q : Exit → Act → World → Prop} {S : World → Prop} {i j : Nat} {o o2 : Oper} {fuel : Nat} {listed : Array Bool} {a : Act} {w : World} (hr : Region.ready md ops listed = [i, j]) (ho : ops[i]? = some o) (ho2 : ops[j]? = some o2)
    (hw : Region.wanted o (yielded ops a.tmps) = true) (hw2 : Region.wanted o2 (yielded ops a.tmps) = true)
    (h : ∀ K' : Act → World → Prop, Shut (∀ a w, S w → (S w → wpAnyH P md ops Q S fuel (listed.setIfInBounds i true) a w) → K' a w) → Oper.wp P o a w K' Q)
    (h2 : ∀ K' : Act → World → Prop, Shut (∀ a w, S w → (S w → wpAnyH P md ops Q S fuel (listed.setIfInBounds j true) a w) → K' a w) → Oper.wp P o2 a w K' Q) : wpAnyH P md ops Q S (fuel + 1) listed a w :=
  wpAnyH_ready hr (by simp) (AllReadyH.cons ho (fun K hK => by rw [if_pos hw]; exact h K hK) (AllReadyH.cons ho2 (fun K hK => by rw [if_pos hw2]; exact h2 K hK) AllReadyH.nil))
section
variable {W a : World} {B : Nat} {T : TypeId} {X : Nat → Prop} {c0 c1 c2 c3 c4 c5 c6 v0 v1 v2 v3 v4 v5 v6 : Value}
theorem set7 (h : W.heap[B]? = some (.cells #[c0, c1, c2, c3, c4, c5, c6] T (0, 0))) : (((((((W.setCell ⟨B, 0, none⟩ v0).setCell ⟨B, 1, none⟩ v1).setCell ⟨B, 2, none⟩ v2).setCell ⟨B, 3, none⟩ v3).setCell ⟨B, 4, none⟩ v4).setCell ⟨B, 5, none⟩ v5).setCell ⟨B, 6, none⟩ v6).heap[B]? = some (.cells #[v0, v1, v2, v3, v4, v5, v6] T (0, 0)) := by
  have := blk_set (blk_set (blk_set (blk_set (blk_set (blk_set (blk_set h 0 v0) 1 v1) 2 v2) 3 v3) 4 v4) 5 v5) 6 v6
  simpa using this
theorem set7_fr (h : Fr X a W) (hB : X B) : Fr X a (((((((W.setCell ⟨B, 0, none⟩ v0).setCell ⟨B, 1, none⟩ v1).setCell ⟨B, 2, none⟩ v2).setCell ⟨B, 3, none⟩ v3).setCell ⟨B, 4, none⟩ v4).setCell ⟨B, 5, none⟩ v5).setCell ⟨B, 6, none⟩ v6) :=
  Fr.setCell (Fr.setCell (Fr.setCell (Fr.setCell (Fr.setCell (Fr.setCell (Fr.setCell h ⟨B, 0, none⟩ hB v0) ⟨B, 1, none⟩ hB v1) ⟨B, 2, none⟩ hB v2) ⟨B, 3, none⟩ hB v3) ⟨B, 4, none⟩ hB v4) ⟨B, 5, none⟩ hB v5) ⟨B, 6, none⟩ hB v6
theorem set7_oth {k : Nat} {o : Obj} (h : W.heap[k]? = some o) (hk : k ≠ B) : (((((((W.setCell ⟨B, 0, none⟩ v0).setCell ⟨B, 1, none⟩ v1).setCell ⟨B, 2, none⟩ v2).setCell ⟨B, 3, none⟩ v3).setCell ⟨B, 4, none⟩ v4).setCell ⟨B, 5, none⟩ v5).setCell ⟨B, 6, none⟩ v6).heap[k]? = some o :=
  (set7_fr (X := fun k => k = B) (Fr.refl _ W) rfl).blk h hk
theorem res_seven {P : Program} {fn : Func} {p u : Tmp} {ty : TypeId} {tmps : Array Value} {V : World} {N : Nat} (h : fn.results = #[.cell p ty, .tmp u]) (hp : tmps.getD p undef = .pointer (some ⟨N, 0, none⟩)) (hg : (isAgg ty).run P V = .ok true V) (hz : (sizeOf ty).run P V = .ok 7 V)
    (h0 : V.heap[N]? = some (.cells #[c0, c1, c2, c3, c4, c5, c6] T (0, 0))) : (results fn tmps).run P V = .ok (.tuple #[.agg #[c0, c1, c2, c3, c4, c5, c6], tmps.getD u undef]) V := by
  have k := fun j => blk_cell h0 j
  rw [results_cell_tmp h, hp]
  have k0 := k 0; have k1 := k 1; have k2 := k 2; have k3 := k 3; have k4 := k 4; have k5 := k 5; have k6 := k 6
  simp [asAddr, loadVar, Sem.run_bind, hg, hz, loadCells, loadCellsFrom, k0, k1, k2, k3, k4, k5, k6, Result.andThen, go_sem]
end
end Go.Proofs.YtmgnhbihfgpccaaGreatDoor
end
section
/- Layer 19: slices.Delete of a member. -/
namespace Go.Proofs.YtmgnhbihfgpccaaGreatDoor
open Go Go.RowKit

theorem row_over {W : World} {base : Nat} {e : TypeId} {size g n cap : Nat} {xs : List Value} (h : W.ownsRow base e size (.slice (some ⟨g, 0, none⟩) n cap) n xs) (t : Nat) (ht : n * size ≤ t) (u : Value) :
    (W.setCell ⟨g, t, none⟩ u).ownsRow base e size (.slice (some ⟨g, 0, none⟩) n cap) n xs := by
  obtain ⟨h1, h2⟩ := h
  refine ⟨h1, .inr ?_⟩
  rcases h2 with ⟨h2, h3⟩ | ⟨g', cap', cur, h2, h3, h4, h5, h6, h7, h8⟩
  · cases h2
  · injection h2 with e1 e2 e3
    injection e1 with e1
    injection e1 with e1 _ _
    subst e1; subst e3
    refine ⟨g, cap, cur.setIfInBounds t u, rfl, h3, heap_setCell_same W g t _ _ u h4, h5, h6, by rw [Array.size_setIfInBounds]; exact h7, ?_⟩
    rw [Array.toList_setIfInBounds, List.take_set_of_le ht, h8]
theorem row_prefix {W : World} {base : Nat} {e : TypeId} {size g n cap : Nat} {xs : List Value} (h : W.ownsRow base e size (.slice (some ⟨g, 0, none⟩) n cap) n xs) (i : Nat) (hi : i ≤ n) :
    W.ownsRow base e size (.slice (some ⟨g, 0, none⟩) i cap) i (xs.take (i * size)) := by
  obtain ⟨h1, h2⟩ := h
  have hle : i * size ≤ n * size := Nat.mul_le_mul_right _ hi
  refine ⟨by rw [List.length_take, h1]; exact Nat.min_eq_left hle, .inr ?_⟩
  rcases h2 with ⟨h2, h3⟩ | ⟨g', cap', cur, h2, h3, h4, h5, h6, h7, h8⟩
  · cases h2
  · injection h2 with e1 e2 e3
    injection e1 with e1
    injection e1 with e1 _ _
    subst e1; subst e3
    refine ⟨g, cap, cur, rfl, h3, h4, Nat.le_trans hi h5, h6, h7, ?_⟩
    rw [← h8, List.take_take, Nat.min_eq_left hle]
theorem row_spare {W : World} {base : Nat} {e : TypeId} {size g n cap : Nat} {xs : List Value} (h : W.ownsRow base e size (.slice (some ⟨g, 0, none⟩) n cap) n xs) (t : Nat) (ht : t < cap * size) :
    (W.cell? ⟨g, t, none⟩).isSome = true ∧ W.frozen? ⟨g, t, none⟩ = false := by
  rcases h.2 with ⟨h2, h3⟩ | ⟨g', cap', cur, h2, h3, h4, h5, h6, h7, h8⟩
  · cases h2
  · injection h2 with e1 e2 e3
    injection e1 with e1
    injection e1 with e1 _ _
    subst e1; subst e3
    refine ⟨?_, blk_free h4 t⟩
    rw [cell_of_row W g t cur e (0, 0) h4, Array.getElem?_eq_getElem (by omega)]
    rfl
theorem flat_take (xs : List Mem) (i : Nat) : (xs.flatMap encM).take (i * 3) = (xs.take i).flatMap encM := by
  induction xs generalizing i with
  | nil => simp
  | cons x r ih =>
    cases i with
    | zero => simp
    | succ i =>
      rw [List.flatMap_cons, List.take_succ_cons, List.flatMap_cons, List.take_append, show (encM x).length = 3 from rfl, show (i + 1) * 3 - 3 = i * 3 by omega, ih, List.take_of_length_le (by show 3 ≤ (i + 1) * 3; omega)]
theorem flat3 (xs : List Mem) : (xs.flatMap encM).length = xs.length * 3 := by
  induction xs with
  | nil => rfl
  | cons x r ih => rw [List.flatMap_cons, List.length_append, ih, List.length_cons]; show 3 + _ = _; omega
theorem run_clear3 {P : Program} (w : World) (t e ty : TypeId) (a b c : Value) (ht : P.underlying t = some (.slice e)) (hv : ∀ w, (zeroValue e).run P w = .ok (.agg #[a, b, c]) w) (h1 : a.oneCell' = true ∧ b.oneCell' = true ∧ c.oneCell' = true) (g o cp : Nat)
    (hc : ∀ j, j < 3 → (w.cell? ⟨g, o + j, none⟩).isSome = true) (hf : ∀ j, j < 3 → w.frozen? ⟨g, o + j, none⟩ = false) :
    (Builtin.clear_ #[t] ty #[.slice (some ⟨g, o, none⟩) 1 cp]).run P w = .ok (.tuple #[]) (w.setCells g o [a, b, c]) := by
  have hz : (Builtin.zeroCells (Value.agg #[a, b, c]).cells 1).toList = [a, b, c] := by
    have e0 : (Value.agg #[a, b, c]).cells = #[a, b, c] := rfl
    rw [e0]
    simp [Builtin.zeroCells, List.range_succ]
  have hst := run_storeCells_cells (P := P) g o [a, b, c] 0 w (by simpa using hc) (by simpa using hf) (by intro v hv'; simp only [List.mem_cons, List.not_mem_nil, or_false] at hv'; rcases hv' with rfl | rfl | rfl; exact h1.1; exact h1.2.1; exact h1.2.2)
  simp only [Nat.add_zero] at hst
  simp [Builtin.clear_, run_underlying ht, hv, hz, hst]
set_option maxRecDepth 100000 in
set_option maxHeartbeats 8000000 in
theorem delM_any {base : Nat} {W : World} {g c : Nat} {xs : List Mem} (h : OwnM base W (.slice (some ⟨g, 0, none⟩) xs.length c) xs) (i : Nat) (hi : i < xs.length) (hm : xs.length ≤ 1000000) :
    Calls Tryz.prog 55 #[.slice (some ⟨g, 0, none⟩) xs.length c, .int .i64 i, .int .i64 (i + 1)] W fun e w' => e = .returned (.slice (some ⟨g, 0, none⟩) (xs.length - 1) c) ∧ OwnM base w' (.slice (some ⟨g, 0, none⟩) (xs.length - 1) c) (xs.take i ++ xs.drop (i + 1)) ∧ Fr (fun k => k = g) W w' := by
  obtain ⟨i0, hi0, hz0, hz1, hz2⟩ := info_parts Tryz.infoMb
  have hcap : xs.length ≤ c ∧ c ≤ maxLen := by
    rcases h.2 with ⟨h2, _⟩ | ⟨g', cap', cur, h2, _, _, h5, h6, _⟩
    · cases h2
    · injection h2 with _ _ e3; subst e3; exact ⟨h5, h6⟩
  obtain ⟨n, hn⟩ : ∃ n, xs.length = n := ⟨_, rfl⟩
  have hpre : W.drew.ownsRow base 38 3 (.slice (some ⟨g, 0, none⟩) i c) i ((xs.flatMap encM).take (i * 3)) := row_prefix h i (by omega)
  rw [flat_take] at hpre
  have hsrc : ∀ j u, ((xs.drop (i + 1)).flatMap encM)[j]? = some u → W.drew.cell? ⟨g, (i + 1) * 3 + j, none⟩ = some u := fun j u hu => by
    have hj : j < (xs.length - (i + 1)) * 3 := by have := (List.getElem?_eq_some_iff.1 hu).1; rw [flat3, List.length_drop] at this; exact this
    have h2 := World.ownsRow.cellAt h ((i + 1) * 3 + j) (by omega)
    have h3 : W.cell? ⟨g, (i + 1) * 3 + j, none⟩ = some u := by
      rw [h2, show xs.flatMap encM = (xs.take (i + 1)).flatMap encM ++ (xs.drop (i + 1)).flatMap encM by rw [← List.flatMap_append, List.take_append_drop], List.getElem?_append_right (by rw [flat3, List.length_take]; omega), flat3, List.length_take, show (i + 1) * 3 + j - min (i + 1) xs.length * 3 = j by omega]
      exact hu
    exact h3
  obtain ⟨A, hA, hAs⟩ : ∃ A : Addr, (if c = i + 1 then (some ⟨g, 0, none⟩ : Option Addr) else some ⟨g, (i + 1) * 3, none⟩) = some A ∧ ∀ j u, ((xs.drop (i + 1)).flatMap encM)[j]? = some u → W.drew.cell? (A.add j) = some u := by
    by_cases hc : c = i + 1
    · refine ⟨⟨g, 0, none⟩, by rw [if_pos hc], fun j u hu => ?_⟩
      rw [List.drop_of_length_le (by omega)] at hu
      simp at hu
    · exact ⟨⟨g, (i + 1) * 3, none⟩, by rw [if_neg hc], fun j u hu => by rw [Addr.add_lit]; exact hsrc j u hu⟩
  obtain ⟨w11, hrun, hown, hgr⟩ := run_append_fits W.drew base 43 43 38 i0 3 Tryz.underlying43 hi0 hz1 g i c _ hpre A (n - (i + 1)) (c - (i + 1)) ((xs.drop (i + 1)).flatMap encM) (by rw [flat3, List.length_drop, hn]) hAs (fun u hu => by
    obtain ⟨m, _, hm2⟩ := List.mem_flatMap.1 hu
    simp only [encM, List.mem_cons, List.not_mem_nil, or_false] at hm2
    rcases hm2 with rfl | rfl | rfl <;> rfl) (by omega)
  have HRUN := Lib.hid hrun
  have H := Lib.hid (And.intro h (And.intro hown (And.intro hgr hn)))
  rw [hn]
  have hin : i < n := by omega
  have hnc : n ≤ c := by omega
  have hic : i ≤ c := by omega
  have hj1 : (0 : Int) ≤ (i : Int) + 1 := by omega
  have hj2 : (i : Int) + 1 ≤ (n : Int) := by omega
  have hcm : c ≤ 9223372036854775807 := by have : maxLen ≤ 9223372036854775807 := by decide
                                           omega
  clear h hpre hsrc hAs hrun hown hgr hm hi hcap hi0 hz0 hz1 hz2
  go_enter Tryz.func55, Tryz.ntmps55
  go_wp2_with fail
  refine wp_region_held_drew (S := fun _ => True) (by kernel_rfl) trivial (fun hHeld => ?_)
  refine wpAnyH_read (i := 0) (oi := { dst := some 20, op := Go.Op.move (Go.Operand.tmp 0), type := 43, pos := "slices.go:232", after := #[], guard := none }) ?_ rfl (by kernel_rfl) (by kernel_rfl) (by kernel_rfl) (fun _ _ _ h => h) (by rfl) trivial ?_ ?_
  rotate_left
  · (intro w0 hS0; go_simp <;> (try with_reducible rfl))
  try simp only [Act.put, List.setIfInBounds_toArray, List.set_cons_zero, List.set_cons_succ]
  refine wpAnyH_read (i := 1) (oi := { dst := some 21, op := Go.Op.move (Go.Operand.tmp 1), type := 3, pos := "slices.go:232", after := #[], guard := none }) ?_ rfl (by kernel_rfl) (by kernel_rfl) (by kernel_rfl) (fun _ _ _ h => h) (by rfl) trivial ?_ ?_
  rotate_left
  · (intro w0 hS0; go_simp <;> (try with_reducible rfl))
  try simp only [Act.put, List.setIfInBounds_toArray, List.set_cons_zero, List.set_cons_succ]
  refine wpAnyH_read (i := 2) (oi := { dst := some 22, op := Go.Op.slice 43 (Go.Operand.tmp 20) none (some (Go.Operand.tmp 21)) none, type := 43, pos := "slices.go:232", after := #[{ on := 0, ground := Go.Ground.data }, { on := 1, ground := Go.Ground.data }], guard := none }) ?_ rfl (by kernel_rfl) (by kernel_rfl) (by kernel_rfl) (fun _ _ _ h => h) (by rfl) trivial ?_ ?_
  rotate_left
  · (intro w0 hS0; go_simp <;> (try with_reducible rfl))
  try simp only [Act.put, List.setIfInBounds_toArray, List.set_cons_zero, List.set_cons_succ]
  refine wpAnyH_read (i := 3) (oi := { dst := some 23, op := Go.Op.move (Go.Operand.tmp 0), type := 43, pos := "slices.go:232", after := #[], guard := none }) ?_ rfl (by kernel_rfl) (by kernel_rfl) (by kernel_rfl) (fun _ _ _ h => h) (by rfl) trivial ?_ ?_
  rotate_left
  · (intro w0 hS0; go_simp <;> (try with_reducible rfl))
  try simp only [Act.put, List.setIfInBounds_toArray, List.set_cons_zero, List.set_cons_succ]
  refine wpAnyH_read (i := 4) (oi := { dst := some 24, op := Go.Op.move (Go.Operand.tmp 2), type := 3, pos := "slices.go:232", after := #[], guard := none }) ?_ rfl (by kernel_rfl) (by kernel_rfl) (by kernel_rfl) (fun _ _ _ h => h) (by rfl) trivial ?_ ?_
  rotate_left
  · (intro w0 hS0; go_simp <;> (try with_reducible rfl))
  try simp only [Act.put, List.setIfInBounds_toArray, List.set_cons_zero, List.set_cons_succ]
  refine wpAnyH_read (i := 5) (oi := { dst := some 25, op := Go.Op.slice 43 (Go.Operand.tmp 23) (some (Go.Operand.tmp 24)) none none, type := 43, pos := "slices.go:232", after := #[{ on := 3, ground := Go.Ground.data }, { on := 4, ground := Go.Ground.data }], guard := none }) ?_ rfl (by kernel_rfl) (by kernel_rfl) (by kernel_rfl) (fun _ _ _ h => h) (by rfl) trivial ?_ ?_
  rotate_left
  · (intro w0 hS0; go_simp <;> (try with_reducible rfl))
  try simp only [Act.put, List.setIfInBounds_toArray, List.set_cons_zero, List.set_cons_succ]
  refine wpAnyH_one (i := 6) (o := { dst := some 26, op := Go.Op.call { callee := Go.Callee.builtin Go.Builtin.append, args := #[Go.Operand.tmp 22, Go.Operand.tmp 25], argTypes := #[43, 43] }, type := 43, pos := "slices.go:232", after := #[{ on := 2, ground := Go.Ground.data }, { on := 5, ground := Go.Ground.data }], guard := none }) (by kernel_rfl) rfl (by rfl) (fun K hK => ?_)
  refine wp_app_run _ _ _ _ rfl HRUN.out ?_
  refine hK.out _ _ ?_ (fun hHeld => ?_)
  · trivial
  clear hK K
  try simp only [Act.put, List.setIfInBounds_toArray, List.set_cons_zero, List.set_cons_succ]
  refine wpAnyH_read (i := 7) (oi := { dst := some 0, op := Go.Op.assign (Go.Operand.tmp 26), type := 43, pos := "slices.go:232", after := #[{ on := 6, ground := Go.Ground.data }, { on := 6, ground := Go.Ground.chain }, { on := 0, ground := Go.Ground.phase }, { on := 1, ground := Go.Ground.phase }, { on := 2, ground := Go.Ground.phase }, { on := 3, ground := Go.Ground.phase }, { on := 4, ground := Go.Ground.phase }, { on := 5, ground := Go.Ground.phase }, { on := 6, ground := Go.Ground.phase }], guard := none }) ?_ rfl (by kernel_rfl) (by kernel_rfl) (by kernel_rfl) (fun _ _ _ h => h) (by rfl) trivial ?_ ?_
  rotate_left
  · (intro w0 hS0; go_simp <;> (try with_reducible rfl))
  try simp only [Act.put, List.setIfInBounds_toArray, List.set_cons_zero, List.set_cons_succ]
  refine wpAnyH_done (by kernel_rfl) ?_ _
  obtain ⟨p, hp⟩ : ∃ p, n = p + 1 := ⟨n - 1, by omega⟩
  have hO := H.out.2.1
  have e1 : i + (n - (i + 1)) = p := by omega
  rw [e1] at hO ⊢
  have hcl : ∀ ty, (Builtin.clear_ #[43] ty #[.slice (some ⟨g, p * 3, none⟩) (n - p) (c - p)]).run Tryz.prog w11 = .ok (.tuple #[]) (w11.setCells g (p * 3) [.int .i64 0, .bool false, .bool false]) := fun ty => by
    rw [show n - p = 1 by omega]
    exact run_clear3 w11 _ _ ty _ _ _ Tryz.underlying43 Tryz.zeroValue38 ⟨rfl, rfl, rfl⟩ g (p * 3) _ (fun j hj => (row_spare hO _ (by omega)).1) (fun j hj => (row_spare hO _ (by omega)).2)
  obtain ⟨w12, hw12⟩ : ∃ w12, w11.setCells g (p * 3) [.int .i64 0, .bool false, .bool false] = w12 := ⟨_, rfl⟩
  have hO2 : w12.ownsRow base 38 3 (.slice (some ⟨g, 0, none⟩) p c) p ((xs.take i).flatMap encM ++ (xs.drop (i + 1)).flatMap encM) := by
    rw [← hw12]
    exact row_over (row_over (row_over hO (p * 3) (Nat.le_refl _) _) (p * 3 + 1) (by omega) _) (p * 3 + 2) (by omega) _
  have hF : Fr (fun k => k = g) W w12 := by
    have f1 : Fr (fun k => k = g) W w11 := Fr.grown (Fr.refl _ W).drew H.out.2.2.1 fun k e => .inr (by cases e; rfl)
    rw [← hw12]
    exact ((f1.setCell ⟨g, p * 3, none⟩ rfl _).setCell ⟨g, p * 3 + 1, none⟩ rfl _).setCell ⟨g, p * 3 + 2, none⟩ rfl _
  rw [hw12] at hcl
  have HO := Lib.hid (And.intro hO2 hF)
  have hpn : p ≤ n := by omega
  have hpc : p ≤ c := by omega
  have hpc2 : ¬ c = p := by omega
  have HP := Lib.hid hp
  clear hw12 hO2 hF hO e1 hj1 hj2 hA hp hHeld
  go_wp2_with fail
  go_ret
  obtain ⟨hO2, hF⟩ := HO.out
  have hp := HP.out
  rw [show n - 1 = p by omega]
  refine ⟨rfl, ?_, hF⟩
  unfold OwnM
  rw [List.flatMap_append, List.length_append, List.length_take, List.length_drop, hn, show min i n + (n - (i + 1)) = p by omega]
  exact hO2
end Go.Proofs.YtmgnhbihfgpccaaGreatDoor
end
section
/- Layer 19: Drop. -/
namespace Go.Proofs.YtmgnhbihfgpccaaGreatDoor
open Go Go.RowKit

theorem delM_is {xs : List Mem} {id : Int} : xs.take (ixM xs id) ++ xs.drop (ixM xs id + 1) = delM xs id := rfl
set_option maxRecDepth 100000 in
set_option maxHeartbeats 4000000 in
theorem drop_any {base B : Nat} {q : RmV} {r : Rm} {w : World} (h : RoomAt base B q r w) (id : Int) (hl : r.mem.length ≤ 1000000) :
    Calls Tryz.prog 28 #[.pointer (some ⟨B, 0, none⟩), .int .i64 id] w fun e w' => e = .returned (.bool (hasM r.mem id)) ∧ ChgW base B q (if hasM r.mem id then { r with mem := delM r.mem id } else r) w w' := by
  have HP := Lib.hid (place_any h id hl)
  cases hb : hasM r.mem id with
  | false =>
    rw [hb] at HP
    rw [if_neg (by simp)]
    have H := Lib.hid h
    obtain ⟨i, hi⟩ : ∃ i, ixM r.mem id = i := ⟨_, rfl⟩
    rw [hi] at HP
    clear h hb hi
    go_enter Tryz.func28, Tryz.ntmps28
    go_wp2_with fail
    refine HP.out.mono ?_
    rintro e w1 ⟨rfl, hb1⟩
    have HB := Lib.hid hb1
    clear hb1
    go_wp2_with fail
    go_ret
    exact ⟨rfl, q, H.out.below HB.out, Fr.of_below HB.out, fun _ hk _ => hk⟩
  | true =>
    rw [hb] at HP
    rw [if_pos rfl]
    have hix := (ixM_at h.2.2.2.2.2.2 hb).1
    have H := Lib.hid (And.intro h hl)
    have c1 : w.cell? ⟨B, 1, none⟩ = some q.vm := blk_cell h.1 1
    have f1 : w.frozen? ⟨B, 1, none⟩ = false := blk_free h.1 1
    obtain ⟨A, c, hv⟩ := ownM_slice h.2.1
    have hown := h.2.1
    rw [hv] at hown
    obtain ⟨g, rfl⟩ : ∃ g, A = some ⟨g, 0, none⟩ := by
      rcases hown.2 with ⟨h2, h3⟩ | ⟨g', cap', cur, h2, _⟩
      · omega
      · injection h2 with e1 _ _; exact ⟨g', e1⟩
    have hgB : g ≠ B := fun e => h.apart.1.1 (by rw [hv, e]; rfl)
    rw [hv] at c1
    have HV := Lib.hid (And.intro hv (And.intro hgB (blk_lt h.1)))
    obtain ⟨i, hi⟩ : ∃ i, ixM r.mem id = i := ⟨_, rfl⟩
    obtain ⟨n, hn⟩ : ∃ n, r.mem.length = n := ⟨_, rfl⟩
    have HI := Lib.hid (And.intro hi hn)
    have HD := Lib.hid (fun W (ho : OwnM base W (.slice (some ⟨g, 0, none⟩) r.mem.length c) r.mem) => delM_any ho i (by omega) hl)
    rw [hi] at HP
    simp only [hn] at HD
    rw [hn] at c1
    have HC := Lib.hid (And.intro c1 f1)
    have hin : i < n := by omega
    have hn6 : n ≤ 1000000 := by omega
    clear h hb hi hn hv hown hix hl hgB c1 f1
    have c1 := HC.out.1
    go_enter Tryz.func28, Tryz.ntmps28
    go_wp2_with fail
    refine HP.out.mono ?_
    rintro e w1 ⟨rfl, hb1⟩
    have h1 := H.out.1.below hb1
    have HB := Lib.hid (And.intro h1 hb1)
    have c1 : w1.cell? ⟨B, 1, none⟩ = some (.slice (some ⟨g, 0, none⟩) n c) := by rw [← HI.out.2, ← HV.out.1]; exact blk_cell h1.1 1
    clear hb1 h1
    go_wp2_with fail
    have ho1 := HB.out.1.2.1
    rw [HV.out.1, HI.out.2] at ho1
    refine (HD.out w1 ho1).mono ?_
    rintro e w2 ⟨rfl, ho2, hf2⟩
    have k2 : w2.heap[B]? = some (rmO r q) := hf2.blk HB.out.1.1 fun e => HV.out.2.1 e.symm
    have HO := Lib.hid (And.intro ho2 (And.intro hf2 k2))
    have c2 := blk_cell k2 1
    have f2 := blk_free k2 1
    clear ho1 ho2 hf2 k2 c1
    go_wp2_with fail
    go_ret
    obtain ⟨ho2, hf2, k2⟩ := HO.out
    obtain ⟨hv, hgB, _⟩ := HV.out
    obtain ⟨hi, hn⟩ := HI.out
    have hd : r.mem.take i ++ r.mem.drop (i + 1) = delM r.mem id := by rw [← hi]; rfl
    rw [hd] at ho2
    have hup : UpM (delM r.mem id) := delM_up HB.out.1.2.2.2.2.2.2 _
    refine ⟨rfl, ChgW.around (W := w1) (W' := w2.setCell ⟨B, 1, none⟩ (.slice (some ⟨g, 0, none⟩) (n - 1) c)) ?_ HB.out.2 (Below.refl _ _)⟩
    refine chgW_mem (v := .slice (some ⟨g, 0, none⟩) (n - 1) c) (ms := delM r.mem id) HB.out.1 (ownM_kept ho2 fun k hk => heap_setCell_other _ _ _ _ fun e => hgB (by cases hk; exact e)) hup (blk_set k2 1 _) ((hf2.mono fun k _ e => .inr (by rw [hv, e]; rfl)).setCell ⟨B, 1, none⟩ (.inl rfl) _) fun k hk _ => by rw [hv]; exact hk
end Go.Proofs.YtmgnhbihfgpccaaGreatDoor
end
section
/- Layer 19: a change of a member. -/
namespace Go.Proofs.YtmgnhbihfgpccaaGreatDoor
open Go Go.RowKit

def curM (m : Mem) (c : UInt8) : Bool := if c = 111 then m.2.1 else m.2.2
def newM (m : Mem) (c : UInt8) (on : Bool) : Mem := if c = 111 then (m.1, on, m.2.2) else (m.1, m.2.1, on)
/-- a member's mark -/
def chgMark (r : Rm) (on : Bool) (c : UInt8) (arg : List UInt8) (id : Int) : Told × Rm :=
  if hasM r.mem id then (if curM (r.mem.getD (ixM r.mem id) default) c = on then (noT 0, r) else (⟨on, c, arg, 0⟩, { r with mem := r.mem.set (ixM r.mem id) (newM (r.mem.getD (ixM r.mem id) default) c on) }))
  else (noT 441, r)
theorem cells_at {base : Nat} {W : World} {g c : Nat} {xs : List Mem} (h : OwnM base W (.slice (some ⟨g, 0, none⟩) xs.length c) xs) (i : Nat) (hi : i < xs.length) :
    W.cell? ⟨g, i * 3 + 1, none⟩ = some (.bool xs[i].2.1) ∧ W.cell? ⟨g, i * 3 + 2, none⟩ = some (.bool xs[i].2.2) ∧ W.frozen? ⟨g, i * 3 + 1, none⟩ = false ∧ W.frozen? ⟨g, i * 3 + 2, none⟩ = false := by
  obtain ⟨g', o, e, hg, hc⟩ := reads_ownM h (by omega)
  have e1 : g = g' ∧ 0 = o := by injection e with e; injection e with a b _; exact ⟨a, b⟩
  obtain ⟨rfl, rfl⟩ := e1
  obtain ⟨_, h1, h2⟩ := hc i hi
  rw [Nat.zero_add] at h1 h2
  have hcap : xs.length ≤ c := by
    rcases h.2 with ⟨h2, _⟩ | ⟨g', cap', cur, h2, _, _, h5, h6, _⟩
    · cases h2
    · injection h2 with _ _ e3; subst e3; exact h5
  exact ⟨h1, h2, (row_spare h _ (by omega)).2, (row_spare h _ (by omega)).2⟩
set_option maxRecDepth 100000 in
set_option maxHeartbeats 8000000 in
theorem changeMark_any {base B : Nat} {q : RmV} {r : Rm} {w : World} (h : RoomAt base B q r w) (on : Bool) (c : UInt8) (arg : List UInt8) (id : Int) (hl : r.mem.length ≤ 1000000) :
    Calls Tryz.prog 47 #[.pointer (some ⟨B, 0, none⟩), chgV on c arg, .int .i64 id] w fun e w' => e = .returned (chgMark r on c arg id).1.val ∧ ChgW base B q (chgMark r on c arg id).2 w w' := by
  obtain ⟨N, hN⟩ : ∃ N, w.heap.size = N := ⟨_, rfl⟩
  obtain ⟨ab, hab⟩ : ∃ ab, bs arg = ab := ⟨_, rfl⟩
  have hcv : chgV on c arg = .agg #[.bool on, .int .u8 c.toNat, .string ab] := by rw [← hab]; rfl
  rw [hcv]
  obtain ⟨W0, hW0⟩ : ∃ W0, ((w.alloc (.cells #[.bool on, .int .u8 c.toNat, .string ab] 31)).alloc (.cells #[.bool false, .int .u8 0, .string ⟨#[]⟩] 31)) = W0 := ⟨_, rfl⟩
  have b0 : RowKit.Below w.heap.size w W0 := by rw [← hW0]; exact ((Below.refl _ w).alloc (Nat.le_refl _) _).alloc (by simp) _
  have k0 : W0.heap[N]? = some (.cells #[.bool on, .int .u8 c.toNat, .string ab] 31 (0, 0)) := by rw [← hW0, ← hN]; exact blk_alloc (heap_alloc_new w _) _
  have k1 : W0.heap[N + 1]? = some (.cells #[.bool false, .int .u8 0, .string ⟨#[]⟩] 31 (0, 0)) := by rw [← hW0, ← hN]; exact heap_alloc2_new w _ _
  have h0 := h.below b0
  have hlt : ∀ k, RmX B q k → k < w.heap.size := fun k hk => (h.lt k hk).2
  have HP := Lib.hid (place_any h0 id hl)
  have H := Lib.hid (And.intro h0 (And.intro b0 (And.intro k0 (And.intro k1 (And.intro hN hlt)))))
  have HW := Lib.hid hW0
  clear h0 b0 k0 k1 hW0 hN hlt hcv
  unfold chgMark
  cases hb : hasM r.mem id with
  | false =>
    rw [hb] at HP
    rw [if_neg (by simp)]
    unfold noT Told.val chgV
    obtain ⟨i, hi⟩ : ∃ i, ixM r.mem id = i := ⟨_, rfl⟩
    rw [hi] at HP
    clear hb hi hl h hab
    have hW0 := HW.out
    have hN := H.out.2.2.2.2.1
    go_enter Tryz.func47, Tryz.ntmps47
    go_wp2_with fail
    clear hW0 hN
    refine HP.out.mono ?_
    rintro e w1 ⟨rfl, hb1⟩
    have f1 : Fr (fun _ => False) W0 w1 := Fr.of_below hb1
    have r1 := f1.blk H.out.2.2.2.1 fun e => e
    have H1 := Lib.hid (And.intro (H.out.2.1.trans (hb1.mono H.out.2.1.size)) (And.intro r1 (And.intro (H.out.1.below hb1) (And.intro H.out.2.2.2.2.1 H.out.2.2.2.2.2))))
    have q0 := blk_cell r1 0; have q1 := blk_cell r1 1; have q2 := blk_cell r1 2; have g0 := blk_free r1 0; have g1 := blk_free r1 1; have g2 := blk_free r1 2
    clear hb1 f1 r1 H HW HP
    go_wp2_with fail
    have kk := fun j => blk_cell (set3R (x := .bool false) (y := .int .u8 0) (z := .string ⟨#[]⟩) H1.out.2.1) j
    refine bodyPost_ret (res_three rfl rfl (Tryz.isAgg31 _) (Tryz.sizeOf31 _) (kk 0) (kk 1) (kk 2)) rfl ⟨rfl, ?_⟩
    obtain ⟨b5, r5, a5, hN, hlt⟩ := H1.out
    exact ChgW.boxed (N := N + 1) ⟨q, a5, Fr.refl _ _, fun _ hk _ => hk⟩ b5 hlt (by omega) (blk_lt r5) set3R_fr
  | true =>
    rw [hb] at HP
    rw [if_pos rfl]
    have hix := (ixM_at h.2.2.2.2.2.2 hb).1
    obtain ⟨A, cp, hv⟩ := ownM_slice h.2.1
    have hown := h.2.1
    rw [hv] at hown
    obtain ⟨g, rfl⟩ : ∃ g, A = some ⟨g, 0, none⟩ := by
      rcases hown.2 with ⟨h2, h3⟩ | ⟨g', cap', cur, h2, _⟩
      · omega
      · injection h2 with e1 _ _; exact ⟨g', e1⟩
    obtain ⟨i, hi⟩ : ∃ i, ixM r.mem id = i := ⟨_, rfl⟩
    obtain ⟨n, hn⟩ : ∃ n, r.mem.length = n := ⟨_, rfl⟩
    rw [hi] at HP hix ⊢
    obtain ⟨m, hm⟩ : ∃ m, r.mem[i] = m := ⟨_, rfl⟩
    have hgd : r.mem.getD i default = m := by rw [List.getD_eq_getElem?_getD, List.getElem?_eq_getElem hix, ← hm]; rfl
    rw [hgd]
    have hgN : g < w.heap.size := (h.lt g (.inr (.inl (by rw [hv]; rfl)))).2
    have hgB : g ≠ B := fun e => h.apart.1.1 (by rw [hv, e]; rfl)
    have HI := Lib.hid (And.intro hi (And.intro hn (And.intro hv (And.intro hix (And.intro hm (And.intro hgN hgB))))))
    have hin : i < n := by omega
    have hn6 : n ≤ 1000000 := by omega
    have HAB := Lib.hid hab
    have hgN2 : g < N := by have := H.out.2.2.2.2.1; omega
    clear hb hi hn hv hown hm hgd hgN hgB hl h hab
    by_cases hc : c = 111
    · by_cases hx : m.2.1 = on
      · skip
        have hcur : curM m c = m.2.1 := if_pos hc
        have hnew : newM m c on = (m.1, on, m.2.2) := if_pos hc
        rw [hcur, hnew]
        clear hcur hnew
        have hce : ((c.toNat : Int) == 111) = true := by rw [hc]; decide
        clear hc
        rw [if_pos hx]
        unfold noT Told.val chgV
        have hxe : (m.2.1 == on) = true := by rw [hx]; simp
        clear hx
        have hW0 := HW.out
        have hN := H.out.2.2.2.2.1
        go_enter Tryz.func47, Tryz.ntmps47
        go_wp2_with fail
        clear hW0 hN
        refine HP.out.mono ?_
        rintro e w1 ⟨rfl, hb1⟩
        have f1 : Fr (fun _ => False) W0 w1 := Fr.of_below hb1
        have k1 := f1.blk H.out.2.2.1 fun e => e
        have r1 := f1.blk H.out.2.2.2.1 fun e => e
        have a1 := H.out.1.below hb1
        have H1 := Lib.hid (And.intro (H.out.2.1.trans (hb1.mono H.out.2.1.size)) (And.intro k1 (And.intro r1 (And.intro a1 (And.intro H.out.2.2.2.2.1 H.out.2.2.2.2.2)))))
        have q0 := blk_cell r1 0; have q1 := blk_cell r1 1; have q2 := blk_cell r1 2; have g0 := blk_free r1 0; have g1 := blk_free r1 1; have g2 := blk_free r1 2
        have z0 := blk_cell k1 0; have z1 := blk_cell k1 1; have z2 := blk_cell k1 2
        have c1 : w1.cell? ⟨B, 1, none⟩ = some (.slice (some ⟨g, 0, none⟩) n cp) := by rw [← HI.out.2.1, ← HI.out.2.2.1]; exact blk_cell a1.1 1
        have ho := a1.2.1
        rw [HI.out.2.2.1] at ho
        obtain ⟨m1, m2, n1, n2⟩ := cells_at ho i HI.out.2.2.2.1
        rw [HI.out.2.2.2.2.1] at m1 m2
        have HO := Lib.hid ho
        clear hb1 f1 r1 k1 a1 ho H HW HP
        go_wp2_with fail
        go_quiet (fail)
        go_wp2_with fail
        obtain ⟨b1, k1, r1, a1, hN, hlt⟩ := H1.out
        have f9 : Fr (fun _ => False) w1 (w1.drewN nq) := Fr.of_below (below_drewN (Below.refl _ _) nq)
        have a9 := a1.fr f9 fun _ _ e => e
        have b9 := below_drewN b1 nq
        have r9 : (w1.drewN nq).heap[N + 1]? = some (.cells #[.bool false, .int .u8 0, .string ⟨#[]⟩] 31 (0, 0)) := r1
        have kk := fun j => blk_cell (set3R (x := .bool false) (y := .int .u8 0) (z := .string ⟨#[]⟩) r9) j
        refine bodyPost_ret (res_three rfl rfl (Tryz.isAgg31 _) (Tryz.sizeOf31 _) (kk 0) (kk 1) (kk 2)) rfl ⟨rfl, ?_⟩
        exact ChgW.boxed (W := w1.drewN nq) (N := N + 1) ⟨q, a9, Fr.refl _ _, fun _ hk _ => hk⟩ b9 hlt (by omega) (blk_lt r9) set3R_fr
      · skip
        have hcur : curM m c = m.2.1 := if_pos hc
        have hnew : newM m c on = (m.1, on, m.2.2) := if_pos hc
        rw [hcur, hnew]
        clear hcur hnew
        have hce : ((c.toNat : Int) == 111) = true := by rw [hc]; decide
        clear hc
        rw [if_neg hx]
        unfold Told.val chgV
        dsimp only
        rw [HAB.out]
        have hxe : (m.2.1 == on) = false := by cases h1 : m.2.1 <;> cases on <;> simp_all
        clear hx
        have hW0 := HW.out
        have hN := H.out.2.2.2.2.1
        go_enter Tryz.func47, Tryz.ntmps47
        go_wp2_with fail
        clear hW0 hN
        refine HP.out.mono ?_
        rintro e w1 ⟨rfl, hb1⟩
        have f1 : Fr (fun _ => False) W0 w1 := Fr.of_below hb1
        have k1 := f1.blk H.out.2.2.1 fun e => e
        have r1 := f1.blk H.out.2.2.2.1 fun e => e
        have a1 := H.out.1.below hb1
        have H1 := Lib.hid (And.intro (H.out.2.1.trans (hb1.mono H.out.2.1.size)) (And.intro k1 (And.intro r1 (And.intro a1 (And.intro H.out.2.2.2.2.1 H.out.2.2.2.2.2)))))
        have q0 := blk_cell r1 0; have q1 := blk_cell r1 1; have q2 := blk_cell r1 2; have g0 := blk_free r1 0; have g1 := blk_free r1 1; have g2 := blk_free r1 2
        have z0 := blk_cell k1 0; have z1 := blk_cell k1 1; have z2 := blk_cell k1 2
        have c1 : w1.cell? ⟨B, 1, none⟩ = some (.slice (some ⟨g, 0, none⟩) n cp) := by rw [← HI.out.2.1, ← HI.out.2.2.1]; exact blk_cell a1.1 1
        have ho := a1.2.1
        rw [HI.out.2.2.1] at ho
        obtain ⟨m1, m2, n1, n2⟩ := cells_at ho i HI.out.2.2.2.1
        rw [HI.out.2.2.2.2.1] at m1 m2
        have HO := Lib.hid ho
        clear hb1 f1 r1 k1 a1 ho H HW HP
        go_wp2_with fail
        go_quiet (fail)
        go_wp2_with fail
        obtain ⟨b1, k1, r1, a1, hN, hlt⟩ := H1.out
        have f9 : Fr (fun _ => False) w1 (w1.drewN nq) := Fr.of_below (below_drewN (Below.refl _ _) nq)
        have a9 := a1.fr f9 fun _ _ e => e
        have b9 := below_drewN b1 nq
        have r9 : (w1.drewN nq).heap[N + 1]? = some (.cells #[.bool false, .int .u8 0, .string ⟨#[]⟩] 31 (0, 0)) := r1
        obtain ⟨hi, hn, hv, _, hm, hgN, hgB⟩ := HI.out
        have hgq : q.vm.ownBlock = some g := by rw [hv]; rfl
        have ho : OwnM base (w1.drewN nq) (.slice (some ⟨g, 0, none⟩) r.mem.length cp) r.mem := by rw [← hv]; exact a9.2.1
        have ho2 := ownM_set ho i 1 hix (by decide) (m.1, on, m.2.2) (.bool on) (by rw [hm]; rfl)
        have hoq : OwnM base ((w1.drewN nq).setCell ⟨g, i * 3 + 1, none⟩ (.bool on)) q.vm (r.mem.set i (m.1, on, m.2.2)) := by rw [hv]; rw [List.length_set] at ho2; exact ho2
        have f10 : Fr (fun k => k = g) (w1.drewN nq) ((w1.drewN nq).setCell ⟨g, i * 3 + 1, none⟩ (.bool on)) := Fr.setCell (X := fun k => k = g) (Fr.refl _ _) ⟨g, i * 3 + 1, none⟩ rfl _
        have r10 := f10.blk r9 (by omega)
        have hch := chgW_mem (v := q.vm) (ms := r.mem.set i (m.1, on, m.2.2)) a9 hoq (setM_up a9.2.2.2.2.2.2 hix (by rw [hm])) (f10.blk a9.1 fun e => hgB e.symm) (f10.mono fun k _ e => .inr (by rw [hgq, e])) fun k hk _ => hk
        have kk := fun j => blk_cell (set3R (x := .bool on) (y := .int .u8 c.toNat) (z := .string ab) r10) j
        refine bodyPost_ret (res_three rfl rfl (Tryz.isAgg31 _) (Tryz.sizeOf31 _) (kk 0) (kk 1) (kk 2)) rfl ⟨rfl, ?_⟩
        exact ChgW.boxed (W := w1.drewN nq) (N := N + 1) hch b9 hlt (by omega) (blk_lt r9) set3R_fr
    · by_cases hx : m.2.2 = on
      · skip
        have hcur : curM m c = m.2.2 := if_neg hc
        have hnew : newM m c on = (m.1, m.2.1, on) := if_neg hc
        rw [hcur, hnew]
        clear hcur hnew
        have hce : ((c.toNat : Int) == 111) = false := by rw [show ((111 : Int)) = ((111 : Nat) : Int) from rfl, u8_eqR c 111 (by decide)]; exact decide_eq_false hc
        clear hc
        rw [if_pos hx]
        unfold noT Told.val chgV
        have hxe : (m.2.2 == on) = true := by rw [hx]; simp
        clear hx
        have hW0 := HW.out
        have hN := H.out.2.2.2.2.1
        go_enter Tryz.func47, Tryz.ntmps47
        go_wp2_with fail
        clear hW0 hN
        refine HP.out.mono ?_
        rintro e w1 ⟨rfl, hb1⟩
        have f1 : Fr (fun _ => False) W0 w1 := Fr.of_below hb1
        have k1 := f1.blk H.out.2.2.1 fun e => e
        have r1 := f1.blk H.out.2.2.2.1 fun e => e
        have a1 := H.out.1.below hb1
        have H1 := Lib.hid (And.intro (H.out.2.1.trans (hb1.mono H.out.2.1.size)) (And.intro k1 (And.intro r1 (And.intro a1 (And.intro H.out.2.2.2.2.1 H.out.2.2.2.2.2)))))
        have q0 := blk_cell r1 0; have q1 := blk_cell r1 1; have q2 := blk_cell r1 2; have g0 := blk_free r1 0; have g1 := blk_free r1 1; have g2 := blk_free r1 2
        have z0 := blk_cell k1 0; have z1 := blk_cell k1 1; have z2 := blk_cell k1 2
        have c1 : w1.cell? ⟨B, 1, none⟩ = some (.slice (some ⟨g, 0, none⟩) n cp) := by rw [← HI.out.2.1, ← HI.out.2.2.1]; exact blk_cell a1.1 1
        have ho := a1.2.1
        rw [HI.out.2.2.1] at ho
        obtain ⟨m1, m2, n1, n2⟩ := cells_at ho i HI.out.2.2.2.1
        rw [HI.out.2.2.2.2.1] at m1 m2
        have HO := Lib.hid ho
        clear hb1 f1 r1 k1 a1 ho H HW HP
        go_wp2_with fail
        go_quiet (fail)
        go_wp2_with fail
        obtain ⟨b1, k1, r1, a1, hN, hlt⟩ := H1.out
        have f9 : Fr (fun _ => False) w1 (w1.drewN nq) := Fr.of_below (below_drewN (Below.refl _ _) nq)
        have a9 := a1.fr f9 fun _ _ e => e
        have b9 := below_drewN b1 nq
        have r9 : (w1.drewN nq).heap[N + 1]? = some (.cells #[.bool false, .int .u8 0, .string ⟨#[]⟩] 31 (0, 0)) := r1
        have kk := fun j => blk_cell (set3R (x := .bool false) (y := .int .u8 0) (z := .string ⟨#[]⟩) r9) j
        refine bodyPost_ret (res_three rfl rfl (Tryz.isAgg31 _) (Tryz.sizeOf31 _) (kk 0) (kk 1) (kk 2)) rfl ⟨rfl, ?_⟩
        exact ChgW.boxed (W := w1.drewN nq) (N := N + 1) ⟨q, a9, Fr.refl _ _, fun _ hk _ => hk⟩ b9 hlt (by omega) (blk_lt r9) set3R_fr
      · skip
        have hcur : curM m c = m.2.2 := if_neg hc
        have hnew : newM m c on = (m.1, m.2.1, on) := if_neg hc
        rw [hcur, hnew]
        clear hcur hnew
        have hce : ((c.toNat : Int) == 111) = false := by rw [show ((111 : Int)) = ((111 : Nat) : Int) from rfl, u8_eqR c 111 (by decide)]; exact decide_eq_false hc
        clear hc
        rw [if_neg hx]
        unfold Told.val chgV
        dsimp only
        rw [HAB.out]
        have hxe : (m.2.2 == on) = false := by cases h1 : m.2.2 <;> cases on <;> simp_all
        clear hx
        have hW0 := HW.out
        have hN := H.out.2.2.2.2.1
        go_enter Tryz.func47, Tryz.ntmps47
        go_wp2_with fail
        clear hW0 hN
        refine HP.out.mono ?_
        rintro e w1 ⟨rfl, hb1⟩
        have f1 : Fr (fun _ => False) W0 w1 := Fr.of_below hb1
        have k1 := f1.blk H.out.2.2.1 fun e => e
        have r1 := f1.blk H.out.2.2.2.1 fun e => e
        have a1 := H.out.1.below hb1
        have H1 := Lib.hid (And.intro (H.out.2.1.trans (hb1.mono H.out.2.1.size)) (And.intro k1 (And.intro r1 (And.intro a1 (And.intro H.out.2.2.2.2.1 H.out.2.2.2.2.2)))))
        have q0 := blk_cell r1 0; have q1 := blk_cell r1 1; have q2 := blk_cell r1 2; have g0 := blk_free r1 0; have g1 := blk_free r1 1; have g2 := blk_free r1 2
        have z0 := blk_cell k1 0; have z1 := blk_cell k1 1; have z2 := blk_cell k1 2
        have c1 : w1.cell? ⟨B, 1, none⟩ = some (.slice (some ⟨g, 0, none⟩) n cp) := by rw [← HI.out.2.1, ← HI.out.2.2.1]; exact blk_cell a1.1 1
        have ho := a1.2.1
        rw [HI.out.2.2.1] at ho
        obtain ⟨m1, m2, n1, n2⟩ := cells_at ho i HI.out.2.2.2.1
        rw [HI.out.2.2.2.2.1] at m1 m2
        have HO := Lib.hid ho
        clear hb1 f1 r1 k1 a1 ho H HW HP
        go_wp2_with fail
        go_quiet (fail)
        go_wp2_with fail
        obtain ⟨b1, k1, r1, a1, hN, hlt⟩ := H1.out
        have f9 : Fr (fun _ => False) w1 (w1.drewN nq) := Fr.of_below (below_drewN (Below.refl _ _) nq)
        have a9 := a1.fr f9 fun _ _ e => e
        have b9 := below_drewN b1 nq
        have r9 : (w1.drewN nq).heap[N + 1]? = some (.cells #[.bool false, .int .u8 0, .string ⟨#[]⟩] 31 (0, 0)) := r1
        obtain ⟨hi, hn, hv, _, hm, hgN, hgB⟩ := HI.out
        have hgq : q.vm.ownBlock = some g := by rw [hv]; rfl
        have ho : OwnM base (w1.drewN nq) (.slice (some ⟨g, 0, none⟩) r.mem.length cp) r.mem := by rw [← hv]; exact a9.2.1
        have ho2 := ownM_set ho i 2 hix (by decide) (m.1, m.2.1, on) (.bool on) (by rw [hm]; rfl)
        have hoq : OwnM base ((w1.drewN nq).setCell ⟨g, i * 3 + 2, none⟩ (.bool on)) q.vm (r.mem.set i (m.1, m.2.1, on)) := by rw [hv]; rw [List.length_set] at ho2; exact ho2
        have f10 : Fr (fun k => k = g) (w1.drewN nq) ((w1.drewN nq).setCell ⟨g, i * 3 + 2, none⟩ (.bool on)) := Fr.setCell (X := fun k => k = g) (Fr.refl _ _) ⟨g, i * 3 + 2, none⟩ rfl _
        have r10 := f10.blk r9 (by omega)
        have hch := chgW_mem (v := q.vm) (ms := r.mem.set i (m.1, m.2.1, on)) a9 hoq (setM_up a9.2.2.2.2.2.2 hix (by rw [hm])) (f10.blk a9.1 fun e => hgB e.symm) (f10.mono fun k _ e => .inr (by rw [hgq, e])) fun k hk _ => hk
        have kk := fun j => blk_cell (set3R (x := .bool on) (y := .int .u8 c.toNat) (z := .string ab) r10) j
        refine bodyPost_ret (res_three rfl rfl (Tryz.isAgg31 _) (Tryz.sizeOf31 _) (kk 0) (kk 1) (kk 2)) rfl ⟨rfl, ?_⟩
        exact ChgW.boxed (W := w1.drewN nq) (N := N + 1) hch b9 hlt (by omega) (blk_lt r9) set3R_fr
end Go.Proofs.YtmgnhbihfgpccaaGreatDoor
end
