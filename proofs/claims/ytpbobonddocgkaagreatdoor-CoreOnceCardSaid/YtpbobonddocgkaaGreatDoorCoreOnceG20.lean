/- Texts of this proof, one behind the other. -/
import Derived.Test.YtpbobonddocgkaaGreatDoorCoreOnceG19
set_option linter.unusedVariables false
set_option linter.unusedSimpArgs false
section
/- Layer 23: New. -/
namespace Go.Proofs.YtpbobonddocgkaaGreatDoor
open Go Go.RowKit Go.Maps Go.Lib Go.Sort Go.Shelf

set_option maxRecDepth 100000 in
set_option maxHeartbeats 32000000 in
theorem core_new {n0 n1 n2 n3 n4 n5 n6 n8 n9 n10 : Int} (hch : numsB n0 n1 n2 n3 n4 n5 n6 0 n8 n9 n10 = true) (b0 : 0 ≤ n0 ∧ n0 ≤ 100000) (b2 : 0 ≤ n2 ∧ n2 ≤ 100000) (b3 : 0 ≤ n3 ∧ n3 ≤ 100000) (b5 : 0 ≤ n5 ∧ n5 ≤ 100000) (b6 : 0 ≤ n6 ∧ n6 ≤ 100000) (b8 : 1 ≤ n8 ∧ n8 ≤ 1000000 ∧ 1 ≤ n9 ∧ n9 ≤ 1000000 ∧ 1 ≤ n10 ∧ n10 ≤ 1000000) (w : World) (hr : Rowed w) :
    Calls Tryz.prog 5 #[.agg #[.string (bs nameL), .string ⟨#[]⟩, .string ⟨#[]⟩, .string ⟨#[]⟩, .int .i64 n0, .int .i64 n1, .int .i64 n2, .int .i64 n3, .int .i64 n4, .int .i64 n5, .int .i64 n6, .int .i64 0, .int .i64 n8, .int .i64 n9, .int .i64 n10]] w (NewCo n0 n1 n6 w) := by
  have HRo := Lib.hid (fun W => rooms_newG (nm := bs nameL) (n0 := n0) (n1 := n1) (n4 := n4) (n5 := n5) (n6 := n6) (n7 := 0) (n8 := n8) (n9 := n9) (n10 := n10) b3 b2 W)
  have HO := Lib.hid (fun W => wisNew b6 W)
  have HWa := Lib.hid (fun W => wisNew b5 W)
  have HPn := Lib.hid (fun W => pul_newG (nm := bs nameL) (n0 := n0) (n1 := n1) (n2 := n2) (n3 := n3) (n4 := n4) (n5 := n5) (n6 := n6) (n7 := 0) b8 W)
  have HBk := Lib.hid (fun W => bok_newI b0 W)
  obtain ⟨N, hN⟩ : ∃ N, w.heap.size = N := ⟨_, rfl⟩
  obtain ⟨w1, hw1⟩ : ∃ w1, w.alloc (Obj.cells #[.string (bs nameL), .string ⟨#[]⟩, .string ⟨#[]⟩, .string ⟨#[]⟩, .int .i64 n0, .int .i64 n1, .int .i64 n2, .int .i64 n3, .int .i64 n4, .int .i64 n5, .int .i64 n6, .int .i64 0, .int .i64 n8, .int .i64 n9, .int .i64 n10] 29) = w1 := ⟨_, rfl⟩
  have f1 : Fr (fun _ => False) w w1 := by rw [← hw1]; exact (Fr.refl _ w).alloc _
  have z1 : w1.heap.size = N + 1 := by rw [← hw1, World.size_alloc, hN]
  have k1 : w1.heap[N]? = some (.cells #[.string (bs nameL), .string ⟨#[]⟩, .string ⟨#[]⟩, .string ⟨#[]⟩, .int .i64 n0, .int .i64 n1, .int .i64 n2, .int .i64 n3, .int .i64 n4, .int .i64 n5, .int .i64 n6, .int .i64 0, .int .i64 n8, .int .i64 n9, .int .i64 n10] 29 (0, 0)) := by rw [← hw1, ← hN]; exact heap_alloc_new w _
  have hchk := check_nums (bs nameL) ⟨#[]⟩ ⟨#[]⟩ ⟨#[]⟩ n0 n1 n2 n3 n4 n5 n6 0 n8 n9 n10 w1 (rowed_below hr (Nat.le_refl _) (f1.below (Nat.le_refl _) fun _ _ e => e.elim)) (by decide) (by decide) (by decide) (by decide) serv_irc pass_none pass_none pass_none (by simp)
  rw [show chkN n0 n1 n2 n3 n4 n5 n6 0 n8 n9 n10 = 0 from (chkN_yes hch).symm] at hchk
  unfold cfg at hchk
  have HCk := Lib.hid hchk
  have cells : ∀ W, Fr (fun _ => False) w1 W → CfS N n0 n1 n2 n3 n4 n5 n6 n8 n9 n10 W := fun W hW =>
    have k := hW.blk k1 fun e => e
    ⟨blk_cell k 0, blk_cell k 1, blk_cell k 2, blk_cell k 3, blk_cell k 4, blk_cell k 5, blk_cell k 6, blk_cell k 7, blk_cell k 8, blk_cell k 9, blk_cell k 10, blk_cell k 11, blk_cell k 12, blk_cell k 13, blk_cell k 14⟩
  have p0 := blk_cell k1 0
  have p1 := blk_cell k1 1
  have p2 := blk_cell k1 2
  have p3 := blk_cell k1 3
  have p4 := blk_cell k1 4
  have p5 := blk_cell k1 5
  have p6 := blk_cell k1 6
  have p7 := blk_cell k1 7
  have p8 := blk_cell k1 8
  have p9 := blk_cell k1 9
  have p10 := blk_cell k1 10
  have p11 := blk_cell k1 11
  have p12 := blk_cell k1 12
  have p13 := blk_cell k1 13
  have p14 := blk_cell k1 14
  have HW := Lib.hid (And.intro hw1 hN)
  have HCel := Lib.hid cells
  have HZ := Lib.hid (And.intro f1 z1)
  clear hch b0 b2 b3 b5 b6 b8 hr hw1 hN k1 hchk cells f1 z1
  go_enter Tryz.func5, Tryz.ntmps5
  go_wp2_with fail
  rw [HW.out.1]
  rw [HW.out.2]
  refine HCk.out.mono ?_
  rintro r W1 ⟨rfl, bb1⟩
  have fW := Fr.of_below (X := fun _ => False) bb1
  have HP := Lib.hid (fun W (hW : Fr (fun _ => False) W1 W) => HCel.out W (fW.trans hW))
  have HNN : Hid (N < W1.heap.size) := by have := fW.size; have := HZ.out.2; exact (by omega : N < W1.heap.size)
  have HWW : Hid (w.heap.size = N ∧ Fr (fun _ => False) w W1) := ⟨HW.out.2, HZ.out.1.trans fW⟩
  clear fW bb1 p0 p1 p2 p3 p4 p5 p6 p7 p8 p9 p10 p11 p12 p13 p14 HCk HCel
  go_upto_region 4 with fail
  refine wp_region_held_drew (S := fun W => Fr (fun _ => False) W1 W) (by kernel_rfl) (by exact (Fr.refl _ W1).drew) (fun hHeld => ?_)
  obtain ⟨V0, hV0⟩ : ∃ W, W1.drew = W := ⟨_, rfl⟩
  rw [hV0] at hHeld ⊢
  have hF : Fr (fun _ => False) W1 V0 := hHeld
  have zz0 : Hid (V0.heap.size = W1.heap.size) := by rw [← hV0]; exact World.size_drew _
  clear hV0
  refine wpAnyH_read (i := 4) (oi := { dst := some 15, op := Go.Op.fieldAddr 29 (Go.Operand.tmp 1) 10, type := 0, pos := "core.go:71", after := #[], guard := none }) ?_ rfl (by kernel_rfl) (by kernel_rfl) (by kernel_rfl) (fun _ _ _ h => h) (by rfl) (by exact hHeld) ?_ ?_
  rotate_left
  · (intro w0 hS0; (try clear hHeld); go_simp <;> (try with_reducible rfl))
  try simp only [Act.put, List.setIfInBounds_toArray, List.set_cons_zero, List.set_cons_succ]
  refine wpAnyH_read (i := 7) (oi := { dst := some 18, op := Go.Op.fieldAddr 29 (Go.Operand.tmp 1) 9, type := 0, pos := "core.go:71", after := #[], guard := none }) ?_ rfl (by kernel_rfl) (by kernel_rfl) (by kernel_rfl) (fun _ _ _ h => h) (by rfl) (by exact hHeld) ?_ ?_
  rotate_left
  · (intro w0 hS0; (try clear hHeld); go_simp <;> (try with_reducible rfl))
  try simp only [Act.put, List.setIfInBounds_toArray, List.set_cons_zero, List.set_cons_succ]
  refine wpAnyH_read (i := 0) (oi := { dst := some 11, op := Go.Op.load 29 (Go.Operand.tmp 1), type := 29, pos := "core.go:71", after := #[], guard := none }) ?_ rfl (by kernel_rfl) (by kernel_rfl) (by kernel_rfl) (fun _ _ _ h => h) (by rfl) (by exact hHeld) ?_ ?_
  rotate_left
  · (intro w0 hS0; obtain ⟨s0, s1, s2, s3, s4, s5, s6, s7, s8, s9, s10, s11, s12, s13, s14⟩ := HP.out w0 hS0; (try clear hHeld); go_simp <;> (try with_reducible rfl))
  try simp only [Act.put, List.setIfInBounds_toArray, List.set_cons_zero, List.set_cons_succ]
  refine wpAnyH_read (i := 2) (oi := { dst := some 13, op := Go.Op.load 29 (Go.Operand.tmp 1), type := 29, pos := "core.go:71", after := #[], guard := none }) ?_ rfl (by kernel_rfl) (by kernel_rfl) (by kernel_rfl) (fun _ _ _ h => h) (by rfl) (by exact hHeld) ?_ ?_
  rotate_left
  · (intro w0 hS0; obtain ⟨s0, s1, s2, s3, s4, s5, s6, s7, s8, s9, s10, s11, s12, s13, s14⟩ := HP.out w0 hS0; (try clear hHeld); go_simp <;> (try with_reducible rfl))
  try simp only [Act.put, List.setIfInBounds_toArray, List.set_cons_zero, List.set_cons_succ]
  refine wpAnyH_read (i := 5) (oi := { dst := some 16, op := Go.Op.load 3 (Go.Operand.tmp 15), type := 3, pos := "core.go:71", after := #[{ on := 4, ground := Go.Ground.data }], guard := none }) ?_ rfl (by kernel_rfl) (by kernel_rfl) (by kernel_rfl) (fun _ _ _ h => h) (by rfl) (by exact hHeld) ?_ ?_
  rotate_left
  · (intro w0 hS0; obtain ⟨s0, s1, s2, s3, s4, s5, s6, s7, s8, s9, s10, s11, s12, s13, s14⟩ := HP.out w0 hS0; (try clear hHeld); go_simp <;> (try with_reducible rfl))
  try simp only [Act.put, List.setIfInBounds_toArray, List.set_cons_zero, List.set_cons_succ]
  refine wpAnyH_read (i := 8) (oi := { dst := some 19, op := Go.Op.load 3 (Go.Operand.tmp 18), type := 3, pos := "core.go:71", after := #[{ on := 7, ground := Go.Ground.data }], guard := none }) ?_ rfl (by kernel_rfl) (by kernel_rfl) (by kernel_rfl) (fun _ _ _ h => h) (by rfl) (by exact hHeld) ?_ ?_
  rotate_left
  · (intro w0 hS0; obtain ⟨s0, s1, s2, s3, s4, s5, s6, s7, s8, s9, s10, s11, s12, s13, s14⟩ := HP.out w0 hS0; (try clear hHeld); go_simp <;> (try with_reducible rfl))
  try simp only [Act.put, List.setIfInBounds_toArray, List.set_cons_zero, List.set_cons_succ]
  refine wpAnyH_read (i := 10) (oi := { dst := some 21, op := Go.Op.load 29 (Go.Operand.tmp 1), type := 29, pos := "core.go:71", after := #[], guard := none }) ?_ rfl (by kernel_rfl) (by kernel_rfl) (by kernel_rfl) (fun _ _ _ h => h) (by rfl) (by exact hHeld) ?_ ?_
  rotate_left
  · (intro w0 hS0; obtain ⟨s0, s1, s2, s3, s4, s5, s6, s7, s8, s9, s10, s11, s12, s13, s14⟩ := HP.out w0 hS0; (try clear hHeld); go_simp <;> (try with_reducible rfl))
  try simp only [Act.put, List.setIfInBounds_toArray, List.set_cons_zero, List.set_cons_succ]
  refine wpAnyH_two (i := 1) (j := 3) (o := { dst := some 12, op := Go.Op.makeMap 45 none, type := 45, pos := "core.go:71", after := #[], guard := none }) (o2 := { dst := some 14, op := Go.Op.call { callee := Go.Callee.value (Go.Operand.func 18), args := #[Go.Operand.tmp 13], argTypes := #[29] }, type := 46, pos := "core.go:74", after := #[{ on := 2, ground := Go.Ground.data }], guard := none }) (by kernel_rfl) rfl rfl (by rfl) (by rfl) (fun K hK => ?_) (fun K hK => ?_)
  · (try clear hHeld)
    have hmm := @run_makeMap Tryz.prog
    go_simp
    clear hmm
    obtain ⟨m, hm⟩ : ∃ m, V0.heap.size = m := ⟨_, rfl⟩
    obtain ⟨Vm, hVm⟩ : ∃ Vm, V0.alloc (Obj.map #[] 0) = Vm := ⟨_, rfl⟩
    rw [hVm, hm]
    have fb : Fr (fun _ => False) V0 Vm := by rw [← hVm]; exact (Fr.refl _ _).alloc _
    have hM : OwnMIS Vm m [] := by rw [← hVm, ← hm]; exact ⟨⟨.map [], World.ownsMap_made _ _ _ _, mapHas_empty _ _⟩, fun p hp => by cases hp⟩
    have zm := Lib.hid (show V0.heap.size = m ∧ Vm.heap.size = m + 1 from ⟨hm, by rw [← hVm, World.size_alloc, hm]⟩)
    have zzm := Lib.hid fb.size
    have hF := hF.trans fb
    clear fb
    clear hVm hm
    refine hK.out _ _ ?_ (fun hHeld => ?_)
    · exact hF
    clear hK K
    try simp only [Act.put, List.setIfInBounds_toArray, List.set_cons_zero, List.set_cons_succ]
    refine wpAnyH_one (i := 3) (o := { dst := some 14, op := Go.Op.call { callee := Go.Callee.value (Go.Operand.func 18), args := #[Go.Operand.tmp 13], argTypes := #[29] }, type := 46, pos := "core.go:74", after := #[{ on := 2, ground := Go.Ground.data }], guard := none }) (by kernel_rfl) rfl (by rfl) (fun K hK => ?_)
    (try clear hHeld)
    go_simp
    refine (HRo.out Vm).mono ?_
    rintro r1 V1 ⟨⟨R, rfl⟩, bb⟩
    have fb : Fr (fun _ => False) Vm V1 := Fr.of_below bb
    clear bb
    have hM := ownMIS_same hM (fb.block _ (ownMIS_lt hM) fun e => e)
    have zz1 := Lib.hid fb.size
    have hF := hF.trans fb
    clear fb
    refine hK.out _ _ ?_ (fun hHeld => ?_)
    · exact hF
    clear hK K
    try simp only [Act.put, List.setIfInBounds_toArray, List.set_cons_zero, List.set_cons_succ]
    refine wpAnyH_one (i := 6) (o := { dst := some 17, op := Go.Op.call { callee := Go.Callee.value (Go.Operand.func 19), args := #[Go.Operand.tmp 16], argTypes := #[3] }, type := 36, pos := "core.go:75", after := #[{ on := 5, ground := Go.Ground.data }, { on := 3, ground := Go.Ground.chain }], guard := none }) (by kernel_rfl) rfl (by rfl) (fun K hK => ?_)
    (try clear hHeld)
    go_simp
    refine (HO.out V1).mono ?_
    rintro r1 V2 ⟨mo, YM, rfl, hO, yO, bb⟩
    have fb : Fr (fun _ => False) V1 V2 := Fr.of_below bb
    clear bb
    have hM := ownMIS_same hM (fb.block _ (ownMIS_lt hM) fun e => e)
    have hO := hO.rebase (b := N) (by have := hF.size; have := HNN.out; omega)
    have rO : ∀ j, YM j → V1.heap.size ≤ j ∧ j < V2.heap.size := fun j hj => ⟨yO j hj, (hO.lt hj).2⟩
    have zz2 := Lib.hid fb.size
    have hF := hF.trans fb
    clear fb
    refine hK.out _ _ ?_ (fun hHeld => ?_)
    · exact hF
    clear hK K
    try simp only [Act.put, List.setIfInBounds_toArray, List.set_cons_zero, List.set_cons_succ]
    refine wpAnyH_one (i := 9) (o := { dst := some 20, op := Go.Op.call { callee := Go.Callee.value (Go.Operand.func 19), args := #[Go.Operand.tmp 19], argTypes := #[3] }, type := 36, pos := "core.go:76", after := #[{ on := 8, ground := Go.Ground.data }, { on := 6, ground := Go.Ground.chain }], guard := none }) (by kernel_rfl) rfl (by rfl) (fun K hK => ?_)
    (try clear hHeld)
    go_simp
    refine (HWa.out V2).mono ?_
    rintro r1 V3 ⟨wa, YW, rfl, hW, yW, bb⟩
    have fb : Fr (fun _ => False) V2 V3 := Fr.of_below bb
    clear bb
    have hM := ownMIS_same hM (fb.block _ (ownMIS_lt hM) fun e => e)
    have hO := hO.fr fb fun _ _ e => e
    have hW := hW.rebase (b := N) (by have := hF.size; have := HNN.out; omega)
    have rW : ∀ j, YW j → V2.heap.size ≤ j ∧ j < V3.heap.size := fun j hj => ⟨yW j hj, (hW.lt hj).2⟩
    have zz3 := Lib.hid fb.size
    have hF := hF.trans fb
    clear fb
    refine hK.out _ _ ?_ (fun hHeld => ?_)
    · exact hF
    clear hK K
    try simp only [Act.put, List.setIfInBounds_toArray, List.set_cons_zero, List.set_cons_succ]
    refine wpAnyH_one (i := 11) (o := { dst := some 22, op := Go.Op.call { callee := Go.Callee.value (Go.Operand.func 20), args := #[Go.Operand.tmp 21], argTypes := #[29] }, type := 49, pos := "core.go:77", after := #[{ on := 10, ground := Go.Ground.data }, { on := 9, ground := Go.Ground.chain }], guard := none }) (by kernel_rfl) rfl (by rfl) (fun K hK => ?_)
    (try clear hHeld)
    go_simp
    refine (HPn.out V3).mono ?_
    rintro r1 V4 ⟨PP, rfl, hPu, bb⟩
    have fb : Fr (fun _ => False) V3 V4 := Fr.of_below bb
    clear bb
    have hM := ownMIS_same hM (fb.block _ (ownMIS_lt hM) fun e => e)
    have hO := hO.fr fb fun _ _ e => e
    have hW := hW.fr fb fun _ _ e => e
    have rP : ∀ j, PP.all j → V3.heap.size ≤ j ∧ j < V4.heap.size := fun j hj => PB.all_lt hPu hj
    have hPu := hPu.rebase (b := N) (by have := hF.size; have := HNN.out; omega)
    have zz4 := Lib.hid fb.size
    have hF := hF.trans fb
    clear fb
    refine hK.out _ _ ?_ (fun hHeld => ?_)
    · exact hF
    clear hK K
    try simp only [Act.put, List.setIfInBounds_toArray, List.set_cons_zero, List.set_cons_succ]
    refine wpAnyH_read (i := 12) (oi := { dst := some 23, op := Go.Op.build 55 #[(0, Go.Operand.tmp 11), (2, Go.Operand.tmp 12), (4, Go.Operand.tmp 14), (5, Go.Operand.tmp 17), (6, Go.Operand.tmp 20), (8, Go.Operand.tmp 22)], type := 55, pos := "core.go:71", after := #[{ on := 0, ground := Go.Ground.data }, { on := 1, ground := Go.Ground.data }, { on := 3, ground := Go.Ground.data }, { on := 6, ground := Go.Ground.data }, { on := 9, ground := Go.Ground.data }, { on := 11, ground := Go.Ground.data }], guard := none }) ?_ rfl (by kernel_rfl) (by kernel_rfl) (by kernel_rfl) (fun _ _ _ h => h) (by rfl) (by exact hHeld) ?_ ?_
    rotate_left
    · (intro w0 hS0; (try clear hHeld); go_simp <;> (try with_reducible rfl))
    try simp only [Act.put, List.setIfInBounds_toArray, List.set_cons_zero, List.set_cons_succ]
    refine wpAnyH_one (i := 13) (o := { dst := some 24, op := Go.Op.box 55 (Go.Operand.tmp 23), type := 24, pos := "core.go:71", after := #[{ on := 12, ground := Go.Ground.data }], guard := none }) (by kernel_rfl) rfl (by rfl) (fun K hK => ?_)
    (try clear hHeld)
    go_simp
    refine hK.out _ _ ?_ (fun hHeld => ?_)
    · exact hF.alloc _
    clear hK K
    try simp only [Act.put, List.setIfInBounds_toArray, List.set_cons_zero, List.set_cons_succ]
    refine wpAnyH_read (i := 14) (oi := { dst := some 5, op := Go.Op.assign (Go.Operand.tmp 24), type := 24, pos := "core.go:71", after := #[{ on := 13, ground := Go.Ground.data }, { on := 11, ground := Go.Ground.chain }, { on := 0, ground := Go.Ground.phase }, { on := 1, ground := Go.Ground.phase }, { on := 2, ground := Go.Ground.phase }, { on := 3, ground := Go.Ground.phase }, { on := 4, ground := Go.Ground.phase }, { on := 5, ground := Go.Ground.phase }, { on := 6, ground := Go.Ground.phase }, { on := 7, ground := Go.Ground.phase }, { on := 8, ground := Go.Ground.phase }, { on := 9, ground := Go.Ground.phase }, { on := 10, ground := Go.Ground.phase }, { on := 11, ground := Go.Ground.phase }, { on := 12, ground := Go.Ground.phase }, { on := 13, ground := Go.Ground.phase }], guard := none }) ?_ rfl (by kernel_rfl) (by kernel_rfl) (by kernel_rfl) (fun _ _ _ h => h) (by rfl) (by exact hHeld) ?_ ?_
    rotate_left
    · (intro w0 hS0; (try clear hHeld); go_simp <;> (try with_reducible rfl))
    try simp only [Act.put, List.setIfInBounds_toArray, List.set_cons_zero, List.set_cons_succ]
    refine wpAnyH_done (by kernel_rfl) ?_ _
    obtain ⟨c, hc⟩ : ∃ c, V4.heap.size = c := ⟨_, rfl⟩
    obtain ⟨Vc, hVc⟩ : ∃ Vc, V4.alloc (Obj.cells #[.string (bs nameL), .string ⟨#[]⟩, .string ⟨#[]⟩, .string ⟨#[]⟩, .int .i64 n0, .int .i64 n1, .int .i64 n2, .int .i64 n3, .int .i64 n4, .int .i64 n5, .int .i64 n6, .int .i64 0, .int .i64 n8, .int .i64 n9, .int .i64 n10, .int .i64 0, .map (some m), .pointer none, .pointer (some ⟨R, 0, none⟩), .pointer (some ⟨mo, 0, none⟩), .pointer (some ⟨wa, 0, none⟩), .pointer none, .pointer (some ⟨PP.p, 0, none⟩), .slice none 0 0] 55) = Vc := ⟨_, rfl⟩
    have fb : Fr (fun _ => False) V4 Vc := by rw [← hVc]; exact (Fr.refl _ _).alloc _
    have zc : Vc.heap.size = c + 1 := by rw [← hVc, World.size_alloc, hc]
    have kc : Vc.heap[c]? = some (Obj.cells #[.string (bs nameL), .string ⟨#[]⟩, .string ⟨#[]⟩, .string ⟨#[]⟩, .int .i64 n0, .int .i64 n1, .int .i64 n2, .int .i64 n3, .int .i64 n4, .int .i64 n5, .int .i64 n6, .int .i64 0, .int .i64 n8, .int .i64 n9, .int .i64 n10, .int .i64 0, .map (some m), .pointer none, .pointer (some ⟨R, 0, none⟩), .pointer (some ⟨mo, 0, none⟩), .pointer (some ⟨wa, 0, none⟩), .pointer none, .pointer (some ⟨PP.p, 0, none⟩), .slice none 0 0] 55 (0, 0)) := by rw [← hVc, ← hc]; exact heap_alloc_new V4 _
    have hM := ownMIS_same hM (fb.block _ (ownMIS_lt hM) fun e => e)
    have hO := hO.fr fb fun _ _ e => e
    have hW := hW.fr fb fun _ _ e => e
    have hPu := hPu.fr fb fun _ e => e.elim
    have g4' : V4.cell? ⟨N, 4, none⟩ = some (.int .i64 n0) := (HP.out V4 hF).2.2.2.2.1
    have hF := hF.trans fb
    have g4 : (V4.alloc (Obj.cells #[.string (bs nameL), .string ⟨#[]⟩, .string ⟨#[]⟩, .string ⟨#[]⟩, .int .i64 n0, .int .i64 n1, .int .i64 n2, .int .i64 n3, .int .i64 n4, .int .i64 n5, .int .i64 n6, .int .i64 0, .int .i64 n8, .int .i64 n9, .int .i64 n10, .int .i64 0, .map (some m), .pointer none, .pointer (some ⟨R, 0, none⟩), .pointer (some ⟨mo, 0, none⟩), .pointer (some ⟨wa, 0, none⟩), .pointer none, .pointer (some ⟨PP.p, 0, none⟩), .slice none 0 0] 55)).cell? ⟨N, 4, none⟩ = some (.int .i64 n0) := by rw [hVc]; exact (HP.out Vc hF).2.2.2.2.1
    have hN1 := HNN.out
    have y0 := zz0.out
    have y1 := zz1.out
    have y2 := zz2.out
    have y3 := zz3.out
    have y4 := zz4.out
    have ym := zzm.out
    have y5 := zm.out.1
    have y6 := zm.out.2
    have HX := Lib.hid (NewX.mk (W1 := W1) (N := N) (c := c) (m := m) (R := R) (mo := mo) (wa := wa) (PP := PP) (YM := YM) (YW := YW) (Vc := Vc) (n0 := n0) (n1 := n1) (n2 := n2) (n3 := n3) (n4 := n4) (n5 := n5) (n6 := n6) (n8 := n8) (n9 := n9) (n10 := n10) hF zc kc hM hO hW hPu ⟨_, _, _, _, _, _, rO, rW, rP, by omega, by omega⟩)
    have HVc := Lib.hid (And.intro hVc hc)
    clear fb zc kc hM hO hW hPu rO rW rP hF zz0 zz1 zz2 zz3 zz4 zzm zm hN1 hVc hc hHeld y0 y1 y2 y3 y4 y5 y6 ym
    go_wp2_with fail
    rw [HVc.out.1, HVc.out.2]
    clear HVc g4 g4'
    refine (HBk.out Vc).mono ?_
    rintro r1 V6 ⟨ht, hb, rfl, hk, bb⟩
    have X := HX.out
    have f6 : Fr (fun _ => False) Vc V6 := Fr.of_below bb
    have k6 := f6.blk X.kc fun e => e
    have c17 := blk_cell k6 17
    have d17 := blk_free k6 17
    obtain ⟨V7, hV7⟩ : ∃ V7, V6.setCell ⟨c, 17, none⟩ (.pointer (some ⟨ht, 0, none⟩)) = V7 := ⟨_, rfl⟩
    have f7 : Fr (fun k => k = c) V6 V7 := by rw [← hV7]; exact (Fr.refl (fun k => k = c) V6).setCell ⟨c, 17, none⟩ rfl _
    have k7 : V7.heap[c]? = some (Obj.cells #[.string (bs nameL), .string ⟨#[]⟩, .string ⟨#[]⟩, .string ⟨#[]⟩, .int .i64 n0, .int .i64 n1, .int .i64 n2, .int .i64 n3, .int .i64 n4, .int .i64 n5, .int .i64 n6, .int .i64 0, .int .i64 n8, .int .i64 n9, .int .i64 n10, .int .i64 0, .map (some m), .pointer (some ⟨ht, 0, none⟩), .pointer (some ⟨R, 0, none⟩), .pointer (some ⟨mo, 0, none⟩), .pointer (some ⟨wa, 0, none⟩), .pointer none, .pointer (some ⟨PP.p, 0, none⟩), .slice none 0 0] 55 (0, 0)) := by rw [← hV7]; exact blk_set k6 17 _
    have fW : Fr (fun _ => False) W1 V7 := (X.hF.trans f6).trans3 f7 fun k hk e => by have := X.cW; omega
    have n11 : (V6.setCell ⟨c, 17, none⟩ (.pointer (some ⟨ht, 0, none⟩))).cell? ⟨N, 11, none⟩ = some (.int .i64 0) := by rw [hV7]; exact (HP.out V7 fW).2.2.2.2.2.2.2.2.2.2.2.1
    have H7 := Lib.hid (And.intro f6 (And.intro f7 (And.intro k7 (And.intro hk bb))))
    have HV7 := Lib.hid hV7
    clear X f6 k6 f7 k7 fW hk bb hV7
    go_wp2_with fail
    rw [HV7.out]
    refine (was_new0 V7).mono ?_
    rintro r1 V8 ⟨⟨pa, rfl⟩, bb8⟩
    obtain ⟨f6, f7, k7, hk, bb⟩ := H7.out
    have f8 : Fr (fun _ => False) V7 V8 := Fr.of_below bb8
    have k8 := f8.blk k7 fun e => e
    have c21 := blk_cell k8 21
    have d21 := blk_free k8 21
    have H8 := Lib.hid (And.intro f8 k8)
    clear f6 f7 k7 hk bb f8 k8 bb8 HV7 n11
    go_wp2_with fail
    go_ret2
    obtain ⟨f6, f7, k7, hk, bb⟩ := H7.out
    obtain ⟨f8, k8⟩ := H8.out
    exact HX.out.last hk f6 f7 f8 k8 HWW.out
  · (try clear hHeld)
    go_simp
    refine (HRo.out V0).mono ?_
    rintro r1 V1 ⟨⟨R, rfl⟩, bb⟩
    have fb : Fr (fun _ => False) V0 V1 := Fr.of_below bb
    clear bb
    have zz1 := Lib.hid fb.size
    have hF := hF.trans fb
    clear fb
    refine hK.out _ _ ?_ (fun hHeld => ?_)
    · exact hF
    clear hK K
    try simp only [Act.put, List.setIfInBounds_toArray, List.set_cons_zero, List.set_cons_succ]
    refine wpAnyH_two (i := 1) (j := 6) (o := { dst := some 12, op := Go.Op.makeMap 45 none, type := 45, pos := "core.go:71", after := #[], guard := none }) (o2 := { dst := some 17, op := Go.Op.call { callee := Go.Callee.value (Go.Operand.func 19), args := #[Go.Operand.tmp 16], argTypes := #[3] }, type := 36, pos := "core.go:75", after := #[{ on := 5, ground := Go.Ground.data }, { on := 3, ground := Go.Ground.chain }], guard := none }) (by kernel_rfl) rfl rfl (by rfl) (by rfl) (fun K hK => ?_) (fun K hK => ?_)
    · (try clear hHeld)
      have hmm := @run_makeMap Tryz.prog
      go_simp
      clear hmm
      obtain ⟨m, hm⟩ : ∃ m, V1.heap.size = m := ⟨_, rfl⟩
      obtain ⟨Vm, hVm⟩ : ∃ Vm, V1.alloc (Obj.map #[] 0) = Vm := ⟨_, rfl⟩
      rw [hVm, hm]
      have fb : Fr (fun _ => False) V1 Vm := by rw [← hVm]; exact (Fr.refl _ _).alloc _
      have hM : OwnMIS Vm m [] := by rw [← hVm, ← hm]; exact ⟨⟨.map [], World.ownsMap_made _ _ _ _, mapHas_empty _ _⟩, fun p hp => by cases hp⟩
      have zm := Lib.hid (show V1.heap.size = m ∧ Vm.heap.size = m + 1 from ⟨hm, by rw [← hVm, World.size_alloc, hm]⟩)
      have zzm := Lib.hid fb.size
      have hF := hF.trans fb
      clear fb
      clear hVm hm
      refine hK.out _ _ ?_ (fun hHeld => ?_)
      · exact hF
      clear hK K
      try simp only [Act.put, List.setIfInBounds_toArray, List.set_cons_zero, List.set_cons_succ]
      refine wpAnyH_one (i := 6) (o := { dst := some 17, op := Go.Op.call { callee := Go.Callee.value (Go.Operand.func 19), args := #[Go.Operand.tmp 16], argTypes := #[3] }, type := 36, pos := "core.go:75", after := #[{ on := 5, ground := Go.Ground.data }, { on := 3, ground := Go.Ground.chain }], guard := none }) (by kernel_rfl) rfl (by rfl) (fun K hK => ?_)
      (try clear hHeld)
      go_simp
      refine (HO.out Vm).mono ?_
      rintro r1 V2 ⟨mo, YM, rfl, hO, yO, bb⟩
      have fb : Fr (fun _ => False) Vm V2 := Fr.of_below bb
      clear bb
      have hM := ownMIS_same hM (fb.block _ (ownMIS_lt hM) fun e => e)
      have hO := hO.rebase (b := N) (by have := hF.size; have := HNN.out; omega)
      have rO : ∀ j, YM j → Vm.heap.size ≤ j ∧ j < V2.heap.size := fun j hj => ⟨yO j hj, (hO.lt hj).2⟩
      have zz2 := Lib.hid fb.size
      have hF := hF.trans fb
      clear fb
      refine hK.out _ _ ?_ (fun hHeld => ?_)
      · exact hF
      clear hK K
      try simp only [Act.put, List.setIfInBounds_toArray, List.set_cons_zero, List.set_cons_succ]
      refine wpAnyH_one (i := 9) (o := { dst := some 20, op := Go.Op.call { callee := Go.Callee.value (Go.Operand.func 19), args := #[Go.Operand.tmp 19], argTypes := #[3] }, type := 36, pos := "core.go:76", after := #[{ on := 8, ground := Go.Ground.data }, { on := 6, ground := Go.Ground.chain }], guard := none }) (by kernel_rfl) rfl (by rfl) (fun K hK => ?_)
      (try clear hHeld)
      go_simp
      refine (HWa.out V2).mono ?_
      rintro r1 V3 ⟨wa, YW, rfl, hW, yW, bb⟩
      have fb : Fr (fun _ => False) V2 V3 := Fr.of_below bb
      clear bb
      have hM := ownMIS_same hM (fb.block _ (ownMIS_lt hM) fun e => e)
      have hO := hO.fr fb fun _ _ e => e
      have hW := hW.rebase (b := N) (by have := hF.size; have := HNN.out; omega)
      have rW : ∀ j, YW j → V2.heap.size ≤ j ∧ j < V3.heap.size := fun j hj => ⟨yW j hj, (hW.lt hj).2⟩
      have zz3 := Lib.hid fb.size
      have hF := hF.trans fb
      clear fb
      refine hK.out _ _ ?_ (fun hHeld => ?_)
      · exact hF
      clear hK K
      try simp only [Act.put, List.setIfInBounds_toArray, List.set_cons_zero, List.set_cons_succ]
      refine wpAnyH_one (i := 11) (o := { dst := some 22, op := Go.Op.call { callee := Go.Callee.value (Go.Operand.func 20), args := #[Go.Operand.tmp 21], argTypes := #[29] }, type := 49, pos := "core.go:77", after := #[{ on := 10, ground := Go.Ground.data }, { on := 9, ground := Go.Ground.chain }], guard := none }) (by kernel_rfl) rfl (by rfl) (fun K hK => ?_)
      (try clear hHeld)
      go_simp
      refine (HPn.out V3).mono ?_
      rintro r1 V4 ⟨PP, rfl, hPu, bb⟩
      have fb : Fr (fun _ => False) V3 V4 := Fr.of_below bb
      clear bb
      have hM := ownMIS_same hM (fb.block _ (ownMIS_lt hM) fun e => e)
      have hO := hO.fr fb fun _ _ e => e
      have hW := hW.fr fb fun _ _ e => e
      have rP : ∀ j, PP.all j → V3.heap.size ≤ j ∧ j < V4.heap.size := fun j hj => PB.all_lt hPu hj
      have hPu := hPu.rebase (b := N) (by have := hF.size; have := HNN.out; omega)
      have zz4 := Lib.hid fb.size
      have hF := hF.trans fb
      clear fb
      refine hK.out _ _ ?_ (fun hHeld => ?_)
      · exact hF
      clear hK K
      try simp only [Act.put, List.setIfInBounds_toArray, List.set_cons_zero, List.set_cons_succ]
      refine wpAnyH_read (i := 12) (oi := { dst := some 23, op := Go.Op.build 55 #[(0, Go.Operand.tmp 11), (2, Go.Operand.tmp 12), (4, Go.Operand.tmp 14), (5, Go.Operand.tmp 17), (6, Go.Operand.tmp 20), (8, Go.Operand.tmp 22)], type := 55, pos := "core.go:71", after := #[{ on := 0, ground := Go.Ground.data }, { on := 1, ground := Go.Ground.data }, { on := 3, ground := Go.Ground.data }, { on := 6, ground := Go.Ground.data }, { on := 9, ground := Go.Ground.data }, { on := 11, ground := Go.Ground.data }], guard := none }) ?_ rfl (by kernel_rfl) (by kernel_rfl) (by kernel_rfl) (fun _ _ _ h => h) (by rfl) (by exact hHeld) ?_ ?_
      rotate_left
      · (intro w0 hS0; (try clear hHeld); go_simp <;> (try with_reducible rfl))
      try simp only [Act.put, List.setIfInBounds_toArray, List.set_cons_zero, List.set_cons_succ]
      refine wpAnyH_one (i := 13) (o := { dst := some 24, op := Go.Op.box 55 (Go.Operand.tmp 23), type := 24, pos := "core.go:71", after := #[{ on := 12, ground := Go.Ground.data }], guard := none }) (by kernel_rfl) rfl (by rfl) (fun K hK => ?_)
      (try clear hHeld)
      go_simp
      refine hK.out _ _ ?_ (fun hHeld => ?_)
      · exact hF.alloc _
      clear hK K
      try simp only [Act.put, List.setIfInBounds_toArray, List.set_cons_zero, List.set_cons_succ]
      refine wpAnyH_read (i := 14) (oi := { dst := some 5, op := Go.Op.assign (Go.Operand.tmp 24), type := 24, pos := "core.go:71", after := #[{ on := 13, ground := Go.Ground.data }, { on := 11, ground := Go.Ground.chain }, { on := 0, ground := Go.Ground.phase }, { on := 1, ground := Go.Ground.phase }, { on := 2, ground := Go.Ground.phase }, { on := 3, ground := Go.Ground.phase }, { on := 4, ground := Go.Ground.phase }, { on := 5, ground := Go.Ground.phase }, { on := 6, ground := Go.Ground.phase }, { on := 7, ground := Go.Ground.phase }, { on := 8, ground := Go.Ground.phase }, { on := 9, ground := Go.Ground.phase }, { on := 10, ground := Go.Ground.phase }, { on := 11, ground := Go.Ground.phase }, { on := 12, ground := Go.Ground.phase }, { on := 13, ground := Go.Ground.phase }], guard := none }) ?_ rfl (by kernel_rfl) (by kernel_rfl) (by kernel_rfl) (fun _ _ _ h => h) (by rfl) (by exact hHeld) ?_ ?_
      rotate_left
      · (intro w0 hS0; (try clear hHeld); go_simp <;> (try with_reducible rfl))
      try simp only [Act.put, List.setIfInBounds_toArray, List.set_cons_zero, List.set_cons_succ]
      refine wpAnyH_done (by kernel_rfl) ?_ _
      obtain ⟨c, hc⟩ : ∃ c, V4.heap.size = c := ⟨_, rfl⟩
      obtain ⟨Vc, hVc⟩ : ∃ Vc, V4.alloc (Obj.cells #[.string (bs nameL), .string ⟨#[]⟩, .string ⟨#[]⟩, .string ⟨#[]⟩, .int .i64 n0, .int .i64 n1, .int .i64 n2, .int .i64 n3, .int .i64 n4, .int .i64 n5, .int .i64 n6, .int .i64 0, .int .i64 n8, .int .i64 n9, .int .i64 n10, .int .i64 0, .map (some m), .pointer none, .pointer (some ⟨R, 0, none⟩), .pointer (some ⟨mo, 0, none⟩), .pointer (some ⟨wa, 0, none⟩), .pointer none, .pointer (some ⟨PP.p, 0, none⟩), .slice none 0 0] 55) = Vc := ⟨_, rfl⟩
      have fb : Fr (fun _ => False) V4 Vc := by rw [← hVc]; exact (Fr.refl _ _).alloc _
      have zc : Vc.heap.size = c + 1 := by rw [← hVc, World.size_alloc, hc]
      have kc : Vc.heap[c]? = some (Obj.cells #[.string (bs nameL), .string ⟨#[]⟩, .string ⟨#[]⟩, .string ⟨#[]⟩, .int .i64 n0, .int .i64 n1, .int .i64 n2, .int .i64 n3, .int .i64 n4, .int .i64 n5, .int .i64 n6, .int .i64 0, .int .i64 n8, .int .i64 n9, .int .i64 n10, .int .i64 0, .map (some m), .pointer none, .pointer (some ⟨R, 0, none⟩), .pointer (some ⟨mo, 0, none⟩), .pointer (some ⟨wa, 0, none⟩), .pointer none, .pointer (some ⟨PP.p, 0, none⟩), .slice none 0 0] 55 (0, 0)) := by rw [← hVc, ← hc]; exact heap_alloc_new V4 _
      have hM := ownMIS_same hM (fb.block _ (ownMIS_lt hM) fun e => e)
      have hO := hO.fr fb fun _ _ e => e
      have hW := hW.fr fb fun _ _ e => e
      have hPu := hPu.fr fb fun _ e => e.elim
      have g4' : V4.cell? ⟨N, 4, none⟩ = some (.int .i64 n0) := (HP.out V4 hF).2.2.2.2.1
      have hF := hF.trans fb
      have g4 : (V4.alloc (Obj.cells #[.string (bs nameL), .string ⟨#[]⟩, .string ⟨#[]⟩, .string ⟨#[]⟩, .int .i64 n0, .int .i64 n1, .int .i64 n2, .int .i64 n3, .int .i64 n4, .int .i64 n5, .int .i64 n6, .int .i64 0, .int .i64 n8, .int .i64 n9, .int .i64 n10, .int .i64 0, .map (some m), .pointer none, .pointer (some ⟨R, 0, none⟩), .pointer (some ⟨mo, 0, none⟩), .pointer (some ⟨wa, 0, none⟩), .pointer none, .pointer (some ⟨PP.p, 0, none⟩), .slice none 0 0] 55)).cell? ⟨N, 4, none⟩ = some (.int .i64 n0) := by rw [hVc]; exact (HP.out Vc hF).2.2.2.2.1
      have hN1 := HNN.out
      have y0 := zz0.out
      have y1 := zz1.out
      have y2 := zz2.out
      have y3 := zz3.out
      have y4 := zz4.out
      have ym := zzm.out
      have y5 := zm.out.1
      have y6 := zm.out.2
      have HX := Lib.hid (NewX.mk (W1 := W1) (N := N) (c := c) (m := m) (R := R) (mo := mo) (wa := wa) (PP := PP) (YM := YM) (YW := YW) (Vc := Vc) (n0 := n0) (n1 := n1) (n2 := n2) (n3 := n3) (n4 := n4) (n5 := n5) (n6 := n6) (n8 := n8) (n9 := n9) (n10 := n10) hF zc kc hM hO hW hPu ⟨_, _, _, _, _, _, rO, rW, rP, by omega, by omega⟩)
      have HVc := Lib.hid (And.intro hVc hc)
      clear fb zc kc hM hO hW hPu rO rW rP hF zz0 zz1 zz2 zz3 zz4 zzm zm hN1 hVc hc hHeld y0 y1 y2 y3 y4 y5 y6 ym
      go_wp2_with fail
      rw [HVc.out.1, HVc.out.2]
      clear HVc g4 g4'
      refine (HBk.out Vc).mono ?_
      rintro r1 V6 ⟨ht, hb, rfl, hk, bb⟩
      have X := HX.out
      have f6 : Fr (fun _ => False) Vc V6 := Fr.of_below bb
      have k6 := f6.blk X.kc fun e => e
      have c17 := blk_cell k6 17
      have d17 := blk_free k6 17
      obtain ⟨V7, hV7⟩ : ∃ V7, V6.setCell ⟨c, 17, none⟩ (.pointer (some ⟨ht, 0, none⟩)) = V7 := ⟨_, rfl⟩
      have f7 : Fr (fun k => k = c) V6 V7 := by rw [← hV7]; exact (Fr.refl (fun k => k = c) V6).setCell ⟨c, 17, none⟩ rfl _
      have k7 : V7.heap[c]? = some (Obj.cells #[.string (bs nameL), .string ⟨#[]⟩, .string ⟨#[]⟩, .string ⟨#[]⟩, .int .i64 n0, .int .i64 n1, .int .i64 n2, .int .i64 n3, .int .i64 n4, .int .i64 n5, .int .i64 n6, .int .i64 0, .int .i64 n8, .int .i64 n9, .int .i64 n10, .int .i64 0, .map (some m), .pointer (some ⟨ht, 0, none⟩), .pointer (some ⟨R, 0, none⟩), .pointer (some ⟨mo, 0, none⟩), .pointer (some ⟨wa, 0, none⟩), .pointer none, .pointer (some ⟨PP.p, 0, none⟩), .slice none 0 0] 55 (0, 0)) := by rw [← hV7]; exact blk_set k6 17 _
      have fW : Fr (fun _ => False) W1 V7 := (X.hF.trans f6).trans3 f7 fun k hk e => by have := X.cW; omega
      have n11 : (V6.setCell ⟨c, 17, none⟩ (.pointer (some ⟨ht, 0, none⟩))).cell? ⟨N, 11, none⟩ = some (.int .i64 0) := by rw [hV7]; exact (HP.out V7 fW).2.2.2.2.2.2.2.2.2.2.2.1
      have H7 := Lib.hid (And.intro f6 (And.intro f7 (And.intro k7 (And.intro hk bb))))
      have HV7 := Lib.hid hV7
      clear X f6 k6 f7 k7 fW hk bb hV7
      go_wp2_with fail
      rw [HV7.out]
      refine (was_new0 V7).mono ?_
      rintro r1 V8 ⟨⟨pa, rfl⟩, bb8⟩
      obtain ⟨f6, f7, k7, hk, bb⟩ := H7.out
      have f8 : Fr (fun _ => False) V7 V8 := Fr.of_below bb8
      have k8 := f8.blk k7 fun e => e
      have c21 := blk_cell k8 21
      have d21 := blk_free k8 21
      have H8 := Lib.hid (And.intro f8 k8)
      clear f6 f7 k7 hk bb f8 k8 bb8 HV7 n11
      go_wp2_with fail
      go_ret2
      obtain ⟨f6, f7, k7, hk, bb⟩ := H7.out
      obtain ⟨f8, k8⟩ := H8.out
      exact HX.out.last hk f6 f7 f8 k8 HWW.out
    · (try clear hHeld)
      go_simp
      refine (HO.out V1).mono ?_
      rintro r1 V2 ⟨mo, YM, rfl, hO, yO, bb⟩
      have fb : Fr (fun _ => False) V1 V2 := Fr.of_below bb
      clear bb
      have hO := hO.rebase (b := N) (by have := hF.size; have := HNN.out; omega)
      have rO : ∀ j, YM j → V1.heap.size ≤ j ∧ j < V2.heap.size := fun j hj => ⟨yO j hj, (hO.lt hj).2⟩
      have zz2 := Lib.hid fb.size
      have hF := hF.trans fb
      clear fb
      refine hK.out _ _ ?_ (fun hHeld => ?_)
      · exact hF
      clear hK K
      try simp only [Act.put, List.setIfInBounds_toArray, List.set_cons_zero, List.set_cons_succ]
      refine wpAnyH_two (i := 1) (j := 9) (o := { dst := some 12, op := Go.Op.makeMap 45 none, type := 45, pos := "core.go:71", after := #[], guard := none }) (o2 := { dst := some 20, op := Go.Op.call { callee := Go.Callee.value (Go.Operand.func 19), args := #[Go.Operand.tmp 19], argTypes := #[3] }, type := 36, pos := "core.go:76", after := #[{ on := 8, ground := Go.Ground.data }, { on := 6, ground := Go.Ground.chain }], guard := none }) (by kernel_rfl) rfl rfl (by rfl) (by rfl) (fun K hK => ?_) (fun K hK => ?_)
      · (try clear hHeld)
        have hmm := @run_makeMap Tryz.prog
        go_simp
        clear hmm
        obtain ⟨m, hm⟩ : ∃ m, V2.heap.size = m := ⟨_, rfl⟩
        obtain ⟨Vm, hVm⟩ : ∃ Vm, V2.alloc (Obj.map #[] 0) = Vm := ⟨_, rfl⟩
        rw [hVm, hm]
        have fb : Fr (fun _ => False) V2 Vm := by rw [← hVm]; exact (Fr.refl _ _).alloc _
        have hO := hO.fr fb fun _ _ e => e
        have hM : OwnMIS Vm m [] := by rw [← hVm, ← hm]; exact ⟨⟨.map [], World.ownsMap_made _ _ _ _, mapHas_empty _ _⟩, fun p hp => by cases hp⟩
        have zm := Lib.hid (show V2.heap.size = m ∧ Vm.heap.size = m + 1 from ⟨hm, by rw [← hVm, World.size_alloc, hm]⟩)
        have zzm := Lib.hid fb.size
        have hF := hF.trans fb
        clear fb
        clear hVm hm
        refine hK.out _ _ ?_ (fun hHeld => ?_)
        · exact hF
        clear hK K
        try simp only [Act.put, List.setIfInBounds_toArray, List.set_cons_zero, List.set_cons_succ]
        refine wpAnyH_one (i := 9) (o := { dst := some 20, op := Go.Op.call { callee := Go.Callee.value (Go.Operand.func 19), args := #[Go.Operand.tmp 19], argTypes := #[3] }, type := 36, pos := "core.go:76", after := #[{ on := 8, ground := Go.Ground.data }, { on := 6, ground := Go.Ground.chain }], guard := none }) (by kernel_rfl) rfl (by rfl) (fun K hK => ?_)
        (try clear hHeld)
        go_simp
        refine (HWa.out Vm).mono ?_
        rintro r1 V3 ⟨wa, YW, rfl, hW, yW, bb⟩
        have fb : Fr (fun _ => False) Vm V3 := Fr.of_below bb
        clear bb
        have hO := hO.fr fb fun _ _ e => e
        have hM := ownMIS_same hM (fb.block _ (ownMIS_lt hM) fun e => e)
        have hW := hW.rebase (b := N) (by have := hF.size; have := HNN.out; omega)
        have rW : ∀ j, YW j → Vm.heap.size ≤ j ∧ j < V3.heap.size := fun j hj => ⟨yW j hj, (hW.lt hj).2⟩
        have zz3 := Lib.hid fb.size
        have hF := hF.trans fb
        clear fb
        refine hK.out _ _ ?_ (fun hHeld => ?_)
        · exact hF
        clear hK K
        try simp only [Act.put, List.setIfInBounds_toArray, List.set_cons_zero, List.set_cons_succ]
        refine wpAnyH_one (i := 11) (o := { dst := some 22, op := Go.Op.call { callee := Go.Callee.value (Go.Operand.func 20), args := #[Go.Operand.tmp 21], argTypes := #[29] }, type := 49, pos := "core.go:77", after := #[{ on := 10, ground := Go.Ground.data }, { on := 9, ground := Go.Ground.chain }], guard := none }) (by kernel_rfl) rfl (by rfl) (fun K hK => ?_)
        (try clear hHeld)
        go_simp
        refine (HPn.out V3).mono ?_
        rintro r1 V4 ⟨PP, rfl, hPu, bb⟩
        have fb : Fr (fun _ => False) V3 V4 := Fr.of_below bb
        clear bb
        have hO := hO.fr fb fun _ _ e => e
        have hM := ownMIS_same hM (fb.block _ (ownMIS_lt hM) fun e => e)
        have hW := hW.fr fb fun _ _ e => e
        have rP : ∀ j, PP.all j → V3.heap.size ≤ j ∧ j < V4.heap.size := fun j hj => PB.all_lt hPu hj
        have hPu := hPu.rebase (b := N) (by have := hF.size; have := HNN.out; omega)
        have zz4 := Lib.hid fb.size
        have hF := hF.trans fb
        clear fb
        refine hK.out _ _ ?_ (fun hHeld => ?_)
        · exact hF
        clear hK K
        try simp only [Act.put, List.setIfInBounds_toArray, List.set_cons_zero, List.set_cons_succ]
        refine wpAnyH_read (i := 12) (oi := { dst := some 23, op := Go.Op.build 55 #[(0, Go.Operand.tmp 11), (2, Go.Operand.tmp 12), (4, Go.Operand.tmp 14), (5, Go.Operand.tmp 17), (6, Go.Operand.tmp 20), (8, Go.Operand.tmp 22)], type := 55, pos := "core.go:71", after := #[{ on := 0, ground := Go.Ground.data }, { on := 1, ground := Go.Ground.data }, { on := 3, ground := Go.Ground.data }, { on := 6, ground := Go.Ground.data }, { on := 9, ground := Go.Ground.data }, { on := 11, ground := Go.Ground.data }], guard := none }) ?_ rfl (by kernel_rfl) (by kernel_rfl) (by kernel_rfl) (fun _ _ _ h => h) (by rfl) (by exact hHeld) ?_ ?_
        rotate_left
        · (intro w0 hS0; (try clear hHeld); go_simp <;> (try with_reducible rfl))
        try simp only [Act.put, List.setIfInBounds_toArray, List.set_cons_zero, List.set_cons_succ]
        refine wpAnyH_one (i := 13) (o := { dst := some 24, op := Go.Op.box 55 (Go.Operand.tmp 23), type := 24, pos := "core.go:71", after := #[{ on := 12, ground := Go.Ground.data }], guard := none }) (by kernel_rfl) rfl (by rfl) (fun K hK => ?_)
        (try clear hHeld)
        go_simp
        refine hK.out _ _ ?_ (fun hHeld => ?_)
        · exact hF.alloc _
        clear hK K
        try simp only [Act.put, List.setIfInBounds_toArray, List.set_cons_zero, List.set_cons_succ]
        refine wpAnyH_read (i := 14) (oi := { dst := some 5, op := Go.Op.assign (Go.Operand.tmp 24), type := 24, pos := "core.go:71", after := #[{ on := 13, ground := Go.Ground.data }, { on := 11, ground := Go.Ground.chain }, { on := 0, ground := Go.Ground.phase }, { on := 1, ground := Go.Ground.phase }, { on := 2, ground := Go.Ground.phase }, { on := 3, ground := Go.Ground.phase }, { on := 4, ground := Go.Ground.phase }, { on := 5, ground := Go.Ground.phase }, { on := 6, ground := Go.Ground.phase }, { on := 7, ground := Go.Ground.phase }, { on := 8, ground := Go.Ground.phase }, { on := 9, ground := Go.Ground.phase }, { on := 10, ground := Go.Ground.phase }, { on := 11, ground := Go.Ground.phase }, { on := 12, ground := Go.Ground.phase }, { on := 13, ground := Go.Ground.phase }], guard := none }) ?_ rfl (by kernel_rfl) (by kernel_rfl) (by kernel_rfl) (fun _ _ _ h => h) (by rfl) (by exact hHeld) ?_ ?_
        rotate_left
        · (intro w0 hS0; (try clear hHeld); go_simp <;> (try with_reducible rfl))
        try simp only [Act.put, List.setIfInBounds_toArray, List.set_cons_zero, List.set_cons_succ]
        refine wpAnyH_done (by kernel_rfl) ?_ _
        obtain ⟨c, hc⟩ : ∃ c, V4.heap.size = c := ⟨_, rfl⟩
        obtain ⟨Vc, hVc⟩ : ∃ Vc, V4.alloc (Obj.cells #[.string (bs nameL), .string ⟨#[]⟩, .string ⟨#[]⟩, .string ⟨#[]⟩, .int .i64 n0, .int .i64 n1, .int .i64 n2, .int .i64 n3, .int .i64 n4, .int .i64 n5, .int .i64 n6, .int .i64 0, .int .i64 n8, .int .i64 n9, .int .i64 n10, .int .i64 0, .map (some m), .pointer none, .pointer (some ⟨R, 0, none⟩), .pointer (some ⟨mo, 0, none⟩), .pointer (some ⟨wa, 0, none⟩), .pointer none, .pointer (some ⟨PP.p, 0, none⟩), .slice none 0 0] 55) = Vc := ⟨_, rfl⟩
        have fb : Fr (fun _ => False) V4 Vc := by rw [← hVc]; exact (Fr.refl _ _).alloc _
        have zc : Vc.heap.size = c + 1 := by rw [← hVc, World.size_alloc, hc]
        have kc : Vc.heap[c]? = some (Obj.cells #[.string (bs nameL), .string ⟨#[]⟩, .string ⟨#[]⟩, .string ⟨#[]⟩, .int .i64 n0, .int .i64 n1, .int .i64 n2, .int .i64 n3, .int .i64 n4, .int .i64 n5, .int .i64 n6, .int .i64 0, .int .i64 n8, .int .i64 n9, .int .i64 n10, .int .i64 0, .map (some m), .pointer none, .pointer (some ⟨R, 0, none⟩), .pointer (some ⟨mo, 0, none⟩), .pointer (some ⟨wa, 0, none⟩), .pointer none, .pointer (some ⟨PP.p, 0, none⟩), .slice none 0 0] 55 (0, 0)) := by rw [← hVc, ← hc]; exact heap_alloc_new V4 _
        have hO := hO.fr fb fun _ _ e => e
        have hM := ownMIS_same hM (fb.block _ (ownMIS_lt hM) fun e => e)
        have hW := hW.fr fb fun _ _ e => e
        have hPu := hPu.fr fb fun _ e => e.elim
        have g4' : V4.cell? ⟨N, 4, none⟩ = some (.int .i64 n0) := (HP.out V4 hF).2.2.2.2.1
        have hF := hF.trans fb
        have g4 : (V4.alloc (Obj.cells #[.string (bs nameL), .string ⟨#[]⟩, .string ⟨#[]⟩, .string ⟨#[]⟩, .int .i64 n0, .int .i64 n1, .int .i64 n2, .int .i64 n3, .int .i64 n4, .int .i64 n5, .int .i64 n6, .int .i64 0, .int .i64 n8, .int .i64 n9, .int .i64 n10, .int .i64 0, .map (some m), .pointer none, .pointer (some ⟨R, 0, none⟩), .pointer (some ⟨mo, 0, none⟩), .pointer (some ⟨wa, 0, none⟩), .pointer none, .pointer (some ⟨PP.p, 0, none⟩), .slice none 0 0] 55)).cell? ⟨N, 4, none⟩ = some (.int .i64 n0) := by rw [hVc]; exact (HP.out Vc hF).2.2.2.2.1
        have hN1 := HNN.out
        have y0 := zz0.out
        have y1 := zz1.out
        have y2 := zz2.out
        have y3 := zz3.out
        have y4 := zz4.out
        have ym := zzm.out
        have y5 := zm.out.1
        have y6 := zm.out.2
        have HX := Lib.hid (NewX.mk (W1 := W1) (N := N) (c := c) (m := m) (R := R) (mo := mo) (wa := wa) (PP := PP) (YM := YM) (YW := YW) (Vc := Vc) (n0 := n0) (n1 := n1) (n2 := n2) (n3 := n3) (n4 := n4) (n5 := n5) (n6 := n6) (n8 := n8) (n9 := n9) (n10 := n10) hF zc kc hM hO hW hPu ⟨_, _, _, _, _, _, rO, rW, rP, by omega, by omega⟩)
        have HVc := Lib.hid (And.intro hVc hc)
        clear fb zc kc hM hO hW hPu rO rW rP hF zz0 zz1 zz2 zz3 zz4 zzm zm hN1 hVc hc hHeld y0 y1 y2 y3 y4 y5 y6 ym
        go_wp2_with fail
        rw [HVc.out.1, HVc.out.2]
        clear HVc g4 g4'
        refine (HBk.out Vc).mono ?_
        rintro r1 V6 ⟨ht, hb, rfl, hk, bb⟩
        have X := HX.out
        have f6 : Fr (fun _ => False) Vc V6 := Fr.of_below bb
        have k6 := f6.blk X.kc fun e => e
        have c17 := blk_cell k6 17
        have d17 := blk_free k6 17
        obtain ⟨V7, hV7⟩ : ∃ V7, V6.setCell ⟨c, 17, none⟩ (.pointer (some ⟨ht, 0, none⟩)) = V7 := ⟨_, rfl⟩
        have f7 : Fr (fun k => k = c) V6 V7 := by rw [← hV7]; exact (Fr.refl (fun k => k = c) V6).setCell ⟨c, 17, none⟩ rfl _
        have k7 : V7.heap[c]? = some (Obj.cells #[.string (bs nameL), .string ⟨#[]⟩, .string ⟨#[]⟩, .string ⟨#[]⟩, .int .i64 n0, .int .i64 n1, .int .i64 n2, .int .i64 n3, .int .i64 n4, .int .i64 n5, .int .i64 n6, .int .i64 0, .int .i64 n8, .int .i64 n9, .int .i64 n10, .int .i64 0, .map (some m), .pointer (some ⟨ht, 0, none⟩), .pointer (some ⟨R, 0, none⟩), .pointer (some ⟨mo, 0, none⟩), .pointer (some ⟨wa, 0, none⟩), .pointer none, .pointer (some ⟨PP.p, 0, none⟩), .slice none 0 0] 55 (0, 0)) := by rw [← hV7]; exact blk_set k6 17 _
        have fW : Fr (fun _ => False) W1 V7 := (X.hF.trans f6).trans3 f7 fun k hk e => by have := X.cW; omega
        have n11 : (V6.setCell ⟨c, 17, none⟩ (.pointer (some ⟨ht, 0, none⟩))).cell? ⟨N, 11, none⟩ = some (.int .i64 0) := by rw [hV7]; exact (HP.out V7 fW).2.2.2.2.2.2.2.2.2.2.2.1
        have H7 := Lib.hid (And.intro f6 (And.intro f7 (And.intro k7 (And.intro hk bb))))
        have HV7 := Lib.hid hV7
        clear X f6 k6 f7 k7 fW hk bb hV7
        go_wp2_with fail
        rw [HV7.out]
        refine (was_new0 V7).mono ?_
        rintro r1 V8 ⟨⟨pa, rfl⟩, bb8⟩
        obtain ⟨f6, f7, k7, hk, bb⟩ := H7.out
        have f8 : Fr (fun _ => False) V7 V8 := Fr.of_below bb8
        have k8 := f8.blk k7 fun e => e
        have c21 := blk_cell k8 21
        have d21 := blk_free k8 21
        have H8 := Lib.hid (And.intro f8 k8)
        clear f6 f7 k7 hk bb f8 k8 bb8 HV7 n11
        go_wp2_with fail
        go_ret2
        obtain ⟨f6, f7, k7, hk, bb⟩ := H7.out
        obtain ⟨f8, k8⟩ := H8.out
        exact HX.out.last hk f6 f7 f8 k8 HWW.out
      · (try clear hHeld)
        go_simp
        refine (HWa.out V2).mono ?_
        rintro r1 V3 ⟨wa, YW, rfl, hW, yW, bb⟩
        have fb : Fr (fun _ => False) V2 V3 := Fr.of_below bb
        clear bb
        have hO := hO.fr fb fun _ _ e => e
        have hW := hW.rebase (b := N) (by have := hF.size; have := HNN.out; omega)
        have rW : ∀ j, YW j → V2.heap.size ≤ j ∧ j < V3.heap.size := fun j hj => ⟨yW j hj, (hW.lt hj).2⟩
        have zz3 := Lib.hid fb.size
        have hF := hF.trans fb
        clear fb
        refine hK.out _ _ ?_ (fun hHeld => ?_)
        · exact hF
        clear hK K
        try simp only [Act.put, List.setIfInBounds_toArray, List.set_cons_zero, List.set_cons_succ]
        refine wpAnyH_two (i := 1) (j := 11) (o := { dst := some 12, op := Go.Op.makeMap 45 none, type := 45, pos := "core.go:71", after := #[], guard := none }) (o2 := { dst := some 22, op := Go.Op.call { callee := Go.Callee.value (Go.Operand.func 20), args := #[Go.Operand.tmp 21], argTypes := #[29] }, type := 49, pos := "core.go:77", after := #[{ on := 10, ground := Go.Ground.data }, { on := 9, ground := Go.Ground.chain }], guard := none }) (by kernel_rfl) rfl rfl (by rfl) (by rfl) (fun K hK => ?_) (fun K hK => ?_)
        · (try clear hHeld)
          have hmm := @run_makeMap Tryz.prog
          go_simp
          clear hmm
          obtain ⟨m, hm⟩ : ∃ m, V3.heap.size = m := ⟨_, rfl⟩
          obtain ⟨Vm, hVm⟩ : ∃ Vm, V3.alloc (Obj.map #[] 0) = Vm := ⟨_, rfl⟩
          rw [hVm, hm]
          have fb : Fr (fun _ => False) V3 Vm := by rw [← hVm]; exact (Fr.refl _ _).alloc _
          have hO := hO.fr fb fun _ _ e => e
          have hW := hW.fr fb fun _ _ e => e
          have hM : OwnMIS Vm m [] := by rw [← hVm, ← hm]; exact ⟨⟨.map [], World.ownsMap_made _ _ _ _, mapHas_empty _ _⟩, fun p hp => by cases hp⟩
          have zm := Lib.hid (show V3.heap.size = m ∧ Vm.heap.size = m + 1 from ⟨hm, by rw [← hVm, World.size_alloc, hm]⟩)
          have zzm := Lib.hid fb.size
          have hF := hF.trans fb
          clear fb
          clear hVm hm
          refine hK.out _ _ ?_ (fun hHeld => ?_)
          · exact hF
          clear hK K
          try simp only [Act.put, List.setIfInBounds_toArray, List.set_cons_zero, List.set_cons_succ]
          refine wpAnyH_one (i := 11) (o := { dst := some 22, op := Go.Op.call { callee := Go.Callee.value (Go.Operand.func 20), args := #[Go.Operand.tmp 21], argTypes := #[29] }, type := 49, pos := "core.go:77", after := #[{ on := 10, ground := Go.Ground.data }, { on := 9, ground := Go.Ground.chain }], guard := none }) (by kernel_rfl) rfl (by rfl) (fun K hK => ?_)
          (try clear hHeld)
          go_simp
          refine (HPn.out Vm).mono ?_
          rintro r1 V4 ⟨PP, rfl, hPu, bb⟩
          have fb : Fr (fun _ => False) Vm V4 := Fr.of_below bb
          clear bb
          have hO := hO.fr fb fun _ _ e => e
          have hW := hW.fr fb fun _ _ e => e
          have hM := ownMIS_same hM (fb.block _ (ownMIS_lt hM) fun e => e)
          have rP : ∀ j, PP.all j → Vm.heap.size ≤ j ∧ j < V4.heap.size := fun j hj => PB.all_lt hPu hj
          have hPu := hPu.rebase (b := N) (by have := hF.size; have := HNN.out; omega)
          have zz4 := Lib.hid fb.size
          have hF := hF.trans fb
          clear fb
          refine hK.out _ _ ?_ (fun hHeld => ?_)
          · exact hF
          clear hK K
          try simp only [Act.put, List.setIfInBounds_toArray, List.set_cons_zero, List.set_cons_succ]
          refine wpAnyH_read (i := 12) (oi := { dst := some 23, op := Go.Op.build 55 #[(0, Go.Operand.tmp 11), (2, Go.Operand.tmp 12), (4, Go.Operand.tmp 14), (5, Go.Operand.tmp 17), (6, Go.Operand.tmp 20), (8, Go.Operand.tmp 22)], type := 55, pos := "core.go:71", after := #[{ on := 0, ground := Go.Ground.data }, { on := 1, ground := Go.Ground.data }, { on := 3, ground := Go.Ground.data }, { on := 6, ground := Go.Ground.data }, { on := 9, ground := Go.Ground.data }, { on := 11, ground := Go.Ground.data }], guard := none }) ?_ rfl (by kernel_rfl) (by kernel_rfl) (by kernel_rfl) (fun _ _ _ h => h) (by rfl) (by exact hHeld) ?_ ?_
          rotate_left
          · (intro w0 hS0; (try clear hHeld); go_simp <;> (try with_reducible rfl))
          try simp only [Act.put, List.setIfInBounds_toArray, List.set_cons_zero, List.set_cons_succ]
          refine wpAnyH_one (i := 13) (o := { dst := some 24, op := Go.Op.box 55 (Go.Operand.tmp 23), type := 24, pos := "core.go:71", after := #[{ on := 12, ground := Go.Ground.data }], guard := none }) (by kernel_rfl) rfl (by rfl) (fun K hK => ?_)
          (try clear hHeld)
          go_simp
          refine hK.out _ _ ?_ (fun hHeld => ?_)
          · exact hF.alloc _
          clear hK K
          try simp only [Act.put, List.setIfInBounds_toArray, List.set_cons_zero, List.set_cons_succ]
          refine wpAnyH_read (i := 14) (oi := { dst := some 5, op := Go.Op.assign (Go.Operand.tmp 24), type := 24, pos := "core.go:71", after := #[{ on := 13, ground := Go.Ground.data }, { on := 11, ground := Go.Ground.chain }, { on := 0, ground := Go.Ground.phase }, { on := 1, ground := Go.Ground.phase }, { on := 2, ground := Go.Ground.phase }, { on := 3, ground := Go.Ground.phase }, { on := 4, ground := Go.Ground.phase }, { on := 5, ground := Go.Ground.phase }, { on := 6, ground := Go.Ground.phase }, { on := 7, ground := Go.Ground.phase }, { on := 8, ground := Go.Ground.phase }, { on := 9, ground := Go.Ground.phase }, { on := 10, ground := Go.Ground.phase }, { on := 11, ground := Go.Ground.phase }, { on := 12, ground := Go.Ground.phase }, { on := 13, ground := Go.Ground.phase }], guard := none }) ?_ rfl (by kernel_rfl) (by kernel_rfl) (by kernel_rfl) (fun _ _ _ h => h) (by rfl) (by exact hHeld) ?_ ?_
          rotate_left
          · (intro w0 hS0; (try clear hHeld); go_simp <;> (try with_reducible rfl))
          try simp only [Act.put, List.setIfInBounds_toArray, List.set_cons_zero, List.set_cons_succ]
          refine wpAnyH_done (by kernel_rfl) ?_ _
          obtain ⟨c, hc⟩ : ∃ c, V4.heap.size = c := ⟨_, rfl⟩
          obtain ⟨Vc, hVc⟩ : ∃ Vc, V4.alloc (Obj.cells #[.string (bs nameL), .string ⟨#[]⟩, .string ⟨#[]⟩, .string ⟨#[]⟩, .int .i64 n0, .int .i64 n1, .int .i64 n2, .int .i64 n3, .int .i64 n4, .int .i64 n5, .int .i64 n6, .int .i64 0, .int .i64 n8, .int .i64 n9, .int .i64 n10, .int .i64 0, .map (some m), .pointer none, .pointer (some ⟨R, 0, none⟩), .pointer (some ⟨mo, 0, none⟩), .pointer (some ⟨wa, 0, none⟩), .pointer none, .pointer (some ⟨PP.p, 0, none⟩), .slice none 0 0] 55) = Vc := ⟨_, rfl⟩
          have fb : Fr (fun _ => False) V4 Vc := by rw [← hVc]; exact (Fr.refl _ _).alloc _
          have zc : Vc.heap.size = c + 1 := by rw [← hVc, World.size_alloc, hc]
          have kc : Vc.heap[c]? = some (Obj.cells #[.string (bs nameL), .string ⟨#[]⟩, .string ⟨#[]⟩, .string ⟨#[]⟩, .int .i64 n0, .int .i64 n1, .int .i64 n2, .int .i64 n3, .int .i64 n4, .int .i64 n5, .int .i64 n6, .int .i64 0, .int .i64 n8, .int .i64 n9, .int .i64 n10, .int .i64 0, .map (some m), .pointer none, .pointer (some ⟨R, 0, none⟩), .pointer (some ⟨mo, 0, none⟩), .pointer (some ⟨wa, 0, none⟩), .pointer none, .pointer (some ⟨PP.p, 0, none⟩), .slice none 0 0] 55 (0, 0)) := by rw [← hVc, ← hc]; exact heap_alloc_new V4 _
          have hO := hO.fr fb fun _ _ e => e
          have hW := hW.fr fb fun _ _ e => e
          have hM := ownMIS_same hM (fb.block _ (ownMIS_lt hM) fun e => e)
          have hPu := hPu.fr fb fun _ e => e.elim
          have g4' : V4.cell? ⟨N, 4, none⟩ = some (.int .i64 n0) := (HP.out V4 hF).2.2.2.2.1
          have hF := hF.trans fb
          have g4 : (V4.alloc (Obj.cells #[.string (bs nameL), .string ⟨#[]⟩, .string ⟨#[]⟩, .string ⟨#[]⟩, .int .i64 n0, .int .i64 n1, .int .i64 n2, .int .i64 n3, .int .i64 n4, .int .i64 n5, .int .i64 n6, .int .i64 0, .int .i64 n8, .int .i64 n9, .int .i64 n10, .int .i64 0, .map (some m), .pointer none, .pointer (some ⟨R, 0, none⟩), .pointer (some ⟨mo, 0, none⟩), .pointer (some ⟨wa, 0, none⟩), .pointer none, .pointer (some ⟨PP.p, 0, none⟩), .slice none 0 0] 55)).cell? ⟨N, 4, none⟩ = some (.int .i64 n0) := by rw [hVc]; exact (HP.out Vc hF).2.2.2.2.1
          have hN1 := HNN.out
          have y0 := zz0.out
          have y1 := zz1.out
          have y2 := zz2.out
          have y3 := zz3.out
          have y4 := zz4.out
          have ym := zzm.out
          have y5 := zm.out.1
          have y6 := zm.out.2
          have HX := Lib.hid (NewX.mk (W1 := W1) (N := N) (c := c) (m := m) (R := R) (mo := mo) (wa := wa) (PP := PP) (YM := YM) (YW := YW) (Vc := Vc) (n0 := n0) (n1 := n1) (n2 := n2) (n3 := n3) (n4 := n4) (n5 := n5) (n6 := n6) (n8 := n8) (n9 := n9) (n10 := n10) hF zc kc hM hO hW hPu ⟨_, _, _, _, _, _, rO, rW, rP, by omega, by omega⟩)
          have HVc := Lib.hid (And.intro hVc hc)
          clear fb zc kc hM hO hW hPu rO rW rP hF zz0 zz1 zz2 zz3 zz4 zzm zm hN1 hVc hc hHeld y0 y1 y2 y3 y4 y5 y6 ym
          go_wp2_with fail
          rw [HVc.out.1, HVc.out.2]
          clear HVc g4 g4'
          refine (HBk.out Vc).mono ?_
          rintro r1 V6 ⟨ht, hb, rfl, hk, bb⟩
          have X := HX.out
          have f6 : Fr (fun _ => False) Vc V6 := Fr.of_below bb
          have k6 := f6.blk X.kc fun e => e
          have c17 := blk_cell k6 17
          have d17 := blk_free k6 17
          obtain ⟨V7, hV7⟩ : ∃ V7, V6.setCell ⟨c, 17, none⟩ (.pointer (some ⟨ht, 0, none⟩)) = V7 := ⟨_, rfl⟩
          have f7 : Fr (fun k => k = c) V6 V7 := by rw [← hV7]; exact (Fr.refl (fun k => k = c) V6).setCell ⟨c, 17, none⟩ rfl _
          have k7 : V7.heap[c]? = some (Obj.cells #[.string (bs nameL), .string ⟨#[]⟩, .string ⟨#[]⟩, .string ⟨#[]⟩, .int .i64 n0, .int .i64 n1, .int .i64 n2, .int .i64 n3, .int .i64 n4, .int .i64 n5, .int .i64 n6, .int .i64 0, .int .i64 n8, .int .i64 n9, .int .i64 n10, .int .i64 0, .map (some m), .pointer (some ⟨ht, 0, none⟩), .pointer (some ⟨R, 0, none⟩), .pointer (some ⟨mo, 0, none⟩), .pointer (some ⟨wa, 0, none⟩), .pointer none, .pointer (some ⟨PP.p, 0, none⟩), .slice none 0 0] 55 (0, 0)) := by rw [← hV7]; exact blk_set k6 17 _
          have fW : Fr (fun _ => False) W1 V7 := (X.hF.trans f6).trans3 f7 fun k hk e => by have := X.cW; omega
          have n11 : (V6.setCell ⟨c, 17, none⟩ (.pointer (some ⟨ht, 0, none⟩))).cell? ⟨N, 11, none⟩ = some (.int .i64 0) := by rw [hV7]; exact (HP.out V7 fW).2.2.2.2.2.2.2.2.2.2.2.1
          have H7 := Lib.hid (And.intro f6 (And.intro f7 (And.intro k7 (And.intro hk bb))))
          have HV7 := Lib.hid hV7
          clear X f6 k6 f7 k7 fW hk bb hV7
          go_wp2_with fail
          rw [HV7.out]
          refine (was_new0 V7).mono ?_
          rintro r1 V8 ⟨⟨pa, rfl⟩, bb8⟩
          obtain ⟨f6, f7, k7, hk, bb⟩ := H7.out
          have f8 : Fr (fun _ => False) V7 V8 := Fr.of_below bb8
          have k8 := f8.blk k7 fun e => e
          have c21 := blk_cell k8 21
          have d21 := blk_free k8 21
          have H8 := Lib.hid (And.intro f8 k8)
          clear f6 f7 k7 hk bb f8 k8 bb8 HV7 n11
          go_wp2_with fail
          go_ret2
          obtain ⟨f6, f7, k7, hk, bb⟩ := H7.out
          obtain ⟨f8, k8⟩ := H8.out
          exact HX.out.last hk f6 f7 f8 k8 HWW.out
        · (try clear hHeld)
          go_simp
          refine (HPn.out V3).mono ?_
          rintro r1 V4 ⟨PP, rfl, hPu, bb⟩
          have fb : Fr (fun _ => False) V3 V4 := Fr.of_below bb
          clear bb
          have hO := hO.fr fb fun _ _ e => e
          have hW := hW.fr fb fun _ _ e => e
          have rP : ∀ j, PP.all j → V3.heap.size ≤ j ∧ j < V4.heap.size := fun j hj => PB.all_lt hPu hj
          have hPu := hPu.rebase (b := N) (by have := hF.size; have := HNN.out; omega)
          have zz4 := Lib.hid fb.size
          have hF := hF.trans fb
          clear fb
          refine hK.out _ _ ?_ (fun hHeld => ?_)
          · exact hF
          clear hK K
          try simp only [Act.put, List.setIfInBounds_toArray, List.set_cons_zero, List.set_cons_succ]
          refine wpAnyH_one (i := 1) (o := { dst := some 12, op := Go.Op.makeMap 45 none, type := 45, pos := "core.go:71", after := #[], guard := none }) (by kernel_rfl) rfl (by rfl) (fun K hK => ?_)
          (try clear hHeld)
          have hmm := @run_makeMap Tryz.prog
          go_simp
          clear hmm
          obtain ⟨m, hm⟩ : ∃ m, V4.heap.size = m := ⟨_, rfl⟩
          obtain ⟨Vm, hVm⟩ : ∃ Vm, V4.alloc (Obj.map #[] 0) = Vm := ⟨_, rfl⟩
          rw [hVm, hm]
          have fb : Fr (fun _ => False) V4 Vm := by rw [← hVm]; exact (Fr.refl _ _).alloc _
          have hO := hO.fr fb fun _ _ e => e
          have hW := hW.fr fb fun _ _ e => e
          have hPu := hPu.fr fb fun _ e => e.elim
          have hM : OwnMIS Vm m [] := by rw [← hVm, ← hm]; exact ⟨⟨.map [], World.ownsMap_made _ _ _ _, mapHas_empty _ _⟩, fun p hp => by cases hp⟩
          have zm := Lib.hid (show V4.heap.size = m ∧ Vm.heap.size = m + 1 from ⟨hm, by rw [← hVm, World.size_alloc, hm]⟩)
          have zzm := Lib.hid fb.size
          have hF := hF.trans fb
          clear fb
          clear hVm hm
          refine hK.out _ _ ?_ (fun hHeld => ?_)
          · exact hF
          clear hK K
          try simp only [Act.put, List.setIfInBounds_toArray, List.set_cons_zero, List.set_cons_succ]
          refine wpAnyH_read (i := 12) (oi := { dst := some 23, op := Go.Op.build 55 #[(0, Go.Operand.tmp 11), (2, Go.Operand.tmp 12), (4, Go.Operand.tmp 14), (5, Go.Operand.tmp 17), (6, Go.Operand.tmp 20), (8, Go.Operand.tmp 22)], type := 55, pos := "core.go:71", after := #[{ on := 0, ground := Go.Ground.data }, { on := 1, ground := Go.Ground.data }, { on := 3, ground := Go.Ground.data }, { on := 6, ground := Go.Ground.data }, { on := 9, ground := Go.Ground.data }, { on := 11, ground := Go.Ground.data }], guard := none }) ?_ rfl (by kernel_rfl) (by kernel_rfl) (by kernel_rfl) (fun _ _ _ h => h) (by rfl) (by exact hHeld) ?_ ?_
          rotate_left
          · (intro w0 hS0; (try clear hHeld); go_simp <;> (try with_reducible rfl))
          try simp only [Act.put, List.setIfInBounds_toArray, List.set_cons_zero, List.set_cons_succ]
          refine wpAnyH_one (i := 13) (o := { dst := some 24, op := Go.Op.box 55 (Go.Operand.tmp 23), type := 24, pos := "core.go:71", after := #[{ on := 12, ground := Go.Ground.data }], guard := none }) (by kernel_rfl) rfl (by rfl) (fun K hK => ?_)
          (try clear hHeld)
          go_simp
          refine hK.out _ _ ?_ (fun hHeld => ?_)
          · exact hF.alloc _
          clear hK K
          try simp only [Act.put, List.setIfInBounds_toArray, List.set_cons_zero, List.set_cons_succ]
          refine wpAnyH_read (i := 14) (oi := { dst := some 5, op := Go.Op.assign (Go.Operand.tmp 24), type := 24, pos := "core.go:71", after := #[{ on := 13, ground := Go.Ground.data }, { on := 11, ground := Go.Ground.chain }, { on := 0, ground := Go.Ground.phase }, { on := 1, ground := Go.Ground.phase }, { on := 2, ground := Go.Ground.phase }, { on := 3, ground := Go.Ground.phase }, { on := 4, ground := Go.Ground.phase }, { on := 5, ground := Go.Ground.phase }, { on := 6, ground := Go.Ground.phase }, { on := 7, ground := Go.Ground.phase }, { on := 8, ground := Go.Ground.phase }, { on := 9, ground := Go.Ground.phase }, { on := 10, ground := Go.Ground.phase }, { on := 11, ground := Go.Ground.phase }, { on := 12, ground := Go.Ground.phase }, { on := 13, ground := Go.Ground.phase }], guard := none }) ?_ rfl (by kernel_rfl) (by kernel_rfl) (by kernel_rfl) (fun _ _ _ h => h) (by rfl) (by exact hHeld) ?_ ?_
          rotate_left
          · (intro w0 hS0; (try clear hHeld); go_simp <;> (try with_reducible rfl))
          try simp only [Act.put, List.setIfInBounds_toArray, List.set_cons_zero, List.set_cons_succ]
          refine wpAnyH_done (by kernel_rfl) ?_ _
          obtain ⟨c, hc⟩ : ∃ c, Vm.heap.size = c := ⟨_, rfl⟩
          obtain ⟨Vc, hVc⟩ : ∃ Vc, Vm.alloc (Obj.cells #[.string (bs nameL), .string ⟨#[]⟩, .string ⟨#[]⟩, .string ⟨#[]⟩, .int .i64 n0, .int .i64 n1, .int .i64 n2, .int .i64 n3, .int .i64 n4, .int .i64 n5, .int .i64 n6, .int .i64 0, .int .i64 n8, .int .i64 n9, .int .i64 n10, .int .i64 0, .map (some m), .pointer none, .pointer (some ⟨R, 0, none⟩), .pointer (some ⟨mo, 0, none⟩), .pointer (some ⟨wa, 0, none⟩), .pointer none, .pointer (some ⟨PP.p, 0, none⟩), .slice none 0 0] 55) = Vc := ⟨_, rfl⟩
          have fb : Fr (fun _ => False) Vm Vc := by rw [← hVc]; exact (Fr.refl _ _).alloc _
          have zc : Vc.heap.size = c + 1 := by rw [← hVc, World.size_alloc, hc]
          have kc : Vc.heap[c]? = some (Obj.cells #[.string (bs nameL), .string ⟨#[]⟩, .string ⟨#[]⟩, .string ⟨#[]⟩, .int .i64 n0, .int .i64 n1, .int .i64 n2, .int .i64 n3, .int .i64 n4, .int .i64 n5, .int .i64 n6, .int .i64 0, .int .i64 n8, .int .i64 n9, .int .i64 n10, .int .i64 0, .map (some m), .pointer none, .pointer (some ⟨R, 0, none⟩), .pointer (some ⟨mo, 0, none⟩), .pointer (some ⟨wa, 0, none⟩), .pointer none, .pointer (some ⟨PP.p, 0, none⟩), .slice none 0 0] 55 (0, 0)) := by rw [← hVc, ← hc]; exact heap_alloc_new Vm _
          have hO := hO.fr fb fun _ _ e => e
          have hW := hW.fr fb fun _ _ e => e
          have hPu := hPu.fr fb fun _ e => e.elim
          have hM := ownMIS_same hM (fb.block _ (ownMIS_lt hM) fun e => e)
          have g4' : Vm.cell? ⟨N, 4, none⟩ = some (.int .i64 n0) := (HP.out Vm hF).2.2.2.2.1
          have hF := hF.trans fb
          have g4 : (Vm.alloc (Obj.cells #[.string (bs nameL), .string ⟨#[]⟩, .string ⟨#[]⟩, .string ⟨#[]⟩, .int .i64 n0, .int .i64 n1, .int .i64 n2, .int .i64 n3, .int .i64 n4, .int .i64 n5, .int .i64 n6, .int .i64 0, .int .i64 n8, .int .i64 n9, .int .i64 n10, .int .i64 0, .map (some m), .pointer none, .pointer (some ⟨R, 0, none⟩), .pointer (some ⟨mo, 0, none⟩), .pointer (some ⟨wa, 0, none⟩), .pointer none, .pointer (some ⟨PP.p, 0, none⟩), .slice none 0 0] 55)).cell? ⟨N, 4, none⟩ = some (.int .i64 n0) := by rw [hVc]; exact (HP.out Vc hF).2.2.2.2.1
          have hN1 := HNN.out
          have y0 := zz0.out
          have y1 := zz1.out
          have y2 := zz2.out
          have y3 := zz3.out
          have y4 := zz4.out
          have ym := zzm.out
          have y5 := zm.out.1
          have y6 := zm.out.2
          have HX := Lib.hid (NewX.mk (W1 := W1) (N := N) (c := c) (m := m) (R := R) (mo := mo) (wa := wa) (PP := PP) (YM := YM) (YW := YW) (Vc := Vc) (n0 := n0) (n1 := n1) (n2 := n2) (n3 := n3) (n4 := n4) (n5 := n5) (n6 := n6) (n8 := n8) (n9 := n9) (n10 := n10) hF zc kc hM hO hW hPu ⟨_, _, _, _, _, _, rO, rW, rP, by omega, by omega⟩)
          have HVc := Lib.hid (And.intro hVc hc)
          clear fb zc kc hM hO hW hPu rO rW rP hF zz0 zz1 zz2 zz3 zz4 zzm zm hN1 hVc hc hHeld y0 y1 y2 y3 y4 y5 y6 ym
          go_wp2_with fail
          rw [HVc.out.1, HVc.out.2]
          clear HVc g4 g4'
          refine (HBk.out Vc).mono ?_
          rintro r1 V6 ⟨ht, hb, rfl, hk, bb⟩
          have X := HX.out
          have f6 : Fr (fun _ => False) Vc V6 := Fr.of_below bb
          have k6 := f6.blk X.kc fun e => e
          have c17 := blk_cell k6 17
          have d17 := blk_free k6 17
          obtain ⟨V7, hV7⟩ : ∃ V7, V6.setCell ⟨c, 17, none⟩ (.pointer (some ⟨ht, 0, none⟩)) = V7 := ⟨_, rfl⟩
          have f7 : Fr (fun k => k = c) V6 V7 := by rw [← hV7]; exact (Fr.refl (fun k => k = c) V6).setCell ⟨c, 17, none⟩ rfl _
          have k7 : V7.heap[c]? = some (Obj.cells #[.string (bs nameL), .string ⟨#[]⟩, .string ⟨#[]⟩, .string ⟨#[]⟩, .int .i64 n0, .int .i64 n1, .int .i64 n2, .int .i64 n3, .int .i64 n4, .int .i64 n5, .int .i64 n6, .int .i64 0, .int .i64 n8, .int .i64 n9, .int .i64 n10, .int .i64 0, .map (some m), .pointer (some ⟨ht, 0, none⟩), .pointer (some ⟨R, 0, none⟩), .pointer (some ⟨mo, 0, none⟩), .pointer (some ⟨wa, 0, none⟩), .pointer none, .pointer (some ⟨PP.p, 0, none⟩), .slice none 0 0] 55 (0, 0)) := by rw [← hV7]; exact blk_set k6 17 _
          have fW : Fr (fun _ => False) W1 V7 := (X.hF.trans f6).trans3 f7 fun k hk e => by have := X.cW; omega
          have n11 : (V6.setCell ⟨c, 17, none⟩ (.pointer (some ⟨ht, 0, none⟩))).cell? ⟨N, 11, none⟩ = some (.int .i64 0) := by rw [hV7]; exact (HP.out V7 fW).2.2.2.2.2.2.2.2.2.2.2.1
          have H7 := Lib.hid (And.intro f6 (And.intro f7 (And.intro k7 (And.intro hk bb))))
          have HV7 := Lib.hid hV7
          clear X f6 k6 f7 k7 fW hk bb hV7
          go_wp2_with fail
          rw [HV7.out]
          refine (was_new0 V7).mono ?_
          rintro r1 V8 ⟨⟨pa, rfl⟩, bb8⟩
          obtain ⟨f6, f7, k7, hk, bb⟩ := H7.out
          have f8 : Fr (fun _ => False) V7 V8 := Fr.of_below bb8
          have k8 := f8.blk k7 fun e => e
          have c21 := blk_cell k8 21
          have d21 := blk_free k8 21
          have H8 := Lib.hid (And.intro f8 k8)
          clear f6 f7 k7 hk bb f8 k8 bb8 HV7 n11
          go_wp2_with fail
          go_ret2
          obtain ⟨f6, f7, k7, hk, bb⟩ := H7.out
          obtain ⟨f8, k8⟩ := H8.out
          exact HX.out.last hk f6 f7 f8 k8 HWW.out
end Go.Proofs.YtpbobonddocgkaaGreatDoor
end
