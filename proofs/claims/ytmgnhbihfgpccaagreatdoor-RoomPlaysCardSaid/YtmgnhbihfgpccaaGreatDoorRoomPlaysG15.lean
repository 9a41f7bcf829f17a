/- Texts of this proof, one behind the other. -/
import Derived.Test.YtmgnhbihfgpccaaGreatDoorRoomPlaysG14
import Derived.Test.YtmgnhbihfgpccaaGreatDoorRoomPlaysG5
import Derived.Test.YtmgnhbihfgpccaaGreatDoorRoomPlaysG7
import Derived.Test.YtmgnhbihfgpccaaGreatDoorRoomPlaysG6
set_option linter.unusedVariables false
set_option linter.unusedSimpArgs false
section
/- Layer 19: the document's Drop. -/
namespace Go.Proofs.YtmgnhbihfgpccaaGreatDoor
open Go Go.RowKit

/-- a member taken away, for the document -/
def dropX (x : Rx) (id : Int) : Rx := if 0 ≤ atM x.L id then { x with L := x.L.take (atM x.L id).toNat ++ x.L.drop ((atM x.L id).toNat + 1) } else x
theorem ownM_of {base : Nat} {W : World} {v : Value} {xs : List Mem} {n : Nat} {cs : List Value} (h : W.ownsRow base 38 3 v n cs) (hn : n = xs.length) (hc : cs = xs.flatMap encM) : OwnM base W v xs := by
  subst hn; subst hc; exact h
set_option maxRecDepth 100000 in
set_option maxHeartbeats 16000000 in
theorem refDrop_any {base B : Nat} {q : RxV} {x : Rx} {w : World} (h : RxAt base B q x w) (id : Int) (hl : x.L.length ≤ 100000) :
    Calls Tryz.prog 33 #[.pointer (some ⟨B, 0, none⟩), .int .i64 id] w fun e w' => e = .returned (.bool (decide (0 ≤ atM x.L id))) ∧ XW base B q (dropX x id) w w' := by
  have HP := Lib.hid (refAt_any h id (by omega))
  obtain ⟨x', hx'⟩ : ∃ x', dropX x id = x' := ⟨_, rfl⟩
  rw [hx']
  have H := Lib.hid (And.intro h (And.intro hx' hl))
  by_cases ha : 0 ≤ atM x.L id
  · obtain ⟨i, hi⟩ : ∃ i : Nat, atM x.L id = i := ⟨(atM x.L id).toNat, by omega⟩
    have hil := (atM_yes hi).1
    have hr : dropX x id = { x with L := x.L.take i ++ x.L.drop (i + 1) } := by unfold dropX; rw [if_pos ha, hi]; rfl
    have HR := Lib.hid hr
    rw [decide_eq_true ha]
    rw [hi] at HP
    obtain ⟨A, c, hv⟩ := ownM_slice h.2.1
    have ho := h.2.1
    rw [hv] at ho
    obtain ⟨i0, hi0, hz0, hz1, hz2⟩ := info_parts Tryz.infoMb
    obtain ⟨g, g1, o1, A1, c1, A2, c2, W2, W3, rfl, hnc, hs1, hs2, hr1, hr2, o3, f2, f3⟩ := del_runs_g (P := Tryz.prog) 43 i0 _ 16 Tryz.underlying43 hi0 hz0 hz1 hz2 rfl ho (fun u hu => encM_one hu) (by omega) (by decide) hil
    have o3' : OwnM w.heap.size W3 (.slice A2 (x.L.length - 1) c2) (x.L.take i ++ x.L.drop (i + 1)) := ownM_of o3 (by rw [List.length_append, List.length_take, List.length_drop]; omega) (by rw [List.flatMap_append, flat_take, flat_drop])
    obtain ⟨n, hn⟩ : ∃ n, x.L.length = n := ⟨_, rfl⟩
    rw [hn] at hr2 hnc hs1 hs2 o3' hil hl
    obtain ⟨W1, hW1⟩ : ∃ W1, (w.alloc (.cells #[] 38)).drew = W1 := ⟨_, rfl⟩
    rw [hW1] at hr1
    have HW := Lib.hid hW1
    have hvn : q.vl = .slice (some ⟨g, 0, none⟩) n c := by rw [← hn]; exact hv
    have d0 : w.drew.cell? ⟨B, 2, none⟩ = some (.slice (some ⟨g, 0, none⟩) n c) := by rw [← hvn]; exact blk_cell h.1 2
    have d1 : W1.cell? ⟨B, 2, none⟩ = some (.slice (some ⟨g, 0, none⟩) n c) := by rw [← hvn, ← hW1]; exact blk_cell (blk_alloc h.1 _) 2
    have d2 : W2.cell? ⟨B, 2, none⟩ = some (.slice (some ⟨g, 0, none⟩) n c) := by rw [← hvn]; exact blk_cell (f2.blk h.1 fun e => e) 2
    have k3 := f3.blk h.1 fun e => e
    have d3 : W3.cell? ⟨B, 2, none⟩ = some (.slice (some ⟨g, 0, none⟩) n c) := by rw [← hvn]; exact blk_cell k3 2
    have g3 := blk_free k3 2
    obtain ⟨m3, hm3⟩ : ∃ m3, n - 1 = m3 := ⟨_, rfl⟩
    obtain ⟨m, hm⟩ : ∃ m, n - (i + 1) = m := ⟨_, rfl⟩
    obtain ⟨m2, hm2⟩ : ∃ m2, c - (i + 1) = m2 := ⟨_, rfl⟩
    rw [hm, hm2] at hr2 hs2
    rw [hm3] at hr2 o3'
    obtain ⟨W4, hW4⟩ : ∃ W4, W3.setCell ⟨B, 2, none⟩ (.slice A2 m3 c2) = W4 := ⟨_, rfl⟩
    have f34 : Fr (fun k => k = B) W3 W4 := by rw [← hW4]; exact Fr.setCell (X := fun k => k = B) (Fr.refl _ W3) ⟨B, 2, none⟩ rfl _
    have f14 : Fr (fun k => k = B) w W4 := (f3.mono fun _ _ e => e.elim).trans3 f34 fun _ _ e => e
    have hBw : B < w.heap.size := blk_lt h.1
    have h4 : RxAt base B { q with vl := .slice A2 m3 c2 } { x with L := x.L.take i ++ x.L.drop (i + 1) } W4 := h.toL (ownM_base (ownM_kept o3' fun g hg => f34.block g (o3'.lt g hg).2 fun e => by have := (o3'.lt g hg).1; omega) h.sz) (by rw [← hW4]; exact blk_set k3 2 _) (f14.mono fun k _ e => .inl e)
    have hx4 : XW base B q x' w W4 := by
      rw [← hx', HR.out]
      refine ⟨_, h4, f14.mono fun k _ e => .inl e, fun k hk hlt => ?_⟩
      rcases hk with e | e | e | e
      · exact .inl e
      · have := (o3'.lt k e).1; omega
      · exact .inr (.inr (.inl e))
      · exact .inr (.inr (.inr e))
    have HX := Lib.hid hx4
    have HX4 := Lib.hid hW4
    have hp1 : ¬ ((i : Int) < 0) := by omega
    have hlt : IntKind.i64.wrap ((i : Int) + 1) = (i : Int) + 1 := IntWalk.i64_in _ ⟨by omega, by omega⟩
    clear h hx' ha hi hr hv ho hi0 hz0 hz1 hz2 o3 o3' f2 f3 k3 f34 f14 hBw h4 hx4 hn hm hm2 hm3 hvn hW1 hW4
    go_enter Tryz.func33, Tryz.ntmps33
    go_wp2_with fail
    refine HP.out.mono ?_
    rintro e w' ⟨rfl, rfl⟩
    go_wp2_with fail
    refine wp_region_z (S := fun V => V.cell? ⟨B, 2, none⟩ = some (.slice (some ⟨g, 0, none⟩) n c)) (z := 19) (by kernel_rfl) (by exact d0) (fun hHeld => ?_)
    refine wpAnyZ_read (i := 0) (oi := { dst := some 11, op := Go.Op.move (Go.Operand.tmp 0), type := 27, pos := "ref.go:53", after := #[], guard := none }) ?_ rfl (by kernel_rfl) (by kernel_rfl) (by kernel_rfl) (by kernel_rfl) (fun _ _ _ h => h) (by rfl) (by exact hHeld) ?_ ?_
    rotate_left
    · (intro w0 hS0; go_simp <;> (try with_reducible rfl))
    try simp only [Act.put, List.setIfInBounds_toArray, List.set_cons_zero, List.set_cons_succ]
    refine wpAnyZ_read (i := 2) (oi := { dst := some 13, op := Go.Op.move (Go.Operand.tmp 0), type := 27, pos := "ref.go:53", after := #[], guard := none }) ?_ rfl (by kernel_rfl) (by kernel_rfl) (by kernel_rfl) (by kernel_rfl) (fun _ _ _ h => h) (by rfl) (by exact hHeld) ?_ ?_
    rotate_left
    · (intro w0 hS0; go_simp <;> (try with_reducible rfl))
    try simp only [Act.put, List.setIfInBounds_toArray, List.set_cons_zero, List.set_cons_succ]
    refine wpAnyZ_read (i := 3) (oi := { dst := some 14, op := Go.Op.nilCheck (Go.Operand.tmp 13), type := 0, pos := "ref.go:53", after := #[{ on := 2, ground := Go.Ground.data }], guard := none }) ?_ rfl (by kernel_rfl) (by kernel_rfl) (by kernel_rfl) (by kernel_rfl) (fun _ _ _ h => h) (by rfl) (by exact hHeld) ?_ ?_
    rotate_left
    · (intro w0 hS0; go_simp <;> (try with_reducible rfl))
    try simp only [Act.put, List.setIfInBounds_toArray, List.set_cons_zero, List.set_cons_succ]
    refine wpAnyZ_read (i := 4) (oi := { dst := some 15, op := Go.Op.fieldAddr 46 (Go.Operand.tmp 14) 2, type := 0, pos := "ref.go:53", after := #[{ on := 3, ground := Go.Ground.data }], guard := none }) ?_ rfl (by kernel_rfl) (by kernel_rfl) (by kernel_rfl) (by kernel_rfl) (fun _ _ _ h => h) (by rfl) (by exact hHeld) ?_ ?_
    rotate_left
    · (intro w0 hS0; go_simp <;> (try with_reducible rfl))
    try simp only [Act.put, List.setIfInBounds_toArray, List.set_cons_zero, List.set_cons_succ]
    refine wpAnyZ_read (i := 6) (oi := { dst := some 17, op := Go.Op.move (Go.Operand.tmp 5), type := 3, pos := "ref.go:53", after := #[], guard := none }) ?_ rfl (by kernel_rfl) (by kernel_rfl) (by kernel_rfl) (by kernel_rfl) (fun _ _ _ h => h) (by rfl) (by exact hHeld) ?_ ?_
    rotate_left
    · (intro w0 hS0; go_simp <;> (try with_reducible rfl))
    try simp only [Act.put, List.setIfInBounds_toArray, List.set_cons_zero, List.set_cons_succ]
    refine wpAnyZ_read (i := 9) (oi := { dst := some 20, op := Go.Op.move (Go.Operand.tmp 0), type := 27, pos := "ref.go:53", after := #[], guard := none }) ?_ rfl (by kernel_rfl) (by kernel_rfl) (by kernel_rfl) (by kernel_rfl) (fun _ _ _ h => h) (by rfl) (by exact hHeld) ?_ ?_
    rotate_left
    · (intro w0 hS0; go_simp <;> (try with_reducible rfl))
    try simp only [Act.put, List.setIfInBounds_toArray, List.set_cons_zero, List.set_cons_succ]
    refine wpAnyZ_read (i := 10) (oi := { dst := some 21, op := Go.Op.nilCheck (Go.Operand.tmp 20), type := 0, pos := "ref.go:53", after := #[{ on := 9, ground := Go.Ground.data }], guard := none }) ?_ rfl (by kernel_rfl) (by kernel_rfl) (by kernel_rfl) (by kernel_rfl) (fun _ _ _ h => h) (by rfl) (by exact hHeld) ?_ ?_
    rotate_left
    · (intro w0 hS0; go_simp <;> (try with_reducible rfl))
    try simp only [Act.put, List.setIfInBounds_toArray, List.set_cons_zero, List.set_cons_succ]
    refine wpAnyZ_read (i := 11) (oi := { dst := some 22, op := Go.Op.fieldAddr 46 (Go.Operand.tmp 21) 2, type := 0, pos := "ref.go:53", after := #[{ on := 10, ground := Go.Ground.data }], guard := none }) ?_ rfl (by kernel_rfl) (by kernel_rfl) (by kernel_rfl) (by kernel_rfl) (fun _ _ _ h => h) (by rfl) (by exact hHeld) ?_ ?_
    rotate_left
    · (intro w0 hS0; go_simp <;> (try with_reducible rfl))
    try simp only [Act.put, List.setIfInBounds_toArray, List.set_cons_zero, List.set_cons_succ]
    refine wpAnyZ_read (i := 13) (oi := { dst := some 24, op := Go.Op.move (Go.Operand.tmp 5), type := 3, pos := "ref.go:53", after := #[], guard := none }) ?_ rfl (by kernel_rfl) (by kernel_rfl) (by kernel_rfl) (by kernel_rfl) (fun _ _ _ h => h) (by rfl) (by exact hHeld) ?_ ?_
    rotate_left
    · (intro w0 hS0; go_simp <;> (try with_reducible rfl))
    try simp only [Act.put, List.setIfInBounds_toArray, List.set_cons_zero, List.set_cons_succ]
    refine wpAnyZ_read (i := 14) (oi := { dst := some 25, op := Go.Op.binOp Go.BinOp.add 3 (Go.Operand.tmp 24) (Go.Operand.const (Go.Value.int Go.IntKind.i64 1)) 3, type := 3, pos := "ref.go:53", after := #[{ on := 13, ground := Go.Ground.data }], guard := none }) ?_ rfl (by kernel_rfl) (by kernel_rfl) (by kernel_rfl) (by kernel_rfl) (fun _ _ _ h => h) (by rfl) (by exact hHeld) ?_ ?_
    rotate_left
    · (intro w0 hS0; go_simp <;> (try with_reducible rfl))
    try simp only [Act.put, List.setIfInBounds_toArray, List.set_cons_zero, List.set_cons_succ]
    refine wpAnyZ_read (i := 5) (oi := { dst := some 16, op := Go.Op.load 43 (Go.Operand.tmp 15), type := 43, pos := "ref.go:53", after := #[{ on := 4, ground := Go.Ground.data }], guard := none }) ?_ rfl (by kernel_rfl) (by kernel_rfl) (by kernel_rfl) (by kernel_rfl) (fun _ _ _ h => h) (by rfl) (by exact hHeld) ?_ ?_
    rotate_left
    · (intro w0 hS0; go_simp <;> (try with_reducible rfl))
    try simp only [Act.put, List.setIfInBounds_toArray, List.set_cons_zero, List.set_cons_succ]
    refine wpAnyZ_read (i := 7) (oi := { dst := some 18, op := Go.Op.slice 43 (Go.Operand.tmp 16) none (some (Go.Operand.tmp 17)) none, type := 43, pos := "ref.go:53", after := #[{ on := 5, ground := Go.Ground.data }, { on := 6, ground := Go.Ground.data }], guard := none }) ?_ rfl (by kernel_rfl) (by kernel_rfl) (by kernel_rfl) (by kernel_rfl) (fun _ _ _ h => h) (by rfl) (by exact hHeld) ?_ ?_
    rotate_left
    · (intro w0 hS0; go_simp <;> (try with_reducible rfl))
    try simp only [Act.put, List.setIfInBounds_toArray, List.set_cons_zero, List.set_cons_succ]
    refine wpAnyZ_read (i := 12) (oi := { dst := some 23, op := Go.Op.load 43 (Go.Operand.tmp 22), type := 43, pos := "ref.go:53", after := #[{ on := 11, ground := Go.Ground.data }], guard := none }) ?_ rfl (by kernel_rfl) (by kernel_rfl) (by kernel_rfl) (by kernel_rfl) (fun _ _ _ h => h) (by rfl) (by exact hHeld) ?_ ?_
    rotate_left
    · (intro w0 hS0; go_simp <;> (try with_reducible rfl))
    try simp only [Act.put, List.setIfInBounds_toArray, List.set_cons_zero, List.set_cons_succ]
    refine wpAnyZ_read (i := 15) (oi := { dst := some 26, op := Go.Op.slice 43 (Go.Operand.tmp 23) (some (Go.Operand.tmp 25)) none none, type := 43, pos := "ref.go:53", after := #[{ on := 12, ground := Go.Ground.data }, { on := 14, ground := Go.Ground.data }], guard := none }) ?_ rfl (by kernel_rfl) (by kernel_rfl) (by kernel_rfl) (by kernel_rfl) (fun _ _ _ h => h) (by rfl) (by exact hHeld) ?_ ?_
    rotate_left
    · (intro w0 hS0; go_simp <;> (try with_reducible rfl))
    try simp only [Act.put, List.setIfInBounds_toArray, List.set_cons_zero, List.set_cons_succ]
    refine wpAnyZ_one (i := 1) (o := { dst := some 12, op := Go.Op.buildSlice 43 0 #[], type := 43, pos := "ref.go:53", after := #[], guard := none }) (by kernel_rfl) rfl (by rfl) (fun K hK => ?_)
    go_simp
    rw [HW.out]
    refine hK.out _ _ ?_ (fun hHeld => ?_)
    · exact d1
    clear hK K
    try simp only [Act.put, List.setIfInBounds_toArray, List.set_cons_zero, List.set_cons_succ]
    refine wpAnyZ_one (i := 8) (o := { dst := some 19, op := Go.Op.call { callee := Go.Callee.builtin Go.Builtin.append, args := #[Go.Operand.tmp 12, Go.Operand.tmp 18], argTypes := #[43, 43] }, type := 43, pos := "ref.go:53", after := #[{ on := 1, ground := Go.Ground.data }, { on := 7, ground := Go.Ground.data }], guard := none }) (by kernel_rfl) rfl (by rfl) (fun K hK => ?_)
    refine wp_app_run _ _ _ _ rfl hr1 ?_
    refine hK.out _ _ ?_ (fun hHeld => ?_)
    · exact d2
    clear hK K
    try simp only [Act.put, List.setIfInBounds_toArray, List.set_cons_zero, List.set_cons_succ]
    refine wpAnyZ_one (i := 16) (o := { dst := some 27, op := Go.Op.call { callee := Go.Callee.builtin Go.Builtin.append, args := #[Go.Operand.tmp 19, Go.Operand.tmp 26], argTypes := #[43, 43] }, type := 43, pos := "ref.go:53", after := #[{ on := 8, ground := Go.Ground.data }, { on := 15, ground := Go.Ground.data }, { on := 8, ground := Go.Ground.chain }], guard := none }) (by kernel_rfl) rfl (by rfl) (fun K hK => ?_)
    refine wp_app_run _ _ _ _ rfl hr2 ?_
    refine hK.out _ _ ?_ (fun hHeld => ?_)
    · exact d3
    clear hK K
    try simp only [Act.put, List.setIfInBounds_toArray, List.set_cons_zero, List.set_cons_succ]
    refine wpAnyZ_one (i := 17) (o := { dst := some 28, op := Go.Op.nilCheck (Go.Operand.tmp 11), type := 0, pos := "ref.go:53", after := #[{ on := 0, ground := Go.Ground.data }, { on := 0, ground := Go.Ground.phase }, { on := 1, ground := Go.Ground.phase }, { on := 2, ground := Go.Ground.phase }, { on := 3, ground := Go.Ground.phase }, { on := 4, ground := Go.Ground.phase }, { on := 5, ground := Go.Ground.phase }, { on := 6, ground := Go.Ground.phase }, { on := 7, ground := Go.Ground.phase }, { on := 8, ground := Go.Ground.phase }, { on := 9, ground := Go.Ground.phase }, { on := 10, ground := Go.Ground.phase }, { on := 11, ground := Go.Ground.phase }, { on := 12, ground := Go.Ground.phase }, { on := 13, ground := Go.Ground.phase }, { on := 14, ground := Go.Ground.phase }, { on := 15, ground := Go.Ground.phase }, { on := 16, ground := Go.Ground.phase }], guard := none }) (by kernel_rfl) rfl (by rfl) (fun K hK => ?_)
    go_simp
    refine hK.out _ _ ?_ (fun hHeld => ?_)
    · (first | assumption | trivial)
    clear hK K
    try simp only [Act.put, List.setIfInBounds_toArray, List.set_cons_zero, List.set_cons_succ]
    refine wpAnyZ_read (i := 18) (oi := { dst := some 29, op := Go.Op.fieldAddr 46 (Go.Operand.tmp 28) 2, type := 0, pos := "ref.go:53", after := #[{ on := 17, ground := Go.Ground.data }, { on := 0, ground := Go.Ground.phase }, { on := 1, ground := Go.Ground.phase }, { on := 2, ground := Go.Ground.phase }, { on := 3, ground := Go.Ground.phase }, { on := 4, ground := Go.Ground.phase }, { on := 5, ground := Go.Ground.phase }, { on := 6, ground := Go.Ground.phase }, { on := 7, ground := Go.Ground.phase }, { on := 8, ground := Go.Ground.phase }, { on := 9, ground := Go.Ground.phase }, { on := 10, ground := Go.Ground.phase }, { on := 11, ground := Go.Ground.phase }, { on := 12, ground := Go.Ground.phase }, { on := 13, ground := Go.Ground.phase }, { on := 14, ground := Go.Ground.phase }, { on := 15, ground := Go.Ground.phase }, { on := 16, ground := Go.Ground.phase }], guard := none }) ?_ rfl (by kernel_rfl) (by kernel_rfl) (by kernel_rfl) (by kernel_rfl) (fun _ _ _ h => h) (by rfl) (by exact hHeld) ?_ ?_
    rotate_left
    · (intro w0 hS0; go_simp <;> (try with_reducible rfl))
    try simp only [Act.put, List.setIfInBounds_toArray, List.set_cons_zero, List.set_cons_succ]
    refine wpAnyZ_last (o := { dst := none, op := Go.Op.store 43 (Go.Operand.tmp 29) (Go.Operand.tmp 27), type := 0, pos := "ref.go:53", after := #[{ on := 18, ground := Go.Ground.data }, { on := 16, ground := Go.Ground.data }, { on := 16, ground := Go.Ground.chain }, { on := 0, ground := Go.Ground.phase }, { on := 1, ground := Go.Ground.phase }, { on := 2, ground := Go.Ground.phase }, { on := 3, ground := Go.Ground.phase }, { on := 4, ground := Go.Ground.phase }, { on := 5, ground := Go.Ground.phase }, { on := 6, ground := Go.Ground.phase }, { on := 7, ground := Go.Ground.phase }, { on := 8, ground := Go.Ground.phase }, { on := 9, ground := Go.Ground.phase }, { on := 10, ground := Go.Ground.phase }, { on := 11, ground := Go.Ground.phase }, { on := 12, ground := Go.Ground.phase }, { on := 13, ground := Go.Ground.phase }, { on := 14, ground := Go.Ground.phase }, { on := 15, ground := Go.Ground.phase }, { on := 16, ground := Go.Ground.phase }], guard := none }) (by kernel_rfl) rfl (by rfl) (fun K hK => ?_)
    go_simp
    refine hK.out _ _ ?_
    clear hK K
    try simp only [Act.put, List.setIfInBounds_toArray, List.set_cons_zero, List.set_cons_succ]
    refine wpAnyZ_done (by kernel_rfl) ?_ _
    rw [HX4.out]
    go_wp2_with fail
    go_ret
    exact ⟨rfl, HX.out⟩
  · have hr : dropX x id = x := by unfold dropX; rw [if_neg ha]
    have HR := Lib.hid hr
    rw [decide_eq_false ha]
    obtain ⟨a, haa⟩ : ∃ a, atM x.L id = a := ⟨_, rfl⟩
    rw [haa] at HP ha
    clear h hx' haa hr hl
    go_enter Tryz.func33, Tryz.ntmps33
    go_wp2_with fail
    refine HP.out.mono ?_
    rintro e w1 ⟨rfl, rfl⟩
    go_wp2_with fail
    go_ret
    exact ⟨rfl, by rw [← H.out.2.1, HR.out]; exact XW.same H.out.1 (Below.refl _ _)⟩
end Go.Proofs.YtmgnhbihfgpccaaGreatDoor
end
section
/- ValidNames, walked. -/
namespace Go.Proofs.YtmgnhbihfgpccaaGreatDoor
open Go.RowKit

theorem nickP_ab : NickP ⟨#[97, 45, 98]⟩ := by
  refine ⟨by decide, fun i hi => ?_⟩
  have hi' : i < 3 := hi
  rcases (by omega : i = 0 ∨ i = 1 ∨ i = 2) with rfl | rfl | rfl <;> rfl
theorem nickP_da : ¬ NickP ⟨#[45, 97]⟩ := fun h => by
  have := h.2 0 (by decide)
  rw [show nickAt 0 (⟨#[45, 97]⟩ : ByteArray)[0] = false from by kernel_rfl] at this; cases this
theorem nickP_1a : ¬ NickP ⟨#[49, 97]⟩ := fun h => by
  have := h.2 0 (by decide)
  rw [show nickAt 0 (⟨#[49, 97]⟩ : ByteArray)[0] = false from by kernel_rfl] at this; cases this
theorem chanP_a : ChanP ⟨#[35, 97]⟩ := by
  refine ⟨by decide, ⟨by decide, by kernel_rfl⟩, fun i hi => ?_⟩
  have hi' : i < 2 := hi
  rcases (by omega : i = 0 ∨ i = 1) with rfl | rfl <;> rfl
theorem chanP_h : ¬ ChanP ⟨#[35]⟩ := fun h => by
  have := h.1.1; revert this; decide



end Go.Proofs.YtmgnhbihfgpccaaGreatDoor
end
section
/- ValidHosts, walked. -/
namespace Go.Proofs.YtmgnhbihfgpccaaGreatDoor
open Go.RowKit

end Go.Proofs.YtmgnhbihfgpccaaGreatDoor
end
section
/- The answers' Clean; ValidCleans, walked. -/
namespace Go.Proofs.YtmgnhbihfgpccaaGreatDoor
open Go.RowKit

theorem app_one' (t s : ByteArray) (k : Nat) (h : k < s.size) : (t ++ s.extract k (k + 1)).data.toList = t.data.toList ++ [s[k]] := by
  have : (s.extract k (k + 1)).data.toList = [s[k]] := by
    rw [Lib.extract_data, show k + 1 - k = 1 by omega, List.drop_eq_getElem_cons (by simpa using h), List.take_succ_cons, List.take_zero]; rfl
  rw [← this]; simp
theorem take_snoc_lt {l : List UInt8} {n : Nat} {c : UInt8} (h : (l.take n).length < n) : (l ++ [c]).take n = l.take n ++ [c] := by
  rw [List.length_take] at h
  rw [List.take_append, List.take_of_length_le (l := l) (by omega), List.take_of_length_le (l := [c]) (by simp; omega)]
theorem take_snoc_ge {l : List UInt8} {n : Nat} {c : UInt8} (h : ¬ (l.take n).length < n) : (l ++ [c]).take n = l.take n := by
  rw [List.length_take] at h
  rw [List.take_append, show n - l.length = 0 by omega]
  simp
theorem brk_three (b : UInt8) : brkB b = !((((b.toNat : Int) != 0) && ((b.toNat : Int) != 10)) && ((b.toNat : Int) != 13)) := by
  have := all256 (p := fun b => brkB b == !((((b.toNat : Int) != 0) && ((b.toNat : Int) != 10)) && ((b.toNat : Int) != 13))) (by kernel_rfl) b
  simpa only [beq_iff_eq] using this

set_option maxHeartbeats 4000000 in
theorem clean_r (s : ByteArray) (most : Int) (w : World) (hs : s.size ≤ 1000000) :
    Calls Tryz.prog 97 #[.string s, .int .i64 most] w fun e w' => e = .returned (.string (cleanV s most)) ∧ w = w' := by
  go_enter Tryz.func97, Tryz.ntmps97
  go_wp2_with fail
  go_loopw [5, 6] (fun v i wr => ∃ (k : Nat) (t : ByteArray), i = .int .i64 k ∧ k ≤ s.size ∧ v = .string t ∧ t.data.toList = (cleanL (s.data.toList.take k)).take most.toNat ∧ wr = w) (fun _ i _ => s.size - (Go.RowKit.intOf i).toNat)
  case atStart => exact ⟨0, ⟨#[]⟩, rfl, Nat.zero_le _, rfl, by simp [cleanL], rfl⟩
  case round =>
    obtain ⟨k, t, rfl, hk, rfl, ht, rfl⟩ := hrel
    have htl : t.size ≤ 1000000 := by
      have h0 : t.data.toList.length = t.size := by simp
      rw [← h0, ht, List.length_take]
      have h1 := clean_len (s.data.toList.take k)
      have h2 : (s.data.toList.take k).length ≤ k := List.length_take_le _ _
      omega
    by_cases hlt : k < s.size
    · have hnx := clean_next s k hlt
      have hex := app_one' t s k hlt
      have hbr := brk_three s[k]
      have hlen : t.size = ((cleanL (s.data.toList.take k)).take most.toNat).length := by rw [← ht]; simp
      have hsn : ((cleanL (s.data.toList.take k)).take most.toNat).length < most.toNat → (cleanL (s.data.toList.take k) ++ [s[k]]).take most.toNat = (cleanL (s.data.toList.take k)).take most.toNat ++ [s[k]] := take_snoc_lt
      have hsg : ¬ ((cleanL (s.data.toList.take k)).take most.toNat).length < most.toNat → (cleanL (s.data.toList.take k) ++ [s[k]]).take most.toNat = (cleanL (s.data.toList.take k)).take most.toNat := take_snoc_ge
      rw [← hlen] at hsn hsg
      have HN := Lib.hid hnx
      have HE := Lib.hid hex
      have HT := Lib.hid ht
      have HS := Lib.hid hsn
      have HG := Lib.hid hsg
      clear hnx hex ht hlen hsn hsg
      cases h1 : ((s[k].toNat : Int) != 0) <;> cases h2 : ((s[k].toNat : Int) != 10) <;> cases h3 : ((s[k].toNat : Int) != 13) <;> rw [h1, h2, h3] at hbr
      case true.true.true =>
        have HB := Lib.hid hbr
        clear hbr
        by_cases hm : (t.size : Int) < most
        · have hm2 : t.size < most.toNat := by omega
          go_wp2_with fail
          go_roundw
          case rel => exact ⟨k + 1, _, by go_num, by omega, rfl, by rw [HE.out, HN.out, HB.out]; simp only [Bool.and_self, Bool.not_true, Bool.false_eq_true, if_false]; rw [HS.out hm2, HT.out], by simp⟩
          case measure => simp [Go.RowKit.intOf]; omega
        · have hm2 : ¬ t.size < most.toNat := by omega
          go_wp2_with fail
          go_roundw
          case rel => exact ⟨k + 1, _, by go_num, by omega, rfl, by rw [HN.out, HB.out]; simp only [Bool.and_self, Bool.not_true, Bool.false_eq_true, if_false]; rw [HG.out hm2, HT.out], by simp⟩
          case measure => simp [Go.RowKit.intOf]; omega
      all_goals
        have HB := Lib.hid hbr
        clear hbr
        go_wp2_with fail
        go_roundw
        case rel => exact ⟨k + 1, _, by go_num, by omega, rfl, by rw [HN.out, HB.out]; simp [HT.out], by simp⟩
        case measure => simp [Go.RowKit.intOf]; omega
    · obtain rfl : k = s.size := by omega
      have HT := Lib.hid ht
      clear ht
      go_wp2_with fail
      go_ret
      exact ⟨ret_str (ba_ext (by rw [HT.out, List.take_of_length_le (l := s.data.toList) (by simp)]; unfold cleanV; simp)), rfl⟩

theorem cleanV_text (s : ByteArray) (most : Int) : textL (cleanV s most).data.toList = true := by
  unfold cleanV
  rw [bs_toList]
  exact text_take (text_clean _) _
theorem cleanV_again (s : ByteArray) (most : Int) : cleanV (cleanV s most) most = cleanV s most := by
  have h := clean_text (cleanV_text s most)
  unfold cleanV at h ⊢
  rw [bs_toList] at h ⊢
  rw [h, List.take_take, Nat.min_self]
theorem cleanV_size (s : ByteArray) (most : Int) : (cleanV s most).size ≤ s.size ∧ ((cleanV s most).size : Int) ≤ max most 0 := by
  unfold cleanV
  rw [bs_size, List.length_take]
  have h1 := clean_len s.data.toList
  have h2 : s.data.toList.length = s.size := by simp
  omega

end Go.Proofs.YtmgnhbihfgpccaaGreatDoor
end
section
/- Layer 19: the document's ban. -/
namespace Go.Proofs.YtmgnhbihfgpccaaGreatDoor
open Go Go.RowKit

/-- where the last ban that is alike stands among the first k; -1: nowhere -/
def lastB (l : List (List UInt8)) (m : List UInt8) : Nat → Int
  | 0 => -1
  | k + 1 => if sameF (l.getD k []) m then k else lastB l m k
theorem lastB_lt (l : List (List UInt8)) (m : List UInt8) : ∀ k, -1 ≤ lastB l m k ∧ lastB l m k < k
  | 0 => by simp [lastB]
  | k + 1 => by
    have := lastB_lt l m k
    unfold lastB
    split
    · omega
    · omega
/-- a ban, for the document -/
def banX (x : Rx) (on : Bool) (arg : List UInt8) : Told × Rx :=
  if arg = [] ∨ 100 < (maskB arg).length ∨ (maskB arg).contains 32 = true then (noT 0, x)
  else if on = true then (if 0 ≤ lastB x.bans (maskB arg) x.bans.length then (noT 0, x) else if x.mb ≤ x.bans.length then (noT 478, x) else (⟨true, 98, maskB arg, 0⟩, { x with bans := x.bans ++ [maskB arg] }))
  else if lastB x.bans (maskB arg) x.bans.length < 0 then (noT 0, x)
  else (⟨false, 98, x.bans.getD (lastB x.bans (maskB arg) x.bans.length).toNat [], 0⟩, { x with bans := x.bans.take (lastB x.bans (maskB arg) x.bans.length).toNat ++ x.bans.drop ((lastB x.bans (maskB arg) x.bans.length).toNat + 1) })
theorem encT_ones (xs : List (List UInt8)) : ∀ u ∈ xs.map encT, u.oneCell' = true := by
  intro u hu
  obtain ⟨p, _, rfl⟩ := List.mem_map.1 hu
  rfl
set_option maxRecDepth 100000 in
set_option maxHeartbeats 16000000 in
theorem refBan_any {base B : Nat} {q : RxV} {x : Rx} {w : World} (h : RxAt base B q x w) (on : Bool) (c : UInt8) (arg : List UInt8) (ha : arg.length ≤ 100000) (hbl0 : x.bans.length ≤ 100000) (hbx : ∀ y ∈ x.bans, y.length ≤ 1000000) :
    Calls Tryz.prog 63 #[.pointer (some ⟨B, 0, none⟩), chgV on c arg] w fun e w' => e = .returned (banX x on arg).1.val ∧ XW base B q (banX x on arg).2 w w' := by
  obtain ⟨N, hN⟩ : ∃ N, w.heap.size = N := ⟨_, rfl⟩
  obtain ⟨ab, hab⟩ : ∃ ab, bs arg = ab := ⟨_, rfl⟩
  have hcv : chgV on c arg = .agg #[.bool on, .int .u8 c.toNat, .string ab] := by rw [← hab]; rfl
  rw [hcv]
  obtain ⟨res, hres⟩ : ∃ res, banX x on arg = res := ⟨_, rfl⟩
  rw [hres]
  obtain ⟨W0, hW0⟩ : ∃ W0, ((w.alloc (.cells #[.bool on, .int .u8 c.toNat, .string ab] 31)).alloc (.cells #[.bool false, .int .u8 0, .string ⟨#[]⟩] 31)) = W0 := ⟨_, rfl⟩
  have b0 : RowKit.Below w.heap.size w W0 := by rw [← hW0]; exact ((Below.refl _ w).alloc (Nat.le_refl _) _).alloc (by simp) _
  have k0 : W0.heap[N]? = some (.cells #[.bool on, .int .u8 c.toNat, .string ab] 31 (0, 0)) := by rw [← hW0, ← hN]; exact blk_alloc (heap_alloc_new w _) _
  have k1 : W0.heap[N + 1]? = some (.cells #[.bool false, .int .u8 0, .string ⟨#[]⟩] 31 (0, 0)) := by rw [← hW0, ← hN]; exact heap_alloc2_new w _ _
  have h0 := h.below b0
  have hlt : ∀ k, RxX B q k → k < w.heap.size := fun k hk => (h.lt k hk).2
  have hsz : ab.size ≤ 100000 := by rw [← hab]; simpa using ha
  obtain ⟨bl, hbl⟩ : ∃ bl, maskB arg = bl := ⟨_, rfl⟩
  have hbll : bl.length ≤ 1000000 := by rw [← hbl]; have := maskB_len arg; omega
  obtain ⟨bn, hbn⟩ : ∃ bn, bs bl = bn := ⟨_, rfl⟩
  obtain ⟨cl, hcl⟩ : ∃ cl, cleanV ab ab.size = cl := ⟨_, rfl⟩
  have hcls : cl.size ≤ 1000000 := by
    rw [← hcl]
    show (bs _).size ≤ _
    rw [bs_size, List.length_take]
    have : (cleanL ab.data.toList).length ≤ ab.size := by
      unfold cleanL
      exact Nat.le_trans (List.length_filter_le _ _) (Nat.le_of_eq (by rw [len_ba]))
    omega
  have hCL := fun W => clean_r ab ab.size W (by omega)
  rw [hcl] at hCL
  have HCL := Lib.hid hCL
  have hmc : compS cl = bl := by rw [← hcl, ← hab, ← hbl]; rfl
  have hCO := fun W => compB_ref cl W hcls
  rw [hmc, hbn] at hCO
  have HCO := Lib.hid hCO
  have hbns : bn.size = bl.length := by rw [← hbn]; simp
  have hsp : bn.data.toList = bl := by rw [← hbn]; rfl
  have HRES := Lib.hid hres
  have HBL := Lib.hid (And.intro hbl (And.intro hbn (And.intro hab (And.intro hsp (And.intro hbns (And.intro hbll (And.intro hbl0 hbx)))))))
  have H := Lib.hid (And.intro h0 (And.intro b0 (And.intro k0 (And.intro k1 (And.intro hN hlt)))))
  have HW := Lib.hid hW0
  have hb6 : bn.size ≤ 1000000 := by omega
  clear h h0 b0 k0 k1 hW0 hN hab hcv hlt hres hsz hbl hbn hcl hcls hCL hCO hmc hsp hbns ha hbll hbl0 hbx
  have hW0 := HW.out
  have hN := H.out.2.2.2.2.1
  by_cases hem : arg = []
  · have hc : banX x on arg = (noT 0, x) := by unfold banX; rw [if_pos (.inl hem)]
    have HC := Lib.hid hc
    have hab : ab.toList.isEmpty = true := str_em (by rw [← HBL.out.2.2.1, hem]; rfl)
    have H3 := Lib.hid (And.intro H.out.2.1 (And.intro H.out.2.2.1 (And.intro H.out.2.2.2.1 (And.intro H.out.1 H.out.2.2.2.2))))
    have z2 := blk_cell H.out.2.2.1 2
    have q0 := blk_cell H3.out.2.2.1 0; have q1 := blk_cell H3.out.2.2.1 1; have q2 := blk_cell H3.out.2.2.1 2; have g0 := blk_free H3.out.2.2.1 0; have g1 := blk_free H3.out.2.2.1 1; have g2 := blk_free H3.out.2.2.1 2
    clear hc hem
    go_enter Tryz.func63, Tryz.ntmps63
    go_wp2_with fail
    obtain ⟨b5, k5, r5, a5, hN5, hlt5⟩ := H3.out
    have kk := fun j => blk_cell (set3R (x := .bool false) (y := .int .u8 0) (z := .string ⟨#[]⟩) r5) j
    refine bodyPost_ret (res_three rfl rfl (Tryz.isAgg31 _) (Tryz.sizeOf31 _) (kk 0) (kk 1) (kk 2)) rfl ⟨by rw [← HRES.out, HC.out]; rfl, ?_⟩
    rw [← HRES.out, HC.out]
    exact XW.boxedZ (Z := fun k => k = N + 1) ⟨q, a5, Fr.refl _ _, fun _ hk _ => hk⟩ b5 hlt5 (fun k e => by have := blk_lt r5; omega) set3R_fr
  have hab : ab.toList.isEmpty = false := str_ne (by rw [← HBL.out.2.2.1, bs_size]; exact List.length_pos_iff.2 hem)
  have HEM := Lib.hid hem
  clear hem
  go_enter Tryz.func63, Tryz.ntmps63
  have z2 := blk_cell H.out.2.2.1 2
  go_wp2_with fail
  clear hW0 hN z2 hab
  refine (HCL.out W0).mono ?_
  rintro e w1 ⟨rfl, rfl⟩
  go_wp2_with fail
  refine (HCO.out _).mono ?_
  rintro e W2 ⟨rfl, hb2⟩
  have f2 := Fr.of_below (X := fun _ => False) hb2
  have H3 := Lib.hid (And.intro (H.out.2.1.trans (hb2.mono H.out.2.1.size)) (And.intro (f2.blk H.out.2.2.1 fun e => e) (And.intro (f2.blk H.out.2.2.2.1 fun e => e) (And.intro (H.out.1.below hb2) H.out.2.2.2.2))))
  clear hb2 f2 H HCL HCO HW
  by_cases hlen : 100 < bl.length
  · have hc : banX x on arg = (noT 0, x) := by unfold banX; rw [if_pos (.inr (.inl (by rw [HBL.out.1]; exact hlen)))]
    have HC := Lib.hid hc
    have hq : (100 : Int) < bn.size := by have := HBL.out.2.2.2.2.1; omega
    have q0 := blk_cell H3.out.2.2.1 0; have q1 := blk_cell H3.out.2.2.1 1; have q2 := blk_cell H3.out.2.2.1 2; have g0 := blk_free H3.out.2.2.1 0; have g1 := blk_free H3.out.2.2.1 1; have g2 := blk_free H3.out.2.2.1 2
    clear hc hlen
    go_wp2_with fail
    obtain ⟨b5, k5, r5, a5, hN5, hlt5⟩ := H3.out
    have kk := fun j => blk_cell (set3R (x := .bool false) (y := .int .u8 0) (z := .string ⟨#[]⟩) r5) j
    refine bodyPost_ret (res_three rfl rfl (Tryz.isAgg31 _) (Tryz.sizeOf31 _) (kk 0) (kk 1) (kk 2)) rfl ⟨by rw [← HRES.out, HC.out]; rfl, ?_⟩
    rw [← HRES.out, HC.out]
    exact XW.boxedZ (Z := fun k => k = N + 1) ⟨q, a5, Fr.refl _ _, fun _ hk _ => hk⟩ b5 hlt5 (fun k e => by have := blk_lt r5; omega) set3R_fr
  have hq : ¬ (100 : Int) < bn.size := by have := HBL.out.2.2.2.2.1; omega
  have HLN := Lib.hid hlen
  clear hlen
  go_wp2_with fail
  clear hq
  go_loopw [7] (fun u wr => ∃ k : Nat, k ≤ bn.size ∧ u = .int .i64 k ∧ Hid (∀ j (hj : j < bn.size), j < k → bn[j] ≠ 32) ∧ wr = W2) (fun u _ => bn.size - (Go.RowKit.intOf u).toNat)
  case atStart => exact ⟨0, Nat.zero_le _, rfl, Lib.hid fun _ _ h => absurd h (Nat.not_lt_zero _), rfl⟩
  case round =>
    obtain ⟨k, hk, rfl, HA, rfl⟩ := hrel
    by_cases hlt : k < bn.size
    · by_cases hid : bn[k] = 32
      · have he : ((bn[k].toNat : Int) == 32) = true := by rw [hid]; decide
        have hin : bl.contains 32 = true := by
          rw [← HBL.out.2.2.2.1, List.contains_iff_mem, ← hid]
          exact List.getElem_mem (l := bn.data.toList) (by simpa using hlt)
        have hc : banX x on arg = (noT 0, x) := by unfold banX; rw [if_pos (.inr (.inr (by rw [HBL.out.1]; exact hin)))]
        clear hin
        have HC := Lib.hid hc
        clear hc hid
        have q0 := blk_cell H3.out.2.2.1 0; have q1 := blk_cell H3.out.2.2.1 1; have q2 := blk_cell H3.out.2.2.1 2; have g0 := blk_free H3.out.2.2.1 0; have g1 := blk_free H3.out.2.2.1 1; have g2 := blk_free H3.out.2.2.1 2
        go_wp2_with fail
        obtain ⟨b5, k5, r5, a5, hN5, hlt5⟩ := H3.out
        have kk := fun j => blk_cell (set3R (x := .bool false) (y := .int .u8 0) (z := .string ⟨#[]⟩) r5) j
        refine bodyPost_ret (res_three rfl rfl (Tryz.isAgg31 _) (Tryz.sizeOf31 _) (kk 0) (kk 1) (kk 2)) rfl ⟨by rw [← HRES.out, HC.out]; rfl, ?_⟩
        rw [← HRES.out, HC.out]
        exact XW.boxedZ (Z := fun k => k = N + 1) ⟨q, a5, Fr.refl _ _, fun _ hk _ => hk⟩ b5 hlt5 (fun k e => by have := blk_lt r5; omega) set3R_fr
      · have he : ((bn[k].toNat : Int) == 32) = false := by
          apply beq_false_of_ne
          intro e
          exact hid (UInt8.toNat_inj.1 (by have : (32 : UInt8).toNat = 32 := rfl; omega))
        have HID := Lib.hid hid
        clear hid
        go_wp2_with fail
        refine ⟨⟨k + 1, by omega, by push_cast; rfl, Lib.hid fun j h hj => ?_, by first | trivial | rfl⟩, by simp only [Go.RowKit.intOf]; omega⟩
        rcases Nat.lt_succ_iff_lt_or_eq.1 hj with h1 | rfl
        · exact HA.out j h h1
        · exact HID.out
    · obtain rfl : k = bn.size := by omega
      have hg : bl.contains 32 = false := by
        rw [Bool.eq_false_iff]
        intro h
        rw [← HBL.out.2.2.2.1, List.contains_iff_mem] at h
        obtain ⟨j, hj, e⟩ := List.getElem_of_mem h
        exact HA.out j (by simpa using hj) (by simpa using hj) e
      have HG := Lib.hid hg
      clear hg
      have hc1 : ∀ {X Y : Told × Rx}, (if arg = [] ∨ 100 < (maskB arg).length ∨ (maskB arg).contains 32 = true then X else Y) = Y := fun {X Y} => if_neg (by
        rw [HBL.out.1, HG.out]
        rintro (e | e | e)
        · exact HEM.out e
        · exact HLN.out e
        · cases e)
      have HC1 : Hid (∀ {X Y : Told × Rx}, (if arg = [] ∨ 100 < (maskB arg).length ∨ (maskB arg).contains 32 = true then X else Y) = Y) := @hc1
      clear hc1
      go_wp2_with fail
      obtain ⟨A, c', hv⟩ := row_slice H3.out.2.2.2.1.2.2.1
      obtain ⟨n, hn⟩ : ∃ n, x.bans.length = n := ⟨_, rfl⟩
      have hrd := reads_ownT (base := base) (n := x.bans.length) (c := c') (by have := H3.out.2.2.2.1.2.2.1; rw [hv] at this; exact this)
      have HRD := Lib.hid (And.intro hrd (And.intro hn hv))
      have HSM := Lib.hid (fun (j : Nat) (hj : j < x.bans.length) W => refsame (bs x.bans[j]) bn W (by rw [bs_size]; exact HBL.out.2.2.2.2.2.2.2 _ (List.getElem_mem hj)) (by have := HBL.out.2.2.2.2.1; have := HBL.out.2.2.2.2.2.1; omega))
      clear hrd hv hn
      have hn6 : n ≤ 1000000 := by have := HRD.out.2.1; have := HBL.out.2.2.2.2.2.2.1; omega
      go_loopw [9, 8] (fun u a vr => ∃ k : Nat, k ≤ n ∧ u = .int .i64 k ∧ (∃ t : Int, a = .int .i64 t ∧ Hid (t = lastB x.bans bl k)) ∧ Hid (Below wr.heap.size wr vr)) (fun u _ _ => n - (Go.RowKit.intOf u).toNat)
      case atStart => exact ⟨0, Nat.zero_le _, rfl, ⟨-1, rfl, rfl⟩, Lib.hid (Below.refl _ _)⟩
      case round =>
        obtain ⟨k, hk, rfl, ⟨t, rfl, HT⟩, HB⟩ := hrel
        have hxr := H3.out.2.2.2.1.below HB.out
        have c7 : wr.cell? ⟨B, 7, none⟩ = some (.slice A n c') := by rw [← HRD.out.2.1, ← HRD.out.2.2]; exact blk_cell hxr.1 7
        clear hxr
        by_cases hlt : k < n
        · have hk2 : k < x.bans.length := by have := HRD.out.2.1; omega
          obtain ⟨g, o, rfl, hg, hcl⟩ := HRD.out.1 (by omega)
          have e0 := (HB.out.cell (p := ⟨g, o + k, none⟩) hg).trans (hcl k hk2)
          have hsm := HSM.out k hk2 wr
          have hgd : x.bans.getD k [] = x.bans[k] := by rw [List.getD_eq_getElem?_getD, List.getElem?_eq_getElem hk2]; rfl
          have hbl2 : sameF (bs x.bans[k]).data.toList bn.data.toList = sameF (x.bans.getD k []) bl := by rw [HBL.out.2.2.2.1, hgd]; rfl
          rw [hbl2] at hsm
          obtain ⟨y, hy⟩ : ∃ y, bs x.bans[k] = y := ⟨_, rfl⟩
          rw [hy] at e0 hsm
          have HS := Lib.hid hsm
          clear hcl hy hg hsm hgd hbl2
          cases hs : sameF (x.bans.getD k []) bl with
          | true =>
            rw [hs] at HS
            have HE : Hid ((k : Int) = lastB x.bans bl (k + 1)) := by show (k : Int) = lastB x.bans bl (k + 1); unfold lastB; rw [if_pos hs]
            clear hs
            go_wp2_with fail
            refine HS.out.mono ?_
            rintro e w4 ⟨rfl, hb4⟩
            have HB4 := Lib.hid (HB.out.trans (hb4.mono HB.out.size))
            clear hb4
            go_wp2_with fail
            exact ⟨⟨k + 1, by omega, by push_cast; rfl, ⟨k, rfl, HE⟩, HB4⟩, by simp only [Go.RowKit.intOf]; omega⟩
          | false =>
            rw [hs] at HS
            have HE : Hid (t = lastB x.bans bl (k + 1)) := by show t = lastB x.bans bl (k + 1); unfold lastB; rw [if_neg (by rw [hs]; simp)]; exact HT.out
            clear hs
            go_wp2_with fail
            refine HS.out.mono ?_
            rintro e w4 ⟨rfl, hb4⟩
            have HB4 := Lib.hid (HB.out.trans (hb4.mono HB.out.size))
            clear hb4
            go_wp2_with fail
            exact ⟨⟨k + 1, by omega, by push_cast; rfl, ⟨t, rfl, HE⟩, HB4⟩, by simp only [Go.RowKit.intOf]; omega⟩
        · obtain rfl : k = n := by omega
          have hb3 := HB.out
          have f3 := Fr.of_below (X := fun _ => False) hb3
          have H4 := Lib.hid (And.intro (H3.out.1.trans (hb3.mono H3.out.1.size)) (And.intro (f3.blk H3.out.2.1 fun e => e) (And.intro (f3.blk H3.out.2.2.1 fun e => e) (And.intro (H3.out.2.2.2.1.below hb3) H3.out.2.2.2.2))))
          have HLB : Hid (lastB x.bans bl x.bans.length = t) := by show lastB x.bans bl x.bans.length = t; rw [HRD.out.2.1]; exact HT.out.symm
          clear hb3 f3 HB H3 HSM HA hlt HT
          have f7 : wr.frozen? ⟨B, 7, none⟩ = false := blk_free H4.out.2.2.2.1.1 7
          have c1 : wr.cell? ⟨B, 1, none⟩ = some (.int .i64 x.mb) := blk_cell H4.out.2.2.2.1.1 1
          have q0 := blk_cell H4.out.2.2.1 0; have q1 := blk_cell H4.out.2.2.1 1; have q2 := blk_cell H4.out.2.2.1 2; have g0 := blk_free H4.out.2.2.1 0; have g1 := blk_free H4.out.2.2.1 1; have g2 := blk_free H4.out.2.2.1 2
          have z0 := blk_cell H4.out.2.1 0
          cases on with
          | true =>
            by_cases ht0 : 0 ≤ t
            · have hc : banX x true arg = (noT 0, x) := by unfold banX; rw [HC1.out, if_pos rfl, HBL.out.1, HLB.out, if_pos ht0]
              have HC := Lib.hid hc
              clear hc
              go_wp2_with fail
              obtain ⟨b5, k5, r5, a5, hN5, hlt5⟩ := H4.out
              have kk := fun j => blk_cell (set3R (x := .bool false) (y := .int .u8 0) (z := .string ⟨#[]⟩) r5) j
              refine bodyPost_ret (res_three rfl rfl (Tryz.isAgg31 _) (Tryz.sizeOf31 _) (kk 0) (kk 1) (kk 2)) rfl ⟨by rw [← HRES.out, HC.out]; rfl, ?_⟩
              rw [← HRES.out, HC.out]
              exact XW.boxedZ (Z := fun k => k = N + 1) ⟨q, a5, Fr.refl _ _, fun _ hk _ => hk⟩ b5 hlt5 (fun k e => by have := blk_lt r5; omega) set3R_fr
            · have hd0 : decide (0 ≤ t) = false := decide_eq_false ht0
              have hc0 : banX x true arg = if x.mb ≤ x.bans.length then (noT 478, x) else (⟨true, 98, bl, 0⟩, { x with bans := x.bans ++ [bl] }) := by unfold banX; rw [HC1.out, if_pos rfl, HBL.out.1, HLB.out, if_neg ht0]
              by_cases hful : x.mb ≤ k
              · have hc : banX x true arg = (noT 478, x) := by rw [hc0, if_pos (by rw [HRD.out.2.1]; exact hful)]
                have HC := Lib.hid hc
                clear hc hc0
                go_wp2_with fail
                go_quiet (fail)
                obtain ⟨W5, hW5⟩ : ∃ W5, wr.drewN nq = W5 := ⟨_, rfl⟩
                rw [hW5]
                have f5 : Fr (fun _ => False) wr W5 := by rw [← hW5]; exact Fr.of_below (below_drewN (Below.refl _ _) nq)
                have H5 := Lib.hid (And.intro (by rw [← hW5]; exact below_drewN H4.out.1 nq : RowKit.Below w.heap.size w W5) (And.intro (f5.blk H4.out.2.1 fun e => e) (And.intro (f5.blk H4.out.2.2.1 fun e => e) (And.intro (H4.out.2.2.2.1.fr f5 fun _ _ e => e) H4.out.2.2.2.2))))
                clear hW5 f5 q0 q1 q2 g0 g1 g2 z0 c7 f7 c1
                have q0 := blk_cell H5.out.2.2.1 0; have q1 := blk_cell H5.out.2.2.1 1; have q2 := blk_cell H5.out.2.2.1 2; have g0 := blk_free H5.out.2.2.1 0; have g1 := blk_free H5.out.2.2.1 1; have g2 := blk_free H5.out.2.2.1 2
                go_wp2_with fail
                obtain ⟨b5, k5, r5, a5, hN5, hlt5⟩ := H5.out
                have kk := fun j => blk_cell (set3R (x := .bool false) (y := .int .u8 0) (z := .string ⟨#[]⟩) r5) j
                refine bodyPost_ret (res_three rfl rfl (Tryz.isAgg31 _) (Tryz.sizeOf31 _) (kk 0) (kk 1) (kk 2)) rfl ⟨by rw [← HRES.out, HC.out]; rfl, ?_⟩
                rw [← HRES.out, HC.out]
                exact XW.boxedZ (Z := fun k => k = N + 1) ⟨q, a5, Fr.refl _ _, fun _ hk _ => hk⟩ b5 hlt5 (fun k e => by have := blk_lt r5; omega) set3R_fr
              · have hc : banX x true arg = (⟨true, 98, bl, 0⟩, { x with bans := x.bans ++ [bl] }) := by rw [hc0, if_neg (by rw [HRD.out.2.1]; exact hful)]
                have HC := Lib.hid hc
                clear hc hc0
                have hfd : decide (x.mb ≤ (k : Int)) = false := decide_eq_false hful
                go_wp2_with fail
                go_quiet (fail)
                obtain ⟨W5, hW5⟩ : ∃ W5, wr.drewN nq = W5 := ⟨_, rfl⟩
                rw [hW5]
                have f5 : Fr (fun _ => False) wr W5 := by rw [← hW5]; exact Fr.of_below (below_drewN (Below.refl _ _) nq)
                have b5 : RowKit.Below w.heap.size w W5 := by rw [← hW5]; exact below_drewN H4.out.1 nq
                have k5 := f5.blk H4.out.2.1 fun e => e
                have r5 := f5.blk H4.out.2.2.1 fun e => e
                have a5 := H4.out.2.2.2.1.fr f5 fun _ _ e => e
                clear hW5 f5 q0 q1 q2 g0 g1 g2 z0 c7 f7 c1
                have ho := a5.2.2.1
                rw [HRD.out.2.2] at ho
                obtain ⟨i0, hi0, hz0, hz1, hz2⟩ := info_parts Tryz.infoT
                obtain ⟨A1, c1, A2, c2, W6, W7, hr1, hr2, o7, f6, f7⟩ := snoc_runs (P := Tryz.prog) 34 i0 _ 16 Tryz.underlying34 hi0 hz0 hz1 hz2 rfl (by decide) ho (encT_ones _) (by have := HRD.out.2.1; omega) (by decide) #[.string bn] rfl (by intro u hu; simp at hu; subst hu; rfl)
                have o7' : OwnT W5.heap.size W7 (.slice A2 (k + 1) c2) (x.bans ++ [bl]) := by
                  rw [← HRD.out.2.1]
                  refine ownT_snoc ?_
                  have : (#[Value.string bn] : Array Value).toList = [encT bl] := by rw [← HBL.out.2.1]; rfl
                  rw [this] at o7
                  exact o7
                rw [HRD.out.2.1] at hr1 hr2
                have hBl : B < W5.heap.size := blk_lt a5.1
                have hvn : q.vb = .slice A k c' := by rw [← HRD.out.2.1]; exact HRD.out.2.2
                have d1 : (W5.alloc (.cells #[] 9)).cell? ⟨B, 7, none⟩ = some (.slice A k c') := by rw [← hvn]; exact blk_cell (blk_alloc a5.1 _) 7
                have k7 := f7.blk a5.1 fun e => e
                have d7 := blk_cell k7 7
                have v7 := blk_free k7 7
                obtain ⟨W8, hW8⟩ : ∃ W8, W7.setCell ⟨B, 7, none⟩ (.slice A2 (k + 1) c2) = W8 := ⟨_, rfl⟩
                have f8 : Fr (fun k => k = B) W7 W8 := by rw [← hW8]; exact Fr.setCell (X := fun k => k = B) (Fr.refl _ W7) ⟨B, 7, none⟩ rfl _
                have f58 : Fr (fun k => k = B) W5 W8 := (f7.mono fun _ _ e => e.elim).trans3 f8 fun _ _ e => e
                have h8 : RxAt base B { q with vb := .slice A2 (k + 1) c2 } { x with bans := x.bans ++ [bl] } W8 := a5.toB (ownT_base (ownT_kept o7' fun g hg => f8.block g (o7'.lt g hg).2 fun e => by have := (o7'.lt g hg).1; omega) a5.sz) (by rw [← hW8]; exact blk_set k7 7 _) f58
                have hlt5 := H4.out.2.2.2.2.2
                have hNe := H4.out.2.2.2.2.1
                have hne : ¬ N + 1 = B := fun e => by have := hlt5 B (.inl rfl); omega
                have r8 := f58.blk r5 hne
                have hx8 : XW base B q { x with bans := x.bans ++ [bl] } W5 W8 := by
                  refine ⟨_, h8, f58.mono fun k _ e => .inl e, fun k hk hlt => ?_⟩
                  rcases hk with e | e | e | e
                  · exact .inl e
                  · exact .inr (.inl e)
                  · have := (o7'.lt k e).1; omega
                  · exact .inr (.inr (.inr e))
                have H8 := Lib.hid (And.intro hx8 (And.intro r8 (And.intro b5 (And.intro (blk_lt r5) (And.intro hlt5 hNe)))))
                have q0 := blk_cell r8 0; have q1 := blk_cell r8 1; have q2 := blk_cell r8 2; have g0 := blk_free r8 0; have g1 := blk_free r8 1; have g2 := blk_free r8 2
                have hW8' := hW8
                clear ho hi0 hz0 hz1 hz2 o7 o7' f6 f7 k7 f8 f58 h8 hlt5 hNe hne r8 hx8 a5 b5 k5 r5 hBl hvn hW8'
                go_wp2_with (first
                  | (at_builtin; refine wpList_app_g rfl _ _ _ _ rfl (by exact hr1) ?_)
                  | (at_builtin; refine wpList_app_g rfl _ _ _ _ rfl (by exact hr2) ?_))
                obtain ⟨hx8, r8, b5, hl5, hlt5, hNe⟩ := H8.out
                have kk := fun j => blk_cell (set3R (x := .bool true) (y := .int .u8 98) (z := .string bn) r8) j
                refine bodyPost_ret (res_three rfl rfl (Tryz.isAgg31 _) (Tryz.sizeOf31 _) (kk 0) (kk 1) (kk 2)) rfl ⟨by rw [← HRES.out, HC.out, ← HBL.out.2.1]; rfl, ?_⟩
                rw [← HRES.out, HC.out]
                exact XW.boxedZ (Z := fun k => k = N + 1) hx8 b5 hlt5 (fun k e => by omega) set3R_fr
          | false =>
            by_cases ht0 : t < 0
            · have hc : banX x false arg = (noT 0, x) := by unfold banX; rw [HC1.out, if_neg (by decide), HBL.out.1, HLB.out, if_pos ht0]
              have HC := Lib.hid hc
              clear hc
              go_wp2_with fail
              obtain ⟨b5, k5, r5, a5, hN5, hlt5⟩ := H4.out
              have kk := fun j => blk_cell (set3R (x := .bool false) (y := .int .u8 0) (z := .string ⟨#[]⟩) r5) j
              refine bodyPost_ret (res_three rfl rfl (Tryz.isAgg31 _) (Tryz.sizeOf31 _) (kk 0) (kk 1) (kk 2)) rfl ⟨by rw [← HRES.out, HC.out]; rfl, ?_⟩
              rw [← HRES.out, HC.out]
              exact XW.boxedZ (Z := fun k => k = N + 1) ⟨q, a5, Fr.refl _ _, fun _ hk _ => hk⟩ b5 hlt5 (fun k e => by have := blk_lt r5; omega) set3R_fr
            · obtain ⟨i, rfl⟩ : ∃ i : Nat, t = i := ⟨t.toNat, by omega⟩
              have hik : i < k := by have := (lastB_lt x.bans bl x.bans.length).2; rw [HLB.out] at this; have := HRD.out.2.1; omega
              have hil : i < x.bans.length := by have := HRD.out.2.1; omega
              obtain ⟨xl, hxl⟩ : ∃ xl, x.bans[i] = xl := ⟨_, rfl⟩
              have hc : banX x false arg = (⟨false, 98, xl, 0⟩, { x with bans := x.bans.take i ++ x.bans.drop (i + 1) }) := by
                unfold banX
                rw [HC1.out, if_neg (by decide), HBL.out.1, HLB.out, if_neg ht0]
                simp only [Int.toNat_natCast]
                rw [List.getD_eq_getElem?_getD, List.getElem?_eq_getElem hil, hxl]
                rfl
              have HC := Lib.hid hc
              obtain ⟨xb, hxb⟩ : ∃ xb, bs xl = xb := ⟨_, rfl⟩
              have HXB := Lib.hid hxb
              have a5 := H4.out.2.2.2.1
              have ho := a5.2.2.1
              rw [HRD.out.2.2] at ho
              obtain ⟨i0, hi0, hz0, hz1, hz2⟩ := info_parts Tryz.infoT
              obtain ⟨g, g1, o1, A1, c1, A2, c2, W2, W3, rfl, hnc, hs1, hs2, hr1, hr2, o3, f2, f3⟩ := del_runs_g (P := Tryz.prog) 34 i0 _ 16 Tryz.underlying34 hi0 hz0 hz1 hz2 rfl ho (encT_ones _) (by have := HRD.out.2.1; omega) (by decide) hil
              have hck : wr.cell? ⟨g, i, none⟩ = some (.string xb) := by
                have := World.ownsRow.cellAt ho i (by omega)
                rw [this, List.getElem?_map, List.getElem?_eq_getElem hil, hxl, ← hxb]; rfl
              have o3' : OwnT wr.heap.size W3 (.slice A2 (x.bans.length - 1) c2) (x.bans.take i ++ x.bans.drop (i + 1)) := by
                rw [Nat.mul_one, Nat.mul_one, ← List.map_take, ← List.map_drop, ← List.map_append] at o3
                have hll : (x.bans.take i ++ x.bans.drop (i + 1)).length = x.bans.length - 1 := by rw [List.length_append, List.length_take, List.length_drop]; omega
                unfold OwnT
                rw [hll]; exact o3
              rw [HRD.out.2.1] at hr2 hnc hs1 hs2 o3'
              obtain ⟨W1, hW1⟩ : ∃ W1, (wr.alloc (.cells #[] 9)).drew = W1 := ⟨_, rfl⟩
              rw [hW1] at hr1
              have HW := Lib.hid hW1
              have hvn : q.vb = .slice (some ⟨g, 0, none⟩) k c' := by rw [← HRD.out.2.1]; exact HRD.out.2.2
              have d0 : wr.drew.cell? ⟨B, 7, none⟩ = some (.slice (some ⟨g, 0, none⟩) k c') := by rw [← hvn]; exact blk_cell a5.1 7
              have d1 : W1.cell? ⟨B, 7, none⟩ = some (.slice (some ⟨g, 0, none⟩) k c') := by rw [← hvn, ← hW1]; exact blk_cell (blk_alloc a5.1 _) 7
              have d2 : W2.cell? ⟨B, 7, none⟩ = some (.slice (some ⟨g, 0, none⟩) k c') := by rw [← hvn]; exact blk_cell (f2.blk a5.1 fun e => e) 7
              have k3 := f3.blk a5.1 fun e => e
              have d3 : W3.cell? ⟨B, 7, none⟩ = some (.slice (some ⟨g, 0, none⟩) k c') := by rw [← hvn]; exact blk_cell k3 7
              have g3 := blk_free k3 7
              obtain ⟨m3, hm3⟩ : ∃ m3, k - 1 = m3 := ⟨_, rfl⟩
              obtain ⟨m, hm⟩ : ∃ m, k - (i + 1) = m := ⟨_, rfl⟩
              obtain ⟨m2, hm2⟩ : ∃ m2, c' - (i + 1) = m2 := ⟨_, rfl⟩
              rw [hm, hm2] at hr2 hs2
              rw [hm3] at hr2 o3'
              obtain ⟨W4, hW4⟩ : ∃ W4, W3.setCell ⟨B, 7, none⟩ (.slice A2 m3 c2) = W4 := ⟨_, rfl⟩
              have f34 : Fr (fun k => k = B) W3 W4 := by rw [← hW4]; exact Fr.setCell (X := fun k => k = B) (Fr.refl _ W3) ⟨B, 7, none⟩ rfl _
              have f14 : Fr (fun k => k = B) wr W4 := (f3.mono fun _ _ e => e.elim).trans3 f34 fun _ _ e => e
              have hBw : B < wr.heap.size := blk_lt a5.1
              have h4 : RxAt base B { q with vb := .slice A2 m3 c2 } { x with bans := x.bans.take i ++ x.bans.drop (i + 1) } W4 := a5.toB (ownT_base (ownT_kept o3' fun g hg => f34.block g (o3'.lt g hg).2 fun e => by have := (o3'.lt g hg).1; omega) a5.sz) (by rw [← hW4]; exact blk_set k3 7 _) f14
              have hx4 : XW base B q { x with bans := x.bans.take i ++ x.bans.drop (i + 1) } wr W4 := by
                refine ⟨_, h4, f14.mono fun k _ e => .inl e, fun k hk hlt => ?_⟩
                rcases hk with e | e | e | e
                · exact .inl e
                · exact .inr (.inl e)
                · have := (o3'.lt k e).1; omega
                · exact .inr (.inr (.inr e))
              have hlt5 := H4.out.2.2.2.2.2
              have hNe := H4.out.2.2.2.2.1
              have hne : ¬ N + 1 = B := fun e => by have := hlt5 B (.inl rfl); omega
              have r4 := f14.blk H4.out.2.2.1 hne
              have H8 := Lib.hid (And.intro hx4 (And.intro r4 (And.intro H4.out.1 (And.intro (blk_lt H4.out.2.2.1) (And.intro hlt5 hNe)))))
              have HX4 := Lib.hid hW4
              have hp1 : ¬ ((i : Int) < 0) := by omega
              have hlt : IntKind.i64.wrap ((i : Int) + 1) = (i : Int) + 1 := IntWalk.i64_in _ ⟨by omega, by omega⟩
              clear ho hi0 hz0 hz1 hz2 o3 o3' f2 f3 k3 f34 f14 hBw h4 hx4 hm hm2 hm3 hvn hW1 hW4 hxl hxb hc hil hlt5 hNe hne r4 a5 ht0
              go_wp2_with fail
              refine wp_region_z (S := fun V => V.cell? ⟨B, 7, none⟩ = some (.slice (some ⟨g, 0, none⟩) k c')) (z := 19) (by kernel_rfl) (by exact d0) (fun hHeld => ?_)
              refine wpAnyZ_read (i := 0) (oi := { dst := some 95, op := Go.Op.move (Go.Operand.tmp 0), type := 27, pos := "ref.go:233", after := #[], guard := none }) ?_ rfl (by kernel_rfl) (by kernel_rfl) (by kernel_rfl) (by kernel_rfl) (fun _ _ _ h => h) (by rfl) (by exact hHeld) ?_ ?_
              rotate_left
              · (intro w0 hS0; go_simp <;> (try with_reducible rfl))
              try simp only [Act.put, List.setIfInBounds_toArray, List.set_cons_zero, List.set_cons_succ]
              refine wpAnyZ_read (i := 2) (oi := { dst := some 97, op := Go.Op.move (Go.Operand.tmp 0), type := 27, pos := "ref.go:233", after := #[], guard := none }) ?_ rfl (by kernel_rfl) (by kernel_rfl) (by kernel_rfl) (by kernel_rfl) (fun _ _ _ h => h) (by rfl) (by exact hHeld) ?_ ?_
              rotate_left
              · (intro w0 hS0; go_simp <;> (try with_reducible rfl))
              try simp only [Act.put, List.setIfInBounds_toArray, List.set_cons_zero, List.set_cons_succ]
              refine wpAnyZ_read (i := 3) (oi := { dst := some 98, op := Go.Op.nilCheck (Go.Operand.tmp 97), type := 0, pos := "ref.go:233", after := #[{ on := 2, ground := Go.Ground.data }], guard := none }) ?_ rfl (by kernel_rfl) (by kernel_rfl) (by kernel_rfl) (by kernel_rfl) (fun _ _ _ h => h) (by rfl) (by exact hHeld) ?_ ?_
              rotate_left
              · (intro w0 hS0; go_simp <;> (try with_reducible rfl))
              try simp only [Act.put, List.setIfInBounds_toArray, List.set_cons_zero, List.set_cons_succ]
              refine wpAnyZ_read (i := 4) (oi := { dst := some 99, op := Go.Op.fieldAddr 46 (Go.Operand.tmp 98) 7, type := 0, pos := "ref.go:233", after := #[{ on := 3, ground := Go.Ground.data }], guard := none }) ?_ rfl (by kernel_rfl) (by kernel_rfl) (by kernel_rfl) (by kernel_rfl) (fun _ _ _ h => h) (by rfl) (by exact hHeld) ?_ ?_
              rotate_left
              · (intro w0 hS0; go_simp <;> (try with_reducible rfl))
              try simp only [Act.put, List.setIfInBounds_toArray, List.set_cons_zero, List.set_cons_succ]
              refine wpAnyZ_read (i := 6) (oi := { dst := some 101, op := Go.Op.move (Go.Operand.tmp 8), type := 3, pos := "ref.go:233", after := #[], guard := none }) ?_ rfl (by kernel_rfl) (by kernel_rfl) (by kernel_rfl) (by kernel_rfl) (fun _ _ _ h => h) (by rfl) (by exact hHeld) ?_ ?_
              rotate_left
              · (intro w0 hS0; go_simp <;> (try with_reducible rfl))
              try simp only [Act.put, List.setIfInBounds_toArray, List.set_cons_zero, List.set_cons_succ]
              refine wpAnyZ_read (i := 9) (oi := { dst := some 104, op := Go.Op.move (Go.Operand.tmp 0), type := 27, pos := "ref.go:233", after := #[], guard := none }) ?_ rfl (by kernel_rfl) (by kernel_rfl) (by kernel_rfl) (by kernel_rfl) (fun _ _ _ h => h) (by rfl) (by exact hHeld) ?_ ?_
              rotate_left
              · (intro w0 hS0; go_simp <;> (try with_reducible rfl))
              try simp only [Act.put, List.setIfInBounds_toArray, List.set_cons_zero, List.set_cons_succ]
              refine wpAnyZ_read (i := 10) (oi := { dst := some 105, op := Go.Op.nilCheck (Go.Operand.tmp 104), type := 0, pos := "ref.go:233", after := #[{ on := 9, ground := Go.Ground.data }], guard := none }) ?_ rfl (by kernel_rfl) (by kernel_rfl) (by kernel_rfl) (by kernel_rfl) (fun _ _ _ h => h) (by rfl) (by exact hHeld) ?_ ?_
              rotate_left
              · (intro w0 hS0; go_simp <;> (try with_reducible rfl))
              try simp only [Act.put, List.setIfInBounds_toArray, List.set_cons_zero, List.set_cons_succ]
              refine wpAnyZ_read (i := 11) (oi := { dst := some 106, op := Go.Op.fieldAddr 46 (Go.Operand.tmp 105) 7, type := 0, pos := "ref.go:233", after := #[{ on := 10, ground := Go.Ground.data }], guard := none }) ?_ rfl (by kernel_rfl) (by kernel_rfl) (by kernel_rfl) (by kernel_rfl) (fun _ _ _ h => h) (by rfl) (by exact hHeld) ?_ ?_
              rotate_left
              · (intro w0 hS0; go_simp <;> (try with_reducible rfl))
              try simp only [Act.put, List.setIfInBounds_toArray, List.set_cons_zero, List.set_cons_succ]
              refine wpAnyZ_read (i := 13) (oi := { dst := some 108, op := Go.Op.move (Go.Operand.tmp 8), type := 3, pos := "ref.go:233", after := #[], guard := none }) ?_ rfl (by kernel_rfl) (by kernel_rfl) (by kernel_rfl) (by kernel_rfl) (fun _ _ _ h => h) (by rfl) (by exact hHeld) ?_ ?_
              rotate_left
              · (intro w0 hS0; go_simp <;> (try with_reducible rfl))
              try simp only [Act.put, List.setIfInBounds_toArray, List.set_cons_zero, List.set_cons_succ]
              refine wpAnyZ_read (i := 14) (oi := { dst := some 109, op := Go.Op.binOp Go.BinOp.add 3 (Go.Operand.tmp 108) (Go.Operand.const (Go.Value.int Go.IntKind.i64 1)) 3, type := 3, pos := "ref.go:233", after := #[{ on := 13, ground := Go.Ground.data }], guard := none }) ?_ rfl (by kernel_rfl) (by kernel_rfl) (by kernel_rfl) (by kernel_rfl) (fun _ _ _ h => h) (by rfl) (by exact hHeld) ?_ ?_
              rotate_left
              · (intro w0 hS0; go_simp <;> (try with_reducible rfl))
              try simp only [Act.put, List.setIfInBounds_toArray, List.set_cons_zero, List.set_cons_succ]
              refine wpAnyZ_read (i := 5) (oi := { dst := some 100, op := Go.Op.load 34 (Go.Operand.tmp 99), type := 34, pos := "ref.go:233", after := #[{ on := 4, ground := Go.Ground.data }], guard := none }) ?_ rfl (by kernel_rfl) (by kernel_rfl) (by kernel_rfl) (by kernel_rfl) (fun _ _ _ h => h) (by rfl) (by exact hHeld) ?_ ?_
              rotate_left
              · (intro w0 hS0; go_simp <;> (try with_reducible rfl))
              try simp only [Act.put, List.setIfInBounds_toArray, List.set_cons_zero, List.set_cons_succ]
              refine wpAnyZ_read (i := 7) (oi := { dst := some 102, op := Go.Op.slice 34 (Go.Operand.tmp 100) none (some (Go.Operand.tmp 101)) none, type := 34, pos := "ref.go:233", after := #[{ on := 5, ground := Go.Ground.data }, { on := 6, ground := Go.Ground.data }], guard := none }) ?_ rfl (by kernel_rfl) (by kernel_rfl) (by kernel_rfl) (by kernel_rfl) (fun _ _ _ h => h) (by rfl) (by exact hHeld) ?_ ?_
              rotate_left
              · (intro w0 hS0; go_simp <;> (try with_reducible rfl))
              try simp only [Act.put, List.setIfInBounds_toArray, List.set_cons_zero, List.set_cons_succ]
              refine wpAnyZ_read (i := 12) (oi := { dst := some 107, op := Go.Op.load 34 (Go.Operand.tmp 106), type := 34, pos := "ref.go:233", after := #[{ on := 11, ground := Go.Ground.data }], guard := none }) ?_ rfl (by kernel_rfl) (by kernel_rfl) (by kernel_rfl) (by kernel_rfl) (fun _ _ _ h => h) (by rfl) (by exact hHeld) ?_ ?_
              rotate_left
              · (intro w0 hS0; go_simp <;> (try with_reducible rfl))
              try simp only [Act.put, List.setIfInBounds_toArray, List.set_cons_zero, List.set_cons_succ]
              refine wpAnyZ_read (i := 15) (oi := { dst := some 110, op := Go.Op.slice 34 (Go.Operand.tmp 107) (some (Go.Operand.tmp 109)) none none, type := 34, pos := "ref.go:233", after := #[{ on := 12, ground := Go.Ground.data }, { on := 14, ground := Go.Ground.data }], guard := none }) ?_ rfl (by kernel_rfl) (by kernel_rfl) (by kernel_rfl) (by kernel_rfl) (fun _ _ _ h => h) (by rfl) (by exact hHeld) ?_ ?_
              rotate_left
              · (intro w0 hS0; go_simp <;> (try with_reducible rfl))
              try simp only [Act.put, List.setIfInBounds_toArray, List.set_cons_zero, List.set_cons_succ]
              refine wpAnyZ_one (i := 1) (o := { dst := some 96, op := Go.Op.buildSlice 34 0 #[], type := 34, pos := "ref.go:233", after := #[], guard := none }) (by kernel_rfl) rfl (by rfl) (fun K hK => ?_)
              go_simp
              rw [HW.out]
              refine hK.out _ _ ?_ (fun hHeld => ?_)
              · exact d1
              clear hK K
              try simp only [Act.put, List.setIfInBounds_toArray, List.set_cons_zero, List.set_cons_succ]
              refine wpAnyZ_one (i := 8) (o := { dst := some 103, op := Go.Op.call { callee := Go.Callee.builtin Go.Builtin.append, args := #[Go.Operand.tmp 96, Go.Operand.tmp 102], argTypes := #[34, 34] }, type := 34, pos := "ref.go:233", after := #[{ on := 1, ground := Go.Ground.data }, { on := 7, ground := Go.Ground.data }], guard := none }) (by kernel_rfl) rfl (by rfl) (fun K hK => ?_)
              refine wp_app_run _ _ _ _ rfl hr1 ?_
              refine hK.out _ _ ?_ (fun hHeld => ?_)
              · exact d2
              clear hK K
              try simp only [Act.put, List.setIfInBounds_toArray, List.set_cons_zero, List.set_cons_succ]
              refine wpAnyZ_one (i := 16) (o := { dst := some 111, op := Go.Op.call { callee := Go.Callee.builtin Go.Builtin.append, args := #[Go.Operand.tmp 103, Go.Operand.tmp 110], argTypes := #[34, 34] }, type := 34, pos := "ref.go:233", after := #[{ on := 8, ground := Go.Ground.data }, { on := 15, ground := Go.Ground.data }, { on := 8, ground := Go.Ground.chain }], guard := none }) (by kernel_rfl) rfl (by rfl) (fun K hK => ?_)
              refine wp_app_run _ _ _ _ rfl hr2 ?_
              refine hK.out _ _ ?_ (fun hHeld => ?_)
              · exact d3
              clear hK K
              try simp only [Act.put, List.setIfInBounds_toArray, List.set_cons_zero, List.set_cons_succ]
              refine wpAnyZ_one (i := 17) (o := { dst := some 112, op := Go.Op.nilCheck (Go.Operand.tmp 95), type := 0, pos := "ref.go:233", after := #[{ on := 0, ground := Go.Ground.data }, { on := 0, ground := Go.Ground.phase }, { on := 1, ground := Go.Ground.phase }, { on := 2, ground := Go.Ground.phase }, { on := 3, ground := Go.Ground.phase }, { on := 4, ground := Go.Ground.phase }, { on := 5, ground := Go.Ground.phase }, { on := 6, ground := Go.Ground.phase }, { on := 7, ground := Go.Ground.phase }, { on := 8, ground := Go.Ground.phase }, { on := 9, ground := Go.Ground.phase }, { on := 10, ground := Go.Ground.phase }, { on := 11, ground := Go.Ground.phase }, { on := 12, ground := Go.Ground.phase }, { on := 13, ground := Go.Ground.phase }, { on := 14, ground := Go.Ground.phase }, { on := 15, ground := Go.Ground.phase }, { on := 16, ground := Go.Ground.phase }], guard := none }) (by kernel_rfl) rfl (by rfl) (fun K hK => ?_)
              go_simp
              refine hK.out _ _ ?_ (fun hHeld => ?_)
              · (first | assumption | trivial)
              clear hK K
              try simp only [Act.put, List.setIfInBounds_toArray, List.set_cons_zero, List.set_cons_succ]
              refine wpAnyZ_read (i := 18) (oi := { dst := some 113, op := Go.Op.fieldAddr 46 (Go.Operand.tmp 112) 7, type := 0, pos := "ref.go:233", after := #[{ on := 17, ground := Go.Ground.data }, { on := 0, ground := Go.Ground.phase }, { on := 1, ground := Go.Ground.phase }, { on := 2, ground := Go.Ground.phase }, { on := 3, ground := Go.Ground.phase }, { on := 4, ground := Go.Ground.phase }, { on := 5, ground := Go.Ground.phase }, { on := 6, ground := Go.Ground.phase }, { on := 7, ground := Go.Ground.phase }, { on := 8, ground := Go.Ground.phase }, { on := 9, ground := Go.Ground.phase }, { on := 10, ground := Go.Ground.phase }, { on := 11, ground := Go.Ground.phase }, { on := 12, ground := Go.Ground.phase }, { on := 13, ground := Go.Ground.phase }, { on := 14, ground := Go.Ground.phase }, { on := 15, ground := Go.Ground.phase }, { on := 16, ground := Go.Ground.phase }], guard := none }) ?_ rfl (by kernel_rfl) (by kernel_rfl) (by kernel_rfl) (by kernel_rfl) (fun _ _ _ h => h) (by rfl) (by exact hHeld) ?_ ?_
              rotate_left
              · (intro w0 hS0; go_simp <;> (try with_reducible rfl))
              try simp only [Act.put, List.setIfInBounds_toArray, List.set_cons_zero, List.set_cons_succ]
              refine wpAnyZ_last (o := { dst := none, op := Go.Op.store 34 (Go.Operand.tmp 113) (Go.Operand.tmp 111), type := 0, pos := "ref.go:233", after := #[{ on := 18, ground := Go.Ground.data }, { on := 16, ground := Go.Ground.data }, { on := 16, ground := Go.Ground.chain }, { on := 0, ground := Go.Ground.phase }, { on := 1, ground := Go.Ground.phase }, { on := 2, ground := Go.Ground.phase }, { on := 3, ground := Go.Ground.phase }, { on := 4, ground := Go.Ground.phase }, { on := 5, ground := Go.Ground.phase }, { on := 6, ground := Go.Ground.phase }, { on := 7, ground := Go.Ground.phase }, { on := 8, ground := Go.Ground.phase }, { on := 9, ground := Go.Ground.phase }, { on := 10, ground := Go.Ground.phase }, { on := 11, ground := Go.Ground.phase }, { on := 12, ground := Go.Ground.phase }, { on := 13, ground := Go.Ground.phase }, { on := 14, ground := Go.Ground.phase }, { on := 15, ground := Go.Ground.phase }, { on := 16, ground := Go.Ground.phase }], guard := none }) (by kernel_rfl) rfl (by rfl) (fun K hK => ?_)
              go_simp
              refine hK.out _ _ ?_
              clear hK K
              try simp only [Act.put, List.setIfInBounds_toArray, List.set_cons_zero, List.set_cons_succ]
              refine wpAnyZ_done (by kernel_rfl) ?_ _
              rw [HX4.out]
              have q0 := blk_cell H8.out.2.1 0; have q1 := blk_cell H8.out.2.1 1; have q2 := blk_cell H8.out.2.1 2; have g0 := blk_free H8.out.2.1 0; have g1' := blk_free H8.out.2.1 1; have g2 := blk_free H8.out.2.1 2
              go_wp2_with fail
              obtain ⟨hx8, r8, b5, hl5, hlt5, hNe⟩ := H8.out
              have kk := fun j => blk_cell (set3R (x := .bool false) (y := .int .u8 98) (z := .string xb) r8) j
              refine bodyPost_ret (res_three rfl rfl (Tryz.isAgg31 _) (Tryz.sizeOf31 _) (kk 0) (kk 1) (kk 2)) rfl ⟨by rw [← HRES.out, HC.out, ← HXB.out]; rfl, ?_⟩
              rw [← HRES.out, HC.out]
              exact XW.boxedZ (Z := fun k => k = N + 1) hx8 b5 hlt5 (fun k e => by omega) set3R_fr
end Go.Proofs.YtmgnhbihfgpccaaGreatDoor
end
