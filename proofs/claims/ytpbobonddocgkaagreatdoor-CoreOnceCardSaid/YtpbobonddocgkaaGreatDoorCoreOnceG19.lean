/- Texts of this proof, one behind the other. -/
import Derived.Test.YtpbobonddocgkaaGreatDoorCoreOnceG13
import Derived.Test.YtpbobonddocgkaaGreatDoorCoreOnceG15
set_option linter.unusedVariables false
set_option linter.unusedSimpArgs false
section
/- Layer 23: what New makes, piece by piece. -/
namespace Go.Proofs.YtpbobonddocgkaaGreatDoor
open Go Go.RowKit Go.Maps Go.Lib

set_option maxRecDepth 100000 in
set_option maxHeartbeats 4000000 in
theorem pul_newG {nm : ByteArray} {n0 n1 n2 n3 n4 n5 n6 n7 pg gr rg : Int} (hp : 1 ≤ pg ∧ pg ≤ 1000000 ∧ 1 ≤ gr ∧ gr ≤ 1000000 ∧ 1 ≤ rg ∧ rg ≤ 1000000) (w : World) : Calls Tryz.prog 20 #[.agg #[.string nm, .string ⟨#[]⟩, .string ⟨#[]⟩, .string ⟨#[]⟩, .int .i64 n0, .int .i64 n1, .int .i64 n2, .int .i64 n3, .int .i64 n4, .int .i64 n5, .int .i64 n6, .int .i64 n7, .int .i64 pg, .int .i64 gr, .int .i64 rg]] w (NewPu pg gr rg w) := by
  have H1 := Lib.hid (fun W => tick_one ⟨hp.1, hp.2.1⟩ W)
  have H2 := Lib.hid (fun W => tick_one ⟨hp.2.2.1, hp.2.2.2.1⟩ W)
  have H3 := Lib.hid (fun W => tick_one ⟨hp.2.2.2.2.1, hp.2.2.2.2.2⟩ W)
  have HP := Lib.hid hp
  clear hp
  obtain ⟨w2, hw2⟩ : ∃ w2, w.alloc (Obj.cells #[.string nm, .string ⟨#[]⟩, .string ⟨#[]⟩, .string ⟨#[]⟩, .int .i64 n0, .int .i64 n1, .int .i64 n2, .int .i64 n3, .int .i64 n4, .int .i64 n5, .int .i64 n6, .int .i64 n7, .int .i64 pg, .int .i64 gr, .int .i64 rg] 29) = w2 := ⟨_, rfl⟩
  have hb : w2.heap[w.heap.size]? = some (.cells #[.string nm, .string ⟨#[]⟩, .string ⟨#[]⟩, .string ⟨#[]⟩, .int .i64 n0, .int .i64 n1, .int .i64 n2, .int .i64 n3, .int .i64 n4, .int .i64 n5, .int .i64 n6, .int .i64 n7, .int .i64 pg, .int .i64 gr, .int .i64 rg] 29 (0, 0)) := by rw [← hw2]; exact heap_alloc_new w _
  have z2 : w2.heap.size = w.heap.size + 1 := by rw [← hw2]; simp
  have f2 : RowKit.Below w.heap.size w w2 := by rw [← hw2]; exact (Below.refl _ w).alloc (Nat.le_refl _) _
  have hc : ∀ V, RowKit.Below w2.heap.size w2 V → V.cell? ⟨w.heap.size, 12, none⟩ = some (.int .i64 pg) ∧ V.cell? ⟨w.heap.size, 13, none⟩ = some (.int .i64 gr) ∧ V.cell? ⟨w.heap.size, 14, none⟩ = some (.int .i64 rg) := fun V hV => by
    have hb2 := (Fr.of_below (X := fun _ => False) hV).blk hb fun e => e
    exact ⟨blk_cell hb2 12, blk_cell hb2 13, blk_cell hb2 14⟩
  have HC := Lib.hid hc
  have HW := Lib.hid hw2
  have HB := Lib.hid (And.intro z2 f2)
  clear hc hw2 hb z2 f2
  go_enter Tryz.func20, Tryz.ntmps20
  go_wp2_with fail
  rw [HW.out]
  have C0 : Hid (RowKit.Below w2.heap.size w2 w2.drew) := (Below.refl _ _).drew
  refine wp_region_held_drew (S := fun V => RowKit.Below w2.heap.size w2 V) (by kernel_rfl) (by exact C0.out) (fun hHeld => ?_)
  refine wpAnyH_read (i := 0) (oi := { dst := some 4, op := Go.Op.move (Go.Operand.tmp 3), type := 101, pos := "pulse.go:27", after := #[], guard := none }) ?_ rfl (by kernel_rfl) (by kernel_rfl) (by kernel_rfl) (fun _ _ _ h => h) (by rfl) (by assumption) ?_ ?_
  rotate_left
  · (intro w0 hS0; go_simp <;> (try with_reducible rfl))
  try simp only [Act.put, List.setIfInBounds_toArray, List.set_cons_zero, List.set_cons_succ]
  refine wpAnyH_read (i := 1) (oi := { dst := some 5, op := Go.Op.fieldAddr 29 (Go.Operand.tmp 1) 12, type := 0, pos := "pulse.go:27", after := #[], guard := none }) ?_ rfl (by kernel_rfl) (by kernel_rfl) (by kernel_rfl) (fun _ _ _ h => h) (by rfl) (by assumption) ?_ ?_
  rotate_left
  · (intro w0 hS0; go_simp <;> (try with_reducible rfl))
  try simp only [Act.put, List.setIfInBounds_toArray, List.set_cons_zero, List.set_cons_succ]
  refine wpAnyH_read (i := 4) (oi := { dst := some 8, op := Go.Op.move (Go.Operand.tmp 3), type := 101, pos := "pulse.go:27", after := #[], guard := none }) ?_ rfl (by kernel_rfl) (by kernel_rfl) (by kernel_rfl) (fun _ _ _ h => h) (by rfl) (by assumption) ?_ ?_
  rotate_left
  · (intro w0 hS0; go_simp <;> (try with_reducible rfl))
  try simp only [Act.put, List.setIfInBounds_toArray, List.set_cons_zero, List.set_cons_succ]
  refine wpAnyH_read (i := 5) (oi := { dst := some 9, op := Go.Op.fieldAddr 29 (Go.Operand.tmp 1) 13, type := 0, pos := "pulse.go:27", after := #[], guard := none }) ?_ rfl (by kernel_rfl) (by kernel_rfl) (by kernel_rfl) (fun _ _ _ h => h) (by rfl) (by assumption) ?_ ?_
  rotate_left
  · (intro w0 hS0; go_simp <;> (try with_reducible rfl))
  try simp only [Act.put, List.setIfInBounds_toArray, List.set_cons_zero, List.set_cons_succ]
  refine wpAnyH_read (i := 8) (oi := { dst := some 12, op := Go.Op.move (Go.Operand.tmp 3), type := 101, pos := "pulse.go:27", after := #[], guard := none }) ?_ rfl (by kernel_rfl) (by kernel_rfl) (by kernel_rfl) (fun _ _ _ h => h) (by rfl) (by assumption) ?_ ?_
  rotate_left
  · (intro w0 hS0; go_simp <;> (try with_reducible rfl))
  try simp only [Act.put, List.setIfInBounds_toArray, List.set_cons_zero, List.set_cons_succ]
  refine wpAnyH_read (i := 9) (oi := { dst := some 13, op := Go.Op.fieldAddr 29 (Go.Operand.tmp 1) 14, type := 0, pos := "pulse.go:27", after := #[], guard := none }) ?_ rfl (by kernel_rfl) (by kernel_rfl) (by kernel_rfl) (fun _ _ _ h => h) (by rfl) (by assumption) ?_ ?_
  rotate_left
  · (intro w0 hS0; go_simp <;> (try with_reducible rfl))
  try simp only [Act.put, List.setIfInBounds_toArray, List.set_cons_zero, List.set_cons_succ]
  refine wpAnyH_read (i := 2) (oi := { dst := some 6, op := Go.Op.load 3 (Go.Operand.tmp 5), type := 3, pos := "pulse.go:27", after := #[{ on := 1, ground := Go.Ground.data }], guard := none }) ?_ rfl (by kernel_rfl) (by kernel_rfl) (by kernel_rfl) (fun _ _ _ h => h) (by rfl) (by assumption) ?_ ?_
  rotate_left
  · (intro w0 hS0; (try dsimp only at hS0); obtain ⟨s1, s2, s3⟩ := HC.out w0 hS0; go_simp <;> (try with_reducible rfl))
  try simp only [Act.put, List.setIfInBounds_toArray, List.set_cons_zero, List.set_cons_succ]
  refine wpAnyH_read (i := 6) (oi := { dst := some 10, op := Go.Op.load 3 (Go.Operand.tmp 9), type := 3, pos := "pulse.go:27", after := #[{ on := 5, ground := Go.Ground.data }], guard := none }) ?_ rfl (by kernel_rfl) (by kernel_rfl) (by kernel_rfl) (fun _ _ _ h => h) (by rfl) (by assumption) ?_ ?_
  rotate_left
  · (intro w0 hS0; (try dsimp only at hS0); obtain ⟨s1, s2, s3⟩ := HC.out w0 hS0; go_simp <;> (try with_reducible rfl))
  try simp only [Act.put, List.setIfInBounds_toArray, List.set_cons_zero, List.set_cons_succ]
  refine wpAnyH_read (i := 10) (oi := { dst := some 14, op := Go.Op.load 3 (Go.Operand.tmp 13), type := 3, pos := "pulse.go:27", after := #[{ on := 9, ground := Go.Ground.data }], guard := none }) ?_ rfl (by kernel_rfl) (by kernel_rfl) (by kernel_rfl) (fun _ _ _ h => h) (by rfl) (by assumption) ?_ ?_
  rotate_left
  · (intro w0 hS0; (try dsimp only at hS0); obtain ⟨s1, s2, s3⟩ := HC.out w0 hS0; go_simp <;> (try with_reducible rfl))
  try simp only [Act.put, List.setIfInBounds_toArray, List.set_cons_zero, List.set_cons_succ]
  refine wpAnyH_one (i := 3) (o := { dst := some 7, op := Go.Op.call { callee := Go.Callee.value (Go.Operand.tmp 4), args := #[Go.Operand.tmp 6], argTypes := #[3] }, type := 3, pos := "pulse.go:28", after := #[{ on := 0, ground := Go.Ground.data }, { on := 2, ground := Go.Ground.data }], guard := none }) (by kernel_rfl) rfl (by rfl) (fun K hK => ?_)
  go_simp
  refine (H1.out _).mono ?_
  rintro e w9 ⟨rfl, rfl⟩
  go_wp2_with fail
  refine hK.out _ _ ?_ (fun hHeld => ?_)
  · (first | assumption | trivial)
  clear hK K
  try simp only [Act.put, List.setIfInBounds_toArray, List.set_cons_zero, List.set_cons_succ]
  refine wpAnyH_one (i := 7) (o := { dst := some 11, op := Go.Op.call { callee := Go.Callee.value (Go.Operand.tmp 8), args := #[Go.Operand.tmp 10], argTypes := #[3] }, type := 3, pos := "pulse.go:29", after := #[{ on := 4, ground := Go.Ground.data }, { on := 6, ground := Go.Ground.data }, { on := 3, ground := Go.Ground.chain }], guard := none }) (by kernel_rfl) rfl (by rfl) (fun K hK => ?_)
  go_simp
  refine (H2.out _).mono ?_
  rintro e w9 ⟨rfl, rfl⟩
  go_wp2_with fail
  refine hK.out _ _ ?_ (fun hHeld => ?_)
  · (first | assumption | trivial)
  clear hK K
  try simp only [Act.put, List.setIfInBounds_toArray, List.set_cons_zero, List.set_cons_succ]
  refine wpAnyH_one (i := 11) (o := { dst := some 15, op := Go.Op.call { callee := Go.Callee.value (Go.Operand.tmp 12), args := #[Go.Operand.tmp 14], argTypes := #[3] }, type := 3, pos := "pulse.go:30", after := #[{ on := 8, ground := Go.Ground.data }, { on := 10, ground := Go.Ground.data }, { on := 7, ground := Go.Ground.chain }], guard := none }) (by kernel_rfl) rfl (by rfl) (fun K hK => ?_)
  go_simp
  refine (H3.out _).mono ?_
  rintro e w9 ⟨rfl, rfl⟩
  go_wp2_with fail
  refine hK.out _ _ ?_ (fun hHeld => ?_)
  · (first | assumption | trivial)
  clear hK K
  try simp only [Act.put, List.setIfInBounds_toArray, List.set_cons_zero, List.set_cons_succ]
  refine wpAnyH_one (i := 12) (o := { dst := some 16, op := Go.Op.call { callee := Go.Callee.value (Go.Operand.func 51), args := #[], argTypes := #[] }, type := 102, pos := "pulse.go:31", after := #[{ on := 11, ground := Go.Ground.chain }], guard := none }) (by kernel_rfl) rfl (by rfl) (fun K hK => ?_)
  go_simp
  refine (tim_newI _).mono ?_
  rintro e v1 ⟨t1, m1, rfl, k1, c1⟩
  have K1 := Lib.hid k1
  have C1 : Hid (RowKit.Below w2.heap.size w2 v1) := C0.out.trans (c1.mono C0.out.size)
  have D1 := Lib.hid c1
  clear k1 c1
  go_wp2_with fail
  refine hK.out _ _ ?_ (fun hHeld => ?_)
  · exact C1.out
  clear hK K
  try simp only [Act.put, List.setIfInBounds_toArray, List.set_cons_zero, List.set_cons_succ]
  refine wpAnyH_one (i := 13) (o := { dst := some 17, op := Go.Op.call { callee := Go.Callee.value (Go.Operand.func 51), args := #[], argTypes := #[] }, type := 102, pos := "pulse.go:32", after := #[{ on := 12, ground := Go.Ground.chain }], guard := none }) (by kernel_rfl) rfl (by rfl) (fun K hK => ?_)
  go_simp
  refine (tim_newI _).mono ?_
  rintro e v2 ⟨t2, m2, rfl, k2, c2⟩
  have K2 := Lib.hid k2
  have C2 : Hid (RowKit.Below w2.heap.size w2 v2) := C1.out.trans (c2.mono C1.out.size)
  have D2 := Lib.hid c2
  clear k2 c2
  go_wp2_with fail
  refine hK.out _ _ ?_ (fun hHeld => ?_)
  · exact C2.out
  clear hK K
  try simp only [Act.put, List.setIfInBounds_toArray, List.set_cons_zero, List.set_cons_succ]
  refine wpAnyH_one (i := 14) (o := { dst := some 18, op := Go.Op.call { callee := Go.Callee.value (Go.Operand.func 51), args := #[], argTypes := #[] }, type := 102, pos := "pulse.go:33", after := #[{ on := 13, ground := Go.Ground.chain }], guard := none }) (by kernel_rfl) rfl (by rfl) (fun K hK => ?_)
  go_simp
  refine (tim_newI _).mono ?_
  rintro e v3 ⟨t3, m3, rfl, k3, c3⟩
  have K3 := Lib.hid k3
  have C3 : Hid (RowKit.Below w2.heap.size w2 v3) := C2.out.trans (c3.mono C2.out.size)
  have D3 := Lib.hid c3
  clear k3 c3
  go_wp2_with fail
  refine hK.out _ _ ?_ (fun hHeld => ?_)
  · exact C3.out
  clear hK K
  try simp only [Act.put, List.setIfInBounds_toArray, List.set_cons_zero, List.set_cons_succ]
  refine wpAnyH_read (i := 15) (oi := { dst := some 19, op := Go.Op.build 105 #[(0, Go.Operand.tmp 7), (1, Go.Operand.tmp 11), (2, Go.Operand.tmp 15), (3, Go.Operand.tmp 16), (4, Go.Operand.tmp 17), (5, Go.Operand.tmp 18)], type := 105, pos := "pulse.go:27", after := #[{ on := 3, ground := Go.Ground.data }, { on := 7, ground := Go.Ground.data }, { on := 11, ground := Go.Ground.data }, { on := 12, ground := Go.Ground.data }, { on := 13, ground := Go.Ground.data }, { on := 14, ground := Go.Ground.data }], guard := none }) ?_ rfl (by kernel_rfl) (by kernel_rfl) (by kernel_rfl) (fun _ _ _ h => h) (by rfl) (by assumption) ?_ ?_
  rotate_left
  · (intro w0 hS0; go_simp <;> (try with_reducible rfl))
  try simp only [Act.put, List.setIfInBounds_toArray, List.set_cons_zero, List.set_cons_succ]
  refine wpAnyH_one (i := 16) (o := { dst := some 20, op := Go.Op.box 105 (Go.Operand.tmp 19), type := 49, pos := "pulse.go:27", after := #[{ on := 15, ground := Go.Ground.data }], guard := none }) (by kernel_rfl) rfl (by rfl) (fun K hK => ?_)
  go_simp
  refine hK.out _ _ ?_ (fun hHeld => ?_)
  · exact C3.out.alloc (C3.out.size) _
  clear hK K
  try simp only [Act.put, List.setIfInBounds_toArray, List.set_cons_zero, List.set_cons_succ]
  refine wpAnyH_read (i := 17) (oi := { dst := some 2, op := Go.Op.assign (Go.Operand.tmp 20), type := 49, pos := "pulse.go:27", after := #[{ on := 16, ground := Go.Ground.data }, { on := 14, ground := Go.Ground.chain }, { on := 0, ground := Go.Ground.phase }, { on := 1, ground := Go.Ground.phase }, { on := 2, ground := Go.Ground.phase }, { on := 3, ground := Go.Ground.phase }, { on := 4, ground := Go.Ground.phase }, { on := 5, ground := Go.Ground.phase }, { on := 6, ground := Go.Ground.phase }, { on := 7, ground := Go.Ground.phase }, { on := 8, ground := Go.Ground.phase }, { on := 9, ground := Go.Ground.phase }, { on := 10, ground := Go.Ground.phase }, { on := 11, ground := Go.Ground.phase }, { on := 12, ground := Go.Ground.phase }, { on := 13, ground := Go.Ground.phase }, { on := 14, ground := Go.Ground.phase }, { on := 15, ground := Go.Ground.phase }, { on := 16, ground := Go.Ground.phase }], guard := none }) ?_ rfl (by kernel_rfl) (by kernel_rfl) (by kernel_rfl) (fun _ _ _ h => h) (by rfl) (by assumption) ?_ ?_
  rotate_left
  · (intro w0 hS0; go_simp <;> (try with_reducible rfl))
  try simp only [Act.put, List.setIfInBounds_toArray, List.set_cons_zero, List.set_cons_succ]
  refine wpAnyH_done (by kernel_rfl) ?_ _
  go_wp2_with fail
  go_ret
  obtain ⟨z2, f2⟩ := HB.out
  have y1 := C1.out.size
  have y2 := C2.out.size
  have y3 := C3.out.size
  have zd : w2.drew.heap.size = w2.heap.size := rfl
  have k1 := K1.out
  have k2 := K2.out
  have k3 := K3.out
  have q2 := D2.out
  have q3 := D3.out
  have e1 := tabI_lt k1
  have e2 := tabI_lt k2
  have e3 := tabI_lt k3
  have r2 := q2.size
  have r3 := q3.size
  have hp := HP.out
  have fN : Fr (fun _ => False) v3 (v3.alloc (Obj.cells #[Value.int IntKind.i64 pg, Value.int IntKind.i64 gr, Value.int IntKind.i64 rg, Value.pointer (some { block := t1, off := 0 }), Value.pointer (some { block := t2, off := 0 }), Value.pointer (some { block := t3, off := 0 })] 105)) := (Fr.refl _ _).alloc _
  have base : ∀ {b b2 : Nat} {V : World} {t m : Nat} {T : Tab}, TabI b V t m T → b2 ≤ b → TabI b2 V t m T := fun h hb => ⟨Nat.le_trans hb h.1, Nat.le_trans hb h.2.1, h.2.2⟩
  have g1 := base (b2 := w.heap.size) (tabI_fr (tabI_below (tabI_below k1 q2) q3) fN (fun e => e) fun e => e) (by omega)
  have g2 := base (b2 := w.heap.size) (tabI_fr (tabI_below k2 q3) fN (fun e => e) fun e => e) (by omega)
  have g3 := base (b2 := w.heap.size) (tabI_fr k3 fN (fun e => e) fun e => e) (by omega)
  have l1 := k1.1
  have l1b := k1.2.1
  have l2 := k2.1
  have l2b := k2.2.1
  have l3 := k3.1
  have l3b := k3.2.1
  refine ⟨⟨v3.heap.size, t1, m1, t2, m2, t3, m3⟩, rfl, ⟨by show w.heap.size ≤ v3.heap.size; omega, heap_alloc_new v3 _, g1, g2, g3, ?_, hp, fun p h => (by cases h), fun p h => (by cases h), fun p h => (by cases h)⟩, ?_⟩
  · dsimp only
    refine ⟨⟨?_, ?_, ?_⟩, ⟨?_, ?_⟩, ⟨?_, ?_⟩, ⟨?_, ?_⟩, ?_, ?_, ?_⟩ <;> omega
  · exact f2.trans ((C3.out.mono f2.size).alloc (by omega) _)
theorem row_baseG {W : World} {base b : Nat} {e : TypeId} {size : Nat} {v : Value} {n : Nat} {xs : List Value} (h : W.ownsRow base e size v n xs) (hb : b ≤ base) : W.ownsRow b e size v n xs := by
  obtain ⟨k1, k2⟩ := h
  refine ⟨k1, ?_⟩
  rcases k2 with k2 | ⟨g, cap, cur, k3, k4, k5⟩
  · exact .inl k2
  · exact .inr ⟨g, cap, cur, k3, by omega, k5⟩
theorem RelAtIS.rebase {base b : Nat} {w : World} {t : Nat} {X : Nat → Prop} {most : Int} {L : List (Int × List UInt8)} (h : RelAtIS base w t X most L) (hb : b ≤ base) : RelAtIS b w t X most L := by
  obtain ⟨b1, b2, T1, T2, h, hX⟩ := h
  refine ⟨b1, b2, T1, T2, ⟨by have := h.le; omega, h.blk, ?_, ?_, h.n1, h.n2, h.ap, h.t1, h.t2, h.h1, h.h2, h.nd⟩, hX⟩
  · obtain ⟨a1, a2, a3, a4⟩ := h.m1
    refine ⟨by omega, a2, fun p hp => ?_, a4⟩
    obtain ⟨⟨⟨v, s1, s2, s3⟩, s4, s5⟩, c2, c3⟩ := a3 p hp
    exact ⟨⟨⟨v, s1, s2, row_baseG s3 hb⟩, s4, s5⟩, by omega, c3⟩
  · obtain ⟨a1, a2, a3, a4⟩ := h.m2
    refine ⟨by omega, a2, fun p hp => ?_, a4⟩
    obtain ⟨⟨⟨v, s1, s2, s3⟩, s4, s5⟩, c2, c3⟩ := a3 p hp
    exact ⟨⟨⟨v, s1, s2, row_baseG s3 hb⟩, s4, s5⟩, by omega, c3⟩
theorem WisAt.rebase {base b : Nat} {w : World} {l : Nat} {Y : Nat → Prop} {most : Int} {U : List WEnt} (h : WisAt base w l Y most U) (hb : b ≤ base) : WisAt b w l Y most U := by
  obtain ⟨t, c, X, T, h1, h2, h3, h4, h5, h6⟩ := h
  exact ⟨t, c, X, T, by omega, by omega, h3, h4, h5.rebase hb, h6⟩
theorem tabI_base {base b : Nat} {w : World} {t c : Nat} {T : List (KeyI × Int)} (h : TabI base w t c T) (hb : b ≤ base) : TabI b w t c T := ⟨by have := h.1; omega, by have := h.2.1; omega, h.2.2⟩
theorem PulG.rebase {base b : Nat} {W : World} {B : PB} {pg gr rg : Int} {L Q A : Tab} (h : PulG base W B pg gr rg L Q A) (hb : b ≤ base) : PulG b W B pg gr rg L Q A :=
  ⟨by have := h.bp; omega, h.box, tabI_base h.tl hb, tabI_base h.tq hb, tabI_base h.ta hb, h.far, h.pb, h.sl, h.sq, h.sa⟩
theorem bokI_base {base b' : Nat} {w : World} {t b : Nat} {most : Int} {T : List (KeyB × Ent VI)} (h : BokI base w t b most T) (hb : b' ≤ base) : BokI b' w t b most T := ⟨by have := h.1; omega, by have := h.2.1; omega, h.2.2⟩
set_option maxHeartbeats 1000000 in
theorem bookP_new {most : Int} (hm : 0 ≤ most ∧ most ≤ 100000) (w : World) : Calls Tryz.prog 48 #[.int .i64 most] w fun e w' => (∃ t, e = .returned (.tuple #[.pointer (some ⟨t, 0, none⟩), .int .i64 0])) ∧ Below w.heap.size w w' := by
  have hmm := @run_makeMap Tryz.prog
  have p1 : decide (most < 0) = false := by simp; omega
  have p2 : decide (100000 < most) = false := by simp; omega
  have p3 : ¬ most < 0 := by omega
  have p4 : ¬ 100000 < most := by omega
  go_enter Tryz.func48, Tryz.ntmps48
  go_wp2_with fail
  go_ret2
  exact ⟨⟨_, rfl⟩, ((Below.refl _ _).alloc (Nat.le_refl _) _).alloc (by simp) _⟩
set_option maxRecDepth 100000 in
set_option maxHeartbeats 4000000 in
theorem rooms_newG {nm : ByteArray} {n0 n1 n2 n3 n4 n5 n6 n7 n8 n9 n10 : Int} (h1 : 0 ≤ n3 ∧ n3 ≤ 100000) (h2 : 0 ≤ n2 ∧ n2 ≤ 100000) (w : World) : Calls Tryz.prog 18 #[.agg #[.string nm, .string ⟨#[]⟩, .string ⟨#[]⟩, .string ⟨#[]⟩, .int .i64 n0, .int .i64 n1, .int .i64 n2, .int .i64 n3, .int .i64 n4, .int .i64 n5, .int .i64 n6, .int .i64 n7, .int .i64 n8, .int .i64 n9, .int .i64 n10]] w fun e w' => (∃ R, e = .returned (.pointer (some ⟨R, 0, none⟩))) ∧ Below w.heap.size w w' := by
  have HB := Lib.hid (fun W => bookP_new h1 W)
  have HP := Lib.hid (fun W => relNewIS h2 W)
  clear h1 h2
  obtain ⟨N, hN⟩ : ∃ N, w.heap.size = N := ⟨_, rfl⟩
  obtain ⟨W1, hW1⟩ : ∃ W1, (w.alloc (.cells #[.string nm, .string ⟨#[]⟩, .string ⟨#[]⟩, .string ⟨#[]⟩, .int .i64 n0, .int .i64 n1, .int .i64 n2, .int .i64 n3, .int .i64 n4, .int .i64 n5, .int .i64 n6, .int .i64 n7, .int .i64 n8, .int .i64 n9, .int .i64 n10] 29)).alloc (.cells #[.string nm, .string ⟨#[]⟩, .string ⟨#[]⟩, .string ⟨#[]⟩, .int .i64 n0, .int .i64 n1, .int .i64 n2, .int .i64 n3, .int .i64 n4, .int .i64 n5, .int .i64 n6, .int .i64 n7, .int .i64 n8, .int .i64 n9, .int .i64 n10, .pointer none, .pointer none] 95) = W1 := ⟨_, rfl⟩
  have f1 : Fr (fun _ => False) w W1 := by rw [← hW1]; exact ((Fr.refl _ w).alloc _).alloc _
  have z1 : W1.heap.size = N + 2 := by rw [← hW1, ← hN]; simp
  have k0 : W1.heap[N]? = some (.cells #[.string nm, .string ⟨#[]⟩, .string ⟨#[]⟩, .string ⟨#[]⟩, .int .i64 n0, .int .i64 n1, .int .i64 n2, .int .i64 n3, .int .i64 n4, .int .i64 n5, .int .i64 n6, .int .i64 n7, .int .i64 n8, .int .i64 n9, .int .i64 n10] 29 (0, 0)) := by rw [← hW1, ← hN]; exact blk_alloc (heap_alloc_new w _) _
  have k1 : W1.heap[N + 1]? = some (.cells #[.string nm, .string ⟨#[]⟩, .string ⟨#[]⟩, .string ⟨#[]⟩, .int .i64 n0, .int .i64 n1, .int .i64 n2, .int .i64 n3, .int .i64 n4, .int .i64 n5, .int .i64 n6, .int .i64 n7, .int .i64 n8, .int .i64 n9, .int .i64 n10, .pointer none, .pointer none] 95 (0, 0)) := by rw [← hW1, ← hN]; exact heap_alloc2_new w _ _
  have H := Lib.hid (And.intro f1 (And.intro z1 (And.intro k0 (And.intro k1 hN))))
  have HW := Lib.hid (And.intro hN hW1)
  clear f1 z1 k0 k1 hN hW1
  go_enter Tryz.func18, Tryz.ntmps18
  go_wp2_with fail
  rw [HW.out.1]
  rw [HW.out.2]
  clear HW
  refine (HB.out W1).mono ?_
  rintro e w2 ⟨⟨t, rfl⟩, hb⟩
  have f2 : Fr (fun _ => False) W1 w2 := Fr.of_below hb
  obtain ⟨f1, z1, k0, k1, hN⟩ := H.out
  have j0 := f2.blk k0 fun e => e
  have j1 := f2.blk k1 fun e => e
  have c15 := blk_cell j1 15
  have d15 := blk_free j1 15
  obtain ⟨w3, hw3⟩ : ∃ w3, w2.setCell ⟨N + 1, 15, none⟩ (.pointer (some ⟨t, 0, none⟩)) = w3 := ⟨_, rfl⟩
  have f3 : Fr (fun k => k = N + 1) w2 w3 := by rw [← hw3]; exact (Fr.refl (fun k => k = N + 1) w2).setCell ⟨N + 1, 15, none⟩ rfl _
  have l0 := f3.blk j0 (by omega)
  have l1 : w3.heap[N + 1]? = some (.cells #[.string nm, .string ⟨#[]⟩, .string ⟨#[]⟩, .string ⟨#[]⟩, .int .i64 n0, .int .i64 n1, .int .i64 n2, .int .i64 n3, .int .i64 n4, .int .i64 n5, .int .i64 n6, .int .i64 n7, .int .i64 n8, .int .i64 n9, .int .i64 n10, .pointer (some ⟨t, 0, none⟩), .pointer none] 95 (0, 0)) := by rw [← hw3]; exact blk_set j1 15 _
  have e6 := blk_cell j0 6
  have e7 : (w2.setCell ⟨N + 1, 15, none⟩ (.pointer (some ⟨t, 0, none⟩))).cell? ⟨N, 6, none⟩ = some (.int .i64 n2) := by rw [hw3]; exact blk_cell l0 6
  have K := Lib.hid (And.intro f1 (And.intro f2 (And.intro f3 (And.intro l1 (And.intro hN z1)))))
  have HW3 := Lib.hid hw3
  clear f1 z1 k0 k1 hN hb f2 j0 j1 f3 l0 l1 hw3 H HB
  go_wp2_with fail
  rw [HW3.out]
  refine (HP.out w3).mono ?_
  rintro e w4 ⟨tr, X, rfl, hr, hx, hb⟩
  have f4 : Fr (fun _ => False) w3 w4 := Fr.of_below hb
  obtain ⟨f1, f2, f3, l1, hN, z1⟩ := K.out
  have j1 := f4.blk l1 fun e => e
  have c16 := blk_cell j1 16
  have d16 := blk_free j1 16
  have HQ := Lib.hid f4
  clear f1 f2 f3 l1 hN z1 hr hx hb f4 j1 HW3
  go_wp2_with fail
  go_ret
  obtain ⟨f1, f2, f3, l1, hN, z1⟩ := K.out
  have f4 := HQ.out
  have hfr : Fr (fun k => k = N + 1) w (w4.setCell ⟨N + 1, 16, none⟩ (.pointer (some ⟨tr, 0, none⟩))) := ((((f1.mono (Y := fun k => k = N + 1) fun _ _ e => e.elim).trans3 f2 fun _ _ e => e.elim).trans3 f3 fun _ _ e => e).trans3 f4 (fun _ _ e => e.elim)).setCell ⟨N + 1, 16, none⟩ rfl _
  exact ⟨⟨_, rfl⟩, hfr.below (Nat.le_refl _) fun k hk e => by omega⟩
theorem Tryz.infoWP : (Tryz.prog.info? 301).map (fun i => (i.zero, i.bytes)) = some (some (.agg #[.string ⟨#[]⟩, .int .i64 0, .string ⟨#[]⟩, .string ⟨#[]⟩, .string ⟨#[]⟩, .string ⟨#[]⟩, .string ⟨#[]⟩, .bool false, .bool false, .int .i64 0, .int .i64 0]), 128) := by kernel_rfl
set_option maxRecDepth 100000 in
set_option maxHeartbeats 1000000 in
theorem was_new0 (w : World) : Calls Tryz.prog 22 #[.int .i64 0] w fun e w' => (∃ p, e = .returned (.tuple #[.pointer (some ⟨p, 0, none⟩), .int .i64 0])) ∧ Below w.heap.size w w' := by
  have hmk : ∃ o, (Instr.makeSlice 109 (.int .i64 0) (.int .i64 0)).run Tryz.prog w = .ok (.slice (some ⟨w.heap.size, 0, none⟩) 0 0) (w.alloc o) := by
    obtain ⟨i0, hi, h1, h2⟩ : ∃ i0, Tryz.prog.info? 301 = some i0 ∧ i0.zero = some (.agg #[.string ⟨#[]⟩, .int .i64 0, .string ⟨#[]⟩, .string ⟨#[]⟩, .string ⟨#[]⟩, .string ⟨#[]⟩, .string ⟨#[]⟩, .bool false, .bool false, .int .i64 0, .int .i64 0]) ∧ i0.bytes = 128 := by
      have h := Tryz.infoWP
      cases hq : Tryz.prog.info? 301 with
      | none => rw [hq] at h; cases h
      | some i0 => rw [hq] at h; simp only [Option.map_some, Option.some.injEq, Prod.mk.injEq] at h; exact ⟨i0, rfl, h.1, h.2⟩
    exact ⟨_, run_make (P := Tryz.prog) w 109 301 i0 _ Tryz.underlying109 hi h1 .i64 .i64 0 0 (by omega) (Int.le_refl _) (by rw [h2]; omega) (by omega)⟩
  obtain ⟨o, hmk⟩ := hmk
  go_enter Tryz.func22, Tryz.ntmps22
  go_wp2_with fail
  go_ret2
  exact ⟨⟨_, rfl⟩, ((Below.refl _ _).alloc (Nat.le_refl _) _).alloc (by simp) _⟩
/-- all that New made, coloured -/
theorem co_new {base : Nat} {W : World} {G : CoG} {a4 b4 a5 b5 a6 b6 : Nat} (self : W.heap[G.c]? = some (coreO G)) (hM : OwnMIS W G.m []) (hK : BokI base W G.ht G.hb G.n0 []) (hO : WisAt base W G.mo G.YM G.n6 G.U) (hW : WisAt base W G.wa G.YW G.n5 []) (hP : PulG base W G.PB G.n8 G.n9 G.n10 [] [] [])
    (rO : ∀ j, G.YM j → a4 ≤ j ∧ j < b4) (rW : ∀ j, G.YW j → a5 ≤ j ∧ j < b5) (rP : ∀ j, G.PB.all j → a6 ≤ j ∧ j < b6) (h4 : base ≤ a4 ∧ a4 ≤ b4 ∧ b4 ≤ a5 ∧ a5 ≤ b5 ∧ b5 ≤ a6 ∧ a6 ≤ b6 ∧ b6 ≤ G.c ∧ G.c < G.ht ∧ G.c < G.hb) (hm : base ≤ G.m ∧ G.m < G.c ∧ (G.m < a4 ∨ b4 ≤ G.m) ∧ (G.m < a5 ∨ b5 ≤ G.m) ∧ (G.m < a6 ∨ b6 ≤ G.m)) :
    ∃ C, CoAt base G C [] [] 0 W := by
  have hcl := blk_lt self
  have hkl := bokI_lt hK
  refine ⟨fun k => if k = G.c then (1, 0) else if k = G.m then (2, 0) else if k = G.ht ∨ k = G.hb then (3, 0) else if a4 ≤ k ∧ k < b4 then (4, 0) else if a5 ≤ k ∧ k < b5 then (5, 0) else if a6 ≤ k ∧ k < b6 then (6, 0) else ctag0,
    ⟨self, hM, hK, hO, hW, ⟨[], [], [], hP, Nat.le_refl _, Nat.le_refl _⟩, (fun p hp => by cases hp), (fun p hp => by cases hp), ?_, ?_, ?_, fun j hj => ?_, fun j hj => ?_, fun j hj => ?_, (fun p hp => by cases hp), (fun p hp => by cases hp), fun k hk => ?_, fun k hk => ?_⟩⟩
  · (try dsimp only); repeat' (first | rfl | (exfalso; omega) | split)
  · (try dsimp only); repeat' (first | rfl | (exfalso; omega) | split)
  · refine ⟨?_, ?_⟩ <;> (try dsimp only) <;> repeat' (first | rfl | (exfalso; omega) | split)
  · have := rO j hj; (try dsimp only); repeat' (first | rfl | (exfalso; omega) | split)
  · have := rW j hj; (try dsimp only); repeat' (first | rfl | (exfalso; omega) | split)
  · have := rP j hj; (try dsimp only); repeat' (first | rfl | (exfalso; omega) | split)
  · have := hkl.1; have := hkl.2; (try dsimp only); repeat' (first | rfl | (exfalso; omega) | split)
  · (try dsimp only); repeat' (first | rfl | (exfalso; omega) | split)
end Go.Proofs.YtpbobonddocgkaaGreatDoor
end
section
/- Layer 15: Check on both sides. -/
namespace Go.Proofs.YtpbobonddocgkaaGreatDoor
open Go.RowKit

/-- a configuration, as a value -/
def cfg (nm ps on op : ByteArray) (n0 n1 n2 n3 n4 n5 n6 n7 n8 n9 n10 : Int) : Value := .agg #[.string nm, .string ps, .string on, .string op, .int .i64 n0, .int .i64 n1, .int .i64 n2, .int .i64 n3, .int .i64 n4, .int .i64 n5, .int .i64 n6, .int .i64 n7, .int .i64 n8, .int .i64 n9, .int .i64 n10]
/-- may all numbers be as they are? -/
def numsB (n0 n1 n2 n3 n4 n5 n6 n7 n8 n9 n10 : Int) : Bool := inR n0 1 1000 && inR n1 512 65536 && inR n2 1 1000 && inR n3 1 1000 && inR n4 1 1000 && inR n5 1 1000 && inR n6 1 1000 && inR n7 0 1000 && inR n8 1 1000000 && inR n9 1 1000000 && inR n10 1 1000000
/-- the numbers' own answers, one by one -/
def numsL (n0 n1 n2 n3 n4 n5 n6 n7 n8 n9 n10 : Int) : List Bool := [inR n0 1 1000, inR n1 512 65536, inR n2 1 1000, inR n3 1 1000, inR n4 1 1000, inR n5 1 1000, inR n6 1 1000, inR n7 0 1000, inR n8 1 1000000, inR n9 1 1000000, inR n10 1 1000000]
theorem nums_all (n0 n1 n2 n3 n4 n5 n6 n7 n8 n9 n10 : Int) : numsB n0 n1 n2 n3 n4 n5 n6 n7 n8 n9 n10 = (numsL n0 n1 n2 n3 n4 n5 n6 n7 n8 n9 n10).all id := by
  simp [numsB, numsL, Bool.and_assoc]
theorem nums_no {n0 n1 n2 n3 n4 n5 n6 n7 n8 n9 n10 : Int} {k : Nat} (h : (numsL n0 n1 n2 n3 n4 n5 n6 n7 n8 n9 n10)[k]? = some false) : numsB n0 n1 n2 n3 n4 n5 n6 n7 n8 n9 n10 = false := by
  rw [nums_all, List.all_eq_false]
  exact ⟨false, List.mem_of_getElem? h, by simp⟩
theorem nums_yes {n0 n1 n2 n3 n4 n5 n6 n7 n8 n9 n10 : Int} (h : ∀ k, k < 11 → (numsL n0 n1 n2 n3 n4 n5 n6 n7 n8 n9 n10)[k]? = some true) : numsB n0 n1 n2 n3 n4 n5 n6 n7 n8 n9 n10 = true := by
  rw [nums_all, List.all_eq_true]
  intro x hx
  obtain ⟨k, hk⟩ := List.mem_iff_getElem?.1 hx
  have hl : k < 11 := by
    have := (List.getElem?_eq_some_iff.1 hk).1
    simpa [numsL] using this
  rw [h k hl] at hk
  cases hk
  rfl
/-- what the numbers are told of -/
def chkN (n0 n1 n2 n3 n4 n5 n6 n7 n8 n9 n10 : Int) : Int := if numsB n0 n1 n2 n3 n4 n5 n6 n7 n8 n9 n10 then 0 else 2
theorem chkN_yes {n0 n1 n2 n3 n4 n5 n6 n7 n8 n9 n10 : Int} (h : numsB n0 n1 n2 n3 n4 n5 n6 n7 n8 n9 n10 = true) : 0 = chkN n0 n1 n2 n3 n4 n5 n6 n7 n8 n9 n10 := by unfold chkN; rw [if_pos h]
theorem chkN_no {n0 n1 n2 n3 n4 n5 n6 n7 n8 n9 n10 : Int} {k : Nat} (h : (numsL n0 n1 n2 n3 n4 n5 n6 n7 n8 n9 n10)[k]? = some false) : 2 = chkN n0 n1 n2 n3 n4 n5 n6 n7 n8 n9 n10 := by unfold chkN; rw [nums_no h]; rfl
theorem inR_yes {n a b : Int} (h1 : a ≤ n) (h2 : n ≤ b) : some (inR n a b) = some true := by rw [show inR n a b = true from decide_eq_true ⟨h1, h2⟩]
theorem inR_no {n a b : Int} (h : ¬ (a ≤ n ∧ n ≤ b)) : some (inR n a b) = some false := by rw [show inR n a b = false from decide_eq_false h]
/-- what a configuration is told of -/
def chkI (sv pa po pp eo ep r : Bool) : Int := if sv && pa && po && pp && (eo == ep) then (if r then 0 else 2) else 4

set_option maxRecDepth 100000 in
set_option maxHeartbeats 8000000 in
theorem check_texts (nm ps on op : ByteArray) (n0 n1 n2 n3 n4 n5 n6 n7 n8 n9 n10 : Int) (w : World) (hr : Rowed w) (h1 : nm.size ≤ 1000000) (h2 : ps.size ≤ 1000000) (h3 : on.size ≤ 1000000) (h4 : op.size ≤ 1000000)
    (hno : (dec (ServP nm) && dec (PassP ps) && dec (PassP on) && dec (PassP op) && (on.toList.isEmpty == op.toList.isEmpty)) = false) :
    Calls Tryz.prog 17 #[cfg nm ps on op n0 n1 n2 n3 n4 n5 n6 n7 n8 n9 n10] w fun e w' => e = .returned (.int .i64 4) ∧ Below w.heap.size w w' := by
  unfold cfg
  obtain ⟨sv, hsv⟩ : ∃ x, dec (ServP nm) = x := ⟨_, rfl⟩
  obtain ⟨pa, hpa⟩ : ∃ x, dec (PassP ps) = x := ⟨_, rfl⟩
  obtain ⟨po, hpo⟩ : ∃ x, dec (PassP on) = x := ⟨_, rfl⟩
  obtain ⟨pp, hpp⟩ : ∃ x, dec (PassP op) = x := ⟨_, rfl⟩
  have hr1 : Rowed (w.alloc (.cells #[.string nm, .string ps, .string on, .string op, .int .i64 n0, .int .i64 n1, .int .i64 n2, .int .i64 n3, .int .i64 n4, .int .i64 n5, .int .i64 n6, .int .i64 n7, .int .i64 n8, .int .i64 n9, .int .i64 n10] 29)) := rowed_below hr (Nat.le_refl _) ((Below.refl _ _).alloc (Nat.le_refl _) _)
  rw [hsv, hpa, hpo, hpp] at hno
  have SV := Lib.hid hsv
  have PA := Lib.hid hpa
  have PO := Lib.hid hpo
  have PP := Lib.hid hpp
  clear hsv hpa hpo hpp
  go_enter Tryz.func17, Tryz.ntmps17
  go_wp2_with fail
  refine (serv_v _ _ h1 hr1).mono ?_
  rintro e w1 ⟨rfl, rfl⟩
  rw [SV.out]
  cases sv
  · go_wp2_with fail
    go_ret
    exact ⟨rfl, (Below.refl _ _).alloc (Nat.le_refl _) _⟩
  go_wp2_with fail
  refine (pass_v _ _ h2).mono ?_
  rintro e w1 ⟨rfl, rfl⟩
  rw [PA.out]
  cases pa
  · go_wp2_with fail
    go_ret
    exact ⟨rfl, (Below.refl _ _).alloc (Nat.le_refl _) _⟩
  go_wp2_with fail
  refine (pass_v _ _ h3).mono ?_
  rintro e w1 ⟨rfl, rfl⟩
  rw [PO.out]
  cases po
  · go_wp2_with fail
    go_ret
    exact ⟨rfl, (Below.refl _ _).alloc (Nat.le_refl _) _⟩
  go_wp2_with fail
  refine (pass_v _ _ h4).mono ?_
  rintro e w1 ⟨rfl, rfl⟩
  rw [PP.out]
  cases pp
  · go_wp2_with fail
    go_ret
    exact ⟨rfl, (Below.refl _ _).alloc (Nat.le_refl _) _⟩
  · cases e1 : on.toList.isEmpty <;> cases e2 : op.toList.isEmpty <;> rw [e1, e2] at hno <;> first | (exfalso; exact Bool.noConfusion hno) | skip
    all_goals
      go_wp2_with fail
      go_ret
      exact ⟨rfl, (Below.refl _ _).alloc (Nat.le_refl _) _⟩

set_option maxRecDepth 100000 in
set_option maxHeartbeats 16000000 in
theorem check_nums (nm ps on op : ByteArray) (n0 n1 n2 n3 n4 n5 n6 n7 n8 n9 n10 : Int) (w : World) (hr : Rowed w) (h1 : nm.size ≤ 1000000) (h2 : ps.size ≤ 1000000) (h3 : on.size ≤ 1000000) (h4 : op.size ≤ 1000000)
    (hsv : dec (ServP nm) = true) (hpa : dec (PassP ps) = true) (hpo : dec (PassP on) = true) (hpp : dec (PassP op) = true) (hee : (on.toList.isEmpty == op.toList.isEmpty) = true) :
    Calls Tryz.prog 17 #[cfg nm ps on op n0 n1 n2 n3 n4 n5 n6 n7 n8 n9 n10] w fun e w' => e = .returned (.int .i64 (chkN n0 n1 n2 n3 n4 n5 n6 n7 n8 n9 n10)) ∧ Below w.heap.size w w' := by
  unfold cfg
  have hr1 : Rowed (w.alloc (.cells #[.string nm, .string ps, .string on, .string op, .int .i64 n0, .int .i64 n1, .int .i64 n2, .int .i64 n3, .int .i64 n4, .int .i64 n5, .int .i64 n6, .int .i64 n7, .int .i64 n8, .int .i64 n9, .int .i64 n10] 29)) := rowed_below hr (Nat.le_refl _) ((Below.refl _ _).alloc (Nat.le_refl _) _)
  have SV := Lib.hid hsv
  have PA := Lib.hid hpa
  have PO := Lib.hid hpo
  have PP := Lib.hid hpp
  have he : on.toList.isEmpty = op.toList.isEmpty := by simpa using hee
  clear hsv hpa hpo hpp hee
  obtain ⟨b, hb⟩ : ∃ b, op.toList.isEmpty = b := ⟨_, rfl⟩
  rw [hb] at he
  go_enter Tryz.func17, Tryz.ntmps17
  go_wp2_with fail
  refine (serv_v _ _ h1 hr1).mono ?_
  rintro e w1 ⟨rfl, rfl⟩
  rw [SV.out]
  go_wp2_with fail
  refine (pass_v _ _ h2).mono ?_
  rintro e w1 ⟨rfl, rfl⟩
  rw [PA.out]
  go_wp2_with fail
  refine (pass_v _ _ h3).mono ?_
  rintro e w1 ⟨rfl, rfl⟩
  rw [PO.out]
  go_wp2_with fail
  refine (pass_v _ _ h4).mono ?_
  rintro e w1 ⟨rfl, rfl⟩
  rw [PP.out]
  go_wp2_with fail
  clear hr1
  obtain ⟨W2, hW2⟩ : ∃ W2, W2 = (w.alloc (.cells #[.string nm, .string ps, .string on, .string op, .int .i64 n0, .int .i64 n1, .int .i64 n2, .int .i64 n3, .int .i64 n4, .int .i64 n5, .int .i64 n6, .int .i64 n7, .int .i64 n8, .int .i64 n9, .int .i64 n10] 29)).alloc (.cells #[.int .i64 n0, .int .i64 1, .int .i64 1000, .int .i64 n1, .int .i64 512, .int .i64 65536, .int .i64 n2, .int .i64 1, .int .i64 1000, .int .i64 n3, .int .i64 1, .int .i64 1000, .int .i64 n4, .int .i64 1, .int .i64 1000, .int .i64 n5, .int .i64 1, .int .i64 1000, .int .i64 n6, .int .i64 1, .int .i64 1000, .int .i64 n7, .int .i64 0, .int .i64 1000, .int .i64 n8, .int .i64 1, .int .i64 1000000, .int .i64 n9, .int .i64 1, .int .i64 1000000, .int .i64 n10, .int .i64 1, .int .i64 1000000] 91) := ⟨_, rfl⟩
  rw [← hW2]
  have hcell : ∀ j v, (#[.int .i64 n0, .int .i64 1, .int .i64 1000, .int .i64 n1, .int .i64 512, .int .i64 65536, .int .i64 n2, .int .i64 1, .int .i64 1000, .int .i64 n3, .int .i64 1, .int .i64 1000, .int .i64 n4, .int .i64 1, .int .i64 1000, .int .i64 n5, .int .i64 1, .int .i64 1000, .int .i64 n6, .int .i64 1, .int .i64 1000, .int .i64 n7, .int .i64 0, .int .i64 1000, .int .i64 n8, .int .i64 1, .int .i64 1000000, .int .i64 n9, .int .i64 1, .int .i64 1000000, .int .i64 n10, .int .i64 1, .int .i64 1000000] : Array Value)[j]? = some v → W2.cell? ⟨w.heap.size + 1, j, none⟩ = some v := fun j v hv => by
    rw [hW2]
    have hrow : ((w.alloc (.cells #[.string nm, .string ps, .string on, .string op, .int .i64 n0, .int .i64 n1, .int .i64 n2, .int .i64 n3, .int .i64 n4, .int .i64 n5, .int .i64 n6, .int .i64 n7, .int .i64 n8, .int .i64 n9, .int .i64 n10] 29)).alloc (.cells #[.int .i64 n0, .int .i64 1, .int .i64 1000, .int .i64 n1, .int .i64 512, .int .i64 65536, .int .i64 n2, .int .i64 1, .int .i64 1000, .int .i64 n3, .int .i64 1, .int .i64 1000, .int .i64 n4, .int .i64 1, .int .i64 1000, .int .i64 n5, .int .i64 1, .int .i64 1000, .int .i64 n6, .int .i64 1, .int .i64 1000, .int .i64 n7, .int .i64 0, .int .i64 1000, .int .i64 n8, .int .i64 1, .int .i64 1000000, .int .i64 n9, .int .i64 1, .int .i64 1000000, .int .i64 n10, .int .i64 1, .int .i64 1000000] 91)).heap[w.heap.size + 1]? = some (.cells #[.int .i64 n0, .int .i64 1, .int .i64 1000, .int .i64 n1, .int .i64 512, .int .i64 65536, .int .i64 n2, .int .i64 1, .int .i64 1000, .int .i64 n3, .int .i64 1, .int .i64 1000, .int .i64 n4, .int .i64 1, .int .i64 1000, .int .i64 n5, .int .i64 1, .int .i64 1000, .int .i64 n6, .int .i64 1, .int .i64 1000, .int .i64 n7, .int .i64 0, .int .i64 1000, .int .i64 n8, .int .i64 1, .int .i64 1000000, .int .i64 n9, .int .i64 1, .int .i64 1000000, .int .i64 n10, .int .i64 1, .int .i64 1000000] 91 (0, 0)) := by
      have := heap_alloc_new (w.alloc (.cells #[.string nm, .string ps, .string on, .string op, .int .i64 n0, .int .i64 n1, .int .i64 n2, .int .i64 n3, .int .i64 n4, .int .i64 n5, .int .i64 n6, .int .i64 n7, .int .i64 n8, .int .i64 n9, .int .i64 n10] 29)) (.cells #[.int .i64 n0, .int .i64 1, .int .i64 1000, .int .i64 n1, .int .i64 512, .int .i64 65536, .int .i64 n2, .int .i64 1, .int .i64 1000, .int .i64 n3, .int .i64 1, .int .i64 1000, .int .i64 n4, .int .i64 1, .int .i64 1000, .int .i64 n5, .int .i64 1, .int .i64 1000, .int .i64 n6, .int .i64 1, .int .i64 1000, .int .i64 n7, .int .i64 0, .int .i64 1000, .int .i64 n8, .int .i64 1, .int .i64 1000000, .int .i64 n9, .int .i64 1, .int .i64 1000000, .int .i64 n10, .int .i64 1, .int .i64 1000000] 91)
      rwa [World.size_alloc] at this
    rw [cell_of_row _ _ j _ _ (0, 0) hrow]; exact hv
  have hB2 : Below w.heap.size w W2 := by rw [hW2]; exact ((Below.refl _ _).alloc (Nat.le_refl _) _).alloc (by simp) _
  have hs2 : W2.heap.size = w.heap.size + 2 := by rw [hW2]; simp
  have HC := Lib.hid hcell
  have HB := Lib.hid hB2
  have HS := Lib.hid hs2
  clear hW2 hcell hB2 hs2
  go_loopw [4, 71] (fun _ i wr => ∃ k : Nat, i = .int .i64 k ∧ k ≤ 11 ∧ Hid (∀ j, j < k → (numsL n0 n1 n2 n3 n4 n5 n6 n7 n8 n9 n10)[j]? = some true) ∧ Hid (Below (w.heap.size + 2) W2 wr ∧ w.heap.size + 2 ≤ wr.heap.size)) (fun _ i _ => 11 - (Go.RowKit.intOf i).toNat)
  case atStart => exact ⟨0, rfl, by omega, fun _ h => absurd h (Nat.not_lt_zero _), Below.refl _ _, by rw [HS.out]; exact Nat.le_refl _⟩
  case round =>
    obtain ⟨k, rfl, hk, HQ, HW⟩ := hrel
    rcases (by omega : k = 0 ∨ k = 1 ∨ k = 2 ∨ k = 3 ∨ k = 4 ∨ k = 5 ∨ k = 6 ∨ k = 7 ∨ k = 8 ∨ k = 9 ∨ k = 10 ∨ k = 11) with rfl | rfl | rfl | rfl | rfl | rfl | rfl | rfl | rfl | rfl | rfl | rfl
    · have c0 : wr.cell? ⟨w.heap.size + 1, 0, none⟩ = some (.int .i64 n0) := (HW.out.1.cell (p := ⟨w.heap.size + 1, 0, none⟩) (by simp)).trans (HC.out 0 _ rfl)
      have c1 : wr.cell? ⟨w.heap.size + 1, 1, none⟩ = some (.int .i64 1) := (HW.out.1.cell (p := ⟨w.heap.size + 1, 1, none⟩) (by simp)).trans (HC.out 1 _ rfl)
      have c2 : wr.cell? ⟨w.heap.size + 1, 2, none⟩ = some (.int .i64 1000) := (HW.out.1.cell (p := ⟨w.heap.size + 1, 2, none⟩) (by simp)).trans (HC.out 2 _ rfl)
      by_cases l1 : 1 ≤ n0
      · by_cases l2 : n0 ≤ 1000
        · go_wp2_with fail
          go_roundw
          case rel => exact ⟨1, by first | rfl | go_num, by omega, fun j hj => (by
            by_cases e : j = 0
            · subst e; exact inR_yes l1 l2
            · exact HQ.out j (by omega)), HW.out.1.alloc HW.out.2 _, by have := HW.out.2; simp; omega⟩
          case measure => simp [Go.RowKit.intOf]
        · go_wp2_with fail
          go_ret
          exact ⟨ret_int (chkN_no (k := 0) (inR_no (by omega))), HB.out.trans ((HW.out.1.alloc HW.out.2 _).mono (by omega))⟩
      · go_wp2_with fail
        go_ret
        exact ⟨ret_int (chkN_no (k := 0) (inR_no (by omega))), HB.out.trans ((HW.out.1.alloc HW.out.2 _).mono (by omega))⟩
    · have c0 : wr.cell? ⟨w.heap.size + 1, 3, none⟩ = some (.int .i64 n1) := (HW.out.1.cell (p := ⟨w.heap.size + 1, 3, none⟩) (by simp)).trans (HC.out 3 _ rfl)
      have c1 : wr.cell? ⟨w.heap.size + 1, 4, none⟩ = some (.int .i64 512) := (HW.out.1.cell (p := ⟨w.heap.size + 1, 4, none⟩) (by simp)).trans (HC.out 4 _ rfl)
      have c2 : wr.cell? ⟨w.heap.size + 1, 5, none⟩ = some (.int .i64 65536) := (HW.out.1.cell (p := ⟨w.heap.size + 1, 5, none⟩) (by simp)).trans (HC.out 5 _ rfl)
      by_cases l1 : 512 ≤ n1
      · by_cases l2 : n1 ≤ 65536
        · go_wp2_with fail
          go_roundw
          case rel => exact ⟨2, by first | rfl | go_num, by omega, fun j hj => (by
            by_cases e : j = 1
            · subst e; exact inR_yes l1 l2
            · exact HQ.out j (by omega)), HW.out.1.alloc HW.out.2 _, by have := HW.out.2; simp; omega⟩
          case measure => simp [Go.RowKit.intOf]
        · go_wp2_with fail
          go_ret
          exact ⟨ret_int (chkN_no (k := 1) (inR_no (by omega))), HB.out.trans ((HW.out.1.alloc HW.out.2 _).mono (by omega))⟩
      · go_wp2_with fail
        go_ret
        exact ⟨ret_int (chkN_no (k := 1) (inR_no (by omega))), HB.out.trans ((HW.out.1.alloc HW.out.2 _).mono (by omega))⟩
    · have c0 : wr.cell? ⟨w.heap.size + 1, 6, none⟩ = some (.int .i64 n2) := (HW.out.1.cell (p := ⟨w.heap.size + 1, 6, none⟩) (by simp)).trans (HC.out 6 _ rfl)
      have c1 : wr.cell? ⟨w.heap.size + 1, 7, none⟩ = some (.int .i64 1) := (HW.out.1.cell (p := ⟨w.heap.size + 1, 7, none⟩) (by simp)).trans (HC.out 7 _ rfl)
      have c2 : wr.cell? ⟨w.heap.size + 1, 8, none⟩ = some (.int .i64 1000) := (HW.out.1.cell (p := ⟨w.heap.size + 1, 8, none⟩) (by simp)).trans (HC.out 8 _ rfl)
      by_cases l1 : 1 ≤ n2
      · by_cases l2 : n2 ≤ 1000
        · go_wp2_with fail
          go_roundw
          case rel => exact ⟨3, by first | rfl | go_num, by omega, fun j hj => (by
            by_cases e : j = 2
            · subst e; exact inR_yes l1 l2
            · exact HQ.out j (by omega)), HW.out.1.alloc HW.out.2 _, by have := HW.out.2; simp; omega⟩
          case measure => simp [Go.RowKit.intOf]
        · go_wp2_with fail
          go_ret
          exact ⟨ret_int (chkN_no (k := 2) (inR_no (by omega))), HB.out.trans ((HW.out.1.alloc HW.out.2 _).mono (by omega))⟩
      · go_wp2_with fail
        go_ret
        exact ⟨ret_int (chkN_no (k := 2) (inR_no (by omega))), HB.out.trans ((HW.out.1.alloc HW.out.2 _).mono (by omega))⟩
    · have c0 : wr.cell? ⟨w.heap.size + 1, 9, none⟩ = some (.int .i64 n3) := (HW.out.1.cell (p := ⟨w.heap.size + 1, 9, none⟩) (by simp)).trans (HC.out 9 _ rfl)
      have c1 : wr.cell? ⟨w.heap.size + 1, 10, none⟩ = some (.int .i64 1) := (HW.out.1.cell (p := ⟨w.heap.size + 1, 10, none⟩) (by simp)).trans (HC.out 10 _ rfl)
      have c2 : wr.cell? ⟨w.heap.size + 1, 11, none⟩ = some (.int .i64 1000) := (HW.out.1.cell (p := ⟨w.heap.size + 1, 11, none⟩) (by simp)).trans (HC.out 11 _ rfl)
      by_cases l1 : 1 ≤ n3
      · by_cases l2 : n3 ≤ 1000
        · go_wp2_with fail
          go_roundw
          case rel => exact ⟨4, by first | rfl | go_num, by omega, fun j hj => (by
            by_cases e : j = 3
            · subst e; exact inR_yes l1 l2
            · exact HQ.out j (by omega)), HW.out.1.alloc HW.out.2 _, by have := HW.out.2; simp; omega⟩
          case measure => simp [Go.RowKit.intOf]
        · go_wp2_with fail
          go_ret
          exact ⟨ret_int (chkN_no (k := 3) (inR_no (by omega))), HB.out.trans ((HW.out.1.alloc HW.out.2 _).mono (by omega))⟩
      · go_wp2_with fail
        go_ret
        exact ⟨ret_int (chkN_no (k := 3) (inR_no (by omega))), HB.out.trans ((HW.out.1.alloc HW.out.2 _).mono (by omega))⟩
    · have c0 : wr.cell? ⟨w.heap.size + 1, 12, none⟩ = some (.int .i64 n4) := (HW.out.1.cell (p := ⟨w.heap.size + 1, 12, none⟩) (by simp)).trans (HC.out 12 _ rfl)
      have c1 : wr.cell? ⟨w.heap.size + 1, 13, none⟩ = some (.int .i64 1) := (HW.out.1.cell (p := ⟨w.heap.size + 1, 13, none⟩) (by simp)).trans (HC.out 13 _ rfl)
      have c2 : wr.cell? ⟨w.heap.size + 1, 14, none⟩ = some (.int .i64 1000) := (HW.out.1.cell (p := ⟨w.heap.size + 1, 14, none⟩) (by simp)).trans (HC.out 14 _ rfl)
      by_cases l1 : 1 ≤ n4
      · by_cases l2 : n4 ≤ 1000
        · go_wp2_with fail
          go_roundw
          case rel => exact ⟨5, by first | rfl | go_num, by omega, fun j hj => (by
            by_cases e : j = 4
            · subst e; exact inR_yes l1 l2
            · exact HQ.out j (by omega)), HW.out.1.alloc HW.out.2 _, by have := HW.out.2; simp; omega⟩
          case measure => simp [Go.RowKit.intOf]
        · go_wp2_with fail
          go_ret
          exact ⟨ret_int (chkN_no (k := 4) (inR_no (by omega))), HB.out.trans ((HW.out.1.alloc HW.out.2 _).mono (by omega))⟩
      · go_wp2_with fail
        go_ret
        exact ⟨ret_int (chkN_no (k := 4) (inR_no (by omega))), HB.out.trans ((HW.out.1.alloc HW.out.2 _).mono (by omega))⟩
    · have c0 : wr.cell? ⟨w.heap.size + 1, 15, none⟩ = some (.int .i64 n5) := (HW.out.1.cell (p := ⟨w.heap.size + 1, 15, none⟩) (by simp)).trans (HC.out 15 _ rfl)
      have c1 : wr.cell? ⟨w.heap.size + 1, 16, none⟩ = some (.int .i64 1) := (HW.out.1.cell (p := ⟨w.heap.size + 1, 16, none⟩) (by simp)).trans (HC.out 16 _ rfl)
      have c2 : wr.cell? ⟨w.heap.size + 1, 17, none⟩ = some (.int .i64 1000) := (HW.out.1.cell (p := ⟨w.heap.size + 1, 17, none⟩) (by simp)).trans (HC.out 17 _ rfl)
      by_cases l1 : 1 ≤ n5
      · by_cases l2 : n5 ≤ 1000
        · go_wp2_with fail
          go_roundw
          case rel => exact ⟨6, by first | rfl | go_num, by omega, fun j hj => (by
            by_cases e : j = 5
            · subst e; exact inR_yes l1 l2
            · exact HQ.out j (by omega)), HW.out.1.alloc HW.out.2 _, by have := HW.out.2; simp; omega⟩
          case measure => simp [Go.RowKit.intOf]
        · go_wp2_with fail
          go_ret
          exact ⟨ret_int (chkN_no (k := 5) (inR_no (by omega))), HB.out.trans ((HW.out.1.alloc HW.out.2 _).mono (by omega))⟩
      · go_wp2_with fail
        go_ret
        exact ⟨ret_int (chkN_no (k := 5) (inR_no (by omega))), HB.out.trans ((HW.out.1.alloc HW.out.2 _).mono (by omega))⟩
    · have c0 : wr.cell? ⟨w.heap.size + 1, 18, none⟩ = some (.int .i64 n6) := (HW.out.1.cell (p := ⟨w.heap.size + 1, 18, none⟩) (by simp)).trans (HC.out 18 _ rfl)
      have c1 : wr.cell? ⟨w.heap.size + 1, 19, none⟩ = some (.int .i64 1) := (HW.out.1.cell (p := ⟨w.heap.size + 1, 19, none⟩) (by simp)).trans (HC.out 19 _ rfl)
      have c2 : wr.cell? ⟨w.heap.size + 1, 20, none⟩ = some (.int .i64 1000) := (HW.out.1.cell (p := ⟨w.heap.size + 1, 20, none⟩) (by simp)).trans (HC.out 20 _ rfl)
      by_cases l1 : 1 ≤ n6
      · by_cases l2 : n6 ≤ 1000
        · go_wp2_with fail
          go_roundw
          case rel => exact ⟨7, by first | rfl | go_num, by omega, fun j hj => (by
            by_cases e : j = 6
            · subst e; exact inR_yes l1 l2
            · exact HQ.out j (by omega)), HW.out.1.alloc HW.out.2 _, by have := HW.out.2; simp; omega⟩
          case measure => simp [Go.RowKit.intOf]
        · go_wp2_with fail
          go_ret
          exact ⟨ret_int (chkN_no (k := 6) (inR_no (by omega))), HB.out.trans ((HW.out.1.alloc HW.out.2 _).mono (by omega))⟩
      · go_wp2_with fail
        go_ret
        exact ⟨ret_int (chkN_no (k := 6) (inR_no (by omega))), HB.out.trans ((HW.out.1.alloc HW.out.2 _).mono (by omega))⟩
    · have c0 : wr.cell? ⟨w.heap.size + 1, 21, none⟩ = some (.int .i64 n7) := (HW.out.1.cell (p := ⟨w.heap.size + 1, 21, none⟩) (by simp)).trans (HC.out 21 _ rfl)
      have c1 : wr.cell? ⟨w.heap.size + 1, 22, none⟩ = some (.int .i64 0) := (HW.out.1.cell (p := ⟨w.heap.size + 1, 22, none⟩) (by simp)).trans (HC.out 22 _ rfl)
      have c2 : wr.cell? ⟨w.heap.size + 1, 23, none⟩ = some (.int .i64 1000) := (HW.out.1.cell (p := ⟨w.heap.size + 1, 23, none⟩) (by simp)).trans (HC.out 23 _ rfl)
      by_cases l1 : 0 ≤ n7
      · by_cases l2 : n7 ≤ 1000
        · go_wp2_with fail
          go_roundw
          case rel => exact ⟨8, by first | rfl | go_num, by omega, fun j hj => (by
            by_cases e : j = 7
            · subst e; exact inR_yes l1 l2
            · exact HQ.out j (by omega)), HW.out.1.alloc HW.out.2 _, by have := HW.out.2; simp; omega⟩
          case measure => simp [Go.RowKit.intOf]
        · go_wp2_with fail
          go_ret
          exact ⟨ret_int (chkN_no (k := 7) (inR_no (by omega))), HB.out.trans ((HW.out.1.alloc HW.out.2 _).mono (by omega))⟩
      · go_wp2_with fail
        go_ret
        exact ⟨ret_int (chkN_no (k := 7) (inR_no (by omega))), HB.out.trans ((HW.out.1.alloc HW.out.2 _).mono (by omega))⟩
    · have c0 : wr.cell? ⟨w.heap.size + 1, 24, none⟩ = some (.int .i64 n8) := (HW.out.1.cell (p := ⟨w.heap.size + 1, 24, none⟩) (by simp)).trans (HC.out 24 _ rfl)
      have c1 : wr.cell? ⟨w.heap.size + 1, 25, none⟩ = some (.int .i64 1) := (HW.out.1.cell (p := ⟨w.heap.size + 1, 25, none⟩) (by simp)).trans (HC.out 25 _ rfl)
      have c2 : wr.cell? ⟨w.heap.size + 1, 26, none⟩ = some (.int .i64 1000000) := (HW.out.1.cell (p := ⟨w.heap.size + 1, 26, none⟩) (by simp)).trans (HC.out 26 _ rfl)
      by_cases l1 : 1 ≤ n8
      · by_cases l2 : n8 ≤ 1000000
        · go_wp2_with fail
          go_roundw
          case rel => exact ⟨9, by first | rfl | go_num, by omega, fun j hj => (by
            by_cases e : j = 8
            · subst e; exact inR_yes l1 l2
            · exact HQ.out j (by omega)), HW.out.1.alloc HW.out.2 _, by have := HW.out.2; simp; omega⟩
          case measure => simp [Go.RowKit.intOf]
        · go_wp2_with fail
          go_ret
          exact ⟨ret_int (chkN_no (k := 8) (inR_no (by omega))), HB.out.trans ((HW.out.1.alloc HW.out.2 _).mono (by omega))⟩
      · go_wp2_with fail
        go_ret
        exact ⟨ret_int (chkN_no (k := 8) (inR_no (by omega))), HB.out.trans ((HW.out.1.alloc HW.out.2 _).mono (by omega))⟩
    · have c0 : wr.cell? ⟨w.heap.size + 1, 27, none⟩ = some (.int .i64 n9) := (HW.out.1.cell (p := ⟨w.heap.size + 1, 27, none⟩) (by simp)).trans (HC.out 27 _ rfl)
      have c1 : wr.cell? ⟨w.heap.size + 1, 28, none⟩ = some (.int .i64 1) := (HW.out.1.cell (p := ⟨w.heap.size + 1, 28, none⟩) (by simp)).trans (HC.out 28 _ rfl)
      have c2 : wr.cell? ⟨w.heap.size + 1, 29, none⟩ = some (.int .i64 1000000) := (HW.out.1.cell (p := ⟨w.heap.size + 1, 29, none⟩) (by simp)).trans (HC.out 29 _ rfl)
      by_cases l1 : 1 ≤ n9
      · by_cases l2 : n9 ≤ 1000000
        · go_wp2_with fail
          go_roundw
          case rel => exact ⟨10, by first | rfl | go_num, by omega, fun j hj => (by
            by_cases e : j = 9
            · subst e; exact inR_yes l1 l2
            · exact HQ.out j (by omega)), HW.out.1.alloc HW.out.2 _, by have := HW.out.2; simp; omega⟩
          case measure => simp [Go.RowKit.intOf]
        · go_wp2_with fail
          go_ret
          exact ⟨ret_int (chkN_no (k := 9) (inR_no (by omega))), HB.out.trans ((HW.out.1.alloc HW.out.2 _).mono (by omega))⟩
      · go_wp2_with fail
        go_ret
        exact ⟨ret_int (chkN_no (k := 9) (inR_no (by omega))), HB.out.trans ((HW.out.1.alloc HW.out.2 _).mono (by omega))⟩
    · have c0 : wr.cell? ⟨w.heap.size + 1, 30, none⟩ = some (.int .i64 n10) := (HW.out.1.cell (p := ⟨w.heap.size + 1, 30, none⟩) (by simp)).trans (HC.out 30 _ rfl)
      have c1 : wr.cell? ⟨w.heap.size + 1, 31, none⟩ = some (.int .i64 1) := (HW.out.1.cell (p := ⟨w.heap.size + 1, 31, none⟩) (by simp)).trans (HC.out 31 _ rfl)
      have c2 : wr.cell? ⟨w.heap.size + 1, 32, none⟩ = some (.int .i64 1000000) := (HW.out.1.cell (p := ⟨w.heap.size + 1, 32, none⟩) (by simp)).trans (HC.out 32 _ rfl)
      by_cases l1 : 1 ≤ n10
      · by_cases l2 : n10 ≤ 1000000
        · go_wp2_with fail
          go_roundw
          case rel => exact ⟨11, by first | rfl | go_num, by omega, fun j hj => (by
            by_cases e : j = 10
            · subst e; exact inR_yes l1 l2
            · exact HQ.out j (by omega)), HW.out.1.alloc HW.out.2 _, by have := HW.out.2; simp; omega⟩
          case measure => simp [Go.RowKit.intOf]
        · go_wp2_with fail
          go_ret
          exact ⟨ret_int (chkN_no (k := 10) (inR_no (by omega))), HB.out.trans ((HW.out.1.alloc HW.out.2 _).mono (by omega))⟩
      · go_wp2_with fail
        go_ret
        exact ⟨ret_int (chkN_no (k := 10) (inR_no (by omega))), HB.out.trans ((HW.out.1.alloc HW.out.2 _).mono (by omega))⟩
    · go_wp2_with fail
      go_ret
      refine ⟨ret_int (chkN_yes (nums_yes HQ.out)), ?_⟩
      exact HB.out.trans (HW.out.1.mono (by omega))
end Go.Proofs.YtpbobonddocgkaaGreatDoor
end
section
/- Layer 23: what New gives. -/
namespace Go.Proofs.YtpbobonddocgkaaGreatDoor
open Go Go.RowKit Go.Maps Go.Lib Go.Sort Go.Shelf

/-- the configuration's box, and what lies behind it -/
def CfS (N : Nat) (n0 n1 n2 n3 n4 n5 n6 n8 n9 n10 : Int) (W : World) : Prop := W.cell? ⟨N, 0, none⟩ = some (.string (bs nameL)) ∧ W.cell? ⟨N, 1, none⟩ = some (.string ⟨#[]⟩) ∧ W.cell? ⟨N, 2, none⟩ = some (.string ⟨#[]⟩) ∧ W.cell? ⟨N, 3, none⟩ = some (.string ⟨#[]⟩) ∧ W.cell? ⟨N, 4, none⟩ = some (.int .i64 n0) ∧ W.cell? ⟨N, 5, none⟩ = some (.int .i64 n1) ∧ W.cell? ⟨N, 6, none⟩ = some (.int .i64 n2) ∧ W.cell? ⟨N, 7, none⟩ = some (.int .i64 n3) ∧ W.cell? ⟨N, 8, none⟩ = some (.int .i64 n4) ∧ W.cell? ⟨N, 9, none⟩ = some (.int .i64 n5) ∧ W.cell? ⟨N, 10, none⟩ = some (.int .i64 n6) ∧ W.cell? ⟨N, 11, none⟩ = some (.int .i64 0) ∧ W.cell? ⟨N, 12, none⟩ = some (.int .i64 n8) ∧ W.cell? ⟨N, 13, none⟩ = some (.int .i64 n9) ∧ W.cell? ⟨N, 14, none⟩ = some (.int .i64 n10)
/-- all parts but the book and the past -/
structure NewX (W1 : World) (N c m R mo wa : Nat) (PP : PB) (YM YW : Nat → Prop) (Vc : World) (n0 n1 n2 n3 n4 n5 n6 n8 n9 n10 : Int) : Prop where
  hF : Fr (fun _ => False) W1 Vc
  zc : Vc.heap.size = c + 1
  kc : Vc.heap[c]? = some (Obj.cells #[.string (bs nameL), .string ⟨#[]⟩, .string ⟨#[]⟩, .string ⟨#[]⟩, .int .i64 n0, .int .i64 n1, .int .i64 n2, .int .i64 n3, .int .i64 n4, .int .i64 n5, .int .i64 n6, .int .i64 0, .int .i64 n8, .int .i64 n9, .int .i64 n10, .int .i64 0, .map (some m), .pointer none, .pointer (some ⟨R, 0, none⟩), .pointer (some ⟨mo, 0, none⟩), .pointer (some ⟨wa, 0, none⟩), .pointer none, .pointer (some ⟨PP.p, 0, none⟩), .slice none 0 0] 55 (0, 0))
  hM : OwnMIS Vc m []
  hO : WisAt N Vc mo YM n6 []
  hW : WisAt N Vc wa YW n5 []
  hP : PulG N Vc PP n8 n9 n10 [] [] []
  rng : ∃ a4 b4 a5 b5 a6 b6, (∀ j, YM j → a4 ≤ j ∧ j < b4) ∧ (∀ j, YW j → a5 ≤ j ∧ j < b5) ∧ (∀ j, PP.all j → a6 ≤ j ∧ j < b6) ∧ (N < W1.heap.size ∧ W1.heap.size ≤ a4 ∧ a4 ≤ b4 ∧ b4 ≤ a5 ∧ a5 ≤ b5 ∧ b5 ≤ a6 ∧ a6 ≤ b6 ∧ b6 ≤ c) ∧ (N ≤ m ∧ m < c ∧ (m < a4 ∨ b4 ≤ m) ∧ (m < a5 ∨ b5 ≤ m) ∧ (m < a6 ∨ b6 ≤ m))
theorem NewX.cW {W1 : World} {N c m R mo wa : Nat} {PP : PB} {YM YW : Nat → Prop} {Vc : World} {n0 n1 n2 n3 n4 n5 n6 n8 n9 n10 : Int} (h : NewX W1 N c m R mo wa PP YM YW Vc n0 n1 n2 n3 n4 n5 n6 n8 n9 n10) : W1.heap.size ≤ c := by
  obtain ⟨a4, b4, a5, b5, a6, b6, _, _, _, h1, _⟩ := h.rng
  omega
/-- what New gives -/
def NewCo (n0 n1 n6 : Int) (w : World) (e : Ending) (w' : World) : Prop := ∃ G C, e = .returned (.tuple #[.pointer (some ⟨G.c, 0, none⟩), .int .i64 0]) ∧ CoAt w.heap.size G C [] [] 0 w' ∧ RowKit.Below w.heap.size w w' ∧ G.n0 = n0 ∧ G.n1 = n1 ∧ G.n6 = n6 ∧ G.U = []
theorem NewX.last {W1 : World} {N c m R mo wa : Nat} {PP : PB} {YM YW : Nat → Prop} {Vc : World} {n0 n1 n2 n3 n4 n5 n6 n8 n9 n10 : Int} {w V6 V7 V8 : World} {ht hb pa : Nat} (h : NewX W1 N c m R mo wa PP YM YW Vc n0 n1 n2 n3 n4 n5 n6 n8 n9 n10) (hk : BokI Vc.heap.size V6 ht hb n0 []) (f6 : Fr (fun _ => False) Vc V6) (f7 : Fr (fun k => k = c) V6 V7) (f8 : Fr (fun _ => False) V7 V8)
    (k8 : V8.heap[c]? = some (Obj.cells #[.string (bs nameL), .string ⟨#[]⟩, .string ⟨#[]⟩, .string ⟨#[]⟩, .int .i64 n0, .int .i64 n1, .int .i64 n2, .int .i64 n3, .int .i64 n4, .int .i64 n5, .int .i64 n6, .int .i64 0, .int .i64 n8, .int .i64 n9, .int .i64 n10, .int .i64 0, .map (some m), .pointer (some ⟨ht, 0, none⟩), .pointer (some ⟨R, 0, none⟩), .pointer (some ⟨mo, 0, none⟩), .pointer (some ⟨wa, 0, none⟩), .pointer none, .pointer (some ⟨PP.p, 0, none⟩), .slice none 0 0] 55 (0, 0))) (hw : w.heap.size = N ∧ Fr (fun _ => False) w W1) :
    NewCo n0 n1 n6 w (.returned (.tuple #[.pointer (some ⟨c, 0, none⟩), .int .i64 0])) (V8.setCell ⟨c, 21, none⟩ (.pointer (some ⟨pa, 0, none⟩))) := by
  obtain ⟨rfl, fw⟩ := hw
  obtain ⟨a4, b4, a5, b5, a6, b6, rO, rW, rP, h1, h2⟩ := h.rng
  have f9 : Fr (fun k => k = c) V8 (V8.setCell ⟨c, 21, none⟩ (.pointer (some ⟨pa, 0, none⟩))) := (Fr.refl (fun k => k = c) V8).setCell ⟨c, 21, none⟩ rfl _
  have fk : Fr (fun k => k = c) V6 (V8.setCell ⟨c, 21, none⟩ (.pointer (some ⟨pa, 0, none⟩))) := (f7.trans3 f8 fun _ _ e => e.elim).trans3 f9 fun _ _ e => e
  have fA : Fr (fun k => k = c) Vc (V8.setCell ⟨c, 21, none⟩ (.pointer (some ⟨pa, 0, none⟩))) := (f6.mono (Y := fun k => k = c) fun _ _ e => e.elim).trans3 fk fun _ _ e => e
  have zc := h.zc
  have hcm : w.heap.size < c := by omega
  have hk1 := hk.1
  have hk2 := hk.2.1
  have hkl := bokI_fr hk fk (by omega) (by omega)
  have hself := blk_set k8 21 (.pointer (some ⟨pa, 0, none⟩))
  obtain ⟨C, hC⟩ := co_new (G := (⟨c, m, ht, hb, .pointer (some ⟨R, 0, none⟩), mo, wa, .pointer (some ⟨pa, 0, none⟩), PP, YM, YW, [], n0, n1, n2, n3, n4, n5, n6, 0, n8, n9, n10⟩ : CoG)) (base := w.heap.size) hself (ownMIS_same h.hM (fA.block m (ownMIS_lt h.hM) (show ¬ m = c by omega))) (bokI_base hkl (by have := zc; omega)) (h.hO.fr fA fun j hj => by have := rO j hj; omega) (h.hW.fr fA fun j hj => by have := rW j hj; omega)
    (h.hP.fr fA fun k hk => by
      subst hk
      have nP : ∀ j, PP.all j → k ≠ j := fun j hj => by have := rP j hj; omega
      exact ⟨nP _ (.inl rfl), nP _ (.inr (.inl rfl)), nP _ (.inr (.inr (.inl rfl))), nP _ (.inr (.inr (.inr (.inl rfl)))), nP _ (.inr (.inr (.inr (.inr (.inl rfl))))), nP _ (.inr (.inr (.inr (.inr (.inr (.inl rfl)))))), nP _ (.inr (.inr (.inr (.inr (.inr (.inr rfl))))))⟩)
    rO rW rP (by dsimp only; omega) (by dsimp only; omega)
  exact ⟨_, C, rfl, hC, (((fw.trans h.hF).mono (Y := fun k => k = c) fun _ _ e => e.elim).trans3 fA fun _ _ e => e).below (Nat.le_refl _) fun k hk e => by omega, rfl, rfl, rfl, rfl⟩
theorem serv_irc : dec (ServP (bs nameL)) = true := by
  refine dec_iff.2 ⟨⟨⟨by decide, by decide⟩, fun i hi => ?_⟩, ⟨by decide, rfl⟩, rfl, rfl⟩
  have hi' : i < 5 := hi
  rcases (by omega : i = 0 ∨ i = 1 ∨ i = 2 ∨ i = 3 ∨ i = 4) with rfl | rfl | rfl | rfl | rfl <;> rfl
theorem pass_none : dec (PassP ⟨#[]⟩) = true := dec_iff.2 ⟨fun i h => absurd h (Nat.not_lt_zero _), by decide, fun h => absurd h (Nat.not_lt_zero _)⟩
end Go.Proofs.YtpbobonddocgkaaGreatDoor
end
