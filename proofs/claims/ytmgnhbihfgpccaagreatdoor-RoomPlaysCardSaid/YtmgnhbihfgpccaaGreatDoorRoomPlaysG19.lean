/- Texts of this proof, one behind the other. -/
import Derived.Test.YtmgnhbihfgpccaaGreatDoorRoomPlaysG18
import Derived.Test.YtmgnhbihfgpccaaGreatDoorRoomPlaysG9
set_option linter.unusedVariables false
set_option linter.unusedSimpArgs false
section
/- Layer 19: both rooms in one world; an act of the law, done to both. -/
namespace Go.Proofs.YtmgnhbihfgpccaaGreatDoor
open Go Go.RowKit

def All19 (B : Nat) (q : RmV) (B2 : Nat) (qx : RxV) (k : Nat) : Prop := RmX B q k ∨ RxX B2 qx k
structure Two19 (base B : Nat) (q : RmV) (r : Rm) (B2 : Nat) (qx : RxV) (x : Rx) (W : World) : Prop where
  p : RoomAt base B q r W
  d : RxAt base B2 qx x W
  a : ∀ k, RmX B q k → ¬ RxX B2 qx k
/-- what a step leaves -/
def StepW (base B : Nat) (q : RmV) (B2 : Nat) (qx : RxV) (r' : Rm) (x' : Rx) (w w' : World) : Prop :=
  ∃ q' qx', Two19 base B q' r' B2 qx' x' w' ∧ Fr (All19 B q B2 qx) w w' ∧ ∀ k, All19 B q' B2 qx' k → k < w.heap.size → All19 B q B2 qx k
section
variable {base B : Nat} {q : RmV} {r : Rm} {B2 : Nat} {qx : RxV} {x : Rx} {w w' : World}
theorem Two19.lt (h : Two19 base B q r B2 qx x w) : ∀ k, All19 B q B2 qx k → base ≤ k ∧ k < w.heap.size := fun k e => by
  rcases e with e | e
  · exact h.p.lt k e
  · exact h.d.lt k e
theorem Two19.below (h : Two19 base B q r B2 qx x w) (hb : RowKit.Below w.heap.size w w') : Two19 base B q r B2 qx x w' := ⟨h.p.below hb, h.d.below hb, h.a⟩
theorem Two19.fr (h : Two19 base B q r B2 qx x w) {Z : Nat → Prop} (hf : Fr Z w w') (hz : ∀ k, All19 B q B2 qx k → ¬ Z k) : Two19 base B q r B2 qx x w' := ⟨h.p.fr hf fun k e => hz k (.inl e), h.d.fr hf fun k e => hz k (.inr e), h.a⟩
theorem Two19.prog {r' : Rm} (h : Two19 base B q r B2 qx x w) (hc : ChgW base B q r' w w') : StepW base B q B2 qx r' x w w' := by
  obtain ⟨q', a, b, c⟩ := hc
  refine ⟨q', qx, ⟨a, h.d.fr b fun k hk e => h.a k e hk, fun k hk e => ?_⟩, b.mono fun k _ e => .inl e, fun k hk hl => ?_⟩
  · exact h.a k (c k hk (h.d.lt k e).2) e
  · rcases hk with hk | hk
    · exact .inl (c k hk hl)
    · exact .inr hk
theorem Two19.doc {x' : Rx} (h : Two19 base B q r B2 qx x w) (hc : XW base B2 qx x' w w') : StepW base B q B2 qx r x' w w' := by
  obtain ⟨q', a, b, c⟩ := hc
  refine ⟨q, q', ⟨h.p.fr b fun k hk e => h.a k hk e, a, fun k hk e => ?_⟩, b.mono fun k _ e => .inr e, fun k hk hl => ?_⟩
  · exact h.a k hk (c k e (h.p.lt k hk).2)
  · rcases hk with hk | hk
    · exact .inl hk
    · exact .inr (c k hk hl)
theorem StepW.around {r' : Rm} {x' : Rx} {W W' : World} (h : StepW base B q B2 qx r' x' W W') (h1 : RowKit.Below w.heap.size w W) (h2 : RowKit.Below W'.heap.size W' w') : StepW base B q B2 qx r' x' w w' := by
  obtain ⟨q', qx', a, b, c⟩ := h
  exact ⟨q', qx', a.below h2, ((Fr.of_below (X := All19 B q B2 qx) h1).trans3 b fun _ _ e => e).trans3 (Fr.of_below (X := fun _ => False) h2) fun _ _ e => e.elim, fun k hk hl => c k hk (Nat.lt_of_lt_of_le hl h1.size)⟩
theorem stepW_both {q1 : RmV} {qx1 : RxV} {r2 : Rm} {x2 : Rx} {w1 w2 : World} (f1 : Fr (All19 B q B2 qx) w w1) (t1 : ∀ k, All19 B q1 B2 qx1 k → k < w.heap.size → All19 B q B2 qx k) (h2 : StepW base B q1 B2 qx1 r2 x2 w1 w2) : StepW base B q B2 qx r2 x2 w w2 := by
  obtain ⟨q', qx', a, b, c⟩ := h2
  exact ⟨q', qx', a, f1.trans3 b fun k hk e => t1 k e hk, fun k hk hl => t1 k (c k hk (Nat.lt_of_lt_of_le hl f1.size)) hl⟩
theorem StepW.same (h : Two19 base B q r B2 qx x w) (hb : RowKit.Below w.heap.size w w') : StepW base B q B2 qx r x w w' := ⟨q, qx, h.below hb, Fr.of_below hb, fun _ e _ => e⟩
end
theorem row_low {W : World} {base base' : Nat} {e : TypeId} {size : Nat} {v : Value} {n : Nat} {xs : List Value} (h : W.ownsRow base e size v n xs) (hb : base' ≤ base) : W.ownsRow base' e size v n xs := by
  obtain ⟨h1, h2⟩ := h
  refine ⟨h1, ?_⟩
  rcases h2 with h2 | ⟨g, cap, cur, h3, h4, h5⟩
  · exact .inl h2
  · exact .inr ⟨g, cap, cur, h3, by omega, h5⟩
theorem src_one {W : World} {N : Nat} {id : Int} (h : W.heap[N]? = some (.cells #[.int .i64 id] 3 (0, 0))) : Src Tryz.prog 1 44 (.slice (some ⟨N, 0, none⟩) 1 1) 1 [.int .i64 id] W :=
  Src.ofSlice W Tryz.underlying44 ⟨N, 0, none⟩ 1 1 [.int .i64 id] rfl (fun j u hu => by
    match j, hu with
    | 0, hu => simp at hu; subst hu; rw [add_g]; exact blk_cell h 0) (by intro u hu; simp at hu; subst hu; rfl)
/-- an act, done to both -/
def ActP (base B : Nat) (q : RmV) (B2 : Nat) (qx : RxV) (r' : Rm) (x' : Rx) (w : World) (e : Ending) (w' : World) : Prop := e = .returned (.bool true) ∧ StepW base B q B2 qx r' x' w w'
set_option maxRecDepth 100000 in
set_option maxHeartbeats 16000000 in
theorem act_1 {base B : Nat} {q : RmV} {r : Rm} {B2 : Nat} {qx : RxV} {x : Rx} {w : World} (h : Two19 base B q r B2 qx x w) {k : Nat} (hrel : Rel19 k r x) (hk : k ≤ 1000) (a : Act19) (hs : a.s.length ≤ 250) (hg : a.arg.length ≤ 250) (hr : ∀ W, RowKit.Below base w W → Rowed W) (h1 : a.k = 1) :
    Calls Tryz.prog 11 #[.pointer (some ⟨B, 0, none⟩), .pointer (some ⟨B2, 0, none⟩), actV a] w (ActP base B q B2 qx (actR r a) (actX x a) w) := by
  obtain ⟨N, hN⟩ : ∃ N, w.heap.size = N := ⟨_, rfl⟩
  obtain ⟨W0, hW0⟩ : ∃ W0, w.alloc (.cells #[.int .i64 a.k, .int .i64 a.id, .bool a.op, .string (bs a.s), .bool a.on, .int .u8 a.l.toNat, .string (bs a.arg)] 33) = W0 := ⟨_, rfl⟩
  have b0 : RowKit.Below w.heap.size w W0 := by rw [← hW0]; exact (Below.refl _ w).alloc (Nat.le_refl _) _
  have k0 : W0.heap[N]? = some (.cells #[.int .i64 a.k, .int .i64 a.id, .bool a.op, .string (bs a.s), .bool a.on, .int .u8 a.l.toNat, .string (bs a.arg)] 33 (0, 0)) := by rw [← hW0, ← hN]; exact heap_alloc_new w _
  have h0 := h.below b0
  have hlt : ∀ k, All19 B q B2 qx k → k < w.heap.size := fun k hk => (h.lt k hk).2
  have c0 := blk_cell k0 0; have c1 := blk_cell k0 1; have c2 := blk_cell k0 2; have c3 := blk_cell k0 3; have c4 := blk_cell k0 4; have c5 := blk_cell k0 5; have c6 := blk_cell k0 6
  have hbox : ∀ {V : World}, Fr (All19 B q B2 qx) W0 V → V.heap[N]? = some (.cells #[.int .i64 a.k, .int .i64 a.id, .bool a.op, .string (bs a.s), .bool a.on, .int .u8 a.l.toNat, .string (bs a.arg)] 33 (0, 0)) := fun {V} hf => hf.blk k0 fun e => by have := hlt _ e; omega
  have B0 := Lib.hid b0
  have H0 : Hid (Two19 base B q r B2 qx x W0) := Lib.hid h0
  have hax : actR r a = (if hasM r.mem a.id then { r with mem := delM r.mem a.id } else r) ∧ actX x a = dropX x a.id := by unfold actR actX; rw [if_pos h1, if_pos h1]; exact ⟨rfl, rfl⟩
  have HAX := Lib.hid hax
  have hd : Two19 base B q r B2 qx x W0.drew := h0.fr (Z := fun _ => False) (Fr.refl _ W0).drew fun _ _ e => e
  have hD1 := drop_any hd.p a.id (by have := hrel.s1; omega)
  have hD2 := fun {q1 : RmV} {qx1 : RxV} {r1 : Rm} {V : World} (h : Two19 base B q1 r1 B2 qx1 x V) => refDrop_any h.d a.id (by have := hrel.s1; have := hrel.mem.length_eq; omega)
  obtain ⟨b, hb⟩ : ∃ b, decide (0 ≤ atM x.L a.id) = b := ⟨_, rfl⟩
  rw [hrel.has, hb] at hD1
  rw [hb] at hD2
  rw [hrel.has, hb] at hax
  have HAX2 := Lib.hid hax
  have HD1 := Lib.hid hD1
  have HD2 : Hid (∀ {q1 : RmV} {qx1 : RxV} {r1 : Rm} {V : World}, Two19 base B q1 r1 B2 qx1 x V → Calls Tryz.prog 33 #[.pointer (some ⟨B2, 0, none⟩), .int .i64 a.id] V fun e w' => e = .returned (.bool b) ∧ XW base B2 qx1 (dropX x a.id) V w') := @hD2
  have HH := Lib.hid hd
  have hcell : ∀ {V : World}, Fr (All19 B q B2 qx) W0.drew V → V.cell? ⟨N, 1, none⟩ = some (.int .i64 a.id) := fun {V} hf => blk_cell (hbox (V := V) (((Fr.refl (All19 B q B2 qx) W0).drew).trans3 hf fun _ _ e => e)) 1
  have HCL : Hid (∀ {V : World}, Fr (All19 B q B2 qx) W0.drew V → V.cell? ⟨N, 1, none⟩ = some (.int .i64 a.id)) := @hcell
  have e1 : (a.k == 1) = true := by rw [h1]; rfl
  have HN := Lib.hid hN
  have HW := Lib.hid hW0
  clear h b0 k0 h0 hlt hbox hax hd hD1 hD2 hb hcell hrel hs hg hr hk h1 hW0 hN
  unfold actV
  have hW0 := HW.out
  have hN := HN.out
  go_enter Tryz.func11, Tryz.ntmps11
  go_wp2_with fail
  clear hW0 hN
  refine wp_region_held_drew (S := fun V => V.cell? ⟨N, 1, none⟩ = some (.int .i64 a.id)) (by kernel_rfl) (by exact c1) (fun hHeld => ?_)
  refine wpAnyH_read (i := 0) (oi := { dst := some 27, op := Go.Op.move (Go.Operand.tmp 0), type := 25, pos := "law.go:81", after := #[], guard := none }) ?_ rfl (by kernel_rfl) (by kernel_rfl) (by kernel_rfl) (fun _ _ _ h => h) (by rfl) (by exact hHeld) ?_ ?_
  rotate_left
  · (intro w0 hS0; have s0 := hS0; go_simp <;> (try with_reducible rfl))
  try simp only [Act.put, List.setIfInBounds_toArray, List.set_cons_zero, List.set_cons_succ]
  refine wpAnyH_read (i := 1) (oi := { dst := some 28, op := Go.Op.fieldAddr 33 (Go.Operand.tmp 5) 1, type := 0, pos := "law.go:81", after := #[], guard := none }) ?_ rfl (by kernel_rfl) (by kernel_rfl) (by kernel_rfl) (fun _ _ _ h => h) (by rfl) (by exact hHeld) ?_ ?_
  rotate_left
  · (intro w0 hS0; have s0 := hS0; go_simp <;> (try with_reducible rfl))
  try simp only [Act.put, List.setIfInBounds_toArray, List.set_cons_zero, List.set_cons_succ]
  refine wpAnyH_read (i := 4) (oi := { dst := some 31, op := Go.Op.move (Go.Operand.tmp 1), type := 27, pos := "law.go:81", after := #[], guard := none }) ?_ rfl (by kernel_rfl) (by kernel_rfl) (by kernel_rfl) (fun _ _ _ h => h) (by rfl) (by exact hHeld) ?_ ?_
  rotate_left
  · (intro w0 hS0; have s0 := hS0; go_simp <;> (try with_reducible rfl))
  try simp only [Act.put, List.setIfInBounds_toArray, List.set_cons_zero, List.set_cons_succ]
  refine wpAnyH_read (i := 5) (oi := { dst := some 32, op := Go.Op.fieldAddr 33 (Go.Operand.tmp 5) 1, type := 0, pos := "law.go:81", after := #[], guard := none }) ?_ rfl (by kernel_rfl) (by kernel_rfl) (by kernel_rfl) (fun _ _ _ h => h) (by rfl) (by exact hHeld) ?_ ?_
  rotate_left
  · (intro w0 hS0; have s0 := hS0; go_simp <;> (try with_reducible rfl))
  try simp only [Act.put, List.setIfInBounds_toArray, List.set_cons_zero, List.set_cons_succ]
  refine wpAnyH_read (i := 2) (oi := { dst := some 29, op := Go.Op.load 3 (Go.Operand.tmp 28), type := 3, pos := "law.go:81", after := #[{ on := 1, ground := Go.Ground.data }], guard := none }) ?_ rfl (by kernel_rfl) (by kernel_rfl) (by kernel_rfl) (fun _ _ _ h => h) (by rfl) (by exact hHeld) ?_ ?_
  rotate_left
  · (intro w0 hS0; have s0 := hS0; go_simp <;> (try with_reducible rfl))
  try simp only [Act.put, List.setIfInBounds_toArray, List.set_cons_zero, List.set_cons_succ]
  refine wpAnyH_read (i := 6) (oi := { dst := some 33, op := Go.Op.load 3 (Go.Operand.tmp 32), type := 3, pos := "law.go:81", after := #[{ on := 5, ground := Go.Ground.data }], guard := none }) ?_ rfl (by kernel_rfl) (by kernel_rfl) (by kernel_rfl) (fun _ _ _ h => h) (by rfl) (by exact hHeld) ?_ ?_
  rotate_left
  · (intro w0 hS0; have s0 := hS0; go_simp <;> (try with_reducible rfl))
  try simp only [Act.put, List.setIfInBounds_toArray, List.set_cons_zero, List.set_cons_succ]
  refine wpAnyH_one (i := 3) (o := { dst := some 30, op := Go.Op.call { callee := Go.Callee.value (Go.Operand.func 28), args := #[Go.Operand.tmp 27, Go.Operand.tmp 29], argTypes := #[25, 3] }, type := 4, pos := "law.go:81", after := #[{ on := 0, ground := Go.Ground.data }, { on := 2, ground := Go.Ground.data }], guard := none }) (by kernel_rfl) rfl (by rfl) (fun K hK => ?_)
  go_simp
  refine HD1.out.mono ?_
  rintro e w1 ⟨rfl, hc1⟩
  obtain ⟨q1, qx1, h1, f1, t1⟩ := HH.out.prog hc1
  have s1 := HCL.out f1
  have HF1 := Lib.hid (And.intro f1 t1)
  have HD2b := Lib.hid (HD2.out h1)
  have H1 := Lib.hid h1
  clear h1 f1 t1 hc1
  refine hK.out _ _ ?_ (fun hHeld => ?_)
  · exact s1
  clear hK K
  try simp only [Act.put, List.setIfInBounds_toArray, List.set_cons_zero, List.set_cons_succ]
  refine wpAnyH_one (i := 7) (o := { dst := some 34, op := Go.Op.call { callee := Go.Callee.value (Go.Operand.func 33), args := #[Go.Operand.tmp 31, Go.Operand.tmp 33], argTypes := #[27, 3] }, type := 4, pos := "law.go:81", after := #[{ on := 4, ground := Go.Ground.data }, { on := 6, ground := Go.Ground.data }, { on := 3, ground := Go.Ground.chain }], guard := none }) (by kernel_rfl) rfl (by rfl) (fun K hK => ?_)
  go_simp
  refine HD2b.out.mono ?_
  rintro e w2 ⟨rfl, hc2⟩
  have hst := H1.out.doc hc2
  have HF := Lib.hid (And.intro HF1.out.1 (And.intro HF1.out.2 hst))
  have s2 : w2.cell? ⟨N, 1, none⟩ = some (.int .i64 a.id) := by obtain ⟨q2, qx2, h2, f2, t2⟩ := hst; exact HCL.out (HF1.out.1.trans3 f2 fun k hk e => HF1.out.2 k e hk)
  clear hst hc2
  refine hK.out _ _ ?_ (fun hHeld => ?_)
  · exact s2
  clear hK K
  try simp only [Act.put, List.setIfInBounds_toArray, List.set_cons_zero, List.set_cons_succ]
  refine wpAnyH_read (i := 8) (oi := { dst := some 35, op := Go.Op.binOp Go.BinOp.eql 4 (Go.Operand.tmp 30) (Go.Operand.tmp 34) 4, type := 4, pos := "law.go:81", after := #[{ on := 3, ground := Go.Ground.data }, { on := 7, ground := Go.Ground.data }], guard := none }) ?_ rfl (by kernel_rfl) (by kernel_rfl) (by kernel_rfl) (fun _ _ _ h => h) (by rfl) (by exact hHeld) ?_ ?_
  rotate_left
  · (intro w0 hS0; have s0 := hS0; go_simp <;> (try with_reducible rfl))
  try simp only [Act.put, List.setIfInBounds_toArray, List.set_cons_zero, List.set_cons_succ]
  refine wpAnyH_read (i := 9) (oi := { dst := some 6, op := Go.Op.assign (Go.Operand.tmp 35), type := 4, pos := "law.go:81", after := #[{ on := 8, ground := Go.Ground.data }, { on := 7, ground := Go.Ground.chain }, { on := 0, ground := Go.Ground.phase }, { on := 1, ground := Go.Ground.phase }, { on := 2, ground := Go.Ground.phase }, { on := 3, ground := Go.Ground.phase }, { on := 4, ground := Go.Ground.phase }, { on := 5, ground := Go.Ground.phase }, { on := 6, ground := Go.Ground.phase }, { on := 7, ground := Go.Ground.phase }, { on := 8, ground := Go.Ground.phase }], guard := none }) ?_ rfl (by kernel_rfl) (by kernel_rfl) (by kernel_rfl) (fun _ _ _ h => h) (by rfl) (by exact hHeld) ?_ ?_
  rotate_left
  · (intro w0 hS0; have s0 := hS0; go_simp <;> (try with_reducible rfl))
  try simp only [Act.put, List.setIfInBounds_toArray, List.set_cons_zero, List.set_cons_succ]
  refine wpAnyH_done (by kernel_rfl) ?_ _
  go_wp2_with fail
  go_ret
  refine ⟨by simp, ?_⟩
  rw [HAX2.out.1, HAX2.out.2]
  exact (stepW_both ((Fr.refl (All19 B q B2 qx) W0).drew.trans3 HF.out.1 fun _ _ e => e) HF.out.2.1 HF.out.2.2).around B0.out (Below.refl _ _)
end Go.Proofs.YtmgnhbihfgpccaaGreatDoor
end
section
/- Layer 19: an act of the law, done to both: the others. -/
namespace Go.Proofs.YtmgnhbihfgpccaaGreatDoor
open Go Go.RowKit

theorem RoomAt.sz {base B : Nat} {q : RmV} {r : Rm} {W : World} (h : RoomAt base B q r W) : base ≤ W.heap.size := by have := h.2.2.2.2.1; have := blk_lt h.1; omega
set_option maxRecDepth 100000 in
set_option maxHeartbeats 16000000 in
theorem act_2 {base B : Nat} {q : RmV} {r : Rm} {B2 : Nat} {qx : RxV} {x : Rx} {w : World} (h : Two19 base B q r B2 qx x w) {k : Nat} (hrel : Rel19 k r x) (hk : k ≤ 1000) (a : Act19) (hs : a.s.length ≤ 250) (hg : a.arg.length ≤ 250) (hr : ∀ W, RowKit.Below base w W → Rowed W) (h1 : a.k = 2) :
    Calls Tryz.prog 11 #[.pointer (some ⟨B, 0, none⟩), .pointer (some ⟨B2, 0, none⟩), actV a] w (ActP base B q B2 qx (actR r a) (actX x a) w) := by
  obtain ⟨N, hN⟩ : ∃ N, w.heap.size = N := ⟨_, rfl⟩
  obtain ⟨W0, hW0⟩ : ∃ W0, w.alloc (.cells #[.int .i64 a.k, .int .i64 a.id, .bool a.op, .string (bs a.s), .bool a.on, .int .u8 a.l.toNat, .string (bs a.arg)] 33) = W0 := ⟨_, rfl⟩
  have b0 : RowKit.Below w.heap.size w W0 := by rw [← hW0]; exact (Below.refl _ w).alloc (Nat.le_refl _) _
  have k0 : W0.heap[N]? = some (.cells #[.int .i64 a.k, .int .i64 a.id, .bool a.op, .string (bs a.s), .bool a.on, .int .u8 a.l.toNat, .string (bs a.arg)] 33 (0, 0)) := by rw [← hW0, ← hN]; exact heap_alloc_new w _
  have h0 := h.below b0
  have hlt : ∀ k, All19 B q B2 qx k → k < w.heap.size := fun k hk => (h.lt k hk).2
  have c0 := blk_cell k0 0; have c1 := blk_cell k0 1; have c2 := blk_cell k0 2; have c3 := blk_cell k0 3; have c4 := blk_cell k0 4; have c5 := blk_cell k0 5; have c6 := blk_cell k0 6
  have hbox : ∀ {V : World}, Fr (All19 B q B2 qx) W0 V → V.heap[N]? = some (.cells #[.int .i64 a.k, .int .i64 a.id, .bool a.op, .string (bs a.s), .bool a.on, .int .u8 a.l.toNat, .string (bs a.arg)] 33 (0, 0)) := fun {V} hf => hf.blk k0 fun e => by have := hlt _ e; omega
  have B0 := Lib.hid b0
  have H0 : Hid (Two19 base B q r B2 qx x W0) := Lib.hid h0
  have hax : actR r a = { r with tp := topL a.s } ∧ actX x a = { x with tp := topL a.s } := by
    have n1 : ¬ a.k = 1 := by omega
    unfold actR actX; rw [if_neg n1, if_neg n1, if_pos h1, if_pos h1]; exact ⟨rfl, rfl⟩
  have HAX := Lib.hid hax
  have HT := Lib.hid (setTopic_any h0.p a.s (by omega))
  have htl : topL (bs a.s).data.toList = topL a.s := rfl
  have hL := fun W => lawTopic_any (bs a.s) W (by rw [bs_size]; omega)
  rw [htl] at hL
  have HL := Lib.hid hL
  have HB : Hid (∀ {V : World}, Fr (All19 B q B2 qx) W0 V → V.heap[N]? = some (.cells #[.int .i64 a.k, .int .i64 a.id, .bool a.op, .string (bs a.s), .bool a.on, .int .u8 a.l.toNat, .string (bs a.arg)] 33 (0, 0))) := @hbox
  have e1 : (a.k == 1) = false := by rw [h1]; rfl
  have e2 : (a.k == 2) = true := by rw [h1]; rfl
  have HN := Lib.hid hN
  have HW := Lib.hid hW0
  clear h b0 k0 h0 hlt hbox hax htl hL hrel hs hg hr hk h1 hW0 hN
  unfold actV
  have hW0 := HW.out
  have hN := HN.out
  go_enter Tryz.func11, Tryz.ntmps11
  go_wp2_with fail
  clear hW0 hN
  refine HT.out.mono ?_
  rintro e w1 ⟨⟨v1, rfl⟩, hc1⟩
  obtain ⟨q1, qx1, h1, f1, t1⟩ := H0.out.prog hc1
  have k1 := HB.out f1
  have c3 := blk_cell k1 3
  have H1 := Lib.hid (And.intro h1 (And.intro f1 t1))
  have d3 := blk_cell h1.d.1 3
  have g3 := blk_free h1.d.1 3
  clear h1 f1 t1 hc1 k1
  go_wp2_with fail
  refine (HL.out w1).mono ?_
  rintro e w2 ⟨rfl, rfl⟩
  obtain ⟨W3, hW3⟩ : ∃ W3, w2.setCell ⟨B2, 3, none⟩ (.string (bs (topL a.s))) = W3 := ⟨_, rfl⟩
  have f3 : Fr (fun k => k = B2) w2 W3 := by rw [← hW3]; exact Fr.setCell (X := fun k => k = B2) (Fr.refl _ w2) ⟨B2, 3, none⟩ rfl _
  have hx3 : XW base B2 qx1 { x with tp := topL a.s } w2 W3 := ⟨qx1, H1.out.1.d.toF (by rw [← hW3]; exact blk_set H1.out.1.d.1 3 _) rfl rfl rfl f3, f3.mono fun k _ e => .inl e, fun _ hk _ => hk⟩
  have HX := Lib.hid (stepW_both H1.out.2.1 H1.out.2.2 (H1.out.1.doc hx3))
  clear f3 hx3
  go_wp2_with fail
  go_ret
  refine ⟨rfl, ?_⟩
  rw [HAX.out.1, HAX.out.2]
  exact HX.out.around B0.out (Below.refl _ _)
set_option maxRecDepth 100000 in
set_option maxHeartbeats 16000000 in
theorem act_3 {base B : Nat} {q : RmV} {r : Rm} {B2 : Nat} {qx : RxV} {x : Rx} {w : World} (h : Two19 base B q r B2 qx x w) {k : Nat} (hrel : Rel19 k r x) (hk : k ≤ 1000) (a : Act19) (hs : a.s.length ≤ 250) (hg : a.arg.length ≤ 250) (hr : ∀ W, RowKit.Below base w W → Rowed W) (h1 : a.k = 3) :
    Calls Tryz.prog 11 #[.pointer (some ⟨B, 0, none⟩), .pointer (some ⟨B2, 0, none⟩), actV a] w (ActP base B q B2 qx (actR r a) (actX x a) w) := by
  obtain ⟨N, hN⟩ : ∃ N, w.heap.size = N := ⟨_, rfl⟩
  obtain ⟨W0, hW0⟩ : ∃ W0, w.alloc (.cells #[.int .i64 a.k, .int .i64 a.id, .bool a.op, .string (bs a.s), .bool a.on, .int .u8 a.l.toNat, .string (bs a.arg)] 33) = W0 := ⟨_, rfl⟩
  have b0 : RowKit.Below w.heap.size w W0 := by rw [← hW0]; exact (Below.refl _ w).alloc (Nat.le_refl _) _
  have k0 : W0.heap[N]? = some (.cells #[.int .i64 a.k, .int .i64 a.id, .bool a.op, .string (bs a.s), .bool a.on, .int .u8 a.l.toNat, .string (bs a.arg)] 33 (0, 0)) := by rw [← hW0, ← hN]; exact heap_alloc_new w _
  have h0 := h.below b0
  have hlt : ∀ k, All19 B q B2 qx k → k < w.heap.size := fun k hk => (h.lt k hk).2
  have c0 := blk_cell k0 0; have c1 := blk_cell k0 1; have c2 := blk_cell k0 2; have c3 := blk_cell k0 3; have c4 := blk_cell k0 4; have c5 := blk_cell k0 5; have c6 := blk_cell k0 6
  have hbox : ∀ {V : World}, Fr (All19 B q B2 qx) W0 V → V.heap[N]? = some (.cells #[.int .i64 a.k, .int .i64 a.id, .bool a.op, .string (bs a.s), .bool a.on, .int .u8 a.l.toNat, .string (bs a.arg)] 33 (0, 0)) := fun {V} hf => hf.blk k0 fun e => by have := hlt _ e; omega
  have B0 := Lib.hid b0
  have H0 : Hid (Two19 base B q r B2 qx x W0) := Lib.hid h0
  obtain ⟨i0, hi0, hz0, hz1, hz2⟩ := info_parts Tryz.infoI
  have hax : actR r a = { r with inv := insAll r.inv [a.id] } ∧ actX x a = { x with gs := x.gs ++ [a.id] } := by
    have n1 : ¬ a.k = 1 := by omega
    have n2 : ¬ a.k = 2 := by omega
    unfold actR actX; rw [if_neg n1, if_neg n1, if_neg n2, if_neg n2, if_pos h1, if_pos h1]; exact ⟨rfl, rfl⟩
  have HAX := Lib.hid hax
  have HT := Lib.hid (invite_any h0.p a.id (by have := hrel.s4; omega))
  have hgl : x.gs.length ≤ 1000000 := by have := hrel.s5; omega
  have HB : Hid (∀ {V : World}, Fr (All19 B q B2 qx) W0 V → V.heap[N]? = some (.cells #[.int .i64 a.k, .int .i64 a.id, .bool a.op, .string (bs a.s), .bool a.on, .int .u8 a.l.toNat, .string (bs a.arg)] 33 (0, 0))) := @hbox
  have e1 : (a.k == 1) = false := by rw [h1]; rfl
  have e2 : (a.k == 2) = false := by rw [h1]; rfl
  have e3 : (a.k == 3) = true := by rw [h1]; rfl
  have HN := Lib.hid hN
  have HW := Lib.hid hW0
  clear h b0 k0 h0 hlt hbox hax hrel hs hg hr hk h1 hW0 hN
  unfold actV
  have hW0 := HW.out
  have hN := HN.out
  go_enter Tryz.func11, Tryz.ntmps11
  go_wp2_with fail
  clear hW0 hN
  refine HT.out.mono ?_
  rintro e w1 ⟨⟨v1, rfl⟩, hc1⟩
  obtain ⟨q1, qx1, h1, f1, t1⟩ := H0.out.prog hc1
  have k1 := HB.out f1
  obtain ⟨Ag, cg, hvg0⟩ := row_slice h1.d.2.2.2.1
  obtain ⟨gl, hgle⟩ : ∃ gl, x.gs.length = gl := ⟨_, rfl⟩
  have hvg : qx1.vg = .slice Ag gl cg := by rw [← hgle]; exact hvg0
  have hog := h1.d.2.2.2.1
  rw [hvg0] at hog
  have hBx := h1.d.1
  have H1 := Lib.hid (And.intro h1 (And.intro f1 t1))
  have sS : ∀ {V : World}, Fr (fun _ => False) w1 V → V.cell? ⟨B2, 8, none⟩ = some qx1.vg ∧ V.cell? ⟨N, 1, none⟩ = some (.int .i64 a.id) := fun {V} hf => ⟨blk_cell (hf.blk hBx fun e => e) 8, blk_cell (hf.blk k1 fun e => e) 1⟩
  have hsrc : ∀ {V : World}, Fr (fun _ => False) w1 V → Src Tryz.prog 1 44 (.slice Ag gl cg) gl (x.gs.map (Value.int .i64)) V := fun {V} hf => by
    rw [← hgle]
    exact src_row 44 Tryz.underlying44 (row_same hog fun g hg => hf.block g (hog.lt g hg).2 fun e => e) (int_cells _)
  have hfin : ∀ {V : World} {A : Option Addr} {c : Nat}, Fr (fun _ => False) w1 V → V.ownsRow w1.heap.size 3 1 (.slice A (gl + 1) c) (gl + 1) (x.gs.map (Value.int .i64) ++ [.int .i64 a.id]) → XW base B2 qx1 { x with gs := x.gs ++ [a.id] } w1 (V.setCell ⟨B2, 8, none⟩ (.slice A (gl + 1) c)) := fun {V A c} hf ho => by
    have f3 : Fr (fun k => k = B2) V (V.setCell ⟨B2, 8, none⟩ (.slice A (gl + 1) c)) := Fr.setCell (X := fun k => k = B2) (Fr.refl _ V) ⟨B2, 8, none⟩ rfl _
    have hB2 := blk_lt hBx
    have ho2 : OwnI w1.heap.size V (.slice A (gl + 1) c) (x.gs ++ [a.id]) := by
      unfold OwnI
      rw [List.length_append, hgle, List.map_append]
      exact ho
    have ho3 : OwnI w1.heap.size (V.setCell ⟨B2, 8, none⟩ (.slice A (gl + 1) c)) (.slice A (gl + 1) c) (x.gs ++ [a.id]) := own_kept ho2 fun g hg => f3.block g (ho2.lt g hg).2 fun e => by have := (ho2.lt g hg).1; omega
    have f13 : Fr (fun k => k = B2) w1 (V.setCell ⟨B2, 8, none⟩ (.slice A (gl + 1) c)) := (hf.mono fun _ _ e => e.elim).trans3 f3 fun _ _ e => e
    refine ⟨{ qx1 with vg := .slice A (gl + 1) c }, H1.out.1.d.toG (ownI_base ho3 H1.out.1.d.sz) (blk_set (hf.blk hBx fun e => e) 8 _) f13, f13.mono fun k _ e => .inl e, fun k hk hlt => ?_⟩
    rcases hk with e | e | e | e
    · exact .inl e
    · exact .inr (.inl e)
    · exact .inr (.inr (.inl e))
    · have := (ho3.lt k e).1; omega
  have hgl2 : gl ≤ 1000000 := by omega
  clear h1 f1 t1 hc1 hog hvg0
  go_wp2_with fail
  refine wp_region_z (S := fun V => V.cell? ⟨B2, 8, none⟩ = some qx1.vg ∧ V.cell? ⟨N, 1, none⟩ = some (.int .i64 a.id)) (z := 13) (by kernel_rfl) (by exact sS (Fr.refl _ _).drew) (fun hHeld => ?_)
  refine wpAnyZ_read (i := 0) (oi := { dst := some 54, op := Go.Op.move (Go.Operand.tmp 1), type := 27, pos := "law.go:87", after := #[], guard := none }) ?_ rfl (by kernel_rfl) (by kernel_rfl) (by kernel_rfl) (by kernel_rfl) (fun _ _ _ h => h) (by rfl) (by exact hHeld) ?_ ?_
  rotate_left
  · (intro w0 hS0; have s0 := hS0.1; have s1 := hS0.2; rw [hvg] at s0; go_simp <;> (try with_reducible rfl))
  try simp only [Act.put, List.setIfInBounds_toArray, List.set_cons_zero, List.set_cons_succ]
  refine wpAnyZ_read (i := 2) (oi := { dst := some 56, op := Go.Op.move (Go.Operand.tmp 1), type := 27, pos := "law.go:87", after := #[], guard := none }) ?_ rfl (by kernel_rfl) (by kernel_rfl) (by kernel_rfl) (by kernel_rfl) (fun _ _ _ h => h) (by rfl) (by exact hHeld) ?_ ?_
  rotate_left
  · (intro w0 hS0; have s0 := hS0.1; have s1 := hS0.2; rw [hvg] at s0; go_simp <;> (try with_reducible rfl))
  try simp only [Act.put, List.setIfInBounds_toArray, List.set_cons_zero, List.set_cons_succ]
  refine wpAnyZ_read (i := 3) (oi := { dst := some 57, op := Go.Op.nilCheck (Go.Operand.tmp 56), type := 0, pos := "law.go:87", after := #[{ on := 2, ground := Go.Ground.data }], guard := none }) ?_ rfl (by kernel_rfl) (by kernel_rfl) (by kernel_rfl) (by kernel_rfl) (fun _ _ _ h => h) (by rfl) (by exact hHeld) ?_ ?_
  rotate_left
  · (intro w0 hS0; have s0 := hS0.1; have s1 := hS0.2; rw [hvg] at s0; go_simp <;> (try with_reducible rfl))
  try simp only [Act.put, List.setIfInBounds_toArray, List.set_cons_zero, List.set_cons_succ]
  refine wpAnyZ_read (i := 4) (oi := { dst := some 58, op := Go.Op.fieldAddr 46 (Go.Operand.tmp 57) 8, type := 0, pos := "law.go:87", after := #[{ on := 3, ground := Go.Ground.data }], guard := none }) ?_ rfl (by kernel_rfl) (by kernel_rfl) (by kernel_rfl) (by kernel_rfl) (fun _ _ _ h => h) (by rfl) (by exact hHeld) ?_ ?_
  rotate_left
  · (intro w0 hS0; have s0 := hS0.1; have s1 := hS0.2; rw [hvg] at s0; go_simp <;> (try with_reducible rfl))
  try simp only [Act.put, List.setIfInBounds_toArray, List.set_cons_zero, List.set_cons_succ]
  refine wpAnyZ_read (i := 7) (oi := { dst := some 61, op := Go.Op.fieldAddr 33 (Go.Operand.tmp 5) 1, type := 0, pos := "law.go:87", after := #[], guard := none }) ?_ rfl (by kernel_rfl) (by kernel_rfl) (by kernel_rfl) (by kernel_rfl) (fun _ _ _ h => h) (by rfl) (by exact hHeld) ?_ ?_
  rotate_left
  · (intro w0 hS0; have s0 := hS0.1; have s1 := hS0.2; rw [hvg] at s0; go_simp <;> (try with_reducible rfl))
  try simp only [Act.put, List.setIfInBounds_toArray, List.set_cons_zero, List.set_cons_succ]
  refine wpAnyZ_read (i := 5) (oi := { dst := some 59, op := Go.Op.load 44 (Go.Operand.tmp 58), type := 44, pos := "law.go:87", after := #[{ on := 4, ground := Go.Ground.data }], guard := none }) ?_ rfl (by kernel_rfl) (by kernel_rfl) (by kernel_rfl) (by kernel_rfl) (fun _ _ _ h => h) (by rfl) (by exact hHeld) ?_ ?_
  rotate_left
  · (intro w0 hS0; have s0 := hS0.1; have s1 := hS0.2; rw [hvg] at s0; go_simp <;> (try with_reducible rfl))
  try simp only [Act.put, List.setIfInBounds_toArray, List.set_cons_zero, List.set_cons_succ]
  refine wpAnyZ_read (i := 8) (oi := { dst := some 62, op := Go.Op.load 3 (Go.Operand.tmp 61), type := 3, pos := "law.go:87", after := #[{ on := 7, ground := Go.Ground.data }], guard := none }) ?_ rfl (by kernel_rfl) (by kernel_rfl) (by kernel_rfl) (by kernel_rfl) (fun _ _ _ h => h) (by rfl) (by exact hHeld) ?_ ?_
  rotate_left
  · (intro w0 hS0; have s0 := hS0.1; have s1 := hS0.2; rw [hvg] at s0; go_simp <;> (try with_reducible rfl))
  try simp only [Act.put, List.setIfInBounds_toArray, List.set_cons_zero, List.set_cons_succ]
  refine wpAnyZ_two (i := 1) (j := 9) (o := { dst := some 55, op := Go.Op.buildSlice 44 0 #[], type := 44, pos := "law.go:87", after := #[], guard := none }) (o2 := { dst := some 63, op := Go.Op.buildSlice 44 1 #[(0, Go.Operand.tmp 62)], type := 44, pos := "law.go:87", after := #[{ on := 8, ground := Go.Ground.data }], guard := none }) (by kernel_rfl) rfl rfl (by rfl) (by rfl) (fun K hK => ?_) (fun K hK => ?_)
  · go_simp
    obtain ⟨V1, hV1⟩ : ∃ V, (w1.alloc (.cells #[] 3)).drew = V := ⟨_, rfl⟩
    rw [hV1]
    have fs : Fr (fun _ => False) w1 V1 := by rw [← hV1]; exact ((Fr.refl _ _).alloc _).drew
    have fV1 : Fr (fun _ => False) w1 V1 := fs
    have hE : V1.ownsRow w1.heap.size 3 1 (.slice (some ⟨w1.heap.size, 0, none⟩) 0 0) 0 [] := by rw [← hV1]; exact row_low (own_empty w1 3 1) (by have := Nat.le_refl w1.heap.size; omega)
    clear fs
    refine hK.out _ _ ?_ (fun hHeld => ?_)
    · exact sS fV1
    clear hK K
    try simp only [Act.put, List.setIfInBounds_toArray, List.set_cons_zero, List.set_cons_succ]
    refine wpAnyZ_two (i := 6) (j := 9) (o := { dst := some 60, op := Go.Op.call { callee := Go.Callee.builtin Go.Builtin.append, args := #[Go.Operand.tmp 55, Go.Operand.tmp 59], argTypes := #[44, 44] }, type := 44, pos := "law.go:87", after := #[{ on := 1, ground := Go.Ground.data }, { on := 5, ground := Go.Ground.data }], guard := none }) (o2 := { dst := some 63, op := Go.Op.buildSlice 44 1 #[(0, Go.Operand.tmp 62)], type := 44, pos := "law.go:87", after := #[{ on := 8, ground := Go.Ground.data }], guard := none }) (by kernel_rfl) rfl rfl (by rfl) (by rfl) (fun K hK => ?_) (fun K hK => ?_)
    · obtain ⟨v6, V2, hr6, hown, fs, t6⟩ := run_app_any (P := Tryz.prog) V1 w1.heap.size 44 44 44 3 i0 _ 1 8 Tryz.underlying44 hi0 hz0 hz1 hz2 rfl _ 0 [] hE _ gl _ (hsrc fV1) (by unfold maxLen; omega) (by omega) fV1.size
      obtain ⟨A6, c6, rfl⟩ := row_slice hown
      rw [Nat.zero_add, List.nil_append] at hown
      rw [Nat.zero_add] at hr6 t6
      have fV2 : Fr (fun _ => False) w1 V2 := fV1.trans3 fs fun k hk e => by have := (hE.lt k e).1; omega
      clear fs
      refine wp_app_run _ _ _ _ rfl hr6 ?_
      refine hK.out _ _ ?_ (fun hHeld => ?_)
      · exact sS fV2
      clear hK K
      try simp only [Act.put, List.setIfInBounds_toArray, List.set_cons_zero, List.set_cons_succ]
      refine wpAnyZ_one (i := 9) (o := { dst := some 63, op := Go.Op.buildSlice 44 1 #[(0, Go.Operand.tmp 62)], type := 44, pos := "law.go:87", after := #[{ on := 8, ground := Go.Ground.data }], guard := none }) (by kernel_rfl) rfl (by rfl) (fun K hK => ?_)
      go_simp
      obtain ⟨V3, hV3⟩ : ∃ V, V2.alloc (.cells #[.int .i64 a.id] 3) = V := ⟨_, rfl⟩
      rw [hV3]
      have fs : Fr (fun _ => False) V2 V3 := by rw [← hV3]; exact (Fr.refl _ _).alloc _
      have fV3 : Fr (fun _ => False) w1 V3 := fV2.trans3 fs fun _ _ e => e
      have hO : V3.heap[V2.heap.size]? = some (.cells #[.int .i64 a.id] 3 (0, 0)) := by rw [← hV3]; exact heap_alloc_new V2 _
      have hown := row_same hown fun g hg => fs.block g (hown.lt g hg).2 fun e => e
      clear fs
      refine hK.out _ _ ?_ (fun hHeld => ?_)
      · exact sS fV3
      clear hK K
      try simp only [Act.put, List.setIfInBounds_toArray, List.set_cons_zero, List.set_cons_succ]
      refine wpAnyZ_one (i := 10) (o := { dst := some 64, op := Go.Op.call { callee := Go.Callee.builtin Go.Builtin.append, args := #[Go.Operand.tmp 60, Go.Operand.tmp 63], argTypes := #[44, 44] }, type := 44, pos := "law.go:87", after := #[{ on := 6, ground := Go.Ground.data }, { on := 9, ground := Go.Ground.data }, { on := 6, ground := Go.Ground.chain }], guard := none }) (by kernel_rfl) rfl (by rfl) (fun K hK => ?_)
      obtain ⟨v10, V4, hr10, o10, fs, t10⟩ := run_app_any (P := Tryz.prog) V3 w1.heap.size 44 44 44 3 i0 _ 1 8 Tryz.underlying44 hi0 hz0 hz1 hz2 rfl _ gl _ hown _ 1 [.int .i64 a.id] (src_one hO) (by unfold maxLen; omega) (by omega) fV3.size
      obtain ⟨A10, c10, rfl⟩ := row_slice o10
      have fV4 : Fr (fun _ => False) w1 V4 := fV3.trans3 fs fun k hk e => by have := (hown.lt k e).1; omega
      have hx3 := hfin fV4 o10
      have kB := fV4.blk hBx fun e => e
      have g8 := blk_cell kB 8
      have g8f := blk_free kB 8
      clear fs
      refine wp_app_run _ _ _ _ rfl hr10 ?_
      refine hK.out _ _ ?_ (fun hHeld => ?_)
      · exact sS fV4
      clear hK K
      try simp only [Act.put, List.setIfInBounds_toArray, List.set_cons_zero, List.set_cons_succ]
      refine wpAnyZ_one (i := 11) (o := { dst := some 65, op := Go.Op.nilCheck (Go.Operand.tmp 54), type := 0, pos := "law.go:87", after := #[{ on := 0, ground := Go.Ground.data }, { on := 0, ground := Go.Ground.phase }, { on := 1, ground := Go.Ground.phase }, { on := 2, ground := Go.Ground.phase }, { on := 3, ground := Go.Ground.phase }, { on := 4, ground := Go.Ground.phase }, { on := 5, ground := Go.Ground.phase }, { on := 6, ground := Go.Ground.phase }, { on := 7, ground := Go.Ground.phase }, { on := 8, ground := Go.Ground.phase }, { on := 9, ground := Go.Ground.phase }, { on := 10, ground := Go.Ground.phase }], guard := none }) (by kernel_rfl) rfl (by rfl) (fun K hK => ?_)
      go_simp
      refine hK.out _ _ ?_ (fun hHeld => ?_)
      · exact hHeld
      clear hK K
      try simp only [Act.put, List.setIfInBounds_toArray, List.set_cons_zero, List.set_cons_succ]
      refine wpAnyZ_read (i := 12) (oi := { dst := some 66, op := Go.Op.fieldAddr 46 (Go.Operand.tmp 65) 8, type := 0, pos := "law.go:87", after := #[{ on := 11, ground := Go.Ground.data }, { on := 0, ground := Go.Ground.phase }, { on := 1, ground := Go.Ground.phase }, { on := 2, ground := Go.Ground.phase }, { on := 3, ground := Go.Ground.phase }, { on := 4, ground := Go.Ground.phase }, { on := 5, ground := Go.Ground.phase }, { on := 6, ground := Go.Ground.phase }, { on := 7, ground := Go.Ground.phase }, { on := 8, ground := Go.Ground.phase }, { on := 9, ground := Go.Ground.phase }, { on := 10, ground := Go.Ground.phase }], guard := none }) ?_ rfl (by kernel_rfl) (by kernel_rfl) (by kernel_rfl) (by kernel_rfl) (fun _ _ _ h => h) (by rfl) (by exact hHeld) ?_ ?_
      rotate_left
      · (intro w0 hS0; have s0 := hS0.1; have s1 := hS0.2; rw [hvg] at s0; go_simp <;> (try with_reducible rfl))
      try simp only [Act.put, List.setIfInBounds_toArray, List.set_cons_zero, List.set_cons_succ]
      refine wpAnyZ_last (o := { dst := none, op := Go.Op.store 44 (Go.Operand.tmp 66) (Go.Operand.tmp 64), type := 0, pos := "law.go:87", after := #[{ on := 12, ground := Go.Ground.data }, { on := 10, ground := Go.Ground.data }, { on := 10, ground := Go.Ground.chain }, { on := 0, ground := Go.Ground.phase }, { on := 1, ground := Go.Ground.phase }, { on := 2, ground := Go.Ground.phase }, { on := 3, ground := Go.Ground.phase }, { on := 4, ground := Go.Ground.phase }, { on := 5, ground := Go.Ground.phase }, { on := 6, ground := Go.Ground.phase }, { on := 7, ground := Go.Ground.phase }, { on := 8, ground := Go.Ground.phase }, { on := 9, ground := Go.Ground.phase }, { on := 10, ground := Go.Ground.phase }], guard := none }) (by kernel_rfl) rfl (by rfl) (fun K hK => ?_)
      go_simp
      refine hK.out _ _ ?_
      clear hK K
      try simp only [Act.put, List.setIfInBounds_toArray, List.set_cons_zero, List.set_cons_succ]
      refine wpAnyZ_done (by kernel_rfl) ?_ _
      obtain ⟨q2, qx2, h2, f2, t2⟩ := H1.out.1.doc hx3
      have HX := Lib.hid (stepW_both H1.out.2.1 H1.out.2.2 ⟨q2, qx2, h2, f2, t2⟩)
      clear hx3 h2 f2 t2 kB g8 g8f
      go_wp2_with fail
      go_ret
      exact ⟨rfl, by rw [HAX.out.1, HAX.out.2]; exact HX.out.around B0.out (Below.refl _ _)⟩
    · go_simp
      obtain ⟨V2, hV2⟩ : ∃ V, V1.alloc (.cells #[.int .i64 a.id] 3) = V := ⟨_, rfl⟩
      rw [hV2]
      have fs : Fr (fun _ => False) V1 V2 := by rw [← hV2]; exact (Fr.refl _ _).alloc _
      have fV2 : Fr (fun _ => False) w1 V2 := fV1.trans3 fs fun _ _ e => e
      have hO : V2.heap[V1.heap.size]? = some (.cells #[.int .i64 a.id] 3 (0, 0)) := by rw [← hV2]; exact heap_alloc_new V1 _
      have hE := row_same hE fun g hg => fs.block g (hE.lt g hg).2 fun e => e
      clear fs
      refine hK.out _ _ ?_ (fun hHeld => ?_)
      · exact sS fV2
      clear hK K
      try simp only [Act.put, List.setIfInBounds_toArray, List.set_cons_zero, List.set_cons_succ]
      refine wpAnyZ_one (i := 6) (o := { dst := some 60, op := Go.Op.call { callee := Go.Callee.builtin Go.Builtin.append, args := #[Go.Operand.tmp 55, Go.Operand.tmp 59], argTypes := #[44, 44] }, type := 44, pos := "law.go:87", after := #[{ on := 1, ground := Go.Ground.data }, { on := 5, ground := Go.Ground.data }], guard := none }) (by kernel_rfl) rfl (by rfl) (fun K hK => ?_)
      have hEO : ¬ w1.heap.size = V1.heap.size := by rw [← hV1]; simp
      obtain ⟨v6, V3, hr6, hown, fs, t6⟩ := run_app_any (P := Tryz.prog) V2 w1.heap.size 44 44 44 3 i0 _ 1 8 Tryz.underlying44 hi0 hz0 hz1 hz2 rfl _ 0 [] hE _ gl _ (hsrc fV2) (by unfold maxLen; omega) (by omega) fV2.size
      obtain ⟨A6, c6, rfl⟩ := row_slice hown
      rw [Nat.zero_add, List.nil_append] at hown
      rw [Nat.zero_add] at hr6 t6
      have fV3 : Fr (fun _ => False) w1 V3 := fV2.trans3 fs fun k hk e => by have := (hE.lt k e).1; omega
      have hO := fs.blk hO fun e => by have e2 : w1.heap.size = V1.heap.size := (Option.some.inj e); exact hEO e2
      clear fs
      refine wp_app_run _ _ _ _ rfl hr6 ?_
      refine hK.out _ _ ?_ (fun hHeld => ?_)
      · exact sS fV3
      clear hK K
      try simp only [Act.put, List.setIfInBounds_toArray, List.set_cons_zero, List.set_cons_succ]
      refine wpAnyZ_one (i := 10) (o := { dst := some 64, op := Go.Op.call { callee := Go.Callee.builtin Go.Builtin.append, args := #[Go.Operand.tmp 60, Go.Operand.tmp 63], argTypes := #[44, 44] }, type := 44, pos := "law.go:87", after := #[{ on := 6, ground := Go.Ground.data }, { on := 9, ground := Go.Ground.data }, { on := 6, ground := Go.Ground.chain }], guard := none }) (by kernel_rfl) rfl (by rfl) (fun K hK => ?_)
      obtain ⟨v10, V4, hr10, o10, fs, t10⟩ := run_app_any (P := Tryz.prog) V3 w1.heap.size 44 44 44 3 i0 _ 1 8 Tryz.underlying44 hi0 hz0 hz1 hz2 rfl _ gl _ hown _ 1 [.int .i64 a.id] (src_one hO) (by unfold maxLen; omega) (by omega) fV3.size
      obtain ⟨A10, c10, rfl⟩ := row_slice o10
      have fV4 : Fr (fun _ => False) w1 V4 := fV3.trans3 fs fun k hk e => by have := (hown.lt k e).1; omega
      have hx3 := hfin fV4 o10
      have kB := fV4.blk hBx fun e => e
      have g8 := blk_cell kB 8
      have g8f := blk_free kB 8
      clear fs
      refine wp_app_run _ _ _ _ rfl hr10 ?_
      refine hK.out _ _ ?_ (fun hHeld => ?_)
      · exact sS fV4
      clear hK K
      try simp only [Act.put, List.setIfInBounds_toArray, List.set_cons_zero, List.set_cons_succ]
      refine wpAnyZ_one (i := 11) (o := { dst := some 65, op := Go.Op.nilCheck (Go.Operand.tmp 54), type := 0, pos := "law.go:87", after := #[{ on := 0, ground := Go.Ground.data }, { on := 0, ground := Go.Ground.phase }, { on := 1, ground := Go.Ground.phase }, { on := 2, ground := Go.Ground.phase }, { on := 3, ground := Go.Ground.phase }, { on := 4, ground := Go.Ground.phase }, { on := 5, ground := Go.Ground.phase }, { on := 6, ground := Go.Ground.phase }, { on := 7, ground := Go.Ground.phase }, { on := 8, ground := Go.Ground.phase }, { on := 9, ground := Go.Ground.phase }, { on := 10, ground := Go.Ground.phase }], guard := none }) (by kernel_rfl) rfl (by rfl) (fun K hK => ?_)
      go_simp
      refine hK.out _ _ ?_ (fun hHeld => ?_)
      · exact hHeld
      clear hK K
      try simp only [Act.put, List.setIfInBounds_toArray, List.set_cons_zero, List.set_cons_succ]
      refine wpAnyZ_read (i := 12) (oi := { dst := some 66, op := Go.Op.fieldAddr 46 (Go.Operand.tmp 65) 8, type := 0, pos := "law.go:87", after := #[{ on := 11, ground := Go.Ground.data }, { on := 0, ground := Go.Ground.phase }, { on := 1, ground := Go.Ground.phase }, { on := 2, ground := Go.Ground.phase }, { on := 3, ground := Go.Ground.phase }, { on := 4, ground := Go.Ground.phase }, { on := 5, ground := Go.Ground.phase }, { on := 6, ground := Go.Ground.phase }, { on := 7, ground := Go.Ground.phase }, { on := 8, ground := Go.Ground.phase }, { on := 9, ground := Go.Ground.phase }, { on := 10, ground := Go.Ground.phase }], guard := none }) ?_ rfl (by kernel_rfl) (by kernel_rfl) (by kernel_rfl) (by kernel_rfl) (fun _ _ _ h => h) (by rfl) (by exact hHeld) ?_ ?_
      rotate_left
      · (intro w0 hS0; have s0 := hS0.1; have s1 := hS0.2; rw [hvg] at s0; go_simp <;> (try with_reducible rfl))
      try simp only [Act.put, List.setIfInBounds_toArray, List.set_cons_zero, List.set_cons_succ]
      refine wpAnyZ_last (o := { dst := none, op := Go.Op.store 44 (Go.Operand.tmp 66) (Go.Operand.tmp 64), type := 0, pos := "law.go:87", after := #[{ on := 12, ground := Go.Ground.data }, { on := 10, ground := Go.Ground.data }, { on := 10, ground := Go.Ground.chain }, { on := 0, ground := Go.Ground.phase }, { on := 1, ground := Go.Ground.phase }, { on := 2, ground := Go.Ground.phase }, { on := 3, ground := Go.Ground.phase }, { on := 4, ground := Go.Ground.phase }, { on := 5, ground := Go.Ground.phase }, { on := 6, ground := Go.Ground.phase }, { on := 7, ground := Go.Ground.phase }, { on := 8, ground := Go.Ground.phase }, { on := 9, ground := Go.Ground.phase }, { on := 10, ground := Go.Ground.phase }], guard := none }) (by kernel_rfl) rfl (by rfl) (fun K hK => ?_)
      go_simp
      refine hK.out _ _ ?_
      clear hK K
      try simp only [Act.put, List.setIfInBounds_toArray, List.set_cons_zero, List.set_cons_succ]
      refine wpAnyZ_done (by kernel_rfl) ?_ _
      obtain ⟨q2, qx2, h2, f2, t2⟩ := H1.out.1.doc hx3
      have HX := Lib.hid (stepW_both H1.out.2.1 H1.out.2.2 ⟨q2, qx2, h2, f2, t2⟩)
      clear hx3 h2 f2 t2 kB g8 g8f
      go_wp2_with fail
      go_ret
      exact ⟨rfl, by rw [HAX.out.1, HAX.out.2]; exact HX.out.around B0.out (Below.refl _ _)⟩
  · go_simp
    obtain ⟨V1, hV1⟩ : ∃ V, (w1.alloc (.cells #[.int .i64 a.id] 3)).drew = V := ⟨_, rfl⟩
    rw [hV1]
    have fs : Fr (fun _ => False) w1 V1 := by rw [← hV1]; exact ((Fr.refl _ _).alloc _).drew
    have fV1 : Fr (fun _ => False) w1 V1 := fs
    have hO : V1.heap[w1.heap.size]? = some (.cells #[.int .i64 a.id] 3 (0, 0)) := by rw [← hV1]; exact heap_alloc_new w1 _
    clear fs
    refine hK.out _ _ ?_ (fun hHeld => ?_)
    · exact sS fV1
    clear hK K
    try simp only [Act.put, List.setIfInBounds_toArray, List.set_cons_zero, List.set_cons_succ]
    refine wpAnyZ_one (i := 1) (o := { dst := some 55, op := Go.Op.buildSlice 44 0 #[], type := 44, pos := "law.go:87", after := #[], guard := none }) (by kernel_rfl) rfl (by rfl) (fun K hK => ?_)
    go_simp
    obtain ⟨V2, hV2⟩ : ∃ V, V1.alloc (.cells #[] 3) = V := ⟨_, rfl⟩
    rw [hV2]
    have fs : Fr (fun _ => False) V1 V2 := by rw [← hV2]; exact (Fr.refl _ _).alloc _
    have fV2 : Fr (fun _ => False) w1 V2 := fV1.trans3 fs fun _ _ e => e
    have hE : V2.ownsRow w1.heap.size 3 1 (.slice (some ⟨V1.heap.size, 0, none⟩) 0 0) 0 [] := by rw [← hV2]; exact row_low (own_empty V1 3 1) (by have := fV1.size; omega)
    have hO := fs.blk hO fun e => e
    clear fs
    refine hK.out _ _ ?_ (fun hHeld => ?_)
    · exact sS fV2
    clear hK K
    try simp only [Act.put, List.setIfInBounds_toArray, List.set_cons_zero, List.set_cons_succ]
    refine wpAnyZ_one (i := 6) (o := { dst := some 60, op := Go.Op.call { callee := Go.Callee.builtin Go.Builtin.append, args := #[Go.Operand.tmp 55, Go.Operand.tmp 59], argTypes := #[44, 44] }, type := 44, pos := "law.go:87", after := #[{ on := 1, ground := Go.Ground.data }, { on := 5, ground := Go.Ground.data }], guard := none }) (by kernel_rfl) rfl (by rfl) (fun K hK => ?_)
    have hEO : ¬ V1.heap.size = w1.heap.size := by rw [← hV1]; simp
    obtain ⟨v6, V3, hr6, hown, fs, t6⟩ := run_app_any (P := Tryz.prog) V2 w1.heap.size 44 44 44 3 i0 _ 1 8 Tryz.underlying44 hi0 hz0 hz1 hz2 rfl _ 0 [] hE _ gl _ (hsrc fV2) (by unfold maxLen; omega) (by omega) fV2.size
    obtain ⟨A6, c6, rfl⟩ := row_slice hown
    rw [Nat.zero_add, List.nil_append] at hown
    rw [Nat.zero_add] at hr6 t6
    have fV3 : Fr (fun _ => False) w1 V3 := fV2.trans3 fs fun k hk e => by have := (hE.lt k e).1; omega
    have hO := fs.blk hO fun e => by have e2 : V1.heap.size = w1.heap.size := (Option.some.inj e); exact hEO e2
    clear fs
    refine wp_app_run _ _ _ _ rfl hr6 ?_
    refine hK.out _ _ ?_ (fun hHeld => ?_)
    · exact sS fV3
    clear hK K
    try simp only [Act.put, List.setIfInBounds_toArray, List.set_cons_zero, List.set_cons_succ]
    refine wpAnyZ_one (i := 10) (o := { dst := some 64, op := Go.Op.call { callee := Go.Callee.builtin Go.Builtin.append, args := #[Go.Operand.tmp 60, Go.Operand.tmp 63], argTypes := #[44, 44] }, type := 44, pos := "law.go:87", after := #[{ on := 6, ground := Go.Ground.data }, { on := 9, ground := Go.Ground.data }, { on := 6, ground := Go.Ground.chain }], guard := none }) (by kernel_rfl) rfl (by rfl) (fun K hK => ?_)
    obtain ⟨v10, V4, hr10, o10, fs, t10⟩ := run_app_any (P := Tryz.prog) V3 w1.heap.size 44 44 44 3 i0 _ 1 8 Tryz.underlying44 hi0 hz0 hz1 hz2 rfl _ gl _ hown _ 1 [.int .i64 a.id] (src_one hO) (by unfold maxLen; omega) (by omega) fV3.size
    obtain ⟨A10, c10, rfl⟩ := row_slice o10
    have fV4 : Fr (fun _ => False) w1 V4 := fV3.trans3 fs fun k hk e => by have := (hown.lt k e).1; omega
    have hx3 := hfin fV4 o10
    have kB := fV4.blk hBx fun e => e
    have g8 := blk_cell kB 8
    have g8f := blk_free kB 8
    clear fs
    refine wp_app_run _ _ _ _ rfl hr10 ?_
    refine hK.out _ _ ?_ (fun hHeld => ?_)
    · exact sS fV4
    clear hK K
    try simp only [Act.put, List.setIfInBounds_toArray, List.set_cons_zero, List.set_cons_succ]
    refine wpAnyZ_one (i := 11) (o := { dst := some 65, op := Go.Op.nilCheck (Go.Operand.tmp 54), type := 0, pos := "law.go:87", after := #[{ on := 0, ground := Go.Ground.data }, { on := 0, ground := Go.Ground.phase }, { on := 1, ground := Go.Ground.phase }, { on := 2, ground := Go.Ground.phase }, { on := 3, ground := Go.Ground.phase }, { on := 4, ground := Go.Ground.phase }, { on := 5, ground := Go.Ground.phase }, { on := 6, ground := Go.Ground.phase }, { on := 7, ground := Go.Ground.phase }, { on := 8, ground := Go.Ground.phase }, { on := 9, ground := Go.Ground.phase }, { on := 10, ground := Go.Ground.phase }], guard := none }) (by kernel_rfl) rfl (by rfl) (fun K hK => ?_)
    go_simp
    refine hK.out _ _ ?_ (fun hHeld => ?_)
    · exact hHeld
    clear hK K
    try simp only [Act.put, List.setIfInBounds_toArray, List.set_cons_zero, List.set_cons_succ]
    refine wpAnyZ_read (i := 12) (oi := { dst := some 66, op := Go.Op.fieldAddr 46 (Go.Operand.tmp 65) 8, type := 0, pos := "law.go:87", after := #[{ on := 11, ground := Go.Ground.data }, { on := 0, ground := Go.Ground.phase }, { on := 1, ground := Go.Ground.phase }, { on := 2, ground := Go.Ground.phase }, { on := 3, ground := Go.Ground.phase }, { on := 4, ground := Go.Ground.phase }, { on := 5, ground := Go.Ground.phase }, { on := 6, ground := Go.Ground.phase }, { on := 7, ground := Go.Ground.phase }, { on := 8, ground := Go.Ground.phase }, { on := 9, ground := Go.Ground.phase }, { on := 10, ground := Go.Ground.phase }], guard := none }) ?_ rfl (by kernel_rfl) (by kernel_rfl) (by kernel_rfl) (by kernel_rfl) (fun _ _ _ h => h) (by rfl) (by exact hHeld) ?_ ?_
    rotate_left
    · (intro w0 hS0; have s0 := hS0.1; have s1 := hS0.2; rw [hvg] at s0; go_simp <;> (try with_reducible rfl))
    try simp only [Act.put, List.setIfInBounds_toArray, List.set_cons_zero, List.set_cons_succ]
    refine wpAnyZ_last (o := { dst := none, op := Go.Op.store 44 (Go.Operand.tmp 66) (Go.Operand.tmp 64), type := 0, pos := "law.go:87", after := #[{ on := 12, ground := Go.Ground.data }, { on := 10, ground := Go.Ground.data }, { on := 10, ground := Go.Ground.chain }, { on := 0, ground := Go.Ground.phase }, { on := 1, ground := Go.Ground.phase }, { on := 2, ground := Go.Ground.phase }, { on := 3, ground := Go.Ground.phase }, { on := 4, ground := Go.Ground.phase }, { on := 5, ground := Go.Ground.phase }, { on := 6, ground := Go.Ground.phase }, { on := 7, ground := Go.Ground.phase }, { on := 8, ground := Go.Ground.phase }, { on := 9, ground := Go.Ground.phase }, { on := 10, ground := Go.Ground.phase }], guard := none }) (by kernel_rfl) rfl (by rfl) (fun K hK => ?_)
    go_simp
    refine hK.out _ _ ?_
    clear hK K
    try simp only [Act.put, List.setIfInBounds_toArray, List.set_cons_zero, List.set_cons_succ]
    refine wpAnyZ_done (by kernel_rfl) ?_ _
    obtain ⟨q2, qx2, h2, f2, t2⟩ := H1.out.1.doc hx3
    have HX := Lib.hid (stepW_both H1.out.2.1 H1.out.2.2 ⟨q2, qx2, h2, f2, t2⟩)
    clear hx3 h2 f2 t2 kB g8 g8f
    go_wp2_with fail
    go_ret
    exact ⟨rfl, by rw [HAX.out.1, HAX.out.2]; exact HX.out.around B0.out (Below.refl _ _)⟩
set_option maxRecDepth 100000 in
set_option maxHeartbeats 16000000 in
theorem act_4 {base B : Nat} {q : RmV} {r : Rm} {B2 : Nat} {qx : RxV} {x : Rx} {w : World} (h : Two19 base B q r B2 qx x w) {k : Nat} (hrel : Rel19 k r x) (hk : k ≤ 1000) (a : Act19) (hs : a.s.length ≤ 250) (hg : a.arg.length ≤ 250) (hr : ∀ W, RowKit.Below base w W → Rowed W) (h1 : a.k = 4) :
    Calls Tryz.prog 11 #[.pointer (some ⟨B, 0, none⟩), .pointer (some ⟨B2, 0, none⟩), actV a] w (ActP base B q B2 qx (actR r a) (actX x a) w) := by
  obtain ⟨N, hN⟩ : ∃ N, w.heap.size = N := ⟨_, rfl⟩
  obtain ⟨W0, hW0⟩ : ∃ W0, w.alloc (.cells #[.int .i64 a.k, .int .i64 a.id, .bool a.op, .string (bs a.s), .bool a.on, .int .u8 a.l.toNat, .string (bs a.arg)] 33) = W0 := ⟨_, rfl⟩
  have b0 : RowKit.Below w.heap.size w W0 := by rw [← hW0]; exact (Below.refl _ w).alloc (Nat.le_refl _) _
  have k0 : W0.heap[N]? = some (.cells #[.int .i64 a.k, .int .i64 a.id, .bool a.op, .string (bs a.s), .bool a.on, .int .u8 a.l.toNat, .string (bs a.arg)] 33 (0, 0)) := by rw [← hW0, ← hN]; exact heap_alloc_new w _
  have h0 := h.below b0
  have hlt : ∀ k, All19 B q B2 qx k → k < w.heap.size := fun k hk => (h.lt k hk).2
  have c0 := blk_cell k0 0; have c1 := blk_cell k0 1; have c2 := blk_cell k0 2; have c3 := blk_cell k0 3; have c4 := blk_cell k0 4; have c5 := blk_cell k0 5; have c6 := blk_cell k0 6
  have hbox : ∀ {V : World}, Fr (All19 B q B2 qx) W0 V → V.heap[N]? = some (.cells #[.int .i64 a.k, .int .i64 a.id, .bool a.op, .string (bs a.s), .bool a.on, .int .u8 a.l.toNat, .string (bs a.arg)] 33 (0, 0)) := fun {V} hf => hf.blk k0 fun e => by have := hlt _ e; omega
  have B0 := Lib.hid b0
  have H0 : Hid (Two19 base B q r B2 qx x W0) := Lib.hid h0
  have hax : actR r a = (chgAll r a.on a.l a.arg a.id).2 ∧ actX x a = (chgX x a.on a.l a.arg a.id).2 := by
    have n1 : ¬ a.k = 1 := by omega
    have n2 : ¬ a.k = 2 := by omega
    have n3 : ¬ a.k = 3 := by omega
    unfold actR actX; rw [if_neg n1, if_neg n1, if_neg n2, if_neg n2, if_neg n3, if_neg n3, if_pos h1, if_pos h1]; exact ⟨rfl, rfl⟩
  have HAX := Lib.hid hax
  have hT := change_any h0.p a.on a.l a.arg a.id (by omega) (hr W0 (b0.mono h.p.sz)) (by have := hrel.s1; omega) (by have := hrel.s2; omega) (fun y hy => by have := hrel.s8 y hy; omega)
  have hX := fun {q1 : RmV} {qx1 : RxV} {r1 : Rm} {V : World} (hv : Two19 base B q1 r1 B2 qx1 x V) (hb : RowKit.Below base w V) => refChange_any hv.d a.on a.l a.arg a.id (by omega) (hr V hb) (by have := hrel.s1; have := hrel.mem.length_eq; omega) (by have := hrel.s2; rw [hrel.bans]; omega) (fun y hy => by rw [hrel.bans] at hy; have := hrel.s8 y hy; omega) (by have := hrel.s3; omega)
  obtain ⟨t, ht⟩ : ∃ t, (chgX x a.on a.l a.arg a.id).1 = t := ⟨_, rfl⟩
  have htt := (rel_chg hrel a.on a.l a.arg a.id hg).1
  rw [ht] at hX htt
  rw [htt] at hT
  have HT := Lib.hid hT
  have HX0 : Hid (∀ {q1 : RmV} {qx1 : RxV} {r1 : Rm} {V : World}, Two19 base B q1 r1 B2 qx1 x V → RowKit.Below base w V → Calls Tryz.prog 35 #[.pointer (some ⟨B2, 0, none⟩), chgV a.on a.l a.arg, .int .i64 a.id] V fun e w' => e = .returned t.val ∧ XW base B2 qx1 (chgX x a.on a.l a.arg a.id).2 V w') := @hX
  have HB : Hid (∀ {V : World}, Fr (All19 B q B2 qx) W0 V → V.heap[N]? = some (.cells #[.int .i64 a.k, .int .i64 a.id, .bool a.op, .string (bs a.s), .bool a.on, .int .u8 a.l.toNat, .string (bs a.arg)] 33 (0, 0))) := @hbox
  have hbw : ∀ {V : World}, Fr (All19 B q B2 qx) W0 V → RowKit.Below base w V := fun {V} hf => by
    have hbs := h.p.sz
    exact (b0.mono hbs).trans (hf.below (B := base) (Nat.le_trans hbs b0.size) fun k hk e => by have := (h.lt k e).1; omega)
  have HBW : Hid (∀ {V : World}, Fr (All19 B q B2 qx) W0 V → RowKit.Below base w V) := @hbw
  have e1 : (a.k == 1) = false := by rw [h1]; rfl
  have e2 : (a.k == 2) = false := by rw [h1]; rfl
  have e3 : (a.k == 3) = false := by rw [h1]; rfl
  have e4 : (a.k == 4) = true := by rw [h1]; rfl
  have HN := Lib.hid hN
  have HW := Lib.hid hW0
  obtain ⟨ton, tc, targ, tcode⟩ := t
  clear h b0 k0 h0 hlt hbox hax hT hX ht htt hrel hs hg hr hk h1 hW0 hN hbw
  unfold chgV at HT
  unfold actV
  have hW0 := HW.out
  have hN := HN.out
  go_enter Tryz.func11, Tryz.ntmps11
  go_wp2_with fail
  clear hW0 hN
  refine HT.out.mono ?_
  rintro e w1 ⟨rfl, hc1⟩
  obtain ⟨q1, qx1, h1, f1, t1⟩ := H0.out.prog hc1
  obtain ⟨M, hM⟩ : ∃ M, w1.heap.size = M := ⟨_, rfl⟩
  obtain ⟨W2, hW2⟩ : ∃ W2, w1.alloc (.cells #[.bool ton, .int .u8 tc.toNat, .string (bs targ)] 31) = W2 := ⟨_, rfl⟩
  have b2 : RowKit.Below w1.heap.size w1 W2 := by rw [← hW2]; exact (Below.refl _ _).alloc (Nat.le_refl _) _
  have f2 : Fr (fun _ => False) w1 W2 := Fr.of_below b2
  have f02 : Fr (All19 B q B2 qx) W0 W2 := f1.trans3 f2 fun _ _ e => e.elim
  have h2 := h1.below b2
  have k2 := HB.out f02
  have m2 : W2.heap[M]? = some (.cells #[.bool ton, .int .u8 tc.toNat, .string (bs targ)] 31 (0, 0)) := by rw [← hW2, ← hM]; exact heap_alloc_new w1 _
  have hMx : ∀ k, RxX B2 qx1 k → k < M := fun k e => by rw [← hM]; exact (h1.d.lt k e).2
  have hX2 := HX0.out h2 (HBW.out f02)
  unfold chgV at hX2
  have HX2 := Lib.hid hX2
  have H2 := Lib.hid (And.intro h2 (And.intro f02 (And.intro m2 (And.intro hMx (fun k hk hl => t1 k hk (show k < W0.heap.size from hl))))))
  have c1 := blk_cell k2 1; have c4 := blk_cell k2 4; have c5 := blk_cell k2 5; have c6 := blk_cell k2 6
  clear h1 f1 t1 hc1 b2 f2 f02 h2 k2 m2 hMx hX2
  dsimp only [Told.val, chgV]
  go_wp2_with fail
  clear hW2 hM
  refine HX2.out.mono ?_
  rintro e w3 ⟨rfl, hc3⟩
  obtain ⟨h2, f02, m2, hMx, t02⟩ := H2.out
  have hst := stepW_both f02 t02 (h2.doc hc3)
  have m3 : w3.heap[M]? = some (.cells #[.bool ton, .int .u8 tc.toNat, .string (bs targ)] 31 (0, 0)) := by
    obtain ⟨_, _, b, _⟩ := hc3
    exact b.blk m2 fun e => by have := hMx _ e; omega
  obtain ⟨M4, hM4⟩ : ∃ M4, w3.heap.size = M4 := ⟨_, rfl⟩
  obtain ⟨W4, hW4⟩ : ∃ W4, w3.alloc (.cells #[.bool ton, .int .u8 tc.toNat, .string (bs targ)] 31) = W4 := ⟨_, rfl⟩
  have b4 : RowKit.Below w3.heap.size w3 W4 := by rw [← hW4]; exact (Below.refl _ _).alloc (Nat.le_refl _) _
  have m4 : W4.heap[M4]? = some (.cells #[.bool ton, .int .u8 tc.toNat, .string (bs targ)] 31 (0, 0)) := by rw [← hW4, ← hM4]; exact heap_alloc_new w3 _
  have m34 := (Fr.of_below (X := fun _ => False) b4).blk m3 fun e => e
  have HF := Lib.hid (And.intro hst b4)
  have p0 := blk_cell m34 0; have p1 := blk_cell m34 1; have p2 := blk_cell m34 2
  have q0 := blk_cell m4 0; have q1' := blk_cell m4 1; have q2 := blk_cell m4 2
  have heql : ∀ W, (binOp .eql 31 (.agg #[.bool ton, .int .u8 tc.toNat, .string (bs targ)]) (.agg #[.bool ton, .int .u8 tc.toNat, .string (bs targ)])).run Tryz.prog W = .ok (.bool true) W := fun W => by rw [eqlC, decide_eq_true ⟨rfl, rfl, rfl⟩]
  have hgrd : ∀ x y W, (eqGuard .eql 31 x y (.agg #[.bool ton, .int .u8 tc.toNat, .string (bs targ)]) (.agg #[.bool ton, .int .u8 tc.toNat, .string (bs targ)])).run Tryz.prog W = .ok () W := fun x y W => guardC x y _ _ W
  clear h2 f02 m2 hMx t02 hst hc3 m3 b4 m4 m34
  dsimp only [Told.val, chgV]
  go_wp2_with fail
  go_ret
  refine ⟨by simp, ?_⟩
  rw [HAX.out.1, HAX.out.2]
  exact (HF.out.1.around (Below.refl _ _) HF.out.2).around B0.out (Below.refl _ _)
set_option maxRecDepth 100000 in
set_option maxHeartbeats 16000000 in
theorem act_0 {base B : Nat} {q : RmV} {r : Rm} {B2 : Nat} {qx : RxV} {x : Rx} {w : World} (h : Two19 base B q r B2 qx x w) {k : Nat} (hrel : Rel19 k r x) (hk : k ≤ 1000) (a : Act19) (hs : a.s.length ≤ 250) (hg : a.arg.length ≤ 250) (hr : ∀ W, RowKit.Below base w W → Rowed W) (h1 : a.k ≠ 1 ∧ a.k ≠ 2 ∧ a.k ≠ 3 ∧ a.k ≠ 4) :
    Calls Tryz.prog 11 #[.pointer (some ⟨B, 0, none⟩), .pointer (some ⟨B2, 0, none⟩), actV a] w (ActP base B q B2 qx (actR r a) (actX x a) w) := by
  obtain ⟨N, hN⟩ : ∃ N, w.heap.size = N := ⟨_, rfl⟩
  obtain ⟨W0, hW0⟩ : ∃ W0, w.alloc (.cells #[.int .i64 a.k, .int .i64 a.id, .bool a.op, .string (bs a.s), .bool a.on, .int .u8 a.l.toNat, .string (bs a.arg)] 33) = W0 := ⟨_, rfl⟩
  have b0 : RowKit.Below w.heap.size w W0 := by rw [← hW0]; exact (Below.refl _ w).alloc (Nat.le_refl _) _
  have k0 : W0.heap[N]? = some (.cells #[.int .i64 a.k, .int .i64 a.id, .bool a.op, .string (bs a.s), .bool a.on, .int .u8 a.l.toNat, .string (bs a.arg)] 33 (0, 0)) := by rw [← hW0, ← hN]; exact heap_alloc_new w _
  have h0 := h.below b0
  have hlt : ∀ k, All19 B q B2 qx k → k < w.heap.size := fun k hk => (h.lt k hk).2
  have c0 := blk_cell k0 0; have c1 := blk_cell k0 1; have c2 := blk_cell k0 2; have c3 := blk_cell k0 3; have c4 := blk_cell k0 4; have c5 := blk_cell k0 5; have c6 := blk_cell k0 6
  have hbox : ∀ {V : World}, Fr (All19 B q B2 qx) W0 V → V.heap[N]? = some (.cells #[.int .i64 a.k, .int .i64 a.id, .bool a.op, .string (bs a.s), .bool a.on, .int .u8 a.l.toNat, .string (bs a.arg)] 33 (0, 0)) := fun {V} hf => hf.blk k0 fun e => by have := hlt _ e; omega
  have B0 := Lib.hid b0
  have H0 : Hid (Two19 base B q r B2 qx x W0) := Lib.hid h0
  have hax : actR r a = addR r a.id a.op ∧ actX x a = addX x a.id a.op := by unfold actR actX; rw [if_neg h1.1, if_neg h1.1, if_neg h1.2.1, if_neg h1.2.1, if_neg h1.2.2.1, if_neg h1.2.2.1, if_neg h1.2.2.2, if_neg h1.2.2.2]; exact ⟨rfl, rfl⟩
  have HAX := Lib.hid hax
  have HT := Lib.hid (add_any h0.p a.id a.op (by have := hrel.s1; omega) (by have := hrel.s4; omega))
  have hX := fun {q1 : RmV} {qx1 : RxV} {r1 : Rm} {V : World} (hv : Two19 base B q1 r1 B2 qx1 x V) => refAdd_any hv.d a.id a.op (by have := hrel.s1; have := hrel.mem.length_eq; omega) (by have := hrel.s5; omega)
  have HX0 : Hid (∀ {q1 : RmV} {qx1 : RxV} {r1 : Rm} {V : World}, Two19 base B q1 r1 B2 qx1 x V → Calls Tryz.prog 36 #[.pointer (some ⟨B2, 0, none⟩), .int .i64 a.id, .bool a.op] V fun e w' => (∃ v, e = .returned v) ∧ XW base B2 qx1 (addX x a.id a.op) V w') := @hX
  have HB : Hid (∀ {V : World}, Fr (All19 B q B2 qx) W0 V → V.heap[N]? = some (.cells #[.int .i64 a.k, .int .i64 a.id, .bool a.op, .string (bs a.s), .bool a.on, .int .u8 a.l.toNat, .string (bs a.arg)] 33 (0, 0))) := @hbox
  have e1 : (a.k == 1) = false := by simpa using h1.1
  have e2 : (a.k == 2) = false := by simpa using h1.2.1
  have e3 : (a.k == 3) = false := by simpa using h1.2.2.1
  have e4 : (a.k == 4) = false := by simpa using h1.2.2.2
  have HN := Lib.hid hN
  have HW := Lib.hid hW0
  clear h b0 k0 h0 hlt hbox hax hX hrel hs hg hr hk h1 hW0 hN
  unfold actV
  have hW0 := HW.out
  have hN := HN.out
  go_enter Tryz.func11, Tryz.ntmps11
  go_wp2_with fail
  clear hW0 hN
  refine HT.out.mono ?_
  rintro e w1 ⟨⟨v1, rfl⟩, hc1⟩
  obtain ⟨q1, qx1, h1, f1, t1⟩ := H0.out.prog hc1
  have k1 := HB.out f1
  have c1 := blk_cell k1 1; have c2 := blk_cell k1 2
  have H1 := Lib.hid (And.intro h1 (And.intro f1 t1))
  have HX1 := Lib.hid (HX0.out h1)
  clear h1 f1 t1 hc1 k1
  go_wp2_with fail
  refine HX1.out.mono ?_
  rintro e w2 ⟨⟨v2, rfl⟩, hx2⟩
  have HX := Lib.hid (stepW_both H1.out.2.1 H1.out.2.2 (H1.out.1.doc hx2))
  clear hx2
  go_wp2_with fail
  go_ret
  refine ⟨rfl, ?_⟩
  rw [HAX.out.1, HAX.out.2]
  exact HX.out.around B0.out (Below.refl _ _)
theorem act_any {base B : Nat} {q : RmV} {r : Rm} {B2 : Nat} {qx : RxV} {x : Rx} {w : World} (h : Two19 base B q r B2 qx x w) {k : Nat} (hrel : Rel19 k r x) (hk : k ≤ 1000) (a : Act19) (hs : a.s.length ≤ 250) (hg : a.arg.length ≤ 250) (hr : ∀ W, RowKit.Below base w W → Rowed W) :
    Calls Tryz.prog 11 #[.pointer (some ⟨B, 0, none⟩), .pointer (some ⟨B2, 0, none⟩), actV a] w (ActP base B q B2 qx (actR r a) (actX x a) w) := by
  by_cases h1 : a.k = 1
  · exact act_1 h hrel hk a hs hg hr h1
  · by_cases h2 : a.k = 2
    · exact act_2 h hrel hk a hs hg hr h2
    · by_cases h3 : a.k = 3
      · exact act_3 h hrel hk a hs hg hr h3
      · by_cases h4 : a.k = 4
        · exact act_4 h hrel hk a hs hg hr h4
        · exact act_0 h hrel hk a hs hg hr ⟨h1, h2, h3, h4⟩
end Go.Proofs.YtmgnhbihfgpccaaGreatDoor
end
section
/- Layer 19: RoomNone. -/
namespace Go.Proofs.YtmgnhbihfgpccaaGreatDoor
open Go Go.RowKit

theorem box7_below {w W : World} {N : Nat} {cs : Array Value} {T : TypeId} (h : w.heap[N]? = some (.cells cs T (0, 0))) (hb : RowKit.Below w.heap.size w W) : W.heap[N]? = some (.cells cs T (0, 0)) := (hb.block N (blk_lt h)).trans h
set_option maxRecDepth 100000 in
set_option maxHeartbeats 8000000 in
theorem roomNone_walk (a : Act19) (w : World) (hr : Rowed w) (hp : PowR w) (hs : a.s.length ≤ 9223372036854775807) (ha : a.arg.length ≤ 9223372036854775807) :
    Calls Tryz.prog 5 #[actV a] w fun e w' => e = .returned (.bool true) ∧ RowKit.Below w.heap.size w w' := by
  obtain ⟨N, hN⟩ : ∃ N, w.heap.size = N := ⟨_, rfl⟩
  obtain ⟨w0, hw0⟩ : ∃ w0, w.alloc (Obj.cells #[.int .i64 a.k, .int .i64 a.id, .bool a.op, .string (bs a.s), .bool a.on, .int .u8 a.l.toNat, .string (bs a.arg)] 33) = w0 := ⟨_, rfl⟩
  have b0 : RowKit.Below w.heap.size w w0 := by rw [← hw0]; exact (Below.refl _ _).alloc (Nat.le_refl _) _
  have k0 : w0.heap[N]? = some (.cells #[.int .i64 a.k, .int .i64 a.id, .bool a.op, .string (bs a.s), .bool a.on, .int .u8 a.l.toNat, .string (bs a.arg)] 33 (0, 0)) := by rw [← hw0, ← hN]; exact heap_alloc_new w _
  have hcs : ∀ W, RowKit.Below w0.heap.size w0 W → W.cell? ⟨N, 0, none⟩ = some (.int .i64 a.k) ∧ W.cell? ⟨N, 1, none⟩ = some (.int .i64 a.id) ∧ W.cell? ⟨N, 2, none⟩ = some (.bool a.op) ∧ W.cell? ⟨N, 3, none⟩ = some (.string (bs a.s)) ∧ W.cell? ⟨N, 4, none⟩ = some (.bool a.on) ∧ W.cell? ⟨N, 5, none⟩ = some (.int .u8 a.l.toNat) ∧ W.cell? ⟨N, 6, none⟩ = some (.string (bs a.arg)) := fun W hb => by
    have k := box7_below k0 hb
    exact ⟨blk_cell k 0, blk_cell k 1, blk_cell k 2, blk_cell k 3, blk_cell k 4, blk_cell k 5, blk_cell k 6⟩
  have hg : ∀ W, Calls Tryz.prog 8 #[.slice (some ⟨W.heap.size, 0, none⟩) 1 1] (W.alloc (Obj.cells #[.int .i64 a.k, .int .i64 a.id, .bool a.op, .string (bs a.s), .bool a.on, .int .u8 a.l.toNat, .string (bs a.arg)] 33)) fun e w' => e = .returned (.bool (grA [a])) ∧ RowKit.Below W.heap.size W w' := fun W => by
    have hra : ReadsA (W.alloc (Obj.cells #[.int .i64 a.k, .int .i64 a.id, .bool a.op, .string (bs a.s), .bool a.on, .int .u8 a.l.toNat, .string (bs a.arg)] 33)) (some ⟨W.heap.size, 0, none⟩) [a] := fun _ => ⟨_, 0, rfl, by simp, fun j hj i hi => by
      obtain rfl : j = 0 := by simpa using hj
      rw [show 0 + 0 * 7 + i = i by omega, blk_cell (heap_alloc_new W _) i]
      simp [encA]⟩
    exact (great19 _ 1 [a] _ hra (by simp)).mono fun e w' ⟨h1, h2⟩ => ⟨h1, by rw [h2]; exact (Below.refl _ _).alloc (Nat.le_refl _) _⟩
  obtain ⟨gr, hgr⟩ : ∃ gr, grA [a] = gr := ⟨_, rfl⟩
  rw [hgr] at hg
  have HCS := Lib.hid hcs
  have HG := Lib.hid hg
  have H0 := Lib.hid (And.intro hw0 b0)
  have HA := Lib.hid (awake19 w0 (hr.keep b0) (hp.below b0))
  clear hcs hg hw0 b0 k0 hr hp hgr
  have HN := Lib.hid hN
  clear hN
  unfold actV
  go_enter Tryz.func5, Tryz.ntmps5
  go_wp2_with fail
  rw [H0.out.1, HN.out]
  refine HA.out.mono ?_
  rintro e w1 ⟨rfl, b1⟩
  have B1 := Lib.hid b1
  obtain ⟨c0, c1, c2, c3, c4, c5, c6⟩ := HCS.out _ B1.out
  clear b1
  go_wp2_with fail
  refine (HG.out w1).mono ?_
  rintro e w2 ⟨rfl, b2⟩
  have B2 := Lib.hid (B1.out.trans (b2.mono B1.out.size))
  clear b2 c0 c1 c2 c3 c4 c5 c6
  obtain ⟨c0, c1, c2, c3, c4, c5, c6⟩ := HCS.out _ B2.out
  cases gr with
  | true =>
    clear c0 c1 c2 c3 c4 c5 c6
    go_wp2_with fail
    go_ret
    exact ⟨rfl, H0.out.2.trans (B2.out.mono H0.out.2.size)⟩
  | false =>
    go_wp2_with (first
      | (go_at_call 25; refine (add_nil _ _ _).mono ?_; rintro e w' ⟨⟨_, rfl⟩, rfl⟩)
      | (go_at_call 26; refine (setTopic_nil _ _).mono ?_; rintro e w' ⟨⟨_, rfl⟩, rfl⟩)
      | (go_at_call 27; refine (invite_nil _ _).mono ?_; rintro e w' ⟨⟨_, rfl⟩, rfl⟩))
    refine (member_nil _ _).mono ?_
    rintro e w3 ⟨rfl, b3⟩
    have B3 := Lib.hid (B2.out.trans (b3.mono B2.out.size))
    clear b3 c0 c1 c2 c3 c4 c5 c6
    obtain ⟨c0, c1, c2, c3, c4, c5, c6⟩ := HCS.out _ B3.out
    have hz3 := B3.out.size
    obtain ⟨w4, hw4⟩ : ∃ w4, w3.alloc (Obj.cells #[Value.int IntKind.i64 0, Value.bool false, Value.bool false] 38) = w4 := ⟨_, rfl⟩
    have b4 : RowKit.Below w3.heap.size w3 w4 := by rw [← hw4]; exact (Below.refl _ _).alloc (Nat.le_refl _) _
    have B4 := Lib.hid (B3.out.trans (b4.mono B3.out.size))
    clear b4 c0 c1 c2 c3 c4 c5 c6
    obtain ⟨c0, c1, c2, c3, c4, c5, c6⟩ := HCS.out _ B4.out
    rw [← hw4] at c1 c4 c5 c6
    have HW4 := Lib.hid hw4
    clear c0 c2 c3 hw4
    go_wp2_with fail
    rw [HW4.out]
    clear HW4 c1 c4 c5 c6
    refine (change_nil (.int .i64 0) a.id w4 a.on a.l a.arg).mono ?_
    rintro e w5 ⟨rfl, b5⟩
    have B5 := Lib.hid (B4.out.trans (b5.mono B4.out.size))
    clear b5
    obtain ⟨c0, c1, c2, c3, c4, c5, c6⟩ := HCS.out _ B5.out
    dsimp only [Told.val, noT, chgV]
    go_wp2_with fail
    clear c0 c1 c2 c3 c4 c5 c6
    obtain ⟨M, hM⟩ : ∃ M, w5.heap.size = M := ⟨_, rfl⟩
    obtain ⟨w6, hw6⟩ : ∃ w6, w5.alloc (Obj.cells #[Value.bool false, Value.int IntKind.u8 0, Value.string (bs [])] 31) = w6 := ⟨_, rfl⟩
    have b6 : RowKit.Below w5.heap.size w5 w6 := by rw [← hw6]; exact (Below.refl _ _).alloc (Nat.le_refl _) _
    have k6 : w6.heap[M]? = some (.cells #[.bool false, .int .u8 0, .string (bs [])] 31 (0, 0)) := by rw [← hw6, ← hM]; exact heap_alloc_new w5 _
    have B6 := Lib.hid (B5.out.trans (b6.mono B5.out.size))
    have K6 := Lib.hid k6
    rw [hw6, hM]
    clear hw6 b6 k6 hM
    refine (bans_law (w := w6) (p := none) (R := []) (fun W _ => bans_nil W) (by simp)).mono ?_
    rintro e w7 ⟨⟨A7, c7, rfl, o7⟩, b7⟩
    have B7 := Lib.hid (B6.out.trans (b7.mono B6.out.size))
    have k7 := box7_below K6.out b7
    have K7 := Lib.hid k7
    clear k7 b7 o7
    obtain ⟨c0, c1, c2, c3, c4, c5, c6⟩ := HCS.out _ B7.out
    have e0 := blk_cell K7.out 0
    have e1 := blk_cell K7.out 1
    have e2 := blk_cell K7.out 2
    have hx0 : ((bs []).toList == ([] : List UInt8)) = true := by decide +kernel
    have hx1 : (bs []).toList = ([] : List UInt8) := by decide +kernel
    go_wp2_with fail
    refine (drop_nil _ _).mono ?_
    rintro e w8 ⟨rfl, hw8⟩
    rw [hw8]
    clear hw8
    go_wp2_with fail
    refine (members_law (w := w7) (p := none) (R := []) (fun W _ => members_nil W) (fun W _ => rlen_nil W) (by simp) none 0 (fun h => by simp at h)).mono ?_
    rintro e w9 ⟨rfl, f9⟩
    have B9 := Lib.hid (B7.out.trans (f9.below B7.out.size fun _ _ e => e.elim))
    have k9 := f9.blk K7.out fun e => e
    have K9 := Lib.hid k9
    clear k9 f9 c0 c1 c2 c3 c4 c5 c6 e0 e1 e2
    obtain ⟨c0, c1, c2, c3, c4, c5, c6⟩ := HCS.out _ B9.out
    have e0 := blk_cell K9.out 0
    have e1 := blk_cell K9.out 1
    have e2 := blk_cell K9.out 2
    go_wp2_with fail
    refine (name_nil _).mono ?_
    rintro e w10 ⟨rfl, hw⟩
    rw [hw]
    clear hw
    go_wp2_with fail
    refine (topic_nil _).mono ?_
    rintro e w11 ⟨rfl, hw⟩
    rw [hw]
    clear hw
    go_wp2_with fail
    refine (flag_nil 110 _).mono ?_
    rintro e w12 ⟨rfl, n12, rfl⟩
    have B12 := Lib.hid (B9.out.trans (((Fr.refl (fun _ => False) w9).drewN n12).below B9.out.size fun _ _ e => e.elim))
    clear c0 c1 c2 c3 c4 c5 c6 e0 e1 e2
    obtain ⟨c0, c1, c2, c3, c4, c5, c6⟩ := HCS.out _ B12.out
    go_wp2_with fail
    refine (modes_nil true _).mono ?_
    rintro e w13 ⟨rfl, hw⟩
    rw [hw]
    clear hw
    go_wp2_with fail
    refine (mayJoin_nil _ _ _ _).mono ?_
    rintro e w14 ⟨rfl, hw⟩
    rw [hw]
    clear hw
    go_wp2_with fail
    refine (maySpeak_nil _ _ _).mono ?_
    rintro e w15 ⟨rfl, hw⟩
    rw [hw]
    clear hw
    go_wp2_with fail
    go_ret
    exact ⟨rfl, H0.out.2.trans (B12.out.mono H0.out.2.size)⟩
end Go.Proofs.YtmgnhbihfgpccaaGreatDoor
end
