/- Texts of this proof, one behind the other. -/
import Derived.Test.YtpbobonddocgkaaGreatDoorCoreOnceG8
import Derived.Test.YtpbobonddocgkaaGreatDoorCoreOnceG9
import Derived.Deep.QuietTactic
import Derived.BigQuiet
import Derived.Test.YtpbobonddocgkaaGreatDoorCoreOnceG1
import Derived.Test.YtpbobonddocgkaaGreatDoorCoreOnceG4
import Derived.Test.YtpbobonddocgkaaGreatDoorCoreOnceG7
import Derived.Test.YtpbobonddocgkaaGreatDoorChecked
import Derived.Maps.OwnOps
import Derived.Maps.OwnSet
import Derived.Maps.StringElems
import Derived.Sort.KeysCollected
import Derived.Laws.Cover1
import Derived.WalkSpells
import Derived.Outline
set_option linter.unusedVariables false
set_option linter.unusedSimpArgs false
section
/- Layer 16: a pulse in memory: New, Leave, Join, tick, Register, Line, Idle. -/
namespace Go.Proofs.YtpbobonddocgkaaGreatDoor
open Go Go.RowKit Go.Maps

/-- where a pulse lies: itself, its three tables and their maps -/
structure PB where
  p : Nat
  l : Nat
  lb : Nat
  q : Nat
  qb : Nat
  a : Nat
  ab : Nat
/-- the blocks that are written -/
def PB.X (B : PB) : Nat → Prop := fun k => k = B.lb ∨ k = B.qb ∨ k = B.ab
/-- times that can be added to -/
def SmallT (T : Tab) : Prop := ∀ p ∈ T, -1000000000000 ≤ p.2 ∧ p.2 ≤ 1000000000000
/-- a pulse with these tables -/
structure PulG (base : Nat) (W : World) (B : PB) (pg gr rg : Int) (L Q A : Tab) : Prop where
  bp : base ≤ B.p
  box : W.heap[B.p]? = some (.cells #[.int .i64 pg, .int .i64 gr, .int .i64 rg, .pointer (some ⟨B.l, 0, none⟩), .pointer (some ⟨B.q, 0, none⟩), .pointer (some ⟨B.a, 0, none⟩)] 105 (0, 0))
  tl : TabI base W B.l B.lb L
  tq : TabI base W B.q B.qb Q
  ta : TabI base W B.a B.ab A
  far : (B.p ≠ B.lb ∧ B.p ≠ B.qb ∧ B.p ≠ B.ab) ∧ (B.l ≠ B.qb ∧ B.l ≠ B.ab) ∧ (B.q ≠ B.lb ∧ B.q ≠ B.ab) ∧ (B.a ≠ B.lb ∧ B.a ≠ B.qb) ∧ B.lb ≠ B.qb ∧ B.lb ≠ B.ab ∧ B.qb ≠ B.ab
  pb : 1 ≤ pg ∧ pg ≤ 1000000 ∧ 1 ≤ gr ∧ gr ≤ 1000000 ∧ 1 ≤ rg ∧ rg ≤ 1000000
  sl : SmallT L
  sq : SmallT Q
  sa : SmallT A
theorem smallT_del {T : Tab} (h : SmallT T) (k : Int) : SmallT (delM T k) := fun p hp => h p (mem_delT.1 hp).1
theorem smallT_set {T : Tab} (h : SmallT T) {k v : Int} (hv : -1000000000000 ≤ v ∧ v ≤ 1000000000000) : SmallT (setM T k v) := fun p hp => by
  rcases mem_setT.1 hp with h1 | rfl
  · exact h p h1.1
  · exact hv
section
variable {base : Nat} {W W1 : World} {B : PB} {pg gr rg : Int} {L Q A T : Tab}
theorem PulG.setL (h : PulG base W B pg gr rg L Q A) (h1 : TabI base W1 B.l B.lb T) (hf : Fr (fun j => j = B.lb) W W1) (hs : SmallT T) : PulG base W1 B pg gr rg T Q A :=
  ⟨h.bp, hf.blk h.box h.far.1.1, h1, tabI_fr h.tq hf h.far.2.2.1.1 (fun e => h.far.2.2.2.2.1 e.symm), tabI_fr h.ta hf h.far.2.2.2.1.1 (fun e => h.far.2.2.2.2.2.1 e.symm), h.far, h.pb, hs, h.sq, h.sa⟩
theorem PulG.setQ (h : PulG base W B pg gr rg L Q A) (h1 : TabI base W1 B.q B.qb T) (hf : Fr (fun j => j = B.qb) W W1) (hs : SmallT T) : PulG base W1 B pg gr rg L T A :=
  ⟨h.bp, hf.blk h.box h.far.1.2.1, tabI_fr h.tl hf h.far.2.1.1 h.far.2.2.2.2.1, h1, tabI_fr h.ta hf h.far.2.2.2.1.2 (fun e => h.far.2.2.2.2.2.2 e.symm), h.far, h.pb, h.sl, hs, h.sa⟩
theorem PulG.setA (h : PulG base W B pg gr rg L Q A) (h1 : TabI base W1 B.a B.ab T) (hf : Fr (fun j => j = B.ab) W W1) (hs : SmallT T) : PulG base W1 B pg gr rg L Q T :=
  ⟨h.bp, hf.blk h.box h.far.1.2.2, tabI_fr h.tl hf h.far.2.1.2 h.far.2.2.2.2.2.1, tabI_fr h.tq hf h.far.2.2.1.2 h.far.2.2.2.2.2.2, h1, h.far, h.pb, h.sl, h.sq, hs⟩
theorem PulG.fr {X : Nat → Prop} (h : PulG base W B pg gr rg L Q A) (hf : Fr X W W1) (hx : ∀ k, X k → k ≠ B.p ∧ k ≠ B.l ∧ k ≠ B.lb ∧ k ≠ B.q ∧ k ≠ B.qb ∧ k ≠ B.a ∧ k ≠ B.ab) : PulG base W1 B pg gr rg L Q A :=
  ⟨h.bp, hf.blk h.box fun e => (hx _ e).1 rfl, tabI_fr h.tl hf (fun e => (hx _ e).2.1 rfl) fun e => (hx _ e).2.2.1 rfl, tabI_fr h.tq hf (fun e => (hx _ e).2.2.2.1 rfl) fun e => (hx _ e).2.2.2.2.1 rfl, tabI_fr h.ta hf (fun e => (hx _ e).2.2.2.2.2.1 rfl) fun e => (hx _ e).2.2.2.2.2.2 rfl, h.far, h.pb, h.sl, h.sq, h.sa⟩
theorem PulG.still (h : PulG base W B pg gr rg L Q A) (hb : RowKit.Below W.heap.size W W1) : PulG base W1 B pg gr rg L Q A := h.fr (Fr.of_below (X := fun _ => False) hb) fun k e => e.elim
theorem PulG.lt (h : PulG base W B pg gr rg L Q A) : B.p < W.heap.size ∧ B.l < W.heap.size ∧ B.lb < W.heap.size ∧ B.q < W.heap.size ∧ B.qb < W.heap.size ∧ B.a < W.heap.size ∧ B.ab < W.heap.size :=
  ⟨blk_lt h.box, (tabI_lt h.tl).1, (tabI_lt h.tl).2, (tabI_lt h.tq).1, (tabI_lt h.tq).2, (tabI_lt h.ta).1, (tabI_lt h.ta).2⟩
theorem PulG.ge (h : PulG base W B pg gr rg L Q A) : ∀ k, B.X k → base ≤ k := fun k hk => by
  rcases hk with rfl | rfl | rfl
  · exact h.tl.2.1
  · exact h.tq.2.1
  · exact h.ta.2.1
end
theorem frX_l (B : PB) {w w' : World} (h : Fr (fun j => j = B.lb) w w') : Fr B.X w w' := h.mono fun _ _ e => .inl e
theorem frX_q (B : PB) {w w' : World} (h : Fr (fun j => j = B.qb) w w') : Fr B.X w w' := h.mono fun _ _ e => .inr (.inl e)
theorem frX_a (B : PB) {w w' : World} (h : Fr (fun j => j = B.ab) w w') : Fr B.X w w' := h.mono fun _ _ e => .inr (.inr e)
/-- a step of a pulse -/
def StepG (base : Nat) (B : PB) (pg gr rg : Int) (L Q A : Tab) (w : World) (e : Ending) (w' : World) : Prop := e = .returned (.tuple #[]) ∧ PulG base w' B pg gr rg L Q A ∧ Fr B.X w w'
section
variable {base : Nat} {w : World} {B : PB} {pg gr rg : Int} {L Q A : Tab}
set_option maxHeartbeats 1000000 in
theorem pul_leave (h : PulG base w B pg gr rg L Q A) {id : Int} (hk : OkKI id) : Calls Tryz.prog 55 #[.pointer (some ⟨B.p, 0, none⟩), .int .i64 id] w (StepG base B pg gr rg (delM L id) (delM Q id) (delM A id) w) := by
  have c3 := blk_cell h.box 3
  have HG := Lib.hid h
  have HK := Lib.hid hk
  have H1 := Lib.hid (tim_stopI h.tl hk)
  clear h hk
  unfold kVI at H1
  go_enter Tryz.func55, Tryz.ntmps55
  go_wp2_with fail
  refine H1.out.mono ?_
  rintro e w1 ⟨rfl, t1, f1⟩
  have g1 := HG.out.setL t1 f1 (smallT_del HG.out.sl id)
  have c4 := blk_cell g1.box 4
  have H2 := Lib.hid (tim_stopI g1.tq HK.out)
  have G1 := Lib.hid (And.intro g1 f1)
  clear t1 f1 g1 H1
  unfold kVI at H2
  go_wp2_with fail
  refine H2.out.mono ?_
  rintro e w2 ⟨rfl, t2, f2⟩
  have g2 := G1.out.1.setQ t2 f2 (smallT_del HG.out.sq id)
  have c5 := blk_cell g2.box 5
  have H3 := Lib.hid (tim_stopI g2.ta HK.out)
  have G2 := Lib.hid (And.intro g2 f2)
  clear t2 f2 g2 H2
  unfold kVI at H3
  go_wp2_with fail
  refine H3.out.mono ?_
  rintro e w3 ⟨rfl, t3, f3⟩
  have G3 := Lib.hid (And.intro t3 f3)
  clear t3 f3 H3
  go_wp2_with fail
  go_end0
  exact ⟨rfl, G2.out.1.setA G3.out.1 G3.out.2 (smallT_del HG.out.sa id), ((frX_l B G1.out.2).trans (frX_q B G2.out.2)).trans (frX_a B G3.out.2)⟩
set_option maxHeartbeats 1000000 in
theorem pul_join (h : PulG base w B pg gr rg L Q A) {id now : Int} (hk : OkKI id) (hn : 0 ≤ now ∧ now ≤ 100000000000) (hl : L.length ≤ 900000) : Calls Tryz.prog 27 #[.pointer (some ⟨B.p, 0, none⟩), .int .i64 id, .int .i64 now] w (StepG base B pg gr rg (setM L id (now + rg)) (delM Q id) (delM A id) w) := by
  have H1 := Lib.hid (pul_leave h hk)
  have hpb := h.pb
  have hll := List.length_filter_le (fun p : Int × Int => decide (p.1 ≠ id)) L
  have hw : IntKind.i64.wrap (now + rg) = now + rg := IntWalk.i64_in _ ⟨by omega, by omega⟩
  have HK := Lib.hid hk
  have HL : Hid ((delM L id).length ≤ 1000000) := by show (delM L id).length ≤ 1000000; unfold delM; omega
  clear h hk hll hl
  go_enter Tryz.func27, Tryz.ntmps27
  go_wp2_with fail
  refine H1.out.mono ?_
  rintro e w1 ⟨rfl, g1, f1⟩
  have g1d := g1.fr ((Fr.refl (fun _ => False) w1).drew) fun k e => e.elim
  have c2 := blk_cell g1d.box 2
  have c3 := blk_cell g1d.box 3
  have H2 := Lib.hid (tim_setI (v := now + rg) g1d.tl HK.out (WalkArith.wf_i64 ⟨by omega, by omega⟩) HL.out)
  have G1 := Lib.hid (And.intro g1d (f1.drew))
  clear g1 g1d f1 H1
  unfold kVI at H2
  go_wp2_with fail
  refine wp_region_held_drew (S := fun V => V.cell? ⟨B.p, 2, none⟩ = some (.int .i64 rg) ∧ V.cell? ⟨B.p, 3, none⟩ = some (.pointer (some ⟨B.l, 0, none⟩))) (by kernel_rfl) (by exact ⟨c2, c3⟩) (fun hHeld => ?_)
  refine wpAnyH_read (i := 0) (oi := { dst := some 11, op := Go.Op.move (Go.Operand.tmp 0), type := 49, pos := "pulse.go:53", after := #[], guard := none }) ?_ rfl (by kernel_rfl) (by kernel_rfl) (by kernel_rfl) (fun _ _ _ h => h) (by rfl) (by assumption) ?_ ?_
  rotate_left
  · (intro w0 hS0; go_simp <;> (try with_reducible rfl))
  try simp only [Act.put, List.setIfInBounds_toArray, List.set_cons_zero, List.set_cons_succ]
  refine wpAnyH_read (i := 1) (oi := { dst := some 12, op := Go.Op.nilCheck (Go.Operand.tmp 11), type := 0, pos := "pulse.go:53", after := #[{ on := 0, ground := Go.Ground.data }], guard := none }) ?_ rfl (by kernel_rfl) (by kernel_rfl) (by kernel_rfl) (fun _ _ _ h => h) (by rfl) (by assumption) ?_ ?_
  rotate_left
  · (intro w0 hS0; go_simp <;> (try with_reducible rfl))
  try simp only [Act.put, List.setIfInBounds_toArray, List.set_cons_zero, List.set_cons_succ]
  refine wpAnyH_read (i := 2) (oi := { dst := some 13, op := Go.Op.fieldAddr 105 (Go.Operand.tmp 12) 3, type := 0, pos := "pulse.go:53", after := #[{ on := 1, ground := Go.Ground.data }], guard := none }) ?_ rfl (by kernel_rfl) (by kernel_rfl) (by kernel_rfl) (fun _ _ _ h => h) (by rfl) (by assumption) ?_ ?_
  rotate_left
  · (intro w0 hS0; go_simp <;> (try with_reducible rfl))
  try simp only [Act.put, List.setIfInBounds_toArray, List.set_cons_zero, List.set_cons_succ]
  refine wpAnyH_read (i := 4) (oi := { dst := some 15, op := Go.Op.move (Go.Operand.tmp 1), type := 3, pos := "pulse.go:53", after := #[], guard := none }) ?_ rfl (by kernel_rfl) (by kernel_rfl) (by kernel_rfl) (fun _ _ _ h => h) (by rfl) (by assumption) ?_ ?_
  rotate_left
  · (intro w0 hS0; go_simp <;> (try with_reducible rfl))
  try simp only [Act.put, List.setIfInBounds_toArray, List.set_cons_zero, List.set_cons_succ]
  refine wpAnyH_read (i := 5) (oi := { dst := some 16, op := Go.Op.move (Go.Operand.tmp 2), type := 3, pos := "pulse.go:53", after := #[], guard := none }) ?_ rfl (by kernel_rfl) (by kernel_rfl) (by kernel_rfl) (fun _ _ _ h => h) (by rfl) (by assumption) ?_ ?_
  rotate_left
  · (intro w0 hS0; go_simp <;> (try with_reducible rfl))
  try simp only [Act.put, List.setIfInBounds_toArray, List.set_cons_zero, List.set_cons_succ]
  refine wpAnyH_read (i := 6) (oi := { dst := some 17, op := Go.Op.move (Go.Operand.tmp 0), type := 49, pos := "pulse.go:53", after := #[], guard := none }) ?_ rfl (by kernel_rfl) (by kernel_rfl) (by kernel_rfl) (fun _ _ _ h => h) (by rfl) (by assumption) ?_ ?_
  rotate_left
  · (intro w0 hS0; go_simp <;> (try with_reducible rfl))
  try simp only [Act.put, List.setIfInBounds_toArray, List.set_cons_zero, List.set_cons_succ]
  refine wpAnyH_read (i := 7) (oi := { dst := some 18, op := Go.Op.nilCheck (Go.Operand.tmp 17), type := 0, pos := "pulse.go:53", after := #[{ on := 6, ground := Go.Ground.data }], guard := none }) ?_ rfl (by kernel_rfl) (by kernel_rfl) (by kernel_rfl) (fun _ _ _ h => h) (by rfl) (by assumption) ?_ ?_
  rotate_left
  · (intro w0 hS0; go_simp <;> (try with_reducible rfl))
  try simp only [Act.put, List.setIfInBounds_toArray, List.set_cons_zero, List.set_cons_succ]
  refine wpAnyH_read (i := 8) (oi := { dst := some 19, op := Go.Op.fieldAddr 105 (Go.Operand.tmp 18) 2, type := 0, pos := "pulse.go:53", after := #[{ on := 7, ground := Go.Ground.data }], guard := none }) ?_ rfl (by kernel_rfl) (by kernel_rfl) (by kernel_rfl) (fun _ _ _ h => h) (by rfl) (by assumption) ?_ ?_
  rotate_left
  · (intro w0 hS0; go_simp <;> (try with_reducible rfl))
  try simp only [Act.put, List.setIfInBounds_toArray, List.set_cons_zero, List.set_cons_succ]
  refine wpAnyH_read (i := 3) (oi := { dst := some 14, op := Go.Op.load 102 (Go.Operand.tmp 13), type := 102, pos := "pulse.go:53", after := #[{ on := 2, ground := Go.Ground.data }], guard := none }) ?_ rfl (by kernel_rfl) (by kernel_rfl) (by kernel_rfl) (fun _ _ _ h => h) (by rfl) (by assumption) ?_ ?_
  rotate_left
  · (intro w0 hS0; (try dsimp only at hS0); obtain ⟨s1, s2⟩ := hS0; go_simp <;> (try with_reducible rfl))
  try simp only [Act.put, List.setIfInBounds_toArray, List.set_cons_zero, List.set_cons_succ]
  refine wpAnyH_read (i := 9) (oi := { dst := some 20, op := Go.Op.load 3 (Go.Operand.tmp 19), type := 3, pos := "pulse.go:53", after := #[{ on := 8, ground := Go.Ground.data }], guard := none }) ?_ rfl (by kernel_rfl) (by kernel_rfl) (by kernel_rfl) (fun _ _ _ h => h) (by rfl) (by assumption) ?_ ?_
  rotate_left
  · (intro w0 hS0; (try dsimp only at hS0); obtain ⟨s1, s2⟩ := hS0; go_simp <;> (try with_reducible rfl))
  try simp only [Act.put, List.setIfInBounds_toArray, List.set_cons_zero, List.set_cons_succ]
  refine wpAnyH_read (i := 10) (oi := { dst := some 21, op := Go.Op.binOp Go.BinOp.add 3 (Go.Operand.tmp 16) (Go.Operand.tmp 20) 3, type := 3, pos := "pulse.go:53", after := #[{ on := 5, ground := Go.Ground.data }, { on := 9, ground := Go.Ground.data }], guard := none }) ?_ rfl (by kernel_rfl) (by kernel_rfl) (by kernel_rfl) (fun _ _ _ h => h) (by rfl) (by assumption) ?_ ?_
  rotate_left
  · (intro w0 hS0; go_simp <;> (try with_reducible rfl))
  try simp only [Act.put, List.setIfInBounds_toArray, List.set_cons_zero, List.set_cons_succ]
  refine wpAnyH_one (i := 11) (o := { dst := some 22, op := Go.Op.call { callee := Go.Callee.value (Go.Operand.func 56), args := #[Go.Operand.tmp 14, Go.Operand.tmp 15, Go.Operand.tmp 21], argTypes := #[102, 3, 3] }, type := 0, pos := "pulse.go:53", after := #[{ on := 3, ground := Go.Ground.data }, { on := 4, ground := Go.Ground.data }, { on := 10, ground := Go.Ground.data }], guard := none }) (by kernel_rfl) rfl (by rfl) (fun K hK => ?_)
  go_simp
  refine H2.out.mono ?_
  rintro e w2 ⟨rfl, t2, f2⟩
  have b2 := f2.blk G1.out.1.box G1.out.1.far.1.1
  have G2 := Lib.hid (And.intro t2 f2)
  have d2 := blk_cell b2 2
  have d3 := blk_cell b2 3
  clear t2 f2 b2 H2
  go_wp2_with fail
  refine hK.out _ _ ?_ (fun hHeld => ?_)
  · exact ⟨d2, d3⟩
  clear hK K
  try simp only [Act.put, List.setIfInBounds_toArray, List.set_cons_zero, List.set_cons_succ]
  refine wpAnyH_done (by kernel_rfl) ?_ _
  go_wp2_with fail
  go_end0
  rw [delM_nodel] at G2
  have g2 := G1.out.1.setL G2.out.1 G2.out.2 (by rw [← delM_nodel]; exact smallT_set G1.out.1.sl ⟨by omega, by omega⟩)
  exact ⟨rfl, g2, G1.out.2.trans (frX_l B G2.out.2)⟩
end
section
variable {base : Nat} {w : World} {B : PB} {pg gr rg : Int} {L Q A : Tab}
theorem look_small {T : Tab} (h : SmallT T) {k v : Int} (hv : lookM T k = some v) : -1000000000000 ≤ v ∧ v ≤ 1000000000000 := by
  unfold lookM at hv
  cases hf : T.find? fun p => decide (p.1 = k) with
  | none => rw [hf] at hv; cases hv
  | some p =>
    rw [hf] at hv
    simp at hv
    rw [← hv]
    exact h p (List.mem_of_find?_eq_some hf)
set_option maxHeartbeats 4000000 in
theorem pul_tick (h : PulG base w B pg gr rg L Q A) {id : Int} (hk : OkKI id) : Calls Tryz.prog 62 #[.pointer (some ⟨B.p, 0, none⟩), .int .i64 id] w fun e w' => e = .returned (.tuple #[.int .i64 ((tickM pg gr rg L Q A id).getD 0), .bool (tickM pg gr rg L Q A id).isSome]) ∧ Fr (fun _ => False) w w' := by
  have c0 := blk_cell h.box 0
  have c1 := blk_cell h.box 1
  have c2 := blk_cell h.box 2
  have c3 := blk_cell h.box 3
  have c4 := blk_cell h.box 4
  have c5 := blk_cell h.box 5
  have H1 := Lib.hid (tim_atI h.tl hk)
  have H2 := Lib.hid (tim_atI h.tq hk)
  have H3 := Lib.hid (tim_atI h.ta hk)
  have hpb := h.pb
  have s1 := fun v => look_small h.sl (k := id) (v := v)
  have s2 := fun v => look_small h.sq (k := id) (v := v)
  have s3 := fun v => look_small h.sa (k := id) (v := v)
  unfold tickM
  unfold kVI at H1 H2 H3
  clear h hk
  cases e1 : lookM L id with
  | some v =>
    have := s1 v e1
    have hw : IntKind.i64.wrap (v - rg) = v - rg := IntWalk.i64_in _ ⟨by omega, by omega⟩
    rw [e1] at H1
    clear s1 s2 s3 H2 H3 e1
    go_enter Tryz.func62, Tryz.ntmps62
    go_wp2_with fail
    refine H1.out.mono ?_
    rintro e w1 ⟨rfl, rfl⟩
    go_wp2_with fail
    go_ret2
    exact ⟨rfl, Fr.refl _ _⟩
  | none =>
    cases e2 : lookM Q id with
    | some v =>
      have := s2 v e2
      have hw : IntKind.i64.wrap (v - pg) = v - pg := IntWalk.i64_in _ ⟨by omega, by omega⟩
      rw [e1] at H1
      rw [e2] at H2
      clear s1 s2 s3 H3 e1 e2
      go_enter Tryz.func62, Tryz.ntmps62
      go_wp2_with fail
      refine H1.out.mono ?_
      rintro e w1 ⟨rfl, rfl⟩
      go_wp2_with fail
      refine H2.out.mono ?_
      rintro e w2 ⟨rfl, rfl⟩
      go_wp2_with fail
      go_ret2
      exact ⟨rfl, Fr.refl _ _⟩
    | none =>
      cases e3 : lookM A id with
      | some v =>
        have := s3 v e3
        have hw : IntKind.i64.wrap (v - gr) = v - gr := IntWalk.i64_in _ ⟨by omega, by omega⟩
        have hw2 : IntKind.i64.wrap (v - gr - pg) = v - gr - pg := IntWalk.i64_in _ ⟨by omega, by omega⟩
        rw [e1] at H1
        rw [e2] at H2
        rw [e3] at H3
        clear s1 s2 s3 e1 e2 e3
        go_enter Tryz.func62, Tryz.ntmps62
        go_wp2_with fail
        refine H1.out.mono ?_
        rintro e w1 ⟨rfl, rfl⟩
        go_wp2_with fail
        refine H2.out.mono ?_
        rintro e w2 ⟨rfl, rfl⟩
        go_wp2_with fail
        refine H3.out.mono ?_
        rintro e w3 ⟨rfl, rfl⟩
        go_wp2_with fail
        go_quiet (fail)
        go_wp2_with fail
        go_ret2
        exact ⟨rfl, (Fr.refl _ _).drewN _⟩
      | none =>
        rw [e1] at H1
        rw [e2] at H2
        rw [e3] at H3
        clear s1 s2 s3 e1 e2 e3
        go_enter Tryz.func62, Tryz.ntmps62
        go_wp2_with fail
        refine H1.out.mono ?_
        rintro e w1 ⟨rfl, rfl⟩
        go_wp2_with fail
        refine H2.out.mono ?_
        rintro e w2 ⟨rfl, rfl⟩
        go_wp2_with fail
        refine H3.out.mono ?_
        rintro e w3 ⟨rfl, rfl⟩
        go_wp2_with fail
        go_ret2
        exact ⟨rfl, Fr.refl _ _⟩
end
/-- a configuration of these three numbers alone -/
def cfgV (pg gr rg : Int) : Value := .agg #[.string ⟨#[]⟩, .string ⟨#[]⟩, .string ⟨#[]⟩, .string ⟨#[]⟩, .int .i64 0, .int .i64 0, .int .i64 0, .int .i64 0, .int .i64 0, .int .i64 0, .int .i64 0, .int .i64 0, .int .i64 pg, .int .i64 gr, .int .i64 rg]
theorem tick_one {n : Int} (h : 1 ≤ n ∧ n ≤ 1000000) (W : World) : Calls Tryz.prog 50 #[.int .i64 n] W fun e W' => e = .returned (.int .i64 n) ∧ W' = W := by
  have p1 : min (max n 1) 2199023255552 = n := by omega
  go_enter Tryz.func50, Tryz.ntmps50
  go_wp2_with fail
  go_ret
  exact ⟨rfl, rfl⟩
/-- a pulse without connections -/
def NewPu (pg gr rg : Int) (w : World) (e : Ending) (w' : World) : Prop := ∃ B : PB, e = .returned (.pointer (some ⟨B.p, 0, none⟩)) ∧ PulG w.heap.size w' B pg gr rg [] [] [] ∧ RowKit.Below w.heap.size w w'
set_option maxRecDepth 100000 in
set_option maxHeartbeats 4000000 in
theorem pul_new {pg gr rg : Int} (hp : 1 ≤ pg ∧ pg ≤ 1000000 ∧ 1 ≤ gr ∧ gr ≤ 1000000 ∧ 1 ≤ rg ∧ rg ≤ 1000000) (w : World) : Calls Tryz.prog 20 #[cfgV pg gr rg] w (NewPu pg gr rg w) := by
  have H1 := Lib.hid (fun W => tick_one ⟨hp.1, hp.2.1⟩ W)
  have H2 := Lib.hid (fun W => tick_one ⟨hp.2.2.1, hp.2.2.2.1⟩ W)
  have H3 := Lib.hid (fun W => tick_one ⟨hp.2.2.2.2.1, hp.2.2.2.2.2⟩ W)
  have HP := Lib.hid hp
  clear hp
  obtain ⟨w2, hw2⟩ : ∃ w2, w.alloc (Obj.cells #[.string ⟨#[]⟩, .string ⟨#[]⟩, .string ⟨#[]⟩, .string ⟨#[]⟩, .int .i64 0, .int .i64 0, .int .i64 0, .int .i64 0, .int .i64 0, .int .i64 0, .int .i64 0, .int .i64 0, .int .i64 pg, .int .i64 gr, .int .i64 rg] 29) = w2 := ⟨_, rfl⟩
  have hb : w2.heap[w.heap.size]? = some (.cells #[.string ⟨#[]⟩, .string ⟨#[]⟩, .string ⟨#[]⟩, .string ⟨#[]⟩, .int .i64 0, .int .i64 0, .int .i64 0, .int .i64 0, .int .i64 0, .int .i64 0, .int .i64 0, .int .i64 0, .int .i64 pg, .int .i64 gr, .int .i64 rg] 29 (0, 0)) := by rw [← hw2]; exact heap_alloc_new w _
  have z2 : w2.heap.size = w.heap.size + 1 := by rw [← hw2]; simp
  have f2 : RowKit.Below w.heap.size w w2 := by rw [← hw2]; exact (Below.refl _ w).alloc (Nat.le_refl _) _
  have hc : ∀ V, RowKit.Below w2.heap.size w2 V → V.cell? ⟨w.heap.size, 12, none⟩ = some (.int .i64 pg) ∧ V.cell? ⟨w.heap.size, 13, none⟩ = some (.int .i64 gr) ∧ V.cell? ⟨w.heap.size, 14, none⟩ = some (.int .i64 rg) := fun V hV => by
    have hb2 := (Fr.of_below (X := fun _ => False) hV).blk hb fun e => e
    exact ⟨blk_cell hb2 12, blk_cell hb2 13, blk_cell hb2 14⟩
  have HC := Lib.hid hc
  have HW := Lib.hid hw2
  have HB := Lib.hid (And.intro z2 f2)
  clear hc hw2 hb z2 f2
  unfold cfgV
  go_enter Tryz.func20, Tryz.ntmps20
  go_wp2_with fail
  rw [HW.out]
  have C0 : Hid (RowKit.Below w2.heap.size w2 w2.drew) := (Below.refl _ _).drew
  refine wp_region_held_drew (S := fun V => RowKit.Below w2.heap.size w2 V) (by kernel_rfl) (by exact C0.out) (fun hHeld => ?_)
  refine wpAnyH_read (i := 0) (oi := { dst := some 4, op := Go.Op.move (Go.Operand.tmp 3), type := 101, pos := "pulse.go:27", after := #[], guard := none }) ?_ rfl (by kernel_rfl) (by kernel_rfl) (by kernel_rfl) (fun _ _ _ h => h) (by rfl) (by assumption) ?_ ?_
  rotate_left
  · (intro w0 hS0; go_simp <;> (try with_reducible rfl))
  try simp only [Act.put, List.setIfInBounds_toArray, List.set_cons_zero, List.set_cons_succ]
  refine wpAnyH_read (i := 1) (oi := { dst := some 5, op := Go.Op.fieldAddr 29 (Go.Operand.tmp 1) 12, type := 0, pos := "pulse.go:27", after := #[], guard := none }) ?_ rfl (by kernel_rfl) (by kernel_rfl) (by kernel_rfl) (fun _ _ _ h => h) (by rfl) (by assumption) ?_ ?_
  rotate_left
  · (intro w0 hS0; go_simp <;> (try with_reducible rfl))
  try simp only [Act.put, List.setIfInBounds_toArray, List.set_cons_zero, List.set_cons_succ]
  refine wpAnyH_read (i := 4) (oi := { dst := some 8, op := Go.Op.move (Go.Operand.tmp 3), type := 101, pos := "pulse.go:27", after := #[], guard := none }) ?_ rfl (by kernel_rfl) (by kernel_rfl) (by kernel_rfl) (fun _ _ _ h => h) (by rfl) (by assumption) ?_ ?_
  rotate_left
  · (intro w0 hS0; go_simp <;> (try with_reducible rfl))
  try simp only [Act.put, List.setIfInBounds_toArray, List.set_cons_zero, List.set_cons_succ]
  refine wpAnyH_read (i := 5) (oi := { dst := some 9, op := Go.Op.fieldAddr 29 (Go.Operand.tmp 1) 13, type := 0, pos := "pulse.go:27", after := #[], guard := none }) ?_ rfl (by kernel_rfl) (by kernel_rfl) (by kernel_rfl) (fun _ _ _ h => h) (by rfl) (by assumption) ?_ ?_
  rotate_left
  · (intro w0 hS0; go_simp <;> (try with_reducible rfl))
  try simp only [Act.put, List.setIfInBounds_toArray, List.set_cons_zero, List.set_cons_succ]
  refine wpAnyH_read (i := 8) (oi := { dst := some 12, op := Go.Op.move (Go.Operand.tmp 3), type := 101, pos := "pulse.go:27", after := #[], guard := none }) ?_ rfl (by kernel_rfl) (by kernel_rfl) (by kernel_rfl) (fun _ _ _ h => h) (by rfl) (by assumption) ?_ ?_
  rotate_left
  · (intro w0 hS0; go_simp <;> (try with_reducible rfl))
  try simp only [Act.put, List.setIfInBounds_toArray, List.set_cons_zero, List.set_cons_succ]
  refine wpAnyH_read (i := 9) (oi := { dst := some 13, op := Go.Op.fieldAddr 29 (Go.Operand.tmp 1) 14, type := 0, pos := "pulse.go:27", after := #[], guard := none }) ?_ rfl (by kernel_rfl) (by kernel_rfl) (by kernel_rfl) (fun _ _ _ h => h) (by rfl) (by assumption) ?_ ?_
  rotate_left
  · (intro w0 hS0; go_simp <;> (try with_reducible rfl))
  try simp only [Act.put, List.setIfInBounds_toArray, List.set_cons_zero, List.set_cons_succ]
  refine wpAnyH_read (i := 2) (oi := { dst := some 6, op := Go.Op.load 3 (Go.Operand.tmp 5), type := 3, pos := "pulse.go:27", after := #[{ on := 1, ground := Go.Ground.data }], guard := none }) ?_ rfl (by kernel_rfl) (by kernel_rfl) (by kernel_rfl) (fun _ _ _ h => h) (by rfl) (by assumption) ?_ ?_
  rotate_left
  · (intro w0 hS0; (try dsimp only at hS0); obtain ⟨s1, s2, s3⟩ := HC.out w0 hS0; go_simp <;> (try with_reducible rfl))
  try simp only [Act.put, List.setIfInBounds_toArray, List.set_cons_zero, List.set_cons_succ]
  refine wpAnyH_read (i := 6) (oi := { dst := some 10, op := Go.Op.load 3 (Go.Operand.tmp 9), type := 3, pos := "pulse.go:27", after := #[{ on := 5, ground := Go.Ground.data }], guard := none }) ?_ rfl (by kernel_rfl) (by kernel_rfl) (by kernel_rfl) (fun _ _ _ h => h) (by rfl) (by assumption) ?_ ?_
  rotate_left
  · (intro w0 hS0; (try dsimp only at hS0); obtain ⟨s1, s2, s3⟩ := HC.out w0 hS0; go_simp <;> (try with_reducible rfl))
  try simp only [Act.put, List.setIfInBounds_toArray, List.set_cons_zero, List.set_cons_succ]
  refine wpAnyH_read (i := 10) (oi := { dst := some 14, op := Go.Op.load 3 (Go.Operand.tmp 13), type := 3, pos := "pulse.go:27", after := #[{ on := 9, ground := Go.Ground.data }], guard := none }) ?_ rfl (by kernel_rfl) (by kernel_rfl) (by kernel_rfl) (fun _ _ _ h => h) (by rfl) (by assumption) ?_ ?_
  rotate_left
  · (intro w0 hS0; (try dsimp only at hS0); obtain ⟨s1, s2, s3⟩ := HC.out w0 hS0; go_simp <;> (try with_reducible rfl))
  try simp only [Act.put, List.setIfInBounds_toArray, List.set_cons_zero, List.set_cons_succ]
  refine wpAnyH_one (i := 3) (o := { dst := some 7, op := Go.Op.call { callee := Go.Callee.value (Go.Operand.tmp 4), args := #[Go.Operand.tmp 6], argTypes := #[3] }, type := 3, pos := "pulse.go:28", after := #[{ on := 0, ground := Go.Ground.data }, { on := 2, ground := Go.Ground.data }], guard := none }) (by kernel_rfl) rfl (by rfl) (fun K hK => ?_)
  go_simp
  refine (H1.out _).mono ?_
  rintro e w9 ⟨rfl, rfl⟩
  go_wp2_with fail
  refine hK.out _ _ ?_ (fun hHeld => ?_)
  · (first | assumption | trivial)
  clear hK K
  try simp only [Act.put, List.setIfInBounds_toArray, List.set_cons_zero, List.set_cons_succ]
  refine wpAnyH_one (i := 7) (o := { dst := some 11, op := Go.Op.call { callee := Go.Callee.value (Go.Operand.tmp 8), args := #[Go.Operand.tmp 10], argTypes := #[3] }, type := 3, pos := "pulse.go:29", after := #[{ on := 4, ground := Go.Ground.data }, { on := 6, ground := Go.Ground.data }, { on := 3, ground := Go.Ground.chain }], guard := none }) (by kernel_rfl) rfl (by rfl) (fun K hK => ?_)
  go_simp
  refine (H2.out _).mono ?_
  rintro e w9 ⟨rfl, rfl⟩
  go_wp2_with fail
  refine hK.out _ _ ?_ (fun hHeld => ?_)
  · (first | assumption | trivial)
  clear hK K
  try simp only [Act.put, List.setIfInBounds_toArray, List.set_cons_zero, List.set_cons_succ]
  refine wpAnyH_one (i := 11) (o := { dst := some 15, op := Go.Op.call { callee := Go.Callee.value (Go.Operand.tmp 12), args := #[Go.Operand.tmp 14], argTypes := #[3] }, type := 3, pos := "pulse.go:30", after := #[{ on := 8, ground := Go.Ground.data }, { on := 10, ground := Go.Ground.data }, { on := 7, ground := Go.Ground.chain }], guard := none }) (by kernel_rfl) rfl (by rfl) (fun K hK => ?_)
  go_simp
  refine (H3.out _).mono ?_
  rintro e w9 ⟨rfl, rfl⟩
  go_wp2_with fail
  refine hK.out _ _ ?_ (fun hHeld => ?_)
  · (first | assumption | trivial)
  clear hK K
  try simp only [Act.put, List.setIfInBounds_toArray, List.set_cons_zero, List.set_cons_succ]
  refine wpAnyH_one (i := 12) (o := { dst := some 16, op := Go.Op.call { callee := Go.Callee.value (Go.Operand.func 51), args := #[], argTypes := #[] }, type := 102, pos := "pulse.go:31", after := #[{ on := 11, ground := Go.Ground.chain }], guard := none }) (by kernel_rfl) rfl (by rfl) (fun K hK => ?_)
  go_simp
  refine (tim_newI _).mono ?_
  rintro e v1 ⟨t1, m1, rfl, k1, c1⟩
  have K1 := Lib.hid k1
  have C1 : Hid (RowKit.Below w2.heap.size w2 v1) := C0.out.trans (c1.mono C0.out.size)
  have D1 := Lib.hid c1
  clear k1 c1
  go_wp2_with fail
  refine hK.out _ _ ?_ (fun hHeld => ?_)
  · exact C1.out
  clear hK K
  try simp only [Act.put, List.setIfInBounds_toArray, List.set_cons_zero, List.set_cons_succ]
  refine wpAnyH_one (i := 13) (o := { dst := some 17, op := Go.Op.call { callee := Go.Callee.value (Go.Operand.func 51), args := #[], argTypes := #[] }, type := 102, pos := "pulse.go:32", after := #[{ on := 12, ground := Go.Ground.chain }], guard := none }) (by kernel_rfl) rfl (by rfl) (fun K hK => ?_)
  go_simp
  refine (tim_newI _).mono ?_
  rintro e v2 ⟨t2, m2, rfl, k2, c2⟩
  have K2 := Lib.hid k2
  have C2 : Hid (RowKit.Below w2.heap.size w2 v2) := C1.out.trans (c2.mono C1.out.size)
  have D2 := Lib.hid c2
  clear k2 c2
  go_wp2_with fail
  refine hK.out _ _ ?_ (fun hHeld => ?_)
  · exact C2.out
  clear hK K
  try simp only [Act.put, List.setIfInBounds_toArray, List.set_cons_zero, List.set_cons_succ]
  refine wpAnyH_one (i := 14) (o := { dst := some 18, op := Go.Op.call { callee := Go.Callee.value (Go.Operand.func 51), args := #[], argTypes := #[] }, type := 102, pos := "pulse.go:33", after := #[{ on := 13, ground := Go.Ground.chain }], guard := none }) (by kernel_rfl) rfl (by rfl) (fun K hK => ?_)
  go_simp
  refine (tim_newI _).mono ?_
  rintro e v3 ⟨t3, m3, rfl, k3, c3⟩
  have K3 := Lib.hid k3
  have C3 : Hid (RowKit.Below w2.heap.size w2 v3) := C2.out.trans (c3.mono C2.out.size)
  have D3 := Lib.hid c3
  clear k3 c3
  go_wp2_with fail
  refine hK.out _ _ ?_ (fun hHeld => ?_)
  · exact C3.out
  clear hK K
  try simp only [Act.put, List.setIfInBounds_toArray, List.set_cons_zero, List.set_cons_succ]
  refine wpAnyH_read (i := 15) (oi := { dst := some 19, op := Go.Op.build 105 #[(0, Go.Operand.tmp 7), (1, Go.Operand.tmp 11), (2, Go.Operand.tmp 15), (3, Go.Operand.tmp 16), (4, Go.Operand.tmp 17), (5, Go.Operand.tmp 18)], type := 105, pos := "pulse.go:27", after := #[{ on := 3, ground := Go.Ground.data }, { on := 7, ground := Go.Ground.data }, { on := 11, ground := Go.Ground.data }, { on := 12, ground := Go.Ground.data }, { on := 13, ground := Go.Ground.data }, { on := 14, ground := Go.Ground.data }], guard := none }) ?_ rfl (by kernel_rfl) (by kernel_rfl) (by kernel_rfl) (fun _ _ _ h => h) (by rfl) (by assumption) ?_ ?_
  rotate_left
  · (intro w0 hS0; go_simp <;> (try with_reducible rfl))
  try simp only [Act.put, List.setIfInBounds_toArray, List.set_cons_zero, List.set_cons_succ]
  refine wpAnyH_one (i := 16) (o := { dst := some 20, op := Go.Op.box 105 (Go.Operand.tmp 19), type := 49, pos := "pulse.go:27", after := #[{ on := 15, ground := Go.Ground.data }], guard := none }) (by kernel_rfl) rfl (by rfl) (fun K hK => ?_)
  go_simp
  refine hK.out _ _ ?_ (fun hHeld => ?_)
  · exact C3.out.alloc (C3.out.size) _
  clear hK K
  try simp only [Act.put, List.setIfInBounds_toArray, List.set_cons_zero, List.set_cons_succ]
  refine wpAnyH_read (i := 17) (oi := { dst := some 2, op := Go.Op.assign (Go.Operand.tmp 20), type := 49, pos := "pulse.go:27", after := #[{ on := 16, ground := Go.Ground.data }, { on := 14, ground := Go.Ground.chain }, { on := 0, ground := Go.Ground.phase }, { on := 1, ground := Go.Ground.phase }, { on := 2, ground := Go.Ground.phase }, { on := 3, ground := Go.Ground.phase }, { on := 4, ground := Go.Ground.phase }, { on := 5, ground := Go.Ground.phase }, { on := 6, ground := Go.Ground.phase }, { on := 7, ground := Go.Ground.phase }, { on := 8, ground := Go.Ground.phase }, { on := 9, ground := Go.Ground.phase }, { on := 10, ground := Go.Ground.phase }, { on := 11, ground := Go.Ground.phase }, { on := 12, ground := Go.Ground.phase }, { on := 13, ground := Go.Ground.phase }, { on := 14, ground := Go.Ground.phase }, { on := 15, ground := Go.Ground.phase }, { on := 16, ground := Go.Ground.phase }], guard := none }) ?_ rfl (by kernel_rfl) (by kernel_rfl) (by kernel_rfl) (fun _ _ _ h => h) (by rfl) (by assumption) ?_ ?_
  rotate_left
  · (intro w0 hS0; go_simp <;> (try with_reducible rfl))
  try simp only [Act.put, List.setIfInBounds_toArray, List.set_cons_zero, List.set_cons_succ]
  refine wpAnyH_done (by kernel_rfl) ?_ _
  go_wp2_with fail
  go_ret
  obtain ⟨z2, f2⟩ := HB.out
  have y1 := C1.out.size
  have y2 := C2.out.size
  have y3 := C3.out.size
  have zd : w2.drew.heap.size = w2.heap.size := rfl
  have k1 := K1.out
  have k2 := K2.out
  have k3 := K3.out
  have q2 := D2.out
  have q3 := D3.out
  have e1 := tabI_lt k1
  have e2 := tabI_lt k2
  have e3 := tabI_lt k3
  have r2 := q2.size
  have r3 := q3.size
  have hp := HP.out
  have fN : Fr (fun _ => False) v3 (v3.alloc (Obj.cells #[Value.int IntKind.i64 pg, Value.int IntKind.i64 gr, Value.int IntKind.i64 rg, Value.pointer (some { block := t1, off := 0 }), Value.pointer (some { block := t2, off := 0 }), Value.pointer (some { block := t3, off := 0 })] 105)) := (Fr.refl _ _).alloc _
  have base : ∀ {b b2 : Nat} {V : World} {t m : Nat} {T : Tab}, TabI b V t m T → b2 ≤ b → TabI b2 V t m T := fun h hb => ⟨Nat.le_trans hb h.1, Nat.le_trans hb h.2.1, h.2.2⟩
  have g1 := base (b2 := w.heap.size) (tabI_fr (tabI_below (tabI_below k1 q2) q3) fN (fun e => e) fun e => e) (by omega)
  have g2 := base (b2 := w.heap.size) (tabI_fr (tabI_below k2 q3) fN (fun e => e) fun e => e) (by omega)
  have g3 := base (b2 := w.heap.size) (tabI_fr k3 fN (fun e => e) fun e => e) (by omega)
  have l1 := k1.1
  have l1b := k1.2.1
  have l2 := k2.1
  have l2b := k2.2.1
  have l3 := k3.1
  have l3b := k3.2.1
  refine ⟨⟨v3.heap.size, t1, m1, t2, m2, t3, m3⟩, rfl, ⟨by show w.heap.size ≤ v3.heap.size; omega, heap_alloc_new v3 _, g1, g2, g3, ?_, hp, fun p h => (by cases h), fun p h => (by cases h), fun p h => (by cases h)⟩, ?_⟩
  · dsimp only
    refine ⟨⟨?_, ?_, ?_⟩, ⟨?_, ?_⟩, ⟨?_, ?_⟩, ⟨?_, ?_⟩, ?_, ?_, ?_⟩ <;> omega
  · exact f2.trans ((C3.out.mono f2.size).alloc (by omega) _)
section
variable {base : Nat} {w : World} {B : PB} {pg gr rg : Int} {L Q A : Tab}
/-- the tables behind a registering -/
def regT (pg now id : Int) (t : Option Int) (L Q A : Tab) : Tab × Tab × Tab := if t.isSome = true then (delM L id, setM Q id (now + pg), delM A id) else (L, Q, A)
def Step3 (base : Nat) (B : PB) (pg gr rg : Int) (R : Tab × Tab × Tab) (w : World) (e : Ending) (w' : World) : Prop := StepG base B pg gr rg R.1 R.2.1 R.2.2 w e w'
set_option maxHeartbeats 2000000 in
theorem pul_reg (h : PulG base w B pg gr rg L Q A) {id now : Int} (hk : OkKI id) (hn : 0 ≤ now ∧ now ≤ 100000000000) (hl : Q.length ≤ 900000) : Calls Tryz.prog 36 #[.pointer (some ⟨B.p, 0, none⟩), .int .i64 id, .int .i64 now] w (Step3 base B pg gr rg (regT pg now id (tickM pg gr rg L Q A id) L Q A) w) := by
  have H0 := Lib.hid (pul_tick h hk)
  have hpb := h.pb
  have hll := List.length_filter_le (fun p : Int × Int => decide (p.1 ≠ id)) Q
  have hw : IntKind.i64.wrap (now + pg) = now + pg := IntWalk.i64_in _ ⟨by omega, by omega⟩
  have HK := Lib.hid (And.intro hk h)
  have HL : Hid ((delM Q id).length ≤ 1000000) := by show (delM Q id).length ≤ 1000000; unfold delM; omega
  clear h hk hll hl
  obtain ⟨t, ht⟩ : ∃ t, tickM pg gr rg L Q A id = t := ⟨_, rfl⟩
  rw [ht] at H0 ⊢
  clear ht
  cases t with
  | none =>
    go_enter Tryz.func36, Tryz.ntmps36
    go_wp2_with fail
    refine H0.out.mono ?_
    rintro e w1 ⟨rfl, f1⟩
    have F1 := Lib.hid f1
    clear f1 H0
    go_wp2_with fail
    go_end0
    exact ⟨rfl, HK.out.2.fr F1.out fun k e => e.elim, F1.out.mono fun _ _ e => e.elim⟩
  | some v =>
    go_enter Tryz.func36, Tryz.ntmps36
    go_wp2_with fail
    refine H0.out.mono ?_
    rintro e w0 ⟨rfl, f0⟩
    have g0 := HK.out.2.fr f0 fun k e => e.elim
    have H1 := Lib.hid (pul_leave g0 HK.out.1)
    have F0 := Lib.hid f0
    clear f0 g0 H0
    go_wp2_with fail
    refine H1.out.mono ?_
    rintro e w1 ⟨rfl, g1, f1⟩
    have g1d := g1.fr ((Fr.refl (fun _ => False) w1).drew) fun k e => e.elim
    have c2 := blk_cell g1d.box 0
    have c3 := blk_cell g1d.box 4
    have H2 := Lib.hid (tim_setI (v := now + pg) g1d.tq HK.out.1 (WalkArith.wf_i64 ⟨by omega, by omega⟩) HL.out)
    have G1 := Lib.hid (And.intro g1d (f1.drew))
    clear g1 g1d f1 H1
    unfold kVI at H2
    go_wp2_with fail
    refine wp_region_held_drew (S := fun V => V.cell? ⟨B.p, 0, none⟩ = some (.int .i64 pg) ∧ V.cell? ⟨B.p, 4, none⟩ = some (.pointer (some ⟨B.q, 0, none⟩))) (by kernel_rfl) (by exact ⟨c2, c3⟩) (fun hHeld => ?_)
    refine wpAnyH_read (i := 0) (oi := { dst := some 18, op := Go.Op.move (Go.Operand.tmp 0), type := 49, pos := "pulse.go:60", after := #[], guard := none }) ?_ rfl (by kernel_rfl) (by kernel_rfl) (by kernel_rfl) (fun _ _ _ h => h) (by rfl) (by assumption) ?_ ?_
    rotate_left
    · (intro w0 hS0; go_simp <;> (try with_reducible rfl))
    try simp only [Act.put, List.setIfInBounds_toArray, List.set_cons_zero, List.set_cons_succ]
    refine wpAnyH_read (i := 1) (oi := { dst := some 19, op := Go.Op.nilCheck (Go.Operand.tmp 18), type := 0, pos := "pulse.go:60", after := #[{ on := 0, ground := Go.Ground.data }], guard := none }) ?_ rfl (by kernel_rfl) (by kernel_rfl) (by kernel_rfl) (fun _ _ _ h => h) (by rfl) (by assumption) ?_ ?_
    rotate_left
    · (intro w0 hS0; go_simp <;> (try with_reducible rfl))
    try simp only [Act.put, List.setIfInBounds_toArray, List.set_cons_zero, List.set_cons_succ]
    refine wpAnyH_read (i := 2) (oi := { dst := some 20, op := Go.Op.fieldAddr 105 (Go.Operand.tmp 19) 4, type := 0, pos := "pulse.go:60", after := #[{ on := 1, ground := Go.Ground.data }], guard := none }) ?_ rfl (by kernel_rfl) (by kernel_rfl) (by kernel_rfl) (fun _ _ _ h => h) (by rfl) (by assumption) ?_ ?_
    rotate_left
    · (intro w0 hS0; go_simp <;> (try with_reducible rfl))
    try simp only [Act.put, List.setIfInBounds_toArray, List.set_cons_zero, List.set_cons_succ]
    refine wpAnyH_read (i := 4) (oi := { dst := some 22, op := Go.Op.move (Go.Operand.tmp 1), type := 3, pos := "pulse.go:60", after := #[], guard := none }) ?_ rfl (by kernel_rfl) (by kernel_rfl) (by kernel_rfl) (fun _ _ _ h => h) (by rfl) (by assumption) ?_ ?_
    rotate_left
    · (intro w0 hS0; go_simp <;> (try with_reducible rfl))
    try simp only [Act.put, List.setIfInBounds_toArray, List.set_cons_zero, List.set_cons_succ]
    refine wpAnyH_read (i := 5) (oi := { dst := some 23, op := Go.Op.move (Go.Operand.tmp 2), type := 3, pos := "pulse.go:60", after := #[], guard := none }) ?_ rfl (by kernel_rfl) (by kernel_rfl) (by kernel_rfl) (fun _ _ _ h => h) (by rfl) (by assumption) ?_ ?_
    rotate_left
    · (intro w0 hS0; go_simp <;> (try with_reducible rfl))
    try simp only [Act.put, List.setIfInBounds_toArray, List.set_cons_zero, List.set_cons_succ]
    refine wpAnyH_read (i := 6) (oi := { dst := some 24, op := Go.Op.move (Go.Operand.tmp 0), type := 49, pos := "pulse.go:60", after := #[], guard := none }) ?_ rfl (by kernel_rfl) (by kernel_rfl) (by kernel_rfl) (fun _ _ _ h => h) (by rfl) (by assumption) ?_ ?_
    rotate_left
    · (intro w0 hS0; go_simp <;> (try with_reducible rfl))
    try simp only [Act.put, List.setIfInBounds_toArray, List.set_cons_zero, List.set_cons_succ]
    refine wpAnyH_read (i := 7) (oi := { dst := some 25, op := Go.Op.nilCheck (Go.Operand.tmp 24), type := 0, pos := "pulse.go:60", after := #[{ on := 6, ground := Go.Ground.data }], guard := none }) ?_ rfl (by kernel_rfl) (by kernel_rfl) (by kernel_rfl) (fun _ _ _ h => h) (by rfl) (by assumption) ?_ ?_
    rotate_left
    · (intro w0 hS0; go_simp <;> (try with_reducible rfl))
    try simp only [Act.put, List.setIfInBounds_toArray, List.set_cons_zero, List.set_cons_succ]
    refine wpAnyH_read (i := 8) (oi := { dst := some 26, op := Go.Op.fieldAddr 105 (Go.Operand.tmp 25) 0, type := 0, pos := "pulse.go:60", after := #[{ on := 7, ground := Go.Ground.data }], guard := none }) ?_ rfl (by kernel_rfl) (by kernel_rfl) (by kernel_rfl) (fun _ _ _ h => h) (by rfl) (by assumption) ?_ ?_
    rotate_left
    · (intro w0 hS0; go_simp <;> (try with_reducible rfl))
    try simp only [Act.put, List.setIfInBounds_toArray, List.set_cons_zero, List.set_cons_succ]
    refine wpAnyH_read (i := 3) (oi := { dst := some 21, op := Go.Op.load 102 (Go.Operand.tmp 20), type := 102, pos := "pulse.go:60", after := #[{ on := 2, ground := Go.Ground.data }], guard := none }) ?_ rfl (by kernel_rfl) (by kernel_rfl) (by kernel_rfl) (fun _ _ _ h => h) (by rfl) (by assumption) ?_ ?_
    rotate_left
    · (intro w0 hS0; (try dsimp only at hS0); obtain ⟨s1, s2⟩ := hS0; go_simp <;> (try with_reducible rfl))
    try simp only [Act.put, List.setIfInBounds_toArray, List.set_cons_zero, List.set_cons_succ]
    refine wpAnyH_read (i := 9) (oi := { dst := some 27, op := Go.Op.load 3 (Go.Operand.tmp 26), type := 3, pos := "pulse.go:60", after := #[{ on := 8, ground := Go.Ground.data }], guard := none }) ?_ rfl (by kernel_rfl) (by kernel_rfl) (by kernel_rfl) (fun _ _ _ h => h) (by rfl) (by assumption) ?_ ?_
    rotate_left
    · (intro w0 hS0; (try dsimp only at hS0); obtain ⟨s1, s2⟩ := hS0; go_simp <;> (try with_reducible rfl))
    try simp only [Act.put, List.setIfInBounds_toArray, List.set_cons_zero, List.set_cons_succ]
    refine wpAnyH_read (i := 10) (oi := { dst := some 28, op := Go.Op.binOp Go.BinOp.add 3 (Go.Operand.tmp 23) (Go.Operand.tmp 27) 3, type := 3, pos := "pulse.go:60", after := #[{ on := 5, ground := Go.Ground.data }, { on := 9, ground := Go.Ground.data }], guard := none }) ?_ rfl (by kernel_rfl) (by kernel_rfl) (by kernel_rfl) (fun _ _ _ h => h) (by rfl) (by assumption) ?_ ?_
    rotate_left
    · (intro w0 hS0; go_simp <;> (try with_reducible rfl))
    try simp only [Act.put, List.setIfInBounds_toArray, List.set_cons_zero, List.set_cons_succ]
    refine wpAnyH_one (i := 11) (o := { dst := some 29, op := Go.Op.call { callee := Go.Callee.value (Go.Operand.func 56), args := #[Go.Operand.tmp 21, Go.Operand.tmp 22, Go.Operand.tmp 28], argTypes := #[102, 3, 3] }, type := 0, pos := "pulse.go:60", after := #[{ on := 3, ground := Go.Ground.data }, { on := 4, ground := Go.Ground.data }, { on := 10, ground := Go.Ground.data }], guard := none }) (by kernel_rfl) rfl (by rfl) (fun K hK => ?_)
    go_simp
    refine H2.out.mono ?_
    rintro e w2 ⟨rfl, t2, f2⟩
    have b2 := f2.blk G1.out.1.box G1.out.1.far.1.2.1
    have G2 := Lib.hid (And.intro t2 f2)
    have d2 := blk_cell b2 0
    have d3 := blk_cell b2 4
    clear t2 f2 b2 H2
    go_wp2_with fail
    refine hK.out _ _ ?_ (fun hHeld => ?_)
    · exact ⟨d2, d3⟩
    clear hK K
    try simp only [Act.put, List.setIfInBounds_toArray, List.set_cons_zero, List.set_cons_succ]
    refine wpAnyH_done (by kernel_rfl) ?_ _
    go_wp2_with fail
    go_end0
    rw [delM_nodel] at G2
    have g2 := G1.out.1.setQ G2.out.1 G2.out.2 (by rw [← delM_nodel]; exact smallT_set G1.out.1.sq ⟨by omega, by omega⟩)
    exact ⟨rfl, g2, ((F0.out.mono fun _ _ e => e.elim).trans G1.out.2).trans (frX_q B G2.out.2)⟩
/-- the tables behind a line -/
def lineT (pg now id : Int) (t : Option Int) (L Q A : Tab) : Tab × Tab × Tab := if (lookM L id).isSome = true then (L, Q, A) else regT pg now id t L Q A

def idleV (now : Int) (t : Option Int) : Value := match t with | some v => .tuple #[.int .i64 (now - v), .bool true] | none => .tuple #[.int .i64 0, .bool false]
set_option maxHeartbeats 1000000 in
end
section
theorem pul_leave_nil (id : Int) (w : World) : Calls Tryz.prog 55 #[.pointer none, .int .i64 id] w fun e w' => e = .returned (.tuple #[]) ∧ w' = w := by
  go_enter Tryz.func55, Tryz.ntmps55
  go_wp2_with fail
  refine bodyPost_ret (results_none rfl _ _ _) rfl ?_
  exact ⟨rfl, rfl⟩
theorem pul_join_nil (id now : Int) (w : World) : Calls Tryz.prog 27 #[.pointer none, .int .i64 id, .int .i64 now] w fun e w' => e = .returned (.tuple #[]) ∧ w' = w := by
  go_enter Tryz.func27, Tryz.ntmps27
  go_wp2_with fail
  refine bodyPost_ret (results_none rfl _ _ _) rfl ?_
  exact ⟨rfl, rfl⟩

theorem pul_tick_nil (id : Int) (w : World) : Calls Tryz.prog 62 #[.pointer none, .int .i64 id] w fun e w' => e = .returned (.tuple #[.int .i64 0, .bool false]) ∧ w' = w := by
  go_enter Tryz.func62, Tryz.ntmps62
  go_wp2_with fail
  go_ret2
  exact ⟨rfl, rfl⟩
theorem pul_reg_nil (id now : Int) (w : World) : Calls Tryz.prog 36 #[.pointer none, .int .i64 id, .int .i64 now] w fun e w' => e = .returned (.tuple #[]) ∧ w' = w := by
  go_enter Tryz.func36, Tryz.ntmps36
  go_wp2_with fail
  refine (pul_tick_nil _ _).mono ?_
  rintro e w1 ⟨rfl, rfl⟩
  go_wp2_with fail
  go_end0
  exact ⟨rfl, rfl⟩
end
end Go.Proofs.YtpbobonddocgkaaGreatDoor
end
section
/- Layer 2: keys of a book: folded names. -/
namespace Go.Proofs.YtpbobonddocgkaaGreatDoor
open Go Go.RowKit Go.Maps

abbrev KeyB := List UInt8
def kVB (k : KeyB) : Value := .string (bs k)
def kLB (k : KeyB) : Lit := .string k
def OkKB (k : KeyB) : Prop := k.length ≤ maxLen
theorem kLB_inj : ∀ a b : KeyB, kLB a = kLB b → a = b := fun a b h => by simpa [kLB] using h
theorem kLB_key (k : KeyB) : WideAt.IsKeyLit (kLB k) := by simp [kLB, WideAt.IsKeyLit]
theorem keyedB : Keyed Tryz.prog 9 := string_keyed Tryz.underlying9
theorem keyOfB {k : KeyB} (h : OkKB k) : keyOf Tryz.prog 9 (kVB k) = some (kLB k) := WideMaps.keyOf_string_mk Tryz.underlying9 (by simpa [OkKB] using h)
theorem ownsB_same {H : Type} {P : Program} {k : TypeId} {R : Value → Option (DataW H × List MemPlace)} {w w' : World} {b n : Nat} {D : DataW H} (h : w.ownsMap P k R b n D) (he : w'.heap[b]? = w.heap[b]?) : w'.ownsMap P k R b n D := by
  obtain ⟨es, clock, hb, F, hs, hD⟩ := h
  exact ⟨es, clock, he.trans hb, F, hs, hD⟩
theorem ownsB_tight {H : Type} {P : Program} {k : TypeId} {R : Value → Option (DataW H × List MemPlace)} {w : World} {b n : Nat} {D : DataW H} (h : w.ownsMap P k R b n D) : w.ownsMap P k R b (Maps.size D) D := by
  obtain ⟨es, clock, hb, F, hs, hD⟩ := h
  refine ⟨es, clock, hb, F, ?_, hD⟩
  rw [hD]
  show es.size ≤ ((es.toList.map (WideElems.rg P k R)).foldr DataW.insert []).length
  rw [length_sorted]; simp
/-- an entry: its name, its name folded, its thing -/
structure Ent (V : Type) where
  name : ByteArray
  fold : KeyB
  thing : V
theorem fold_ok (s : ByteArray) (h : s.size ≤ 1000000) : OkKB (foldL s.data.toList) := by
  have h1 : s.data.toList.length = s.size := rfl
  have h2 : (foldL s.data.toList).length ≤ 1000000 := by rw [foldL_length, h1]; exact h
  exact Nat.le_trans h2 (by decide)
theorem lookM_in {α β : Type} [DecidableEq α] {T : List (α × β)} {k : α} {v : β} (h : lookM T k = some v) : (k, v) ∈ T := by
  unfold lookM at h
  rw [Option.map_eq_some_iff] at h
  obtain ⟨p, h1, rfl⟩ := h
  have h2 := List.find?_some h1
  have h3 : p.1 = k := by simpa using h2
  subst h3
  exact List.mem_of_find?_eq_some h1
theorem lookM_none {α β : Type} [DecidableEq α] {T : List (α × β)} {k : α} (h : (lookM T k).isSome = false) : delM T k = T := by
  unfold delM
  rw [List.filter_eq_self]
  intro p hp
  simp
  rintro rfl
  unfold lookM at h
  rw [Option.isSome_map] at h
  cases hf : T.find? fun q => decide (q.1 = p.1) with
  | none => rw [List.find?_eq_none] at hf; exact absurd (hf p hp) (by simp)
  | some x => rw [hf] at h; cases h
end Go.Proofs.YtpbobonddocgkaaGreatDoor
end
section
/- Layer 2: a book of int: its map. -/
namespace Go.Proofs.YtpbobonddocgkaaGreatDoor
open Go Go.RowKit Go.Maps

abbrev VI := Int
def thVI (v : VI) : Value := .int .i64 v
def OkVI (v : VI) : Prop := (Lit.int .i64 v).wf = true
def valEI (e : Ent VI) : Value := .agg #[.string e.name, .string (bs e.fold), thVI e.thing]
def evEI (e : Ent VI) : DataW Unit := .agg [.lit (.string e.name.data.toList), .lit (.string e.fold), .lit (.int .i64 (e.thing))]
theorem valEI_inj {a b : Ent VI} (h : valEI a = valEI b) : a = b := by
  obtain ⟨n, f, t⟩ := a
  obtain ⟨n2, f2, t2⟩ := b
  unfold valEI thVI at h
  simp only [Value.agg.injEq] at h
  have h' := congrArg Array.toList h
  simp only [List.cons.injEq, Value.string.injEq, Value.int.injEq, Value.bool.injEq, and_true, true_and] at h'
  obtain ⟨h1, h2, h3⟩ := h'
  have h2 := bs_inj h2
  subst h1; subst h2; subst h3; rfl
open Classical in
/-- how an entry reads -/
noncomputable def readEI (v : Value) : Option (DataW Unit × List MemPlace) := if h : ∃ e, v = valEI e then some (evEI h.choose, []) else none
theorem readEI_val (e : Ent VI) : readEI (valEI e) = some (evEI e, []) := by
  have h : ∃ e2, valEI e = valEI e2 := ⟨e, rfl⟩
  unfold readEI
  rw [dif_pos h, ← valEI_inj h.choose_spec]
theorem evEI_inj : ∀ a b : Ent VI, evEI a = evEI b → a = b := fun a b h => by
  obtain ⟨n, f, t⟩ := a
  obtain ⟨n2, f2, t2⟩ := b
  simp only [evEI, DataW.agg.injEq, List.cons.injEq, DataW.lit.injEq, Lit.string.injEq, Lit.int.injEq, and_true, true_and] at h
  obtain ⟨h1, h2, h3⟩ := h
  have h1 := ba_ext h1
  skip
  subst h1; subst h2; subst h3; rfl
theorem readEI_inv {v : Value} {z : DataW Unit × List MemPlace} (h : readEI v = some z) : ∃ e, v = valEI e ∧ z = (evEI e, []) := by
  unfold readEI at h
  split at h
  · rename_i hx
    cases h
    exact ⟨_, hx.choose_spec, rfl⟩
  · cases h
def zeroEI : Ent VI := ⟨⟨#[]⟩, [], 0⟩
/-- block b is the map of a book with these entries -/
def OkTIB (T : List (KeyB × Ent VI)) : Prop := ∀ p ∈ T, OkKB p.1 ∧ p.2.fold = p.1 ∧ foldL p.2.name.data.toList = p.1 ∧ p.2.name.size ≤ 1000000 ∧ OkVI p.2.thing
def MapBI (w : World) (b : Nat) (T : List (KeyB × Ent VI)) : Prop := ∃ D : DataW Unit, w.ownsMap Tryz.prog 9 readEI b T.length D ∧ MapHas kLB evEI D T ∧ OkTIB T
/-- block t is a book for 'most' entries whose map is block b -/
def BokI (base : Nat) (w : World) (t b : Nat) (most : Int) (T : List (KeyB × Ent VI)) : Prop := base ≤ t ∧ base ≤ b ∧ t ≠ b ∧ w.heap[t]? = some (.cells #[.int .i64 most, .map (some b)] 108 (0, 0)) ∧ MapBI w b T
theorem mapBI_lt {w : World} {b : Nat} {T : List (KeyB × Ent VI)} (h : MapBI w b T) : b < w.heap.size := by
  obtain ⟨D, h1, _⟩ := h
  exact h1.lt
theorem mapBI_same {w w' : World} {b : Nat} {T : List (KeyB × Ent VI)} (h : MapBI w b T) (he : w'.heap[b]? = w.heap[b]?) : MapBI w' b T := by
  obtain ⟨D, h1, h2, h3⟩ := h
  exact ⟨D, ownsB_same h1 he, h2, h3⟩
theorem bokI_fr {base : Nat} {w w' : World} {t b : Nat} {most : Int} {T : List (KeyB × Ent VI)} {X : Nat → Prop} (h : BokI base w t b most T) (hf : Fr X w w') (h1 : ¬ X t) (h2 : ¬ X b) : BokI base w' t b most T :=
  ⟨h.1, h.2.1, h.2.2.1, hf.blk h.2.2.2.1 h1, mapBI_same h.2.2.2.2 (hf.block b (mapBI_lt h.2.2.2.2) h2)⟩
theorem bokI_below {base : Nat} {w w' : World} {t b : Nat} {most : Int} {T : List (KeyB × Ent VI)} (h : BokI base w t b most T) (hb : Below w.heap.size w w') : BokI base w' t b most T := bokI_fr (X := fun _ => False) h (Fr.of_below hb) (fun e => e) fun e => e
theorem bokI_lt {base : Nat} {w : World} {t b : Nat} {most : Int} {T : List (KeyB × Ent VI)} (h : BokI base w t b most T) : t < w.heap.size ∧ b < w.heap.size := ⟨blk_lt h.2.2.2.1, mapBI_lt h.2.2.2.2⟩
theorem okTIB_set {T : List (KeyB × Ent VI)} (h : OkTIB T) {name : ByteArray} {v : VI} (hn : name.size ≤ 1000000) (hv : OkVI v) : OkTIB (setM T (foldL name.data.toList) ⟨name, foldL name.data.toList, v⟩) := fun p hp => by
  unfold setM at hp
  rw [List.mem_append] at hp
  rcases hp with hp | hp
  · exact h p (List.mem_filter.1 hp).1
  · simp at hp; subst hp; exact ⟨fold_ok name hn, rfl, rfl, hn, hv⟩
theorem okTIB_del {T : List (KeyB × Ent VI)} (h : OkTIB T) (k : KeyB) : OkTIB (delM T k) := fun p hp => h p (List.mem_filter.1 hp).1
theorem lookBI {w : World} {b : Nat} {T : List (KeyB × Ent VI)} (h : MapBI w b T) {k : KeyB} (hk : OkKB k) : (Instr.lookup 106 (.map (some b)) (kVB k) true).run Tryz.prog w = .ok (.tuple #[valEI ((lookM T k).getD zeroEI), .bool (lookM T k).isSome]) w := by
  obtain ⟨D, a5, a6, a7⟩ := h
  have hz : (zeroValue 120).run Tryz.prog w = .ok (valEI zeroEI) w := by kernel_rfl
  obtain ⟨v, ps, h1, h2⟩ := a5.look_ok keyedB Tryz.underlying106 hz (readEI_val zeroEI) (keyOfB hk)
  obtain ⟨c, rfl, h3⟩ := readEI_inv h2
  rw [h1, a6.has_look kLB_inj]
  have h5 := (Prod.mk.inj h3).1
  rw [a6.look kLB_inj] at h5
  have h6 : c = (lookM T k).getD zeroEI := by
    cases hl : lookM T k with
    | none => rw [hl] at h5; exact (evEI_inj _ _ h5).symm
    | some v => rw [hl] at h5; exact (evEI_inj _ _ h5).symm
  rw [h6]
end Go.Proofs.YtpbobonddocgkaaGreatDoor
end
