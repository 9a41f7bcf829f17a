/- Texts of this proof, one behind the other. -/
import Derived.Deep.RegionHeld3
import Derived.Deep.DrawnRows
import Derived.WalkKit
import Derived.Test.YtdikpbldfnkgdaaGreatDoorSignKeepsG3
import Derived.Laws.ResultCell
import Derived.Test.YtdikpbldfnkgdaaGreatDoorSignKeepsG6
import Derived.Test.YtdikpbldfnkgdaaGreatDoorSignKeepsG1
section
/- Regions that draw their order, walked op by op in one way: what is held may grow on the way. -/
namespace Go.Proofs.YtdikpbldfnkgdaaGreatDoor
open Go Go.RowKit

section
variable {P : Program} {md : Region.Mode} {ops : Array Oper} {Q : Exit → Act → World → Prop} {S T : World → Prop}
/-- what is held may be more from here on -/
theorem wpAnyH_more (hST : ∀ w, T w → S w) : ∀ (fuel : Nat) (listed : Array Bool) (a : Act) (w : World), wpAnyH P md ops Q T fuel listed a w → wpAnyH P md ops Q S fuel listed a w
  | 0, _, _, _, h => h
  | fuel + 1, _, _, _, h => ⟨h.1, fun i hi => wpOp_mono (fun a' w' h' => ⟨hST w' h'.1, wpAnyH_more hST fuel _ a' w' h'.2⟩) (h.2 i hi)⟩
/-- one alone may come up: a call, a store -/
theorem wpAnyH_one {i : Nat} {o : Oper} {fuel : Nat} {listed : Array Bool} {a : Act} {w : World} (hr : Region.ready md ops listed = [i]) (ho : ops[i]? = some o) (hw : Region.wanted o (yielded ops a.tmps) = true)
    (h : ∀ K' : Act → World → Prop, Shut (∀ a w, S w → (S w → wpAnyH P md ops Q S fuel (listed.setIfInBounds i true) a w) → K' a w) → Oper.wp P o a w K' Q) : wpAnyH P md ops Q S (fuel + 1) listed a w :=
  wpAnyH_ready hr (by simp) (AllReadyH.cons ho (fun K hK => by rw [if_pos hw]; exact h K hK) AllReadyH.nil)
/-- what yields in every world that is held -/
theorem wpAnyH_read {i : Nat} {oi : Oper} (v : Value) {fuel : Nat} {listed : Array Bool} {a : Act} {w : World} (hi : ops[i]? = some oi)
    (hs : Region.noSelect ops = true) (hf : Region.free md ops listed i = true) (hr : (Region.ready md ops listed).contains i = true)
    (hQ : ∀ c a w, Q (.panic c) (a.put oi.dst v) w → Q (.panic c) a w) (hw : Region.wanted oi (yielded ops a.tmps) = true) (hS : S w)
    (hy : ∀ w, S w → (execOp a.eval oi).run P w = .ok (.value v) w)
    (h : wpAnyH P md ops Q S fuel (listed.setIfInBounds i true) (a.put oi.dst v) w) : wpAnyH P md ops Q S (fuel + 1) listed a w :=
  wpAnyH_take hi hs hf hr hQ (Or.inl ⟨hw, hy⟩) hS h
/-- what is guarded, and not wanted -/
theorem wpAnyH_pass {i : Nat} {oi : Oper} {fuel : Nat} {listed : Array Bool} {a : Act} {w : World} (hi : ops[i]? = some oi)
    (hs : Region.noSelect ops = true) (hf : Region.free md ops listed i = true) (hr : (Region.ready md ops listed).contains i = true)
    (hQ : ∀ c a w, Q (.panic c) (a.put oi.dst undef) w → Q (.panic c) a w) (hw : Region.wanted oi (yielded ops a.tmps) = false) (hS : S w)
    (h : wpAnyH P md ops Q S fuel (listed.setIfInBounds i true) (a.put oi.dst undef) w) : wpAnyH P md ops Q S (fuel + 1) listed a w :=
  wpAnyH_take hi hs hf hr hQ (Or.inr ⟨hw, rfl⟩) hS h
end
end Go.Proofs.YtdikpbldfnkgdaaGreatDoor
end
section
/- Drawn regions: two writing operations may come up. A box of seven cells. -/
namespace Go.Proofs.YtdikpbldfnkgdaaGreatDoor
open Go Go.RowKit

theorem wpAnyH_two {P : Program} {md : Region.Mode} {ops : Array Oper} {Q : Exit → Act → World → Prop} {S : World → Prop} {i j : Nat} {o o2 : Oper} {fuel : Nat} {listed : Array Bool} {a : Act} {w : World} (hr : Region.ready md ops listed = [i, j]) (ho : ops[i]? = some o) (ho2 : ops[j]? = some o2)
    (hw : Region.wanted o (yielded ops a.tmps) = true) (hw2 : Region.wanted o2 (yielded ops a.tmps) = true)
    (h : ∀ K' : Act → World → Prop, Shut (∀ a w, S w → (S w → wpAnyH P md ops Q S fuel (listed.setIfInBounds i true) a w) → K' a w) → Oper.wp P o a w K' Q)
    (h2 : ∀ K' : Act → World → Prop, Shut (∀ a w, S w → (S w → wpAnyH P md ops Q S fuel (listed.setIfInBounds j true) a w) → K' a w) → Oper.wp P o2 a w K' Q) : wpAnyH P md ops Q S (fuel + 1) listed a w :=
  wpAnyH_ready hr (by simp) (AllReadyH.cons ho (fun K hK => by rw [if_pos hw]; exact h K hK) (AllReadyH.cons ho2 (fun K hK => by rw [if_pos hw2]; exact h2 K hK) AllReadyH.nil))
section
variable {W a : World} {B : Nat} {T : TypeId} {X : Nat → Prop} {c0 c1 c2 c3 c4 c5 c6 v0 v1 v2 v3 v4 v5 v6 : Value}
theorem set7 (h : W.heap[B]? = some (.cells #[c0, c1, c2, c3, c4, c5, c6] T (0, 0))) : (((((((W.setCell ⟨B, 0, none⟩ v0).setCell ⟨B, 1, none⟩ v1).setCell ⟨B, 2, none⟩ v2).setCell ⟨B, 3, none⟩ v3).setCell ⟨B, 4, none⟩ v4).setCell ⟨B, 5, none⟩ v5).setCell ⟨B, 6, none⟩ v6).heap[B]? = some (.cells #[v0, v1, v2, v3, v4, v5, v6] T (0, 0)) := by
  have := blk_set (blk_set (blk_set (blk_set (blk_set (blk_set (blk_set h 0 v0) 1 v1) 2 v2) 3 v3) 4 v4) 5 v5) 6 v6
  simpa using this
theorem set7_fr (h : Fr X a W) (hB : X B) : Fr X a (((((((W.setCell ⟨B, 0, none⟩ v0).setCell ⟨B, 1, none⟩ v1).setCell ⟨B, 2, none⟩ v2).setCell ⟨B, 3, none⟩ v3).setCell ⟨B, 4, none⟩ v4).setCell ⟨B, 5, none⟩ v5).setCell ⟨B, 6, none⟩ v6) :=
  Fr.setCell (Fr.setCell (Fr.setCell (Fr.setCell (Fr.setCell (Fr.setCell (Fr.setCell h ⟨B, 0, none⟩ hB v0) ⟨B, 1, none⟩ hB v1) ⟨B, 2, none⟩ hB v2) ⟨B, 3, none⟩ hB v3) ⟨B, 4, none⟩ hB v4) ⟨B, 5, none⟩ hB v5) ⟨B, 6, none⟩ hB v6
theorem set7_oth {k : Nat} {o : Obj} (h : W.heap[k]? = some o) (hk : k ≠ B) : (((((((W.setCell ⟨B, 0, none⟩ v0).setCell ⟨B, 1, none⟩ v1).setCell ⟨B, 2, none⟩ v2).setCell ⟨B, 3, none⟩ v3).setCell ⟨B, 4, none⟩ v4).setCell ⟨B, 5, none⟩ v5).setCell ⟨B, 6, none⟩ v6).heap[k]? = some o :=
  (set7_fr (X := fun k => k = B) (Fr.refl _ W) rfl).blk h hk
theorem res_seven {P : Program} {fn : Func} {p u : Tmp} {ty : TypeId} {tmps : Array Value} {V : World} {N : Nat} (h : fn.results = #[.cell p ty, .tmp u]) (hp : tmps.getD p undef = .pointer (some ⟨N, 0, none⟩)) (hg : (isAgg ty).run P V = .ok true V) (hz : (sizeOf ty).run P V = .ok 7 V)
    (h0 : V.heap[N]? = some (.cells #[c0, c1, c2, c3, c4, c5, c6] T (0, 0))) : (results fn tmps).run P V = .ok (.tuple #[.agg #[c0, c1, c2, c3, c4, c5, c6], tmps.getD u undef]) V := by
  have k := fun j => blk_cell h0 j
  rw [results_cell_tmp h, hp]
  have k0 := k 0; have k1 := k 1; have k2 := k 2; have k3 := k 3; have k4 := k 4; have k5 := k 5; have k6 := k 6
  simp [asAddr, loadVar, Sem.run_bind, hg, hz, loadCells, loadCellsFrom, k0, k1, k2, k3, k4, k5, k6, Result.andThen, go_sem]
end
end Go.Proofs.YtdikpbldfnkgdaaGreatDoor
end
section
/- Layer 17: Pass. -/
namespace Go.Proofs.YtdikpbldfnkgdaaGreatDoor
set_option linter.unusedVariables false
set_option linter.unusedSimpArgs false
open Go Go.RowKit

abbrev sgC (k : Int) (t : Bool) (p n u r : ByteArray) (d : Bool) : Array Value := #[.int .i64 k, .bool t, .string p, .string n, .string u, .string r, .bool d]
/-- a box of what a connection told, cell by cell -/
def Box7 (W : World) (B : Nat) (k : Int) (t : Bool) (p n u r : ByteArray) (d : Bool) : Prop := W.cell? ⟨B, 0, none⟩ = some (.int .i64 k) ∧ W.cell? ⟨B, 1, none⟩ = some (.bool t) ∧ W.cell? ⟨B, 2, none⟩ = some (.string p) ∧ W.cell? ⟨B, 3, none⟩ = some (.string n) ∧ W.cell? ⟨B, 4, none⟩ = some (.string u) ∧ W.cell? ⟨B, 5, none⟩ = some (.string r) ∧ W.cell? ⟨B, 6, none⟩ = some (.bool d)
theorem box7_blk {W : World} {B : Nat} {k : Int} {t : Bool} {p n u r : ByteArray} {d : Bool} {T : TypeId} (h : W.heap[B]? = some (.cells (sgC k t p n u r d) T (0, 0))) : Box7 W B k t p n u r d :=
  ⟨blk_cell h 0, blk_cell h 1, blk_cell h 2, blk_cell h 3, blk_cell h 4, blk_cell h 5, blk_cell h 6⟩
/-- what Pass makes: the sign, and how many lines -/
def SgPass (k : Int) (t : Bool) (p n u r : ByteArray) (d : Bool) (w : World) (e : Ending) (w' : World) : Prop :=
  (∃ q A c m, e = .returned (.tuple #[sgn k t q n u r d, .slice A m c]) ∧ ((m = 1 ∧ q = p) ∨ (m = 0 ∧ d = false))) ∧ RowKit.Below w.heap.size w w'
set_option maxRecDepth 100000 in
set_option maxHeartbeats 8000000 in
theorem pass_done (server : List UInt8) (k : Int) (t : Bool) (p u r : ByteArray) (nn : List UInt8) (A : Option Addr) (c : Nat) (ps : List (List UInt8)) (w : World) (hm : Mx w) (hp : PowW w) (h3 : server.length ≤ 1000) (h4 : nn.length ≤ 1000) :
    Calls Tryz.prog 6 #[.string (bs server), sgn k t p (bs nn) u r true, .slice A ps.length c] w (SgPass k t p (bs nn) u r true w) := by
  obtain ⟨N, hN⟩ : ∃ N, w.heap.size = N := ⟨_, rfl⟩
  obtain ⟨n, hnn⟩ : ∃ n, bs nn = n := ⟨_, rfl⟩
  obtain ⟨W0, hW0⟩ : ∃ W0, ((w.alloc (.cells (sgC k t p n u r true) 23)).alloc (.cells (sgC 0 false ⟨#[]⟩ ⟨#[]⟩ ⟨#[]⟩ ⟨#[]⟩ false) 23)) = W0 := ⟨_, rfl⟩
  have b0 : RowKit.Below w.heap.size w W0 := by rw [← hW0]; exact ((Below.refl _ w).alloc (Nat.le_refl _) _).alloc (by simp) _
  have k0 : W0.heap[N]? = some (.cells (sgC k t p n u r true) 23 (0, 0)) := by rw [← hW0, ← hN]; exact blk_alloc (heap_alloc_new w _) _
  have k1 : W0.heap[N + 1]? = some (.cells (sgC 0 false ⟨#[]⟩ ⟨#[]⟩ ⟨#[]⟩ ⟨#[]⟩ false) 23 (0, 0)) := by rw [← hW0, ← hN]; exact heap_alloc2_new w _ _
  have b0d : RowKit.Below w.heap.size w W0.drew := b0.trans (((Fr.refl (fun _ => False) W0).drew).below b0.size fun _ _ e => e.elim)
  have hT := told_any server nn 462 none 0 [] W0.drew (fun h => by simp at h) (mx_kept hm b0d (Nat.le_refl _)) (PowW.below hp b0d) (by decide) (by decide) (by simp) (by omega) (by omega) (by simp)
  obtain ⟨tx, htx⟩ : ∃ tx, toldL server nn 462 [] = tx := ⟨_, rfl⟩
  rw [htx, hnn] at hT
  have hT2 : Calls Tryz.prog 10 #[.string (bs server), .int .i64 462, .string n, .slice none 0 0] W0.drew fun e w1 => e = .returned (.string (bs tx)) ∧ Hid (Fr (fun _ => False) W0.drew w1) := hT.mono fun e w1 ⟨h1, h2⟩ => ⟨h1, Fr.of_below h2⟩
  have HT := Lib.hid hT2
  have H := Lib.hid (And.intro b0 (And.intro k0 (And.intro k1 hN)))
  have HW := Lib.hid hW0
  rw [hnn]
  clear hm hp hT hT2 htx b0 b0d k0 k1 hW0 hnn hN
  obtain ⟨c0, c1, c2, c3, c4, c5, c6⟩ := box7_blk H.out.2.1
  unfold sgn
  go_enter Tryz.func6, Tryz.ntmps6
  have hW0 := HW.out
  have hN := H.out.2.2.2
  unfold sgC at hW0
  go_wp2_with fail
  clear hW0 hN c0 c1 c2 c3 c4 c5 c6
  have hS0 : W0.drew.heap[N]? = some (.cells (sgC k t p n u r true) 23 (0, 0)) := H.out.2.1
  have hX : W0.drew.heap[N + 1]? = some (.cells (sgC 0 false ⟨#[]⟩ ⟨#[]⟩ ⟨#[]⟩ ⟨#[]⟩ false) 23 (0, 0)) := H.out.2.2.1
  have hF : Fr (fun k => k = N + 1) W0 W0.drew := (Fr.refl _ _).drew
  refine wp_region_held_drew (S := fun V => V.heap[N]? = some (.cells (sgC k t p n u r true) 23 (0, 0))) (by kernel_rfl) (by exact hS0) (fun hHeld => ?_)
  refine wpAnyH_read (i := 1) (oi := { dst := some 12, op := Go.Op.move (Go.Operand.tmp 0), type := 9, pos := "sign.go:68", after := #[], guard := none }) ?_ rfl (by kernel_rfl) (by kernel_rfl) (by kernel_rfl) (fun _ _ _ h => h) (by rfl) (by exact hHeld) ?_ ?_
  rotate_left
  · (intro w0 hS0; have s0 := blk_cell hS0 0; have s1 := blk_cell hS0 1; have s2 := blk_cell hS0 2; have s3 := blk_cell hS0 3; have s4 := blk_cell hS0 4; have s5 := blk_cell hS0 5; have s6 := blk_cell hS0 6; go_simp <;> (try with_reducible rfl))
  try simp only [Act.put, List.setIfInBounds_toArray, List.set_cons_zero, List.set_cons_succ]
  refine wpAnyH_read (i := 2) (oi := { dst := some 13, op := Go.Op.fieldAddr 23 (Go.Operand.tmp 4) 3, type := 0, pos := "sign.go:68", after := #[], guard := none }) ?_ rfl (by kernel_rfl) (by kernel_rfl) (by kernel_rfl) (fun _ _ _ h => h) (by rfl) (by exact hHeld) ?_ ?_
  rotate_left
  · (intro w0 hS0; have s0 := blk_cell hS0 0; have s1 := blk_cell hS0 1; have s2 := blk_cell hS0 2; have s3 := blk_cell hS0 3; have s4 := blk_cell hS0 4; have s5 := blk_cell hS0 5; have s6 := blk_cell hS0 6; go_simp <;> (try with_reducible rfl))
  try simp only [Act.put, List.setIfInBounds_toArray, List.set_cons_zero, List.set_cons_succ]
  refine wpAnyH_read (i := 0) (oi := { dst := some 11, op := Go.Op.load 23 (Go.Operand.tmp 4), type := 23, pos := "sign.go:68", after := #[], guard := none }) ?_ rfl (by kernel_rfl) (by kernel_rfl) (by kernel_rfl) (fun _ _ _ h => h) (by rfl) (by exact hHeld) ?_ ?_
  rotate_left
  · (intro w0 hS0; have s0 := blk_cell hS0 0; have s1 := blk_cell hS0 1; have s2 := blk_cell hS0 2; have s3 := blk_cell hS0 3; have s4 := blk_cell hS0 4; have s5 := blk_cell hS0 5; have s6 := blk_cell hS0 6; go_simp <;> (try with_reducible rfl))
  try simp only [Act.put, List.setIfInBounds_toArray, List.set_cons_zero, List.set_cons_succ]
  refine wpAnyH_read (i := 3) (oi := { dst := some 14, op := Go.Op.load 9 (Go.Operand.tmp 13), type := 9, pos := "sign.go:68", after := #[{ on := 2, ground := Go.Ground.data }], guard := none }) ?_ rfl (by kernel_rfl) (by kernel_rfl) (by kernel_rfl) (fun _ _ _ h => h) (by rfl) (by exact hHeld) ?_ ?_
  rotate_left
  · (intro w0 hS0; have s0 := blk_cell hS0 0; have s1 := blk_cell hS0 1; have s2 := blk_cell hS0 2; have s3 := blk_cell hS0 3; have s4 := blk_cell hS0 4; have s5 := blk_cell hS0 5; have s6 := blk_cell hS0 6; go_simp <;> (try with_reducible rfl))
  try simp only [Act.put, List.setIfInBounds_toArray, List.set_cons_zero, List.set_cons_succ]
  refine wpAnyH_one (i := 4) (o := { dst := some 15, op := Go.Op.call { callee := Go.Callee.value (Go.Operand.func 10), args := #[Go.Operand.tmp 12, Go.Operand.const (Go.Value.int Go.IntKind.i64 462), Go.Operand.tmp 14, Go.Operand.const (Go.Value.slice none 0 0)], argTypes := #[9, 3, 9, 24] }, type := 9, pos := "sign.go:68", after := #[{ on := 1, ground := Go.Ground.data }, { on := 3, ground := Go.Ground.data }], guard := none }) (by kernel_rfl) rfl (by rfl) (fun K hK => ?_)
  go_simp
  refine HT.out.mono ?_
  rintro e w1 ⟨rfl, HX⟩
  refine hK.out _ _ ?_ (fun hHeld => ?_)
  · exact HX.out.blk hS0 fun e => e
  clear hK K
  try simp only [Act.put, List.setIfInBounds_toArray, List.set_cons_zero, List.set_cons_succ]
  have hS0 := hHeld
  have hX := HX.out.blk hX fun e => e
  have hF := (hF.mono (Y := fun k => k = N + 1) fun _ _ e => e).trans3 HX.out fun _ _ e => e.elim
  have q0 := blk_cell hX 0; have q1 := blk_cell hX 1; have q2 := blk_cell hX 2; have q3 := blk_cell hX 3; have q4 := blk_cell hX 4; have q5 := blk_cell hX 5; have q6 := blk_cell hX 6; have f0 := blk_free hX 0; have f1 := blk_free hX 1; have f2 := blk_free hX 2; have f3 := blk_free hX 3; have f4 := blk_free hX 4; have f5 := blk_free hX 5; have f6 := blk_free hX 6
  refine wpAnyH_two (i := 5) (j := 6) (o := { dst := some 16, op := Go.Op.buildSlice 24 1 #[(0, Go.Operand.tmp 15)], type := 24, pos := "sign.go:68", after := #[{ on := 4, ground := Go.Ground.data }, { on := 6, ground := Go.Ground.gcOnly Go.Departure.lateStores }], guard := none }) (o2 := { dst := none, op := Go.Op.store 23 (Go.Operand.tmp 6) (Go.Operand.tmp 11), type := 0, pos := "sign.go:68", after := #[{ on := 0, ground := Go.Ground.data }, { on := 4, ground := Go.Ground.chain }, { on := 0, ground := Go.Ground.phase }, { on := 1, ground := Go.Ground.textOnly Go.Departure.lateStores }, { on := 2, ground := Go.Ground.textOnly Go.Departure.lateStores }, { on := 3, ground := Go.Ground.textOnly Go.Departure.lateStores }, { on := 4, ground := Go.Ground.textOnly Go.Departure.lateStoresUnsure }, { on := 5, ground := Go.Ground.textOnly Go.Departure.lateStores }], guard := none }) (by kernel_rfl) rfl rfl (by rfl) (by rfl) (fun K hK => ?_) (fun K hK => ?_)
  · go_simp
    refine hK.out _ _ ?_ (fun hHeld => ?_)
    · exact blk_alloc hS0 _
    clear hK K
    try simp only [Act.put, List.setIfInBounds_toArray, List.set_cons_zero, List.set_cons_succ]
    have hS0 := hHeld
    have hX := blk_alloc hX (Obj.cells #[Value.string (bs tx)] 9)
    have hF := hF.alloc (Obj.cells #[Value.string (bs tx)] 9)
    clear q0 q1 q2 q3 q4 q5 q6 f0 f1 f2 f3 f4 f5 f6
    have q0 := blk_cell hX 0; have q1 := blk_cell hX 1; have q2 := blk_cell hX 2; have q3 := blk_cell hX 3; have q4 := blk_cell hX 4; have q5 := blk_cell hX 5; have q6 := blk_cell hX 6; have f0 := blk_free hX 0; have f1 := blk_free hX 1; have f2 := blk_free hX 2; have f3 := blk_free hX 3; have f4 := blk_free hX 4; have f5 := blk_free hX 5; have f6 := blk_free hX 6
    refine wpAnyH_one (i := 6) (o := { dst := none, op := Go.Op.store 23 (Go.Operand.tmp 6) (Go.Operand.tmp 11), type := 0, pos := "sign.go:68", after := #[{ on := 0, ground := Go.Ground.data }, { on := 4, ground := Go.Ground.chain }, { on := 0, ground := Go.Ground.phase }, { on := 1, ground := Go.Ground.textOnly Go.Departure.lateStores }, { on := 2, ground := Go.Ground.textOnly Go.Departure.lateStores }, { on := 3, ground := Go.Ground.textOnly Go.Departure.lateStores }, { on := 4, ground := Go.Ground.textOnly Go.Departure.lateStoresUnsure }, { on := 5, ground := Go.Ground.textOnly Go.Departure.lateStores }], guard := none }) (by kernel_rfl) rfl (by rfl) (fun K hK => ?_)
    go_simp
    refine hK.out _ _ ?_ (fun hHeld => ?_)
    · exact set7_oth hS0 (by omega)
    clear hK K
    try simp only [Act.put, List.setIfInBounds_toArray, List.set_cons_zero, List.set_cons_succ]
    have hS0 := hHeld
    have hX := set7 (v0 := .int .i64 k) (v1 := .bool t) (v2 := .string p) (v3 := .string n) (v4 := .string u) (v5 := .string r) (v6 := .bool true) hX
    have hF := set7_fr (v0 := .int .i64 k) (v1 := .bool t) (v2 := .string p) (v3 := .string n) (v4 := .string u) (v5 := .string r) (v6 := .bool true) hF rfl
    clear q0 q1 q2 q3 q4 q5 q6 f0 f1 f2 f3 f4 f5 f6
    have q0 := blk_cell hX 0; have q1 := blk_cell hX 1; have q2 := blk_cell hX 2; have q3 := blk_cell hX 3; have q4 := blk_cell hX 4; have q5 := blk_cell hX 5; have q6 := blk_cell hX 6; have f0 := blk_free hX 0; have f1 := blk_free hX 1; have f2 := blk_free hX 2; have f3 := blk_free hX 3; have f4 := blk_free hX 4; have f5 := blk_free hX 5; have f6 := blk_free hX 6
    refine wpAnyH_read (i := 7) (oi := { dst := some 7, op := Go.Op.assign (Go.Operand.tmp 16), type := 24, pos := "sign.go:68", after := #[{ on := 5, ground := Go.Ground.data }, { on := 6, ground := Go.Ground.chain }, { on := 0, ground := Go.Ground.phase }, { on := 1, ground := Go.Ground.phase }, { on := 2, ground := Go.Ground.phase }, { on := 3, ground := Go.Ground.phase }, { on := 4, ground := Go.Ground.phase }, { on := 5, ground := Go.Ground.phase }, { on := 6, ground := Go.Ground.phase }], guard := none }) ?_ rfl (by kernel_rfl) (by kernel_rfl) (by kernel_rfl) (fun _ _ _ h => h) (by rfl) (by exact hHeld) ?_ ?_
    rotate_left
    · (intro w0 hS0; have s0 := blk_cell hS0 0; have s1 := blk_cell hS0 1; have s2 := blk_cell hS0 2; have s3 := blk_cell hS0 3; have s4 := blk_cell hS0 4; have s5 := blk_cell hS0 5; have s6 := blk_cell hS0 6; go_simp <;> (try with_reducible rfl))
    try simp only [Act.put, List.setIfInBounds_toArray, List.set_cons_zero, List.set_cons_succ]
    refine wpAnyH_done (by kernel_rfl) ?_ _
    go_wp2_with fail
    refine bodyPost_ret (res_seven rfl rfl (Tryz.isAgg23 _) (Tryz.sizeOf23 _) hX) rfl ⟨⟨p, _, _, _, rfl, .inl ⟨rfl, rfl⟩⟩, ?_⟩
    exact H.out.1.trans (hF.below H.out.1.size fun k hk e => by have := H.out.2.2.2; omega)
  · go_simp
    refine hK.out _ _ ?_ (fun hHeld => ?_)
    · exact set7_oth hS0 (by omega)
    clear hK K
    try simp only [Act.put, List.setIfInBounds_toArray, List.set_cons_zero, List.set_cons_succ]
    have hS0 := hHeld
    have hX := set7 (v0 := .int .i64 k) (v1 := .bool t) (v2 := .string p) (v3 := .string n) (v4 := .string u) (v5 := .string r) (v6 := .bool true) hX
    have hF := set7_fr (v0 := .int .i64 k) (v1 := .bool t) (v2 := .string p) (v3 := .string n) (v4 := .string u) (v5 := .string r) (v6 := .bool true) hF rfl
    clear q0 q1 q2 q3 q4 q5 q6 f0 f1 f2 f3 f4 f5 f6
    have q0 := blk_cell hX 0; have q1 := blk_cell hX 1; have q2 := blk_cell hX 2; have q3 := blk_cell hX 3; have q4 := blk_cell hX 4; have q5 := blk_cell hX 5; have q6 := blk_cell hX 6; have f0 := blk_free hX 0; have f1 := blk_free hX 1; have f2 := blk_free hX 2; have f3 := blk_free hX 3; have f4 := blk_free hX 4; have f5 := blk_free hX 5; have f6 := blk_free hX 6
    refine wpAnyH_one (i := 5) (o := { dst := some 16, op := Go.Op.buildSlice 24 1 #[(0, Go.Operand.tmp 15)], type := 24, pos := "sign.go:68", after := #[{ on := 4, ground := Go.Ground.data }, { on := 6, ground := Go.Ground.gcOnly Go.Departure.lateStores }], guard := none }) (by kernel_rfl) rfl (by rfl) (fun K hK => ?_)
    go_simp
    refine hK.out _ _ ?_ (fun hHeld => ?_)
    · exact blk_alloc hS0 _
    clear hK K
    try simp only [Act.put, List.setIfInBounds_toArray, List.set_cons_zero, List.set_cons_succ]
    have hS0 := hHeld
    have hX := blk_alloc hX (Obj.cells #[Value.string (bs tx)] 9)
    have hF := hF.alloc (Obj.cells #[Value.string (bs tx)] 9)
    clear q0 q1 q2 q3 q4 q5 q6 f0 f1 f2 f3 f4 f5 f6
    have q0 := blk_cell hX 0; have q1 := blk_cell hX 1; have q2 := blk_cell hX 2; have q3 := blk_cell hX 3; have q4 := blk_cell hX 4; have q5 := blk_cell hX 5; have q6 := blk_cell hX 6; have f0 := blk_free hX 0; have f1 := blk_free hX 1; have f2 := blk_free hX 2; have f3 := blk_free hX 3; have f4 := blk_free hX 4; have f5 := blk_free hX 5; have f6 := blk_free hX 6
    refine wpAnyH_read (i := 7) (oi := { dst := some 7, op := Go.Op.assign (Go.Operand.tmp 16), type := 24, pos := "sign.go:68", after := #[{ on := 5, ground := Go.Ground.data }, { on := 6, ground := Go.Ground.chain }, { on := 0, ground := Go.Ground.phase }, { on := 1, ground := Go.Ground.phase }, { on := 2, ground := Go.Ground.phase }, { on := 3, ground := Go.Ground.phase }, { on := 4, ground := Go.Ground.phase }, { on := 5, ground := Go.Ground.phase }, { on := 6, ground := Go.Ground.phase }], guard := none }) ?_ rfl (by kernel_rfl) (by kernel_rfl) (by kernel_rfl) (fun _ _ _ h => h) (by rfl) (by exact hHeld) ?_ ?_
    rotate_left
    · (intro w0 hS0; have s0 := blk_cell hS0 0; have s1 := blk_cell hS0 1; have s2 := blk_cell hS0 2; have s3 := blk_cell hS0 3; have s4 := blk_cell hS0 4; have s5 := blk_cell hS0 5; have s6 := blk_cell hS0 6; go_simp <;> (try with_reducible rfl))
    try simp only [Act.put, List.setIfInBounds_toArray, List.set_cons_zero, List.set_cons_succ]
    refine wpAnyH_done (by kernel_rfl) ?_ _
    go_wp2_with fail
    refine bodyPost_ret (res_seven rfl rfl (Tryz.isAgg23 _) (Tryz.sizeOf23 _) hX) rfl ⟨⟨p, _, _, _, rfl, .inl ⟨rfl, rfl⟩⟩, ?_⟩
    exact H.out.1.trans (hF.below H.out.1.size fun k hk e => by have := H.out.2.2.2; omega)
end Go.Proofs.YtdikpbldfnkgdaaGreatDoor
end
section
/- Layer 12: All, Number, CutPrefix, the answers' Number. -/
namespace Go.Proofs.YtdikpbldfnkgdaaGreatDoor
set_option linter.unusedVariables false
set_option linter.unusedSimpArgs false
open Go.RowKit Go.Shelf
attribute [local go_sem] Oper.semAt_some

theorem cell_lt {W : World} {g o : Nat} {v : Value} (h : W.cell? ⟨g, o, none⟩ = some v) : g < W.heap.size := by
  unfold World.cell? at h
  cases hb : W.heap[g]? with
  | none => simp [hb] at h
  | some x => exact (Array.getElem?_eq_some_iff.1 hb).1
/-- a result that lies in a cell -/
theorem res_in {P : Program} {fn : Func} {p : Tmp} {ty : TypeId} (h : fn.results = #[.cell p ty]) (tmps : Array Value) (w : World) (g : Nat) (v : Value) (d : TypeDesc) (hp : tmps.getD p undef = .pointer (some ⟨g, 0, none⟩)) (hc : w.cell? ⟨g, 0, none⟩ = some v)
    (hu : P.underlying ty = some d) (hd : (match d with | .struct _ | .array _ _ => true | _ => false) = false) : (results fn tmps).run P w = .ok v w := by
  have hp' : tmps[p]?.getD undef = .pointer (some ⟨g, 0, none⟩) := by simpa using hp
  have hagg : (isAgg ty).run P w = .ok false w := by
    unfold isAgg
    rw [Sem.run_bind, run_underlying hu w]
    cases d <;> simp_all
  simp [results, h, hp', asAddr, loadVar, Sem.run_bind, hagg, go_sem, hc]
theorem def_cell {W : World} {D b : Nat} {v : Value} (hK : W.heap[D]? = some (.deferred (some []))) (o' : Obj) (hc : W.cell? ⟨b, 0, none⟩ = some v) : (W.putObj D o').cell? ⟨b, 0, none⟩ = some v := by
  have hne : b ≠ D := by
    rintro rfl
    simp [World.cell?, hK] at hc
  exact (World.cell?_of_block (w := W) (a := ⟨b, 0, none⟩) (World.putObj_heap_other hne)).trans hc

def awayB : ByteArray := ⟨#[97, 119, 97, 121, 45, 110, 111, 116, 105, 102, 121]⟩
def echoB : ByteArray := ⟨#[101, 99, 104, 111, 45, 109, 101, 115, 115, 97, 103, 101]⟩
def multiB : ByteArray := ⟨#[109, 117, 108, 116, 105, 45, 112, 114, 101, 102, 105, 120]⟩
abbrev CapE := ByteArray × Int
abbrev encCap (x : CapE) : Array Value := #[.string x.1, .int .i64 x.2]
def knownC : List CapE := [(awayB, 1), (echoB, 2), (multiB, 4)]
/-- the table is laid -/
def Known (W : World) : Prop := W.cell? ⟨0, 0, none⟩ = some (.string awayB) ∧ W.cell? ⟨0, 1, none⟩ = some (.int .i64 1) ∧ W.cell? ⟨0, 2, none⟩ = some (.string echoB) ∧ W.cell? ⟨0, 3, none⟩ = some (.int .i64 2) ∧
  W.cell? ⟨0, 4, none⟩ = some (.string multiB) ∧ W.cell? ⟨0, 5, none⟩ = some (.int .i64 4)
theorem Known.kept {W W' : World} (h : Known W) (hb : Below W.heap.size W W') : Known W' := by
  have hg := cell_lt h.1
  unfold Known
  rw [hb.cell (p := ⟨_, 0, none⟩) hg, hb.cell (p := ⟨_, 1, none⟩) hg, hb.cell (p := ⟨_, 2, none⟩) hg, hb.cell (p := ⟨_, 3, none⟩) hg, hb.cell (p := ⟨_, 4, none⟩) hg, hb.cell (p := ⟨_, 5, none⟩) hg]
  exact h

theorem all_any (w : World) : Calls Tryz.prog 43 #[] w fun e w' => e = .returned (.func (.func 63) #[] #[]) ∧ w' = w := by
  go_enter Tryz.func43, Tryz.ntmps43
  go_wp2
  go_ret
  exact ⟨rfl, rfl⟩

theorem cap_at0 (a b c : ByteArray) (i j k : Int) (w : World) : (Instr.index 94 (.agg #[.string a, .int .i64 i, .string b, .int .i64 j, .string c, .int .i64 k]) (.int .i64 0)).run Tryz.prog w = .ok (.agg #[.string a, .int .i64 i]) w := by kernel_rfl
theorem cap_at1 (a b c : ByteArray) (i j k : Int) (w : World) : (Instr.index 94 (.agg #[.string a, .int .i64 i, .string b, .int .i64 j, .string c, .int .i64 k]) (.int .i64 1)).run Tryz.prog w = .ok (.agg #[.string b, .int .i64 j]) w := by kernel_rfl
theorem cap_at2 (a b c : ByteArray) (i j k : Int) (w : World) : (Instr.index 94 (.agg #[.string a, .int .i64 i, .string b, .int .i64 j, .string c, .int .i64 k]) (.int .i64 2)).run Tryz.prog w = .ok (.agg #[.string c, .int .i64 k]) w := by kernel_rfl

set_option maxRecDepth 100000 in
set_option maxHeartbeats 4000000 in
theorem all_stops (n : Nat) (hn : 2 ≤ n) (w : World) (hK : Known w) :
    SeqW Fence.wide n Tryz.prog 63 #[] encCap (fun _ => False) (fun xs => xs = knownC) (fun pre => ∃ r, pre ++ r = knownC) 3 w := fun l J Jx V hV hJ hJx hY h0 => by
  obtain ⟨q0, q1, q2, q3, q4, q5⟩ := hK.kept hV
  refine callsIn_of_wp Tryz.func63 rfl trivial ?_ rfl
  simp only [Tryz.ntmps63, List.size_toArray, List.length_cons, List.length_nil, Nat.reduceAdd, Nat.reduceSub, Array.replicate_succ, Array.replicate_zero, List.push_toArray, List.append_toArray, List.nil_append, List.cons_append]
  gi_wp2_with fail
  gi_loopw [5] (fun i wr => ∃ k : Nat, i = .int .i64 k ∧ k ≤ 3 ∧ J (knownC.take k) wr) (fun i _ => 3 - (Go.RowKit.intOf i).toNat)
  case atStart => exact ⟨0, rfl, by omega, h0⟩
  case round =>
    obtain ⟨k, rfl, hk, hJs⟩ := hrel
    clear q0 q1 q2 q3 q4 q5
    have hc0 := cap_at0; have hc1 := cap_at1; have hc2 := cap_at2
    rcases k with _ | _ | _ | _ | k
    · have hJ1 := hJ _ _ _ none hJs (World.grownBy_alloc wr (.cells #[.string awayB, .int .i64 1] 93) none) (fun r e => by cases e)
      obtain ⟨fn, tmps, assign, body, hy, hRd⟩ := hY _ (awayB, 1) _ hJ1 (by decide)
      dsimp only [encCap] at hy
      gi_wp2_with fail
      refine ⟨fun _ => by omega, hRd.mono ?_⟩
      rintro e W3 (⟨rfl, hJ3, _⟩ | ⟨rfl, hJx3⟩)
      · gi_wp2_with fail
        go_roundw
        case rel => exact ⟨1, by go_num, by omega, hJ3⟩
        case measure => simp [Go.RowKit.intOf]
      · gi_wp2_with fail
        refine bodyPost_ret (results_none rfl _ _ _) rfl ?_
        exact ⟨⟨_, rfl⟩, .inr ⟨_, ⟨knownC.drop 1, rfl⟩, hJx3⟩⟩
    · have hJ1 := hJ _ _ _ none hJs (World.grownBy_alloc wr (.cells #[.string echoB, .int .i64 2] 93) none) (fun r e => by cases e)
      obtain ⟨fn, tmps, assign, body, hy, hRd⟩ := hY _ (echoB, 2) _ hJ1 (by decide)
      dsimp only [encCap] at hy
      gi_wp2_with fail
      refine ⟨fun _ => by omega, hRd.mono ?_⟩
      rintro e W3 (⟨rfl, hJ3, _⟩ | ⟨rfl, hJx3⟩)
      · gi_wp2_with fail
        go_roundw
        case rel => exact ⟨2, by go_num, by omega, hJ3⟩
        case measure => simp [Go.RowKit.intOf]
      · gi_wp2_with fail
        refine bodyPost_ret (results_none rfl _ _ _) rfl ?_
        exact ⟨⟨_, rfl⟩, .inr ⟨_, ⟨knownC.drop 2, rfl⟩, hJx3⟩⟩
    · have hJ1 := hJ _ _ _ none hJs (World.grownBy_alloc wr (.cells #[.string multiB, .int .i64 4] 93) none) (fun r e => by cases e)
      obtain ⟨fn, tmps, assign, body, hy, hRd⟩ := hY _ (multiB, 4) _ hJ1 (by decide)
      dsimp only [encCap] at hy
      gi_wp2_with fail
      refine ⟨fun _ => by omega, hRd.mono ?_⟩
      rintro e W3 (⟨rfl, hJ3, _⟩ | ⟨rfl, hJx3⟩)
      · gi_wp2_with fail
        go_roundw
        case rel => exact ⟨3, by go_num, by omega, hJ3⟩
        case measure => simp [Go.RowKit.intOf]
      · gi_wp2_with fail
        refine bodyPost_ret (results_none rfl _ _ _) rfl ?_
        exact ⟨⟨_, rfl⟩, .inr ⟨_, ⟨knownC.drop 3, rfl⟩, hJx3⟩⟩
    · gi_wp2_with fail
      go_end0
      exact ⟨⟨_, rfl⟩, .inl ⟨_, rfl, hJs⟩⟩
    · omega

/-- no name of these -/
def NotIn (name : ByteArray) (pre : List CapE) : Prop := ∀ x ∈ pre, x.1 ≠ name
/-- the last of these is it -/
def LastIs (name : ByteArray) (B : Nat) (w : World) (pre : List CapE) (W : World) : Prop := ∃ (p0 : List CapE) (x : CapE), pre = p0 ++ [x] ∧ x.1 = name ∧ NotIn name p0 ∧ Boxed W (B + 1) 3 (.int .i64 x.2) ∧ Below B w W
theorem numV_none {name : ByteArray} (h : NotIn name knownC) : numV name.data.toList = 0#64 := by
  have ne : ∀ b : ByteArray, b ≠ name → name.data.toList ≠ b.data.toList := fun b hb e => hb (ba_ext e.symm)
  unfold numV
  rw [if_neg (show name.data.toList ≠ awayL from ne awayB (h (awayB, 1) (by simp [knownC]))), if_neg (show name.data.toList ≠ echoL from ne echoB (h (echoB, 2) (by simp [knownC]))), if_neg (show name.data.toList ≠ multiL from ne multiB (h (multiB, 4) (by simp [knownC])))]
theorem numV_last {name : ByteArray} {p0 r : List CapE} {x : CapE} (hp : (p0 ++ [x]) ++ r = knownC) (hx : x.1 = name) : (IV (numV name.data.toList)) = x.2 := by
  have hl := congrArg List.length hp
  subst hx
  rcases p0 with _ | ⟨a, _ | ⟨b, _ | ⟨c, p0⟩⟩⟩
  · simp [knownC] at hp; obtain ⟨rfl, _⟩ := hp; decide +kernel
  · simp [knownC] at hp; obtain ⟨_, rfl, _⟩ := hp; decide +kernel
  · simp [knownC] at hp; obtain ⟨_, _, rfl, _⟩ := hp; decide +kernel
  · simp [knownC] at hl

set_option maxRecDepth 100000 in
set_option maxHeartbeats 4000000 in
theorem number_any (name : ByteArray) (w : World) (hK : Known w) :
    Calls Tryz.prog 48 #[.string name] w fun e w' => e = .returned (.int .i64 (IV (numV name.data.toList))) ∧ Below w.heap.size w w' := by
  refine (callsIn_wide (n := 6)).1 ?_
  refine callsIn_of_wp_marks Tryz.func48 rfl trivial ?_ rfl
  simp only [Tryz.ntmps48, List.size_toArray, List.length_cons, List.length_nil, Nat.reduceAdd, Nat.reduceSub, Array.replicate_succ, Array.replicate_zero, List.push_toArray, List.append_toArray, List.nil_append, List.cons_append]
  gi_wp2_with fail
  refine ⟨trivial, ((callsIn_wide (n := 5)).2 (all_any _)).mono ?_⟩
  rintro e w2 ⟨rfl, hw2⟩
  have bN := (Boxed.new w 9 (.string name)).alloc (.cells #[.int .i64 0] 3)
  have bR := Boxed.new (w.alloc (.cells #[.string name] 9)) 3 (.int .i64 0)
  rw [World.size_alloc] at bR
  have hB2 : Below w.heap.size w w2 := by rw [hw2]; exact ((Below.refl _ w).alloc (Nat.le_refl _) _).alloc (by simp) _
  have hz : w2.heap.size = w.heap.size + 2 := by rw [hw2]; simp
  rw [← hw2] at bN bR
  obtain ⟨B, hBd⟩ : ∃ B, B = w.heap.size := ⟨_, rfl⟩
  rw [← hBd] at bN bR hz hB2 ⊢
  have HX := Lib.hid (And.intro hw2 hBd)
  have hlw : B ≤ w.heap.size := by omega
  have hK2 := hK.kept (by rw [← hBd]; exact hB2)
  clear hw2 hBd
  gi_wp2_with fail
  refine wpIn_rangeW (X := fun _ => False) (encs := encCap) (gf := 63) (lb := #[])
    (fun pre W => ((Boxed W B 9 (.string name) ∧ Boxed W (B + 1) 3 (.int .i64 0)) ∧ Below B w W) ∧ NotIn name pre)
    (fun c pre W => c = .ret ∧ LastIs name B w pre W)
    (fun x => { tmps := #[.string name, .pointer (some ⟨B, 0, none⟩), .pointer (some ⟨B + 1, 0, none⟩), .string x.1, .int .i64 x.2, .func (.func 63) #[] #[], .string x.1, .int .i64 x.2, undef, undef, undef, undef], defers := [] })
    rfl (all_stops 5 (by omega) w2 hK2) (Below.refl _ _) (fun _ h => h.elim) rfl (by omega) trivial (enters_of Tryz.func63 (by kernel_rfl) rfl) (fun _ => rfl)
    (OwnFrom.and (OwnFrom.and (Own.from (fun pre A C row hh hg hr => by
      have ne : ∀ {b : Nat} {t : TypeId} {v : Value}, Boxed A b t v → some b ≠ row := fun {b t v} h e => by
        obtain ⟨o, ho, hc⟩ := hr b e.symm
        rw [show A.heap[b]? = _ from h] at ho; cases ho; cases hc
      exact ⟨hh.1.kept hg (ne hh.1), hh.2.kept hg (ne hh.2)⟩) _) (ownFrom_below (by omega) (by omega))) (ownFrom_pure _ _))
    (fun _ _ _ _ h => h.elim)
    (fun c pre A C row hh hg hr => by
      obtain ⟨rfl, p0, x, e, hx, hn, hb, hB⟩ := hh
      have ne : some (B + 1) ≠ row := fun e => by
        obtain ⟨_, o, ho, hc⟩ := hr _ e.symm
        rw [show A.heap[B + 1]? = _ from hb] at ho; cases ho; cases hc
      exact ⟨rfl, p0, x, e, hx, hn, hb.kept hg ne, hB.grown hg (by have := hb.lt; omega) (fun k e => by have := (hr k e).1; omega)⟩)
    (fun _ _ _ _ _ h => h.elim)
    ⟨⟨⟨bN, bR⟩, hB2⟩, fun x h => by cases h⟩ ?assign ?body ?done ?stop
  case assign =>
    intro l x V K hKK
    gi_wp2
    exact hKK
  case body =>
    rintro l pre ⟨nm, v⟩ W ⟨⟨⟨b1, b2⟩, hB⟩, hN⟩ hlt
    have c1 := b1.cell
    have c2 := b2.cell
    have f2 := b2.frozen
    by_cases h : nm = name
    · have q : (nm.toList == name.toList) = true := by rw [h]; simp
      have H := Lib.hid h
      clear h
      gi_wp2_with fail
      exact ⟨(KeepsOthers.setCell _ _ _).from _, rfl, pre, (nm, v), rfl, H.out, hN, b2.set _, hB.setCell (p := ⟨B + 1, 0, none⟩) (show B ≤ B + 1 by omega) _⟩
    · have q : (nm.toList == name.toList) = false := by rw [beq_ba, beq_eq_false_iff_ne]; exact fun e => h (ba_ext e)
      have H := Lib.hid h
      clear h
      gi_wp2_with fail
      exact ⟨(KeepsOthers.refl _).from _, fun _ hb => hb.elim, ⟨⟨b1, b2⟩, hB⟩, fun x hx => by
        rcases List.mem_append.1 hx with hx | hx
        · exact hN x hx
        · rw [List.mem_singleton.1 hx]; exact H.out⟩
  case done =>
    rintro D xs V hD rfl ⟨⟨⟨b1, b2⟩, hB⟩, hN⟩ hKd
    have c2 := b2.cell
    have f2 := b2.frozen
    have hv := numV_none hN
    have HV := Lib.hid (And.intro hv hKd)
    clear hv hN
    have hK3 : (V.setCell ⟨B + 1, 0, none⟩ (.int .i64 0)).heap[D]? = some (.deferred (some [])) := (KeepsOthers.setCell V ⟨B + 1, 0, none⟩ (.int .i64 0)).same D _ hKd rfl
    have HK3 := Lib.hid hK3
    clear hK3 hKd
    gi_wp2_with fail
    refine ⟨by simp, .inl ⟨_, _, rfl, run_takeDeferred HK3.out, ?_⟩⟩
    have hB3 : Below w.heap.size w (V.setCell ⟨B + 1, 0, none⟩ (.int .i64 0)) := by
      rw [← HX.out.2]; exact hB.setCell (p := ⟨B + 1, 0, none⟩) (show B ≤ B + 1 by omega) _
    exact ⟨_, res_in rfl _ _ (B + 1) _ _ rfl (def_cell HK3.out _ (b2.set (.int .i64 0)).cell) Tryz.underlying3 rfl, by rw [HV.out.1]; rfl, hB3.trans (belowK_b (w := w) (Nat.le_refl _) _ D _ _ (by have := HX.out.2; omega) HK3.out rfl rfl)⟩
  case stop =>
    rintro D c pre V hD ⟨r, hS⟩ ⟨rfl, p0, x, rfl, hx, hn, hb, hB⟩ hKd
    have hv := numV_last hS hx
    have HV := Lib.hid (And.intro hv hKd)
    have cb := hb.cell
    clear hv hx hn hS hKd
    gi_wp2_with fail
    refine ⟨by simp, .inl ⟨_, _, rfl, run_takeDeferred HV.out.2, ?_⟩⟩
    have hB3 : Below w.heap.size w V := by rw [← HX.out.2]; exact hB
    exact ⟨_, res_in rfl _ _ (B + 1) _ _ rfl (def_cell HV.out.2 _ cb) Tryz.underlying3 rfl, by rw [HV.out.1], hB3.trans (belowK_b (w := w) (Nat.le_refl _) _ D _ _ (by have := HX.out.2; omega) HV.out.2 rfl rfl)⟩
end Go.Proofs.YtdikpbldfnkgdaaGreatDoor
end
section
/- Layer 17: User, refused. -/
namespace Go.Proofs.YtdikpbldfnkgdaaGreatDoor
set_option linter.unusedVariables false
set_option linter.unusedSimpArgs false
open Go Go.RowKit

theorem rowed_sg {W W' : World} (h : Rowed W) (hb : RowKit.Below W.heap.size W W') : Rowed W' := fun i hi => by
  obtain ⟨s, h1, h2⟩ := h i hi
  exact ⟨s, (hb.cell (p := ⟨1, i, none⟩) (cell_lt h1)).trans h1, h2⟩
/-- what User makes: the sign, and how many lines -/
def SgUser (k : Int) (t : Bool) (p n u r : ByteArray) (d : Bool) (w : World) (e : Ending) (w' : World) : Prop :=
  (∃ u2 r2 A c m, e = .returned (.tuple #[sgn k t p n u2 r2 d, .slice A m c]) ∧ ((m = 1 ∧ u2 = u ∧ r2 = r) ∨ (m = 0 ∧ d = false))) ∧ RowKit.Below w.heap.size w w'
set_option maxRecDepth 100000 in
set_option maxHeartbeats 8000000 in
theorem user_done (server : List UInt8) (k : Int) (t : Bool) (p u r : ByteArray) (nn : List UInt8) (A : Option Addr) (c : Nat) (ps : List (List UInt8)) (w : World) (hm : Mx w) (hp : PowW w) (h3 : server.length ≤ 1000) (h4 : nn.length ≤ 1000) :
    Calls Tryz.prog 7 #[.string (bs server), sgn k t p (bs nn) u r true, .slice A ps.length c] w (SgUser k t p (bs nn) u r true w) := by
  obtain ⟨N, hN⟩ : ∃ N, w.heap.size = N := ⟨_, rfl⟩
  obtain ⟨n, hnn⟩ : ∃ n, bs nn = n := ⟨_, rfl⟩
  obtain ⟨W0, hW0⟩ : ∃ W0, ((w.alloc (.cells (sgC k t p n u r true) 23)).alloc (.cells (sgC 0 false ⟨#[]⟩ ⟨#[]⟩ ⟨#[]⟩ ⟨#[]⟩ false) 23)) = W0 := ⟨_, rfl⟩
  have b0 : RowKit.Below w.heap.size w W0 := by rw [← hW0]; exact ((Below.refl _ w).alloc (Nat.le_refl _) _).alloc (by simp) _
  have k0 : W0.heap[N]? = some (.cells (sgC k t p n u r true) 23 (0, 0)) := by rw [← hW0, ← hN]; exact blk_alloc (heap_alloc_new w _) _
  have k1 : W0.heap[N + 1]? = some (.cells (sgC 0 false ⟨#[]⟩ ⟨#[]⟩ ⟨#[]⟩ ⟨#[]⟩ false) 23 (0, 0)) := by rw [← hW0, ← hN]; exact heap_alloc2_new w _ _
  have b0d : RowKit.Below w.heap.size w W0.drew := b0.trans (((Fr.refl (fun _ => False) W0).drew).below b0.size fun _ _ e => e.elim)
  have hT := told_any server nn 462 none 0 [] W0.drew (fun h => by simp at h) (mx_kept hm b0d (Nat.le_refl _)) (PowW.below hp b0d) (by decide) (by decide) (by simp) (by omega) (by omega) (by simp)
  obtain ⟨tx, htx⟩ : ∃ tx, toldL server nn 462 [] = tx := ⟨_, rfl⟩
  rw [htx, hnn] at hT
  have hT2 : Calls Tryz.prog 10 #[.string (bs server), .int .i64 462, .string n, .slice none 0 0] W0.drew fun e w1 => e = .returned (.string (bs tx)) ∧ Hid (Fr (fun _ => False) W0.drew w1) := hT.mono fun e w1 ⟨h1, h2⟩ => ⟨h1, Fr.of_below (h2.mono (Nat.le_refl _))⟩
  have HT := Lib.hid hT2
  have H := Lib.hid (And.intro b0 (And.intro k0 (And.intro k1 hN)))
  have HW := Lib.hid hW0
  rw [hnn]
  clear hm hp hT hT2 htx b0 b0d k0 k1 hW0 hnn hN
  obtain ⟨c0, c1, c2, c3, c4, c5, c6⟩ := box7_blk H.out.2.1
  unfold sgn
  go_enter Tryz.func7, Tryz.ntmps7
  have hW0 := HW.out
  have hN := H.out.2.2.2
  unfold sgC at hW0
  go_wp2_with fail
  clear hW0 hN c0 c1 c2 c3 c4 c5 c6
  have hS0 : W0.drew.heap[N]? = some (.cells (sgC k t p n u r true) 23 (0, 0)) := H.out.2.1
  have hX : W0.drew.heap[N + 1]? = some (.cells (sgC 0 false ⟨#[]⟩ ⟨#[]⟩ ⟨#[]⟩ ⟨#[]⟩ false) 23 (0, 0)) := H.out.2.2.1
  have hF : Fr (fun k => k = N + 1) W0 W0.drew := (Fr.refl _ _).drew
  refine wp_region_held_drew (S := fun V => V.heap[N]? = some (.cells (sgC k t p n u r true) 23 (0, 0))) (by kernel_rfl) (by exact hS0) (fun hHeld => ?_)
  refine wpAnyH_read (i := 1) (oi := { dst := some 12, op := Go.Op.move (Go.Operand.tmp 0), type := 9, pos := "sign.go:80", after := #[], guard := none }) ?_ rfl (by kernel_rfl) (by kernel_rfl) (by kernel_rfl) (fun _ _ _ h => h) (by rfl) (by exact hHeld) ?_ ?_
  rotate_left
  · (intro w0 hS0; have s0 := blk_cell hS0 0; have s1 := blk_cell hS0 1; have s2 := blk_cell hS0 2; have s3 := blk_cell hS0 3; have s4 := blk_cell hS0 4; have s5 := blk_cell hS0 5; have s6 := blk_cell hS0 6; go_simp <;> (try with_reducible rfl))
  try simp only [Act.put, List.setIfInBounds_toArray, List.set_cons_zero, List.set_cons_succ]
  refine wpAnyH_read (i := 2) (oi := { dst := some 13, op := Go.Op.fieldAddr 23 (Go.Operand.tmp 4) 3, type := 0, pos := "sign.go:80", after := #[], guard := none }) ?_ rfl (by kernel_rfl) (by kernel_rfl) (by kernel_rfl) (fun _ _ _ h => h) (by rfl) (by exact hHeld) ?_ ?_
  rotate_left
  · (intro w0 hS0; have s0 := blk_cell hS0 0; have s1 := blk_cell hS0 1; have s2 := blk_cell hS0 2; have s3 := blk_cell hS0 3; have s4 := blk_cell hS0 4; have s5 := blk_cell hS0 5; have s6 := blk_cell hS0 6; go_simp <;> (try with_reducible rfl))
  try simp only [Act.put, List.setIfInBounds_toArray, List.set_cons_zero, List.set_cons_succ]
  refine wpAnyH_read (i := 0) (oi := { dst := some 11, op := Go.Op.load 23 (Go.Operand.tmp 4), type := 23, pos := "sign.go:80", after := #[], guard := none }) ?_ rfl (by kernel_rfl) (by kernel_rfl) (by kernel_rfl) (fun _ _ _ h => h) (by rfl) (by exact hHeld) ?_ ?_
  rotate_left
  · (intro w0 hS0; have s0 := blk_cell hS0 0; have s1 := blk_cell hS0 1; have s2 := blk_cell hS0 2; have s3 := blk_cell hS0 3; have s4 := blk_cell hS0 4; have s5 := blk_cell hS0 5; have s6 := blk_cell hS0 6; go_simp <;> (try with_reducible rfl))
  try simp only [Act.put, List.setIfInBounds_toArray, List.set_cons_zero, List.set_cons_succ]
  refine wpAnyH_read (i := 3) (oi := { dst := some 14, op := Go.Op.load 9 (Go.Operand.tmp 13), type := 9, pos := "sign.go:80", after := #[{ on := 2, ground := Go.Ground.data }], guard := none }) ?_ rfl (by kernel_rfl) (by kernel_rfl) (by kernel_rfl) (fun _ _ _ h => h) (by rfl) (by exact hHeld) ?_ ?_
  rotate_left
  · (intro w0 hS0; have s0 := blk_cell hS0 0; have s1 := blk_cell hS0 1; have s2 := blk_cell hS0 2; have s3 := blk_cell hS0 3; have s4 := blk_cell hS0 4; have s5 := blk_cell hS0 5; have s6 := blk_cell hS0 6; go_simp <;> (try with_reducible rfl))
  try simp only [Act.put, List.setIfInBounds_toArray, List.set_cons_zero, List.set_cons_succ]
  refine wpAnyH_one (i := 4) (o := { dst := some 15, op := Go.Op.call { callee := Go.Callee.value (Go.Operand.func 10), args := #[Go.Operand.tmp 12, Go.Operand.const (Go.Value.int Go.IntKind.i64 462), Go.Operand.tmp 14, Go.Operand.const (Go.Value.slice none 0 0)], argTypes := #[9, 3, 9, 24] }, type := 9, pos := "sign.go:80", after := #[{ on := 1, ground := Go.Ground.data }, { on := 3, ground := Go.Ground.data }], guard := none }) (by kernel_rfl) rfl (by rfl) (fun K hK => ?_)
  go_simp
  refine HT.out.mono ?_
  rintro e w1 ⟨rfl, HX⟩
  refine hK.out _ _ ?_ (fun hHeld => ?_)
  · exact HX.out.blk hS0 fun e => e
  clear hK K
  try simp only [Act.put, List.setIfInBounds_toArray, List.set_cons_zero, List.set_cons_succ]
  have hS0 := hHeld
  have hX := HX.out.blk hX fun e => e
  have hF := (hF.mono (Y := fun k => k = N + 1) fun _ _ e => e).trans3 HX.out fun _ _ e => e.elim
  have q0 := blk_cell hX 0; have q1 := blk_cell hX 1; have q2 := blk_cell hX 2; have q3 := blk_cell hX 3; have q4 := blk_cell hX 4; have q5 := blk_cell hX 5; have q6 := blk_cell hX 6; have f0 := blk_free hX 0; have f1 := blk_free hX 1; have f2 := blk_free hX 2; have f3 := blk_free hX 3; have f4 := blk_free hX 4; have f5 := blk_free hX 5; have f6 := blk_free hX 6
  refine wpAnyH_two (i := 5) (j := 6) (o := { dst := some 16, op := Go.Op.buildSlice 24 1 #[(0, Go.Operand.tmp 15)], type := 24, pos := "sign.go:80", after := #[{ on := 4, ground := Go.Ground.data }, { on := 6, ground := Go.Ground.gcOnly Go.Departure.lateStores }], guard := none }) (o2 := { dst := none, op := Go.Op.store 23 (Go.Operand.tmp 6) (Go.Operand.tmp 11), type := 0, pos := "sign.go:80", after := #[{ on := 0, ground := Go.Ground.data }, { on := 4, ground := Go.Ground.chain }, { on := 0, ground := Go.Ground.phase }, { on := 1, ground := Go.Ground.textOnly Go.Departure.lateStores }, { on := 2, ground := Go.Ground.textOnly Go.Departure.lateStores }, { on := 3, ground := Go.Ground.textOnly Go.Departure.lateStores }, { on := 4, ground := Go.Ground.textOnly Go.Departure.lateStoresUnsure }, { on := 5, ground := Go.Ground.textOnly Go.Departure.lateStores }], guard := none }) (by kernel_rfl) rfl rfl (by rfl) (by rfl) (fun K hK => ?_) (fun K hK => ?_)
  · go_simp
    refine hK.out _ _ ?_ (fun hHeld => ?_)
    · exact blk_alloc hS0 _
    clear hK K
    try simp only [Act.put, List.setIfInBounds_toArray, List.set_cons_zero, List.set_cons_succ]
    have hS0 := hHeld
    have hX := blk_alloc hX (Obj.cells #[Value.string (bs tx)] 9)
    have hF := hF.alloc (Obj.cells #[Value.string (bs tx)] 9)
    clear q0 q1 q2 q3 q4 q5 q6 f0 f1 f2 f3 f4 f5 f6
    have q0 := blk_cell hX 0; have q1 := blk_cell hX 1; have q2 := blk_cell hX 2; have q3 := blk_cell hX 3; have q4 := blk_cell hX 4; have q5 := blk_cell hX 5; have q6 := blk_cell hX 6; have f0 := blk_free hX 0; have f1 := blk_free hX 1; have f2 := blk_free hX 2; have f3 := blk_free hX 3; have f4 := blk_free hX 4; have f5 := blk_free hX 5; have f6 := blk_free hX 6
    refine wpAnyH_one (i := 6) (o := { dst := none, op := Go.Op.store 23 (Go.Operand.tmp 6) (Go.Operand.tmp 11), type := 0, pos := "sign.go:80", after := #[{ on := 0, ground := Go.Ground.data }, { on := 4, ground := Go.Ground.chain }, { on := 0, ground := Go.Ground.phase }, { on := 1, ground := Go.Ground.textOnly Go.Departure.lateStores }, { on := 2, ground := Go.Ground.textOnly Go.Departure.lateStores }, { on := 3, ground := Go.Ground.textOnly Go.Departure.lateStores }, { on := 4, ground := Go.Ground.textOnly Go.Departure.lateStoresUnsure }, { on := 5, ground := Go.Ground.textOnly Go.Departure.lateStores }], guard := none }) (by kernel_rfl) rfl (by rfl) (fun K hK => ?_)
    go_simp
    refine hK.out _ _ ?_ (fun hHeld => ?_)
    · exact set7_oth hS0 (by omega)
    clear hK K
    try simp only [Act.put, List.setIfInBounds_toArray, List.set_cons_zero, List.set_cons_succ]
    have hS0 := hHeld
    have hX := set7 (v0 := .int .i64 k) (v1 := .bool t) (v2 := .string p) (v3 := .string n) (v4 := .string u) (v5 := .string r) (v6 := .bool true) hX
    have hF := set7_fr (v0 := .int .i64 k) (v1 := .bool t) (v2 := .string p) (v3 := .string n) (v4 := .string u) (v5 := .string r) (v6 := .bool true) hF rfl
    clear q0 q1 q2 q3 q4 q5 q6 f0 f1 f2 f3 f4 f5 f6
    have q0 := blk_cell hX 0; have q1 := blk_cell hX 1; have q2 := blk_cell hX 2; have q3 := blk_cell hX 3; have q4 := blk_cell hX 4; have q5 := blk_cell hX 5; have q6 := blk_cell hX 6; have f0 := blk_free hX 0; have f1 := blk_free hX 1; have f2 := blk_free hX 2; have f3 := blk_free hX 3; have f4 := blk_free hX 4; have f5 := blk_free hX 5; have f6 := blk_free hX 6
    refine wpAnyH_read (i := 7) (oi := { dst := some 7, op := Go.Op.assign (Go.Operand.tmp 16), type := 24, pos := "sign.go:80", after := #[{ on := 5, ground := Go.Ground.data }, { on := 6, ground := Go.Ground.chain }, { on := 0, ground := Go.Ground.phase }, { on := 1, ground := Go.Ground.phase }, { on := 2, ground := Go.Ground.phase }, { on := 3, ground := Go.Ground.phase }, { on := 4, ground := Go.Ground.phase }, { on := 5, ground := Go.Ground.phase }, { on := 6, ground := Go.Ground.phase }], guard := none }) ?_ rfl (by kernel_rfl) (by kernel_rfl) (by kernel_rfl) (fun _ _ _ h => h) (by rfl) (by exact hHeld) ?_ ?_
    rotate_left
    · (intro w0 hS0; have s0 := blk_cell hS0 0; have s1 := blk_cell hS0 1; have s2 := blk_cell hS0 2; have s3 := blk_cell hS0 3; have s4 := blk_cell hS0 4; have s5 := blk_cell hS0 5; have s6 := blk_cell hS0 6; go_simp <;> (try with_reducible rfl))
    try simp only [Act.put, List.setIfInBounds_toArray, List.set_cons_zero, List.set_cons_succ]
    refine wpAnyH_done (by kernel_rfl) ?_ _
    go_wp2_with fail
    refine bodyPost_ret (res_seven rfl rfl (Tryz.isAgg23 _) (Tryz.sizeOf23 _) hX) rfl ⟨⟨u, r, _, _, _, rfl, .inl ⟨rfl, rfl, rfl⟩⟩, ?_⟩
    exact H.out.1.trans (hF.below H.out.1.size fun k hk e => by have := H.out.2.2.2; omega)
  · go_simp
    refine hK.out _ _ ?_ (fun hHeld => ?_)
    · exact set7_oth hS0 (by omega)
    clear hK K
    try simp only [Act.put, List.setIfInBounds_toArray, List.set_cons_zero, List.set_cons_succ]
    have hS0 := hHeld
    have hX := set7 (v0 := .int .i64 k) (v1 := .bool t) (v2 := .string p) (v3 := .string n) (v4 := .string u) (v5 := .string r) (v6 := .bool true) hX
    have hF := set7_fr (v0 := .int .i64 k) (v1 := .bool t) (v2 := .string p) (v3 := .string n) (v4 := .string u) (v5 := .string r) (v6 := .bool true) hF rfl
    clear q0 q1 q2 q3 q4 q5 q6 f0 f1 f2 f3 f4 f5 f6
    have q0 := blk_cell hX 0; have q1 := blk_cell hX 1; have q2 := blk_cell hX 2; have q3 := blk_cell hX 3; have q4 := blk_cell hX 4; have q5 := blk_cell hX 5; have q6 := blk_cell hX 6; have f0 := blk_free hX 0; have f1 := blk_free hX 1; have f2 := blk_free hX 2; have f3 := blk_free hX 3; have f4 := blk_free hX 4; have f5 := blk_free hX 5; have f6 := blk_free hX 6
    refine wpAnyH_one (i := 5) (o := { dst := some 16, op := Go.Op.buildSlice 24 1 #[(0, Go.Operand.tmp 15)], type := 24, pos := "sign.go:80", after := #[{ on := 4, ground := Go.Ground.data }, { on := 6, ground := Go.Ground.gcOnly Go.Departure.lateStores }], guard := none }) (by kernel_rfl) rfl (by rfl) (fun K hK => ?_)
    go_simp
    refine hK.out _ _ ?_ (fun hHeld => ?_)
    · exact blk_alloc hS0 _
    clear hK K
    try simp only [Act.put, List.setIfInBounds_toArray, List.set_cons_zero, List.set_cons_succ]
    have hS0 := hHeld
    have hX := blk_alloc hX (Obj.cells #[Value.string (bs tx)] 9)
    have hF := hF.alloc (Obj.cells #[Value.string (bs tx)] 9)
    clear q0 q1 q2 q3 q4 q5 q6 f0 f1 f2 f3 f4 f5 f6
    have q0 := blk_cell hX 0; have q1 := blk_cell hX 1; have q2 := blk_cell hX 2; have q3 := blk_cell hX 3; have q4 := blk_cell hX 4; have q5 := blk_cell hX 5; have q6 := blk_cell hX 6; have f0 := blk_free hX 0; have f1 := blk_free hX 1; have f2 := blk_free hX 2; have f3 := blk_free hX 3; have f4 := blk_free hX 4; have f5 := blk_free hX 5; have f6 := blk_free hX 6
    refine wpAnyH_read (i := 7) (oi := { dst := some 7, op := Go.Op.assign (Go.Operand.tmp 16), type := 24, pos := "sign.go:80", after := #[{ on := 5, ground := Go.Ground.data }, { on := 6, ground := Go.Ground.chain }, { on := 0, ground := Go.Ground.phase }, { on := 1, ground := Go.Ground.phase }, { on := 2, ground := Go.Ground.phase }, { on := 3, ground := Go.Ground.phase }, { on := 4, ground := Go.Ground.phase }, { on := 5, ground := Go.Ground.phase }, { on := 6, ground := Go.Ground.phase }], guard := none }) ?_ rfl (by kernel_rfl) (by kernel_rfl) (by kernel_rfl) (fun _ _ _ h => h) (by rfl) (by exact hHeld) ?_ ?_
    rotate_left
    · (intro w0 hS0; have s0 := blk_cell hS0 0; have s1 := blk_cell hS0 1; have s2 := blk_cell hS0 2; have s3 := blk_cell hS0 3; have s4 := blk_cell hS0 4; have s5 := blk_cell hS0 5; have s6 := blk_cell hS0 6; go_simp <;> (try with_reducible rfl))
    try simp only [Act.put, List.setIfInBounds_toArray, List.set_cons_zero, List.set_cons_succ]
    refine wpAnyH_done (by kernel_rfl) ?_ _
    go_wp2_with fail
    refine bodyPost_ret (res_seven rfl rfl (Tryz.isAgg23 _) (Tryz.sizeOf23 _) hX) rfl ⟨⟨u, r, _, _, _, rfl, .inl ⟨rfl, rfl, rfl⟩⟩, ?_⟩
    exact H.out.1.trans (hF.below H.out.1.size fun k hk e => by have := H.out.2.2.2; omega)
set_option maxRecDepth 100000 in
set_option maxHeartbeats 8000000 in
theorem user_few (server : List UInt8) (k : Int) (t : Bool) (p u r : ByteArray) (nn : List UInt8) (A : Option Addr) (m c : Nat) (hm4 : m < 4) (w : World) (hm : Mx w) (hp : PowW w) (h3 : server.length ≤ 1000) (h4 : nn.length ≤ 1000) :
    Calls Tryz.prog 7 #[.string (bs server), sgn k t p (bs nn) u r false, .slice A m c] w (SgUser k t p (bs nn) u r false w) := by
  obtain ⟨N, hN⟩ : ∃ N, w.heap.size = N := ⟨_, rfl⟩
  obtain ⟨n, hnn⟩ : ∃ n, bs nn = n := ⟨_, rfl⟩
  obtain ⟨W0, hW0⟩ : ∃ W0, ((w.alloc (.cells (sgC k t p n u r false) 23)).alloc (.cells (sgC 0 false ⟨#[]⟩ ⟨#[]⟩ ⟨#[]⟩ ⟨#[]⟩ false) 23)) = W0 := ⟨_, rfl⟩
  have b0 : RowKit.Below w.heap.size w W0 := by rw [← hW0]; exact ((Below.refl _ w).alloc (Nat.le_refl _) _).alloc (by simp) _
  have k0 : W0.heap[N]? = some (.cells (sgC k t p n u r false) 23 (0, 0)) := by rw [← hW0, ← hN]; exact blk_alloc (heap_alloc_new w _) _
  have k1 : W0.heap[N + 1]? = some (.cells (sgC 0 false ⟨#[]⟩ ⟨#[]⟩ ⟨#[]⟩ ⟨#[]⟩ false) 23 (0, 0)) := by rw [← hW0, ← hN]; exact heap_alloc2_new w _ _
  have b0d : RowKit.Below w.heap.size w W0.drew := b0.trans (((Fr.refl (fun _ => False) W0).drew).below b0.size fun _ _ e => e.elim)
  have b1 : RowKit.Below w.heap.size w (W0.drew.alloc (.cells #[.string ⟨#[85, 83, 69, 82]⟩] 9)) := b0d.alloc b0d.size _
  have hr1 : ReadsT (W0.drew.alloc (.cells #[.string ⟨#[85, 83, 69, 82]⟩] 9)) (some ⟨W0.drew.heap.size, 0, none⟩) [#[85, 83, 69, 82].toList] := fun _ => ⟨_, _, rfl, by simp, fun j hj => by
    obtain rfl : j = 0 := by simpa using hj
    exact blk_cell (heap_alloc_new W0.drew _) 0⟩
  have hT := told_any server nn 461 (some ⟨W0.drew.heap.size, 0, none⟩) 1 [#[85, 83, 69, 82].toList] (W0.drew.alloc (.cells #[.string ⟨#[85, 83, 69, 82]⟩] 9)) hr1 (mx_kept hm b1 (Nat.le_refl _)) (PowW.below hp b1) (by decide) (by decide) (by simp) (by omega) (by omega) (by decide)
  obtain ⟨tx, htx⟩ : ∃ tx, toldL server nn 461 [#[85, 83, 69, 82].toList] = tx := ⟨_, rfl⟩
  rw [htx, hnn] at hT
  have hT2 : Calls Tryz.prog 10 #[.string (bs server), .int .i64 461, .string n, .slice (some ⟨W0.drew.heap.size, 0, none⟩) 1 1] (W0.drew.alloc (.cells #[.string ⟨#[85, 83, 69, 82]⟩] 9)) fun e w1 => e = .returned (.string (bs tx)) ∧ Hid (Fr (fun _ => False) (W0.drew.alloc (.cells #[.string ⟨#[85, 83, 69, 82]⟩] 9)) w1) := hT.mono fun e w1 ⟨h1, h2⟩ => ⟨h1, Fr.of_below (h2.mono (Nat.le_refl _))⟩
  have HT := Lib.hid hT2
  have H := Lib.hid (And.intro b0 (And.intro k0 (And.intro k1 hN)))
  have HW := Lib.hid hW0
  rw [hnn]
  clear hm hp hT hT2 htx b0 b0d k0 k1 hW0 hnn hN b1 hr1
  obtain ⟨c0, c1, c2, c3, c4, c5, c6⟩ := box7_blk H.out.2.1
  unfold sgn
  go_enter Tryz.func7, Tryz.ntmps7
  have hW0 := HW.out
  have hN := H.out.2.2.2
  unfold sgC at hW0
  go_wp2_with fail
  clear hW0 hN c0 c1 c2 c3 c4 c5 c6
  have hS0 : W0.drew.heap[N]? = some (.cells (sgC k t p n u r false) 23 (0, 0)) := H.out.2.1
  have hX : W0.drew.heap[N + 1]? = some (.cells (sgC 0 false ⟨#[]⟩ ⟨#[]⟩ ⟨#[]⟩ ⟨#[]⟩ false) 23 (0, 0)) := H.out.2.2.1
  have hF : Fr (fun k => k = N + 1) W0 W0.drew := (Fr.refl _ _).drew
  refine wp_region_held_drew (S := fun V => V.heap[N]? = some (.cells (sgC k t p n u r false) 23 (0, 0))) (by kernel_rfl) (by exact hS0) (fun hHeld => ?_)
  refine wpAnyH_read (i := 1) (oi := { dst := some 22, op := Go.Op.move (Go.Operand.tmp 0), type := 9, pos := "sign.go:82", after := #[], guard := none }) ?_ rfl (by kernel_rfl) (by kernel_rfl) (by kernel_rfl) (fun _ _ _ h => h) (by rfl) (by exact hHeld) ?_ ?_
  rotate_left
  · (intro w0 hS0; have s0 := blk_cell hS0 0; have s1 := blk_cell hS0 1; have s2 := blk_cell hS0 2; have s3 := blk_cell hS0 3; have s4 := blk_cell hS0 4; have s5 := blk_cell hS0 5; have s6 := blk_cell hS0 6; go_simp <;> (try with_reducible rfl))
  try simp only [Act.put, List.setIfInBounds_toArray, List.set_cons_zero, List.set_cons_succ]
  refine wpAnyH_read (i := 2) (oi := { dst := some 23, op := Go.Op.fieldAddr 23 (Go.Operand.tmp 4) 3, type := 0, pos := "sign.go:82", after := #[], guard := none }) ?_ rfl (by kernel_rfl) (by kernel_rfl) (by kernel_rfl) (fun _ _ _ h => h) (by rfl) (by exact hHeld) ?_ ?_
  rotate_left
  · (intro w0 hS0; have s0 := blk_cell hS0 0; have s1 := blk_cell hS0 1; have s2 := blk_cell hS0 2; have s3 := blk_cell hS0 3; have s4 := blk_cell hS0 4; have s5 := blk_cell hS0 5; have s6 := blk_cell hS0 6; go_simp <;> (try with_reducible rfl))
  try simp only [Act.put, List.setIfInBounds_toArray, List.set_cons_zero, List.set_cons_succ]
  refine wpAnyH_read (i := 0) (oi := { dst := some 21, op := Go.Op.load 23 (Go.Operand.tmp 4), type := 23, pos := "sign.go:82", after := #[], guard := none }) ?_ rfl (by kernel_rfl) (by kernel_rfl) (by kernel_rfl) (fun _ _ _ h => h) (by rfl) (by exact hHeld) ?_ ?_
  rotate_left
  · (intro w0 hS0; have s0 := blk_cell hS0 0; have s1 := blk_cell hS0 1; have s2 := blk_cell hS0 2; have s3 := blk_cell hS0 3; have s4 := blk_cell hS0 4; have s5 := blk_cell hS0 5; have s6 := blk_cell hS0 6; go_simp <;> (try with_reducible rfl))
  try simp only [Act.put, List.setIfInBounds_toArray, List.set_cons_zero, List.set_cons_succ]
  refine wpAnyH_read (i := 3) (oi := { dst := some 24, op := Go.Op.load 9 (Go.Operand.tmp 23), type := 9, pos := "sign.go:82", after := #[{ on := 2, ground := Go.Ground.data }], guard := none }) ?_ rfl (by kernel_rfl) (by kernel_rfl) (by kernel_rfl) (fun _ _ _ h => h) (by rfl) (by exact hHeld) ?_ ?_
  rotate_left
  · (intro w0 hS0; have s0 := blk_cell hS0 0; have s1 := blk_cell hS0 1; have s2 := blk_cell hS0 2; have s3 := blk_cell hS0 3; have s4 := blk_cell hS0 4; have s5 := blk_cell hS0 5; have s6 := blk_cell hS0 6; go_simp <;> (try with_reducible rfl))
  try simp only [Act.put, List.setIfInBounds_toArray, List.set_cons_zero, List.set_cons_succ]
  refine wpAnyH_one (i := 4) (o := { dst := some 25, op := Go.Op.buildSlice 24 1 #[(0, Go.Operand.const (Go.Value.string { data := #[85, 83, 69, 82] }))], type := 24, pos := "sign.go:82", after := #[], guard := none }) (by kernel_rfl) rfl (by rfl) (fun K hK => ?_)
  go_simp
  refine hK.out _ _ ?_ (fun hHeld => ?_)
  · exact blk_alloc hS0 _
  clear hK K
  try simp only [Act.put, List.setIfInBounds_toArray, List.set_cons_zero, List.set_cons_succ]
  have hS0 := hHeld
  have hX := blk_alloc hX (Obj.cells #[Value.string ⟨#[85, 83, 69, 82]⟩] 9)
  have hF := hF.alloc (Obj.cells #[Value.string ⟨#[85, 83, 69, 82]⟩] 9)
  refine wpAnyH_one (i := 5) (o := { dst := some 26, op := Go.Op.call { callee := Go.Callee.value (Go.Operand.func 10), args := #[Go.Operand.tmp 22, Go.Operand.const (Go.Value.int Go.IntKind.i64 461), Go.Operand.tmp 24, Go.Operand.tmp 25], argTypes := #[9, 3, 9, 24] }, type := 9, pos := "sign.go:82", after := #[{ on := 1, ground := Go.Ground.data }, { on := 3, ground := Go.Ground.data }, { on := 4, ground := Go.Ground.data }], guard := none }) (by kernel_rfl) rfl (by rfl) (fun K hK => ?_)
  go_simp
  refine HT.out.mono ?_
  rintro e w1 ⟨rfl, HX⟩
  refine hK.out _ _ ?_ (fun hHeld => ?_)
  · exact HX.out.blk hS0 fun e => e
  clear hK K
  try simp only [Act.put, List.setIfInBounds_toArray, List.set_cons_zero, List.set_cons_succ]
  have hS0 := hHeld
  have hX := HX.out.blk hX fun e => e
  have hF := (hF.mono (Y := fun k => k = N + 1) fun _ _ e => e).trans3 HX.out fun _ _ e => e.elim
  have q0 := blk_cell hX 0; have q1 := blk_cell hX 1; have q2 := blk_cell hX 2; have q3 := blk_cell hX 3; have q4 := blk_cell hX 4; have q5 := blk_cell hX 5; have q6 := blk_cell hX 6; have f0 := blk_free hX 0; have f1 := blk_free hX 1; have f2 := blk_free hX 2; have f3 := blk_free hX 3; have f4 := blk_free hX 4; have f5 := blk_free hX 5; have f6 := blk_free hX 6
  refine wpAnyH_two (i := 6) (j := 7) (o := { dst := some 27, op := Go.Op.buildSlice 24 1 #[(0, Go.Operand.tmp 26)], type := 24, pos := "sign.go:82", after := #[{ on := 5, ground := Go.Ground.data }, { on := 7, ground := Go.Ground.gcOnly Go.Departure.lateStores }], guard := none }) (o2 := { dst := none, op := Go.Op.store 23 (Go.Operand.tmp 6) (Go.Operand.tmp 21), type := 0, pos := "sign.go:82", after := #[{ on := 0, ground := Go.Ground.data }, { on := 5, ground := Go.Ground.chain }, { on := 0, ground := Go.Ground.phase }, { on := 1, ground := Go.Ground.textOnly Go.Departure.lateStores }, { on := 2, ground := Go.Ground.textOnly Go.Departure.lateStores }, { on := 3, ground := Go.Ground.textOnly Go.Departure.lateStores }, { on := 4, ground := Go.Ground.textOnly Go.Departure.lateStores }, { on := 5, ground := Go.Ground.textOnly Go.Departure.lateStoresUnsure }, { on := 6, ground := Go.Ground.textOnly Go.Departure.lateStores }], guard := none }) (by kernel_rfl) rfl rfl (by rfl) (by rfl) (fun K hK => ?_) (fun K hK => ?_)
  · go_simp
    refine hK.out _ _ ?_ (fun hHeld => ?_)
    · exact blk_alloc hS0 _
    clear hK K
    try simp only [Act.put, List.setIfInBounds_toArray, List.set_cons_zero, List.set_cons_succ]
    have hS0 := hHeld
    have hX := blk_alloc hX (Obj.cells #[Value.string (bs tx)] 9)
    have hF := hF.alloc (Obj.cells #[Value.string (bs tx)] 9)
    clear q0 q1 q2 q3 q4 q5 q6 f0 f1 f2 f3 f4 f5 f6
    have q0 := blk_cell hX 0; have q1 := blk_cell hX 1; have q2 := blk_cell hX 2; have q3 := blk_cell hX 3; have q4 := blk_cell hX 4; have q5 := blk_cell hX 5; have q6 := blk_cell hX 6; have f0 := blk_free hX 0; have f1 := blk_free hX 1; have f2 := blk_free hX 2; have f3 := blk_free hX 3; have f4 := blk_free hX 4; have f5 := blk_free hX 5; have f6 := blk_free hX 6
    refine wpAnyH_one (i := 7) (o := { dst := none, op := Go.Op.store 23 (Go.Operand.tmp 6) (Go.Operand.tmp 21), type := 0, pos := "sign.go:82", after := #[{ on := 0, ground := Go.Ground.data }, { on := 5, ground := Go.Ground.chain }, { on := 0, ground := Go.Ground.phase }, { on := 1, ground := Go.Ground.textOnly Go.Departure.lateStores }, { on := 2, ground := Go.Ground.textOnly Go.Departure.lateStores }, { on := 3, ground := Go.Ground.textOnly Go.Departure.lateStores }, { on := 4, ground := Go.Ground.textOnly Go.Departure.lateStores }, { on := 5, ground := Go.Ground.textOnly Go.Departure.lateStoresUnsure }, { on := 6, ground := Go.Ground.textOnly Go.Departure.lateStores }], guard := none }) (by kernel_rfl) rfl (by rfl) (fun K hK => ?_)
    go_simp
    refine hK.out _ _ ?_ (fun hHeld => ?_)
    · exact set7_oth hS0 (by omega)
    clear hK K
    try simp only [Act.put, List.setIfInBounds_toArray, List.set_cons_zero, List.set_cons_succ]
    have hS0 := hHeld
    have hX := set7 (v0 := .int .i64 k) (v1 := .bool t) (v2 := .string p) (v3 := .string n) (v4 := .string u) (v5 := .string r) (v6 := .bool false) hX
    have hF := set7_fr (v0 := .int .i64 k) (v1 := .bool t) (v2 := .string p) (v3 := .string n) (v4 := .string u) (v5 := .string r) (v6 := .bool false) hF rfl
    clear q0 q1 q2 q3 q4 q5 q6 f0 f1 f2 f3 f4 f5 f6
    have q0 := blk_cell hX 0; have q1 := blk_cell hX 1; have q2 := blk_cell hX 2; have q3 := blk_cell hX 3; have q4 := blk_cell hX 4; have q5 := blk_cell hX 5; have q6 := blk_cell hX 6; have f0 := blk_free hX 0; have f1 := blk_free hX 1; have f2 := blk_free hX 2; have f3 := blk_free hX 3; have f4 := blk_free hX 4; have f5 := blk_free hX 5; have f6 := blk_free hX 6
    refine wpAnyH_read (i := 8) (oi := { dst := some 7, op := Go.Op.assign (Go.Operand.tmp 27), type := 24, pos := "sign.go:82", after := #[{ on := 6, ground := Go.Ground.data }, { on := 7, ground := Go.Ground.chain }, { on := 0, ground := Go.Ground.phase }, { on := 1, ground := Go.Ground.phase }, { on := 2, ground := Go.Ground.phase }, { on := 3, ground := Go.Ground.phase }, { on := 4, ground := Go.Ground.phase }, { on := 5, ground := Go.Ground.phase }, { on := 6, ground := Go.Ground.phase }, { on := 7, ground := Go.Ground.phase }], guard := none }) ?_ rfl (by kernel_rfl) (by kernel_rfl) (by kernel_rfl) (fun _ _ _ h => h) (by rfl) (by exact hHeld) ?_ ?_
    rotate_left
    · (intro w0 hS0; have s0 := blk_cell hS0 0; have s1 := blk_cell hS0 1; have s2 := blk_cell hS0 2; have s3 := blk_cell hS0 3; have s4 := blk_cell hS0 4; have s5 := blk_cell hS0 5; have s6 := blk_cell hS0 6; go_simp <;> (try with_reducible rfl))
    try simp only [Act.put, List.setIfInBounds_toArray, List.set_cons_zero, List.set_cons_succ]
    refine wpAnyH_done (by kernel_rfl) ?_ _
    go_wp2_with fail
    refine bodyPost_ret (res_seven rfl rfl (Tryz.isAgg23 _) (Tryz.sizeOf23 _) hX) rfl ⟨⟨u, r, _, _, _, rfl, .inl ⟨rfl, rfl, rfl⟩⟩, ?_⟩
    exact H.out.1.trans (hF.below H.out.1.size fun k hk e => by have := H.out.2.2.2; omega)
  · go_simp
    refine hK.out _ _ ?_ (fun hHeld => ?_)
    · exact set7_oth hS0 (by omega)
    clear hK K
    try simp only [Act.put, List.setIfInBounds_toArray, List.set_cons_zero, List.set_cons_succ]
    have hS0 := hHeld
    have hX := set7 (v0 := .int .i64 k) (v1 := .bool t) (v2 := .string p) (v3 := .string n) (v4 := .string u) (v5 := .string r) (v6 := .bool false) hX
    have hF := set7_fr (v0 := .int .i64 k) (v1 := .bool t) (v2 := .string p) (v3 := .string n) (v4 := .string u) (v5 := .string r) (v6 := .bool false) hF rfl
    clear q0 q1 q2 q3 q4 q5 q6 f0 f1 f2 f3 f4 f5 f6
    have q0 := blk_cell hX 0; have q1 := blk_cell hX 1; have q2 := blk_cell hX 2; have q3 := blk_cell hX 3; have q4 := blk_cell hX 4; have q5 := blk_cell hX 5; have q6 := blk_cell hX 6; have f0 := blk_free hX 0; have f1 := blk_free hX 1; have f2 := blk_free hX 2; have f3 := blk_free hX 3; have f4 := blk_free hX 4; have f5 := blk_free hX 5; have f6 := blk_free hX 6
    refine wpAnyH_one (i := 6) (o := { dst := some 27, op := Go.Op.buildSlice 24 1 #[(0, Go.Operand.tmp 26)], type := 24, pos := "sign.go:82", after := #[{ on := 5, ground := Go.Ground.data }, { on := 7, ground := Go.Ground.gcOnly Go.Departure.lateStores }], guard := none }) (by kernel_rfl) rfl (by rfl) (fun K hK => ?_)
    go_simp
    refine hK.out _ _ ?_ (fun hHeld => ?_)
    · exact blk_alloc hS0 _
    clear hK K
    try simp only [Act.put, List.setIfInBounds_toArray, List.set_cons_zero, List.set_cons_succ]
    have hS0 := hHeld
    have hX := blk_alloc hX (Obj.cells #[Value.string (bs tx)] 9)
    have hF := hF.alloc (Obj.cells #[Value.string (bs tx)] 9)
    clear q0 q1 q2 q3 q4 q5 q6 f0 f1 f2 f3 f4 f5 f6
    have q0 := blk_cell hX 0; have q1 := blk_cell hX 1; have q2 := blk_cell hX 2; have q3 := blk_cell hX 3; have q4 := blk_cell hX 4; have q5 := blk_cell hX 5; have q6 := blk_cell hX 6; have f0 := blk_free hX 0; have f1 := blk_free hX 1; have f2 := blk_free hX 2; have f3 := blk_free hX 3; have f4 := blk_free hX 4; have f5 := blk_free hX 5; have f6 := blk_free hX 6
    refine wpAnyH_read (i := 8) (oi := { dst := some 7, op := Go.Op.assign (Go.Operand.tmp 27), type := 24, pos := "sign.go:82", after := #[{ on := 6, ground := Go.Ground.data }, { on := 7, ground := Go.Ground.chain }, { on := 0, ground := Go.Ground.phase }, { on := 1, ground := Go.Ground.phase }, { on := 2, ground := Go.Ground.phase }, { on := 3, ground := Go.Ground.phase }, { on := 4, ground := Go.Ground.phase }, { on := 5, ground := Go.Ground.phase }, { on := 6, ground := Go.Ground.phase }, { on := 7, ground := Go.Ground.phase }], guard := none }) ?_ rfl (by kernel_rfl) (by kernel_rfl) (by kernel_rfl) (fun _ _ _ h => h) (by rfl) (by exact hHeld) ?_ ?_
    rotate_left
    · (intro w0 hS0; have s0 := blk_cell hS0 0; have s1 := blk_cell hS0 1; have s2 := blk_cell hS0 2; have s3 := blk_cell hS0 3; have s4 := blk_cell hS0 4; have s5 := blk_cell hS0 5; have s6 := blk_cell hS0 6; go_simp <;> (try with_reducible rfl))
    try simp only [Act.put, List.setIfInBounds_toArray, List.set_cons_zero, List.set_cons_succ]
    refine wpAnyH_done (by kernel_rfl) ?_ _
    go_wp2_with fail
    refine bodyPost_ret (res_seven rfl rfl (Tryz.isAgg23 _) (Tryz.sizeOf23 _) hX) rfl ⟨⟨u, r, _, _, _, rfl, .inl ⟨rfl, rfl, rfl⟩⟩, ?_⟩
    exact H.out.1.trans (hF.below H.out.1.size fun k hk e => by have := H.out.2.2.2; omega)
end Go.Proofs.YtdikpbldfnkgdaaGreatDoor
end
