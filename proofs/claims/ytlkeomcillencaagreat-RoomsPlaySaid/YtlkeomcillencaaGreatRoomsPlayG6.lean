/- Texts of this proof, one behind the other. -/
import Derived.Test.YtlkeomcillencaaGreatRoomsPlayG1
import Derived.Laws.IdiomCopy
import Derived.Deep.RegionHeld3
import Derived.Deep.DrawnRows
import Derived.WalkKit
import Derived.Laws.ResultCell
import Derived.Test.YtlkeomcillencaaGreatRoomsPlayG5
import Derived.Below
import Derived.Carry
import Derived.Deep.Strs
import Derived.ChangeSame
import Derived.DataReads
import Derived.ProofKit
import Derived.OpenShut
set_option linter.unusedVariables false
set_option linter.unusedSimpArgs false
section
/- copy and clear at elements of any number of cells. -/
namespace Go.Proofs.YtlkeomcillencaaGreat
open Go

theorem run_copy_flat {P : Program} (w : World) (dT sT ty elem : TypeId) (size b o dLen dCap : Nat) (a : Addr) (sLen sCap : Nat) (cs : List Value)
    (hu : P.underlying dT = some (.slice elem)) (hs : (P.info? elem).map (·.size) = some size) (hn : cs.length = Nat.min sLen dLen * size)
    (hsrc : ∀ j v, cs[j]? = some v → w.cell? (a.add j) = some v) (hc : ∀ j, j < cs.length → (w.cell? ⟨b, o + j, none⟩).isSome = true) (hf : ∀ j, j < cs.length → w.frozen? ⟨b, o + j, none⟩ = false) (h1 : ∀ v ∈ cs, v.oneCell' = true) :
    (Builtin.copy_ #[dT, sT] ty #[.slice (some ⟨b, o, none⟩) dLen dCap, .slice (some a) sLen sCap]).run P w = .ok (goInt (Nat.min sLen dLen)) (w.setCells b o cs) := by
  have hl := run_loadCells_list (P := P) w a cs hsrc
  have hst := run_storeCells_cells (P := P) b o cs 0 w (by simpa using hc) (by simpa using hf) h1
  cases hq : P.info? elem with
  | none => simp [hq] at hs
  | some i =>
    have hi : i.size = size := by simpa [hq] using hs
    simp [Builtin.copy_, run_underlying hu, Builtin.lenOf, Builtin.firstCells, sizeOf, typeInfo, hq, hi, ← hn, hl, hst]
end Go.Proofs.YtlkeomcillencaaGreat
end
section
/- Regions that draw their order, walked op by op in one way: what is held may grow on the way. -/
namespace Go.Proofs.YtlkeomcillencaaGreat
open Go Go.RowKit

section
variable {P : Program} {md : Region.Mode} {ops : Array Oper} {Q : Exit → Act → World → Prop} {S T : World → Prop}
/-- what is held may be more from here on -/
theorem wpAnyH_more (hST : ∀ w, T w → S w) : ∀ (fuel : Nat) (listed : Array Bool) (a : Act) (w : World), wpAnyH P md ops Q T fuel listed a w → wpAnyH P md ops Q S fuel listed a w
  | 0, _, _, _, h => h
  | fuel + 1, _, _, _, h => ⟨h.1, fun i hi => wpOp_mono (fun a' w' h' => ⟨hST w' h'.1, wpAnyH_more hST fuel _ a' w' h'.2⟩) (h.2 i hi)⟩
/-- one alone may come up: a call, a store -/
theorem wpAnyH_one {i : Nat} {o : Oper} {fuel : Nat} {listed : Array Bool} {a : Act} {w : World} (hr : Region.ready md ops listed = [i]) (ho : ops[i]? = some o) (hw : Region.wanted o (yielded ops a.tmps) = true)
    (h : ∀ K' : Act → World → Prop, Shut (∀ a w, S w → (S w → wpAnyH P md ops Q S fuel (listed.setIfInBounds i true) a w) → K' a w) → Oper.wp P o a w K' Q) : wpAnyH P md ops Q S (fuel + 1) listed a w :=
  wpAnyH_ready hr (by simp) (AllReadyH.cons ho (fun K hK => by rw [if_pos hw]; exact h K hK) AllReadyH.nil)
/-- what yields in every world that is held -/
theorem wpAnyH_read {i : Nat} {oi : Oper} (v : Value) {fuel : Nat} {listed : Array Bool} {a : Act} {w : World} (hi : ops[i]? = some oi)
    (hs : Region.noSelect ops = true) (hf : Region.free md ops listed i = true) (hr : (Region.ready md ops listed).contains i = true)
    (hQ : ∀ c a w, Q (.panic c) (a.put oi.dst v) w → Q (.panic c) a w) (hw : Region.wanted oi (yielded ops a.tmps) = true) (hS : S w)
    (hy : ∀ w, S w → (execOp a.eval oi).run P w = .ok (.value v) w)
    (h : wpAnyH P md ops Q S fuel (listed.setIfInBounds i true) (a.put oi.dst v) w) : wpAnyH P md ops Q S (fuel + 1) listed a w :=
  wpAnyH_take hi hs hf hr hQ (Or.inl ⟨hw, hy⟩) hS h
/-- what is guarded, and not wanted -/
theorem wpAnyH_pass {i : Nat} {oi : Oper} {fuel : Nat} {listed : Array Bool} {a : Act} {w : World} (hi : ops[i]? = some oi)
    (hs : Region.noSelect ops = true) (hf : Region.free md ops listed i = true) (hr : (Region.ready md ops listed).contains i = true)
    (hQ : ∀ c a w, Q (.panic c) (a.put oi.dst undef) w → Q (.panic c) a w) (hw : Region.wanted oi (yielded ops a.tmps) = false) (hS : S w)
    (h : wpAnyH P md ops Q S fuel (listed.setIfInBounds i true) (a.put oi.dst undef) w) : wpAnyH P md ops Q S (fuel + 1) listed a w :=
  wpAnyH_take hi hs hf hr hQ (Or.inr ⟨hw, rfl⟩) hS h
end
end Go.Proofs.YtlkeomcillencaaGreat
end
section
/- Drawn regions: two writing operations may come up. A box of seven cells. -/
namespace Go.Proofs.YtlkeomcillencaaGreat
open Go Go.RowKit

theorem wpAnyH_two {P : Program} {md : Region.Mode} {ops : Array Oper} {Q : Exit → Act → World → Prop} {S : World → Prop} {i j : Nat} {o o2 : Oper} {fuel : Nat} {listed : Array Bool} {a : Act} {w : World} (hr : Region.ready md ops listed = [i, j]) (ho : ops[i]? = some o) (ho2 : ops[j]? = some o2)
    (hw : Region.wanted o (yielded ops a.tmps) = true) (hw2 : Region.wanted o2 (yielded ops a.tmps) = true)
    (h : ∀ K' : Act → World → Prop, Shut (∀ a w, S w → (S w → wpAnyH P md ops Q S fuel (listed.setIfInBounds i true) a w) → K' a w) → Oper.wp P o a w K' Q)
    (h2 : ∀ K' : Act → World → Prop, Shut (∀ a w, S w → (S w → wpAnyH P md ops Q S fuel (listed.setIfInBounds j true) a w) → K' a w) → Oper.wp P o2 a w K' Q) : wpAnyH P md ops Q S (fuel + 1) listed a w :=
  wpAnyH_ready hr (by simp) (AllReadyH.cons ho (fun K hK => by rw [if_pos hw]; exact h K hK) (AllReadyH.cons ho2 (fun K hK => by rw [if_pos hw2]; exact h2 K hK) AllReadyH.nil))
section
variable {W a : World} {B : Nat} {T : TypeId} {X : Nat → Prop} {c0 c1 c2 c3 c4 c5 c6 v0 v1 v2 v3 v4 v5 v6 : Value}
theorem set7 (h : W.heap[B]? = some (.cells #[c0, c1, c2, c3, c4, c5, c6] T (0, 0))) : (((((((W.setCell ⟨B, 0, none⟩ v0).setCell ⟨B, 1, none⟩ v1).setCell ⟨B, 2, none⟩ v2).setCell ⟨B, 3, none⟩ v3).setCell ⟨B, 4, none⟩ v4).setCell ⟨B, 5, none⟩ v5).setCell ⟨B, 6, none⟩ v6).heap[B]? = some (.cells #[v0, v1, v2, v3, v4, v5, v6] T (0, 0)) := by
  have := blk_set (blk_set (blk_set (blk_set (blk_set (blk_set (blk_set h 0 v0) 1 v1) 2 v2) 3 v3) 4 v4) 5 v5) 6 v6
  simpa using this
theorem set7_fr (h : Fr X a W) (hB : X B) : Fr X a (((((((W.setCell ⟨B, 0, none⟩ v0).setCell ⟨B, 1, none⟩ v1).setCell ⟨B, 2, none⟩ v2).setCell ⟨B, 3, none⟩ v3).setCell ⟨B, 4, none⟩ v4).setCell ⟨B, 5, none⟩ v5).setCell ⟨B, 6, none⟩ v6) :=
  Fr.setCell (Fr.setCell (Fr.setCell (Fr.setCell (Fr.setCell (Fr.setCell (Fr.setCell h ⟨B, 0, none⟩ hB v0) ⟨B, 1, none⟩ hB v1) ⟨B, 2, none⟩ hB v2) ⟨B, 3, none⟩ hB v3) ⟨B, 4, none⟩ hB v4) ⟨B, 5, none⟩ hB v5) ⟨B, 6, none⟩ hB v6
theorem set7_oth {k : Nat} {o : Obj} (h : W.heap[k]? = some o) (hk : k ≠ B) : (((((((W.setCell ⟨B, 0, none⟩ v0).setCell ⟨B, 1, none⟩ v1).setCell ⟨B, 2, none⟩ v2).setCell ⟨B, 3, none⟩ v3).setCell ⟨B, 4, none⟩ v4).setCell ⟨B, 5, none⟩ v5).setCell ⟨B, 6, none⟩ v6).heap[k]? = some o :=
  (set7_fr (X := fun k => k = B) (Fr.refl _ W) rfl).blk h hk
theorem res_seven {P : Program} {fn : Func} {p u : Tmp} {ty : TypeId} {tmps : Array Value} {V : World} {N : Nat} (h : fn.results = #[.cell p ty, .tmp u]) (hp : tmps.getD p undef = .pointer (some ⟨N, 0, none⟩)) (hg : (isAgg ty).run P V = .ok true V) (hz : (sizeOf ty).run P V = .ok 7 V)
    (h0 : V.heap[N]? = some (.cells #[c0, c1, c2, c3, c4, c5, c6] T (0, 0))) : (results fn tmps).run P V = .ok (.tuple #[.agg #[c0, c1, c2, c3, c4, c5, c6], tmps.getD u undef]) V := by
  have k := fun j => blk_cell h0 j
  rw [results_cell_tmp h, hp]
  have k0 := k 0; have k1 := k 1; have k2 := k 2; have k3 := k 3; have k4 := k 4; have k5 := k 5; have k6 := k 6
  simp [asAddr, loadVar, Sem.run_bind, hg, hz, loadCells, loadCellsFrom, k0, k1, k2, k3, k4, k5, k6, Result.andThen, go_sem]
end
end Go.Proofs.YtlkeomcillencaaGreat
end
section
/- Regions that draw their order, whose last operation (number z: a store) waits for what reads: what is held need not hold behind it. -/
namespace Go.Proofs.YtlkeomcillencaaGreat
open Go Go.RowKit

/-- does z wait for i? -/
def waitsFor (md : Region.Mode) (ops : Array Oper) (z i : Nat) : Bool := match ops[z]? with
  | some o => o.after.any fun e => Region.binds md e && e.on == i
  | none => false
section
variable {P : Program} {md : Region.Mode} {ops : Array Oper} {Q : Exit → Act → World → Prop} {S : World → Prop} {z : Nat}
/-- whatever order is picked; S holds behind all but z -/
def wpAnyZ (P : Program) (md : Region.Mode) (ops : Array Oper) (Q : Exit → Act → World → Prop) (S : World → Prop) (z : Nat) : Nat → Array Bool → Act → World → Prop
  | 0, listed, a, w => Region.ready md ops listed = [] ∧ Q .normal a w
  | fuel + 1, listed, a, w => (Region.ready md ops listed = [] → Q .normal a w) ∧
    ∀ i ∈ Region.ready md ops listed, wpOp P ops Q i (fun a' w' => (i ≠ z → S w') ∧ wpAnyZ P md ops Q S z fuel (listed.setIfInBounds i true) a' w') a w
theorem wpAny_of_z : ∀ (fuel : Nat) (listed : Array Bool) (a : Act) (w : World), wpAnyZ P md ops Q S z fuel listed a w → wpAny P md ops Q fuel listed a w
  | 0, _, _, _, h => h
  | fuel + 1, _, _, _, h => ⟨h.1, fun i hi => wpOp_mono (fun _ _ h' => wpAny_of_z fuel _ _ _ h'.2) (h.2 i hi)⟩
theorem waits_not {i j : Nat} {listed : Array Bool} (hz : waitsFor md ops z i = true) (hr : i ∈ Region.ready md ops listed) (hj : j ∈ Region.ready md ops listed) : j ≠ z := by
  rintro rfl
  obtain ⟨_, oj, hoj, hall⟩ := mem_ready.1 hj
  unfold waitsFor at hz
  rw [hoj] at hz
  simp only [Array.any_eq_true'] at hz
  obtain ⟨e, he, hb⟩ := hz
  rw [Bool.and_eq_true, beq_iff_eq] at hb
  have h1 := hall e he hb.1
  have h0 := (mem_ready.1 hr).1
  rw [hb.2] at h1
  rcases Nat.lt_or_ge i listed.size with h' | h'
  · simp [h'] at h0 h1; rw [h0] at h1; cases h1
  · simp [Array.getElem?_eq_none h'] at h1
theorem wpAnyZ_first {i : Nat} {oi : Oper} {v : Value} (hi : ops[i]? = some oi) (hsel : ∀ (j : Nat) (o : Oper) cs b, ops[j]? = some o → o.op ≠ .select cs b)
    (hQ : ∀ c a w, Q (.panic c) (a.put oi.dst v) w → Q (.panic c) a w) (hz : waitsFor md ops z i = true) : ∀ (fuel : Nat) (listed : Array Bool) (a : Act) (w : World),
      (∀ j oj, ops[j]? = some oj → j ≠ i → listed.getD j true = false → (∀ e ∈ oj.after, Region.binds md e = true → e.on ≠ i) → oi.apart ops oj = true) →
      i ∈ Region.ready md ops listed → YieldsIf P ops S oi v a → S w → wpAnyZ P md ops Q S z fuel (listed.setIfInBounds i true) (a.put oi.dst v) w → wpAnyZ P md ops Q S z (fuel + 1) listed a w := by
  intro fuel
  induction fuel with
  | zero =>
    intro listed a w _ hr hy hS H
    refine ⟨fun h => (by rw [h] at hr; cases hr), fun j hj => ?_⟩
    by_cases hji : j = i
    · subst hji
      exact hy.wpOp hi hS ⟨fun _ => hS, H⟩
    · have h1 := ready_mono hj hji
      rw [H.1] at h1
      cases h1
  | succ fuel ih =>
    intro listed a w hfree hr hy hS H
    refine ⟨fun h => (by rw [h] at hr; cases hr), fun j hj => ?_⟩
    by_cases hji : j = i
    · subst hji
      exact hy.wpOp hi hS ⟨fun _ => hS, H⟩
    · have hjz := waits_not hz hr hj
      have h1 := H.2 j (ready_mono hj hji)
      obtain ⟨hjun, oj, hoj, hall⟩ := mem_ready.1 hj
      have hnot : ∀ e ∈ oj.after, Region.binds md e = true → e.on ≠ i := fun e he hb heq => by
        have h1 := hall e he hb
        have h0 := (mem_ready.1 hr).1
        rw [heq] at h1
        rcases Nat.lt_or_ge i listed.size with h' | h'
        · simp [h'] at h0 h1; rw [h0] at h1; cases h1
        · simp [Array.getElem?_eq_none h'] at h1
      have h2 := wpOp_putIf hoj (hfree j oj hoj hji hjun hnot) (fun cs b => hsel i oi cs b hi) (fun cs b => hsel j oj cs b hoj) hQ hy h1
      refine wpOp_mono (fun a' w' h3 => ⟨h3.2.1, ih (listed.setIfInBounds j true) a' w' (fun k ok hk hki hun hno => hfree k ok hk hki ?_ hno) (ready_mono hr (Ne.symm hji)) h3.1 (h3.2.1 hjz) ?_⟩) h2
      · by_cases hjk : j = k
        · subst hjk; exact hjun
        · rw [getD_set_ne true hjk] at hun; exact hun
      · rw [Array.setIfInBounds_comm _ _ hji]
        exact h3.2.2
/-- what yields in every world that is held -/
theorem wpAnyZ_read {i : Nat} {oi : Oper} (v : Value) {fuel : Nat} {listed : Array Bool} {a : Act} {w : World} (hi : ops[i]? = some oi)
    (hs : Region.noSelect ops = true) (hf : Region.free md ops listed i = true) (hr : (Region.ready md ops listed).contains i = true) (hz : waitsFor md ops z i = true)
    (hQ : ∀ c a w, Q (.panic c) (a.put oi.dst v) w → Q (.panic c) a w) (hw : Region.wanted oi (yielded ops a.tmps) = true) (hS : S w)
    (hy : ∀ w, S w → (execOp a.eval oi).run P w = .ok (.value v) w)
    (h : wpAnyZ P md ops Q S z fuel (listed.setIfInBounds i true) (a.put oi.dst v) w) : wpAnyZ P md ops Q S z (fuel + 1) listed a w :=
  wpAnyZ_first hi (Region.noSelect_spec hs) hQ hz fuel listed a w (Region.free_spec hi hf) (by simpa using hr) (Or.inl ⟨hw, hy⟩) hS h
/-- one alone may come up: a call, a slice that is made -/
theorem wpAnyZ_one {i : Nat} {o : Oper} {fuel : Nat} {listed : Array Bool} {a : Act} {w : World} (hr : Region.ready md ops listed = [i]) (ho : ops[i]? = some o) (hw : Region.wanted o (yielded ops a.tmps) = true)
    (h : ∀ K' : Act → World → Prop, Shut (∀ a w, S w → (S w → wpAnyZ P md ops Q S z fuel (listed.setIfInBounds i true) a w) → K' a w) → Oper.wp P o a w K' Q) : wpAnyZ P md ops Q S z (fuel + 1) listed a w :=
  ⟨fun h0 => absurd (hr ▸ h0) (by simp), by
    rw [hr]
    intro j hj
    obtain rfl := List.mem_singleton.1 hj
    exact wpOp_step ho fun K' hK => by rw [if_pos hw]; exact h K' fun a w hS hW => hK a w ⟨fun _ => hS, hW hS⟩⟩
/-- z comes up -/
theorem wpAnyZ_last {o : Oper} {fuel : Nat} {listed : Array Bool} {a : Act} {w : World} (hr : Region.ready md ops listed = [z]) (ho : ops[z]? = some o) (hw : Region.wanted o (yielded ops a.tmps) = true)
    (h : ∀ K' : Act → World → Prop, Shut (∀ a w, wpAnyZ P md ops Q S z fuel (listed.setIfInBounds z true) a w → K' a w) → Oper.wp P o a w K' Q) : wpAnyZ P md ops Q S z (fuel + 1) listed a w :=
  ⟨fun h0 => absurd (hr ▸ h0) (by simp), by
    rw [hr]
    intro j hj
    obtain rfl := List.mem_singleton.1 hj
    exact wpOp_step ho fun K' hK => by rw [if_pos hw]; exact h K' fun a w hW => hK a w ⟨fun e => absurd rfl e, hW⟩⟩
theorem wpAnyZ_done {listed : Array Bool} {a : Act} {w : World} (hr : Region.ready md ops listed = []) (h : Q .normal a w) : ∀ fuel, wpAnyZ P md ops Q S z fuel listed a w
  | 0 => ⟨hr, h⟩
  | _ + 1 => ⟨fun _ => h, by rw [hr]; simp⟩
theorem wp_region_z (S : World → Prop) (z : Nat) {id : Nat} {a : Act} {w : World} (hm : P.follows .mixedOrders = true) (hS : S w.drew)
    (h : S w.drew → wpAnyZ P .any ops Q S z ops.size (Array.replicate ops.size false) a w.drew) : (Code.region id ops true).wp P Q a w :=
  wp_region_any hm (wpAny_of_z _ _ _ _ (h hS))
/-- append whose run is known -/
theorem wp_app_run {P : Program} {W W' : World} {o : Oper} {a : Act} {K : Act → World → Prop} {Q : Exit → Act → World → Prop} (s x : Operand) (t tx : TypeId)
    (ho : o.op = .call { callee := .builtin .append, args := #[s, x], argTypes := #[t, tx] }) {v : Value} (hr : (Builtin.append_ #[t, tx] o.type #[a.eval s, a.eval x]).run P W = .ok v W') (h : K (a.put o.dst v) W') : Oper.wp P o a W K Q := by
  unfold Oper.wp execOp
  simp only [ho, resolve, invoke, builtin, Sem.run_bind, Sem.run_pure, Result.andThen_ok, List.map_toArray, List.map_cons, List.map_nil, hr]
  exact h
end
end Go.Proofs.YtlkeomcillencaaGreat
end
section
/- Layer 19: Drop. -/
namespace Go.Proofs.YtlkeomcillencaaGreat
open Go Go.RowKit

theorem row_over {W : World} {base : Nat} {e : TypeId} {size g n cap : Nat} {xs : List Value} (h : W.ownsRow base e size (.slice (some ⟨g, 0, none⟩) n cap) n xs) (t : Nat) (ht : n * size ≤ t) (u : Value) :
    (W.setCell ⟨g, t, none⟩ u).ownsRow base e size (.slice (some ⟨g, 0, none⟩) n cap) n xs := by
  obtain ⟨h1, h2⟩ := h
  refine ⟨h1, .inr ?_⟩
  rcases h2 with ⟨h2, h3⟩ | ⟨g', cap', cur, h2, h3, h4, h5, h6, h7, h8⟩
  · cases h2
  · injection h2 with e1 e2 e3
    injection e1 with e1
    injection e1 with e1 _ _
    subst e1; subst e3
    refine ⟨g, cap, cur.setIfInBounds t u, rfl, h3, heap_setCell_same W g t _ _ u h4, h5, h6, by rw [Array.size_setIfInBounds]; exact h7, ?_⟩
    rw [Array.toList_setIfInBounds, List.take_set_of_le ht, h8]
theorem row_prefix {W : World} {base : Nat} {e : TypeId} {size g n cap : Nat} {xs : List Value} (h : W.ownsRow base e size (.slice (some ⟨g, 0, none⟩) n cap) n xs) (i : Nat) (hi : i ≤ n) :
    W.ownsRow base e size (.slice (some ⟨g, 0, none⟩) i cap) i (xs.take (i * size)) := by
  obtain ⟨h1, h2⟩ := h
  have hle : i * size ≤ n * size := Nat.mul_le_mul_right _ hi
  refine ⟨by rw [List.length_take, h1]; exact Nat.min_eq_left hle, .inr ?_⟩
  rcases h2 with ⟨h2, h3⟩ | ⟨g', cap', cur, h2, h3, h4, h5, h6, h7, h8⟩
  · cases h2
  · injection h2 with e1 e2 e3
    injection e1 with e1
    injection e1 with e1 _ _
    subst e1; subst e3
    refine ⟨g, cap, cur, rfl, h3, h4, Nat.le_trans hi h5, h6, h7, ?_⟩
    rw [← h8, List.take_take, Nat.min_eq_left hle]
theorem row_spare {W : World} {base : Nat} {e : TypeId} {size g n cap : Nat} {xs : List Value} (h : W.ownsRow base e size (.slice (some ⟨g, 0, none⟩) n cap) n xs) (t : Nat) (ht : t < cap * size) :
    (W.cell? ⟨g, t, none⟩).isSome = true ∧ W.frozen? ⟨g, t, none⟩ = false := by
  rcases h.2 with ⟨h2, h3⟩ | ⟨g', cap', cur, h2, h3, h4, h5, h6, h7, h8⟩
  · cases h2
  · injection h2 with e1 e2 e3
    injection e1 with e1
    injection e1 with e1 _ _
    subst e1; subst e3
    refine ⟨?_, blk_free h4 t⟩
    rw [cell_of_row W g t cur e (0, 0) h4, Array.getElem?_eq_getElem (by omega)]
    rfl
theorem flat_take (xs : List Mem) (i : Nat) : (xs.flatMap encM).take (i * 3) = (xs.take i).flatMap encM := by
  induction xs generalizing i with
  | nil => simp
  | cons x r ih =>
    cases i with
    | zero => simp
    | succ i =>
      rw [List.flatMap_cons, List.take_succ_cons, List.flatMap_cons, List.take_append, show (encM x).length = 3 from rfl, show (i + 1) * 3 - 3 = i * 3 by omega, ih, List.take_of_length_le (by show 3 ≤ (i + 1) * 3; omega)]
theorem flat3 (xs : List Mem) : (xs.flatMap encM).length = xs.length * 3 := by
  induction xs with
  | nil => rfl
  | cons x r ih => rw [List.flatMap_cons, List.length_append, ih, List.length_cons]; show 3 + _ = _; omega
theorem run_clear3 {P : Program} (w : World) (t e ty : TypeId) (a b c : Value) (ht : P.underlying t = some (.slice e)) (hv : ∀ w, (zeroValue e).run P w = .ok (.agg #[a, b, c]) w) (h1 : a.oneCell' = true ∧ b.oneCell' = true ∧ c.oneCell' = true) (g o cp : Nat)
    (hc : ∀ j, j < 3 → (w.cell? ⟨g, o + j, none⟩).isSome = true) (hf : ∀ j, j < 3 → w.frozen? ⟨g, o + j, none⟩ = false) :
    (Builtin.clear_ #[t] ty #[.slice (some ⟨g, o, none⟩) 1 cp]).run P w = .ok (.tuple #[]) (w.setCells g o [a, b, c]) := by
  have hz : (Builtin.zeroCells (Value.agg #[a, b, c]).cells 1).toList = [a, b, c] := by
    have e0 : (Value.agg #[a, b, c]).cells = #[a, b, c] := rfl
    rw [e0]
    simp [Builtin.zeroCells, List.range_succ]
  have hst := run_storeCells_cells (P := P) g o [a, b, c] 0 w (by simpa using hc) (by simpa using hf) (by intro v hv'; simp only [List.mem_cons, List.not_mem_nil, or_false] at hv'; rcases hv' with rfl | rfl | rfl; exact h1.1; exact h1.2.1; exact h1.2.2)
  simp only [Nat.add_zero] at hst
  simp [Builtin.clear_, run_underlying ht, hv, hz, hst]
set_option maxRecDepth 100000 in
set_option maxHeartbeats 8000000 in
theorem delM_any {base : Nat} {W : World} {g c : Nat} {xs : List Mem} (h : OwnM base W (.slice (some ⟨g, 0, none⟩) xs.length c) xs) (i : Nat) (hi : i < xs.length) (hm : xs.length ≤ 1000000) :
    Calls Tryz.prog 72 #[.slice (some ⟨g, 0, none⟩) xs.length c, .int .i64 i, .int .i64 (i + 1)] W fun e w' => e = .returned (.slice (some ⟨g, 0, none⟩) (xs.length - 1) c) ∧ OwnM base w' (.slice (some ⟨g, 0, none⟩) (xs.length - 1) c) (xs.take i ++ xs.drop (i + 1)) ∧ Fr (fun k => k = g) W w' := by
  obtain ⟨i0, hi0, hz0, hz1, hz2⟩ := info_parts Tryz.infoMb
  have hcap : xs.length ≤ c ∧ c ≤ maxLen := by
    rcases h.2 with ⟨h2, _⟩ | ⟨g', cap', cur, h2, _, _, h5, h6, _⟩
    · cases h2
    · injection h2 with _ _ e3; subst e3; exact ⟨h5, h6⟩
  obtain ⟨n, hn⟩ : ∃ n, xs.length = n := ⟨_, rfl⟩
  have hpre : W.drew.ownsRow base 71 3 (.slice (some ⟨g, 0, none⟩) i c) i ((xs.flatMap encM).take (i * 3)) := row_prefix h i (by omega)
  rw [flat_take] at hpre
  have hsrc : ∀ j u, ((xs.drop (i + 1)).flatMap encM)[j]? = some u → W.drew.cell? ⟨g, (i + 1) * 3 + j, none⟩ = some u := fun j u hu => by
    have hj : j < (xs.length - (i + 1)) * 3 := by have := (List.getElem?_eq_some_iff.1 hu).1; rw [flat3, List.length_drop] at this; exact this
    have h2 := World.ownsRow.cellAt h ((i + 1) * 3 + j) (by omega)
    have h3 : W.cell? ⟨g, (i + 1) * 3 + j, none⟩ = some u := by
      rw [h2, show xs.flatMap encM = (xs.take (i + 1)).flatMap encM ++ (xs.drop (i + 1)).flatMap encM by rw [← List.flatMap_append, List.take_append_drop], List.getElem?_append_right (by rw [flat3, List.length_take]; omega), flat3, List.length_take, show (i + 1) * 3 + j - min (i + 1) xs.length * 3 = j by omega]
      exact hu
    exact h3
  obtain ⟨A, hA, hAs⟩ : ∃ A : Addr, (if c = i + 1 then (some ⟨g, 0, none⟩ : Option Addr) else some ⟨g, (i + 1) * 3, none⟩) = some A ∧ ∀ j u, ((xs.drop (i + 1)).flatMap encM)[j]? = some u → W.drew.cell? (A.add j) = some u := by
    by_cases hc : c = i + 1
    · refine ⟨⟨g, 0, none⟩, by rw [if_pos hc], fun j u hu => ?_⟩
      rw [List.drop_of_length_le (by omega)] at hu
      simp at hu
    · exact ⟨⟨g, (i + 1) * 3, none⟩, by rw [if_neg hc], fun j u hu => by rw [Addr.add_lit]; exact hsrc j u hu⟩
  obtain ⟨w11, hrun, hown, hgr⟩ := run_append_fits W.drew base 88 88 71 i0 3 Tryz.underlying88 hi0 hz1 g i c _ hpre A (n - (i + 1)) (c - (i + 1)) ((xs.drop (i + 1)).flatMap encM) (by rw [flat3, List.length_drop, hn]) hAs (fun u hu => by
    obtain ⟨m, _, hm2⟩ := List.mem_flatMap.1 hu
    simp only [encM, List.mem_cons, List.not_mem_nil, or_false] at hm2
    rcases hm2 with rfl | rfl | rfl <;> rfl) (by omega)
  have HRUN := Lib.hid hrun
  have H := Lib.hid (And.intro h (And.intro hown (And.intro hgr hn)))
  rw [hn]
  have hin : i < n := by omega
  have hnc : n ≤ c := by omega
  have hic : i ≤ c := by omega
  have hj1 : (0 : Int) ≤ (i : Int) + 1 := by omega
  have hj2 : (i : Int) + 1 ≤ (n : Int) := by omega
  have hcm : c ≤ 9223372036854775807 := by have : maxLen ≤ 9223372036854775807 := by decide
                                           omega
  clear h hpre hsrc hAs hrun hown hgr hm hi hcap hi0 hz0 hz1 hz2
  go_enter Tryz.func72, Tryz.ntmps72
  go_wp2_with fail
  refine wp_region_held_drew (S := fun _ => True) (by kernel_rfl) trivial (fun hHeld => ?_)
  refine wpAnyH_read (i := 0) (oi := { dst := some 20, op := Go.Op.move (Go.Operand.tmp 0), type := 88, pos := "slices.go:232", after := #[], guard := none }) ?_ rfl (by kernel_rfl) (by kernel_rfl) (by kernel_rfl) (fun _ _ _ h => h) (by rfl) trivial ?_ ?_
  rotate_left
  · (intro w0 hS0; go_simp <;> (try with_reducible rfl))
  try simp only [Act.put, List.setIfInBounds_toArray, List.set_cons_zero, List.set_cons_succ]
  refine wpAnyH_read (i := 1) (oi := { dst := some 21, op := Go.Op.move (Go.Operand.tmp 1), type := 3, pos := "slices.go:232", after := #[], guard := none }) ?_ rfl (by kernel_rfl) (by kernel_rfl) (by kernel_rfl) (fun _ _ _ h => h) (by rfl) trivial ?_ ?_
  rotate_left
  · (intro w0 hS0; go_simp <;> (try with_reducible rfl))
  try simp only [Act.put, List.setIfInBounds_toArray, List.set_cons_zero, List.set_cons_succ]
  refine wpAnyH_read (i := 2) (oi := { dst := some 22, op := Go.Op.slice 88 (Go.Operand.tmp 20) none (some (Go.Operand.tmp 21)) none, type := 88, pos := "slices.go:232", after := #[{ on := 0, ground := Go.Ground.data }, { on := 1, ground := Go.Ground.data }], guard := none }) ?_ rfl (by kernel_rfl) (by kernel_rfl) (by kernel_rfl) (fun _ _ _ h => h) (by rfl) trivial ?_ ?_
  rotate_left
  · (intro w0 hS0; go_simp <;> (try with_reducible rfl))
  try simp only [Act.put, List.setIfInBounds_toArray, List.set_cons_zero, List.set_cons_succ]
  refine wpAnyH_read (i := 3) (oi := { dst := some 23, op := Go.Op.move (Go.Operand.tmp 0), type := 88, pos := "slices.go:232", after := #[], guard := none }) ?_ rfl (by kernel_rfl) (by kernel_rfl) (by kernel_rfl) (fun _ _ _ h => h) (by rfl) trivial ?_ ?_
  rotate_left
  · (intro w0 hS0; go_simp <;> (try with_reducible rfl))
  try simp only [Act.put, List.setIfInBounds_toArray, List.set_cons_zero, List.set_cons_succ]
  refine wpAnyH_read (i := 4) (oi := { dst := some 24, op := Go.Op.move (Go.Operand.tmp 2), type := 3, pos := "slices.go:232", after := #[], guard := none }) ?_ rfl (by kernel_rfl) (by kernel_rfl) (by kernel_rfl) (fun _ _ _ h => h) (by rfl) trivial ?_ ?_
  rotate_left
  · (intro w0 hS0; go_simp <;> (try with_reducible rfl))
  try simp only [Act.put, List.setIfInBounds_toArray, List.set_cons_zero, List.set_cons_succ]
  refine wpAnyH_read (i := 5) (oi := { dst := some 25, op := Go.Op.slice 88 (Go.Operand.tmp 23) (some (Go.Operand.tmp 24)) none none, type := 88, pos := "slices.go:232", after := #[{ on := 3, ground := Go.Ground.data }, { on := 4, ground := Go.Ground.data }], guard := none }) ?_ rfl (by kernel_rfl) (by kernel_rfl) (by kernel_rfl) (fun _ _ _ h => h) (by rfl) trivial ?_ ?_
  rotate_left
  · (intro w0 hS0; go_simp <;> (try with_reducible rfl))
  try simp only [Act.put, List.setIfInBounds_toArray, List.set_cons_zero, List.set_cons_succ]
  refine wpAnyH_one (i := 6) (o := { dst := some 26, op := Go.Op.call { callee := Go.Callee.builtin Go.Builtin.append, args := #[Go.Operand.tmp 22, Go.Operand.tmp 25], argTypes := #[88, 88] }, type := 88, pos := "slices.go:232", after := #[{ on := 2, ground := Go.Ground.data }, { on := 5, ground := Go.Ground.data }], guard := none }) (by kernel_rfl) rfl (by rfl) (fun K hK => ?_)
  refine wp_app_run _ _ _ _ rfl HRUN.out ?_
  refine hK.out _ _ ?_ (fun hHeld => ?_)
  · trivial
  clear hK K
  try simp only [Act.put, List.setIfInBounds_toArray, List.set_cons_zero, List.set_cons_succ]
  refine wpAnyH_read (i := 7) (oi := { dst := some 0, op := Go.Op.assign (Go.Operand.tmp 26), type := 88, pos := "slices.go:232", after := #[{ on := 6, ground := Go.Ground.data }, { on := 6, ground := Go.Ground.chain }, { on := 0, ground := Go.Ground.phase }, { on := 1, ground := Go.Ground.phase }, { on := 2, ground := Go.Ground.phase }, { on := 3, ground := Go.Ground.phase }, { on := 4, ground := Go.Ground.phase }, { on := 5, ground := Go.Ground.phase }, { on := 6, ground := Go.Ground.phase }], guard := none }) ?_ rfl (by kernel_rfl) (by kernel_rfl) (by kernel_rfl) (fun _ _ _ h => h) (by rfl) trivial ?_ ?_
  rotate_left
  · (intro w0 hS0; go_simp <;> (try with_reducible rfl))
  try simp only [Act.put, List.setIfInBounds_toArray, List.set_cons_zero, List.set_cons_succ]
  refine wpAnyH_done (by kernel_rfl) ?_ _
  obtain ⟨p, hp⟩ : ∃ p, n = p + 1 := ⟨n - 1, by omega⟩
  have hO := H.out.2.1
  have e1 : i + (n - (i + 1)) = p := by omega
  rw [e1] at hO ⊢
  have hcl : ∀ ty, (Builtin.clear_ #[88] ty #[.slice (some ⟨g, p * 3, none⟩) (n - p) (c - p)]).run Tryz.prog w11 = .ok (.tuple #[]) (w11.setCells g (p * 3) [.int .i64 0, .bool false, .bool false]) := fun ty => by
    rw [show n - p = 1 by omega]
    exact run_clear3 w11 _ _ ty _ _ _ Tryz.underlying88 Tryz.zeroValue71 ⟨rfl, rfl, rfl⟩ g (p * 3) _ (fun j hj => (row_spare hO _ (by omega)).1) (fun j hj => (row_spare hO _ (by omega)).2)
  obtain ⟨w12, hw12⟩ : ∃ w12, w11.setCells g (p * 3) [.int .i64 0, .bool false, .bool false] = w12 := ⟨_, rfl⟩
  have hO2 : w12.ownsRow base 71 3 (.slice (some ⟨g, 0, none⟩) p c) p ((xs.take i).flatMap encM ++ (xs.drop (i + 1)).flatMap encM) := by
    rw [← hw12]
    exact row_over (row_over (row_over hO (p * 3) (Nat.le_refl _) _) (p * 3 + 1) (by omega) _) (p * 3 + 2) (by omega) _
  have hF : Fr (fun k => k = g) W w12 := by
    have f1 : Fr (fun k => k = g) W w11 := Fr.grown (Fr.refl _ W).drew H.out.2.2.1 fun k e => .inr (by cases e; rfl)
    rw [← hw12]
    exact ((f1.setCell ⟨g, p * 3, none⟩ rfl _).setCell ⟨g, p * 3 + 1, none⟩ rfl _).setCell ⟨g, p * 3 + 2, none⟩ rfl _
  rw [hw12] at hcl
  have HO := Lib.hid (And.intro hO2 hF)
  have hpn : p ≤ n := by omega
  have hpc : p ≤ c := by omega
  have hpc2 : ¬ c = p := by omega
  have HP := Lib.hid hp
  clear hw12 hO2 hF hO e1 hj1 hj2 hA hp hHeld
  go_wp2_with fail
  go_ret
  obtain ⟨hO2, hF⟩ := HO.out
  have hp := HP.out
  rw [show n - 1 = p by omega]
  refine ⟨rfl, ?_, hF⟩
  unfold OwnM
  rw [List.flatMap_append, List.length_append, List.length_take, List.length_drop, hn, show min i n + (n - (i + 1)) = p by omega]
  exact hO2
theorem delM_is {xs : List Mem} {id : Int} : xs.take (ixM xs id) ++ xs.drop (ixM xs id + 1) = delMb xs id := rfl
set_option maxRecDepth 100000 in
set_option maxHeartbeats 4000000 in
theorem drop_any {base B : Nat} {q : RmV} {r : Rm} {w : World} (h : RoomAt base B q r w) (id : Int) (hl : r.mem.length ≤ 1000000) :
    Calls Tryz.prog 41 #[.pointer (some ⟨B, 0, none⟩), .int .i64 id] w fun e w' => e = .returned (.bool (hasM r.mem id)) ∧ ChgW base B q (if hasM r.mem id then { r with mem := delMb r.mem id } else r) w w' := by
  have HP := Lib.hid (place_any h id hl)
  cases hb : hasM r.mem id with
  | false =>
    rw [hb] at HP
    rw [if_neg (by simp)]
    have H := Lib.hid h
    obtain ⟨i, hi⟩ : ∃ i, ixM r.mem id = i := ⟨_, rfl⟩
    rw [hi] at HP
    clear h hb hi
    go_enter Tryz.func41, Tryz.ntmps41
    go_wp2_with fail
    refine HP.out.mono ?_
    rintro e w1 ⟨rfl, hb1⟩
    have HB := Lib.hid hb1
    clear hb1
    go_wp2_with fail
    go_ret
    exact ⟨rfl, q, H.out.below HB.out, Fr.of_below HB.out, fun _ hk _ => hk⟩
  | true =>
    rw [hb] at HP
    rw [if_pos rfl]
    have hix := (ixM_at h.2.2.2.2.2.2 hb).1
    have H := Lib.hid (And.intro h hl)
    have c1 : w.cell? ⟨B, 1, none⟩ = some q.vm := blk_cell h.1 1
    have f1 : w.frozen? ⟨B, 1, none⟩ = false := blk_free h.1 1
    obtain ⟨A, c, hv⟩ := ownM_slice h.2.1
    have hown := h.2.1
    rw [hv] at hown
    obtain ⟨g, rfl⟩ : ∃ g, A = some ⟨g, 0, none⟩ := by
      rcases hown.2 with ⟨h2, h3⟩ | ⟨g', cap', cur, h2, _⟩
      · omega
      · injection h2 with e1 _ _; exact ⟨g', e1⟩
    have hgB : g ≠ B := fun e => h.apart.1.1 (by rw [hv, e]; rfl)
    rw [hv] at c1
    have HV := Lib.hid (And.intro hv (And.intro hgB (blk_lt h.1)))
    obtain ⟨i, hi⟩ : ∃ i, ixM r.mem id = i := ⟨_, rfl⟩
    obtain ⟨n, hn⟩ : ∃ n, r.mem.length = n := ⟨_, rfl⟩
    have HI := Lib.hid (And.intro hi hn)
    have HD := Lib.hid (fun W (ho : OwnM base W (.slice (some ⟨g, 0, none⟩) r.mem.length c) r.mem) => delM_any ho i (by omega) hl)
    rw [hi] at HP
    simp only [hn] at HD
    rw [hn] at c1
    have HC := Lib.hid (And.intro c1 f1)
    have hin : i < n := by omega
    have hn6 : n ≤ 1000000 := by omega
    clear h hb hi hn hv hown hix hl hgB c1 f1
    have c1 := HC.out.1
    go_enter Tryz.func41, Tryz.ntmps41
    go_wp2_with fail
    refine HP.out.mono ?_
    rintro e w1 ⟨rfl, hb1⟩
    have h1 := H.out.1.below hb1
    have HB := Lib.hid (And.intro h1 hb1)
    have c1 : w1.cell? ⟨B, 1, none⟩ = some (.slice (some ⟨g, 0, none⟩) n c) := by rw [← HI.out.2, ← HV.out.1]; exact blk_cell h1.1 1
    clear hb1 h1
    go_wp2_with fail
    have ho1 := HB.out.1.2.1
    rw [HV.out.1, HI.out.2] at ho1
    refine (HD.out w1 ho1).mono ?_
    rintro e w2 ⟨rfl, ho2, hf2⟩
    have k2 : w2.heap[B]? = some (rmO r q) := hf2.blk HB.out.1.1 fun e => HV.out.2.1 e.symm
    have HO := Lib.hid (And.intro ho2 (And.intro hf2 k2))
    have c2 := blk_cell k2 1
    have f2 := blk_free k2 1
    clear ho1 ho2 hf2 k2 c1
    go_wp2_with fail
    go_ret
    obtain ⟨ho2, hf2, k2⟩ := HO.out
    obtain ⟨hv, hgB, _⟩ := HV.out
    obtain ⟨hi, hn⟩ := HI.out
    have hd : r.mem.take i ++ r.mem.drop (i + 1) = delMb r.mem id := by rw [← hi]; rfl
    rw [hd] at ho2
    have hup : UpM (delMb r.mem id) := delM_up HB.out.1.2.2.2.2.2.2 _
    refine ⟨rfl, ChgW.around (W := w1) (W' := w2.setCell ⟨B, 1, none⟩ (.slice (some ⟨g, 0, none⟩) (n - 1) c)) ?_ HB.out.2 (Below.refl _ _)⟩
    refine chgW_mem (v := .slice (some ⟨g, 0, none⟩) (n - 1) c) (ms := delMb r.mem id) HB.out.1 (ownM_kept ho2 fun k hk => heap_setCell_other _ _ _ _ fun e => hgB (by cases hk; exact e)) hup (blk_set k2 1 _) ((hf2.mono fun k _ e => .inr (by rw [hv, e]; rfl)).setCell ⟨B, 1, none⟩ (.inl rfl) _) fun k hk _ => by rw [hv]; exact hk
end Go.Proofs.YtlkeomcillencaaGreat
end
section
/- A law's arguments: slices of texts, of structs, opened; what was only read reads as it read. -/
namespace Go.Proofs.YtlkeomcillencaaGreat
open Go Go.ChangeShapes Go.WideShapes Go.RowKit Go.Deep

section
variable {H : Type} {enc : TypeId × Value → H} {P : Program} {W W' : World}

/-- is each of these types one that can be read again? -/
def readAll (P : Program) (ts : List TypeId) : Bool := ts.all fun t => P.readableRec t && decide (t < P.types.size)
theorem stays_all (hl : laidOutB P = true) (hB : Below W.heap.size W W') {sp : Nat → Bool} : ∀ (ts : List TypeId) (vs : List Value) (ds : List (DataW H)) (ps : List MemPlace), readAll P ts = true →
    DataW.TrodAll enc P W 0 (fun _ => true) true ts vs ds ps → (∀ x ∈ ps, x.block < W.heap.size) → (∀ x ∈ ps, sp x.block = true) → DataW.TrodAll enc P W' 0 sp true ts vs ds ps
  | [], vs, ds, ps, _, h, _, _ => by
    obtain ⟨rfl, rfl, rfl⟩ := trodAll_nil h
    exact trodAll_mk0
  | t :: ts, vs, ds, ps, hr, h, hlt, hs => by
    obtain ⟨v, vs1, d, ds1, p, q, rfl, rfl, rfl, h1, h2⟩ := trodAll_cons h
    unfold readAll at hr
    rw [List.all_cons, Bool.and_eq_true, Bool.and_eq_true] at hr
    obtain ⟨⟨hr1, hr2⟩, hr3⟩ := hr
    refine trodAll_cons_mk ?_ (stays_all hl hB ts vs1 ds1 q hr3 h2 (fun x hx => hlt x (by simp [hx])) (fun x hx => hs x (by simp [hx])))
    exact WideElems.Trod_stays hl hr1 (of_decide_eq_true hr2) h1 (fun x hx => hB.same (hlt x (by simp [hx]))) (fun x hx => hs x (by simp [hx]))

theorem spot_of {a : Addr} {v : Value} (h : W.cell? (a.add 0) = some v) : ∃ g o, a = ⟨g, o, none⟩ := by
  have := World.cell?_spot h
  obtain ⟨g, o, s⟩ := a
  simp [Addr.add] at this
  subst this
  exact ⟨g, o, rfl⟩
theorem add_at (g o n : Nat) : (⟨g, o, none⟩ : Addr).add n = ⟨g, o + n, none⟩ := by
  unfold Addr.add
  split
  · simp_all
  · rfl

theorem open_texts {t e : TypeId} {base : Nat} {v : Value} {d : DataW H} {p : List MemPlace} (ht : P.underlying t = some (.slice e)) (he : P.underlying e = some .string) (hc : P.cellsOf e = 1)
    (hval : Value.okWide P W .any base t v) (h : DataW.Trod enc P W 0 (fun _ => true) true t v d p) :
    ∃ (A : Option Addr) (ss : List ByteArray) (c : Nat), v = .slice A ss.length c ∧ ss.length ≤ c ∧ c ≤ maxLen ∧ (∀ s ∈ ss, s.size ≤ maxLen) ∧ (0 < ss.length → ∃ g o, A = some ⟨g, o, none⟩ ∧ ∀ i (h : i < ss.length), W.cell? ⟨g, o + i, none⟩ = some (.string ss[i])) := by
  obtain ⟨A, n, c, rfl⟩ := okWide_slice ht hval
  obtain ⟨fuel, hf⟩ := h
  rcases open_strs ht he hc hf with ⟨hcs, _⟩ | ⟨a, len, cap, m, Sx, hcs, _, hl, hm, hmm, _, hcell⟩
  · have h3 : A = none ∧ n = 0 ∧ c = 0 := by simpa [Value.cells] using hcs
    obtain ⟨rfl, rfl, rfl⟩ := h3
    exact ⟨none, [], 0, rfl, Nat.le_refl _, by unfold maxLen; omega, by simp, fun h => absurd h (by simp)⟩
  · have h3 : A = some a ∧ n = len ∧ c = cap := by simpa [Value.cells] using hcs
    obtain ⟨rfl, rfl, rfl⟩ := h3
    simp only [if_true] at hmm
    refine ⟨some a, (List.range n).map Sx, c, by simp, by simpa using hl, hm, ?_, ?_⟩
    · intro s hs
      simp only [List.mem_map, List.mem_range] at hs
      obtain ⟨i, hi, rfl⟩ := hs
      exact (hcell i (by omega)).2
    · intro hpos
      simp only [List.length_map, List.length_range] at hpos
      obtain ⟨g, o, rfl⟩ := spot_of (hcell 0 (by omega)).1
      refine ⟨g, o, rfl, fun i hi => ?_⟩
      simp only [List.length_map, List.length_range] at hi
      have := (hcell i (by omega)).1
      rw [add_at] at this
      simpa using this

/-- structs of three fields: a boolean, a byte, a text -/
theorem open_bus {t e tb tu ts : TypeId} {fs : Array Field} {base : Nat} {v : Value} {d : DataW H} {p : List MemPlace} (ht : P.underlying t = some (.slice e)) (he : P.underlying e = some (.struct fs)) (hc : P.cellsOf e = 3)
    (hfs : fs.toList.map (fun f => (f.type, f.offset)) = [(tb, 0), (tu, 1), (ts, 2)]) (ub : P.underlying tb = some .bool) (uu : P.underlying tu = some (.int .u8)) (us : P.underlying ts = some .string) (kb : P.cellsOf tb = 1) (ku : P.cellsOf tu = 1) (ks : P.cellsOf ts = 1)
    (hval : Value.okWide P W .any base t v) (h : DataW.Trod enc P W 0 (fun _ => true) true t v d p) :
    ∃ (A : Option Addr) (l : List (Bool × UInt8 × ByteArray)) (c : Nat), v = .slice A l.length c ∧ l.length ≤ c ∧ c ≤ maxLen ∧ (∀ x ∈ l, x.2.2.size ≤ maxLen) ∧
      (0 < l.length → ∃ g o, A = some ⟨g, o, none⟩ ∧ ∀ i (h : i < l.length), W.cell? ⟨g, o + i * 3, none⟩ = some (.bool l[i].1) ∧ W.cell? ⟨g, o + i * 3 + 1, none⟩ = some (.int .u8 l[i].2.1.toNat) ∧ W.cell? ⟨g, o + i * 3 + 2, none⟩ = some (.string l[i].2.2)) := by
  obtain ⟨A, n, c, rfl⟩ := okWide_slice ht hval
  obtain ⟨fuel, hf⟩ := h
  rcases open_slice ht hf with ⟨hcs, _⟩ | ⟨a, len, cap, m, k, D, Pl, hcs, _, hl, hm, hmm, _, hel⟩
  · have h3 : A = none ∧ n = 0 ∧ c = 0 := by simpa [Value.cells] using hcs
    obtain ⟨rfl, rfl, rfl⟩ := h3
    exact ⟨none, [], 0, rfl, Nat.le_refl _, by unfold maxLen; omega, by simp, fun h => absurd h (by simp)⟩
  · have h3 : A = some a ∧ n = len ∧ c = cap := by simpa [Value.cells] using hcs
    obtain ⟨rfl, rfl, rfl⟩ := h3
    simp only [if_true] at hmm
    have each : ∀ i, i < n → ∃ x : Bool × UInt8 × ByteArray, x.2.2.size ≤ maxLen ∧ W.cell? ((a.add (i * 3)).add 0) = some (.bool x.1) ∧ W.cell? ((a.add (i * 3)).add 1) = some (.int .u8 x.2.1.toNat) ∧ W.cell? ((a.add (i * 3)).add 2) = some (.string x.2.2) := by
      intro i hi
      obtain ⟨cs', h1, h2⟩ := hel i (by omega)
      rw [hc] at h1
      obtain ⟨_, hlen, hat⟩ := World.cells?_some h1
      obtain ⟨xs, k', _, _, _, hxl, hx⟩ := DataW.trod_struct he h2
      obtain ⟨fl⟩ := fs
      rcases fl with _ | ⟨f0, _ | ⟨f1, _ | ⟨f2, _ | ⟨f3, fl⟩⟩⟩⟩
      all_goals simp only [List.map_nil, List.map_cons, List.cons.injEq, Prod.mk.injEq, reduceCtorEq, and_false, and_true, false_and] at hfs
      obtain ⟨⟨t0, z0⟩, ⟨t1, z1⟩, t2, z2⟩ := hfs
      match cs', hlen with
      | [v0, v1, v2], _ =>
        match xs, hxl with
        | [y0, y1, y2], _ =>
          have g0 := hx 0 f0 rfl
          have g1 := hx 1 f1 rfl
          have g2 := hx 2 f2 rfl
          rw [t0, z0, kb] at g0
          rw [t1, z1, ku] at g1
          rw [t2, z2, ks] at g2
          obtain ⟨b, e0, _⟩ := DataW.trod_bool ub g0
          obtain ⟨u, e1, _, hw⟩ := DataW.trod_int uu g1
          obtain ⟨s, e2, _, hs⟩ := DataW.trod_string us g2
          simp only [List.drop_zero, List.drop_succ_cons, List.take_succ_cons, List.take_zero, List.cons.injEq, and_true] at e0 e1 e2
          subst e0; subst e1; subst e2
          simp only [Lit.wf, IntKind.has, Bool.and_eq_true, decide_eq_true_eq] at hw
          have hu0 : 0 ≤ u ∧ u ≤ 255 := ⟨hw.1, hw.2⟩
          have hu : ((UInt8.ofNat u.toNat).toNat : Int) = u := by
            rw [UInt8.toNat_ofNat']
            have : u.toNat < 256 := by omega
            rw [Nat.mod_eq_of_lt (by simpa using this)]
            omega
          refine ⟨(b, UInt8.ofNat u.toNat, s), hs, (hat 0 (by omega)).trans rfl, (hat 1 (by omega)).trans ?_, (hat 2 (by omega)).trans rfl⟩
          show some (Value.int .u8 u) = some (.int .u8 ((UInt8.ofNat u.toNat).toNat : Int))
          rw [hu]
    obtain ⟨F, hF⟩ := choose_lt each
    refine ⟨some a, (List.range n).map F, c, by simp, by simpa using hl, hm, ?_, ?_⟩
    · intro x hx
      simp only [List.mem_map, List.mem_range] at hx
      obtain ⟨i, hi, rfl⟩ := hx
      exact (hF i hi).1
    · intro hpos
      simp only [List.length_map, List.length_range] at hpos
      have h00 := (hF 0 hpos).2.1
      have h000 : W.cell? (a.add 0) = some (.bool (F 0).1) := by simpa [Addr.add] using h00
      obtain ⟨g, o, rfl⟩ := spot_of h000
      refine ⟨g, o, rfl, fun i hi => ?_⟩
      simp only [List.length_map, List.length_range] at hi
      obtain ⟨_, q0, q1, q2⟩ := hF i hi
      rw [add_at, add_at] at q0 q1 q2
      simpa using ⟨q0, q1, q2⟩
end
end Go.Proofs.YtlkeomcillencaaGreat
end
