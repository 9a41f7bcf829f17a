/- Texts of this proof, one behind the other. -/
import Derived.Test.YtkbgpajconhgjaaGreatDoorPersonLinesG5
import Derived.Test.YtkbgpajconhgjaaGreatDoorPersonLinesG1
import Derived.Test.YtkbgpajconhgjaaGreatDoorPersonLinesG4
import Derived.Test.YtkbgpajconhgjaaGreatDoorPersonLinesG3
import Derived.Deep.RegionHeld3
import Derived.Laws.EntriesVeiled
set_option linter.unusedVariables false
set_option linter.unusedSimpArgs false
section
/- Regions that draw their order, whose last operation (number z: a store) waits for what reads: what is held need not hold behind it. -/
namespace Go.Proofs.YtkbgpajconhgjaaGreatDoor
open Go Go.RowKit

/-- does z wait for i? -/
def waitsFor (md : Region.Mode) (ops : Array Oper) (z i : Nat) : Bool := match ops[z]? with
  | some o => o.after.any fun e => Region.binds md e && e.on == i
  | none => false
section
variable {P : Program} {md : Region.Mode} {ops : Array Oper} {Q : Exit → Act → World → Prop} {S : World → Prop} {z : Nat}
/-- whatever order is picked; S holds behind all but z -/
def wpAnyZ (P : Program) (md : Region.Mode) (ops : Array Oper) (Q : Exit → Act → World → Prop) (S : World → Prop) (z : Nat) : Nat → Array Bool → Act → World → Prop
  | 0, listed, a, w => Region.ready md ops listed = [] ∧ Q .normal a w
  | fuel + 1, listed, a, w => (Region.ready md ops listed = [] → Q .normal a w) ∧
    ∀ i ∈ Region.ready md ops listed, wpOp P ops Q i (fun a' w' => (i ≠ z → S w') ∧ wpAnyZ P md ops Q S z fuel (listed.setIfInBounds i true) a' w') a w
theorem wpAny_of_z : ∀ (fuel : Nat) (listed : Array Bool) (a : Act) (w : World), wpAnyZ P md ops Q S z fuel listed a w → wpAny P md ops Q fuel listed a w
  | 0, _, _, _, h => h
  | fuel + 1, _, _, _, h => ⟨h.1, fun i hi => wpOp_mono (fun _ _ h' => wpAny_of_z fuel _ _ _ h'.2) (h.2 i hi)⟩
theorem waits_not {i j : Nat} {listed : Array Bool} (hz : waitsFor md ops z i = true) (hr : i ∈ Region.ready md ops listed) (hj : j ∈ Region.ready md ops listed) : j ≠ z := by
  rintro rfl
  obtain ⟨_, oj, hoj, hall⟩ := mem_ready.1 hj
  unfold waitsFor at hz
  rw [hoj] at hz
  simp only [Array.any_eq_true'] at hz
  obtain ⟨e, he, hb⟩ := hz
  rw [Bool.and_eq_true, beq_iff_eq] at hb
  have h1 := hall e he hb.1
  have h0 := (mem_ready.1 hr).1
  rw [hb.2] at h1
  rcases Nat.lt_or_ge i listed.size with h' | h'
  · simp [h'] at h0 h1; rw [h0] at h1; cases h1
  · simp [Array.getElem?_eq_none h'] at h1
theorem wpAnyZ_first {i : Nat} {oi : Oper} {v : Value} (hi : ops[i]? = some oi) (hsel : ∀ (j : Nat) (o : Oper) cs b, ops[j]? = some o → o.op ≠ .select cs b)
    (hQ : ∀ c a w, Q (.panic c) (a.put oi.dst v) w → Q (.panic c) a w) (hz : waitsFor md ops z i = true) : ∀ (fuel : Nat) (listed : Array Bool) (a : Act) (w : World),
      (∀ j oj, ops[j]? = some oj → j ≠ i → listed.getD j true = false → (∀ e ∈ oj.after, Region.binds md e = true → e.on ≠ i) → oi.apart ops oj = true) →
      i ∈ Region.ready md ops listed → YieldsIf P ops S oi v a → S w → wpAnyZ P md ops Q S z fuel (listed.setIfInBounds i true) (a.put oi.dst v) w → wpAnyZ P md ops Q S z (fuel + 1) listed a w := by
  intro fuel
  induction fuel with
  | zero =>
    intro listed a w _ hr hy hS H
    refine ⟨fun h => (by rw [h] at hr; cases hr), fun j hj => ?_⟩
    by_cases hji : j = i
    · subst hji
      exact hy.wpOp hi hS ⟨fun _ => hS, H⟩
    · have h1 := ready_mono hj hji
      rw [H.1] at h1
      cases h1
  | succ fuel ih =>
    intro listed a w hfree hr hy hS H
    refine ⟨fun h => (by rw [h] at hr; cases hr), fun j hj => ?_⟩
    by_cases hji : j = i
    · subst hji
      exact hy.wpOp hi hS ⟨fun _ => hS, H⟩
    · have hjz := waits_not hz hr hj
      have h1 := H.2 j (ready_mono hj hji)
      obtain ⟨hjun, oj, hoj, hall⟩ := mem_ready.1 hj
      have hnot : ∀ e ∈ oj.after, Region.binds md e = true → e.on ≠ i := fun e he hb heq => by
        have h1 := hall e he hb
        have h0 := (mem_ready.1 hr).1
        rw [heq] at h1
        rcases Nat.lt_or_ge i listed.size with h' | h'
        · simp [h'] at h0 h1; rw [h0] at h1; cases h1
        · simp [Array.getElem?_eq_none h'] at h1
      have h2 := wpOp_putIf hoj (hfree j oj hoj hji hjun hnot) (fun cs b => hsel i oi cs b hi) (fun cs b => hsel j oj cs b hoj) hQ hy h1
      refine wpOp_mono (fun a' w' h3 => ⟨h3.2.1, ih (listed.setIfInBounds j true) a' w' (fun k ok hk hki hun hno => hfree k ok hk hki ?_ hno) (ready_mono hr (Ne.symm hji)) h3.1 (h3.2.1 hjz) ?_⟩) h2
      · by_cases hjk : j = k
        · subst hjk; exact hjun
        · rw [getD_set_ne true hjk] at hun; exact hun
      · rw [Array.setIfInBounds_comm _ _ hji]
        exact h3.2.2
/-- what yields in every world that is held -/
theorem wpAnyZ_read {i : Nat} {oi : Oper} (v : Value) {fuel : Nat} {listed : Array Bool} {a : Act} {w : World} (hi : ops[i]? = some oi)
    (hs : Region.noSelect ops = true) (hf : Region.free md ops listed i = true) (hr : (Region.ready md ops listed).contains i = true) (hz : waitsFor md ops z i = true)
    (hQ : ∀ c a w, Q (.panic c) (a.put oi.dst v) w → Q (.panic c) a w) (hw : Region.wanted oi (yielded ops a.tmps) = true) (hS : S w)
    (hy : ∀ w, S w → (execOp a.eval oi).run P w = .ok (.value v) w)
    (h : wpAnyZ P md ops Q S z fuel (listed.setIfInBounds i true) (a.put oi.dst v) w) : wpAnyZ P md ops Q S z (fuel + 1) listed a w :=
  wpAnyZ_first hi (Region.noSelect_spec hs) hQ hz fuel listed a w (Region.free_spec hi hf) (by simpa using hr) (Or.inl ⟨hw, hy⟩) hS h
/-- one alone may come up: a call, a slice that is made -/
theorem wpAnyZ_one {i : Nat} {o : Oper} {fuel : Nat} {listed : Array Bool} {a : Act} {w : World} (hr : Region.ready md ops listed = [i]) (ho : ops[i]? = some o) (hw : Region.wanted o (yielded ops a.tmps) = true)
    (h : ∀ K' : Act → World → Prop, Shut (∀ a w, S w → (S w → wpAnyZ P md ops Q S z fuel (listed.setIfInBounds i true) a w) → K' a w) → Oper.wp P o a w K' Q) : wpAnyZ P md ops Q S z (fuel + 1) listed a w :=
  ⟨fun h0 => absurd (hr ▸ h0) (by simp), by
    rw [hr]
    intro j hj
    obtain rfl := List.mem_singleton.1 hj
    exact wpOp_step ho fun K' hK => by rw [if_pos hw]; exact h K' fun a w hS hW => hK a w ⟨fun _ => hS, hW hS⟩⟩
/-- z comes up -/
theorem wpAnyZ_last {o : Oper} {fuel : Nat} {listed : Array Bool} {a : Act} {w : World} (hr : Region.ready md ops listed = [z]) (ho : ops[z]? = some o) (hw : Region.wanted o (yielded ops a.tmps) = true)
    (h : ∀ K' : Act → World → Prop, Shut (∀ a w, wpAnyZ P md ops Q S z fuel (listed.setIfInBounds z true) a w → K' a w) → Oper.wp P o a w K' Q) : wpAnyZ P md ops Q S z (fuel + 1) listed a w :=
  ⟨fun h0 => absurd (hr ▸ h0) (by simp), by
    rw [hr]
    intro j hj
    obtain rfl := List.mem_singleton.1 hj
    exact wpOp_step ho fun K' hK => by rw [if_pos hw]; exact h K' fun a w hW => hK a w ⟨fun e => absurd rfl e, hW⟩⟩
theorem wpAnyZ_done {listed : Array Bool} {a : Act} {w : World} (hr : Region.ready md ops listed = []) (h : Q .normal a w) : ∀ fuel, wpAnyZ P md ops Q S z fuel listed a w
  | 0 => ⟨hr, h⟩
  | _ + 1 => ⟨fun _ => h, by rw [hr]; simp⟩
theorem wp_region_z (S : World → Prop) (z : Nat) {id : Nat} {a : Act} {w : World} (hm : P.follows .mixedOrders = true) (hS : S w.drew)
    (h : S w.drew → wpAnyZ P .any ops Q S z ops.size (Array.replicate ops.size false) a w.drew) : (Code.region id ops true).wp P Q a w :=
  wp_region_any hm (wpAny_of_z _ _ _ _ (h hS))
/-- append whose run is known -/
theorem wp_app_run {P : Program} {W W' : World} {o : Oper} {a : Act} {K : Act → World → Prop} {Q : Exit → Act → World → Prop} (s x : Operand) (t tx : TypeId)
    (ho : o.op = .call { callee := .builtin .append, args := #[s, x], argTypes := #[t, tx] }) {v : Value} (hr : (Builtin.append_ #[t, tx] o.type #[a.eval s, a.eval x]).run P W = .ok v W') (h : K (a.put o.dst v) W') : Oper.wp P o a W K Q := by
  unfold Oper.wp execOp
  simp only [ho, resolve, invoke, builtin, Sem.run_bind, Sem.run_pure, Result.andThen_ok, List.map_toArray, List.map_cons, List.map_nil, hr]
  exact h
end
end Go.Proofs.YtkbgpajconhgjaaGreatDoor
end
section
/- Regions that draw their order, anywhere (a loop's round over a function too), walked op by op in one way, where the fence lets every function by: what only reads may be taken first; S holds behind every operation but the last (number z), which waits for what reads. -/
namespace Go.Proofs.YtkbgpajconhgjaaGreatDoor
open Go Go.RowKit

section
variable {F : Fence} {n : Nat} {P : Program} {md : Region.Mode} {ops : Array Oper} {Q : Exit → Act → World → Prop} {S : World → Prop} {z : Nat}
theorem wpOpIn_putIf {j : Nat} {oi oj : Oper} {v : Value} (hF : ∀ f, F.fn f) (hnd : noDefer ops = true) (hj : ops[j]? = some oj) (hap : oi.apart ops oj = true)
    (hsi : ∀ cs b, oi.op ≠ .select cs b) (hsj : ∀ cs b, oj.op ≠ .select cs b)
    (hQ : ∀ c a w, Q (.panic c) (a.put oi.dst v) w → Q (.panic c) a w) {K : Act → World → Prop} {a : Act} {w : World}
    (hy : YieldsIf P ops S oi v a) (h : wpOpIn F n P ops Q j K (a.put oi.dst v) w) :
    wpOpIn F n P ops Q j (fun a' w' => YieldsIf P ops S oi v a' ∧ K (a'.put oi.dst v) w') a w := by
  obtain ⟨h1, h2, h3⟩ := Oper.apart_spec hap
  have keep : ∀ (a : Act), YieldsIf P ops S oi v a → ∀ u, YieldsIf P ops S oi v (a.put oj.dst u) := fun a hy u =>
    hy.of_same (execOp_put oi hsi a oj.dst u h3) (wanted_put oi a oj.dst u h3)
  have keepD : ∀ d, YieldsIf P ops S oi v { a with defers := d :: a.defers } := fun d => hy.of_same rfl rfl
  have hnj := noDefer_spec hnd hj
  unfold wpOpIn at *
  simp only [hj] at *
  rw [wanted_put oj a oi.dst v h1, about_put oj w a oi.dst v h1] at h
  split
  · rename_i hw
    simp only [hw, if_true] at h
    unfold Oper.wpIn at *
    rw [about_put oj w a oi.dst v h1] at h
    refine ⟨h.1, ?_⟩
    have h := h.2
    rw [Oper.semAt_eq _ _ _ hnj, execOp_put oj hsj a oi.dst v h1] at h
    rw [Oper.semAt_eq _ _ _ hnj]
    generalize (execOp a.eval oj).run P w = r at *
    cases r with
    | ok x w' =>
      cases x <;> simp only [Oper.uponIn] at h ⊢
      case value u => exact ⟨keep a hy u, by rw [← Act.put_comm a v u h2]; exact h⟩
      case skip => exact ⟨keep a hy _, by rw [← Act.put_comm a v undef h2]; exact h⟩
      case defer d =>
        refine ⟨keep _ (keepD d) _, ?_⟩
        rw [← Act.put_comm _ v undef h2, ← Act.put_defers]
        exact h
      case enter f args =>
        refine ⟨h.1, CallsIn.mono h.2 fun e w'' he => ?_⟩
        cases e with
        | returned u => exact ⟨keep a hy u, by rw [← Act.put_comm a v u h2]; exact he⟩
        | panicked c => exact hQ _ _ _ he
        | outgrown => exact he
      case row row args => exact ⟨h.1, RowsIn.mono h.2 fun u w'' he => ⟨keep a hy u, by rw [← Act.put_comm a v u h2]; exact he⟩⟩
      case round l f tmps assign body =>
        refine ⟨h.1, RoundIn.mono h.2 fun e w'' he => ?_⟩
        cases e with
        | returned u => exact ⟨keep a hy u, by rw [← Act.put_comm a v u h2]; exact he⟩
        | panicked c => exact hQ _ _ _ he
        | outgrown => exact he
    | halt x w' =>
      cases x <;> simp only [Oper.uponIn] at h ⊢
      case panic u => exact hQ _ _ _ h
  · rename_i hw
    simp only [hw] at h
    exact ⟨h.1, keep a hy _, by rw [← Act.put_comm a v undef h2]; exact h.2⟩
theorem yieldsIf_wpOpIn {i : Nat} {o : Oper} {v : Value} {a : Act} (hF : ∀ f, F.fn f) (hnd : noDefer ops = true) (hi : ops[i]? = some o) (hy : YieldsIf P ops S o v a)
    {K : Act → World → Prop} {w : World} (hS : S w) (h : K (a.put o.dst v) w) : wpOpIn F n P ops Q i K a w := by
  unfold wpOpIn
  simp only [hi]
  rcases hy with ⟨hw, hv⟩ | ⟨hw, rfl⟩
  · simp only [hw, if_true, Oper.wpIn]
    refine ⟨fun f _ => hF f, ?_⟩
    rw [Oper.semAt_eq _ _ _ (noDefer_spec hnd hi), hv w hS]
    exact h
  · simp only [hw, Bool.false_eq_true, if_false]; exact ⟨fun f _ => hF f, h⟩
/-- whatever order is picked; S holds behind all but z -/
def wpAnyI (F : Fence) (n : Nat) (P : Program) (md : Region.Mode) (ops : Array Oper) (Q : Exit → Act → World → Prop) (S : World → Prop) (z : Nat) : Nat → Array Bool → Act → World → Prop
  | 0, listed, a, w => Region.ready md ops listed = [] ∧ Q .normal a w
  | fuel + 1, listed, a, w => (Region.ready md ops listed = [] → Q .normal a w) ∧
    ∀ i ∈ Region.ready md ops listed, wpOpIn F n P ops Q i (fun a' w' => (i ≠ z → S w') ∧ wpAnyI F n P md ops Q S z fuel (listed.setIfInBounds i true) a' w') a w
theorem wpAnyIn_of_i : ∀ (fuel : Nat) (listed : Array Bool) (a : Act) (w : World), wpAnyI F n P md ops Q S z fuel listed a w → wpAnyIn F n P md ops Q fuel listed a w
  | 0, _, _, _, h => h
  | fuel + 1, _, _, _, h => ⟨h.1, fun i hi => wpOpIn_mono (fun _ _ h' => wpAnyIn_of_i fuel _ _ _ h'.2) (h.2 i hi)⟩
theorem wpAnyI_first {i : Nat} {oi : Oper} {v : Value} (hF : ∀ f, F.fn f) (hnd : noDefer ops = true) (hi : ops[i]? = some oi) (hsel : ∀ (j : Nat) (o : Oper) cs b, ops[j]? = some o → o.op ≠ .select cs b)
    (hQ : ∀ c a w, Q (.panic c) (a.put oi.dst v) w → Q (.panic c) a w) (hz : waitsFor md ops z i = true) : ∀ (fuel : Nat) (listed : Array Bool) (a : Act) (w : World),
      (∀ j oj, ops[j]? = some oj → j ≠ i → listed.getD j true = false → (∀ e ∈ oj.after, Region.binds md e = true → e.on ≠ i) → oi.apart ops oj = true) →
      i ∈ Region.ready md ops listed → YieldsIf P ops S oi v a → S w → wpAnyI F n P md ops Q S z fuel (listed.setIfInBounds i true) (a.put oi.dst v) w → wpAnyI F n P md ops Q S z (fuel + 1) listed a w := by
  intro fuel
  induction fuel with
  | zero =>
    intro listed a w _ hr hy hS H
    refine ⟨fun h => (by rw [h] at hr; cases hr), fun j hj => ?_⟩
    by_cases hji : j = i
    · subst hji
      exact yieldsIf_wpOpIn hF hnd hi hy hS ⟨fun _ => hS, H⟩
    · have h1 := ready_mono hj hji
      rw [H.1] at h1
      cases h1
  | succ fuel ih =>
    intro listed a w hfree hr hy hS H
    refine ⟨fun h => (by rw [h] at hr; cases hr), fun j hj => ?_⟩
    by_cases hji : j = i
    · subst hji
      exact yieldsIf_wpOpIn hF hnd hi hy hS ⟨fun _ => hS, H⟩
    · have hjz := waits_not hz hr hj
      have h1 := H.2 j (ready_mono hj hji)
      obtain ⟨hjun, oj, hoj, hall⟩ := mem_ready.1 hj
      have hnot : ∀ e ∈ oj.after, Region.binds md e = true → e.on ≠ i := fun e he hb heq => by
        have h1 := hall e he hb
        have h0 := (mem_ready.1 hr).1
        rw [heq] at h1
        rcases Nat.lt_or_ge i listed.size with h' | h'
        · simp [h'] at h0 h1; rw [h0] at h1; cases h1
        · simp [Array.getElem?_eq_none h'] at h1
      have h2 := wpOpIn_putIf hF hnd hoj (hfree j oj hoj hji hjun hnot) (fun cs b => hsel i oi cs b hi) (fun cs b => hsel j oj cs b hoj) hQ hy h1
      refine wpOpIn_mono (fun a' w' h3 => ⟨h3.2.1, ih (listed.setIfInBounds j true) a' w' (fun k ok hk hki hun hno => hfree k ok hk hki ?_ hno) (ready_mono hr (Ne.symm hji)) h3.1 (h3.2.1 hjz) ?_⟩) h2
      · by_cases hjk : j = k
        · subst hjk; exact hjun
        · rw [getD_set_ne true hjk] at hun; exact hun
      · rw [Array.setIfInBounds_comm _ _ hji]
        exact h3.2.2
/-- what yields in every world that is held -/
theorem wpAnyI_read {i : Nat} {oi : Oper} (v : Value) {fuel : Nat} {listed : Array Bool} {a : Act} {w : World} (hF : ∀ f, F.fn f) (hnd : noDefer ops = true) (hi : ops[i]? = some oi)
    (hs : Region.noSelect ops = true) (hf : Region.free md ops listed i = true) (hr : (Region.ready md ops listed).contains i = true) (hz : waitsFor md ops z i = true)
    (hQ : ∀ c a w, Q (.panic c) (a.put oi.dst v) w → Q (.panic c) a w) (hw : Region.wanted oi (yielded ops a.tmps) = true) (hS : S w)
    (hy : ∀ w, S w → (execOp a.eval oi).run P w = .ok (.value v) w)
    (h : wpAnyI F n P md ops Q S z fuel (listed.setIfInBounds i true) (a.put oi.dst v) w) : wpAnyI F n P md ops Q S z (fuel + 1) listed a w :=
  wpAnyI_first hF hnd hi (Region.noSelect_spec hs) hQ hz fuel listed a w (Region.free_spec hi hf) (by simpa using hr) (Or.inl ⟨hw, hy⟩) hS h
/-- what is guarded, and not wanted -/
theorem wpAnyI_pass {i : Nat} {oi : Oper} {fuel : Nat} {listed : Array Bool} {a : Act} {w : World} (hF : ∀ f, F.fn f) (hnd : noDefer ops = true) (hi : ops[i]? = some oi)
    (hs : Region.noSelect ops = true) (hf : Region.free md ops listed i = true) (hr : (Region.ready md ops listed).contains i = true) (hz : waitsFor md ops z i = true)
    (hQ : ∀ c a w, Q (.panic c) (a.put oi.dst undef) w → Q (.panic c) a w) (hw : Region.wanted oi (yielded ops a.tmps) = false) (hS : S w)
    (h : wpAnyI F n P md ops Q S z fuel (listed.setIfInBounds i true) (a.put oi.dst undef) w) : wpAnyI F n P md ops Q S z (fuel + 1) listed a w :=
  wpAnyI_first hF hnd hi (Region.noSelect_spec hs) hQ hz fuel listed a w (Region.free_spec hi hf) (by simpa using hr) (Or.inr ⟨hw, rfl⟩) hS h
/-- one alone may come up: a call, a slice that is made -/
theorem wpAnyI_one {i : Nat} {o : Oper} {fuel : Nat} {listed : Array Bool} {a : Act} {w : World} (hr : Region.ready md ops listed = [i]) (ho : ops[i]? = some o) (hw : Region.wanted o (yielded ops a.tmps) = true)
    (h : ∀ K' : Act → World → Prop, Shut (∀ a w, S w → (S w → wpAnyI F n P md ops Q S z fuel (listed.setIfInBounds i true) a w) → K' a w) → Oper.wpIn F n P o a w K' Q) : wpAnyI F n P md ops Q S z (fuel + 1) listed a w :=
  ⟨fun h0 => absurd (hr ▸ h0) (by simp), by
    rw [hr]
    intro j hj
    obtain rfl := List.mem_singleton.1 hj
    exact wpOpIn_step ho fun K' hK => by rw [if_pos hw]; exact h K' fun a w hS hW => hK a w ⟨fun _ => hS, hW hS⟩⟩
/-- z comes up -/
theorem wpAnyI_last {o : Oper} {fuel : Nat} {listed : Array Bool} {a : Act} {w : World} (hr : Region.ready md ops listed = [z]) (ho : ops[z]? = some o) (hw : Region.wanted o (yielded ops a.tmps) = true)
    (h : ∀ K' : Act → World → Prop, Shut (∀ a w, wpAnyI F n P md ops Q S z fuel (listed.setIfInBounds z true) a w → K' a w) → Oper.wpIn F n P o a w K' Q) : wpAnyI F n P md ops Q S z (fuel + 1) listed a w :=
  ⟨fun h0 => absurd (hr ▸ h0) (by simp), by
    rw [hr]
    intro j hj
    obtain rfl := List.mem_singleton.1 hj
    exact wpOpIn_step ho fun K' hK => by rw [if_pos hw]; exact h K' fun a w hW => hK a w ⟨fun e => absurd rfl e, hW⟩⟩
theorem wpAnyI_done {listed : Array Bool} {a : Act} {w : World} (hr : Region.ready md ops listed = []) (h : Q .normal a w) : ∀ fuel, wpAnyI F n P md ops Q S z fuel listed a w
  | 0 => ⟨hr, h⟩
  | _ + 1 => ⟨fun _ => h, by rw [hr]; simp⟩
theorem wpIn_region_i (S : World → Prop) (z : Nat) {id : Nat} {a : Act} {w : World} (hm : P.follows .mixedOrders = true) (hS : S w.drew)
    (h : S w.drew → wpAnyI F n P .any ops Q S z ops.size (Array.replicate ops.size false) a w.drew) : (Code.region id ops true).wpIn F n P Q a w :=
  wpIn_region_any hm (wpAnyIn_of_i _ _ _ _ (h hS))
/-- append whose run is known -/
theorem wpIn_app_run {W W' : World} {o : Oper} {a : Act} {K : Act → World → Prop} (s x : Operand) (t tx : TypeId)
    (ho : o.op = .call { callee := .builtin .append, args := #[s, x], argTypes := #[t, tx] }) {v : Value} (hr : (Builtin.append_ #[t, tx] o.type #[a.eval s, a.eval x]).run P W = .ok v W') (h : K (a.put o.dst v) W') : Oper.wpIn F n P o a W K Q := by
  unfold Oper.wpIn
  refine ⟨?_, ?_⟩
  · simp [Oper.about, ho, resolve, Target.leads, Sem.run_pure]
  · rw [Oper.semAt_plain F _ _ (by rw [ho]; intro c hc'; cases hc')]
    simp [execOp, ho, resolve, invoke, builtin, hr, Result.andThen]
    exact h
end
/-- one element more, that lies in the newest block: as a run -/
theorem run_one_t {P : Program} {W : World} (base : Nat) (t ty e : TypeId) (i : TypeInfo) (z : Value) (size bytes : Nat) (ht : P.underlying t = some (.slice e)) (hi : P.info? e = some i) (hz : i.zero = some z)
    (hsize : i.size = size) (hby : i.bytes = bytes) (hzs : z.cells.size = size) (hsz : 0 < size) (v : Value) (n : Nat) (xs : List Value) (hown : W.ownsRow base e size v n xs)
    (cs : Array Value) (hl : cs.size = size) (h1 : ∀ u ∈ cs.toList, u.oneCell' = true) (hn : n + 1 ≤ 1000000000) (hbs : bytes ≤ 1000) (hbase : base ≤ W.heap.size) :
    ∃ v' w', (Builtin.append_ #[t, t] ty #[v, .slice (some ⟨W.heap.size, 0, none⟩) 1 1]).run P (W.alloc (.cells cs e)) = .ok v' w' ∧ w'.ownsRow base e size v' (n + 1) (xs ++ cs.toList) ∧ Fr (fun k => v.ownBlock = some k) W w' ∧ (∀ k, v'.ownBlock = some k → v.ownBlock = some k ∨ W.heap.size ≤ k) := by
  have hnb : (n + 1) * bytes ≤ 140737488355328 := Nat.le_trans (Nat.mul_le_mul hn hbs) (by decide)
  have h63 : n + 1 ≤ maxLen := by unfold maxLen; omega
  have hx : (hown.alloc (.cells cs e)) = hown.alloc (.cells cs e) := rfl
  have hl1 : cs.toList.length = 1 * size := by simpa using hl
  obtain ⟨v', w', hr, h2, h3, h4⟩ := run_append_own (P := P) (W.alloc (.cells cs e)) base t ty e i z size bytes ht hi hz hsize hby hzs hsz v n xs (hown.alloc _) ⟨W.heap.size, 0, none⟩ 1 1 cs.toList hl1 (cells_new W cs e) h1 h63 hnb (by simp; omega)
  have htie := run_append_tie (W.alloc (.cells cs e)) base t ty e i z size bytes ht hi hz hsize hby v n xs (hown.alloc _) ⟨W.heap.size, 0, none⟩ 1 1 cs.toList hl1 (cells_new W cs e) h1 h63 hnb hr
  refine ⟨v', w', hr, h2, (((Fr.refl _ W).alloc _).grown h3 fun k hk => .inr hk), fun k hk => (htie k hk).imp id fun e => by simp at e; omega⟩
end Go.Proofs.YtkbgpajconhgjaaGreatDoor
end
section
/- A range over a function that tells a row xs, one by one: the body is told that what comes is the next of the row. Blocks Y: what the function that ranges reads and the body leaves alone; blocks X among them: what it writes between the rounds. -/
namespace Go.Proofs.YtkbgpajconhgjaaGreatDoor
open Go Go.RowKit

/-- a region that does not panic, where what is owed at a panic hangs on the frame -/
theorem wpIn_noPanic {F : Fence} {n : Nat} {P : Program} {Q : Exit → Act → World → Prop} {a : Act} {w : World} {id : Nat} {ops : Array Oper} {b : Bool} (h : (Code.region id ops b).wpIn F n P (NoPanic Q) a w) : (Code.region id ops b).wpIn F n P Q a w :=
  wpIn_mono h fun e _ _ hq => by
    cases e with
    | panic ch => exact hq.elim
    | _ => exact hq
/-- what a function that ranges is worth, if it tells the row xs -/
def SeqT {α : Type} (F : Fence) (n : Nat) (P : Program) (g : Nat) (lb : Array Value) (encs : α → Array Value) (X Y : Nat → Prop) (xs : List α) (w : World) : Prop :=
  ∀ (l : Nat) (J Jx : List α → World → Prop) (V : World), Below w.heap.size w V → AbX X V.heap.size J → AbX X V.heap.size Jx →
    (∀ pre x r V1, pre ++ x :: r = xs → J pre V1 → YieldAt F (n - 1) P l (encs x) V1 fun e V' => (e = .returned (.bool true) ∧ J (pre ++ [x]) V' ∧ SameX Y V1 V') ∨ (e = .returned (.bool false) ∧ Jx (pre ++ [x]) V')) →
    J [] V → CallsIn F n P g (#[.func (.yield l) #[] #[]] ++ lb) V fun e V' => (∃ v, e = .returned v) ∧ (J xs V' ∨ ∃ pre r, pre ++ r = xs ∧ Jx pre V')
/-- how a round of the body ends -/
def EndT {α : Type} (B : Nat) (Y : Nat → Prop) (I : List α → World → Prop) (Ix : Code → List α → World → Prop) (xs : List α) (V : World) : Exit → Act → World → Prop
  | .normal, _, V' => KeepsFrom B V V' ∧ SameX Y V V' ∧ I xs V'
  | .ret, _, V' => KeepsFrom B V V' ∧ Ix .ret xs V'
  | .exit id, _, V' => KeepsFrom B V V' ∧ Ix (.exit id) xs V'
  | .goto t, _, V' => KeepsFrom B V V' ∧ Ix (.goto t) xs V'
  | .panic _, _, _ => False
  | .outgrown, _, _ => False

theorem wpIn_rangeT {F : Fence} {n : Nat} {P : Program} {w : World} {α : Type} {a : Act} {Q : Exit → Act → World → Prop} {g : Operand} {assign body : Code} {ps : Array Tmp} {gf : Nat} {lb : Array Value}
    {X Y : Nat → Prop} {encs : α → Array Value} {xs : List α} {w0 : World} (I : List α → World → Prop) (Ix : Code → List α → World → Prop)
    (hg : a.eval g = .func (.func gf) #[] lb) (hseq : SeqT F (n - 1) P gf lb encs X Y xs w0) (hb0 : Below w0.heap.size w0 w) (hX : ∀ b, X b → b < w.heap.size) (hY : ∀ b, Y b → b < w.heap.size) (hro : F.round = none) (h1 : 1 ≤ n) (hFg : F.fn gf)
    (eg : ∀ args v, (callFunc gf args).run P v = .ok (.enter gf args) v) (hps : ∀ x, (encs x).size = ps.size)
    (hI : OwnFrom w.heap.size I) (hIX : Lets X I) (hIx : ∀ c, OwnFrom w.heap.size (Ix c)) (hIxX : ∀ c, Lets X (Ix c)) (h0 : I [] w)
    (hround : ∀ l pre x r V0 V (K : Act → World → Prop), w.heap.size ≤ l → (∃ r, V.heap[l]? = some (.loop r)) → pre ++ x :: r = xs → I pre V → (∀ a1, body.wpIn (F.inRound l) (n - 1 - 1) P (EndT w.heap.size Y I Ix (pre ++ [x]) V) a1 V → K a1 V0) →
      assign.wpIn (F.inRound l) (n - 1 - 1) P (Exit.then K fun _ _ _ => False) { tmps := (ps.zip (encs x)).foldl (fun t (p, v) => t.setIfInBounds p v) a.tmps, defers := [] } V0)
    (hdone : ∀ D V, w.heap.size ≤ D → I xs V → V.heap[D]? = some (.deferred (some [])) → Q .normal { a with defers := { target := .collected D, args := #[] } :: a.defers } V)
    (hstop : ∀ D c pre r V, w.heap.size ≤ D → pre ++ r = xs → Ix c pre V → V.heap[D]? = some (.deferred (some [])) → c.wpIn F n P Q { a with defers := { target := .collected D, args := #[] } :: a.defers } V) :
    (Code.rangeFunc g ps assign body).wpIn F n P Q a w := by
  refine wpIn_rangeFunc fun fn hfn => ?_
  rw [hro]
  obtain ⟨R, hR⟩ : ∃ R : LoopState → Option Code → Loop, ∀ st pe, R st pe = { state := st, pending := pe, fn := fn, tmps := a.tmps, params := ps, assign := assign, body := body, defers := w.heap.size } := ⟨_, fun _ _ => rfl⟩
  obtain ⟨V1, hV1⟩ : ∃ V1, (w.alloc (.deferred (some []))).alloc (.loop (R .ready none)) = V1 := ⟨_, rfl⟩
  have hz : V1.heap.size = w.heap.size + 2 := by rw [← hV1]; simp
  have bk : Bk (w.heap.size + 1) w.heap.size (R .ready none) V1 := by
    subst hV1
    refine ⟨?_, (Below.heap_alloc _ _ _ (by simp)).trans (World.alloc_heap_new w _)⟩
    have h := World.alloc_heap_new (w.alloc (.deferred (some []))) (.loop (R .ready none))
    rwa [World.size_alloc] at h
  have i1 : I [] V1 := by subst hV1; exact hI.alloc _ (hI.alloc _ h0)
  have bel : Below w0.heap.size w0 V1 := by subst hV1; exact (hb0.alloc hb0.size _).alloc (by rw [World.size_alloc]; have := hb0.size; omega) _
  have hput : ∀ {s : List α} {V : World} {r : Loop} (r' : Loop), I s V → Bk (w.heap.size + 1) w.heap.size r V → I s (V.putObj (w.heap.size + 1) (.loop r')) := fun r' hi hb => hI.putObj _ hi (by omega) hb.1 rfl
  have hputx : ∀ {c : Code} {s : List α} {V : World} {r : Loop} (r' : Loop), Ix c s V → Bk (w.heap.size + 1) w.heap.size r V → Ix c s (V.putObj (w.heap.size + 1) (.loop r')) := fun {c} _ _ _ r' hi hb => (hIx c).putObj _ hi (by omega) hb.1 rfl
  have sput : ∀ (V : World) (r' : Loop), SameX Y V (V.putObj (w.heap.size + 1) (.loop r')) := fun V r' b hb => World.putObj_heap_other (by have := hY b hb; omega)
  have abook : ∀ {V V' : World} {row : Option Nat} {r : Loop}, Bk (w.heap.size + 1) w.heap.size r V → V.grownBy V' row → (∀ r, row = some r → X r ∨ (V1.heap.size ≤ r ∧ ∃ o : Obj, V.heap[r]? = some o ∧ o.isWalk = true)) → Bk (w.heap.size + 1) w.heap.size r V' := fun hb hgr hrow => by
    refine hb.grown hgr (fun e => ?_) (fun e => ?_)
    · rcases hrow _ e.symm with h | h
      · have := hX _ h; omega
      · omega
    · rcases hrow _ e.symm with h | h
      · have := hX _ h; omega
      · omega
  have own : ∀ {J : List α → World → Prop}, OwnFrom w.heap.size J → Lets X J → ∀ {s : List α} {V V' : World} {row : Option Nat}, J s V → V.grownBy V' row → (∀ r, row = some r → X r ∨ (V1.heap.size ≤ r ∧ ∃ o : Obj, V.heap[r]? = some o ∧ o.isWalk = true)) → J s V' := fun hJ hL s V V' row hj hgr hrow => by
    cases row with
    | none => exact hJ s V V' none hj hgr (fun _ e => by cases e)
    | some r =>
      rcases hrow r rfl with h | ⟨h, o, ho, hw⟩
      · exact hL s V V' r h hj hgr
      · exact hJ s V V' (some r) hj hgr (fun _ e => by cases e; exact ⟨by omega, o, ho, Obj.not_cells_of_walk hw⟩)
  refine ⟨w.heap.size + 1, [{ target := .collected w.heap.size, args := #[] }], V1, { target := .fn (.func gf) lb, args := #[.func (.yield (w.heap.size + 1)) #[] #[]] }, V1, gf, #[.func (.yield (w.heap.size + 1)) #[] #[]] ++ lb, V1, ?_, ?_, ?_, ?_, fun _ => h1, ?_⟩
  · rw [← hV1, hR]; exact run_enterLoop_outer _ _ _ _ _
  · simp only [resolve, hg]; simp [go_sem]
  · intro f' hf'; simp [Target.leads] at hf'; subst hf'; exact hFg
  · simp [invoke, go_sem, eg]
  refine (hseq (w.heap.size + 1) (fun pre V => I pre V ∧ Bk (w.heap.size + 1) w.heap.size (R .ready none) V) (fun pre V => ∃ c, Ix c pre V ∧ Bk (w.heap.size + 1) w.heap.size (R .done (some c)) V) V1 bel
    (fun s V V' row hj hgr hrow => ⟨own hI hIX hj.1 hgr hrow, abook hj.2 hgr hrow⟩)
    (fun s V V' row hj hgr hrow => hj.elim fun c hc => ⟨c, own (hIx c) (hIxX c) hc.1 hgr hrow, abook hc.2 hgr hrow⟩) ?round ⟨i1, bk⟩).mono ?behind
  case behind =>
    rintro e V2 ⟨⟨v, rfl⟩, (⟨hi, hb⟩ | ⟨pre, r, hSp, c, hi, hb⟩)⟩
    · have hend := run_endLoop (P := P) hb.1 (by rw [hR]; simp)
      rw [hR] at hend
      exact ⟨none, _, hend, hdone _ _ (Nat.le_refl _) (hput _ hi hb) (hb.put (by omega) _).2⟩
    · have hend := run_endLoop (P := P) hb.1 (by rw [hR]; simp)
      rw [hR] at hend
      exact ⟨some c, _, hend, hstop _ c pre r _ (Nat.le_refl _) hSp (hputx _ hi hb) (hb.put (by omega) _).2⟩
  case round =>
    rintro pre x r V hpx ⟨hi, hb⟩
    have hy := run_yield (P := P) (args := encs x) hb.1 (by rw [hR]; exact hps x)
    rw [hR] at hy
    have hb2 := hb.put (by omega) { R .ready none with state := .busy }
    refine ⟨fn, _, assign, body, hy, roundIn_of_wpIn hfn (hround (w.heap.size + 1) pre x r V _ _ (by omega) ⟨_, hb2.1⟩ hpx (hput _ hi hb) fun a1 hbody => ⟨_, run_beginRound hb.1 (by rw [hR]), ?_⟩)⟩
    refine wpIn_mono hbody ?_
    -- behind the body: the record is turned, whatever the way
    have turn : ∀ (j : Option Code) {V3 : World}, KeepsFrom w.heap.size (V.putObj (w.heap.size + 1) (.loop { R .ready none with state := .busy })) V3 →
        ∃ st, st = (if j.isNone then LoopState.ready else .done) ∧ (Instr.endRound (w.heap.size + 1) j).run P V3 = .ok (.bool j.isNone) (V3.putObj (w.heap.size + 1) (.loop (R st j))) ∧ Bk (w.heap.size + 1) w.heap.size { R .ready none with state := .busy } V3 ∧
          Bk (w.heap.size + 1) w.heap.size (R st j) (V3.putObj (w.heap.size + 1) (.loop (R st j))) := fun j V3 hk => by
      have hb3 := hb2.keeps hk (by omega) (Nat.le_refl _)
      have hend := run_endRound (P := P) j hb3.1
      refine ⟨_, rfl, ?_, hb3, hb3.put (by omega) _⟩
      rw [hend, hR, hR]
    rintro e a3 V3 hp
    cases e with
    | normal =>
      obtain ⟨hk, hs, hi3⟩ := hp
      obtain ⟨st, rfl, hr, hb3, hb4⟩ := turn none hk
      exact ⟨_, _, hr, .inl ⟨rfl, ⟨hput _ hi3 hb3, hb4⟩, ((sput V _).trans hs).trans (sput V3 _)⟩⟩
    | ret =>
      obtain ⟨st, rfl, hr, hb3, hb4⟩ := turn (some .ret) hp.1
      exact ⟨_, _, hr, .inr ⟨rfl, _, hputx _ hp.2 hb3, hb4⟩⟩
    | exit id =>
      obtain ⟨st, rfl, hr, hb3, hb4⟩ := turn (some (.exit id)) hp.1
      exact ⟨_, _, hr, .inr ⟨rfl, _, hputx _ hp.2 hb3, hb4⟩⟩
    | goto t =>
      obtain ⟨st, rfl, hr, hb3, hb4⟩ := turn (some (.goto t)) hp.1
      exact ⟨_, _, hr, .inr ⟨rfl, _, hputx _ hp.2 hb3, hb4⟩⟩
    | panic ch => exact hp.elim
    | outgrown => exact hp.elim
end Go.Proofs.YtkbgpajconhgjaaGreatDoor
end
section
/- Layer 22: Pack. -/
namespace Go.Proofs.YtkbgpajconhgjaaGreatDoor
open Go Go.RowKit Go.Lib
attribute [local go_sem] Oper.semAt_some

/-- the boxes of Pack's loop: the lines so far, the last one -/
def PkI (b1 b2 base ah : Nat) (f : List UInt8 → List UInt8) (pre : List (List UInt8)) (X : Nat → Prop) (W : World) : Prop :=
  ∃ v, W.heap[b1]? = some (.cells #[v] 26 (0, 0)) ∧ OwnT base W v ((packF ah pre).1.map f) ∧ W.heap[b2]? = some (.cells #[.string (bs (packF ah pre).2)] 9 (0, 0)) ∧ (b1 < base ∧ b2 < base) ∧ ∀ k, X k ↔ (k = b1 ∨ k = b2 ∨ v.ownBlock = some k)
theorem pkI_stays (b1 b2 base ah : Nat) (f : List UInt8 → List UInt8) : Stays (PkI b1 b2 base ah f) := fun pre X V V' ⟨v, h1, h2, h3, h4, h5⟩ hl hf =>
  ⟨v, hf.blk h1 (fun e => e ((h5 _).2 (.inl rfl))), ownT_kept h2 fun g hg => hf.block g (h2.lt g hg).2 fun e => e ((h5 g).2 (.inr (.inr hg))), hf.blk h3 (fun e => e ((h5 _).2 (.inr (.inl rfl)))), h4, h5⟩
theorem ownT_fr {base : Nat} {X : Nat → Prop} {w W : World} {v : Value} {xs : List (List UInt8)} (h : OwnT base w v xs) (hf : Fr X w W) (hx : ∀ k, v.ownBlock = some k → ¬ X k) : OwnT base W v xs := ownT_kept h fun g hg => hf.block g (h.lt g hg).2 (hx g hg)
set_option maxRecDepth 100000 in
set_option maxHeartbeats 16000000 in
theorem pack_m (server whom : List UInt8) (n : Nat) (A : Option Addr) (c : Nat) (ps xs : List (List UInt8)) (gf : Nat) (lb : Array Value) (Y : Nat → Prop) (w : World) (hT : TellsF Tryz.prog encL w (.func (.func gf) #[] lb) Y xs) (hx : ∀ x ∈ xs, x.length ≤ 500) (hxl : xs.length ≤ 1000)
    (hR : ReadsT w A ps) (hm : Mx w) (hp : PowW w) (h0 : 1 ≤ n) (h1 : n ≤ 999) (h2 : ps.length ≤ 13) (hsv : server.length ≤ 1000000) (hwh : whom.length ≤ 90000) (h5 : ∀ p ∈ ps, p.length ≤ 90000) (hah : aheadL server whom n ps ≠ 0) :
    Calls Tryz.prog 20 #[.string (bs server), .int .i64 n, .string (bs whom), .slice A ps.length c, .func (.func gf) #[] lb] w fun e w' => ∃ A2 c2, e = .returned (.slice A2 (packL server whom n ps xs).length c2) ∧ ReadsT w' A2 (packL server whom n ps xs) ∧ Below w.heap.size w w' := by
  obtain ⟨i0, hi, hz0, hz1, hz2⟩ := info_parts Tryz.infoT
  obtain ⟨N, hN⟩ : ∃ N, w.heap.size = N := ⟨_, rfl⟩
  obtain ⟨fv, hfv⟩ : ∃ fv, (Value.func (.func 32) #[] #[.pointer (some ⟨N, 0, none⟩), .pointer (some ⟨N + 1, 0, none⟩), .pointer (some ⟨N + 1 + 1, 0, none⟩), .pointer (some ⟨N + 1 + 1 + 1, 0, none⟩)]) = fv := ⟨_, rfl⟩
  obtain ⟨W5, hW5⟩ : ∃ W5, (((((w.alloc (.cells #[.string (bs server)] 9)).alloc (.cells #[.int .i64 n] 3)).alloc (.cells #[.string (bs whom)] 9)).alloc (.cells #[.slice A ps.length c] 26)).alloc (.cells #[.func (.func 32) #[] #[.pointer (some ⟨N, 0, none⟩), .pointer (some ⟨N + 1, 0, none⟩), .pointer (some ⟨N + 1 + 1, 0, none⟩), .pointer (some ⟨N + 1 + 1 + 1, 0, none⟩)]] 53)) = W5 := ⟨_, rfl⟩
  have z5 : W5.heap.size = N + 5 := by rw [← hW5]; simp [hN]
  have f5 : Fr (fun _ => False) w W5 := by rw [← hW5]; exact (((((Fr.refl _ w).alloc _).alloc _).alloc _).alloc _).alloc _
  have k0 : W5.heap[N]? = some (.cells #[.string (bs server)] 9 (0, 0)) := by
    rw [← hW5, ← hN]
    exact blk_alloc (blk_alloc (blk_alloc (blk_alloc (heap_alloc_new w _) _) _) _) _
  have k1 : W5.heap[N + 1]? = some (.cells #[.int .i64 n] 3 (0, 0)) := by
    rw [← hW5, ← hN]
    refine blk_alloc (blk_alloc (blk_alloc ?_ _) _) _
    have := heap_alloc_new (w.alloc (.cells #[.string (bs server)] 9)) (.cells #[.int .i64 n] 3)
    simpa using this
  have k2 : W5.heap[N + 2]? = some (.cells #[.string (bs whom)] 9 (0, 0)) := by
    rw [← hW5, ← hN]
    refine blk_alloc (blk_alloc ?_ _) _
    have := heap_alloc_new ((w.alloc (.cells #[.string (bs server)] 9)).alloc (.cells #[.int .i64 n] 3)) (.cells #[.string (bs whom)] 9)
    simpa using this
  have k3 : W5.heap[N + 3]? = some (.cells #[.slice A ps.length c] 26 (0, 0)) := by
    rw [← hW5, ← hN]
    refine blk_alloc ?_ _
    have := heap_alloc_new (((w.alloc (.cells #[.string (bs server)] 9)).alloc (.cells #[.int .i64 n] 3)).alloc (.cells #[.string (bs whom)] 9)) (.cells #[.slice A ps.length c] 26)
    simpa using this
  have k4 : W5.heap[N + 4]? = some (.cells #[fv] 53 (0, 0)) := by
    rw [← hW5, ← hfv]
    have h9 := heap_alloc_new ((((w.alloc (.cells #[.string (bs server)] 9)).alloc (.cells #[.int .i64 n] 3)).alloc (.cells #[.string (bs whom)] 9)).alloc (.cells #[.slice A ps.length c] 26)) (.cells #[.func (.func 32) #[] #[.pointer (some ⟨N, 0, none⟩), .pointer (some ⟨N + 1, 0, none⟩), .pointer (some ⟨N + 1 + 1, 0, none⟩), .pointer (some ⟨N + 1 + 1 + 1, 0, none⟩)]] 53)
    simp only [World.size_alloc, hN] at h9
    exact h9
  -- a line, in any world that holds the boxes
  have HLine : Hid (∀ (last : List UInt8) (V : World), last.length ≤ 90000 → Fr (fun k => N + 6 ≤ k) W5 V → Calls Tryz.prog 32 #[.string (bs last), .pointer (some ⟨N, 0, none⟩), .pointer (some ⟨N + 1, 0, none⟩), .pointer (some ⟨N + 1 + 1, 0, none⟩), .pointer (some ⟨N + 1 + 1 + 1, 0, none⟩)] V fun e w' => e = .returned (.string (bs (numL server whom n (ps ++ [last])))) ∧ Below V.heap.size V w') := Lib.hid fun last V hl hf => by
    have hno : ∀ k, k < W5.heap.size → ¬ N + 6 ≤ k := fun k hk => by omega
    have hf0 : Fr (fun _ => False) W5 V := ⟨hf.os, hf.tape, hf.output, hf.size, fun i hi _ => hf.block i hi (hno i hi)⟩
    exact line_m server whom last n A c ps V N (N + 1) (N + 2) (N + 3) (hf.blk k0 (hno _ (blk_lt k0))) (hf.blk k1 (hno _ (blk_lt k1))) (hf.blk k2 (hno _ (blk_lt k2))) (hf.blk k3 (hno _ (blk_lt k3))) (readsT_fr0 (readsT_fr0 hR f5) hf0) ((hm.fr f5).fr hf0) ((hp.fr f5).fr hf0) h0 h1 h2 hsv hwh h5 hl
  have hah5 : aheadL server whom n ps ≤ 510 := by unfold aheadL numL makeL; rw [List.length_take]; omega
  obtain ⟨ah, hahv⟩ : ∃ a, aheadL server whom n ps = a := ⟨_, rfl⟩
  have HAh : Hid ((numL server whom n (ps ++ [[]])).length = ah) := Lib.hid hahv
  rw [hahv] at hah hah5
  obtain ⟨f, hf⟩ : ∃ f : List UInt8 → List UInt8, ∀ last, numL server whom n (ps ++ [last]) = f last := ⟨_, fun _ => rfl⟩
  have HP : Hid (packL server whom n ps xs = (rowsP ah (wholeL xs)).map f) := Lib.hid (by unfold packL; rw [hahv]; exact List.map_congr_left fun x _ => hf x)
  simp only [hf] at HLine HAh
  have hTw := hT.fr f5 fun _ _ e => e
  have hmw := hm.fr f5
  have hYw : ∀ b, Y b → b < N := fun b hb => by obtain ⟨_, _, _, _, h3, _⟩ := hT; rw [← hN]; exact h3 b hb
  have hmN : 1 < N := by rw [← hN]; exact mx_lt hm
  have HK := Lib.hid (And.intro k4 (And.intro f5 (And.intro z5 (And.intro hTw (And.intro hmw (And.intro hYw (And.intro hmN (And.intro hah (And.intro hah5 hN)))))))))
  have c4 := blk_cell k4 0
  have HW := Lib.hid hW5
  have HFV := Lib.hid hfv
  clear k0 k1 k2 k3 k4 f5 z5 hW5 hTw hmw hYw hmN hR hm hp hT hahv hf hah hah5 hfv
  refine (callsIn_wide (n := 40)).1 ?_
  refine callsIn_of_wp_marks Tryz.func20 rfl trivial ?_ rfl
  simp only [Tryz.ntmps20, List.size_toArray, List.length_cons, List.length_nil, Nat.reduceAdd, Nat.reduceSub, Array.replicate_succ, Array.replicate_zero, List.push_toArray, List.append_toArray, List.nil_append, List.cons_append]
  gi_wp2_with fail
  refine ⟨trivial, ?_⟩
  rw [HW.out]
  refine (calls_wide (.inl rfl) (HLine.out [] W5 (by simp) (Fr.refl _ _))).mono ?_
  rintro e w2 ⟨rfl, b2⟩
  obtain ⟨q, hq⟩ : ∃ q, f [] = q := ⟨_, rfl⟩
  have hql := HAh.out
  rw [hq] at hql ⊢
  obtain ⟨k4, f5, z5, hTw, hmw, hYw, hmN, hah, hah5, hN⟩ := HK.out
  obtain ⟨M, hM⟩ : ∃ M, w2.heap.size = M := ⟨_, rfl⟩
  have hMN : N + 5 ≤ M := by rw [← hM, ← z5]; exact b2.size
  obtain ⟨W8, hW8⟩ : ∃ W8, ((w2.alloc (.cells #[.int .i64 ah] 3)).alloc (.cells #[.slice none 0 0] 26)).alloc (.cells #[.string ({ data := #[] } : ByteArray)] 9) = W8 := ⟨_, rfl⟩
  have z8 : W8.heap.size = M + 3 := by rw [← hW8]; simp [hM]
  have f8 : Fr (fun _ => False) W5 W8 := by rw [← hW8]; exact (((Fr.of_below b2).alloc _).alloc _).alloc _
  have m0 : W8.heap[M]? = some (.cells #[.int .i64 ah] 3 (0, 0)) := by
    rw [← hW8, ← hM]
    exact blk_alloc (blk_alloc (heap_alloc_new w2 _) _) _
  have m1 : W8.heap[M + 1]? = some (.cells #[.slice none 0 0] 26 (0, 0)) := by
    rw [← hW8, ← hM]
    refine blk_alloc ?_ _
    have := heap_alloc_new (w2.alloc (.cells #[.int .i64 ah] 3)) (.cells #[.slice none 0 0] 26)
    simpa using this
  have m2 : W8.heap[M + 1 + 1]? = some (.cells #[.string (bs [])] 9 (0, 0)) := by
    rw [← hW8, ← hM]
    have h9 := heap_alloc_new ((w2.alloc (.cells #[.int .i64 ah] 3)).alloc (.cells #[.slice none 0 0] 26)) (.cells #[.string ({ data := #[] } : ByteArray)] 9)
    rw [World.size_alloc, World.size_alloc] at h9
    exact h9
  have hfv := HFV.out
  subst hfv
  have k48 := f8.blk k4 fun e => e
  have hT8 := hTw.fr f8 fun _ _ e => e
  have hm8 := hmw.fr f8
  have hza : ((ah : Int) == 0) = false := by rw [beq_eq_false_iff_ne]; omega
  have HWh := Lib.hid (whole_m gf lb W8)
  have H8 := Lib.hid (And.intro m0 (And.intro m1 (And.intro m2 (And.intro k48 (And.intro hT8 (And.intro hm8 (And.intro z8 (And.intro f8 (And.intro hMN hM)))))))))
  have HW8 := Lib.hid hW8
  clear m0 m1 m2 k48 hT8 hm8 z8 f8 hMN hW8 k4 f5 z5 hTw hmw hYw hmN hah hN b2 hq c4
  gi_wp2_with fail
  refine ⟨trivial, ?_⟩
  rw [HW8.out]
  refine (calls_wide (.inl rfl) HWh.out).mono ?_
  rintro e W9 ⟨rfl, hb9, z9, b9⟩
  obtain ⟨m0, m1, m2, k48, hT8, hm8, z8, f8, hMN, hM⟩ := H8.out
  obtain ⟨k4, f5, z5, hTw, hmw, hYw, hmN, hah, hah5, hN⟩ := HK.out
  have f9 : Fr (fun _ => False) W8 W9 := Fr.of_below b9
  rw [z8] at hb9 z9
  have hT9 := hT8.fr f9 fun _ _ e => e
  have hseq := whole_seqF hb9 (hm8.fr f9) (fun x hx2 => Nat.le_trans (hx x hx2) (by omega)) hT9
  have n1 := f9.blk m1 fun e => e
  have n2 := f9.blk m2 fun e => e
  have f59 : Fr (fun _ => False) W5 W9 := f8.trans f9
  have hYl : ∀ b, (b = M + 3 ∨ b = 1 ∨ Y b) → b < W9.heap.size := fun b hb => by
    rcases hb with rfl | rfl | hb
    · omega
    · omega
    · have := hYw b hb; omega
  have hws := whole_ok hx
  have hwl := whole_len xs
  have H9 := Lib.hid (And.intro (f9.blk m0 fun e => e) (And.intro (f9.blk k48 fun e => e) (And.intro f59 (And.intro hws (And.intro (Nat.le_trans hwl hxl) z9)))))
  clear HW HW8 HWh m0 m1 m2 k48 hT8 hm8 f8 k4 f5 hTw hmw hT9 hb9 b9 HFV hws hwl f59
  gi_wp2_with fail
  obtain ⟨base, hbase⟩ : ∃ b, W9.heap.size = b := ⟨_, rfl⟩
  refine wpIn_rangeF (X := fun k => k = M + 1 ∨ k = M + 1 + 1) (Y := fun b => b = M + 3 ∨ b = 1 ∨ Y b) (xs := wholeL xs) (encs := encL) (gf := 51) (lb := #[.pointer (some ⟨M + 3, 0, none⟩)]) (PkI (M + 1) (M + 1 + 1) base ah f) (fun _ _ _ _ => False)
    rfl hseq (fun k hk => ⟨by omega, fun e => by rcases e with e | e | e; omega; omega; (have := hYw k e; omega)⟩) hYl (by omega) (enters_of Tryz.func51 (by kernel_rfl) rfl) (fun _ => rfl)
    (pkI_stays _ _ _ _ _) (fun c s X1 V1 V2 h => h.elim) ⟨_, n1, ownT_nil _ _, n2, ⟨by omega, by omega⟩, fun k => by simp [Value.ownBlock]⟩ ?round ?done (fun _ _ _ _ _ _ _ _ _ _ _ h => h.elim)
  case round =>
    rintro l pre y r X1 V KK rb hl2 hpx hI hG hxl hF hlV hK
    dsimp only [encL]
    have HKK := Lib.hid hK
    have HV := Lib.hid (And.intro hpx (And.intro hI (And.intro hG (And.intro hxl (And.intro hF (And.intro hlV hl2))))))
    have HN0 := Lib.hid (And.intro hMN (And.intro z8 (And.intro hbase (And.intro hmN (And.intro hM (And.intro hN z5))))))
    clear hK hpx hI hG hxl hF hlV hl2 hseq hYl n1 n2 f9 hMN z8 hM z9 hbase hmN hYw hN z5
    gi_wp2_with fail
    refine HKK.out _ _ (Fr.refl _ _) fun Vb hfb hzb hsb hrb => ?_
    clear HKK KK
    obtain ⟨hpx, ⟨v, e1, o1, e2, hlt, hX1⟩, hG, hxl, hF, hlV, hl2⟩ := HV.out
    obtain ⟨m0, k4, f59, hws, hwl, z9⟩ := H9.out
    obtain ⟨hMN, z8, hbase, hmN, hM, hN, z5⟩ := HN0.out
    obtain ⟨hy5, hy0⟩ := hws y (by rw [← hpx]; simp)
    have hpre : ∀ w ∈ pre, w.length ≤ 500 ∧ w ≠ [] := fun w hw => hws w (by rw [← hpx]; simp [hw])
    have hpl : pre.length + 1 ≤ (wholeL xs).length := by
      have := congrArg List.length hpx
      simp at this; omega
    obtain ⟨hPk, hPl⟩ := pkOk_all (ah := ah) hpre
    have hsn := packF_snoc ah pre y
    obtain ⟨s, hs⟩ : ∃ s, packF ah pre = s := ⟨_, rfl⟩
    rw [hs] at hPk hPl hsn o1 e2
    obtain ⟨rs, la⟩ := s
    dsimp only at o1 e2 hPl
    obtain ⟨hla, hrs, hemp⟩ := hPk
    dsimp only at hla hrs hemp
    have hXM : ∀ k, X1 k → k = M + 1 ∨ k = M + 1 + 1 ∨ base ≤ k := fun k hk => by
      rcases (hX1 k).1 hk with h | h | h
      · exact .inl h
      · exact .inr (.inl h)
      · exact .inr (.inr (o1.lt k h).1)
    have hfV : Fr (fun k => k = l) V Vb := hfb
    have n0 := hfV.blk (hF.blk m0 (by show ¬ (M = M + 1 ∨ M = M + 1 + 1); omega)) (by omega : ¬ M = l)
    have n4 := hfV.blk (hF.blk k4 (by show ¬ (N + 4 = M + 1 ∨ N + 4 = M + 1 + 1); omega)) (by omega : ¬ N + 4 = l)
    have n1 := hfV.blk e1 (by omega : ¬ M + 1 = l)
    have n2 := hfV.blk e2 (by omega : ¬ M + 1 + 1 = l)
    have ob : OwnT base Vb v (rs.map f) := ownT_fr o1 hfV fun k hk e => hxl ((hX1 l).2 (.inr (.inr (e ▸ hk))))
    have hzs : Vb.heap.size = V.heap.size := hzb
    have c0 := blk_cell n0 0
    have c4 := blk_cell n4 0
    have c1 := blk_cell n1 0
    have c2 := blk_cell n2 0
    have g2 := blk_free n2 0
    have hnn : ∀ k, v.ownBlock = some k → k ≠ M + 1 ∧ k ≠ M + 1 + 1 ∧ k ≠ l := fun k hk => by
      have := (o1.lt k hk).1
      exact ⟨by omega, by omega, fun e => hxl ((hX1 l).2 (.inr (.inr (e ▸ hk))))⟩
    have hfW : Fr (fun k => N + 6 ≤ k) W5 Vb := ((f59.mono (Y := fun k => N + 6 ≤ k) fun _ _ e => e.elim).trans3 hF fun k _ e => by
      rcases e with e | e <;> omega).trans3 hfV fun k hk e => by
        have : base ≤ l := by rw [← hbase]; exact hl2
        omega
    have HE := Lib.hid (And.intro hX1 (And.intro hG (And.intro hxl (And.intro hfV (And.intro hrb (And.intro n1 (And.intro n2 (And.intro ob (And.intro hzs (And.intro hlV (And.intro hlt (And.intro hnn (And.intro hfW hl2)))))))))))))
    -- a new last word in its box
    have HStore : Hid (∀ (la2 : List UInt8), packS ah (rs, la) y = (rs, la2) → EndF l rb X1 (PkI (M + 1) (M + 1 + 1) base ah f) (fun _ _ _ _ => False) (pre ++ [y]) V .normal { tmps := #[], defers := [] } (Vb.setCell ⟨M + 1 + 1, 0, none⟩ (.string (bs la2)))) := Lib.hid fun la2 hp => by
      refine ⟨X1, fun k hk => ⟨by rw [World.size_setCell, hzs]; exact (hG k hk).1 |> fun h => by have := (hG k hk).1; omega, fun _ => hk⟩, ((hfV.mono (Y := fun k => k = l ∨ X1 k) fun k _ e => .inl e).setCell _ (.inr ((hX1 _).2 (.inr (.inl rfl)))) _), blk_other hrb _ (by simp; omega) _, ?_⟩
      refine ⟨v, blk_other n1 _ (by simp) _, ?_, ?_, hlt, hX1⟩
      · rw [hsn, hp]
        exact ownT_kept ob fun g hg => heap_setCell_other Vb _ g _ fun e => by have := (hnn g hg).2.1; simp at e; omega
      · rw [hsn, hp]
        exact blk_set n2 0 _
    have HFin := Lib.hid (And.intro hy5 (And.intro hy0 (And.intro hla (And.intro hsn hemp))))
    have HD : Hid ((rs.map f).length ≤ 1000) := Lib.hid (by rw [List.length_map]; omega)
    clear hpx e1 o1 e2 hlt hX1 hG hxl hF hlV hl2 m0 k4 f59 hws hwl hpre hpl hPl hsn hs hXM hfV n0 n4 n1 n2 ob hnn hfW hfb hzb hsb hrb hzs z9 hMN z8 hbase hmN hM hN z5
    cases la with
    | nil =>
      have hq : Hid (packS ah (rs, []) y = (rs, y)) := Lib.hid (if_pos rfl)
      have e0 : bs ([] : List UInt8) = ({ data := #[] } : ByteArray) := rfl
      rw [e0] at c2
      clear e0
      have hy5 := HFin.out.1
      gi_wp2_with fail
      exact HStore.out y hq.out
    | cons a0 ar =>
      have hemp1 := str_ne (s := bs (a0 :: ar)) (by simp)
      have hal : ar.length + 1 ≤ 510 := by have := HFin.out.2.2.1; simpa using this
      have hy5 := HFin.out.1
      by_cases hfit : ah + (a0 :: ar).length + 1 + y.length ≤ 510
      · have hq : Hid (packS ah (rs, a0 :: ar) y = (rs, (a0 :: ar) ++ 32 :: y)) := Lib.hid (by unfold packS; rw [if_neg (by simp), if_pos hfit])
        have hcat : Hid (bs (a0 :: ar) ++ (({ data := #[32] } : ByteArray) ++ bs y) = bs ((a0 :: ar) ++ 32 :: y)) := Lib.hid (ba_ext (by simp))
        have hi1 : (ah : Int) + ((ar.length : Int) + 1) + 1 + y.length ≤ 510 := by simp only [List.length_cons] at hfit; omega
        clear hfit
        gi_wp2_with fail
        have := HStore.out _ hq.out
        rw [← hcat.out] at this
        exact this
      · have hq : Hid (packS ah (rs, a0 :: ar) y = (rs ++ [a0 :: ar], y)) := Lib.hid (by unfold packS; rw [if_neg (by simp), if_neg hfit])
        have hi1 : ¬ (ah : Int) + ((ar.length : Int) + 1) + 1 + y.length ≤ 510 := by simp only [List.length_cons] at hfit; omega
        have HLd := Lib.hid (HLine.out (a0 :: ar) Vb.drew (by simp; omega) (HE.out.2.2.2.2.2.2.2.2.2.2.2.2.1.drew))
        obtain ⟨ln, hln⟩ : ∃ ln, f (a0 :: ar) = ln := ⟨_, rfl⟩
        rw [hln] at HLd
        have HLN := Lib.hid hln
        obtain ⟨D, hD⟩ : ∃ D, rs.map f = D := ⟨_, rfl⟩
        rw [hD] at HD
        have HDD := Lib.hid hD
        have HO0 : Hid (Vb.ownsRow base 9 1 v D.length (D.map encT)) := Lib.hid (hD ▸ HE.out.2.2.2.2.2.2.2.1)
        have HE1 := Lib.hid HE.out.2.2.2.2.2.1
        have HNN : Hid (∀ k, v.ownBlock = some k → k ≠ M + 1) := Lib.hid fun k hk => (HE.out.2.2.2.2.2.2.2.2.2.2.2.1 k hk).1
        have HN2 : Hid (∀ k, v.ownBlock = some k → k ≠ M + 1 + 1) := Lib.hid fun k hk => (HE.out.2.2.2.2.2.2.2.2.2.2.2.1 k hk).2.1
        have HBZ : Hid (base ≤ Vb.heap.size) := Lib.hid (by
          have h1 := HE.out.2.2.2.2.2.2.2.2.1
          have h2 := HE.out.2.2.2.2.2.2.2.2.2.1
          have h3 := HN0.out.2.2.1
          have h4 := HV.out.2.2.2.2.1.size
          omega)
        have HBV : Hid (∀ W, Fr (fun k => v.ownBlock = some k) Vb W → W.cell? ⟨M + 1, 0, none⟩ = some v ∧ W.cell? ⟨N + 4, 0, none⟩ = some (Value.func (.func 32) #[] #[.pointer (some ⟨N, 0, none⟩), .pointer (some ⟨N + 1, 0, none⟩), .pointer (some ⟨N + 1 + 1, 0, none⟩), .pointer (some ⟨N + 1 + 1 + 1, 0, none⟩)]) ∧ W.cell? ⟨M + 1 + 1, 0, none⟩ = some (.string (bs (a0 :: ar)))) := Lib.hid fun W hf => by
          have hn := HE.out.2.2.2.2.2.2.2.2.2.2.2.1
          have hlow : ¬ v.ownBlock = some (N + 4) := fun e => by
            have h1 := (HO0.out.lt _ e).1
            have h2 := HN0.out.1
            have h3 := HN0.out.2.1
            have h4 := HN0.out.2.2.1
            have h5 := H9.out.2.2.2.2.2
            omega
          exact ⟨(hf.cell (p := ⟨M + 1, 0, none⟩) (World.block_lt_of_cell? _ _ c1) fun e => (hn _ e).1 rfl).trans c1, (hf.cell (p := ⟨N + 4, 0, none⟩) (World.block_lt_of_cell? _ _ c4) hlow).trans c4, (hf.cell (p := ⟨M + 1 + 1, 0, none⟩) (World.block_lt_of_cell? _ _ c2) fun e => (hn _ e).2.1 rfl).trans c2⟩
        have hdl := HD.out
        have HFq := Lib.hid hq.out
        clear hfit hln hD
        gi_wp2_with fail
        refine wpIn_region_i (S := fun W => Fr (fun k => v.ownBlock = some k) Vb W) 6 (by kernel_rfl) (by exact (Fr.refl _ Vb).drew) (fun hHeld => ?_)
        refine wpAnyI_read (i := 0) (oi := { dst := some 25, op := Go.Op.load 26 (Go.Operand.tmp 13), type := 26, pos := "reply.go:121", after := #[], guard := none }) ?_ (fun _ => trivial) (by kernel_rfl) rfl (by kernel_rfl) (by kernel_rfl) (by kernel_rfl) (by kernel_rfl) (fun _ _ _ h => h) (by rfl) (by assumption) ?_ ?_
        rotate_left
        · (intro w0 hS0; obtain ⟨s0, s1, s2⟩ := HBV.out w0 hS0; go_simp <;> (try with_reducible rfl))
        try simp only [Act.put, List.setIfInBounds_toArray, List.set_cons_zero, List.set_cons_succ]
        refine wpAnyI_read (i := 1) (oi := { dst := some 26, op := Go.Op.load 53 (Go.Operand.tmp 11), type := 53, pos := "reply.go:121", after := #[], guard := none }) ?_ (fun _ => trivial) (by kernel_rfl) rfl (by kernel_rfl) (by kernel_rfl) (by kernel_rfl) (by kernel_rfl) (fun _ _ _ h => h) (by rfl) (by assumption) ?_ ?_
        rotate_left
        · (intro w0 hS0; obtain ⟨s0, s1, s2⟩ := HBV.out w0 hS0; go_simp <;> (try with_reducible rfl))
        try simp only [Act.put, List.setIfInBounds_toArray, List.set_cons_zero, List.set_cons_succ]
        refine wpAnyI_read (i := 2) (oi := { dst := some 27, op := Go.Op.load 9 (Go.Operand.tmp 14), type := 9, pos := "reply.go:121", after := #[], guard := none }) ?_ (fun _ => trivial) (by kernel_rfl) rfl (by kernel_rfl) (by kernel_rfl) (by kernel_rfl) (by kernel_rfl) (fun _ _ _ h => h) (by rfl) (by assumption) ?_ ?_
        rotate_left
        · (intro w0 hS0; obtain ⟨s0, s1, s2⟩ := HBV.out w0 hS0; go_simp <;> (try with_reducible rfl))
        try simp only [Act.put, List.setIfInBounds_toArray, List.set_cons_zero, List.set_cons_succ]
        refine wpAnyI_one (i := 3) (o := { dst := some 28, op := Go.Op.call { callee := Go.Callee.value (Go.Operand.tmp 26), args := #[Go.Operand.tmp 27], argTypes := #[9] }, type := 9, pos := "reply.go:121", after := #[{ on := 1, ground := Go.Ground.data }, { on := 2, ground := Go.Ground.data }], guard := none }) (by kernel_rfl) rfl (by rfl) (fun K hK => ?_)
        go_simp
        refine ⟨trivial, (calls_wide (.inr ⟨l, rfl⟩) (HLd.out)).mono ?_⟩
        rintro e Wa ⟨rfl, ba⟩
        have fa : Fr (fun _ => False) Vb Wa := (Fr.refl (fun _ => False) Vb).drew.trans (Fr.of_below ba)
        have HA := Lib.hid fa
        clear ba fa
        gi_wp2_with fail
        refine hK.out _ _ ?_ (fun hHeld => ?_)
        · exact HA.out.mono fun _ _ e => e.elim
        clear hK K
        try simp only [Act.put, List.setIfInBounds_toArray, List.set_cons_zero, List.set_cons_succ]
        have HO := Lib.hid (run_one_t (P := Tryz.prog) (W := Wa) base 26 26 9 i0 _ 1 16 Tryz.underlying26 hi hz0 hz1 hz2 rfl (by decide) v D.length (D.map encT) (row_same HO0.out fun g hg => HA.out.block g (HO0.out.lt g hg).2 fun e => e) #[.string (bs ln)] rfl (by intro u hu; simp at hu; subst hu; rfl) (by omega) (by decide) (Nat.le_trans HBZ.out HA.out.size))
        refine wpAnyI_one (i := 4) (o := { dst := some 29, op := Go.Op.buildSlice 26 1 #[(0, Go.Operand.tmp 28)], type := 26, pos := "reply.go:121", after := #[{ on := 3, ground := Go.Ground.data }], guard := none }) (by kernel_rfl) rfl (by rfl) (fun K hK => ?_)
        go_simp
        refine hK.out _ _ ?_ (fun hHeld => ?_)
        · exact (HA.out.mono (Y := fun k => v.ownBlock = some k) fun _ _ e => e.elim).alloc _
        clear hK K
        try simp only [Act.put, List.setIfInBounds_toArray, List.set_cons_zero, List.set_cons_succ]
        refine wpAnyI_one (i := 5) (o := { dst := some 30, op := Go.Op.call { callee := Go.Callee.builtin Go.Builtin.append, args := #[Go.Operand.tmp 25, Go.Operand.tmp 29], argTypes := #[26, 26] }, type := 26, pos := "reply.go:121", after := #[{ on := 0, ground := Go.Ground.data }, { on := 4, ground := Go.Ground.data }, { on := 3, ground := Go.Ground.chain }], guard := none }) (by kernel_rfl) rfl (by rfl) (fun K hK => ?_)
        obtain ⟨v1, W6, hr6, hown1, hfr1, htie⟩ := HO.out
        have hfrA : Fr (fun k => v.ownBlock = some k) Vb W6 := (HA.out.mono (Y := fun k => v.ownBlock = some k) fun _ _ e => e.elim).trans3 hfr1 fun _ _ e => e
        refine wpIn_app_run _ _ _ _ rfl (v := v1) (W' := W6) (by exact hr6) ?_
        refine hK.out _ _ ?_ (fun hHeld => ?_)
        · exact hfrA
        clear hK K
        try simp only [Act.put, List.setIfInBounds_toArray, List.set_cons_zero, List.set_cons_succ]
        obtain ⟨A1, c1', rfl⟩ := row_slice hown1
        have e1 : W6.heap[M + 1]? = some (.cells #[v] 26 (0, 0)) := hfrA.blk HE1.out fun e => HNN.out _ e rfl
        have g1 := blk_cell e1 0
        have g2 := blk_free e1 0
        have e3 := hfrA.blk HE.out.2.2.2.2.2.2.1 fun e => HN2.out _ e rfl
        have g3 := blk_cell e3 0
        have g4 := blk_free e3 0
        refine wpAnyI_last (o := { dst := none, op := Go.Op.store 26 (Go.Operand.tmp 13) (Go.Operand.tmp 30), type := 0, pos := "reply.go:121", after := #[{ on := 5, ground := Go.Ground.data }, { on := 5, ground := Go.Ground.chain }, { on := 0, ground := Go.Ground.phase }, { on := 1, ground := Go.Ground.phase }, { on := 2, ground := Go.Ground.phase }, { on := 3, ground := Go.Ground.phase }, { on := 4, ground := Go.Ground.phase }, { on := 5, ground := Go.Ground.phase }], guard := none }) (by kernel_rfl) rfl (by rfl) (fun K hK => ?_)
        go_simp
        refine hK.out _ _ ?_
        clear hK K
        try simp only [Act.put, List.setIfInBounds_toArray, List.set_cons_zero, List.set_cons_succ]
        refine wpAnyI_done (by kernel_rfl) ?_ _
        gi_wp2_with fail
        obtain ⟨hX1, hG, hxl, hfV, hrb, n1, n2, ob, hzs, hlV, hlt, hnn, hfW, hl2⟩ := HE.out
        have hown2 : OwnT base W6 (.slice A1 (D.length + 1) c1') (D ++ [ln]) := ownT_snoc hown1
        have hsn := HFin.out.2.2.2.1
        have hnx : ∀ k, (Value.slice A1 (D.length + 1) c1').ownBlock = some k → k ≠ M + 1 ∧ k ≠ M + 1 + 1 := fun k hk => by
          have h1 := (hown2.lt k hk).1
          exact ⟨by omega, by omega⟩
        have hfr : Fr (fun k => k = l ∨ X1 k) V ((W6.setCell ⟨M + 1, 0, none⟩ (.slice A1 (D.length + 1) c1')).setCell ⟨M + 1 + 1, 0, none⟩ (.string (bs y))) :=
          (((hfV.mono (Y := fun k => k = l ∨ X1 k) fun k _ e => .inl e).trans3 hfrA fun k _ e => .inr ((hX1 k).2 (.inr (.inr e)))).setCell _ (.inr ((hX1 _).2 (.inl rfl))) _).setCell _ (.inr ((hX1 _).2 (.inr (.inl rfl)))) _
        have hz6 := hfrA.size
        have hsz : ((W6.setCell ⟨M + 1, 0, none⟩ (.slice A1 (D.length + 1) c1')).setCell ⟨M + 1 + 1, 0, none⟩ (.string (bs y))).heap.size = W6.heap.size := by simp
        refine ⟨fun k => k = M + 1 ∨ k = M + 1 + 1 ∨ (Value.slice A1 (D.length + 1) c1').ownBlock = some k, fun k hk => ?_, hfr, ?_, .slice A1 (D.length + 1) c1', ?_, ?_, ?_, hlt, fun k => Iff.rfl⟩
        · rw [hsz]
          rcases hk with rfl | rfl | hk
          · exact ⟨blk_lt e1, fun _ => (hX1 _).2 (.inl rfl)⟩
          · exact ⟨blk_lt e3, fun _ => (hX1 _).2 (.inr (.inl rfl))⟩
          · refine ⟨(hown2.lt k hk).2, fun hlt2 => ?_⟩
            rcases htie k hk with e | e
            · exact (hX1 k).2 (.inr (.inr e))
            · have := HA.out.size; omega
        · have hl3 : ¬ v.ownBlock = some l := fun e => (hnn l e).2.2 rfl
          have hl1 : ¬ l = M + 1 := fun e => hxl ((hX1 l).2 (.inl e))
          have hl2' : ¬ l = M + 1 + 1 := fun e => hxl ((hX1 l).2 (.inr (.inl e)))
          exact blk_other (blk_other (hfrA.blk hrb hl3) _ (by simp; omega) _) _ (by simp; omega) _
        · exact blk_other (blk_set e1 0 _) _ (by simp) _
        · rw [hsn, HFq.out]
          show OwnT base _ _ ((rs ++ [a0 :: ar]).map f)
          rw [List.map_append, HDD.out, List.map_cons, List.map_nil, HLN.out]
          exact ownT_kept hown2 fun g hg => (heap_setCell_other _ _ g _ fun e => by have := (hnx g hg).2; simp at e; omega).trans (heap_setCell_other _ _ g _ fun e => by have := (hnx g hg).1; simp at e; omega)
        · rw [hsn, HFq.out]
          exact blk_set (blk_other e3 _ (by simp) _) 0 _
  case done =>
    rintro D0 X2 Vb hD hxD hG hF ⟨v, e1, o1, e2, hlt, hX2⟩ hdef
    obtain ⟨m0, k4, f59, hws, hwl, z9'⟩ := H9.out
    obtain ⟨k4', f5, z5', hTw, hmw, hYw', hmN', hah, hah5, hN'⟩ := HK.out
    obtain ⟨hPk, hPl⟩ := pkOk_all (ah := ah) hws
    have HPP := HP.out
    unfold rowsP at HPP
    obtain ⟨s, hs⟩ : ∃ s, packF ah (wholeL xs) = s := ⟨_, rfl⟩
    rw [hs] at hPk hPl o1 e2 HPP
    obtain ⟨rs, la⟩ := s
    dsimp only at o1 e2 hPl HPP
    obtain ⟨hla, hrs, hemp⟩ := hPk
    dsimp only at hla hrs hemp
    have n4 := hF.blk k4 (by show ¬ (N + 4 = M + 1 ∨ N + 4 = M + 1 + 1); omega)
    have c4 := blk_cell n4 0
    have c1 := blk_cell e1 0
    have c2 := blk_cell e2 0
    have hnn : ∀ k, v.ownBlock = some k → k ≠ M + 1 ∧ k ≠ M + 1 + 1 ∧ k ≠ D0 := fun k hk => by
      have := (o1.lt k hk).1
      exact ⟨by omega, by omega, fun e => hxD ((hX2 D0).2 (.inr (.inr (e ▸ hk))))⟩
    have hfW : Fr (fun k => N + 6 ≤ k) W5 Vb := (f59.mono (Y := fun k => N + 6 ≤ k) fun _ _ e => e.elim).trans3 hF fun k _ e => by
      rcases e with e | e <;> omega
    have hfN : Fr (fun k => N ≤ k) w Vb := (f5.mono (Y := fun k => N ≤ k) fun _ _ e => e.elim).trans3 hfW fun k _ e => by omega
    have HLd := Lib.hid (HLine.out la Vb.drew (by omega) hfW.drew)
    obtain ⟨ln, hln⟩ : ∃ ln, f la = ln := ⟨_, rfl⟩
    rw [hln] at HLd
    have HD : Hid ((rs.map f).length ≤ 1000) := Lib.hid (by rw [List.length_map]; omega)
    obtain ⟨D, hDD⟩ : ∃ D, rs.map f = D := ⟨_, rfl⟩
    rw [hDD] at HD o1
    have HPk : Hid (packL server whom n ps xs = D ++ [ln]) := Lib.hid (by rw [HPP, List.map_append, hDD, List.map_cons, List.map_nil, hln])
    have HO0 : Hid (Vb.ownsRow base 9 1 v D.length (D.map encT)) := Lib.hid o1
    have hbz : base ≤ Vb.heap.size := by rw [← hbase]; exact hF.size
    have HBZ := Lib.hid hbz
    have HBV : Hid (∀ W, Fr (fun k => v.ownBlock = some k) Vb W → W.cell? ⟨M + 1, 0, none⟩ = some v ∧ W.cell? ⟨N + 4, 0, none⟩ = some (Value.func (.func 32) #[] #[.pointer (some ⟨N, 0, none⟩), .pointer (some ⟨N + 1, 0, none⟩), .pointer (some ⟨N + 1 + 1, 0, none⟩), .pointer (some ⟨N + 1 + 1 + 1, 0, none⟩)]) ∧ W.cell? ⟨M + 1 + 1, 0, none⟩ = some (.string (bs la))) := Lib.hid fun W hf => by
      have hlow : ¬ v.ownBlock = some (N + 4) := fun e => by have h1 := (o1.lt _ e).1; omega
      exact ⟨(hf.cell (p := ⟨M + 1, 0, none⟩) (World.block_lt_of_cell? _ _ c1) fun e => (hnn _ e).1 rfl).trans c1, (hf.cell (p := ⟨N + 4, 0, none⟩) (World.block_lt_of_cell? _ _ c4) hlow).trans c4, (hf.cell (p := ⟨M + 1 + 1, 0, none⟩) (World.block_lt_of_cell? _ _ c2) fun e => (hnn _ e).2.1 rfl).trans c2⟩
    have hMb : N ≤ base := by omega
    have HE := Lib.hid (And.intro hdef (And.intro hnn (And.intro hfN (And.intro hD (And.intro hMb (And.intro hN' o1))))))
    have hdl := HD.out
    clear hTw hmw hYw' hmN' hah hPl HPP hs hrs hemp n4 hnn hfW hfN hln hDD hbz hdef hxD hG hF hlt hX2 e1 e2 o1 hMb hN' f5 z5' f59 hws hwl z9' m0 k4 k4' hD hseq hYl n1 n2 f9
    gi_wp2_with fail
    refine wpIn_noPanic ?_
    refine wpIn_region_i (S := fun W => Fr (fun k => v.ownBlock = some k) Vb W) 6 (by kernel_rfl) (by exact (Fr.refl _ Vb).drew) (fun hHeld => ?_)
    refine wpAnyI_read (i := 0) (oi := { dst := some 50, op := Go.Op.load 26 (Go.Operand.tmp 13), type := 26, pos := "reply.go:125", after := #[], guard := none }) ?_ (fun _ => trivial) (by kernel_rfl) rfl (by kernel_rfl) (by kernel_rfl) (by kernel_rfl) (by kernel_rfl) (fun _ _ _ h => h) (by rfl) (by assumption) ?_ ?_
    rotate_left
    · (intro w0 hS0; obtain ⟨s0, s1, s2⟩ := HBV.out w0 hS0; go_simp <;> (try with_reducible rfl))
    try simp only [Act.put, List.setIfInBounds_toArray, List.set_cons_zero, List.set_cons_succ]
    refine wpAnyI_read (i := 1) (oi := { dst := some 51, op := Go.Op.load 53 (Go.Operand.tmp 11), type := 53, pos := "reply.go:125", after := #[], guard := none }) ?_ (fun _ => trivial) (by kernel_rfl) rfl (by kernel_rfl) (by kernel_rfl) (by kernel_rfl) (by kernel_rfl) (fun _ _ _ h => h) (by rfl) (by assumption) ?_ ?_
    rotate_left
    · (intro w0 hS0; obtain ⟨s0, s1, s2⟩ := HBV.out w0 hS0; go_simp <;> (try with_reducible rfl))
    try simp only [Act.put, List.setIfInBounds_toArray, List.set_cons_zero, List.set_cons_succ]
    refine wpAnyI_read (i := 2) (oi := { dst := some 52, op := Go.Op.load 9 (Go.Operand.tmp 14), type := 9, pos := "reply.go:125", after := #[], guard := none }) ?_ (fun _ => trivial) (by kernel_rfl) rfl (by kernel_rfl) (by kernel_rfl) (by kernel_rfl) (by kernel_rfl) (fun _ _ _ h => h) (by rfl) (by assumption) ?_ ?_
    rotate_left
    · (intro w0 hS0; obtain ⟨s0, s1, s2⟩ := HBV.out w0 hS0; go_simp <;> (try with_reducible rfl))
    try simp only [Act.put, List.setIfInBounds_toArray, List.set_cons_zero, List.set_cons_succ]
    refine wpAnyI_one (i := 3) (o := { dst := some 53, op := Go.Op.call { callee := Go.Callee.value (Go.Operand.tmp 51), args := #[Go.Operand.tmp 52], argTypes := #[9] }, type := 9, pos := "reply.go:125", after := #[{ on := 1, ground := Go.Ground.data }, { on := 2, ground := Go.Ground.data }], guard := none }) (by kernel_rfl) rfl (by rfl) (fun K hK => ?_)
    go_simp
    refine ⟨trivial, (calls_wide (.inl rfl) (HLd.out)).mono ?_⟩
    rintro e Wa ⟨rfl, ba⟩
    have fa : Fr (fun _ => False) Vb Wa := (Fr.refl (fun _ => False) Vb).drew.trans (Fr.of_below ba)
    have HA := Lib.hid fa
    clear ba fa
    gi_wp2_with fail
    refine hK.out _ _ ?_ (fun hHeld => ?_)
    · exact HA.out.mono fun _ _ e => e.elim
    clear hK K
    try simp only [Act.put, List.setIfInBounds_toArray, List.set_cons_zero, List.set_cons_succ]
    have HO := Lib.hid (run_one_t (P := Tryz.prog) (W := Wa) base 26 26 9 i0 _ 1 16 Tryz.underlying26 hi hz0 hz1 hz2 rfl (by decide) v D.length (D.map encT) (row_same HO0.out fun g hg => HA.out.block g (HO0.out.lt g hg).2 fun e => e) #[.string (bs ln)] rfl (by intro u hu; simp at hu; subst hu; rfl) (by omega) (by decide) (Nat.le_trans HBZ.out HA.out.size))
    refine wpAnyI_one (i := 4) (o := { dst := some 54, op := Go.Op.buildSlice 26 1 #[(0, Go.Operand.tmp 53)], type := 26, pos := "reply.go:125", after := #[{ on := 3, ground := Go.Ground.data }], guard := none }) (by kernel_rfl) rfl (by rfl) (fun K hK => ?_)
    go_simp
    refine hK.out _ _ ?_ (fun hHeld => ?_)
    · exact (HA.out.mono (Y := fun k => v.ownBlock = some k) fun _ _ e => e.elim).alloc _
    clear hK K
    try simp only [Act.put, List.setIfInBounds_toArray, List.set_cons_zero, List.set_cons_succ]
    refine wpAnyI_one (i := 5) (o := { dst := some 55, op := Go.Op.call { callee := Go.Callee.builtin Go.Builtin.append, args := #[Go.Operand.tmp 50, Go.Operand.tmp 54], argTypes := #[26, 26] }, type := 26, pos := "reply.go:125", after := #[{ on := 0, ground := Go.Ground.data }, { on := 4, ground := Go.Ground.data }, { on := 3, ground := Go.Ground.chain }], guard := none }) (by kernel_rfl) rfl (by rfl) (fun K hK => ?_)
    obtain ⟨v1, W6, hr6, hown1, hfr1, htie⟩ := HO.out
    have hfrA : Fr (fun k => v.ownBlock = some k) Vb W6 := (HA.out.mono (Y := fun k => v.ownBlock = some k) fun _ _ e => e.elim).trans3 hfr1 fun _ _ e => e
    refine wpIn_app_run _ _ _ _ rfl (v := v1) (W' := W6) (by exact hr6) ?_
    refine hK.out _ _ ?_ (fun hHeld => ?_)
    · exact hfrA
    clear hK K
    try simp only [Act.put, List.setIfInBounds_toArray, List.set_cons_zero, List.set_cons_succ]
    obtain ⟨A1, c1', rfl⟩ := row_slice hown1
    refine wpAnyI_last (o := { dst := some 10, op := Go.Op.assign (Go.Operand.tmp 55), type := 26, pos := "reply.go:125", after := #[{ on := 5, ground := Go.Ground.data }, { on := 5, ground := Go.Ground.chain }, { on := 0, ground := Go.Ground.phase }, { on := 1, ground := Go.Ground.phase }, { on := 2, ground := Go.Ground.phase }, { on := 3, ground := Go.Ground.phase }, { on := 4, ground := Go.Ground.phase }, { on := 5, ground := Go.Ground.phase }], guard := none }) (by kernel_rfl) rfl (by rfl) (fun K hK => ?_)
    go_simp
    refine hK.out _ _ ?_
    clear hK K
    try simp only [Act.put, List.setIfInBounds_toArray, List.set_cons_zero, List.set_cons_succ]
    refine wpAnyI_done (by kernel_rfl) ?_ _
    dsimp only [NoPanic]
    gi_wp2_with fail
    obtain ⟨hdef, hnn, hfN, hD, hMb, hN', o1⟩ := HE.out
    have hown2 : OwnT base W6 (.slice A1 (D.length + 1) c1') (D ++ [ln]) := ownT_snoc hown1
    have hno : ¬ v.ownBlock = some D0 := fun e => (hnn D0 e).2.2 rfl
    have hdef6 := hfrA.blk hdef hno
    have hD0V : D0 < Vb.heap.size := blk_lt hdef
    have hno2 : ∀ k, (Value.slice A1 (D.length + 1) c1').ownBlock = some k → k ≠ D0 := fun k hk e => by
      rcases htie k hk with e2 | e2
      · exact hno (e ▸ e2)
      · have := HA.out.size; omega
    refine leaves_one D0 _ hdef6 fun w' hf => ⟨.slice A1 (D.length + 1) c1', by simp [results, Tryz.results20, go_sem], A1, ⟨c1', ?_⟩, ?_, ?_⟩
    · rw [HPk.out, List.length_append]; rfl
    · rw [HPk.out]
      have h9 := ownT_fr hown2 hf fun k hk => hno2 k hk
      have h10 : OwnT base w' (.slice A1 (D ++ [ln]).length c1') (D ++ [ln]) := by rw [List.length_append]; exact h9
      exact reads_ownT h10
    · have h11 : Fr (fun k => N ≤ k) w w' := (hfN.trans3 hfrA fun k _ e => by have := (o1.lt k e).1; omega).trans3 hf fun k _ e => by omega
      exact h11.below (by omega) fun k hk e => by omega
end Go.Proofs.YtkbgpajconhgjaaGreatDoor
end
section
/- ValidNames, walked. -/
namespace Go.Proofs.YtkbgpajconhgjaaGreatDoor
open Go.RowKit

theorem nickP_ab : NickP ⟨#[97, 45, 98]⟩ := by
  refine ⟨by decide, fun i hi => ?_⟩
  have hi' : i < 3 := hi
  rcases (by omega : i = 0 ∨ i = 1 ∨ i = 2) with rfl | rfl | rfl <;> rfl
theorem nickP_da : ¬ NickP ⟨#[45, 97]⟩ := fun h => by
  have := h.2 0 (by decide)
  rw [show nickAt 0 (⟨#[45, 97]⟩ : ByteArray)[0] = false from by kernel_rfl] at this; cases this
theorem nickP_1a : ¬ NickP ⟨#[49, 97]⟩ := fun h => by
  have := h.2 0 (by decide)
  rw [show nickAt 0 (⟨#[49, 97]⟩ : ByteArray)[0] = false from by kernel_rfl] at this; cases this
theorem chanP_a : ChanP ⟨#[35, 97]⟩ := by
  refine ⟨by decide, ⟨by decide, by kernel_rfl⟩, fun i hi => ?_⟩
  have hi' : i < 2 := hi
  rcases (by omega : i = 0 ∨ i = 1) with rfl | rfl <;> rfl
theorem chanP_h : ¬ ChanP ⟨#[35]⟩ := fun h => by
  have := h.1.1; revert this; decide



end Go.Proofs.YtkbgpajconhgjaaGreatDoor
end
section
/- ValidHosts, walked. -/
namespace Go.Proofs.YtkbgpajconhgjaaGreatDoor
open Go.RowKit

end Go.Proofs.YtkbgpajconhgjaaGreatDoor
end
