/- Texts of this proof, one behind the other. -/
import Derived.Test.YtmgnhbihfgpccaaGreatDoorRoomPlaysG8
import Derived.Test.YtmgnhbihfgpccaaGreatDoorRoomPlaysG9
import Derived.Test.YtmgnhbihfgpccaaGreatDoorRoomPlaysG2
import Derived.Test.YtmgnhbihfgpccaaGreatDoorRoomPlaysG5
import Derived.OwnWalk
import Derived.BigQuiet
import Derived.Test.YtmgnhbihfgpccaaGreatDoorRoomPlaysG13
set_option linter.unusedVariables false
set_option linter.unusedSimpArgs false
section
/- Regions that draw their order, anywhere (a loop's round over a function too), walked op by op in one way, where the fence lets every function by: what only reads may be taken first; S holds behind every operation but the last (number z), which waits for what reads. -/
namespace Go.Proofs.YtmgnhbihfgpccaaGreatDoor
open Go Go.RowKit

section
variable {F : Fence} {n : Nat} {P : Program} {md : Region.Mode} {ops : Array Oper} {Q : Exit → Act → World → Prop} {S : World → Prop} {z : Nat}
theorem wpOpIn_putIf {j : Nat} {oi oj : Oper} {v : Value} (hF : ∀ f, F.fn f) (hnd : noDefer ops = true) (hj : ops[j]? = some oj) (hap : oi.apart ops oj = true)
    (hsi : ∀ cs b, oi.op ≠ .select cs b) (hsj : ∀ cs b, oj.op ≠ .select cs b)
    (hQ : ∀ c a w, Q (.panic c) (a.put oi.dst v) w → Q (.panic c) a w) {K : Act → World → Prop} {a : Act} {w : World}
    (hy : YieldsIf P ops S oi v a) (h : wpOpIn F n P ops Q j K (a.put oi.dst v) w) :
    wpOpIn F n P ops Q j (fun a' w' => YieldsIf P ops S oi v a' ∧ K (a'.put oi.dst v) w') a w := by
  obtain ⟨h1, h2, h3⟩ := Oper.apart_spec hap
  have keep : ∀ (a : Act), YieldsIf P ops S oi v a → ∀ u, YieldsIf P ops S oi v (a.put oj.dst u) := fun a hy u =>
    hy.of_same (execOp_put oi hsi a oj.dst u h3) (wanted_put oi a oj.dst u h3)
  have keepD : ∀ d, YieldsIf P ops S oi v { a with defers := d :: a.defers } := fun d => hy.of_same rfl rfl
  have hnj := noDefer_spec hnd hj
  unfold wpOpIn at *
  simp only [hj] at *
  rw [wanted_put oj a oi.dst v h1, about_put oj w a oi.dst v h1] at h
  split
  · rename_i hw
    simp only [hw, if_true] at h
    unfold Oper.wpIn at *
    rw [about_put oj w a oi.dst v h1] at h
    refine ⟨h.1, ?_⟩
    have h := h.2
    rw [Oper.semAt_eq _ _ _ hnj, execOp_put oj hsj a oi.dst v h1] at h
    rw [Oper.semAt_eq _ _ _ hnj]
    generalize (execOp a.eval oj).run P w = r at *
    cases r with
    | ok x w' =>
      cases x <;> simp only [Oper.uponIn] at h ⊢
      case value u => exact ⟨keep a hy u, by rw [← Act.put_comm a v u h2]; exact h⟩
      case skip => exact ⟨keep a hy _, by rw [← Act.put_comm a v undef h2]; exact h⟩
      case defer d =>
        refine ⟨keep _ (keepD d) _, ?_⟩
        rw [← Act.put_comm _ v undef h2, ← Act.put_defers]
        exact h
      case enter f args =>
        refine ⟨h.1, CallsIn.mono h.2 fun e w'' he => ?_⟩
        cases e with
        | returned u => exact ⟨keep a hy u, by rw [← Act.put_comm a v u h2]; exact he⟩
        | panicked c => exact hQ _ _ _ he
        | outgrown => exact he
      case row row args => exact ⟨h.1, RowsIn.mono h.2 fun u w'' he => ⟨keep a hy u, by rw [← Act.put_comm a v u h2]; exact he⟩⟩
      case round l f tmps assign body =>
        refine ⟨h.1, RoundIn.mono h.2 fun e w'' he => ?_⟩
        cases e with
        | returned u => exact ⟨keep a hy u, by rw [← Act.put_comm a v u h2]; exact he⟩
        | panicked c => exact hQ _ _ _ he
        | outgrown => exact he
    | halt x w' =>
      cases x <;> simp only [Oper.uponIn] at h ⊢
      case panic u => exact hQ _ _ _ h
  · rename_i hw
    simp only [hw] at h
    exact ⟨h.1, keep a hy _, by rw [← Act.put_comm a v undef h2]; exact h.2⟩
theorem yieldsIf_wpOpIn {i : Nat} {o : Oper} {v : Value} {a : Act} (hF : ∀ f, F.fn f) (hnd : noDefer ops = true) (hi : ops[i]? = some o) (hy : YieldsIf P ops S o v a)
    {K : Act → World → Prop} {w : World} (hS : S w) (h : K (a.put o.dst v) w) : wpOpIn F n P ops Q i K a w := by
  unfold wpOpIn
  simp only [hi]
  rcases hy with ⟨hw, hv⟩ | ⟨hw, rfl⟩
  · simp only [hw, if_true, Oper.wpIn]
    refine ⟨fun f _ => hF f, ?_⟩
    rw [Oper.semAt_eq _ _ _ (noDefer_spec hnd hi), hv w hS]
    exact h
  · simp only [hw, Bool.false_eq_true, if_false]; exact ⟨fun f _ => hF f, h⟩
/-- whatever order is picked; S holds behind all but z -/
def wpAnyI (F : Fence) (n : Nat) (P : Program) (md : Region.Mode) (ops : Array Oper) (Q : Exit → Act → World → Prop) (S : World → Prop) (z : Nat) : Nat → Array Bool → Act → World → Prop
  | 0, listed, a, w => Region.ready md ops listed = [] ∧ Q .normal a w
  | fuel + 1, listed, a, w => (Region.ready md ops listed = [] → Q .normal a w) ∧
    ∀ i ∈ Region.ready md ops listed, wpOpIn F n P ops Q i (fun a' w' => (i ≠ z → S w') ∧ wpAnyI F n P md ops Q S z fuel (listed.setIfInBounds i true) a' w') a w
theorem wpAnyIn_of_i : ∀ (fuel : Nat) (listed : Array Bool) (a : Act) (w : World), wpAnyI F n P md ops Q S z fuel listed a w → wpAnyIn F n P md ops Q fuel listed a w
  | 0, _, _, _, h => h
  | fuel + 1, _, _, _, h => ⟨h.1, fun i hi => wpOpIn_mono (fun _ _ h' => wpAnyIn_of_i fuel _ _ _ h'.2) (h.2 i hi)⟩
theorem wpAnyI_first {i : Nat} {oi : Oper} {v : Value} (hF : ∀ f, F.fn f) (hnd : noDefer ops = true) (hi : ops[i]? = some oi) (hsel : ∀ (j : Nat) (o : Oper) cs b, ops[j]? = some o → o.op ≠ .select cs b)
    (hQ : ∀ c a w, Q (.panic c) (a.put oi.dst v) w → Q (.panic c) a w) (hz : waitsFor md ops z i = true) : ∀ (fuel : Nat) (listed : Array Bool) (a : Act) (w : World),
      (∀ j oj, ops[j]? = some oj → j ≠ i → listed.getD j true = false → (∀ e ∈ oj.after, Region.binds md e = true → e.on ≠ i) → oi.apart ops oj = true) →
      i ∈ Region.ready md ops listed → YieldsIf P ops S oi v a → S w → wpAnyI F n P md ops Q S z fuel (listed.setIfInBounds i true) (a.put oi.dst v) w → wpAnyI F n P md ops Q S z (fuel + 1) listed a w := by
  intro fuel
  induction fuel with
  | zero =>
    intro listed a w _ hr hy hS H
    refine ⟨fun h => (by rw [h] at hr; cases hr), fun j hj => ?_⟩
    by_cases hji : j = i
    · subst hji
      exact yieldsIf_wpOpIn hF hnd hi hy hS ⟨fun _ => hS, H⟩
    · have h1 := ready_mono hj hji
      rw [H.1] at h1
      cases h1
  | succ fuel ih =>
    intro listed a w hfree hr hy hS H
    refine ⟨fun h => (by rw [h] at hr; cases hr), fun j hj => ?_⟩
    by_cases hji : j = i
    · subst hji
      exact yieldsIf_wpOpIn hF hnd hi hy hS ⟨fun _ => hS, H⟩
    · have hjz := waits_not hz hr hj
      have h1 := H.2 j (ready_mono hj hji)
      obtain ⟨hjun, oj, hoj, hall⟩ := mem_ready.1 hj
      have hnot : ∀ e ∈ oj.after, Region.binds md e = true → e.on ≠ i := fun e he hb heq => by
        have h1 := hall e he hb
        have h0 := (mem_ready.1 hr).1
        rw [heq] at h1
        rcases Nat.lt_or_ge i listed.size with h' | h'
        · simp [h'] at h0 h1; rw [h0] at h1; cases h1
        · simp [Array.getElem?_eq_none h'] at h1
      have h2 := wpOpIn_putIf hF hnd hoj (hfree j oj hoj hji hjun hnot) (fun cs b => hsel i oi cs b hi) (fun cs b => hsel j oj cs b hoj) hQ hy h1
      refine wpOpIn_mono (fun a' w' h3 => ⟨h3.2.1, ih (listed.setIfInBounds j true) a' w' (fun k ok hk hki hun hno => hfree k ok hk hki ?_ hno) (ready_mono hr (Ne.symm hji)) h3.1 (h3.2.1 hjz) ?_⟩) h2
      · by_cases hjk : j = k
        · subst hjk; exact hjun
        · rw [getD_set_ne true hjk] at hun; exact hun
      · rw [Array.setIfInBounds_comm _ _ hji]
        exact h3.2.2
/-- what yields in every world that is held -/
theorem wpAnyI_read {i : Nat} {oi : Oper} (v : Value) {fuel : Nat} {listed : Array Bool} {a : Act} {w : World} (hF : ∀ f, F.fn f) (hnd : noDefer ops = true) (hi : ops[i]? = some oi)
    (hs : Region.noSelect ops = true) (hf : Region.free md ops listed i = true) (hr : (Region.ready md ops listed).contains i = true) (hz : waitsFor md ops z i = true)
    (hQ : ∀ c a w, Q (.panic c) (a.put oi.dst v) w → Q (.panic c) a w) (hw : Region.wanted oi (yielded ops a.tmps) = true) (hS : S w)
    (hy : ∀ w, S w → (execOp a.eval oi).run P w = .ok (.value v) w)
    (h : wpAnyI F n P md ops Q S z fuel (listed.setIfInBounds i true) (a.put oi.dst v) w) : wpAnyI F n P md ops Q S z (fuel + 1) listed a w :=
  wpAnyI_first hF hnd hi (Region.noSelect_spec hs) hQ hz fuel listed a w (Region.free_spec hi hf) (by simpa using hr) (Or.inl ⟨hw, hy⟩) hS h
/-- what is guarded, and not wanted -/
theorem wpAnyI_pass {i : Nat} {oi : Oper} {fuel : Nat} {listed : Array Bool} {a : Act} {w : World} (hF : ∀ f, F.fn f) (hnd : noDefer ops = true) (hi : ops[i]? = some oi)
    (hs : Region.noSelect ops = true) (hf : Region.free md ops listed i = true) (hr : (Region.ready md ops listed).contains i = true) (hz : waitsFor md ops z i = true)
    (hQ : ∀ c a w, Q (.panic c) (a.put oi.dst undef) w → Q (.panic c) a w) (hw : Region.wanted oi (yielded ops a.tmps) = false) (hS : S w)
    (h : wpAnyI F n P md ops Q S z fuel (listed.setIfInBounds i true) (a.put oi.dst undef) w) : wpAnyI F n P md ops Q S z (fuel + 1) listed a w :=
  wpAnyI_first hF hnd hi (Region.noSelect_spec hs) hQ hz fuel listed a w (Region.free_spec hi hf) (by simpa using hr) (Or.inr ⟨hw, rfl⟩) hS h
/-- one alone may come up: a call, a slice that is made -/
theorem wpAnyI_one {i : Nat} {o : Oper} {fuel : Nat} {listed : Array Bool} {a : Act} {w : World} (hr : Region.ready md ops listed = [i]) (ho : ops[i]? = some o) (hw : Region.wanted o (yielded ops a.tmps) = true)
    (h : ∀ K' : Act → World → Prop, Shut (∀ a w, S w → (S w → wpAnyI F n P md ops Q S z fuel (listed.setIfInBounds i true) a w) → K' a w) → Oper.wpIn F n P o a w K' Q) : wpAnyI F n P md ops Q S z (fuel + 1) listed a w :=
  ⟨fun h0 => absurd (hr ▸ h0) (by simp), by
    rw [hr]
    intro j hj
    obtain rfl := List.mem_singleton.1 hj
    exact wpOpIn_step ho fun K' hK => by rw [if_pos hw]; exact h K' fun a w hS hW => hK a w ⟨fun _ => hS, hW hS⟩⟩
/-- z comes up -/
theorem wpAnyI_last {o : Oper} {fuel : Nat} {listed : Array Bool} {a : Act} {w : World} (hr : Region.ready md ops listed = [z]) (ho : ops[z]? = some o) (hw : Region.wanted o (yielded ops a.tmps) = true)
    (h : ∀ K' : Act → World → Prop, Shut (∀ a w, wpAnyI F n P md ops Q S z fuel (listed.setIfInBounds z true) a w → K' a w) → Oper.wpIn F n P o a w K' Q) : wpAnyI F n P md ops Q S z (fuel + 1) listed a w :=
  ⟨fun h0 => absurd (hr ▸ h0) (by simp), by
    rw [hr]
    intro j hj
    obtain rfl := List.mem_singleton.1 hj
    exact wpOpIn_step ho fun K' hK => by rw [if_pos hw]; exact h K' fun a w hW => hK a w ⟨fun e => absurd rfl e, hW⟩⟩
theorem wpAnyI_done {listed : Array Bool} {a : Act} {w : World} (hr : Region.ready md ops listed = []) (h : Q .normal a w) : ∀ fuel, wpAnyI F n P md ops Q S z fuel listed a w
  | 0 => ⟨hr, h⟩
  | _ + 1 => ⟨fun _ => h, by rw [hr]; simp⟩
theorem wpIn_region_i (S : World → Prop) (z : Nat) {id : Nat} {a : Act} {w : World} (hm : P.follows .mixedOrders = true) (hS : S w.drew)
    (h : S w.drew → wpAnyI F n P .any ops Q S z ops.size (Array.replicate ops.size false) a w.drew) : (Code.region id ops true).wpIn F n P Q a w :=
  wpIn_region_any hm (wpAnyIn_of_i _ _ _ _ (h hS))
/-- append whose run is known -/
theorem wpIn_app_run {W W' : World} {o : Oper} {a : Act} {K : Act → World → Prop} (s x : Operand) (t tx : TypeId)
    (ho : o.op = .call { callee := .builtin .append, args := #[s, x], argTypes := #[t, tx] }) {v : Value} (hr : (Builtin.append_ #[t, tx] o.type #[a.eval s, a.eval x]).run P W = .ok v W') (h : K (a.put o.dst v) W') : Oper.wpIn F n P o a W K Q := by
  unfold Oper.wpIn
  refine ⟨?_, ?_⟩
  · simp [Oper.about, ho, resolve, Target.leads, Sem.run_pure]
  · rw [Oper.semAt_plain F _ _ (by rw [ho]; intro c hc'; cases hc')]
    simp [execOp, ho, resolve, invoke, builtin, hr, Result.andThen]
    exact h
end
/-- one element more, that lies in the newest block: as a run -/
theorem run_one_t {P : Program} {W : World} (base : Nat) (t ty e : TypeId) (i : TypeInfo) (z : Value) (size bytes : Nat) (ht : P.underlying t = some (.slice e)) (hi : P.info? e = some i) (hz : i.zero = some z)
    (hsize : i.size = size) (hby : i.bytes = bytes) (hzs : z.cells.size = size) (hsz : 0 < size) (v : Value) (n : Nat) (xs : List Value) (hown : W.ownsRow base e size v n xs)
    (cs : Array Value) (hl : cs.size = size) (h1 : ∀ u ∈ cs.toList, u.oneCell' = true) (hn : n + 1 ≤ 1000000000) (hbs : bytes ≤ 1000) (hbase : base ≤ W.heap.size) :
    ∃ v' w', (Builtin.append_ #[t, t] ty #[v, .slice (some ⟨W.heap.size, 0, none⟩) 1 1]).run P (W.alloc (.cells cs e)) = .ok v' w' ∧ w'.ownsRow base e size v' (n + 1) (xs ++ cs.toList) ∧ Fr (fun k => v.ownBlock = some k) W w' ∧ (∀ k, v'.ownBlock = some k → v.ownBlock = some k ∨ W.heap.size ≤ k) := by
  have hnb : (n + 1) * bytes ≤ 140737488355328 := Nat.le_trans (Nat.mul_le_mul hn hbs) (by decide)
  have h63 : n + 1 ≤ maxLen := by unfold maxLen; omega
  have hx : (hown.alloc (.cells cs e)) = hown.alloc (.cells cs e) := rfl
  have hl1 : cs.toList.length = 1 * size := by simpa using hl
  obtain ⟨v', w', hr, h2, h3, h4⟩ := run_append_own (P := P) (W.alloc (.cells cs e)) base t ty e i z size bytes ht hi hz hsize hby hzs hsz v n xs (hown.alloc _) ⟨W.heap.size, 0, none⟩ 1 1 cs.toList hl1 (cells_new W cs e) h1 h63 hnb (by simp; omega)
  have htie := run_append_tie (W.alloc (.cells cs e)) base t ty e i z size bytes ht hi hz hsize hby v n xs (hown.alloc _) ⟨W.heap.size, 0, none⟩ 1 1 cs.toList hl1 (cells_new W cs e) h1 h63 hnb hr
  refine ⟨v', w', hr, h2, (((Fr.refl _ W).alloc _).grown h3 fun k hk => .inr hk), fun k hk => (htie k hk).imp id fun e => by simp at e; omega⟩
end Go.Proofs.YtmgnhbihfgpccaaGreatDoor
end
section
/- Rows of any elements: append(append([]T{}, old...), one), append(append([]T{}, l[:i]...), l[i+1:]...), as run equations. -/
namespace Go.Proofs.YtmgnhbihfgpccaaGreatDoor
open Go Go.RowKit Go.Lib

theorem add_g (g o j : Nat) : (⟨g, o, none⟩ : Addr).add j = ⟨g, o + j, none⟩ := by
  unfold Addr.add
  split
  · simp_all
  · rfl
/-- append, where its run is known -/
theorem wpList_app_g {P : Program} {ops : Array Oper} {rest : List Oper} {o : Oper} {a : Act} {w W' : World} {Q : Exit → Act → World → Prop} (hgd : o.guard = none) (s x : Operand) (t tx : TypeId) (ho : o.op = .call { callee := .builtin .append, args := #[s, x], argTypes := #[t, tx] })
    {v : Value} (hr : (Builtin.append_ #[t, tx] o.type #[a.eval s, a.eval x]).run P w = .ok v W') (h : wpList P ops Q rest (a.put o.dst v) W') : wpList P ops Q (o :: rest) a w := by
  refine wpList_plain hgd fun _ hK => ?_
  unfold Oper.wp execOp
  simp only [ho, resolve, invoke, builtin, Sem.run_bind, Sem.run_pure, Result.andThen_ok, List.map_toArray, List.map_cons, List.map_nil, hr]
  exact hK _ _ h
section
variable {P : Program} {w : World} {base : Nat} {e : TypeId} {size n : Nat} {xs : List Value}
theorem src_row (t : TypeId) (ht : P.underlying t = some (.slice e)) {A : Option Addr} {c : Nat} (h : w.ownsRow base e size (.slice A n c) n xs) (h1 : ∀ u ∈ xs, u.oneCell' = true) : Src P size t (.slice A n c) n xs w := by
  rcases h.2 with ⟨k1, k2⟩ | ⟨g, cap, cur, k1, k3, k4, k5, _, k6, k7⟩
  · have h3 : xs = [] := List.length_eq_zero_iff.1 (by rw [h.1, k2, Nat.zero_mul])
    subst h3
    subst k2
    injection k1 with q1 q2 q3
    subst q1
    exact Src.ofNil w ht c
  · injection k1 with q1 q2 q3
    subst q1
    exact Src.ofSlice w ht ⟨g, 0, none⟩ n c xs h.1 (fun j u hu => h.cells (g := g) rfl j u hu) h1
theorem own_empty (W : World) (e : TypeId) (size : Nat) : (W.alloc (.cells #[] e)).ownsRow W.heap.size e size (.slice (some ⟨W.heap.size, 0, none⟩) 0 0) 0 [] :=
  ⟨by simp, .inr ⟨W.heap.size, 0, #[], rfl, Nat.le_refl _, heap_alloc_new W _, by simp, by decide, by simp, by simp⟩⟩
/-- all of a row, into a new one -/
theorem copy_runs (t : TypeId) (i0 : TypeInfo) (z : Value) (bytes : Nat) (ht : P.underlying t = some (.slice e)) (hi : P.info? e = some i0) (hz : i0.zero = some z) (hsz : i0.size = size) (hby : i0.bytes = bytes) (hzc : z.cells.size = size)
    {A : Option Addr} {c : Nat} (h : w.ownsRow base e size (.slice A n c) n xs) (h1 : ∀ u ∈ xs, u.oneCell' = true) (hn : n ≤ 1000000) (hb : bytes ≤ 1000) :
    ∃ A1 c1 W2, (Builtin.append_ #[t, t] t #[.slice (some ⟨w.heap.size, 0, none⟩) 0 0, .slice A n c]).run P (w.alloc (.cells #[] e)) = .ok (.slice A1 n c1) W2 ∧
      W2.ownsRow w.heap.size e size (.slice A1 n c1) n xs ∧ Fr (fun _ => False) w W2 := by
  have f1 : Fr (fun _ => False) w (w.alloc (.cells #[] e)) := (Fr.refl _ w).alloc _
  have hx := row_same h fun g hg => f1.block g (h.lt g hg).2 fun e => e
  have hnb : (0 + n) * bytes ≤ 140737488355328 := Nat.le_trans (Nat.mul_le_mul (by omega : 0 + n ≤ 1000000) hb) (by decide)
  obtain ⟨v1, W2, hr1, r1, r2, r3⟩ := run_app_any (P := P) (w.alloc (.cells #[] e)) w.heap.size t t t e i0 z size bytes ht hi hz hsz hby hzc _ 0 [] (own_empty w e size) _ n xs (src_row t ht hx h1) (by unfold maxLen; omega) hnb f1.size
  obtain ⟨A1, c1, rfl⟩ := row_slice r1
  rw [Nat.zero_add, List.nil_append] at r1
  rw [Nat.zero_add] at hr1
  exact ⟨A1, c1, W2, hr1, r1, f1.trans3 r2 fun k hk e => by have : w.heap.size = k := Option.some.inj e; omega⟩
/-- one more, into a new row -/
theorem snoc_runs (t : TypeId) (i0 : TypeInfo) (z : Value) (bytes : Nat) (ht : P.underlying t = some (.slice e)) (hi : P.info? e = some i0) (hz : i0.zero = some z) (hsz : i0.size = size) (hby : i0.bytes = bytes) (hzc : z.cells.size = size) (hs0 : 0 < size)
    {A : Option Addr} {c : Nat} (h : w.ownsRow base e size (.slice A n c) n xs) (h1 : ∀ u ∈ xs, u.oneCell' = true) (hn : n ≤ 1000000) (hb : bytes ≤ 1000) (cs : Array Value) (hc : cs.size = size) (h2 : ∀ u ∈ cs.toList, u.oneCell' = true) :
    ∃ A1 c1 A2 c2 W2 W3, (Builtin.append_ #[t, t] t #[.slice (some ⟨w.heap.size, 0, none⟩) 0 0, .slice A n c]).run P (w.alloc (.cells #[] e)) = .ok (.slice A1 n c1) W2 ∧
      (Builtin.append_ #[t, t] t #[.slice A1 n c1, .slice (some ⟨W2.heap.size, 0, none⟩) 1 1]).run P (W2.alloc (.cells cs e)) = .ok (.slice A2 (n + 1) c2) W3 ∧
      W3.ownsRow w.heap.size e size (.slice A2 (n + 1) c2) (n + 1) (xs ++ cs.toList) ∧ Fr (fun _ => False) w W2 ∧ Fr (fun _ => False) w W3 := by
  obtain ⟨A1, c1, W2, hr1, r1, f2⟩ := copy_runs (P := P) t i0 z bytes ht hi hz hsz hby hzc h h1 hn hb
  obtain ⟨v4, W4, hr4, s1, s2, s3⟩ := run_one_t (P := P) (W := W2) w.heap.size t t e i0 z size bytes ht hi hz hsz hby hzc hs0 _ n _ r1 cs hc h2 (by omega) hb f2.size
  obtain ⟨A2, c2, rfl⟩ := row_slice s1
  exact ⟨A1, c1, A2, c2, W2, W4, hr1, hr4, s1, f2, f2.trans3 s2 fun k hk e => by have := (r1.lt k e).1; omega⟩
theorem slice_gen (t : TypeId) (i0 : TypeInfo) (ht : P.underlying t = some (.slice e)) (hi0 : P.info? e = some i0) (hsz : i0.size = size) (g o n c : Nat) (hc : n ≤ c) (i : Nat) (hi : i < n) :
    (∀ W, (Instr.slice t (.slice (some ⟨g, o, none⟩) n c) none (some (.int .i64 i)) none).run P W = .ok (.slice (some ⟨g, o, none⟩) i c) W) ∧
    ∃ g1 o1, (∀ W, (Instr.slice t (.slice (some ⟨g, o, none⟩) n c) (some (.int .i64 ((i : Int) + 1))) none none).run P W = .ok (.slice (some ⟨g1, o1, none⟩) (n - (i + 1)) (c - (i + 1))) W) ∧ (i + 1 < n → g1 = g ∧ o1 = o + (i + 1) * size) := by
  have hq : ((i : Int) + 1).toNat = i + 1 := by omega
  have he : P.elem t = e := by simp [Program.elem, ht]
  have ht' : P.underlying t = some (.slice (P.elem t)) := by rw [he]; exact ht
  refine ⟨fun W => ?_, ?_⟩
  · rw [run_slice_h W t _ _ _ ht' _ _ (by omega) (by omega)]
    have h3 : ¬ (c = 0) := by omega
    simp [sliced, sizeOf, he, ht, hi0, hsz, go_sem, h3, add_g, typeInfo]
  · by_cases h1 : c = i + 1
    · refine ⟨g, o, fun W => ?_, fun h2 => by omega⟩
      rw [run_slice_l W t _ _ _ ht' _ _ (by omega) (by omega)]
      simp [sliced, sizeOf, he, ht, hi0, hsz, go_sem, h1, hq, typeInfo]
    · refine ⟨g, o + (i + 1) * size, fun W => ?_, fun h2 => ⟨rfl, rfl⟩⟩
      rw [run_slice_l W t _ _ _ ht' _ _ (by omega) (by omega)]
      have h2 : ¬ c - (i + 1) = 0 := by omega
      simp [sliced, sizeOf, he, ht, hi0, hsz, go_sem, h1, h2, hq, add_g, typeInfo]
/-- one taken out, into a new row -/
theorem del_runs_g (t : TypeId) (i0 : TypeInfo) (z : Value) (bytes : Nat) (ht : P.underlying t = some (.slice e)) (hi0 : P.info? e = some i0) (hz : i0.zero = some z) (hsz : i0.size = size) (hby : i0.bytes = bytes) (hzc : z.cells.size = size)
    {A : Option Addr} {c : Nat} (h : w.ownsRow base e size (.slice A n c) n xs) (h1 : ∀ u ∈ xs, u.oneCell' = true) (hn : n ≤ 1000000) (hb : bytes ≤ 1000) {i : Nat} (hi : i < n) :
    ∃ g g1 o1 A1 c1 A2 c2 W2 W3, A = some ⟨g, 0, none⟩ ∧ n ≤ c ∧
      (∀ W, (Instr.slice t (.slice (some ⟨g, 0, none⟩) n c) none (some (.int .i64 i)) none).run P W = .ok (.slice (some ⟨g, 0, none⟩) i c) W) ∧
      (∀ W, (Instr.slice t (.slice (some ⟨g, 0, none⟩) n c) (some (.int .i64 ((i : Int) + 1))) none none).run P W = .ok (.slice (some ⟨g1, o1, none⟩) (n - (i + 1)) (c - (i + 1))) W) ∧
      (Builtin.append_ #[t, t] t #[.slice (some ⟨w.heap.size, 0, none⟩) 0 0, .slice (some ⟨g, 0, none⟩) i c]).run P (w.alloc (.cells #[] e)).drew = .ok (.slice A1 i c1) W2 ∧
      (Builtin.append_ #[t, t] t #[.slice A1 i c1, .slice (some ⟨g1, o1, none⟩) (n - (i + 1)) (c - (i + 1))]).run P W2 = .ok (.slice A2 (n - 1) c2) W3 ∧
      W3.ownsRow w.heap.size e size (.slice A2 (n - 1) c2) (n - 1) (xs.take (i * size) ++ xs.drop ((i + 1) * size)) ∧ Fr (fun _ => False) w W2 ∧ Fr (fun _ => False) w W3 := by
  have h' := h
  rcases h.2 with ⟨_, k2⟩ | ⟨g, cap, cur, hv, hbg, hg, hnc, hcm, hcs, htake⟩
  · omega
  injection hv with q1 q2 q3
  subst q1
  subst q3
  obtain ⟨hs1, g1, o1, hs2, hg1⟩ := slice_gen (P := P) t i0 ht hi0 hsz g 0 n c hnc i hi
  obtain ⟨W1, hW1⟩ : ∃ W1, (w.alloc (.cells #[] e)).drew = W1 := ⟨_, rfl⟩
  have f1 : Fr (fun _ => False) w W1 := by rw [← hW1]; exact ((Fr.refl _ w).alloc _).drew
  have z1 : W1.heap.size = w.heap.size + 1 := by rw [← hW1]; simp
  have hown : W1.ownsRow w.heap.size e size (.slice (some ⟨w.heap.size, 0, none⟩) 0 0) 0 [] := by rw [← hW1]; exact own_empty w e size
  have hgl : g < w.heap.size := blk_lt hg
  have hcell : ∀ (W : World), Fr (fun _ => False) w W → ∀ j u, xs[j]? = some u → W.cell? ⟨g, 0 + j, none⟩ = some u := fun W hf j u hu => by
    rw [hf.cell (p := ⟨g, 0 + j, none⟩) hgl (fun e => e)]
    have := h'.cells (g := g) rfl j u hu
    rwa [add_g] at this
  have hle1 : i * size ≤ n * size := Nat.mul_le_mul_right _ (by omega)
  have hle2 : (i + 1) * size ≤ n * size := Nat.mul_le_mul_right _ hi
  have l1 : (xs.take (i * size)).length = i * size := by rw [List.length_take, h.1]; omega
  have l3 : (xs.drop ((i + 1) * size)).length = (n - (i + 1)) * size := by rw [List.length_drop, h.1, Nat.sub_mul]
  have hb1 : (0 + i) * bytes ≤ 140737488355328 := Nat.le_trans (Nat.mul_le_mul (by omega : 0 + i ≤ 1000000) hb) (by decide)
  have hb2 : (i + (n - (i + 1))) * bytes ≤ 140737488355328 := Nat.le_trans (Nat.mul_le_mul (by omega : i + (n - (i + 1)) ≤ 1000000) hb) (by decide)
  have src1 : Src P size t (.slice (some ⟨g, 0, none⟩) i c) i (xs.take (i * size)) W1 :=
    Src.ofSlice W1 ht ⟨g, 0, none⟩ i c _ l1 (fun j u hu => by
      rw [add_g]
      rw [List.getElem?_take] at hu
      split at hu
      · exact hcell W1 f1 j u hu
      · cases hu) (fun u hu => h1 u (List.mem_of_mem_take hu))
  obtain ⟨v1, W2, hr1, r1, r2, r3⟩ := run_app_any (P := P) W1 w.heap.size t t t e i0 z size bytes ht hi0 hz hsz hby hzc _ 0 [] hown _ i _ src1 (by unfold maxLen; omega) hb1 (by omega)
  obtain ⟨A1, c1, rfl⟩ := row_slice r1
  rw [Nat.zero_add, List.nil_append] at r1
  rw [Nat.zero_add] at hr1 r3
  have f2 : Fr (fun _ => False) w W2 := f1.trans3 r2 fun k hk e => by have : w.heap.size = k := Option.some.inj e; omega
  have src2 : Src P size t (.slice (some ⟨g1, o1, none⟩) (n - (i + 1)) (c - (i + 1))) (n - (i + 1)) (xs.drop ((i + 1) * size)) W2 :=
    Src.ofSlice W2 ht ⟨g1, o1, none⟩ _ _ _ l3 (fun j u hu => by
      have hj := (List.getElem?_eq_some_iff.1 hu).1
      have hpos : i + 1 < n := by
        rcases Nat.lt_or_ge (i + 1) n with hh | hh
        · exact hh
        · rw [l3, show n - (i + 1) = 0 by omega, Nat.zero_mul] at hj; omega
      obtain ⟨rfl, rfl⟩ := hg1 hpos
      rw [add_g]
      rw [List.getElem?_drop] at hu
      have := hcell W2 f2 _ u hu
      rwa [← Nat.add_assoc] at this) (fun u hu => h1 u (List.mem_of_mem_drop hu))
  have hz2' := r2.size
  obtain ⟨v2, W3, hr2, s1, s2, s3⟩ := run_app_any (P := P) W2 w.heap.size t t t e i0 z size bytes ht hi0 hz hsz hby hzc _ i _ r1 _ (n - (i + 1)) _ src2 (by unfold maxLen; omega) hb2 (by omega)
  obtain ⟨A2, c2, rfl⟩ := row_slice s1
  have hlen : i + (n - (i + 1)) = n - 1 := by omega
  rw [hlen] at s1 s3 hr2
  refine ⟨g, g1, o1, A1, c1, A2, c2, W2, W3, rfl, hnc, hs1, hs2, by rw [hW1]; exact hr1, hr2, s1, f2, ?_⟩
  exact f2.trans3 s2 fun k hk e => by
    rcases r3 k e with e2 | e2
    · have : w.heap.size = k := Option.some.inj e2; omega
    · omega
end
end Go.Proofs.YtmgnhbihfgpccaaGreatDoor
end
section
/- Layer 10: mathematics: each once, rising. -/
namespace Go.Proofs.YtmgnhbihfgpccaaGreatDoor
open Go Go.RowKit Go.Lib Go.Sort Go.Shelf

theorem up_ext : ∀ {a b : List Int}, a.Pairwise (· < ·) → b.Pairwise (· < ·) → (∀ x, x ∈ a ↔ x ∈ b) → a = b
  | [], [], _, _, _ => rfl
  | [], y :: b, _, _, h => by have := (h y).2 (by simp); simp at this
  | x :: a, [], _, _, h => by have := (h x).1 (by simp); simp at this
  | x :: a, y :: b, ha, hb, h => by
    rw [List.pairwise_cons] at ha hb
    have e : x = y := by
      have h1 := (h x).1 (by simp)
      have h2 := (h y).2 (by simp)
      rcases List.mem_cons.1 h1 with h1 | h1
      · exact h1
      · rcases List.mem_cons.1 h2 with h2 | h2
        · exact h2.symm
        · have := ha.1 y h2; have := hb.1 x h1; omega
    subst e
    congr 1
    refine up_ext ha.2 hb.2 fun z => ⟨fun hz => ?_, fun hz => ?_⟩
    · rcases List.mem_cons.1 ((h z).1 (List.mem_cons_of_mem _ hz)) with e | e
      · subst e; have := ha.1 _ hz; omega
      · exact e
    · rcases List.mem_cons.1 ((h z).2 (List.mem_cons_of_mem _ hz)) with e | e
      · subst e; have := hb.1 _ hz; omega
      · exact e

theorem compactUpTo_succ (d : Array Int) (m : Nat) : compactUpTo d (m + 1) = compactUpTo d m ++ if keeps d m then [d[m]!] else [] := by
  unfold compactUpTo
  rw [List.range_succ, List.filter_append, List.map_append]
  congr 1
  by_cases h : keeps d m <;> simp [h]
theorem compact_ok (d : Array Int) (hs : ∀ i j, i ≤ j → j < d.size → d[i]! ≤ d[j]!) : ∀ m, m ≤ d.size → (compactUpTo d m).Pairwise (· < ·) ∧ ∀ x, x ∈ compactUpTo d m ↔ ∃ j, j < m ∧ d[j]! = x
  | 0, _ => ⟨by simp [compactUpTo], fun x => by simp [compactUpTo]⟩
  | m + 1, hm => by
    obtain ⟨h1, h2⟩ := compact_ok d hs m (by omega)
    rw [compactUpTo_succ]
    by_cases hk : keeps d m = true
    · rw [if_pos hk]
      refine ⟨List.pairwise_append.2 ⟨h1, by simp, fun y hy z hz => ?_⟩, fun x => ?_⟩
      · obtain ⟨j, hj, rfl⟩ := (h2 y).1 hy
        rw [List.mem_singleton] at hz
        subst hz
        simp only [keeps, decide_eq_true_eq] at hk
        rcases hk with hk | hk
        · omega
        · have a1 := hs j (m - 1) (by omega) (by omega)
          have a2 := hs (m - 1) m (by omega) (by omega)
          omega
      · rw [List.mem_append, h2, List.mem_singleton]
        constructor
        · rintro (⟨j, hj, h⟩ | h)
          · exact ⟨j, by omega, h⟩
          · exact ⟨m, by omega, h.symm⟩
        · rintro ⟨j, hj, h⟩
          by_cases e : j = m
          · subst e; exact .inr h.symm
          · exact .inl ⟨j, by omega, h⟩
    · rw [if_neg hk, List.append_nil]
      refine ⟨h1, fun x => ?_⟩
      rw [h2]
      simp only [keeps, decide_eq_true_eq, not_or, Decidable.not_not] at hk
      constructor
      · rintro ⟨j, hj, h⟩; exact ⟨j, by omega, h⟩
      · rintro ⟨j, hj, h⟩
        by_cases e : j = m
        · subst e; exact ⟨j - 1, by omega, hk.2.symm.trans h⟩
        · exact ⟨j, by omega, h⟩
theorem compact_up {zs : List Int} (h : zs.Pairwise (· ≤ ·)) : (compact zs).Pairwise (· < ·) ∧ ∀ x, x ∈ compact zs ↔ x ∈ zs := by
  have hs : ∀ i j, i ≤ j → j < zs.toArray.size → zs.toArray[i]! ≤ zs.toArray[j]! := fun i j hij hj => by
    simp only [List.size_toArray] at hj
    rw [getElem!_pos zs.toArray i (by simp; omega), getElem!_pos zs.toArray j (by simpa using hj)]
    by_cases e : i = j
    · subst e; exact Int.le_refl _
    · have := List.pairwise_iff_getElem.1 h i j (by omega) hj (by omega)
      simpa using this
  obtain ⟨h1, h2⟩ := compact_ok zs.toArray hs zs.length (by simp)
  refine ⟨h1, fun x => (h2 x).trans ⟨?_, fun hx => ?_⟩⟩
  · rintro ⟨j, hj, rfl⟩
    rw [getElem!_pos zs.toArray j (by simpa using hj)]
    simp
  · obtain ⟨j, hj, e⟩ := List.getElem_of_mem hx
    exact ⟨j, hj, by rw [getElem!_pos zs.toArray j (by simpa using hj)]; simpa using e⟩
theorem normI_ok (xs : List Int) : (normI xs).Pairwise (· < ·) ∧ ∀ x, x ∈ normI xs ↔ x ∈ xs := by
  have h := List.pairwise_mergeSort (le := fun (x y : Int) => decide (x ≤ y)) (fun a b c h1 h2 => by simp at *; omega) (fun a b => by simp; omega) xs
  obtain ⟨h1, h2⟩ := compact_up (zs := xs.mergeSort fun x y => decide (x ≤ y)) (h.imp fun h => by simpa using h)
  exact ⟨h1, fun x => (h2 x).trans List.mem_mergeSort⟩
theorem insI_mem (xs : List Int) (y x : Int) : x ∈ insI xs y ↔ x = y ∨ x ∈ xs := by
  unfold insI
  split
  · next h =>
    constructor
    · exact .inr
    · rintro (rfl | h2)
      · simpa using h
      · exact h2
  · conv => rhs; rw [← List.take_append_drop (xs.countP (· < y)) xs]
    simp only [List.mem_append, List.mem_cons]
    constructor
    · rintro (h | h | h)
      · exact .inr (.inl h)
      · exact .inl h
      · exact .inr (.inr h)
    · rintro (h | h | h)
      · exact .inr (.inl h)
      · exact .inl h
      · exact .inr (.inr h)
theorem insAll_mem (xs : List Int) (x : Int) : ∀ ls : List Int, x ∈ insAll xs ls ↔ x ∈ xs ∨ x ∈ ls := by
  refine snoc_ind ?_ ?_
  · simp [insAll]
  · intro l y ih
    rw [insAll_snoc, insI_mem, ih, List.mem_append, List.mem_singleton]
    constructor
    · rintro (h | h | h)
      · exact .inr (.inr h)
      · exact .inl h
      · exact .inr (.inl h)
    · rintro (h | h | h)
      · exact .inr (.inl h)
      · exact .inr (.inr h)
      · exact .inl h
theorem normI_ins (xs : List Int) : normI xs = insAll [] xs :=
  up_ext (normI_ok xs).1 (insAll_up List.Pairwise.nil xs) fun x => by rw [(normI_ok xs).2, insAll_mem]; simp
theorem normI_len (xs : List Int) : (normI xs).length ≤ xs.length := by
  rw [normI_ins]; have := insAll_len [] xs; simp at this; omega
theorem delI_mem {xs : List Int} (h : xs.Pairwise (· < ·)) (y x : Int) : x ∈ delI xs y ↔ x ∈ xs ∧ x ≠ y := by
  unfold delI
  split
  · next hc =>
    have hm : y ∈ xs := by simpa using hc
    have hlt := countP_lt hm
    obtain ⟨t1, t2⟩ := take_lt h y
    have hp := h
    rw [← List.take_append_drop (xs.countP (· < y)) xs] at hp
    obtain ⟨p1, p2, p3⟩ := List.pairwise_append.1 hp
    have hd : xs.drop (xs.countP (· < y)) = y :: xs.drop (xs.countP (· < y) + 1) := by
      rw [List.drop_eq_getElem_cons hlt]
      congr 1
      have hy : y ∈ xs.take (xs.countP (· < y)) ++ xs.drop (xs.countP (· < y)) := by rw [List.take_append_drop]; exact hm
      rcases List.mem_append.1 hy with hy | hy
      · have := t1 y hy; omega
      · rw [List.drop_eq_getElem_cons hlt] at hy p2 t2
        have a1 := t2 _ (List.mem_cons_self)
        rcases List.mem_cons.1 hy with e | e
        · exact e.symm
        · have := (List.pairwise_cons.1 p2).1 y e; omega
    rw [hd] at p2
    have p4 := (List.pairwise_cons.1 p2).1
    have e : x ∈ xs ↔ x ∈ xs.take (xs.countP (· < y)) ∨ x = y ∨ x ∈ xs.drop (xs.countP (· < y) + 1) := by
      conv => lhs; rw [← List.take_append_drop (xs.countP (· < y)) xs, hd]
      simp
    rw [e, List.mem_append]
    constructor
    · rintro (h | h)
      · have := t1 x h; exact ⟨.inl h, by omega⟩
      · have := p4 x h; exact ⟨.inr (.inr h), by omega⟩
    · rintro ⟨h | h | h, h2⟩
      · exact .inl h
      · exact absurd h h2
      · exact .inr h
  · next hc =>
    constructor
    · intro hx; exact ⟨hx, fun e => hc (by subst e; simpa using hx)⟩
    · exact fun hx => hx.1
theorem delI_filter {xs : List Int} (h : xs.Pairwise (· < ·)) (y : Int) : delI xs y = xs.filter (fun x => decide (x ≠ y)) :=
  up_ext (delI_up h y) (h.sublist List.filter_sublist) fun x => by rw [delI_mem h]; simp
theorem delAll_up {xs : List Int} (h : xs.Pairwise (· < ·)) : ∀ ls : List Int, (delAll xs ls).Pairwise (· < ·) := by
  refine snoc_ind h ?_
  intro l x ih
  rw [delAll_snoc]
  exact delI_up ih x
theorem delAll_mem {xs : List Int} (h : xs.Pairwise (· < ·)) (x : Int) : ∀ ls : List Int, x ∈ delAll xs ls ↔ x ∈ xs ∧ x ∉ ls := by
  refine snoc_ind ?_ ?_
  · simp [delAll]
  · intro l y ih
    rw [delAll_snoc, delI_mem (delAll_up h l), ih, List.mem_append, List.mem_singleton, not_or, and_assoc]
theorem delAll_nil {xs ls : List Int} (h : xs.Pairwise (· < ·)) (hs : ∀ x ∈ xs, x ∈ ls) : delAll xs ls = [] := by
  rw [List.eq_nil_iff_forall_not_mem]
  intro x hx
  have := (delAll_mem h x ls).1 hx
  exact this.2 (hs x this.1)
end Go.Proofs.YtmgnhbihfgpccaaGreatDoor
end
section
/- Layer 10: Union. -/
namespace Go.Proofs.YtmgnhbihfgpccaaGreatDoor
open Go Go.RowKit Go.Lib Go.Sort Go.Shelf

theorem Tryz.infoFn : (Tryz.prog.info? 93).map (fun i => (i.zero, i.size, i.bytes)) = some (some .nilFunc, 1, 8) := by kernel_rfl
/-- a row of functions -/
def OwnF (base : Nat) (W : World) (v : Value) (Fs : List Value) : Prop := W.ownsRow base 93 1 v Fs.length Fs
theorem own_type {W : World} {base : Nat} {e : TypeId} {size : Nat} {v : Value} {n : Nat} {xs : List Value} (hown : W.ownsRow base e size v n xs) (k : Nat) (hk : v.ownBlock = some k) : ∃ cur, W.heap[k]? = some (.cells cur e (0, 0)) := by
  rcases hown.2 with ⟨rfl, _⟩ | ⟨g, cap, cur, rfl, _, h3, _⟩
  · cases hk
  · cases hk; exact ⟨_, h3⟩
theorem tale_fr {base b : Nat} {w w' : World} {F v : Value} {xs : List Int} {ys : List Value} {n : Nat} (h : TaleAt base w F xs) (ho : w.ownsRow b 93 1 v n ys) (hf : Fr (fun k => v.ownBlock = some k) w w') : TaleAt base w' F xs := by
  obtain ⟨B, u, h0, h1, h2, h3, h4⟩ := h
  refine ⟨B, u, h0, h1, hf.blk h2 fun e => ?_, h3, own_kept h4 fun g hg => hf.block g (h4.lt g hg).2 fun e => ?_⟩
  · obtain ⟨c1, k1⟩ := own_type ho B e
    rw [h2] at k1; cases k1
  · obtain ⟨c1, k1⟩ := own_type ho g e
    obtain ⟨c2, k2⟩ := own_type h4 g hg
    rw [k1] at k2; cases k2
theorem tale_base {base base' : Nat} {w : World} {F : Value} {xs : List Int} (h : TaleAt base w F xs) (hb : base' ≤ base) : TaleAt base' w F xs := by
  obtain ⟨B, u, h0, h1, h2, h3, h4⟩ := h
  exact ⟨B, u, Nat.le_trans hb h0, h1, h2, h3, row_base' h4 hb⟩
/-- a pointer to a set, or none -/
def PtrAt (w : World) (p : Value) (xs : List Int) : Prop := (p = .pointer none ∧ xs = []) ∨ ∃ s ob base, p = .pointer (some ⟨s, 0, none⟩) ∧ SetAt base w s ob xs
theorem ptr_below {w W : World} {p : Value} {xs : List Int} (h : PtrAt w p xs) (hb : Below w.heap.size w W) : PtrAt W p xs := by
  rcases h with h | ⟨s, ob, base, h1, h2⟩
  · exact .inl h
  · exact .inr ⟨s, ob, base, h1, set_below h2 hb⟩

def UniG (w : World) (xss : List (List Int)) (k : Nat) (v : Value) (W : World) : Prop :=
  (∃ Fs : List Value, Fs.length = k ∧ OwnF w.heap.size W v Fs ∧ ∀ (j : Nat) (F : Value), Fs[j]? = some F → ∃ xs, xss[j]? = some xs ∧ TaleAt w.heap.size W F xs) ∧ Below w.heap.size w W
end Go.Proofs.YtmgnhbihfgpccaaGreatDoor
end
section
/- Layer 10: the document's Same; sets that are none. -/
namespace Go.Proofs.YtmgnhbihfgpccaaGreatDoor
open Go Go.RowKit Go.Lib Go.Sort Go.Shelf


theorem set_add_nil (A : Option Addr) (l c : Nat) (w : World) : Calls Tryz.prog 54 #[.pointer none, .slice A l c] w fun e w' => e = .returned (.int .i64 0) ∧ w' = w := by
  go_enter Tryz.func54, Tryz.ntmps54
  go_wp2_with fail
  go_ret
  exact ⟨rfl, rfl⟩
theorem set_rem_nil (A : Option Addr) (l c : Nat) (w : World) : Calls Tryz.prog 52 #[.pointer none, .slice A l c] w fun e w' => e = .returned (.int .i64 0) ∧ w' = w := by
  go_enter Tryz.func52, Tryz.ntmps52
  go_wp2_with fail
  go_ret
  exact ⟨rfl, rfl⟩

def WithP (w : World) (e : Ending) (w' : World) : Prop := (∃ F, e = .returned F ∧ Tells w' F []) ∧ Below w.heap.size w w'
end Go.Proofs.YtmgnhbihfgpccaaGreatDoor
end
section
/- Layer 10: awake. -/
namespace Go.Proofs.YtmgnhbihfgpccaaGreatDoor
open Go Go.RowKit Go.Lib Go.Sort Go.Shelf

theorem set_of' {w : World} (A : Option Addr) (xs : List Int) (n c : Nat) (hn : xs.length = n) (hl : xs.length ≤ 1000000) (hr : ReadsI w A xs) (zs : List Int) (hz : normI xs = zs) :
    Calls Tryz.prog 32 #[.slice A n c] w (OfP zs w) := by
  subst hn; subst hz
  exact set_of A xs c hl hr (normI_ok xs).1
theorem reads_new {w : World} {cs : Array Value} {xs : List Int} (h : ∀ j (h : j < xs.length), cs[j]? = some (.int .i64 xs[j])) : ReadsI (w.alloc (.cells cs 3)) (some ⟨w.heap.size, 0, none⟩) xs := fun _ =>
  ⟨_, _, rfl, by simp, fun j hj => by rw [Nat.zero_add, blk_cell (heap_alloc_new w _) j]; exact h j hj⟩
theorem reads_own {base : Nat} {w : World} {A : Option Addr} {n c : Nat} {xs : List Int} (h : OwnI base w (.slice A n c) xs) : ReadsI w A xs := fun h0 => by
  rcases h.2 with ⟨h1, h2⟩ | ⟨g, cap, cur, h1, h3, h4, h5, _, h6, h7⟩
  · omega
  · injection h1 with q1 q2 q3
    subst q1
    rw [Nat.mul_one] at h7
    refine ⟨g, 0, rfl, blk_lt h4, fun j hj => ?_⟩
    rw [Nat.zero_add, blk_cell h4 j, own_get (base := 0) (w := w) (cap := 0) h4 h7 j hj]


end Go.Proofs.YtmgnhbihfgpccaaGreatDoor
end
section
/- Layer 10: the document's Has, Remove, Add. -/
namespace Go.Proofs.YtmgnhbihfgpccaaGreatDoor
open Go Go.RowKit Go.Lib Go.Sort Go.Shelf

set_option maxHeartbeats 4000000 in
theorem has10 {w : World} (A : Option Addr) (xs : List Int) (c : Nat) (x : Int) (hl : xs.length ≤ 1000000) (hA : ReadsI w A xs) :
    Calls Tryz.prog 72 #[.slice A xs.length c, .int .i64 x] w fun e w' => e = .returned (.bool (xs.contains x)) ∧ w' = w := by
  have HA := Lib.hid hA
  obtain ⟨b, hb⟩ : ∃ b, xs.contains x = b := ⟨_, rfl⟩
  rw [hb]
  have HB := Lib.hid hb
  clear hA hb
  go_enter Tryz.func72, Tryz.ntmps72
  go_wp2_with fail
  go_loopw [5] (fun i wr => ∃ k : Nat, i = .int .i64 k ∧ k ≤ xs.length ∧ Hid ((xs.take k).contains x = false) ∧ wr = w) (fun i _ => xs.length - (Go.RowKit.intOf i).toNat)
  case atStart => exact ⟨0, rfl, Nat.zero_le _, rfl, rfl⟩
  case round =>
    obtain ⟨k, rfl, hk, HQ, rfl⟩ := hrel
    by_cases hlt : k < xs.length
    · obtain ⟨g, o, rfl, _, ha⟩ := HA.out (by omega)
      have a1 := ha k hlt
      have htk : xs[k] ≠ x → (xs.take (k + 1)).contains x = false := fun e => by
        have h1 : x ∉ xs.take k := by simpa using HQ.out
        have h2 : x ∉ xs.take (k + 1) := by
          rw [List.take_succ_eq_append_getElem hlt, List.mem_append, List.mem_singleton, not_or]
          exact ⟨h1, fun h => e h.symm⟩
        simpa using h2
      obtain ⟨y, hy⟩ : ∃ y, xs[k] = y := ⟨_, rfl⟩
      have hmem : xs[k] ∈ xs := List.getElem_mem hlt
      rw [hy] at a1 htk hmem
      have p1 : (k : Int) < (xs.length : Int) := by omega
      by_cases e : y = x
      · subst e
        have hbt : b = true := by rw [← HB.out]; simpa using hmem
        clear ha htk hy hmem
        go_wp2_with fail
        go_ret
        exact ⟨by first | rfl | (rw [hbt]; rfl), rfl⟩
      · have he : (y == x) = false := by simpa using e
        have HT := Lib.hid (htk e)
        clear ha htk hy hmem
        go_wp2_with fail
        go_roundw
        case rel => exact ⟨k + 1, by go_num, by omega, HT, by first | rfl | trivial⟩
        case measure => simp [Go.RowKit.intOf]; omega
    · obtain rfl : k = xs.length := by omega
      have hbt : b = false := by have := HQ.out; rw [List.take_length, HB.out] at this; exact this
      have p1 : ¬ ((xs.length : Int) < (xs.length : Int)) := by omega
      go_wp2_with fail
      go_ret
      exact ⟨by first | rfl | (rw [hbt]; rfl), rfl⟩
/-- a row of the call's own, handed back -/
def RowP (base : Nat) (zs : List Int) (w : World) (e : Ending) (w' : World) : Prop := (∃ v', e = .returned v' ∧ OwnI base w' v' zs) ∧ Below w.heap.size w w'
set_option maxRecDepth 100000 in
set_option maxHeartbeats 4000000 in
theorem rem10 {w : World} (A : Option Addr) (xs : List Int) (c : Nat) (x : Int) (hl : xs.length ≤ 1000000) (hA : ReadsI w A xs) :
    Calls Tryz.prog 64 #[.slice A xs.length c, .int .i64 x] w (RowP w.heap.size (xs.filter fun y => decide (y ≠ x)) w) := by
  obtain ⟨i0, hi, hz0, hz1, hz2⟩ := info_parts Tryz.infoI
  have HA := Lib.hid hA
  clear hA
  go_enter Tryz.func64, Tryz.ntmps64
  go_wp2_with fail
  have h00 : OwnI w.heap.size w (.slice none 0 0) [] := own_nil _ _
  go_loopw [5, 6] (fun v i wr => ∃ k : Nat, i = .int .i64 k ∧ k ≤ xs.length ∧ Hid (OwnI w.heap.size wr v ((xs.take k).filter fun y => decide (y ≠ x)) ∧ Below w.heap.size w wr)) (fun _ i _ => xs.length - (Go.RowKit.intOf i).toNat)
  case atStart => exact ⟨0, rfl, Nat.zero_le _, h00, Below.refl _ _⟩
  case round =>
    clear h00
    obtain ⟨k, rfl, hk, HQ⟩ := hrel
    by_cases hlt : k < xs.length
    · obtain ⟨g, o, rfl, hg, ha⟩ := HA.out (by omega)
      obtain ⟨q1, q2⟩ := HQ.out
      have a1 : wr.cell? ⟨g, o + k, none⟩ = some (.int .i64 xs[k]) := (World.cell?_of_block (w := w) (w' := wr) (a := ⟨g, o + k, none⟩) (q2.block g hg)).trans (ha k hlt)
      have htk : (xs.take (k + 1)).filter (fun y => decide (y ≠ x)) = (xs.take k).filter (fun y => decide (y ≠ x)) ++ if xs[k] = x then [] else [xs[k]] := by
        rw [List.take_succ_eq_append_getElem hlt, List.filter_append]
        by_cases e : xs[k] = x <;> simp [e]
      obtain ⟨y, hy⟩ : ∃ y, xs[k] = y := ⟨_, rfl⟩
      have hfl : ((xs.take k).filter fun y => decide (y ≠ x)).length ≤ 1000000 := Nat.le_trans (List.length_filter_le _ _) (by rw [List.length_take]; omega)
      obtain ⟨zs, hzs⟩ : ∃ zs, (xs.take k).filter (fun y => decide (y ≠ x)) = zs := ⟨_, rfl⟩
      rw [hy] at a1 htk
      rw [hzs] at htk hfl q1
      have p1 : (k : Int) < (xs.length : Int) := by omega
      have hz := q2.size
      have hor : wr.ownsRow w.heap.size 3 1 u5 zs.length (zs.map (Value.int .i64)) := q1
      have HO := Lib.hid hor
      have H := Lib.hid (And.intro q1 (And.intro q2 htk))
      clear ha hy hzs q1 q2 htk hor
      by_cases e : y = x
      · subst e
        go_wp2_with fail
        obtain ⟨q1, q2, htk⟩ := H.out
        rw [if_pos rfl, List.append_nil] at htk
        have HN : Hid (OwnI w.heap.size wr u5 ((xs.take (k + 1)).filter fun z => decide (z ≠ y)) ∧ Below w.heap.size w wr) := ⟨by rw [htk]; exact q1, q2⟩
        clear q1 q2 htk
        go_roundw
        case rel => exact ⟨k + 1, by go_num, by omega, HN⟩
        case measure => simp [Go.RowKit.intOf]; omega
      · have he : (y != x) = true := by simpa using e
        go_wp2_with (at_builtin; refine Hid.out ?_)
        refine Lib.hid ?_
        refine wpList_app_fr rfl _ _ 44 rfl w.heap.size 3 i0 _ 1 8 Tryz.underlying44 hi hz0 hz1 hz2 rfl (by decide) u5 zs.length (zs.map (Value.int .i64)) rfl HO.out #[.int .i64 y] _ rfl rfl rfl (by intro u hu; simp at hu; subst hu; rfl) (by omega) (by decide) (by omega) ?_
        intro v1 W2 hown1 hfr1
        obtain ⟨q1, q2, htk⟩ := H.out
        rw [if_neg e] at htk
        have HN : Hid (OwnI w.heap.size W2 v1 ((xs.take (k + 1)).filter fun z => decide (z ≠ x)) ∧ Below w.heap.size w W2) := ⟨by rw [htk]; unfold OwnI; rw [List.length_append, List.map_append]; exact hown1, q2.trans (hfr1.below q2.size fun j _ ej => (q1.lt j ej).1)⟩
        clear q1 q2 htk hown1 hfr1
        go_wp2_with fail
        go_roundw
        case rel => exact ⟨k + 1, by go_num, by omega, HN⟩
        case measure => simp [Go.RowKit.intOf]; omega
    · obtain rfl : k = xs.length := by omega
      have p1 : ¬ ((xs.length : Int) < (xs.length : Int)) := by omega
      go_wp2_with fail
      go_ret
      obtain ⟨q1, q2⟩ := HQ.out
      rw [List.take_length] at q1
      simp only [ne_eq, decide_not] at q1
      exact ⟨⟨u5, rfl, q1⟩, q2⟩
end Go.Proofs.YtmgnhbihfgpccaaGreatDoor
end
section
/- Layer 19: the document's room: what keeps it, what changes it; Add. -/
namespace Go.Proofs.YtmgnhbihfgpccaaGreatDoor
open Go Go.RowKit

theorem ownI_base {W : World} {base base' : Nat} {v : Value} {xs : List Int} (h : OwnI base W v xs) (hb : base' ≤ base) : OwnI base' W v xs := by
  obtain ⟨h1, h2⟩ := h
  refine ⟨h1, ?_⟩
  rcases h2 with h2 | ⟨g, cap, cur, h3, h4, h5⟩
  · exact .inl h2
  · exact .inr ⟨g, cap, cur, h3, by omega, h5⟩
/-- its blocks -/
def RxX (B : Nat) (q : RxV) (k : Nat) : Prop := k = B ∨ q.vl.ownBlock = some k ∨ q.vb.ownBlock = some k ∨ q.vg.ownBlock = some k
section
variable {base B : Nat} {q : RxV} {x : Rx} {W : World}
theorem RxAt.lt (h : RxAt base B q x W) : ∀ k, RxX B q k → base ≤ k ∧ k < W.heap.size := by
  obtain ⟨h1, h2, h3, h4, h9⟩ := h
  rintro k (rfl | e | e | e)
  · exact ⟨h9, blk_lt h1⟩
  · exact h2.lt k e
  · exact h3.lt k e
  · exact h4.lt k e
theorem RxAt.fr (h : RxAt base B q x W) {Z : Nat → Prop} {W' : World} (hf : Fr Z W W') (hz : ∀ k, RxX B q k → ¬ Z k) : RxAt base B q x W' := by
  have hl := h.lt
  obtain ⟨h1, h2, h3, h4, h9⟩ := h
  exact ⟨hf.blk h1 (hz _ (.inl rfl)), ownM_kept h2 fun g hg => hf.block g (h2.lt g hg).2 (hz _ (.inr (.inl hg))), ownT_kept h3 fun g hg => hf.block g (h3.lt g hg).2 (hz _ (.inr (.inr (.inl hg)))),
    own_kept h4 fun g hg => hf.block g (h4.lt g hg).2 (hz _ (.inr (.inr (.inr hg)))), h9⟩
theorem RxAt.below (h : RxAt base B q x W) {W' : World} (hb : RowKit.Below W.heap.size W W') : RxAt base B q x W' :=
  h.fr (Fr.of_below (X := fun _ => False) hb) fun _ _ e => e
theorem RxAt.sz (h : RxAt base B q x W) : base ≤ W.heap.size := by have := h.2.2.2.2; have := blk_lt h.1; omega
/-- no two of its parts share a block -/
theorem RxAt.apart (h : RxAt base B q x W) : (q.vl.ownBlock ≠ some B ∧ q.vb.ownBlock ≠ some B ∧ q.vg.ownBlock ≠ some B) ∧ (∀ k, q.vl.ownBlock = some k → q.vb.ownBlock ≠ some k ∧ q.vg.ownBlock ≠ some k) ∧ (∀ k, q.vb.ownBlock = some k → q.vg.ownBlock ≠ some k) := by
  obtain ⟨h1, h2, h3, h4, h9⟩ := h
  have tyo : ∀ {e : TypeId} {size n : Nat} {v : Value} {xs : List Value} {k : Nat}, W.ownsRow base e size v n xs → v.ownBlock = some k → ∃ cur, W.heap[k]? = some (.cells cur e (0, 0)) := fun {e size n v xs k} hr hk => by
    rcases hr.2 with ⟨rfl, _⟩ | ⟨g, cap, cur, rfl, _, hg, _⟩
    · cases hk
    · cases hk; exact ⟨cur, hg⟩
  have ne : ∀ {k : Nat} {c1 c2 : Array Value} {t1 t2 : TypeId}, t1 ≠ t2 → W.heap[k]? = some (.cells c1 t1 (0, 0)) → W.heap[k]? = some (.cells c2 t2 (0, 0)) → False := fun ht a b => by
    rw [a] at b; injection b with b; injection b with b1 b2 _; exact ht b2
  refine ⟨⟨fun e => ?_, fun e => ?_, fun e => ?_⟩, fun k hk => ⟨fun e => ?_, fun e => ?_⟩, fun k hk e => ?_⟩
  · obtain ⟨c, hc⟩ := tyo h2 e; exact ne (by decide) hc h1
  · obtain ⟨c, hc⟩ := tyo h3 e; exact ne (by decide) hc h1
  · obtain ⟨c, hc⟩ := tyo h4 e; exact ne (by decide) hc h1
  · obtain ⟨c, hc⟩ := tyo h2 hk; obtain ⟨d, hd⟩ := tyo h3 e; exact ne (by decide) hc hd
  · obtain ⟨c, hc⟩ := tyo h2 hk; obtain ⟨d, hd⟩ := tyo h4 e; exact ne (by decide) hc hd
  · obtain ⟨c, hc⟩ := tyo h3 hk; obtain ⟨d, hd⟩ := tyo h4 e; exact ne (by decide) hc hd
theorem RxAt.toL (h : RxAt base B q x W) {W' : World} {v : Value} {ms : List Mem} (ho : OwnM base W' v ms) (hb : W'.heap[B]? = some (rxO { x with L := ms } { q with vl := v })) (hf : Fr (fun k => k = B ∨ q.vl.ownBlock = some k) W W') :
    RxAt base B { q with vl := v } { x with L := ms } W' := by
  have ha := h.apart
  obtain ⟨h1, h2, h3, h4, h9⟩ := h
  refine ⟨hb, ho, ownT_kept h3 fun g hg => hf.block g (h3.lt g hg).2 ?_, own_kept h4 fun g hg => hf.block g (h4.lt g hg).2 ?_, h9⟩
  · rintro (e | e)
    · exact ha.1.2.1 (e ▸ hg)
    · exact (ha.2.1 g e).1 hg
  · rintro (e | e)
    · exact ha.1.2.2 (e ▸ hg)
    · exact (ha.2.1 g e).2 hg
theorem RxAt.toB (h : RxAt base B q x W) {W' : World} {v : Value} {bn : List (List UInt8)} (ho : OwnT base W' v bn) (hb : W'.heap[B]? = some (rxO { x with bans := bn } { q with vb := v })) (hf : Fr (fun k => k = B) W W') :
    RxAt base B { q with vb := v } { x with bans := bn } W' := by
  have ha := h.apart
  obtain ⟨h1, h2, h3, h4, h9⟩ := h
  refine ⟨hb, ownM_kept h2 fun g hg => hf.block g (h2.lt g hg).2 ?_, ho, own_kept h4 fun g hg => hf.block g (h4.lt g hg).2 ?_, h9⟩
  · exact fun e => ha.1.1 (e ▸ hg)
  · exact fun e => ha.1.2.2 (e ▸ hg)
theorem RxAt.toG (h : RxAt base B q x W) {W' : World} {v : Value} {gs : List Int} (ho : OwnI base W' v gs) (hb : W'.heap[B]? = some (rxO { x with gs := gs } { q with vg := v })) (hf : Fr (fun k => k = B) W W') :
    RxAt base B { q with vg := v } { x with gs := gs } W' := by
  have ha := h.apart
  obtain ⟨h1, h2, h3, h4, h9⟩ := h
  refine ⟨hb, ownM_kept h2 fun g hg => hf.block g (h2.lt g hg).2 ?_, ownT_kept h3 fun g hg => hf.block g (h3.lt g hg).2 ?_, ho, h9⟩
  · exact fun e => ha.1.1 (e ▸ hg)
  · exact fun e => ha.1.2.1 (e ▸ hg)
/-- a field anew that lies in the room's own block -/
theorem RxAt.toF (h : RxAt base B q x W) {W' : World} {x' : Rx} (hb : W'.heap[B]? = some (rxO x' q)) (h1 : x'.L = x.L) (h2 : x'.bans = x.bans) (h3 : x'.gs = x.gs) (hf : Fr (fun k => k = B) W W') : RxAt base B q x' W' := by
  have ha := h.apart
  obtain ⟨g1, g2, g3, g4, h9⟩ := h
  refine ⟨hb, ?_, ?_, ?_, h9⟩
  · rw [h1]; exact ownM_kept g2 fun g hg => hf.block g (g2.lt g hg).2 fun e => ha.1.1 (e ▸ hg)
  · rw [h2]; exact ownT_kept g3 fun g hg => hf.block g (g3.lt g hg).2 fun e => ha.1.2.1 (e ▸ hg)
  · rw [h3]; exact own_kept g4 fun g hg => hf.block g (g4.lt g hg).2 fun e => ha.1.2.2 (e ▸ hg)
end
/-- what is left of the document's room -/
def XW (base B : Nat) (q : RxV) (x' : Rx) (w w' : World) : Prop := ∃ q', RxAt base B q' x' w' ∧ Fr (RxX B q) w w' ∧ ∀ k, RxX B q' k → k < w.heap.size → RxX B q k
theorem XW.same {base B : Nat} {q : RxV} {x : Rx} {w w' : World} (h : RxAt base B q x w) (hb : RowKit.Below w.heap.size w w') : XW base B q x w w' := ⟨q, h.below hb, Fr.of_below hb, fun _ hk _ => hk⟩
theorem XW.around {base B : Nat} {q : RxV} {r' : Rx} {w W W' w' : World} (h : XW base B q r' W W') (h1 : RowKit.Below w.heap.size w W) (h2 : RowKit.Below W'.heap.size W' w') : XW base B q r' w w' := by
  obtain ⟨q', a, b, c⟩ := h
  exact ⟨q', a.below h2, ((Fr.of_below (X := RxX B q) h1).trans3 b fun _ _ e => e).trans3 (Fr.of_below (X := fun _ => False) h2) fun _ _ e => e.elim, fun k hk hl => c k hk (Nat.lt_of_lt_of_le hl h1.size)⟩
theorem XW.then {base B : Nat} {q q' : RxV} {r2 : Rx} {w w1 w2 : World} (f : Fr (RxX B q) w w1) (c : ∀ k, RxX B q' k → k < w.heap.size → RxX B q k) (h2 : XW base B q' r2 w1 w2) : XW base B q r2 w w2 := by
  obtain ⟨q2, a, b, d⟩ := h2
  exact ⟨q2, a, f.trans3 b fun k hk e => c k e hk, fun k hk hl => c k (d k hk (Nat.lt_of_lt_of_le hl f.size)) hl⟩
theorem XW.boxedZ {base B : Nat} {q : RxV} {r' : Rx} {w W W' w' : World} (h : XW base B q r' W W') (h1 : RowKit.Below w.heap.size w W) (hl : ∀ k, RxX B q k → k < w.heap.size) {Z : Nat → Prop} (hZ : ∀ k, Z k → w.heap.size ≤ k ∧ k < W.heap.size) (h2 : Fr Z W' w') : XW base B q r' w w' := by
  obtain ⟨q', a, b, c⟩ := h
  refine ⟨q', a.fr h2 fun k hk e => ?_, ((Fr.of_below (X := RxX B q) h1).trans3 b fun _ _ e => e).trans3 h2 fun k hk e => by have := (hZ k e).1; omega, fun k hk hl2 => c k hk (Nat.lt_of_lt_of_le hl2 h1.size)⟩
  have := hl _ (c _ hk (hZ k e).2)
  have := (hZ k e).1
  omega
/-- a member more, for the document -/
def addX (x : Rx) (id : Int) (op : Bool) : Rx := if 0 ≤ atM x.L id then x else { x with L := x.L ++ [(id, op, false)], gs := x.gs.filter fun y => decide (y ≠ id) }
set_option maxRecDepth 100000 in
set_option maxHeartbeats 8000000 in
theorem refAdd_any {base B : Nat} {q : RxV} {x : Rx} {w : World} (h : RxAt base B q x w) (id : Int) (op : Bool) (hl : x.L.length ≤ 100000) (hgl : x.gs.length ≤ 100000) :
    Calls Tryz.prog 36 #[.pointer (some ⟨B, 0, none⟩), .int .i64 id, .bool op] w fun e w' => (∃ v, e = .returned v) ∧ XW base B q (addX x id op) w w' := by
  have HP := Lib.hid (refAt_any h id (by omega))
  obtain ⟨x', hx'⟩ : ∃ x', addX x id op = x' := ⟨_, rfl⟩
  rw [hx']
  have H := Lib.hid (And.intro h (And.intro hx' hl))
  by_cases ha : 0 ≤ atM x.L id
  · have hr : addX x id op = x := by unfold addX; rw [if_pos ha]
    have HR := Lib.hid hr
    obtain ⟨a, haa⟩ : ∃ a, atM x.L id = a := ⟨_, rfl⟩
    rw [haa] at HP ha
    clear h hx' haa hr hl hgl
    go_enter Tryz.func36, Tryz.ntmps36
    go_wp2_with fail
    refine HP.out.mono ?_
    rintro e w1 ⟨rfl, rfl⟩
    go_wp2_with fail
    first | (refine bodyPost_ret (results_none rfl _ _ _) rfl ?_; exact ⟨⟨_, rfl⟩, by rw [← H.out.2.1, HR.out]; exact XW.same H.out.1 (Below.refl _ _)⟩) | (go_end0; exact ⟨⟨_, rfl⟩, by rw [← H.out.2.1, HR.out]; exact XW.same H.out.1 (Below.refl _ _)⟩)
  · have hr : addX x id op = { x with L := x.L ++ [(id, op, false)], gs := x.gs.filter fun y => decide (y ≠ id) } := by unfold addX; rw [if_neg ha]
    obtain ⟨gf, hgf⟩ : ∃ gf, (x.gs.filter fun y => decide (y ≠ id)) = gf := ⟨_, rfl⟩
    rw [hgf] at hr
    have HR := Lib.hid hr
    obtain ⟨a, haa⟩ : ∃ a, atM x.L id = a := ⟨_, rfl⟩
    rw [haa] at HP ha
    obtain ⟨A, c, hv⟩ := ownM_slice h.2.1
    have ho := h.2.1
    rw [hv] at ho
    obtain ⟨i0, hi0, hz0, hz1, hz2⟩ := info_parts Tryz.infoMb
    obtain ⟨A1, c1, A2, c2, W2, W3, hr1, hr2, o3, f2, f3⟩ := snoc_runs (P := Tryz.prog) 43 i0 _ 16 Tryz.underlying43 hi0 hz0 hz1 hz2 rfl (by decide) ho (fun u hu => encM_one hu) (by omega) (by decide) #[.int .i64 id, .bool op, .bool false] rfl (by intro u hu; simp at hu; rcases hu with rfl | rfl | rfl <;> rfl)
    obtain ⟨n, hn⟩ : ∃ n, x.L.length = n := ⟨_, rfl⟩
    have o3' : OwnM w.heap.size W3 (.slice A2 (n + 1) c2) (x.L ++ [(id, op, false)]) := by rw [← hn]; exact ownM_snoc o3
    rw [hn] at hr1 hr2
    have d1 := blk_cell (blk_alloc h.1 (.cells #[] 38)) 2
    have d1' : (w.alloc (.cells #[] 38)).cell? ⟨B, 2, none⟩ = some (.slice A n c) := by rw [d1, ← hn, ← hv]; rfl
    have k3 := f3.blk h.1 fun e => e
    have d3 := blk_cell k3 2
    have g3 := blk_free k3 2
    obtain ⟨W4, hW4⟩ : ∃ W4, W3.setCell ⟨B, 2, none⟩ (.slice A2 (n + 1) c2) = W4 := ⟨_, rfl⟩
    have f34 : Fr (fun k => k = B) W3 W4 := by rw [← hW4]; exact Fr.setCell (X := fun k => k = B) (Fr.refl _ W3) ⟨B, 2, none⟩ rfl _
    have f14 : Fr (fun k => k = B) w W4 := (f3.mono fun _ _ e => e.elim).trans3 f34 fun _ _ e => e
    have hBw : B < w.heap.size := blk_lt h.1
    have h4 : RxAt base B { q with vl := .slice A2 (n + 1) c2 } { x with L := x.L ++ [(id, op, false)] } W4 := h.toL (ownM_base (ownM_kept o3' fun g hg => f34.block g (o3'.lt g hg).2 fun e => by have := (o3'.lt g hg).1; omega) h.sz) (by rw [← hW4]; exact blk_set k3 2 _) (f14.mono fun k _ e => .inl e)
    have c4 : ∀ k, RxX B { q with vl := .slice A2 (n + 1) c2 } k → k < w.heap.size → RxX B q k := fun k hk hlt => by
      rcases hk with e | e | e | e
      · exact .inl e
      · have := (o3'.lt k e).1; omega
      · exact .inr (.inr (.inl e))
      · exact .inr (.inr (.inr e))
    obtain ⟨Ag, cg, hvg⟩ := row_slice h.2.2.2.1
    have hg4 := h4.2.2.2.1
    rw [hvg] at hg4
    have hrem := rem10 (w := W4) Ag x.gs cg id (by omega) (reads_own hg4)
    rw [hgf] at hrem
    obtain ⟨m, hm⟩ : ∃ m, x.gs.length = m := ⟨_, rfl⟩
    have e8 : W4.cell? ⟨B, 8, none⟩ = some (.slice Ag m cg) := by rw [← hm, ← hvg]; exact blk_cell h4.1 8
    rw [hm] at hrem
    have HREM := Lib.hid hrem
    clear hrem hgf
    have H4 := Lib.hid (And.intro h4 (And.intro c4 (f14.mono (Y := RxX B q) fun k _ e => .inl e)))
    clear h hx' haa hr hl hgl hv ho hi0 hz0 hz1 hz2 o3 o3' f2 f3 k3 f34 f14 hBw h4 c4 hg4 hvg hm hn d1
    go_enter Tryz.func36, Tryz.ntmps36
    go_wp2_with fail
    refine HP.out.mono ?_
    rintro e w1 ⟨rfl, rfl⟩
    go_wp2_with (first
      | (at_builtin; refine wpList_app_g rfl _ _ _ _ rfl (by exact hr1) ?_)
      | (at_builtin; refine wpList_app_g rfl _ _ _ _ rfl (by exact hr2) ?_))
    clear hW4 hr1 hr2 d1' d3 g3
    refine HREM.out.mono ?_
    rintro e w5 ⟨⟨v5, rfl, o5⟩, b5⟩
    have h5 := H4.out.1.below b5
    have HQ := Lib.hid (And.intro o5 b5)
    have e8' := blk_cell h5.1 8
    have g8 := blk_free h5.1 8
    obtain ⟨A5, c5, rfl⟩ := row_slice o5
    obtain ⟨lf, hlf⟩ : ∃ lf, gf.length = lf := ⟨_, rfl⟩
    rw [hlf] at o5 ⊢
    obtain ⟨W6, hW6⟩ : ∃ W6, w5.setCell ⟨B, 8, none⟩ (.slice A5 lf c5) = W6 := ⟨_, rfl⟩
    have f56 : Fr (fun k => k = B) w5 W6 := by rw [← hW6]; exact Fr.setCell (X := fun k => k = B) (Fr.refl _ w5) ⟨B, 8, none⟩ rfl _
    have o6 : OwnI W4.heap.size W6 (.slice A5 lf c5) gf := own_kept o5 fun g hg => f56.block g (o5.lt g hg).2 fun e => by have := (o5.lt g hg).1; have := blk_lt H4.out.1.1; omega
    have h6 : RxAt base B { { q with vl := .slice A2 (n + 1) c2 } with vg := .slice A5 lf c5 } { x with L := x.L ++ [(id, op, false)], gs := gf } W6 := h5.toG (ownI_base o6 H4.out.1.sz) (by rw [← hW6]; exact blk_set h5.1 8 _) f56
    have hzw := H4.out.2.2.size
    have hx6 : XW base B q (addX x id op) w1 W6 := by
      rw [HR.out]
      refine ⟨_, h6, (H4.out.2.2.trans3 (Fr.of_below (X := fun _ => False) b5) fun _ _ e => e.elim).trans3 f56 fun k _ e => .inl e, fun k hk hlt => ?_⟩
      rcases hk with e | e | e | e
      · exact .inl e
      · exact H4.out.2.1 k (.inr (.inl e)) hlt
      · exact .inr (.inr (.inl e))
      · have := (o6.lt k e).1; omega
    rw [H.out.2.1] at hx6
    have HX := Lib.hid hx6
    clear h5 o5 b5 o6 h6 f56 hx6 e8 hzw
    go_wp2_with fail
    go_end0
    exact ⟨⟨_, rfl⟩, HX.out⟩
end Go.Proofs.YtmgnhbihfgpccaaGreatDoor
end
