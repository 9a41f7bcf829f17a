/- Texts of this proof, one behind the other. -/
import Derived.Test.YtnoeblnljfnecaaGreatDoorWishNoneG9
import Derived.Test.YtnoeblnljfnecaaGreatDoorWishNoneG4
import Derived.Test.YtnoeblnljfnecaaGreatDoorWishNoneG7
section
/- Regions that draw their order, anywhere (a loop's round over a function too), walked op by op in one way, where the fence lets every function by: what only reads may be taken first; S holds behind every operation but the last (number z), which waits for what reads. -/
namespace Go.Proofs.YtnoeblnljfnecaaGreatDoor
open Go Go.RowKit

section
variable {F : Fence} {n : Nat} {P : Program} {md : Region.Mode} {ops : Array Oper} {Q : Exit → Act → World → Prop} {S : World → Prop} {z : Nat}
theorem wpOpIn_putIf {j : Nat} {oi oj : Oper} {v : Value} (hF : ∀ f, F.fn f) (hnd : noDefer ops = true) (hj : ops[j]? = some oj) (hap : oi.apart ops oj = true)
    (hsi : ∀ cs b, oi.op ≠ .select cs b) (hsj : ∀ cs b, oj.op ≠ .select cs b)
    (hQ : ∀ c a w, Q (.panic c) (a.put oi.dst v) w → Q (.panic c) a w) {K : Act → World → Prop} {a : Act} {w : World}
    (hy : YieldsIf P ops S oi v a) (h : wpOpIn F n P ops Q j K (a.put oi.dst v) w) :
    wpOpIn F n P ops Q j (fun a' w' => YieldsIf P ops S oi v a' ∧ K (a'.put oi.dst v) w') a w := by
  obtain ⟨h1, h2, h3⟩ := Oper.apart_spec hap
  have keep : ∀ (a : Act), YieldsIf P ops S oi v a → ∀ u, YieldsIf P ops S oi v (a.put oj.dst u) := fun a hy u =>
    hy.of_same (execOp_put oi hsi a oj.dst u h3) (wanted_put oi a oj.dst u h3)
  have keepD : ∀ d, YieldsIf P ops S oi v { a with defers := d :: a.defers } := fun d => hy.of_same rfl rfl
  have hnj := noDefer_spec hnd hj
  unfold wpOpIn at *
  simp only [hj] at *
  rw [wanted_put oj a oi.dst v h1, about_put oj w a oi.dst v h1] at h
  split
  · rename_i hw
    simp only [hw, if_true] at h
    unfold Oper.wpIn at *
    rw [about_put oj w a oi.dst v h1] at h
    refine ⟨h.1, ?_⟩
    have h := h.2
    rw [Oper.semAt_eq _ _ _ hnj, execOp_put oj hsj a oi.dst v h1] at h
    rw [Oper.semAt_eq _ _ _ hnj]
    generalize (execOp a.eval oj).run P w = r at *
    cases r with
    | ok x w' =>
      cases x <;> simp only [Oper.uponIn] at h ⊢
      case value u => exact ⟨keep a hy u, by rw [← Act.put_comm a v u h2]; exact h⟩
      case skip => exact ⟨keep a hy _, by rw [← Act.put_comm a v undef h2]; exact h⟩
      case defer d =>
        refine ⟨keep _ (keepD d) _, ?_⟩
        rw [← Act.put_comm _ v undef h2, ← Act.put_defers]
        exact h
      case enter f args =>
        refine ⟨h.1, CallsIn.mono h.2 fun e w'' he => ?_⟩
        cases e with
        | returned u => exact ⟨keep a hy u, by rw [← Act.put_comm a v u h2]; exact he⟩
        | panicked c => exact hQ _ _ _ he
        | outgrown => exact he
      case row row args => exact ⟨h.1, RowsIn.mono h.2 fun u w'' he => ⟨keep a hy u, by rw [← Act.put_comm a v u h2]; exact he⟩⟩
      case round l f tmps assign body =>
        refine ⟨h.1, RoundIn.mono h.2 fun e w'' he => ?_⟩
        cases e with
        | returned u => exact ⟨keep a hy u, by rw [← Act.put_comm a v u h2]; exact he⟩
        | panicked c => exact hQ _ _ _ he
        | outgrown => exact he
    | halt x w' =>
      cases x <;> simp only [Oper.uponIn] at h ⊢
      case panic u => exact hQ _ _ _ h
  · rename_i hw
    simp only [hw] at h
    exact ⟨h.1, keep a hy _, by rw [← Act.put_comm a v undef h2]; exact h.2⟩
theorem yieldsIf_wpOpIn {i : Nat} {o : Oper} {v : Value} {a : Act} (hF : ∀ f, F.fn f) (hnd : noDefer ops = true) (hi : ops[i]? = some o) (hy : YieldsIf P ops S o v a)
    {K : Act → World → Prop} {w : World} (hS : S w) (h : K (a.put o.dst v) w) : wpOpIn F n P ops Q i K a w := by
  unfold wpOpIn
  simp only [hi]
  rcases hy with ⟨hw, hv⟩ | ⟨hw, rfl⟩
  · simp only [hw, if_true, Oper.wpIn]
    refine ⟨fun f _ => hF f, ?_⟩
    rw [Oper.semAt_eq _ _ _ (noDefer_spec hnd hi), hv w hS]
    exact h
  · simp only [hw, Bool.false_eq_true, if_false]; exact ⟨fun f _ => hF f, h⟩
/-- whatever order is picked; S holds behind all but z -/
def wpAnyI (F : Fence) (n : Nat) (P : Program) (md : Region.Mode) (ops : Array Oper) (Q : Exit → Act → World → Prop) (S : World → Prop) (z : Nat) : Nat → Array Bool → Act → World → Prop
  | 0, listed, a, w => Region.ready md ops listed = [] ∧ Q .normal a w
  | fuel + 1, listed, a, w => (Region.ready md ops listed = [] → Q .normal a w) ∧
    ∀ i ∈ Region.ready md ops listed, wpOpIn F n P ops Q i (fun a' w' => (i ≠ z → S w') ∧ wpAnyI F n P md ops Q S z fuel (listed.setIfInBounds i true) a' w') a w
theorem wpAnyIn_of_i : ∀ (fuel : Nat) (listed : Array Bool) (a : Act) (w : World), wpAnyI F n P md ops Q S z fuel listed a w → wpAnyIn F n P md ops Q fuel listed a w
  | 0, _, _, _, h => h
  | fuel + 1, _, _, _, h => ⟨h.1, fun i hi => wpOpIn_mono (fun _ _ h' => wpAnyIn_of_i fuel _ _ _ h'.2) (h.2 i hi)⟩
theorem wpAnyI_first {i : Nat} {oi : Oper} {v : Value} (hF : ∀ f, F.fn f) (hnd : noDefer ops = true) (hi : ops[i]? = some oi) (hsel : ∀ (j : Nat) (o : Oper) cs b, ops[j]? = some o → o.op ≠ .select cs b)
    (hQ : ∀ c a w, Q (.panic c) (a.put oi.dst v) w → Q (.panic c) a w) (hz : waitsFor md ops z i = true) : ∀ (fuel : Nat) (listed : Array Bool) (a : Act) (w : World),
      (∀ j oj, ops[j]? = some oj → j ≠ i → listed.getD j true = false → (∀ e ∈ oj.after, Region.binds md e = true → e.on ≠ i) → oi.apart ops oj = true) →
      i ∈ Region.ready md ops listed → YieldsIf P ops S oi v a → S w → wpAnyI F n P md ops Q S z fuel (listed.setIfInBounds i true) (a.put oi.dst v) w → wpAnyI F n P md ops Q S z (fuel + 1) listed a w := by
  intro fuel
  induction fuel with
  | zero =>
    intro listed a w _ hr hy hS H
    refine ⟨fun h => (by rw [h] at hr; cases hr), fun j hj => ?_⟩
    by_cases hji : j = i
    · subst hji
      exact yieldsIf_wpOpIn hF hnd hi hy hS ⟨fun _ => hS, H⟩
    · have h1 := ready_mono hj hji
      rw [H.1] at h1
      cases h1
  | succ fuel ih =>
    intro listed a w hfree hr hy hS H
    refine ⟨fun h => (by rw [h] at hr; cases hr), fun j hj => ?_⟩
    by_cases hji : j = i
    · subst hji
      exact yieldsIf_wpOpIn hF hnd hi hy hS ⟨fun _ => hS, H⟩
    · have hjz := waits_not hz hr hj
      have h1 := H.2 j (ready_mono hj hji)
      obtain ⟨hjun, oj, hoj, hall⟩ := mem_ready.1 hj
      have hnot : ∀ e ∈ oj.after, Region.binds md e = true → e.on ≠ i := fun e he hb heq => by
        have h1 := hall e he hb
        have h0 := (mem_ready.1 hr).1
        rw [heq] at h1
        rcases Nat.lt_or_ge i listed.size with h' | h'
        · simp [h'] at h0 h1; rw [h0] at h1; cases h1
        · simp [Array.getElem?_eq_none h'] at h1
      have h2 := wpOpIn_putIf hF hnd hoj (hfree j oj hoj hji hjun hnot) (fun cs b => hsel i oi cs b hi) (fun cs b => hsel j oj cs b hoj) hQ hy h1
      refine wpOpIn_mono (fun a' w' h3 => ⟨h3.2.1, ih (listed.setIfInBounds j true) a' w' (fun k ok hk hki hun hno => hfree k ok hk hki ?_ hno) (ready_mono hr (Ne.symm hji)) h3.1 (h3.2.1 hjz) ?_⟩) h2
      · by_cases hjk : j = k
        · subst hjk; exact hjun
        · rw [getD_set_ne true hjk] at hun; exact hun
      · rw [Array.setIfInBounds_comm _ _ hji]
        exact h3.2.2
/-- what yields in every world that is held -/
theorem wpAnyI_read {i : Nat} {oi : Oper} (v : Value) {fuel : Nat} {listed : Array Bool} {a : Act} {w : World} (hF : ∀ f, F.fn f) (hnd : noDefer ops = true) (hi : ops[i]? = some oi)
    (hs : Region.noSelect ops = true) (hf : Region.free md ops listed i = true) (hr : (Region.ready md ops listed).contains i = true) (hz : waitsFor md ops z i = true)
    (hQ : ∀ c a w, Q (.panic c) (a.put oi.dst v) w → Q (.panic c) a w) (hw : Region.wanted oi (yielded ops a.tmps) = true) (hS : S w)
    (hy : ∀ w, S w → (execOp a.eval oi).run P w = .ok (.value v) w)
    (h : wpAnyI F n P md ops Q S z fuel (listed.setIfInBounds i true) (a.put oi.dst v) w) : wpAnyI F n P md ops Q S z (fuel + 1) listed a w :=
  wpAnyI_first hF hnd hi (Region.noSelect_spec hs) hQ hz fuel listed a w (Region.free_spec hi hf) (by simpa using hr) (Or.inl ⟨hw, hy⟩) hS h
/-- what is guarded, and not wanted -/
theorem wpAnyI_pass {i : Nat} {oi : Oper} {fuel : Nat} {listed : Array Bool} {a : Act} {w : World} (hF : ∀ f, F.fn f) (hnd : noDefer ops = true) (hi : ops[i]? = some oi)
    (hs : Region.noSelect ops = true) (hf : Region.free md ops listed i = true) (hr : (Region.ready md ops listed).contains i = true) (hz : waitsFor md ops z i = true)
    (hQ : ∀ c a w, Q (.panic c) (a.put oi.dst undef) w → Q (.panic c) a w) (hw : Region.wanted oi (yielded ops a.tmps) = false) (hS : S w)
    (h : wpAnyI F n P md ops Q S z fuel (listed.setIfInBounds i true) (a.put oi.dst undef) w) : wpAnyI F n P md ops Q S z (fuel + 1) listed a w :=
  wpAnyI_first hF hnd hi (Region.noSelect_spec hs) hQ hz fuel listed a w (Region.free_spec hi hf) (by simpa using hr) (Or.inr ⟨hw, rfl⟩) hS h
/-- one alone may come up: a call, a slice that is made -/
theorem wpAnyI_one {i : Nat} {o : Oper} {fuel : Nat} {listed : Array Bool} {a : Act} {w : World} (hr : Region.ready md ops listed = [i]) (ho : ops[i]? = some o) (hw : Region.wanted o (yielded ops a.tmps) = true)
    (h : ∀ K' : Act → World → Prop, Shut (∀ a w, S w → (S w → wpAnyI F n P md ops Q S z fuel (listed.setIfInBounds i true) a w) → K' a w) → Oper.wpIn F n P o a w K' Q) : wpAnyI F n P md ops Q S z (fuel + 1) listed a w :=
  ⟨fun h0 => absurd (hr ▸ h0) (by simp), by
    rw [hr]
    intro j hj
    obtain rfl := List.mem_singleton.1 hj
    exact wpOpIn_step ho fun K' hK => by rw [if_pos hw]; exact h K' fun a w hS hW => hK a w ⟨fun _ => hS, hW hS⟩⟩
/-- z comes up -/
theorem wpAnyI_last {o : Oper} {fuel : Nat} {listed : Array Bool} {a : Act} {w : World} (hr : Region.ready md ops listed = [z]) (ho : ops[z]? = some o) (hw : Region.wanted o (yielded ops a.tmps) = true)
    (h : ∀ K' : Act → World → Prop, Shut (∀ a w, wpAnyI F n P md ops Q S z fuel (listed.setIfInBounds z true) a w → K' a w) → Oper.wpIn F n P o a w K' Q) : wpAnyI F n P md ops Q S z (fuel + 1) listed a w :=
  ⟨fun h0 => absurd (hr ▸ h0) (by simp), by
    rw [hr]
    intro j hj
    obtain rfl := List.mem_singleton.1 hj
    exact wpOpIn_step ho fun K' hK => by rw [if_pos hw]; exact h K' fun a w hW => hK a w ⟨fun e => absurd rfl e, hW⟩⟩
theorem wpAnyI_done {listed : Array Bool} {a : Act} {w : World} (hr : Region.ready md ops listed = []) (h : Q .normal a w) : ∀ fuel, wpAnyI F n P md ops Q S z fuel listed a w
  | 0 => ⟨hr, h⟩
  | _ + 1 => ⟨fun _ => h, by rw [hr]; simp⟩
theorem wpIn_region_i (S : World → Prop) (z : Nat) {id : Nat} {a : Act} {w : World} (hm : P.follows .mixedOrders = true) (hS : S w.drew)
    (h : S w.drew → wpAnyI F n P .any ops Q S z ops.size (Array.replicate ops.size false) a w.drew) : (Code.region id ops true).wpIn F n P Q a w :=
  wpIn_region_any hm (wpAnyIn_of_i _ _ _ _ (h hS))
/-- append whose run is known -/
theorem wpIn_app_run {W W' : World} {o : Oper} {a : Act} {K : Act → World → Prop} (s x : Operand) (t tx : TypeId)
    (ho : o.op = .call { callee := .builtin .append, args := #[s, x], argTypes := #[t, tx] }) {v : Value} (hr : (Builtin.append_ #[t, tx] o.type #[a.eval s, a.eval x]).run P W = .ok v W') (h : K (a.put o.dst v) W') : Oper.wpIn F n P o a W K Q := by
  unfold Oper.wpIn
  refine ⟨?_, ?_⟩
  · simp [Oper.about, ho, resolve, Target.leads, Sem.run_pure]
  · rw [Oper.semAt_plain F _ _ (by rw [ho]; intro c hc'; cases hc')]
    simp [execOp, ho, resolve, invoke, builtin, hr, Result.andThen]
    exact h
end
/-- one element more, that lies in the newest block: as a run -/
theorem run_one_t {P : Program} {W : World} (base : Nat) (t ty e : TypeId) (i : TypeInfo) (z : Value) (size bytes : Nat) (ht : P.underlying t = some (.slice e)) (hi : P.info? e = some i) (hz : i.zero = some z)
    (hsize : i.size = size) (hby : i.bytes = bytes) (hzs : z.cells.size = size) (hsz : 0 < size) (v : Value) (n : Nat) (xs : List Value) (hown : W.ownsRow base e size v n xs)
    (cs : Array Value) (hl : cs.size = size) (h1 : ∀ u ∈ cs.toList, u.oneCell' = true) (hn : n + 1 ≤ 1000000000) (hbs : bytes ≤ 1000) (hbase : base ≤ W.heap.size) :
    ∃ v' w', (Builtin.append_ #[t, t] ty #[v, .slice (some ⟨W.heap.size, 0, none⟩) 1 1]).run P (W.alloc (.cells cs e)) = .ok v' w' ∧ w'.ownsRow base e size v' (n + 1) (xs ++ cs.toList) ∧ Fr (fun k => v.ownBlock = some k) W w' ∧ (∀ k, v'.ownBlock = some k → v.ownBlock = some k ∨ W.heap.size ≤ k) := by
  have hnb : (n + 1) * bytes ≤ 140737488355328 := Nat.le_trans (Nat.mul_le_mul hn hbs) (by decide)
  have h63 : n + 1 ≤ maxLen := by unfold maxLen; omega
  have hx : (hown.alloc (.cells cs e)) = hown.alloc (.cells cs e) := rfl
  have hl1 : cs.toList.length = 1 * size := by simpa using hl
  obtain ⟨v', w', hr, h2, h3, h4⟩ := run_append_own (P := P) (W.alloc (.cells cs e)) base t ty e i z size bytes ht hi hz hsize hby hzs hsz v n xs (hown.alloc _) ⟨W.heap.size, 0, none⟩ 1 1 cs.toList hl1 (cells_new W cs e) h1 h63 hnb (by simp; omega)
  have htie := run_append_tie (W.alloc (.cells cs e)) base t ty e i z size bytes ht hi hz hsize hby v n xs (hown.alloc _) ⟨W.heap.size, 0, none⟩ 1 1 cs.toList hl1 (cells_new W cs e) h1 h63 hnb hr
  refine ⟨v', w', hr, h2, (((Fr.refl _ W).alloc _).grown h3 fun k hk => .inr hk), fun k hk => (htie k hk).imp id fun e => by simp at e; omega⟩
end Go.Proofs.YtnoeblnljfnecaaGreatDoor
end
section
/- Layer 21: the lists: Of. -/
namespace Go.Proofs.YtnoeblnljfnecaaGreatDoor
set_option linter.unusedVariables false
set_option linter.unusedSimpArgs false
open Go Go.RowKit Go.Maps Go.Lib
attribute [local go_sem] Oper.semAt_some

/-- how far Of has come: a box with a row of names, as many as were told -/
def OfsJ (S base : Nat) (ns : List (List UInt8)) (pre : List (List UInt8)) (X : Nat → Prop) (W : World) : Prop := ∃ v, W.heap[S]? = some (.cells #[v] 38 (0, 0)) ∧ OwnT base W v (ns.take pre.length) ∧ S < base ∧ ∀ k, X k ↔ (k = S ∨ v.ownBlock = some k)
theorem ofsJ_stays (S base : Nat) (ns : List (List UInt8)) : Stays (OfsJ S base ns) := fun pre X V V' ⟨v, h1, h2, h3, h4⟩ hl hf =>
  ⟨v, hf.blk h1 (fun e => e ((h4 S).2 (.inl rfl))), ownT_kept h2 fun g hg => hf.block g (h2.lt g hg).2 fun e => e ((h4 g).2 (.inr hg)), h3, h4⟩
theorem names_fk {U : List WEnt} {a : Int} {ns D : List (List UInt8)} (h : NamesW U a ns) (d1 : D.Pairwise (· < ·)) (d2 : ∀ f, f ∈ D ↔ (a, f) ∈ U.map fkW) : D = ns.map foldL :=
  up_extS d1 h.up fun f => (d2 f).trans (by
    simp only [List.mem_map]
    constructor
    · rintro ⟨u, hu, e⟩
      unfold fkW at e
      obtain ⟨e1, e2⟩ := Prod.mk.inj e
      exact ⟨u.2, (h.mem _).2 (by rw [← e1]; exact hu), e2⟩
    · rintro ⟨n, hn, rfl⟩; exact ⟨(a, n), (h.mem n).1 hn, rfl⟩)
theorem names_at {ns : List (List UInt8)} {pre : List (List UInt8)} {x : List UInt8} {r : List (List UInt8)} (h : pre ++ x :: r = ns.map foldL) : ∃ n, n ∈ ns ∧ x = foldL n ∧ ns.take (pre.length + 1) = ns.take pre.length ++ [n] ∧ pre.length + 1 ≤ ns.length := by
  have hl := congrArg List.length h
  simp only [List.length_append, List.length_cons, List.length_map] at hl
  have hlt : pre.length < ns.length := by omega
  refine ⟨ns[pre.length], List.getElem_mem hlt, ?_, (List.take_succ_eq_append_getElem hlt), hlt⟩
  have h2 : (pre ++ x :: r)[pre.length]? = some x := by simp
  rw [h, List.getElem?_map, List.getElem?_eq_getElem hlt] at h2
  exact (Option.some.inj h2).symm
set_option maxRecDepth 100000 in
set_option maxHeartbeats 16000000 in
theorem wisOf {base : Nat} {w : World} {l : Nat} {Y : Nat → Prop} {most : Int} {U : List WEnt} (h : WisAt base w l Y most U) (hU : U.length ≤ 80000) {a : Int} (ha : OkKIS a) {ns : List (List UInt8)} (hns : NamesW U a ns) :
    Calls Tryz.prog 35 #[.pointer (some ⟨l, 0, none⟩), .int .i64 a] w (AllPS ns w) := by
  obtain ⟨i0, iz, iz0, iz1, iz2⟩ := info_parts Tryz.infoT
  obtain ⟨t, b, X, T, h1, h2, h3, h4, h5, h6, h7, h8, h9, h10, h11⟩ := h
  have ha2 : (Lit.int .i64 a).wf = true := ha
  obtain ⟨w1, hw1⟩ : ∃ w1, ((w.alloc (Obj.cells #[Value.pointer (some ⟨l, 0, none⟩)] 25)).alloc (Obj.cells #[Value.int .i64 a] 3)).alloc (Obj.cells #[Value.slice none 0 0] 38) = w1 := ⟨_, rfl⟩
  have f1 : Fr (fun _ => False) w w1 := by rw [← hw1]; exact (((Fr.refl _ w).alloc _).alloc _).alloc _
  have z1 : w1.heap.size = w.heap.size + 3 := by rw [← hw1]; simp
  obtain ⟨B, hB⟩ : ∃ B, w.heap.size = B := ⟨_, rfl⟩
  rw [hB] at z1
  have k0 : w1.heap[B]? = some (.cells #[.pointer (some ⟨l, 0, none⟩)] 25 (0, 0)) := by rw [← hw1, ← hB]; exact blk_alloc (blk_alloc (heap_alloc_new w _) _) _
  have k1 : w1.heap[B + 1]? = some (.cells #[.int .i64 a] 3 (0, 0)) := by rw [← hw1, ← hB]; exact blk_alloc (heap_alloc2_new w _ _) _
  have k2 : w1.heap[B + 2]? = some (.cells #[.slice none 0 0] 38 (0, 0)) := by rw [← hw1, ← hB]; have := heap_alloc2_new (w.alloc (Obj.cells #[Value.pointer (some ⟨l, 0, none⟩)] 25)) (Obj.cells #[Value.int .i64 a] 3) (Obj.cells #[Value.slice none 0 0] 38); rwa [World.size_alloc] at this
  have hlB : l < B := by rw [← hB]; exact blk_lt h4
  have hbB : b < B := by rw [← hB]; exact ownMW_lt h6
  have r1 := h5.fr f1 fun _ _ e => e
  have kl := f1.blk h4 fun e => e
  have m1 := ownMW_same h6 (f1.block b (ownMW_lt h6) fun e => e)
  obtain ⟨D, d1, d2, d3, d4⟩ := ofAtIS r1 (by simpa using (by omega : U.length ≤ 100000)) ha
  have hDl : D.length ≤ 80000 := by rw [List.length_map] at d3; omega
  obtain rfl := names_fk hns d1 d2
  have hnl : ns.length ≤ 80000 := by simpa using hDl
  have HBX : Hid (∀ V, Fr (fun _ => False) w1 V → V.cell? ⟨B, 0, none⟩ = some (.pointer (some ⟨l, 0, none⟩)) ∧ V.cell? ⟨B + 1, 0, none⟩ = some (.int .i64 a) ∧ V.heap[l]? = some (.cells #[.pointer (some ⟨t, 0, none⟩), .map (some b)] 62 (0, 0))) := fun V hV => ⟨blk_cell (hV.blk k0 fun e => e) 0, blk_cell (hV.blk k1 fun e => e) 0, hV.blk kl fun e => e⟩
  have HOf := Lib.hid d4
  have HW := Lib.hid hw1
  have HBB := Lib.hid hB
  have H := Lib.hid (And.intro h3 (And.intro h7 (And.intro h10 (And.intro f1 (And.intro z1 (And.intro k0 (And.intro k1 (And.intro k2 (And.intro kl (And.intro m1 (And.intro hlB (And.intro hbB (And.intro hnl hns)))))))))))))
  clear h1 h2 h3 h4 h5 h6 h7 h8 h9 h10 h11 f1 z1 k0 k1 k2 kl r1 m1 d1 d2 d3 d4 hDl hnl hw1 hB hlB hbB hns
  refine (callsIn_wide (n := 30)).1 ?_
  refine callsIn_of_wp_marks Tryz.func35 rfl trivial ?_ rfl
  simp only [Tryz.ntmps35, List.size_toArray, List.length_cons, List.length_nil, Nat.reduceAdd, Nat.reduceSub, Array.replicate_succ, Array.replicate_zero, List.push_toArray, List.append_toArray, List.nil_append, List.cons_append]
  gi_wp2_with fail
  rw [HW.out, HBB.out]
  refine wpIn_class_tail (C := fun W => Fr (fun _ => False) w1 W) 3 (by kernel_rfl) (by kernel_rfl) (by kernel_rfl) ((Fr.refl (fun _ => False) w1).drew) ?_
  simp only [List.take_succ_cons, List.take_zero, List.drop_succ_cons, List.drop_zero]
  refine quiet_step_w (fun _ => trivial) (fun K hK => ?_)
  go_simp
  refine ⟨.pointer (some ⟨l, 0, none⟩), fun W hW => ?_, hK _ ?_⟩
  · obtain ⟨s0, s1, s2⟩ := HBX.out W hW; go_simp
  clear hK K
  refine quiet_step_w (fun _ => trivial) (fun K hK => ?_)
  go_simp
  refine ⟨.pointer (some ⟨t, 0, none⟩), fun W hW => ?_, hK _ ?_⟩
  · refine (calls_wide (.inl rfl) (wisRel (HBX.out W hW).2.2)).mono ?_
    rintro e W2 ⟨rfl, rfl⟩; exact ⟨rfl, hW⟩
  clear hK K
  refine quiet_step_w (fun _ => trivial) (fun K hK => ?_)
  go_simp
  refine ⟨.int .i64 a, fun W hW => ?_, hK _ ?_⟩
  · obtain ⟨s0, s1, s2⟩ := HBX.out W hW; go_simp
  clear hK K
  refine wpQuietIn_nil ?_
  intro V1 hV1
  have HV1 := Lib.hid hV1
  clear hV1
  gi_wp2_with fail
  refine ⟨trivial, (calls_wide (.inl rfl) (HOf.out V1 HV1.out)).mono ?_⟩
  rintro e w2 ⟨⟨F, rfl, hT⟩, hb2⟩
  have f2 : Fr (fun _ => False) w1 w2 := HV1.out.trans (Fr.of_below hb2)
  obtain ⟨Yt, hYb, gf, lb, rfl, hseq, hYl, heg⟩ := tellsT_tale (show TaleT V1.heap.size w2 F (ns.map foldL) from hT) (by have := H.out.2.2.2.2.2.2.2.2.2.2.2.2.1; simp; omega)
  have hz2 := HV1.out.size
  have K := Lib.hid (And.intro f2 (And.intro hYb (And.intro hseq (And.intro hYl (And.intro heg hz2)))))
  clear f2 hb2 hT hYb hseq hYl heg hz2
  gi_wp2_with fail
  obtain ⟨h3, h7, h10, f1, z1, k0, k1, k2, kl, m1, hlB, hbB, hnl, hns⟩ := H.out
  obtain ⟨f2, hYb, hseq, hYl, heg, hz2⟩ := K.out
  have hz21 := f2.size
  refine wpIn_rangeF (X := fun k => k = B + 2) (Y := Yt) (xs := ns.map foldL) (encs := encL) (gf := gf) (lb := lb) (OfsJ (B + 2) (B + 3) ns) (fun _ _ _ _ => False)
    rfl hseq (fun k hk => ⟨by omega, fun e => by have := hYb k e; omega⟩) hYl (by omega) heg (fun _ => rfl)
    (ofsJ_stays _ _ _) (fun c s X1 V1 V2 h => h.elim) ⟨_, f2.blk k2 (fun e => e), ownT_nil _ _, by omega, fun k => by simp [Value.ownBlock]⟩ ?round ?done (fun _ _ _ _ _ _ _ _ _ _ _ h => h.elim)
  case round =>
    rintro lp pre x r X1 V KK rb hl2 hpx hI hG2 hxl hF hlV hK
    dsimp only [encL]
    have HK := Lib.hid hK
    have HV := Lib.hid (And.intro hpx (And.intro hI (And.intro hG2 (And.intro hxl (And.intro hF (And.intro hlV hl2))))))
    clear hK hpx hI hG2 hxl hF hlV hl2 h3 h7 h10 f1 z1 k0 k1 k2 kl m1 hlB hbB hnl hns f2 hYb hseq hYl heg hz2 hz21
    gi_wp2_with fail
    refine HK.out _ _ (Fr.refl _ _) fun Vb hfb hzb hsb hrb => ?_
    clear HK KK
    obtain ⟨hpx, ⟨vb, k3, o3, hSl, hX1⟩, hG2, hxl, hF, hlV, hl2⟩ := HV.out
    obtain ⟨h3, h7, h10, f1, z1, k0, k1, k2, kl, m1, hlB, hbB, hnl, hns⟩ := H.out
    obtain ⟨f2, hYb, hseq, hYl, heg, hz2⟩ := K.out
    have hz21 := f2.size
    obtain ⟨n, hn1, rfl, hn2, hn3⟩ := names_at hpx
    have hnU := (hns.mem n).1 hn1
    have hnk : (foldL n).length ≤ maxLen := by have := (h10 _ hnU).2; unfold maxLen; simp at this ⊢; omega
    have hlb : ¬ b = lp := fun e => by have := hl2; omega
    have hmb : OwnMW Vb b T := ownMW_same m1 ((hfb.block b (by omega) hlb).trans ((hF.block b (by omega) (by omega)).trans (f2.block b (by omega) fun e => e)))
    have k3b := hfb.blk k3 (by omega : ¬ B + 2 = lp)
    have o3b : OwnT (B + 3) Vb vb (ns.take pre.length) := ownT_kept o3 fun g hg => hfb.block g (o3.lt g hg).2 fun e => hxl ((hX1 lp).2 (.inr (e ▸ hg)))
    have hpt : (ns.take pre.length).length = pre.length := by rw [List.length_take]; omega
    have hzs : Vb.heap.size = V.heap.size := hzb
    have hbz : B + 3 ≤ Vb.heap.size := by omega
    have hor : Vb.ownsRow (B + 3) 9 1 vb pre.length ((ns.take pre.length).map encT) := by
      have h0 := o3b; unfold OwnT at h0; rwa [hpt] at h0
    have HBV : Hid (∀ W, Fr (fun k => vb.ownBlock = some k) Vb W → W.cell? ⟨B, 0, none⟩ = some (.pointer (some ⟨l, 0, none⟩)) ∧ W.cell? ⟨B + 1, 0, none⟩ = some (.int .i64 a) ∧ W.cell? ⟨B + 2, 0, none⟩ = some vb ∧ W.heap[l]? = some (.cells #[.pointer (some ⟨t, 0, none⟩), .map (some b)] 62 (0, 0))) := fun W hW => by
      have hno : ∀ k, k < B + 3 → ¬ vb.ownBlock = some k := fun k hk e => by have := (o3b.lt k e).1; omega
      have q0 := hW.blk (hfb.blk (hF.blk (f2.blk k0 fun e => e) (by omega : ¬ B = B + 2)) (by omega : ¬ B = lp)) (hno _ (by omega))
      have q1 := hW.blk (hfb.blk (hF.blk (f2.blk k1 fun e => e) (by omega : ¬ B + 1 = B + 2)) (by omega : ¬ B + 1 = lp)) (hno _ (by omega))
      have q2 := hW.blk k3b (hno _ (by omega))
      have q3 := hW.blk (hfb.blk (hF.blk (f2.blk kl fun e => e) (by omega : ¬ l = B + 2)) (by omega : ¬ l = lp)) (hno _ (by omega))
      exact ⟨blk_cell q0 0, blk_cell q1 0, blk_cell q2 0, q3⟩
    have HM : Hid (∀ W, Fr (fun k => vb.ownBlock = some k) Vb W → (Instr.lookup 59 (.map (some b)) (.agg #[.int .i64 a, .string (bs (foldL n))]) false).run Tryz.prog W = .ok (.string (bs n)) W) := fun W hW => by
      have := lookW (ownMW_same hmb (hW.block b (ownMW_lt hmb) fun e => by have := (o3b.lt b e).1; omega)) ⟨(a, foldL n), ha2, hnk⟩
      rw [h7.look hnU rfl] at this
      exact this
    have HO : Hid (∃ v' w', (Builtin.append_ #[38, 38] 38 #[vb, .slice (some ⟨Vb.drew.heap.size, 0, none⟩) 1 1]).run Tryz.prog (Vb.drew.alloc (.cells #[encT n] 9)) = .ok v' w' ∧ w'.ownsRow (B + 3) 9 1 v' (pre.length + 1) ((ns.take pre.length).map encT ++ #[encT n].toList) ∧ Fr (fun k => vb.ownBlock = some k) Vb.drew w' ∧ (∀ k, v'.ownBlock = some k → vb.ownBlock = some k ∨ Vb.drew.heap.size ≤ k)) :=
      Lib.hid (run_one_t (W := Vb.drew) (B + 3) _ _ 9 i0 _ 1 16 Tryz.underlying38 iz iz0 iz1 iz2 rfl (by decide) vb pre.length _ (row_same hor fun g _ => rfl) #[encT n] rfl (by intro u hu; simp at hu; subst hu; rfl) (by omega) (by decide) hbz)
    have hnB : ∀ k, vb.ownBlock = some k → ¬ k = B + 2 := fun k hk e => by have := (o3b.lt k hk).1; omega
    have HU := Lib.hid (And.intro hfb (And.intro hzb (And.intro hrb (And.intro hX1 (And.intro hG2 (And.intro hxl (And.intro k3b (And.intro hpt (And.intro hn2 (And.intro hlV (And.intro hl2 (And.intro hn3 (And.intro hbz (And.intro hnl (And.intro z1 hnB)))))))))))))))
    clear hpx k3 o3 hSl hX1 hG2 hxl hF hlV hl2 h3 h7 h10 f1 z1 k0 k1 k2 kl m1 hlB hbB hnl hns f2 hYb hseq hYl heg hz2 hz21 hlb hmb hfb hzb hsb hrb k3b o3b hpt hzs hbz hor hn1 hn2 hn3 hnU hnk hnB
    gi_wp2_with fail
    refine wpIn_region_i (S := fun W => Fr (fun k => vb.ownBlock = some k) Vb W) 11 (by kernel_rfl) (by exact (Fr.refl _ Vb).drew) (fun hHeld => ?_)
    refine wpAnyI_read (i := 6) (oi := { dst := some 18, op := Go.Op.move (Go.Operand.tmp 6), type := 9, pos := "wish.go:84", after := #[], guard := none }) ?_ (fun _ => trivial) (by kernel_rfl) rfl (by kernel_rfl) (by kernel_rfl) (by kernel_rfl) (by kernel_rfl) (fun _ _ _ h => h) (by rfl) (by assumption) ?_ ?_
    rotate_left
    · (intro w0 hS0; go_simp <;> (try with_reducible rfl))
    try simp only [Act.put, List.setIfInBounds_toArray, List.set_cons_zero, List.set_cons_succ]
    refine wpAnyI_read (i := 0) (oi := { dst := some 12, op := Go.Op.load 38 (Go.Operand.tmp 5), type := 38, pos := "wish.go:84", after := #[], guard := none }) ?_ (fun _ => trivial) (by kernel_rfl) rfl (by kernel_rfl) (by kernel_rfl) (by kernel_rfl) (by kernel_rfl) (fun _ _ _ h => h) (by rfl) (by assumption) ?_ ?_
    rotate_left
    · (intro w0 hS0; obtain ⟨s0, s1, s2, s3⟩ := HBV.out w0 hS0; go_simp <;> (try with_reducible rfl))
    try simp only [Act.put, List.setIfInBounds_toArray, List.set_cons_zero, List.set_cons_succ]
    refine wpAnyI_read (i := 1) (oi := { dst := some 13, op := Go.Op.load 25 (Go.Operand.tmp 2), type := 25, pos := "wish.go:84", after := #[], guard := none }) ?_ (fun _ => trivial) (by kernel_rfl) rfl (by kernel_rfl) (by kernel_rfl) (by kernel_rfl) (by kernel_rfl) (fun _ _ _ h => h) (by rfl) (by assumption) ?_ ?_
    rotate_left
    · (intro w0 hS0; obtain ⟨s0, s1, s2, s3⟩ := HBV.out w0 hS0; go_simp <;> (try with_reducible rfl))
    try simp only [Act.put, List.setIfInBounds_toArray, List.set_cons_zero, List.set_cons_succ]
    refine wpAnyI_read (i := 2) (oi := { dst := some 14, op := Go.Op.nilCheck (Go.Operand.tmp 13), type := 0, pos := "wish.go:84", after := #[{ on := 1, ground := Go.Ground.data }], guard := none }) ?_ (fun _ => trivial) (by kernel_rfl) rfl (by kernel_rfl) (by kernel_rfl) (by kernel_rfl) (by kernel_rfl) (fun _ _ _ h => h) (by rfl) (by assumption) ?_ ?_
    rotate_left
    · (intro w0 hS0; go_simp <;> (try with_reducible rfl))
    try simp only [Act.put, List.setIfInBounds_toArray, List.set_cons_zero, List.set_cons_succ]
    refine wpAnyI_read (i := 3) (oi := { dst := some 15, op := Go.Op.fieldAddr 62 (Go.Operand.tmp 14) 1, type := 0, pos := "wish.go:84", after := #[{ on := 2, ground := Go.Ground.data }], guard := none }) ?_ (fun _ => trivial) (by kernel_rfl) rfl (by kernel_rfl) (by kernel_rfl) (by kernel_rfl) (by kernel_rfl) (fun _ _ _ h => h) (by rfl) (by assumption) ?_ ?_
    rotate_left
    · (intro w0 hS0; go_simp <;> (try with_reducible rfl))
    try simp only [Act.put, List.setIfInBounds_toArray, List.set_cons_zero, List.set_cons_succ]
    refine wpAnyI_read (i := 4) (oi := { dst := some 16, op := Go.Op.load 59 (Go.Operand.tmp 15), type := 59, pos := "wish.go:84", after := #[{ on := 3, ground := Go.Ground.data }], guard := none }) ?_ (fun _ => trivial) (by kernel_rfl) rfl (by kernel_rfl) (by kernel_rfl) (by kernel_rfl) (by kernel_rfl) (fun _ _ _ h => h) (by rfl) (by assumption) ?_ ?_
    rotate_left
    · (intro w0 hS0; obtain ⟨s0, s1, s2, s3⟩ := HBV.out w0 hS0; have s4 := blk_cell s3 1; go_simp <;> (try with_reducible rfl))
    try simp only [Act.put, List.setIfInBounds_toArray, List.set_cons_zero, List.set_cons_succ]
    refine wpAnyI_read (i := 5) (oi := { dst := some 17, op := Go.Op.load 3 (Go.Operand.tmp 3), type := 3, pos := "wish.go:84", after := #[], guard := none }) ?_ (fun _ => trivial) (by kernel_rfl) rfl (by kernel_rfl) (by kernel_rfl) (by kernel_rfl) (by kernel_rfl) (fun _ _ _ h => h) (by rfl) (by assumption) ?_ ?_
    rotate_left
    · (intro w0 hS0; obtain ⟨s0, s1, s2, s3⟩ := HBV.out w0 hS0; go_simp <;> (try with_reducible rfl))
    try simp only [Act.put, List.setIfInBounds_toArray, List.set_cons_zero, List.set_cons_succ]
    refine wpAnyI_read (i := 7) (oi := { dst := some 19, op := Go.Op.build 68 #[(0, Go.Operand.tmp 17), (1, Go.Operand.tmp 18)], type := 68, pos := "wish.go:84", after := #[{ on := 5, ground := Go.Ground.data }, { on := 6, ground := Go.Ground.data }], guard := none }) ?_ (fun _ => trivial) (by kernel_rfl) rfl (by kernel_rfl) (by kernel_rfl) (by kernel_rfl) (by kernel_rfl) (fun _ _ _ h => h) (by rfl) (by assumption) ?_ ?_
    rotate_left
    · (intro w0 hS0; go_simp <;> (try with_reducible rfl))
    try simp only [Act.put, List.setIfInBounds_toArray, List.set_cons_zero, List.set_cons_succ]
    refine wpAnyI_read (i := 8) (oi := { dst := some 20, op := Go.Op.lookup 59 (Go.Operand.tmp 16) (Go.Operand.tmp 19) false, type := 9, pos := "wish.go:84", after := #[{ on := 4, ground := Go.Ground.data }, { on := 7, ground := Go.Ground.data }], guard := none }) ?_ (fun _ => trivial) (by kernel_rfl) rfl (by kernel_rfl) (by kernel_rfl) (by kernel_rfl) (by kernel_rfl) (fun _ _ _ h => h) (by rfl) (by assumption) ?_ ?_
    rotate_left
    · (intro w0 hS0; have := HM.out w0 hS0; go_simp <;> (try with_reducible rfl))
    try simp only [Act.put, List.setIfInBounds_toArray, List.set_cons_zero, List.set_cons_succ]
    refine wpAnyI_one (i := 9) (o := { dst := some 21, op := Go.Op.buildSlice 38 1 #[(0, Go.Operand.tmp 20)], type := 38, pos := "wish.go:84", after := #[{ on := 8, ground := Go.Ground.data }], guard := none }) (by kernel_rfl) rfl (by rfl) (fun K hK => ?_)
    go_simp
    refine hK.out _ _ ?_ (fun hHeld => ?_)
    · exact (show Fr (fun k => vb.ownBlock = some k) Vb _ from (Fr.refl _ Vb).drew).alloc _
    clear hK K
    try simp only [Act.put, List.setIfInBounds_toArray, List.set_cons_zero, List.set_cons_succ]
    refine wpAnyI_one (i := 10) (o := { dst := some 22, op := Go.Op.call { callee := Go.Callee.builtin Go.Builtin.append, args := #[Go.Operand.tmp 12, Go.Operand.tmp 21], argTypes := #[38, 38] }, type := 38, pos := "wish.go:84", after := #[{ on := 0, ground := Go.Ground.data }, { on := 9, ground := Go.Ground.data }], guard := none }) (by kernel_rfl) rfl (by rfl) (fun K hK => ?_)
    obtain ⟨v1, W6, hr6, hown1, hfr1, htie⟩ := HO.out
    have hfrA : Fr (fun k => vb.ownBlock = some k) Vb W6 := ((Fr.refl _ Vb).drew).trans3 hfr1 fun _ _ e => e
    refine wpIn_app_run _ _ _ _ rfl (v := v1) (W' := W6) (by exact hr6) ?_
    refine hK.out _ _ ?_ (fun hHeld => ?_)
    · exact hfrA
    clear hK K
    try simp only [Act.put, List.setIfInBounds_toArray, List.set_cons_zero, List.set_cons_succ]
    obtain ⟨A1, c1', rfl⟩ := row_slice hown1
    have hn3 : ∀ k, vb.ownBlock = some k → k ≠ B + 2 := fun k hk e => HU.out.2.2.2.2.2.2.2.2.2.2.2.2.2.2.2 k hk e
    have e1 : W6.heap[B + 2]? = some (.cells #[vb] 38 (0, 0)) := hfrA.blk HU.out.2.2.2.2.2.2.1 fun e => hn3 _ e rfl
    have g1 := blk_cell e1 0
    have g2 := blk_free e1 0
    have HN := Lib.hid hn3
    clear hn3
    refine wpAnyI_last (o := { dst := none, op := Go.Op.store 38 (Go.Operand.tmp 5) (Go.Operand.tmp 22), type := 0, pos := "wish.go:84", after := #[{ on := 10, ground := Go.Ground.data }, { on := 10, ground := Go.Ground.chain }, { on := 0, ground := Go.Ground.phase }, { on := 1, ground := Go.Ground.phase }, { on := 2, ground := Go.Ground.phase }, { on := 3, ground := Go.Ground.phase }, { on := 4, ground := Go.Ground.phase }, { on := 5, ground := Go.Ground.phase }, { on := 6, ground := Go.Ground.phase }, { on := 7, ground := Go.Ground.phase }, { on := 8, ground := Go.Ground.phase }, { on := 9, ground := Go.Ground.phase }, { on := 10, ground := Go.Ground.phase }], guard := none }) (by kernel_rfl) rfl (by rfl) (fun K hK => ?_)
    go_simp
    refine hK.out _ _ ?_
    clear hK K
    try simp only [Act.put, List.setIfInBounds_toArray, List.set_cons_zero, List.set_cons_succ]
    refine wpAnyI_done (by kernel_rfl) ?_ _
    obtain ⟨hfb, hzb, hrb, hX1, hG2, hxl, k3b, hpt, hn2, hlV, hl2, hn4, hbz, hnl, z1, hn5⟩ := HU.out
    have hn3 := HN.out
    have hown2 : OwnT (B + 3) W6 (.slice A1 (pre.length + 1) c1') (ns.take (pre ++ [foldL n]).length) := by
      rw [List.length_append, List.length_singleton, hn2]
      unfold OwnT; rw [List.length_append, List.map_append, hpt]; exact hown1
    have hnx : (Value.slice A1 (pre.length + 1) c1').ownBlock ≠ some (B + 2) := fun e => by have := (hown2.lt _ e).1; omega
    have hf5 : Fr X1 Vb W6 := hfrA.mono fun k hk e => (hX1 k).2 (.inr e)
    have hfr : Fr (fun k => k = lp ∨ X1 k) V (W6.setCell ⟨B + 2, 0, none⟩ (.slice A1 (pre.length + 1) c1')) :=
      (((hfb.mono (Y := fun k => k = lp ∨ X1 k) fun k _ e => .inl e).trans3 hf5 fun k hk e => .inr e)).setCell _ (.inr ((hX1 _).2 (.inl rfl))) _
    refine ⟨fun k => k = B + 2 ∨ (Value.slice A1 (pre.length + 1) c1').ownBlock = some k, fun k hk => ?_, hfr, ?_, .slice A1 (pre.length + 1) c1', blk_set e1 0 _, ?_, by omega, fun k => Iff.rfl⟩
    · have hz2 := hfrA.size
      have hsz : (W6.setCell ⟨B + 2, 0, none⟩ (.slice A1 (pre.length + 1) c1')).heap.size = W6.heap.size := by simp
      rw [hsz]
      rcases hk with rfl | hk
      · exact ⟨blk_lt e1, fun _ => (hX1 _).2 (.inl rfl)⟩
      · refine ⟨(hown2.lt k hk).2, fun hlt => ?_⟩
        rcases htie k hk with e | e
        · exact (hX1 k).2 (.inr e)
        · have e2 : Vb.heap.size ≤ k := e
          have := hfb.size
          omega
    · have hl3 : ¬ X1 lp := hxl
      have := K.out.1.size
      exact blk_other (hf5.blk hrb hl3) _ (by simp; omega) _
    · exact ownT_kept hown2 fun g hg => heap_setCell_other W6 _ g _ fun e => by simp at e; exact hnx (e ▸ hg)
  case done =>
    rintro Dm X2 V hD hxD hG2 hF ⟨v, k3, o3, hSl, hX2⟩ hdef
    have hlen : (ns.map foldL).length = ns.length := by simp
    rw [hlen, List.take_length] at o3
    obtain ⟨A, cp, rfl⟩ := row_slice o3
    have c3 := blk_cell k3 0
    have hBV : B ≤ V.heap.size := by have := hF.size; omega
    have HV3 : Hid (Calls Tryz.prog 53 #[.slice A ns.length cp] V (ValsT (.slice A ns.length cp) V)) := values_callsT A ns.length cp V
    have HE := Lib.hid (And.intro k3 (And.intro o3 (And.intro hF (And.intro hdef (And.intro hxD (And.intro hX2 (And.intro hSl (And.intro hD (And.intro f1 (And.intro f2 (And.intro z1 hz21)))))))))))
    clear k3 o3 hF hdef hxD hX2 hSl hD hG2 h3 h7 h10 f1 z1 k0 k1 k2 kl m1 hlB hbB hnl hns f2 hYb hseq hYl heg hz2 hz21 hlen
    gi_wp2_with fail
    refine ⟨trivial, (calls_wide (.inl rfl) HV3.out).mono ?_⟩
    rintro e W6 hv6
    obtain ⟨k3, o3, hF, hdef, hxD, hX2, hSl, hD, f1, f2, z1, hz21⟩ := HE.out
    have hB := HBB.out
    obtain ⟨rfl, t2, b6⟩ := hv6
    have H6 := Lib.hid (And.intro t2 b6)
    clear t2 b6 k3 o3 hF hdef hxD hX2 hSl hD f1 f2 z1 hz21
    gi_wp2_with fail
    obtain ⟨t2, b6⟩ := H6.out
    obtain ⟨k3, o3, hF, hdef, hxD, hX2, hSl, hD, f1, f2, z1, hz21⟩ := HE.out
    have hd6 := (Fr.of_below (X := fun _ => False) b6).blk hdef fun e => e
    have hzF := hF.size
    have hDV := blk_lt hdef
    have a5 : Below w.heap.size w W6 := by
      have h5 : Below w.heap.size w V := ((f1.trans f2).mono (Y := fun k => k = B + 2) (fun _ _ h => h.elim)).trans3 hF (fun k _ e => e) |>.below (Nat.le_refl _) fun k hk e => by omega
      exact h5.trans (b6.mono (by omega))
    have hvD : ¬ (Value.slice A ns.length cp).ownBlock = some Dm := fun e => hxD ((hX2 Dm).2 (.inr e))
    have hvV : ¬ (Value.slice A ns.length cp).ownBlock = some V.heap.size := fun e => by have := (o3.lt _ e).2; omega
    refine leaves_one Dm _ hd6 fun w' hf => ⟨_, results_tmp rfl _ _ _, ⟨_, rfl, V.heap.size, .slice A ns.length cp, by omega, rfl, hf.blk t2 (by omega), hvV, ?_⟩, a5.trans (hf.below a5.size fun k _ e => by omega)⟩
    exact ownT_base (ownT_kept o3 fun g hg => (hf.block g (by have := (o3.lt g hg).2; have := b6.size; omega) fun e => hvD (e ▸ hg)).trans (b6.block g (o3.lt g hg).2)) (by omega)
end Go.Proofs.YtnoeblnljfnecaaGreatDoor
end
section
/- Layer 21: nil lists: Of, Clear. -/
namespace Go.Proofs.YtnoeblnljfnecaaGreatDoor
set_option linter.unusedVariables false
set_option linter.unusedSimpArgs false
open Go Go.RowKit Go.Maps Go.Lib
attribute [local go_sem] Oper.semAt_some

set_option maxRecDepth 100000 in
set_option maxHeartbeats 16000000 in
theorem wisOfNil (a : Int) (w : World) : Calls Tryz.prog 35 #[.pointer none, .int .i64 a] w (AllPS [] w) := by
  obtain ⟨w1, hw1⟩ : ∃ w1, ((w.alloc (Obj.cells #[Value.pointer none] 25)).alloc (Obj.cells #[Value.int .i64 a] 3)).alloc (Obj.cells #[Value.slice none 0 0] 38) = w1 := ⟨_, rfl⟩
  have f1 : Fr (fun _ => False) w w1 := by rw [← hw1]; exact (((Fr.refl _ w).alloc _).alloc _).alloc _
  have z1 : w1.heap.size = w.heap.size + 3 := by rw [← hw1]; simp
  obtain ⟨B, hB⟩ : ∃ B, w.heap.size = B := ⟨_, rfl⟩
  rw [hB] at z1
  have k0 : w1.heap[B]? = some (.cells #[.pointer none] 25 (0, 0)) := by rw [← hw1, ← hB]; exact blk_alloc (blk_alloc (heap_alloc_new w _) _) _
  have k1 : w1.heap[B + 1]? = some (.cells #[.int .i64 a] 3 (0, 0)) := by rw [← hw1, ← hB]; exact blk_alloc (heap_alloc2_new w _ _) _
  have k2 : w1.heap[B + 2]? = some (.cells #[.slice none 0 0] 38 (0, 0)) := by rw [← hw1, ← hB]; have := heap_alloc2_new (w.alloc (Obj.cells #[Value.pointer none] 25)) (Obj.cells #[Value.int .i64 a] 3) (Obj.cells #[Value.slice none 0 0] 38); rwa [World.size_alloc] at this
  have HBX : Hid (∀ V, Fr (fun _ => False) w1 V → V.cell? ⟨B, 0, none⟩ = some (.pointer none) ∧ V.cell? ⟨B + 1, 0, none⟩ = some (.int .i64 a)) := fun V hV => ⟨blk_cell (hV.blk k0 fun e => e) 0, blk_cell (hV.blk k1 fun e => e) 0⟩
  have HW := Lib.hid hw1
  have HBB := Lib.hid hB
  have H := Lib.hid (And.intro f1 (And.intro z1 k2))
  clear f1 z1 k0 k1 k2 hw1 hB
  refine (callsIn_wide (n := 30)).1 ?_
  refine callsIn_of_wp_marks Tryz.func35 rfl trivial ?_ rfl
  simp only [Tryz.ntmps35, List.size_toArray, List.length_cons, List.length_nil, Nat.reduceAdd, Nat.reduceSub, Array.replicate_succ, Array.replicate_zero, List.push_toArray, List.append_toArray, List.nil_append, List.cons_append]
  gi_wp2_with fail
  rw [HW.out, HBB.out]
  refine wpIn_class_tail (C := fun W => Fr (fun _ => False) w1 W) 3 (by kernel_rfl) (by kernel_rfl) (by kernel_rfl) ((Fr.refl (fun _ => False) w1).drew) ?_
  simp only [List.take_succ_cons, List.take_zero, List.drop_succ_cons, List.drop_zero]
  refine quiet_step_w (fun _ => trivial) (fun K hK => ?_)
  go_simp
  refine ⟨.pointer none, fun W hW => ?_, hK _ ?_⟩
  · obtain ⟨s0, s1⟩ := HBX.out W hW; go_simp
  clear hK K
  refine quiet_step_w (fun _ => trivial) (fun K hK => ?_)
  go_simp
  refine ⟨.pointer none, fun W hW => ?_, hK _ ?_⟩
  · refine (calls_wide (.inl rfl) (wisRelNil _)).mono ?_
    rintro e W2 ⟨rfl, rfl⟩; exact ⟨rfl, hW⟩
  clear hK K
  refine quiet_step_w (fun _ => trivial) (fun K hK => ?_)
  go_simp
  refine ⟨.int .i64 a, fun W hW => ?_, hK _ ?_⟩
  · obtain ⟨s0, s1⟩ := HBX.out W hW; go_simp
  clear hK K
  refine wpQuietIn_nil ?_
  intro V1 hV1
  have HV1 := Lib.hid hV1
  clear hV1
  gi_wp2_with fail
  refine ⟨trivial, (calls_wide (.inl rfl) (relOfNilIS a V1)).mono ?_⟩
  rintro e w2 ⟨⟨F, rfl, hT⟩, hb2⟩
  have f2 : Fr (fun _ => False) w1 w2 := HV1.out.trans (Fr.of_below hb2)
  obtain ⟨Yt, hYb, gf, lb, rfl, hseq, hYl, heg⟩ := tellsT_tale (show TaleT V1.heap.size w2 F [] from hT) (by decide)
  have hz2 := HV1.out.size
  have K := Lib.hid (And.intro f2 (And.intro hYb (And.intro hseq (And.intro hYl (And.intro heg hz2)))))
  clear f2 hb2 hT hYb hseq hYl heg hz2
  gi_wp2_with fail
  obtain ⟨f1, z1, k2⟩ := H.out
  obtain ⟨f2, hYb, hseq, hYl, heg, hz2⟩ := K.out
  have hz21 := f2.size
  refine wpIn_rangeF (X := fun _ => False) (Y := Yt) (xs := []) (encs := encL) (gf := gf) (lb := lb) (fun pre X1 W => pre = []) (fun _ _ _ _ => False)
    rfl hseq (fun k hk => hk.elim) hYl (by omega) heg (fun _ => rfl)
    (fun s X1 V1 V2 h _ _ => h) (fun c s X1 V1 V2 h => h.elim) rfl ?round ?done (fun _ _ _ _ _ _ _ _ _ _ _ h => h.elim)
  case round =>
    rintro l pre x r X1 V KK rb hl2 hpx hI hG2 hxl hF hlV hK
    simp at hpx
  case done =>
    rintro Dm X2 V hD hxD hG2 hF _ hdef
    have k3 := hF.blk (f2.blk k2 fun e => e) fun e => e
    have c3 := blk_cell k3 0
    have HV3 : Hid (Calls Tryz.prog 53 #[.slice none 0 0] V (ValsT (.slice none 0 0) V)) := values_callsT none 0 0 V
    have HE := Lib.hid (And.intro hF (And.intro hdef (And.intro hD (And.intro f1 (And.intro f2 (And.intro z1 hz21))))))
    clear k3 hF hdef hD f1 f2 z1 hz21 hxD hG2 k2 hYb hseq hYl heg hz2
    gi_wp2_with fail
    refine ⟨trivial, (calls_wide (.inl rfl) HV3.out).mono ?_⟩
    rintro e W6 ⟨rfl, t2, b6⟩
    have H6 := Lib.hid (And.intro t2 b6)
    clear t2 b6
    gi_wp2_with fail
    obtain ⟨t2, b6⟩ := H6.out
    obtain ⟨hF, hdef, hD, f1, f2, z1, hz21⟩ := HE.out
    have hB := HBB.out
    have hd6 := (Fr.of_below (X := fun _ => False) b6).blk hdef fun e => e
    have hzF := hF.size
    have hDV := blk_lt hdef
    have a5 : Below w.heap.size w W6 := (((f1.trans f2).trans hF).below (Nat.le_refl _) fun _ _ e => e.elim).trans (b6.mono (by omega))
    refine leaves_one Dm _ hd6 fun w' hf => ⟨_, results_tmp rfl _ _ _, ⟨_, rfl, V.heap.size, .slice none 0 0, by omega, rfl, hf.blk t2 (by omega), (by simp [Value.ownBlock]), ownT_nil _ _⟩, a5.trans (hf.below a5.size fun k _ e => by omega)⟩
set_option maxRecDepth 100000 in
set_option maxHeartbeats 16000000 in
theorem wisClearNil (a : Int) (w : World) : Calls Tryz.prog 11 #[.pointer none, .int .i64 a] w fun e w' => e = .returned (.int .i64 0) ∧ Below w.heap.size w w' := by
  obtain ⟨w1, hw1⟩ : ∃ w1, (w.alloc (Obj.cells #[Value.pointer none] 25)).alloc (Obj.cells #[Value.int .i64 a] 3) = w1 := ⟨_, rfl⟩
  have f1 : Fr (fun _ => False) w w1 := by rw [← hw1]; exact ((Fr.refl _ w).alloc _).alloc _
  have z1 : w1.heap.size = w.heap.size + 2 := by rw [← hw1]; simp
  obtain ⟨B, hB⟩ : ∃ B, w.heap.size = B := ⟨_, rfl⟩
  rw [hB] at z1
  have k0 : w1.heap[B]? = some (.cells #[.pointer none] 25 (0, 0)) := by rw [← hw1, ← hB]; exact blk_alloc (heap_alloc_new w _) _
  have k1 : w1.heap[B + 1]? = some (.cells #[.int .i64 a] 3 (0, 0)) := by rw [← hw1, ← hB]; exact heap_alloc2_new w _ _
  have k2 : True := trivial
  have HBX : Hid (∀ V, Fr (fun _ => False) w1 V → V.cell? ⟨B, 0, none⟩ = some (.pointer none) ∧ V.cell? ⟨B + 1, 0, none⟩ = some (.int .i64 a)) := fun V hV => ⟨blk_cell (hV.blk k0 fun e => e) 0, blk_cell (hV.blk k1 fun e => e) 0⟩
  have HW := Lib.hid hw1
  have HBB := Lib.hid hB
  have H := Lib.hid (And.intro f1 (And.intro z1 k2))
  clear f1 z1 k0 k1 k2 hw1 hB
  refine (callsIn_wide (n := 30)).1 ?_
  refine callsIn_of_wp_marks Tryz.func11 rfl trivial ?_ rfl
  simp only [Tryz.ntmps11, List.size_toArray, List.length_cons, List.length_nil, Nat.reduceAdd, Nat.reduceSub, Array.replicate_succ, Array.replicate_zero, List.push_toArray, List.append_toArray, List.nil_append, List.cons_append]
  gi_wp2_with fail
  rw [HW.out, HBB.out]
  refine wpIn_class_tail (C := fun W => Fr (fun _ => False) w1 W) 3 (by kernel_rfl) (by kernel_rfl) (by kernel_rfl) ((Fr.refl (fun _ => False) w1).drew) ?_
  simp only [List.take_succ_cons, List.take_zero, List.drop_succ_cons, List.drop_zero]
  refine quiet_step_w (fun _ => trivial) (fun K hK => ?_)
  go_simp
  refine ⟨.pointer none, fun W hW => ?_, hK _ ?_⟩
  · obtain ⟨s0, s1⟩ := HBX.out W hW; go_simp
  clear hK K
  refine quiet_step_w (fun _ => trivial) (fun K hK => ?_)
  go_simp
  refine ⟨.pointer none, fun W hW => ?_, hK _ ?_⟩
  · refine (calls_wide (.inl rfl) (wisRelNil _)).mono ?_
    rintro e W2 ⟨rfl, rfl⟩; exact ⟨rfl, hW⟩
  clear hK K
  refine quiet_step_w (fun _ => trivial) (fun K hK => ?_)
  go_simp
  refine ⟨.int .i64 a, fun W hW => ?_, hK _ ?_⟩
  · obtain ⟨s0, s1⟩ := HBX.out W hW; go_simp
  clear hK K
  refine wpQuietIn_nil ?_
  intro V1 hV1
  have HV1 := Lib.hid hV1
  clear hV1
  gi_wp2_with fail
  refine ⟨trivial, (calls_wide (.inl rfl) (relOfNilIS a V1)).mono ?_⟩
  rintro e w2 ⟨⟨F, rfl, hT⟩, hb2⟩
  have f2 : Fr (fun _ => False) w1 w2 := HV1.out.trans (Fr.of_below hb2)
  obtain ⟨Yt, hYb, gf, lb, rfl, hseq, hYl, heg⟩ := tellsT_tale (show TaleT V1.heap.size w2 F [] from hT) (by decide)
  have hz2 := HV1.out.size
  have K := Lib.hid (And.intro f2 (And.intro hYb (And.intro hseq (And.intro hYl (And.intro heg hz2)))))
  clear f2 hb2 hT hYb hseq hYl heg hz2
  gi_wp2_with fail
  obtain ⟨f1, z1, k2⟩ := H.out
  obtain ⟨f2, hYb, hseq, hYl, heg, hz2⟩ := K.out
  have hz21 := f2.size
  refine wpIn_rangeF (X := fun _ => False) (Y := Yt) (xs := []) (encs := encL) (gf := gf) (lb := lb) (fun pre X1 W => pre = []) (fun _ _ _ _ => False)
    rfl hseq (fun k hk => hk.elim) hYl (by omega) heg (fun _ => rfl)
    (fun s X1 V1 V2 h _ _ => h) (fun c s X1 V1 V2 h => h.elim) rfl ?round ?done (fun _ _ _ _ _ _ _ _ _ _ _ h => h.elim)
  case round =>
    rintro l pre x r X1 V KK rb hl2 hpx hI hG2 hxl hF hlV hK
    simp at hpx
  case done =>
    rintro Dm X2 V hD hxD hG2 hF _ hdef
    have HBV : Hid (∀ W, Fr (fun _ => False) V W → W.cell? ⟨B, 0, none⟩ = some (.pointer none) ∧ W.cell? ⟨B + 1, 0, none⟩ = some (.int .i64 a)) := fun W hW => HBX.out W ((f2.trans hF).trans hW)
    have HE := Lib.hid (And.intro hF (And.intro hdef (And.intro hD (And.intro f1 (And.intro f2 (And.intro z1 hz21))))))
    clear hF hdef hD f1 f2 z1 hz21 hxD hG2 k2 hYb hseq hYl heg hz2
    gi_wp2_with fail
    refine wpIn_class_tail (C := fun W => Fr (fun _ => False) V W) 3 (by kernel_rfl) (by kernel_rfl) (by kernel_rfl) ((Fr.refl (fun _ => False) V).drew) ?_
    simp only [List.take_succ_cons, List.take_zero, List.drop_succ_cons, List.drop_zero]
    refine quiet_step_w (fun _ => trivial) (fun K hK => ?_)
    go_simp
    refine ⟨.pointer none, fun W hW => ?_, hK _ ?_⟩
    · obtain ⟨s0, s1⟩ := HBV.out W hW; go_simp
    clear hK K
    refine quiet_step_w (fun _ => trivial) (fun K hK => ?_)
    go_simp
    refine ⟨.pointer none, fun W hW => ?_, hK _ ?_⟩
    · refine (calls_wide (.inl rfl) (wisRelNil _)).mono ?_
      rintro e W2 ⟨rfl, rfl⟩; exact ⟨rfl, hW⟩
    clear hK K
    refine quiet_step_w (fun _ => trivial) (fun K hK => ?_)
    go_simp
    refine ⟨.int .i64 a, fun W hW => ?_, hK _ ?_⟩
    · obtain ⟨s0, s1⟩ := HBV.out W hW; go_simp
    clear hK K
    refine wpQuietIn_nil ?_
    intro W5 hW5
    have H5 := Lib.hid hW5
    clear hW5
    gi_wp2_with fail
    refine ⟨trivial, (calls_wide (.inl rfl) (relDropNil a W5)).mono ?_⟩
    rintro e W6 ⟨rfl, b6⟩
    have H6 := Lib.hid b6
    clear b6
    gi_wp2_with fail
    have b6 := H6.out
    obtain ⟨hF, hdef, hD, f1, f2, z1, hz21⟩ := HE.out
    have hB := HBB.out
    have fV : Fr (fun _ => False) V W6 := H5.out.trans (Fr.of_below b6)
    have hd6 := fV.blk hdef fun e => e
    have hzF := hF.size
    have hDV := blk_lt hdef
    have a5 : Below w.heap.size w W6 := (((f1.trans f2).trans hF).trans fV).below (Nat.le_refl _) fun _ _ e => e.elim
    refine leaves_one Dm _ hd6 fun w' hf => ⟨_, results_tmp rfl _ _ _, rfl, a5.trans (hf.below a5.size fun k _ e => by omega)⟩
end Go.Proofs.YtnoeblnljfnecaaGreatDoor
end
section
/- Layer 21: the law's names. -/
namespace Go.Proofs.YtnoeblnljfnecaaGreatDoor
set_option linter.unusedVariables false
set_option linter.unusedSimpArgs false
open Go Go.RowKit Go.Lib Go.Sort Go.Shelf
attribute [local go_sem] Oper.semAt_some

/-- a box with a row of numbers: its blocks are X -/
def Box21R (S base : Nat) (pre : List (List UInt8)) (X : Nat → Prop) (W : World) : Prop := ∃ v, W.heap[S]? = some (.cells #[v] 38 (0, 0)) ∧ OwnT base W v pre ∧ S < base ∧ ∀ k, X k ↔ (k = S ∨ v.ownBlock = some k)
theorem box21R_stays (S base : Nat) : Stays (Box21R S base) := fun pre X V V' ⟨v, h1, h2, h3, h4⟩ hl hf =>
  ⟨v, hf.blk h1 (fun e => e ((h4 S).2 (.inl rfl))), ownT_kept h2 fun g hg => hf.block g (h2.lt g hg).2 fun e => e ((h4 g).2 (.inr hg)), h3, h4⟩
/-- what was told: a row of the call's own, and that it was all -/
def Told21R (xs : List (List UInt8)) (w : World) (e : Ending) (w' : World) : Prop := (∃ v, e = .returned (.tuple #[v, .bool true]) ∧ OwnT w.heap.size w' v xs) ∧ Below w.heap.size w w'
set_option maxRecDepth 100000 in
set_option maxHeartbeats 4000000 in
theorem names21 {w : World} {po : Option Addr} {a : Int} {xs : List (List UInt8)} (hOf : ∀ V, Fr (fun _ => False) w V → Calls Tryz.prog 35 #[.pointer po, .int .i64 a] V (AllPS xs V)) (hm : xs.length ≤ 99) : Calls Tryz.prog 15 #[.pointer po, .int .i64 a] w (Told21R xs w) := by
  obtain ⟨i0, hi, hz0, hz1, hz2⟩ := info_parts Tryz.infoT
  have HOf := Lib.hid hOf
  clear hOf
  refine (callsIn_wide (n := 20)).1 ?_
  refine callsIn_of_wp_marks Tryz.func15 rfl trivial ?_ rfl
  simp only [Tryz.ntmps15, List.size_toArray, List.length_cons, List.length_nil, Nat.reduceAdd, Nat.reduceSub, Array.replicate_succ, Array.replicate_zero, List.push_toArray, List.append_toArray, List.nil_append, List.cons_append]
  gi_wp2_with fail
  obtain ⟨w1, hw1⟩ : ∃ w1, ((w.alloc (Obj.cells #[Value.slice none 0 0] 38)).alloc (Obj.cells #[Value.bool false] 4)).alloc (Obj.cells #[Value.slice none 0 0] 38) = w1 := ⟨_, rfl⟩
  rw [hw1]
  have f0 : Fr (fun _ => False) w w1 := by rw [← hw1]; exact (((Fr.refl _ w).alloc _).alloc _).alloc _
  have HO0 := Lib.hid (HOf.out w1 f0)
  have HF0 := Lib.hid (And.intro hw1 f0)
  clear hw1 f0
  refine ⟨trivial, (calls_wide (.inl rfl) HO0.out).mono ?_⟩
  rintro e w2 ⟨⟨F, rfl, hT⟩, hb20⟩
  obtain ⟨Y, hYb, gf, lb, rfl, hseq, hY, heg⟩ := tellsT_tale (base := w1.heap.size) hT (by omega)
  have hnil : ∀ W, (binOp BinOp.eql 70 (.func (.func gf) #[] lb) Value.nilFunc).run Tryz.prog W = .ok (.bool false) W := fun W => by rfl
  have H20 := Lib.hid (And.intro hb20 (And.intro hYb (And.intro hseq (And.intro hY heg))))
  clear hb20 hYb hseq hY heg hT
  gi_wp2_with (simp only [hnil])
  obtain ⟨hw1, f0⟩ := HF0.out
  obtain ⟨hb20, hYb, hseq, hY, heg⟩ := H20.out
  have hfr20 : Fr (fun _ => False) w1 w2 := Fr.of_below hb20
  have z1 : w1.heap.size = w.heap.size + 3 := by rw [← hw1]; simp
  have f1 : Fr (fun _ => False) w w1 := by rw [← hw1]; exact (((Fr.refl _ w).alloc _).alloc _).alloc _
  have hb1 : w1.heap[w.heap.size]? = some (.cells #[.slice none 0 0] 38 (0, 0)) := by rw [← hw1]; exact blk_alloc (blk_alloc (heap_alloc_new w _) _) _
  have hb2 : w1.heap[w.heap.size + 1]? = some (.cells #[.bool false] 4 (0, 0)) := by rw [← hw1]; exact blk_alloc (heap_alloc2_new w _ _) _
  have hb3 : w1.heap[w.heap.size + 2]? = some (.cells #[.slice none 0 0] 38 (0, 0)) := by
    rw [← hw1]
    have := heap_alloc2_new (w.alloc (Obj.cells #[Value.slice none 0 0] 38)) (Obj.cells #[Value.bool false] 4) (Obj.cells #[Value.slice none 0 0] 38)
    rwa [World.size_alloc] at this
  have z2 : w1.heap.size ≤ w2.heap.size := hb20.size
  replace f1 := f1.trans hfr20
  replace hb1 := hfr20.blk hb1 fun e => e
  replace hb2 := hfr20.blk hb2 fun e => e
  replace hb3 := hfr20.blk hb3 fun e => e
  clear hw1 hfr20 hb20 f0
  have H := Lib.hid (And.intro f1 (And.intro hb1 (And.intro hb2 (And.intro z1 z2))))
  refine wpIn_rangeF (X := fun k => k = w.heap.size + 2) (Y := Y) (xs := xs) (encs := encL) (gf := gf) (lb := lb) (Box21R (w.heap.size + 2) w1.heap.size) (fun _ _ _ _ => False)
    rfl hseq (fun k hk => ⟨by omega, fun e => by have := hYb k e; omega⟩) hY (by omega) heg (fun _ => rfl)
    (box21R_stays _ _) (fun c s X1 V1 V2 h => h.elim) ⟨_, hb3, ownT_nil _ _, by omega, fun k => by simp [Value.ownBlock]⟩ ?round ?done (fun _ _ _ _ _ _ _ _ _ _ _ h => h.elim)
  case round =>
    rintro l pre x r X1 V K rb hl2 hpx hI hG hxl hF hlV hK
    dsimp only [encL]
    have HK := Lib.hid hK
    have HV := Lib.hid (And.intro hpx (And.intro hI (And.intro hG (And.intro hxl (And.intro hF (And.intro hlV hl2))))))
    clear hK hpx hI hG hxl hF hlV hl2 hYb hseq hY heg f1  hb1 hb2 hb3 z1 z2
    gi_wp2_with fail
    refine HK.out _ _ (Fr.refl _ _) fun Vb hfb hzb hsb hrb => ?_
    clear HK K
    obtain ⟨hpx, ⟨vb, k3, o3, hSl, hX1⟩, hG, hxl, hF, hlV, hl2⟩ := HV.out
    obtain ⟨f1, hb1, hb2, z1, z2⟩ := H.out
    have hpl : pre.length + 1 ≤ xs.length := by
      have := congrArg List.length hpx
      simp at this; omega
    have p2 : ¬ ((99 : Int) < (pre.length : Int)) := by omega
    have q2 : decide ((99 : Int) < (pre.length : Int)) = false := decide_eq_false p2
    have k3b := hfb.blk k3 (by omega : ¬ w.heap.size + 2 = l)
    have o3b : OwnT w1.heap.size Vb vb pre := ownT_kept o3 fun g hg => hfb.block g (o3.lt g hg).2 fun e => hxl ((hX1 l).2 (.inr (e ▸ hg)))
    have c3 := blk_cell k3b 0
    have hzs : Vb.heap.size = V.heap.size := hzb
    have hbz : w1.heap.size ≤ Vb.heap.size := by omega
    have hor : Vb.ownsRow w1.heap.size 9 1 vb pre.length (pre.map encT) := o3b
    have HO := Lib.hid hor
    have HE := Lib.hid (And.intro hX1 (And.intro hG (And.intro hxl (And.intro hfb (And.intro hrb (And.intro k3b (And.intro o3b (And.intro hzs (And.intro hlV (And.intro hSl hl2))))))))))
    clear hpx k3 o3 hSl hX1 hG hxl hF hlV hl2 f1  hb1 hb2 z1 z2 k3b o3b hor hfb hzb hsb hrb hzs
    have hlen : ∀ W, (Builtin.len_ #[38] 3 #[vb]).run Tryz.prog W = .ok (.int .i64 pre.length) W := fun W => by obtain ⟨A, cp, rfl⟩ := row_slice HO.out; rfl
    gi_wp2_with (first | (gi_at_builtin; refine Hid.out ?_) | simp only [hlen])
    refine Lib.hid ?_
    refine wpListIn_one_t rfl _ _ 38 rfl w1.heap.size 9 i0 _ 1 16 Tryz.underlying38 hi hz0 hz1 hz2 rfl (by decide) _ _ _ rfl HO.out #[encT x] _ rfl rfl rfl (by intro u hu; simp at hu; subst hu; rfl) (by omega) (by decide) hbz ?_
    intro v1 W2 hown1 hfr1 htie
    obtain ⟨A1, c1', rfl⟩ := row_slice hown1
    have hn3 : ∀ k, vb.ownBlock = some k → k ≠ w.heap.size + 2 := fun k hk e => by have := (HO.out.lt k hk).1; have := HE.out.2.2.2.2.2.2.2.2.2.1; omega
    have e1 : W2.heap[w.heap.size + 2]? = some (.cells #[vb] 38 (0, 0)) := hfr1.blk HE.out.2.2.2.2.2.1 fun e => hn3 _ e rfl
    have g1 := blk_cell e1 0
    have g2 := blk_free e1 0
    have HN := Lib.hid hn3
    clear hn3
    gi_wp2_with fail
    obtain ⟨hX1, hG, hxl, hfb, hrb, k3b, o3b, hzs, hlV, hSl, hl2⟩ := HE.out
    have hn3 := HN.out
    have z2 := H.out.2.2.2.2
    have z1 := H.out.2.2.2.1
    have hown2 : OwnT w1.heap.size W2 (.slice A1 (pre.length + 1) c1') (pre ++ [x]) := by
      unfold OwnT; rw [List.length_append, List.map_append]; exact hown1
    have hnx : (Value.slice A1 (pre.length + 1) c1').ownBlock ≠ some (w.heap.size + 2) := fun e => by have := (hown2.lt _ e).1; omega
    have hfr : Fr (fun k => k = l ∨ X1 k) V (W2.setCell ⟨w.heap.size + 2, 0, none⟩ (.slice A1 (pre.length + 1) c1')) :=
      (((hfb.mono (Y := fun k => k = l ∨ X1 k) fun k _ e => .inl e).trans3 hfr1 fun k _ e => .inr ((hX1 k).2 (.inr e)))).setCell _ (.inr ((hX1 _).2 (.inl rfl))) _
    refine ⟨fun k => k = w.heap.size + 2 ∨ (Value.slice A1 (pre.length + 1) c1').ownBlock = some k, fun k hk => ?_, hfr, ?_, .slice A1 (pre.length + 1) c1', blk_set e1 0 _, ?_, hSl, fun k => Iff.rfl⟩
    · have hz2 := hfr1.size
      have hsz : (W2.setCell ⟨w.heap.size + 2, 0, none⟩ (.slice A1 (pre.length + 1) c1')).heap.size = W2.heap.size := by simp
      rw [hsz]
      rcases hk with rfl | hk
      · exact ⟨blk_lt e1, fun _ => (hX1 _).2 (.inl rfl)⟩
      · refine ⟨(hown2.lt k hk).2, fun hlt => ?_⟩
        rcases htie k hk with e | e
        · exact (hX1 k).2 (.inr e)
        · omega
    · have hl3 : ¬ vb.ownBlock = some l := fun e => hxl ((hX1 l).2 (.inr e))
      exact blk_other (hfr1.blk hrb hl3) _ (by simp; omega) _
    · exact ownT_kept hown2 fun g hg => heap_setCell_other W2 _ g _ fun e => by simp at e; exact hnx (e ▸ hg)
  case done =>
    rintro D X2 V hD hxD hG hF ⟨v, k3, o3, hSl, hX2⟩ hdef
    obtain ⟨A, cp, rfl⟩ := row_slice o3
    have k1 := hF.blk hb1 (by omega)
    have k2 := hF.blk hb2 (by omega)
    have c1 := blk_cell k1 0
    have f1' := blk_free k1 0
    have c2 := blk_cell k2 0
    have f2 := blk_free k2 0
    have c3 := blk_cell k3 0
    have HE := Lib.hid (And.intro k1 (And.intro k2 (And.intro k3 (And.intro o3 (And.intro hF (And.intro hdef (And.intro hxD (And.intro hX2 (And.intro hSl hD)))))))))
    clear k1 k2 k3 o3 hF hdef hxD hX2 hSl hD hG hYb hseq hY heg f1  hb1 hb2 hb3 z1 z2
    gi_wp2_with fail
    obtain ⟨k1, k2, k3, o3, hF, hdef, hxD, hX2, hSl, hD⟩ := HE.out
    obtain ⟨f1, hb1, hb2, z1, z2⟩ := H.out
    obtain ⟨W3, hW3⟩ : ∃ W3, (V.setCell ⟨w.heap.size, 0, none⟩ (Value.slice A xs.length cp)).setCell ⟨w.heap.size + 1, 0, none⟩ (Value.bool true) = W3 := ⟨_, rfl⟩
    rw [hW3]
    have a1 : W3.heap[w.heap.size]? = some (.cells #[.slice A xs.length cp] 38 (0, 0)) := by
      rw [← hW3]
      exact blk_other (blk_set k1 0 _) _ (by simp) _
    have a2 : W3.heap[w.heap.size + 1]? = some (.cells #[.bool true] 4 (0, 0)) := by
      rw [← hW3]
      exact blk_set (blk_other k2 _ (by simp) _) 0 _
    have a3 : W3.heap[D]? = some (.deferred (some [])) := by
      rw [← hW3]
      exact blk_other (blk_other hdef _ (by simp; omega) _) _ (by simp; omega) _
    have a4 : OwnT w1.heap.size W3 (.slice A xs.length cp) xs := ownT_kept o3 fun g hg => by
      have := (o3.lt g hg).1
      rw [← hW3]
      exact (heap_setCell_other _ _ g _ (by simp; omega)).trans (heap_setCell_other _ _ g _ (by simp; omega))
    have a5 : Below w.heap.size w W3 := by
      have h5 : Below w.heap.size w V := (f1.mono (Y := fun k => k = w.heap.size + 2) (fun _ _ h => h.elim)).trans3 hF (fun k _ e => e) |>.below (Nat.le_refl _) fun k hk e => by omega
      rw [← hW3]
      exact (h5.setCell (by simp) _).setCell (by simp) _
    refine leaves_one D _ a3 fun w' hf => ?_
    have e1 := hf.blk a1 (by omega)
    have e2 := hf.blk a2 (by omega)
    refine ⟨_, results_box2 rfl _ _ (w.heap.size) (w.heap.size + 1) _ _ _ _ rfl (blk_cell e1 0) rfl (blk_cell e2 0) Tryz.underlying38 rfl Tryz.underlying4 rfl, ⟨.slice A xs.length cp, rfl, ?_⟩, a5.trans (hf.below a5.size fun k _ e => by omega)⟩
    exact ownT_base (ownT_kept a4 fun g hg => hf.block g (a4.lt g hg).2 fun e => hxD ((hX2 D).2 (.inr (e ▸ hg)))) (by omega)
end Go.Proofs.YtnoeblnljfnecaaGreatDoor
end
