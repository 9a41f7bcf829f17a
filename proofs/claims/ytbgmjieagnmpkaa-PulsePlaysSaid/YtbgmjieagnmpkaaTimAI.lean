/- Layer 9, keys of kind int: the order of items; New, Set, At, Stop, Len. -/
import Derived.Test.YtbgmjieagnmpkaaMapM
import Derived.Test.YtbgmjieagnmpkaaRangeP
import Derived.Test.YtbgmjieagnmpkaaTellsF
import Derived.Test.YtbgmjieagnmpkaaChecked
import Derived.Maps.OwnOps
import Derived.Maps.OwnSet
import Derived.Sort.KeysCollected
import Derived.Sort.Walk0
import Derived.Laws.Cover1
import Derived.WalkSpells
import Derived.Outline
namespace Go.Proofs.Ytbgmjieagnmpkaa
set_option linter.unusedVariables false
set_option linter.unusedSimpArgs false
open Go Go.RowKit Go.Maps

abbrev KeyI := Int
def kVI (k : KeyI) : Value := .int .i64 k
def kLI (k : KeyI) : Lit := (Lit.int .i64 k)
def vLI (v : Int) : DataW Unit := .lit (.int .i64 v)
/-- what may be a key; a time -/
def OkKI (k : KeyI) : Prop := (Lit.int .i64 k).wf = true
def OkTI (T : List (KeyI × Int)) : Prop := ∀ p ∈ T, OkKI p.1 ∧ (Lit.int .i64 p.2).wf = true
theorem kLI_inj : ∀ a b : KeyI, kLI a = kLI b → a = b := fun a b h => by simpa [kLI] using h
theorem vLI_inj : ∀ a b : Int, vLI a = vLI b → a = b := fun a b h => by simpa [vLI] using h
theorem kLI_key (k : KeyI) : WideAt.IsKeyLit (kLI k) := by simp [kLI, WideAt.IsKeyLit]
theorem keyedI : Keyed Try.prog 3 := int_keyed Try.underlying3
theorem keyOfI {k : KeyI} (h : OkKI k) : keyOf Try.prog 3 (kVI k) = some (kLI k) := keyOf_int_mk Try.underlying3 h
/-- block t is a table whose map is block b, with the entries T -/
def TabMI (w : World) (b : Nat) (T : List (KeyI × Int)) : Prop := ∃ D : DataW Unit, w.ownsMap Try.prog 3 (plainElem Try.prog 3) b T.length D ∧ MapHas kLI vLI D T ∧ OkTI T
def TabI (base : Nat) (w : World) (t b : Nat) (T : List (KeyI × Int)) : Prop := base ≤ t ∧ base ≤ b ∧ t ≠ b ∧ w.heap[t]? = some (.cells #[.map (some b)] 100 (0, 0)) ∧ TabMI w b T
theorem tabMI_lt {w : World} {b : Nat} {T : List (KeyI × Int)} (h : TabMI w b T) : b < w.heap.size := by
  obtain ⟨D, h1, _⟩ := h
  exact h1.lt
theorem owns_same {H : Type} {P : Program} {k : TypeId} {R : Value → Option (DataW H × List MemPlace)} {w w' : World} {b n : Nat} {D : DataW H} (h : w.ownsMap P k R b n D) (he : w'.heap[b]? = w.heap[b]?) : w'.ownsMap P k R b n D := by
  obtain ⟨es, clock, h1, h2⟩ := h
  exact ⟨es, clock, he.trans h1, h2⟩
theorem owns_tight {H : Type} {P : Program} {k : TypeId} {R : Value → Option (DataW H × List MemPlace)} {w : World} {b n : Nat} {D : DataW H} (h : w.ownsMap P k R b n D) : w.ownsMap P k R b (Maps.size D) D := by
  obtain ⟨es, clock, h1, h2, h3, rfl⟩ := h
  refine ⟨es, clock, h1, h2, ?_, rfl⟩
  rw [Maps.size_eq, length_sorted]; simp
theorem tabMI_same {w w' : World} {b : Nat} {T : List (KeyI × Int)} (h : TabMI w b T) (he : w'.heap[b]? = w.heap[b]?) : TabMI w' b T := by
  obtain ⟨D, h1, h2⟩ := h
  exact ⟨D, owns_same h1 he, h2⟩
theorem tabI_fr {base : Nat} {w w' : World} {t b : Nat} {T : List (KeyI × Int)} {X : Nat → Prop} (h : TabI base w t b T) (hf : Fr X w w') (h1 : ¬ X t) (h2 : ¬ X b) : TabI base w' t b T := by
  obtain ⟨a1, a2, a3, a4, a5⟩ := h
  exact ⟨a1, a2, a3, hf.blk a4 h1, tabMI_same a5 (hf.block b (tabMI_lt a5) h2)⟩
theorem tabI_below {base : Nat} {w w' : World} {t b : Nat} {T : List (KeyI × Int)} (h : TabI base w t b T) (hb : Below w.heap.size w w') : TabI base w' t b T := tabI_fr (X := fun _ => False) h (Fr.of_below hb) (fun e => e) fun e => e
theorem tabI_lt {base : Nat} {w : World} {t b : Nat} {T : List (KeyI × Int)} (h : TabI base w t b T) : t < w.heap.size ∧ b < w.heap.size := ⟨blk_lt h.2.2.2.1, tabMI_lt h.2.2.2.2⟩

/-- a table without keys -/
def NewPI (w : World) (e : Ending) (w' : World) : Prop := ∃ t b, e = .returned (.pointer (some ⟨t, 0, none⟩)) ∧ TabI w.heap.size w' t b [] ∧ Below w.heap.size w w'
set_option maxHeartbeats 1000000 in
theorem tim_newI (w : World) : Calls Try.prog 23 #[] w (NewPI w) := by
  have hmm := @run_makeMap Try.prog
  go_enter Try.func23, Try.ntmps23
  go_wp2_with fail
  go_ret
  refine ⟨_, _, rfl, ⟨by omega, Nat.le_refl _, by omega, ?_, ?_⟩, ((Below.refl _ _).alloc (Nat.le_refl _) _).alloc (by simp) _⟩
  · have := heap_alloc_new (w.alloc (Obj.map #[] 0)) (Obj.cells #[Value.map (some w.heap.size)] 100)
    rwa [World.size_alloc] at this
  · exact ⟨.map [], (World.ownsMap_made w _ _ _).alloc _, mapHas_empty _ _, fun p hp => by cases hp⟩
theorem len_noneI (p : Option Nat) (w : World) : (Builtin.len_ #[98] 3 #[.map none]).run Try.prog w = .ok (.int .i64 0) w := Maps.len_nil Try.underlying98 _
set_option maxHeartbeats 1000000 in
theorem tim_lenI {base : Nat} {w : World} {t b : Nat} {T : List (KeyI × Int)} (h : TabI base w t b T) : Calls Try.prog 26 #[.pointer (some ⟨t, 0, none⟩)] w fun e w' => e = .returned (.int .i64 T.length) ∧ w' = w := by
  obtain ⟨a1, a2, a3, a4, D, a5, a6, a7⟩ := h
  have c0 := blk_cell a4 0
  have hl := a5.len Try.underlying98 3
  rw [a6.size] at hl
  clear a1 a2 a3 a4 a5 a6 a7
  go_enter Try.func26, Try.ntmps26
  go_wp2_with fail
  go_ret
  exact ⟨rfl, rfl⟩
theorem tim_len_nilI (w : World) : Calls Try.prog 26 #[.pointer none] w fun e w' => e = .returned (.int .i64 0) ∧ w' = w := by
  go_enter Try.func26, Try.ntmps26
  go_wp2_with fail
  go_ret
  exact ⟨rfl, rfl⟩
theorem tim_at_nilI (k : KeyI) (w : World) : Calls Try.prog 53 #[.pointer none, kVI k] w fun e w' => e = .returned (.tuple #[.int .i64 0, .bool false]) ∧ w' = w := by
  unfold kVI
  go_enter Try.func53, Try.ntmps53
  go_wp2_with fail
  go_ret2
  exact ⟨rfl, rfl⟩
theorem look_okI {w : World} {b : Nat} {T : List (KeyI × Int)} (h : TabMI w b T) {k : KeyI} (hk : OkKI k) : (Instr.lookup 98 (.map (some b)) (kVI k) true).run Try.prog w = .ok (.tuple #[.int .i64 ((lookM T k).getD 0), .bool (lookM T k).isSome]) w := by
  obtain ⟨D, a5, a6, a7⟩ := h
  have hz : (zeroValue 3).run Try.prog w = .ok (.int .i64 0) w := by kernel_rfl
  obtain ⟨v, ps, h1, h2⟩ := a5.look_ok keyedI Try.underlying98 hz (plainElem_int Try.underlying3 (by decide)) (keyOfI hk)
  obtain ⟨c, rfl, h3, h4⟩ := plainElem_int_inv Try.underlying3 h2
  rw [h1, a6.has_look kLI_inj]
  have h5 := (Prod.mk.inj h3).1
  rw [a6.look kLI_inj] at h5
  have h6 : c = (lookM T k).getD 0 := by
    cases hl : lookM T k with
    | none => rw [hl] at h5; simp at h5; simp [h5]
    | some v => rw [hl] at h5; simp [vLI] at h5; simp [h5]
  rw [h6]
set_option maxHeartbeats 1000000 in
theorem tim_atI {base : Nat} {w : World} {t b : Nat} {T : List (KeyI × Int)} (h : TabI base w t b T) {k : KeyI} (hk : OkKI k) : Calls Try.prog 53 #[.pointer (some ⟨t, 0, none⟩), kVI k] w fun e w' => e = .returned (.tuple #[.int .i64 ((lookM T k).getD 0), .bool (lookM T k).isSome]) ∧ w' = w := by
  obtain ⟨a1, a2, a3, a4, a5⟩ := h
  have c0 := blk_cell a4 0
  have hl := look_okI a5 hk
  obtain ⟨n, hn⟩ : ∃ n, (lookM T k).getD 0 = n := ⟨_, rfl⟩
  obtain ⟨i, hi⟩ : ∃ i, (lookM T k).isSome = i := ⟨_, rfl⟩
  rw [hn, hi] at hl ⊢
  clear a1 a2 a3 a4 a5 hn hi
  unfold kVI at *
  go_enter Try.func53, Try.ntmps53
  go_wp2_with fail
  go_ret2
  exact ⟨rfl, rfl⟩
theorem tim_set_nilI (k : KeyI) (v : Int) (w : World) : Calls Try.prog 24 #[.pointer none, kVI k, .int .i64 v] w fun e w' => e = .returned (.tuple #[]) ∧ w' = w := by
  unfold kVI
  go_enter Try.func24, Try.ntmps24
  go_wp2_with fail
  refine bodyPost_ret (results_none rfl _ _ _) rfl ?_
  exact ⟨rfl, rfl⟩
theorem okT_setI {T : List (KeyI × Int)} (h : OkTI T) {k : KeyI} {v : Int} (hk : OkKI k) (hv : (Lit.int .i64 v).wf = true) : OkTI (setM T k v) := fun p hp => by
  unfold setM at hp
  rw [List.mem_append] at hp
  rcases hp with hp | hp
  · exact h p (List.mem_filter.1 hp).1
  · simp at hp; subst hp; exact ⟨hk, hv⟩
theorem okT_delI {T : List (KeyI × Int)} (h : OkTI T) (k : KeyI) : OkTI (delM T k) := fun p hp => h p (List.mem_filter.1 hp).1
set_option maxHeartbeats 1000000 in
theorem tim_setI {base : Nat} {w : World} {t b : Nat} {T : List (KeyI × Int)} (h : TabI base w t b T) {k : KeyI} {v : Int} (hk : OkKI k) (hv : (Lit.int .i64 v).wf = true) (hl : T.length ≤ 1000000) :
    Calls Try.prog 24 #[.pointer (some ⟨t, 0, none⟩), kVI k, .int .i64 v] w fun e w' => e = .returned (.tuple #[]) ∧ TabI base w' t b (setM T k v) ∧ Fr (fun j => j = b) w w' := by
  obtain ⟨a1, a2, a3, a4, D, a5, a6, a7⟩ := h
  have c0 := blk_cell a4 0
  have hnil := run_eql_map_nil (P := Try.prog) w 98 3 3 (some b) Try.underlying98
  obtain ⟨w', h1, h2, h3⟩ := a5.update keyedI Try.underlying98 (by unfold maxLen; omega) (keyOfI hk) (plainElem_int Try.underlying3 hv)
  have hf : Fr (fun j => j = b) w w' := (Fr.refl _ w).grown h3 fun j e => by cases e; exact .inr rfl
  have h6 := a6.put kLI_inj (a5.tidy keyedI) k (kLI_key k) v
  have h4 : TabI base w' t b (setM T k v) := ⟨a1, a2, a3, hf.blk a4 a3, _, by rw [← h6.size]; exact owns_tight h2, h6, okT_setI a7 hk hv⟩
  have H := Lib.hid (And.intro h4 hf)
  clear a1 a2 a3 a4 a5 a6 a7 h2 h3 hf h4 h6
  unfold kVI at *
  go_enter Try.func24, Try.ntmps24
  go_wp2_with fail
  go_end0
  exact ⟨rfl, H.out⟩
theorem tim_stop_nilI (k : KeyI) (w : World) : Calls Try.prog 48 #[.pointer none, kVI k] w fun e w' => e = .returned (.bool false) ∧ w' = w := by
  have h1 := tim_at_nilI k w
  unfold kVI at *
  go_enter Try.func48, Try.ntmps48
  go_wp2_with fail
  refine h1.mono ?_
  rintro e w' ⟨rfl, rfl⟩
  go_wp2_with fail
  go_ret
  exact ⟨rfl, rfl⟩
theorem lookM_none {α β : Type} [DecidableEq α] {T : List (α × β)} {k : α} (h : (lookM T k).isSome = false) : delM T k = T := by
  unfold delM
  rw [List.filter_eq_self]
  intro p hp
  simp
  rintro rfl
  unfold lookM at h
  rw [Option.isSome_map] at h
  cases hf : T.find? fun q => decide (q.1 = p.1) with
  | none => rw [List.find?_eq_none] at hf; exact absurd (hf p hp) (by simp)
  | some x => rw [hf] at h; cases h
set_option maxHeartbeats 1000000 in
theorem tim_stopI {base : Nat} {w : World} {t b : Nat} {T : List (KeyI × Int)} (h : TabI base w t b T) {k : KeyI} (hk : OkKI k) :
    Calls Try.prog 48 #[.pointer (some ⟨t, 0, none⟩), kVI k] w fun e w' => e = .returned (.bool (lookM T k).isSome) ∧ TabI base w' t b (delM T k) ∧ Fr (fun j => j = b) w w' := by
  have ha := tim_atI h hk
  have hh := h
  obtain ⟨a1, a2, a3, a4, D, a5, a6, a7⟩ := h
  have c0 := blk_cell a4 0
  obtain ⟨w', h1, h2, h3⟩ := a5.drop keyedI Try.underlying98 (keyOfI hk) 0
  have hf : Fr (fun j => j = b) w w' := (Fr.refl _ w).grown h3.grown fun j e => by cases e; exact .inr rfl
  have h6 := a6.del kLI_inj (a5.tidy keyedI) k
  have h4 : TabI base w' t b (delM T k) := ⟨a1, a2, a3, hf.blk a4 a3, _, by rw [← h6.size]; exact owns_tight h2, h6, okT_delI a7 k⟩
  obtain ⟨n, hn⟩ : ∃ n, (lookM T k).getD 0 = n := ⟨_, rfl⟩
  obtain ⟨i, hi⟩ : ∃ i, (lookM T k).isSome = i := ⟨_, rfl⟩
  rw [hn, hi] at ha
  rw [hi]
  have H := Lib.hid (And.intro h4 (And.intro hf (And.intro hi hh)))
  have HA := Lib.hid ha
  clear a1 a2 a3 a4 a5 a6 a7 h2 h3 hf h4 h6 hn hi ha hh
  unfold kVI at *
  go_enter Try.func48, Try.ntmps48
  go_wp2_with fail
  refine HA.out.mono ?_
  rintro e w2 ⟨rfl, rfl⟩
  cases i with
  | true =>
    go_wp2_with fail
    go_ret
    exact ⟨rfl, H.out.1, H.out.2.1⟩
  | false =>
    go_wp2_with fail
    go_ret
    exact ⟨rfl, by rw [lookM_none H.out.2.2.1]; exact H.out.2.2.2, Fr.refl _ _⟩
end Go.Proofs.Ytbgmjieagnmpkaa
