/- Texts of this proof, one behind the other. -/
import Derived.Test.YtlkeomcillencaaGreatRoomsPeersG7
import Derived.Test.YtlkeomcillencaaGreatRoomsPeersG1
import Derived.Test.YtlkeomcillencaaGreatRoomsPeersG5
import Derived.Carry
set_option linter.unusedVariables false
set_option linter.unusedSimpArgs false
section
/- Sets of texts: mathematics: each once, rising. -/
namespace Go.Proofs.YtlkeomcillencaaGreat
open Go Go.RowKit Go.Lib Go.Sort Go.Shelf

theorem up_extS : ∀ {a b : List (List UInt8)}, a.Pairwise (· < ·) → b.Pairwise (· < ·) → (∀ x, x ∈ a ↔ x ∈ b) → a = b
  | [], [], _, _, _ => rfl
  | [], y :: b, _, _, h => by have := (h y).2 (by simp); simp at this
  | x :: a, [], _, _, h => by have := (h x).1 (by simp); simp at this
  | x :: a, y :: b, ha, hb, h => by
    rw [List.pairwise_cons] at ha hb
    have e : x = y := by
      have h1 := (h x).1 (by simp)
      have h2 := (h y).2 (by simp)
      rcases List.mem_cons.1 h1 with h1 | h1
      · exact h1
      · rcases List.mem_cons.1 h2 with h2 | h2
        · exact h2.symm
        · exact absurd (ttr (ha.1 y h2) (hb.1 x h1)) (tirr x)
    subst e
    congr 1
    refine up_extS ha.2 hb.2 fun z => ⟨fun hz => ?_, fun hz => ?_⟩
    · rcases List.mem_cons.1 ((h z).1 (List.mem_cons_of_mem _ hz)) with e | e
      · subst e; exact absurd (ha.1 _ hz) (tirr _)
      · exact e
    · rcases List.mem_cons.1 ((h z).2 (List.mem_cons_of_mem _ hz)) with e | e
      · subst e; exact absurd (hb.1 _ hz) (tirr _)
      · exact e

theorem insI_memS (xs : List (List UInt8)) (y x : List UInt8) : x ∈ insIS xs y ↔ x = y ∨ x ∈ xs := by
  unfold insIS
  split
  · next h =>
    constructor
    · exact .inr
    · rintro (rfl | h2)
      · simpa using h
      · exact h2
  · conv => rhs; rw [← List.take_append_drop (xs.countP (· < y)) xs]
    simp only [List.mem_append, List.mem_cons]
    constructor
    · rintro (h | h | h)
      · exact .inr (.inl h)
      · exact .inl h
      · exact .inr (.inr h)
    · rintro (h | h | h)
      · exact .inr (.inl h)
      · exact .inl h
      · exact .inr (.inr h)
theorem delI_memS {xs : List (List UInt8)} (h : xs.Pairwise (· < ·)) (y x : List UInt8) : x ∈ delIS xs y ↔ x ∈ xs ∧ x ≠ y := by
  unfold delIS
  split
  · next hc =>
    have hm : y ∈ xs := by simpa using hc
    have hlt := countP_ltS hm
    obtain ⟨t1, t2⟩ := take_ltS h y
    have hp := h
    rw [← List.take_append_drop (xs.countP (· < y)) xs] at hp
    obtain ⟨p1, p2, p3⟩ := List.pairwise_append.1 hp
    have hd : xs.drop (xs.countP (· < y)) = y :: xs.drop (xs.countP (· < y) + 1) := by
      rw [List.drop_eq_getElem_cons hlt]
      congr 1
      have hy : y ∈ xs.take (xs.countP (· < y)) ++ xs.drop (xs.countP (· < y)) := by rw [List.take_append_drop]; exact hm
      rcases List.mem_append.1 hy with hy | hy
      · exact absurd (t1 y hy) (tirr y)
      · rw [List.drop_eq_getElem_cons hlt] at hy p2 t2
        have a1 := t2 _ (List.mem_cons_self)
        rcases List.mem_cons.1 hy with e | e
        · exact e.symm
        · exact absurd ((List.pairwise_cons.1 p2).1 y e) a1
    rw [hd] at p2
    have p4 := (List.pairwise_cons.1 p2).1
    have e : x ∈ xs ↔ x ∈ xs.take (xs.countP (· < y)) ∨ x = y ∨ x ∈ xs.drop (xs.countP (· < y) + 1) := by
      conv => lhs; rw [← List.take_append_drop (xs.countP (· < y)) xs, hd]
      simp
    rw [e, List.mem_append]
    constructor
    · rintro (h | h)
      · have := t1 x h; exact ⟨.inl h, fun e => by subst e; exact tirr _ this⟩
      · have := p4 x h; exact ⟨.inr (.inr h), fun e => by subst e; exact tirr _ this⟩
    · rintro ⟨h | h | h, h2⟩
      · exact .inl h
      · exact absurd h h2
      · exact .inr h
  · next hc =>
    constructor
    · intro hx; exact ⟨hx, fun e => hc (by subst e; simpa using hx)⟩
    · exact fun hx => hx.1
theorem delI_filterS {xs : List (List UInt8)} (h : xs.Pairwise (· < ·)) (y : List UInt8) : delIS xs y = xs.filter (fun x => decide (x ≠ y)) :=
  up_extS (delI_upS h y) (h.sublist List.filter_sublist) fun x => by rw [delI_memS h]; simp
end Go.Proofs.YtlkeomcillencaaGreat
end
section
/- Layer 11: mathematics: a map of keys to sets, as the list of its entries; pointers as a map's elements. -/
namespace Go.Proofs.YtlkeomcillencaaGreat
set_option linter.unusedSectionVars false
open Go Go.RowKit Go.Maps

/-- a set under a key: its block, its row's block, its things -/
structure SetE (β : Type) where
  s : Nat
  ob : Option Nat
  xs : List β
section
variable {α β : Type} [DecidableEq α]
theorem lookM_set (T : List (α × β)) (k : α) (v : β) (j : α) : lookM (setM T k v) j = if j = k then some v else lookM T j := by
  unfold lookM setM
  rw [List.find?_append]
  by_cases e : j = k
  · subst e
    rw [if_pos rfl]
    have : (T.filter fun p => decide (p.1 ≠ j)).find? (fun p => decide (p.1 = j)) = none := by
      rw [List.find?_eq_none]
      intro p hp
      have := (List.mem_filter.1 hp).2
      simpa using this
    rw [this]; simp
  · rw [if_neg e, List.find?_filter]
    have h2 : ([(k, v)] : List (α × β)).find? (fun p => decide (p.1 = j)) = none := by
      simp; exact fun h => e h.symm
    rw [h2, Option.or_none]
    congr 2
    funext a
    by_cases h : a.1 = j
    · simp [h, e]
    · simp [h]
theorem lookM_del (T : List (α × β)) (k j : α) : lookM (delM T k) j = if j = k then none else lookM T j := by
  unfold lookM delM
  by_cases e : j = k
  · subst e
    rw [if_pos rfl]
    have : (T.filter fun p => decide (p.1 ≠ j)).find? (fun p => decide (p.1 = j)) = none := by
      rw [List.find?_eq_none]
      intro p hp
      have := (List.mem_filter.1 hp).2
      simpa using this
    rw [this]; rfl
  · rw [if_neg e, List.find?_filter]
    congr 2
    funext a
    by_cases h : a.1 = j
    · simp [h, e]
    · simp [h]
theorem lookM_memP {T : List (α × β)} {k : α} {v : β} (h : lookM T k = some v) : (k, v) ∈ T := by
  unfold lookM at h
  cases hf : T.find? fun p => decide (p.1 = k) with
  | none => rw [hf] at h; cases h
  | some p =>
    rw [hf] at h
    have h1 := List.mem_of_find?_eq_some hf
    have h2 := List.find?_some hf
    simp at h2 h
    rw [← h2, ← h]; exact h1
theorem mem_lookM : ∀ {T : List (α × β)}, (T.map (·.1)).Nodup → ∀ {p : α × β}, p ∈ T → lookM T p.1 = some p.2
  | [], _, _, h => by cases h
  | a :: r, hn, p, hp => by
    rw [List.map_cons, List.nodup_cons] at hn
    rcases List.mem_cons.1 hp with rfl | hp
    · simp [lookM]
    · have hne : a.1 ≠ p.1 := fun e => hn.1 (e ▸ List.mem_map_of_mem hp)
      have := mem_lookM hn.2 hp
      unfold lookM at this ⊢
      rw [List.find?_cons_of_neg (by simpa using hne)]
      exact this
theorem mem_setM {T : List (α × β)} {k : α} {v : β} {p : α × β} : p ∈ setM T k v ↔ (p ∈ T ∧ p.1 ≠ k) ∨ p = (k, v) := by
  unfold setM
  rw [List.mem_append, List.mem_filter]
  simp
theorem mem_delM {T : List (α × β)} {k : α} {p : α × β} : p ∈ delM T k ↔ p ∈ T ∧ p.1 ≠ k := by
  unfold delM
  rw [List.mem_filter]
  simp
end
section
variable {α β : Type} [DecidableEq α]
/-- the sets' blocks alone -/
def kp (T : List (α × SetE β)) : List (α × Nat) := T.map fun p => (p.1, p.2.s)
theorem kp_len (T : List (α × SetE β)) : (kp T).length = T.length := by unfold kp; simp
theorem kp_set (T : List (α × SetE β)) (k : α) (e : SetE β) : kp (setM T k e) = setM (kp T) k e.s := by
  unfold kp setM
  rw [List.map_append, List.filter_map]
  rfl
theorem kp_del (T : List (α × SetE β)) (k : α) : kp (delM T k) = delM (kp T) k := by
  unfold kp delM
  rw [List.filter_map]
  rfl
theorem kp_look (T : List (α × SetE β)) (k : α) : lookM (kp T) k = (lookM T k).map (·.s) := by
  unfold kp lookM
  rw [List.find?_map]
  simp [Function.comp_def]
/-- what stands under a key -/
def lk (T : List (α × SetE β)) (k : α) : List β := match lookM T k with | some e => e.xs | none => []
theorem lk_set (T : List (α × SetE β)) (k : α) (e : SetE β) (j : α) : lk (setM T k e) j = if j = k then e.xs else lk T j := by
  unfold lk
  rw [lookM_set]
  by_cases h : j = k
  · rw [if_pos h, if_pos h]
  · rw [if_neg h, if_neg h]
theorem lk_del (T : List (α × SetE β)) (k j : α) : lk (delM T k) j = if j = k then [] else lk T j := by
  unfold lk
  rw [lookM_del]
  by_cases h : j = k
  · rw [if_pos h, if_pos h]
  · rw [if_neg h, if_neg h]
/-- the blocks of a map of sets -/
def BlP (b : Nat) (T : List (α × SetE β)) (j : Nat) : Prop := j = b ∨ ∃ p ∈ T, j = p.2.s ∨ p.2.ob = some j
/-- two sets lie apart -/
def AprE (e f : SetE β) : Prop := e.s ≠ f.s ∧ e.ob ≠ some f.s ∧ f.ob ≠ some e.s ∧ ∀ g, e.ob = some g → f.ob ≠ some g
theorem AprE.symm {e f : SetE β} (h : AprE e f) : AprE f e := ⟨fun e => h.1 e.symm, h.2.2.1, h.2.1, fun g h1 h2 => h.2.2.2 g h2 h1⟩
def AprT (T : List (α × SetE β)) : Prop := ∀ p ∈ T, ∀ q ∈ T, p.1 ≠ q.1 → AprE p.2 q.2
theorem aprT_set {T : List (α × SetE β)} (h : AprT T) {k : α} {e : SetE β} (he : ∀ p ∈ T, p.1 ≠ k → AprE p.2 e) : AprT (setM T k e) := by
  intro p hp q hq hne
  rcases mem_setM.1 hp with ⟨hp, hpk⟩ | rfl
  · rcases mem_setM.1 hq with ⟨hq, hqk⟩ | rfl
    · exact h p hp q hq hne
    · exact he p hp hpk
  · rcases mem_setM.1 hq with ⟨hq, hqk⟩ | rfl
    · exact (he q hq hqk).symm
    · exact absurd rfl hne
theorem aprT_del {T : List (α × SetE β)} (h : AprT T) (k : α) : AprT (delM T k) := fun p hp q hq hne => h p (mem_delM.1 hp).1 q (mem_delM.1 hq).1 hne
end
/-- how a pointer to a set reads -/
def ptrE : Value → Option (DataW Unit × List MemPlace)
  | .pointer none => some (.lit (.int .i64 (-1)), [])
  | .pointer (some ⟨s, 0, none⟩) => some (.lit (.int .i64 s), [])
  | _ => none
def vP (s : Nat) : DataW Unit := .lit (.int .i64 s)
theorem vP_inj : ∀ a b : Nat, vP a = vP b → a = b := fun a b h => by
  have h2 : ((a : Nat) : Int) = ((b : Nat) : Int) := by
    unfold vP at h
    injection h with h
    injection h
  omega
theorem ptrE_inv {v : Value} {d : Int} {ps : List MemPlace} (h : ptrE v = some (.lit (.int .i64 d), ps)) : (v = .pointer none ∧ d = -1) ∨ ∃ s : Nat, v = .pointer (some ⟨s, 0, none⟩) ∧ d = s := by
  unfold ptrE at h
  split at h
  · simp at h; exact .inl ⟨rfl, h.1.symm⟩
  · rename_i s; simp at h; exact .inr ⟨s, rfl, h.1.symm⟩
  · cases h
theorem owns_sameP {H : Type} {P : Program} {k : TypeId} {R : Value → Option (DataW H × List MemPlace)} {w w' : World} {b n : Nat} {D : DataW H} (h : w.ownsMap P k R b n D) (he : w'.heap[b]? = w.heap[b]?) : w'.ownsMap P k R b n D := by
  obtain ⟨es, clock, h1, h2⟩ := h
  exact ⟨es, clock, he.trans h1, h2⟩
theorem owns_tightP {H : Type} {P : Program} {k : TypeId} {R : Value → Option (DataW H × List MemPlace)} {w : World} {b n : Nat} {D : DataW H} (h : w.ownsMap P k R b n D) : w.ownsMap P k R b (Maps.size D) D := by
  obtain ⟨es, clock, h1, h2, h3, rfl⟩ := h
  refine ⟨es, clock, h1, h2, ?_, rfl⟩
  rw [Maps.size_eq, length_sorted]; simp
theorem row_baseP {W : World} {base base' n sz : Nat} {T : TypeId} {v : Value} {xs : List Value} (h : W.ownsRow base T sz v n xs) (hb : base' ≤ base) : W.ownsRow base' T sz v n xs := by
  obtain ⟨h1, h2⟩ := h
  refine ⟨h1, ?_⟩
  rcases h2 with h2 | ⟨g, cap, cur, h3, h4, h5⟩
  · exact .inl h2
  · exact .inr ⟨g, cap, cur, h3, by omega, h5⟩
theorem set_of_none (w : World) : Calls Tryz.prog 59 #[.slice none 0 0] w (OfP [] w) := by
  have e : normI [] = [] := by simp [normI, Lib.compact, Lib.compactUpTo]
  have := set_of (w := w) none [] 0 (by simp) (fun h => absurd h (by simp)) (by rw [e]; exact List.Pairwise.nil)
  rw [e] at this
  exact this
theorem setM_setM {α β : Type} [DecidableEq α] (T : List (α × β)) (k : α) (u v : β) : setM (setM T k u) k v = setM T k v := by
  unfold setM
  rw [List.filter_append, List.filter_filter]
  simp
theorem nodup_len {γ : Type} [DecidableEq γ] : ∀ {A B : List γ}, A.Nodup → (∀ x ∈ A, x ∈ B) → A.length ≤ B.length
  | [], _, _, _ => Nat.zero_le _
  | a :: r, B, hn, hs => by
    rw [List.nodup_cons] at hn
    have ha := hs a (List.mem_cons_self ..)
    have h2 := nodup_len (A := r) (B := B.erase a) hn.2 fun x hx => (List.mem_erase_of_ne (show x ≠ a from fun e => hn.1 (by rw [← e]; exact hx))).2 (hs x (List.mem_cons_of_mem _ hx))
    have h3 := List.length_erase_of_mem ha
    have h4 := List.length_pos_of_mem ha
    rw [List.length_cons]
    omega
/-- the keys of a map of sets, none empty, are no more than the pairs -/
theorem keys_le {α β : Type} [DecidableEq α] [DecidableEq β] {T : List (α × SetE β)} {L : List (α × β)} (hn : (T.map (·.1)).Nodup) (hne : ∀ p ∈ T, p.2.xs ≠ []) (h : ∀ a b, b ∈ lk T a → (a, b) ∈ L) : T.length ≤ L.length := by
  have h1 := nodup_len (A := T.map (·.1)) (B := L.map (·.1)) hn fun x hx => by
    obtain ⟨p, hp, rfl⟩ := List.mem_map.1 hx
    obtain ⟨b, hb⟩ := List.exists_mem_of_ne_nil _ (hne p hp)
    have hl : lk T p.1 = p.2.xs := by unfold lk; rw [mem_lookM hn hp]
    exact List.mem_map.2 ⟨(p.1, b), h _ _ (hl ▸ hb), rfl⟩
  simpa using h1
theorem lk_le {α β : Type} [DecidableEq α] [DecidableEq β] {xs : List β} {a : α} {L : List (α × β)} (hn : xs.Nodup) (h : ∀ b, b ∈ xs → (a, b) ∈ L) : xs.length ≤ L.length := by
  have h1 := nodup_len (A := xs.map fun b => (a, b)) (B := L) (List.Pairwise.map _ (fun _ _ h e => h (Prod.mk.inj e).2) hn) fun x hx => by
    obtain ⟨b, hb, rfl⟩ := List.mem_map.1 hx
    exact h b hb
  simpa using h1
theorem up_nodup {xs : List Int} (h : xs.Pairwise (· < ·)) : xs.Nodup := h.imp fun h e => by subst e; exact absurd h (Int.lt_irrefl _)
theorem up_nodupS {xs : List (List UInt8)} (h : xs.Pairwise (· < ·)) : xs.Nodup := h.imp fun h e => by subst e; exact tirr _ h
theorem len_setP {α β : Type} [DecidableEq α] (T : List (α × β)) (k : α) (v : β) : (setM T k v).length ≤ T.length + 1 := by
  unfold setM
  rw [List.length_append, List.length_singleton]
  have := List.length_filter_le (fun p : α × β => decide (p.1 ≠ k)) T
  omega
end Go.Proofs.YtlkeomcillencaaGreat
end
section
/- Layer 11: maps of ints to sets of strings: lookups, fill, empty. -/
namespace Go.Proofs.YtlkeomcillencaaGreat
open Go Go.RowKit Go.Maps Go.Lib

def kVIS (k : Int) : Value := .int .i64 k
def kLIS (k : Int) : Lit := (Lit.int .i64 k)
def OkKIS (k : Int) : Prop := (Lit.int .i64 k).wf = true
theorem kLIS_inj : ∀ a b : Int, kLIS a = kLIS b → a = b := fun a b h => by simpa [kLIS] using h
theorem kLIS_key (k : Int) : WideAt.IsKeyLit (kLIS k) := by simp [kLIS, WideAt.IsKeyLit]
theorem keyedIS : Keyed Tryz.prog 3 := int_keyed Tryz.underlying3
theorem keyOfIS {k : Int} (h : OkKIS k) : keyOf Tryz.prog 3 (kVIS k) = some (kLIS k) := keyOf_int_mk Tryz.underlying3 h
/-- block b is a map of these sets' blocks -/
def OwnMIS (w : World) (b : Nat) (S : List (Int × Nat)) : Prop := (∃ D : DataW Unit, w.ownsMap Tryz.prog 3 ptrE b S.length D ∧ MapHas kLIS vP D S) ∧ ∀ p ∈ S, OkKIS p.1
theorem ownMIS_lt {w : World} {b : Nat} {S : List (Int × Nat)} (h : OwnMIS w b S) : b < w.heap.size := by
  obtain ⟨⟨D, h1, _⟩, _⟩ := h
  exact h1.lt
theorem ownMIS_same {w w' : World} {b : Nat} {S : List (Int × Nat)} (h : OwnMIS w b S) (he : w'.heap[b]? = w.heap[b]?) : OwnMIS w' b S := by
  obtain ⟨⟨D, h1, h2⟩, h3⟩ := h
  exact ⟨⟨D, owns_sameP h1 he, h2⟩, h3⟩
theorem ownMIS_nodup {w : World} {b : Nat} {S : List (Int × Nat)} (h : OwnMIS w b S) : (S.map (·.1)).Nodup := by
  obtain ⟨⟨D, h1, h2⟩, h3⟩ := h
  exact h2.nodup
theorem ownMIS_move {w : World} {b : Nat} {S : List (Int × Nat)} (h : OwnMIS w b S) {k : Int} {s : Nat} (hl : lookM S k = some s) : OwnMIS w b (setM S k s) := by
  obtain ⟨⟨D, h1, h2⟩, h3⟩ := h
  have hm := lookM_memP hl
  have hsz : (setM S k s).length = S.length := by
    have := len_delM h2.nodup k
    rw [if_pos (List.any_eq_true.2 ⟨_, hm, by simp⟩)] at this
    unfold setM
    unfold delM at this
    rw [List.length_append, List.length_singleton]; exact this
  have hsub : ∀ p ∈ setM S k s, p ∈ S := fun p hp => by
    rcases mem_setM.1 hp with ⟨hp, _⟩ | rfl
    · exact hp
    · exact hm
  refine ⟨⟨D, by rw [hsz]; exact h1, ⟨nodup_setM h2.nodup k s, fun p hp => h2.at_ p (hsub p hp), fun kl hk => ?_, by rw [hsz]; exact h2.size⟩⟩, fun p hp => h3 p (hsub p hp)⟩
  obtain ⟨p, hp, e⟩ := h2.only kl hk
  by_cases c : p.1 = k
  · exact ⟨(k, s), mem_setM.2 (.inr rfl), by rw [← e, c]⟩
  · exact ⟨p, mem_setM.2 (.inl ⟨hp, c⟩), e⟩
theorem mlookIS {w : World} {b : Nat} {S : List (Int × Nat)} (h : OwnMIS w b S) {k : Int} (hk : OkKIS k) : (Instr.lookup 121 (.map (some b)) (kVIS k) false).run Tryz.prog w = .ok (.pointer ((lookM S k).map fun s => ⟨s, 0, none⟩)) w := by
  obtain ⟨⟨D, a5, a6⟩, a7⟩ := h
  have hz : (zeroValue 137).run Tryz.prog w = .ok (.pointer none) w := by kernel_rfl
  obtain ⟨v, ps, h1, h2⟩ := a5.lookup keyedIS Tryz.underlying121 hz (zd := .lit (.int .i64 (-1))) (zp := []) rfl (keyOfIS hk)
  rw [h1]
  rw [a6.look kLIS_inj] at h2
  cases hl : lookM S k with
  | none =>
    rw [hl] at h2
    rcases ptrE_inv h2 with ⟨rfl, _⟩ | ⟨s, _, e⟩
    · rfl
    · omega
  | some s =>
    rw [hl] at h2
    rcases ptrE_inv h2 with ⟨_, e⟩ | ⟨s2, rfl, e⟩
    · omega
    · obtain rfl : s = s2 := by omega
      rfl
theorem mputIS {w : World} {b : Nat} {S : List (Int × Nat)} (h : OwnMIS w b S) {k : Int} (hk : OkKIS k) (s : Nat) (hl : S.length ≤ 1000000) :
    ∃ w', (Instr.mapUpdate 121 (.map (some b)) (kVIS k) (.pointer (some ⟨s, 0, none⟩))).run Tryz.prog w = .ok () w' ∧ OwnMIS w' b (setM S k s) ∧ Fr (fun j => j = b) w w' := by
  obtain ⟨⟨D, a5, a6⟩, a7⟩ := h
  obtain ⟨w', h1, h2, h3⟩ := a5.update keyedIS Tryz.underlying121 (by unfold maxLen; omega) (keyOfIS hk) (val := .pointer (some ⟨s, 0, none⟩)) (d := vP s) (ps := []) rfl
  have h6 := a6.put kLIS_inj (a5.tidy keyedIS) k (kLIS_key k) s
  refine ⟨w', h1, ⟨⟨_, by rw [← h6.size]; exact owns_tightP h2, h6⟩, fun p hp => ?_⟩, (Fr.refl _ w).grown h3 fun j e => by cases e; exact .inr rfl⟩
  rcases mem_setM.1 hp with ⟨hp, _⟩ | rfl
  · exact a7 p hp
  · exact hk
theorem mdelIS {w : World} {b : Nat} {S : List (Int × Nat)} (h : OwnMIS w b S) {k : Int} (hk : OkKIS k) (ty : TypeId) :
    ∃ w', (Builtin.delete_ #[121, 3] ty #[.map (some b), kVIS k]).run Tryz.prog w = .ok (.tuple #[]) w' ∧ OwnMIS w' b (delM S k) ∧ Fr (fun j => j = b) w w' := by
  obtain ⟨⟨D, a5, a6⟩, a7⟩ := h
  obtain ⟨w', h1, h2, h3⟩ := a5.drop keyedIS Tryz.underlying121 (keyOfIS hk) ty
  have h6 := a6.del kLIS_inj (a5.tidy keyedIS) k
  exact ⟨w', h1, ⟨⟨_, by rw [← h6.size]; exact owns_tightP h2, h6⟩, fun p hp => a7 p (mem_delM.1 hp).1⟩, (Fr.refl _ w).grown h3.grown fun j e => by cases e; exact .inr rfl⟩
/-- a map of sets as it lies -/
def MapStIS (base : Nat) (w : World) (b : Nat) (T : List (Int × SetE (List UInt8))) : Prop :=
  base ≤ b ∧ OwnMIS w b (kp T) ∧ (∀ p ∈ T, SetAtS base w p.2.s p.2.ob p.2.xs ∧ base ≤ p.2.s ∧ p.2.s ≠ b ∧ p.2.ob ≠ some b) ∧ AprT T
theorem setLtIS {base : Nat} {w : World} {s : Nat} {ob : Option Nat} {xs : List (List UInt8)} (h : SetAtS base w s ob xs) : s < w.heap.size ∧ ∀ g, ob = some g → base ≤ g ∧ g < w.heap.size := by
  obtain ⟨⟨v, a, rfl, b⟩, c, d⟩ := h
  exact ⟨blk_lt a, fun g hg => b.lt g hg⟩
theorem blPIS_lt {base : Nat} {w : World} {b : Nat} {T : List (Int × SetE (List UInt8))} (h : MapStIS base w b T) {j : Nat} (hj : BlP b T j) : base ≤ j ∧ j < w.heap.size := by
  obtain ⟨h1, h2, h3, h4⟩ := h
  rcases hj with rfl | ⟨p, hp, rfl | e⟩
  · exact ⟨h1, ownMIS_lt h2⟩
  · exact ⟨(h3 p hp).2.1, (setLtIS (h3 p hp).1).1⟩
  · exact (setLtIS (h3 p hp).1).2 j e
theorem mapStIS_same {base : Nat} {w w' : World} {b : Nat} {T : List (Int × SetE (List UInt8))} (h : MapStIS base w b T) (hs : ∀ j, BlP b T j → w'.heap[j]? = w.heap[j]?) : MapStIS base w' b T := by
  obtain ⟨h1, h2, h3, h4⟩ := h
  exact ⟨h1, ownMIS_same h2 (hs b (.inl rfl)), fun p hp => ⟨set_keptS (h3 p hp).1 (hs _ (.inr ⟨p, hp, .inl rfl⟩)) fun g hg => hs g (.inr ⟨p, hp, .inr hg⟩), (h3 p hp).2⟩, h4⟩
theorem mapStIS_fr {base : Nat} {w w' : World} {b : Nat} {T : List (Int × SetE (List UInt8))} {X : Nat → Prop} (h : MapStIS base w b T) (hf : Fr X w w') (hx : ∀ j, BlP b T j → ¬ X j) : MapStIS base w' b T :=
  mapStIS_same h fun j hj => hf.block j (blPIS_lt h hj).2 (hx j hj)
theorem mapStIS_nodup {base : Nat} {w : World} {b : Nat} {T : List (Int × SetE (List UInt8))} (h : MapStIS base w b T) : (T.map (·.1)).Nodup := by
  have := ownMIS_nodup h.2.1
  unfold kp at this
  rwa [List.map_map] at this
/-- no set is empty -/
def NeTIS (T : List (Int × SetE (List UInt8))) : Prop := ∀ p ∈ T, p.2.xs ≠ []
/-- under one key stands something else now -/
def PutPIS (base b : Nat) (T : List (Int × SetE (List UInt8))) (k : Int) (zs : List (List UInt8)) (w w' : World) : Prop :=
  ∃ T', MapStIS base w' b T' ∧ (∀ j, lk T' j = if j = k then zs else lk T j) ∧ (NeTIS T → NeTIS T') ∧ Fr (BlP b T) w w' ∧ (∀ j, BlP b T' j → BlP b T j ∨ w.heap.size ≤ j) ∧ T'.length ≤ T.length + 1
/-- a set under a key turned, by a call that writes its blocks alone -/
theorem turnIS {base : Nat} {w1 w' : World} {b : Nat} {T : List (Int × SetE (List UInt8))} (h : MapStIS base w1 b T) {k : Int} {e : SetE (List UInt8)} (hl : lookM T k = some e) {ob' : Option Nat} {zs : List (List UInt8)}
    (hs : SetAtS base w' e.s ob' zs) (hnew : ∀ g, ob' = some g → g < w1.heap.size → e.ob = some g) (hf : Fr (fun j => j = e.s ∨ e.ob = some j) w1 w') :
    MapStIS base w' b (setM T k ⟨e.s, ob', zs⟩) ∧ (∀ j, BlP b (setM T k ⟨e.s, ob', zs⟩) j → BlP b T j ∨ w1.heap.size ≤ j) := by
  obtain ⟨h1, h2, h3, h4⟩ := h
  have hm := lookM_memP hl
  have hne : ∀ p ∈ T, p.1 ≠ k → AprE p.2 e := fun p hp hpk => h4 p hp (k, e) hm hpk
  have hob : ∀ g, ob' = some g → e.ob = some g ∨ w1.heap.size ≤ g := fun g hg => by
    rcases Nat.lt_or_ge g w1.heap.size with h | h
    · exact .inl (hnew g hg h)
    · exact .inr h
  have hsz := fun p hp => setLtIS (h3 p hp).1
  have hbl := ownMIS_lt h2
  refine ⟨⟨h1, ?_, fun p hp => ?_, aprT_set h4 fun p hp hpk => ?_⟩, fun j hj => ?_⟩
  · rw [kp_set]
    refine ownMIS_move (ownMIS_same h2 (hf.block b hbl ?_)) (by rw [kp_look, hl]; rfl)
    rintro (e1 | e1)
    · exact (h3 _ hm).2.2.1 e1.symm
    · exact (h3 _ hm).2.2.2 e1
  · rcases mem_setM.1 hp with ⟨hp, hpk⟩ | rfl
    · have ha := hne p hp hpk
      refine ⟨set_keptS (h3 p hp).1 (hf.block _ (hsz p hp).1 ?_) fun g hg => hf.block g ((hsz p hp).2 g hg).2 ?_, (h3 p hp).2⟩
      · rintro (e1 | e1)
        · exact ha.1 e1
        · exact ha.2.2.1 e1
      · rintro (e1 | e1)
        · exact ha.2.1 (e1 ▸ hg)
        · exact ha.2.2.2 g hg e1
    · refine ⟨hs, (h3 _ hm).2.1, (h3 _ hm).2.2.1, fun e1 => ?_⟩
      rcases hob b e1 with e2 | e2
      · exact (h3 _ hm).2.2.2 e2
      · omega
  · have ha := hne p hp hpk
    refine ⟨ha.1, ha.2.1, fun e1 => ?_, fun g hg e1 => ?_⟩
    · rcases hob _ e1 with e2 | e2
      · exact ha.2.2.1 e2
      · have := (hsz p hp).1; omega
    · rcases hob _ e1 with e2 | e2
      · exact ha.2.2.2 g hg e2
      · have := ((hsz p hp).2 g hg).2; omega
  · rcases hj with rfl | ⟨p, hp, hj⟩
    · exact .inl (.inl rfl)
    · rcases mem_setM.1 hp with ⟨hp, _⟩ | rfl
      · exact .inl (.inr ⟨p, hp, hj⟩)
      · rcases hj with rfl | hj
        · exact .inl (.inr ⟨(k, e), hm, .inl rfl⟩)
        · rcases hob j hj with e2 | e2
          · exact .inl (.inr ⟨(k, e), hm, .inr e2⟩)
          · exact .inr e2
end Go.Proofs.YtlkeomcillencaaGreat
end
section
/- Layer 11: maps of ints to sets of strings: fill, empty. -/
namespace Go.Proofs.YtlkeomcillencaaGreat
open Go Go.RowKit Go.Maps Go.Lib

theorem set_baseIS {b0 b1 : Nat} {w : World} {s : Nat} {ob : Option Nat} {xs : List (List UInt8)} (h : SetAtS b1 w s ob xs) (hb : b0 ≤ b1) : SetAtS b0 w s ob xs := by
  obtain ⟨⟨v, h1, h2, h3⟩, h4, h5⟩ := h
  exact ⟨⟨v, h1, h2, row_baseP h3 hb⟩, h4, h5⟩
/-- a new empty set under a key that had none -/
theorem newIS {base : Nat} {w w1 : World} {b : Nat} {T : List (Int × SetE (List UInt8))} (h : MapStIS base w b T) {k : Int} {s : Nat} {ob : Option Nat} (hs : SetAtS w.heap.size w1 s ob []) (hsz : w.heap.size ≤ s) (hbw : base ≤ w.heap.size) (hf : Fr (fun _ => False) w w1) :
    (∀ w2, OwnMIS w2 b (setM (kp T) k s) → Fr (fun j => j = b) w1 w2 → MapStIS base w2 b (setM T k ⟨s, ob, []⟩)) ∧ ∀ j, BlP b (setM T k ⟨s, ob, []⟩) j → BlP b T j ∨ w.heap.size ≤ j := by
  have hlt : ∀ {j}, BlP b T j → j < w.heap.size := fun hj => (blPIS_lt h hj).2
  have h' := mapStIS_fr h hf fun _ _ e => e
  obtain ⟨h1, h2, h3, h4⟩ := h'
  have hob : ∀ g, ob = some g → w.heap.size ≤ g := fun g hg => ((setLtIS hs).2 g hg).1
  refine ⟨fun w2 ho hf2 => ⟨h1, by rw [kp_set]; exact ho, fun p hp => ?_, aprT_set h4 fun p hp hpk => ?_⟩, fun j hj => ?_⟩
  · rcases mem_setM.1 hp with ⟨hp, hpk⟩ | rfl
    · obtain ⟨a1, a2, a3, a4⟩ := h3 p hp
      exact ⟨set_keptS a1 (hf2.block _ (setLtIS a1).1 a3) fun g hg => hf2.block g ((setLtIS a1).2 g hg).2 (fun e => a4 (e ▸ hg)), a2, a3, a4⟩
    · have hb := hlt (.inl rfl : BlP b T b)
      refine ⟨set_keptS (set_baseIS hs hbw) (hf2.block _ (setLtIS hs).1 (fun e => by have e : s = b := e; omega)) fun g hg => hf2.block g ((setLtIS hs).2 g hg).2 (by have := hob g hg; omega), Nat.le_trans hbw hsz, fun e => by have e : s = b := e; omega, fun e => ?_⟩
      have := hob b e; omega
  · have q1 := hlt (.inr ⟨p, hp, .inl rfl⟩ : BlP b T p.2.s)
    have q2 := fun g (hg : p.2.ob = some g) => hlt (.inr ⟨p, hp, .inr hg⟩ : BlP b T g)
    refine ⟨fun e => by have e : p.2.s = s := e; omega, fun e => ?_, fun e => ?_, fun g hg e => ?_⟩
    · have := q2 s e; omega
    · have := hob _ e; omega
    · have := q2 _ hg; have := hob _ e; omega
  · rcases hj with rfl | ⟨p, hp, hj⟩
    · exact .inl (.inl rfl)
    · rcases mem_setM.1 hp with ⟨hp, _⟩ | rfl
      · exact .inl (.inr ⟨p, hp, hj⟩)
      · rcases hj with rfl | hj
        · exact .inr hsz
        · exact .inr (hob j hj)
theorem lkUpIS {base : Nat} {w : World} {b : Nat} {T : List ((Int) × SetE (List UInt8))} (h : MapStIS base w b T) (k : Int) : (lk T k).Pairwise (· < ·) := by
  unfold lk
  cases hl : lookM T k with
  | none => exact List.Pairwise.nil
  | some e => exact (h.2.2.1 _ (lookM_memP hl)).1.2.2
theorem mapSt_baseIS {b0 b1 : Nat} {w : World} {b : Nat} {T : List (Int × SetE (List UInt8))} (h : MapStIS b1 w b T) (hb : b0 ≤ b1) : MapStIS b0 w b T :=
  ⟨Nat.le_trans hb h.1, h.2.1, fun p hp => ⟨set_baseIS (h.2.2.1 p hp).1 hb, Nat.le_trans hb (h.2.2.1 p hp).2.1, (h.2.2.1 p hp).2.2⟩, h.2.2.2⟩
theorem made_stIS {base : Nat} {w : World} {b : Nat} (hb : base ≤ b) (h : ∃ n, w.ownsMap Tryz.prog 3 ptrE b n (.map [] : DataW Unit) ∧ n = 0) : MapStIS base w b [] := by
  obtain ⟨n, h, rfl⟩ := h
  exact ⟨hb, ⟨⟨.map [], h, mapHas_empty _ _⟩, (fun p hp => by cases hp)⟩, (fun p hp => by cases hp), (fun p hp => by cases hp)⟩
theorem lk_noneIS {T : List (Int × SetE (List UInt8))} {k : Int} (h : lookM T k = none) : lk T k = [] := by unfold lk; rw [h]
theorem lk_someIS {T : List (Int × SetE (List UInt8))} {k : Int} {e : SetE (List UInt8)} (h : lookM T k = some e) : lk T k = e.xs := by unfold lk; rw [h]
theorem lkHasIS {T : List ((Int) × SetE (List UInt8))} {a : Int} {b : List UInt8} (h : b ∈ lk T a) : ∃ e, lookM T a = some e ∧ e.xs = lk T a := by
  unfold lk at h ⊢
  cases hl : lookM T a with
  | none => rw [hl] at h; cases h
  | some e => exact ⟨e, rfl, rfl⟩
theorem insAll1IS (xs : List (List UInt8)) (x : List UInt8) : insAllS xs [x] = insIS xs x := rfl
theorem delAll1IS (xs : List (List UInt8)) (x : List UInt8) : delAllS xs [x] = delIS xs x := rfl
theorem insNeIS (xs : List (List UInt8)) (x : List UInt8) : insIS xs x ≠ [] := fun e => by
  have := insI_lenS xs x
  rw [e] at this
  split at this
  · rename_i h; simp only [List.length_nil] at this
    have := List.eq_nil_of_length_eq_zero this.symm
    subst this; simp at h
  · simp at this
theorem neT_setIS {T : List (Int × SetE (List UInt8))} (h : NeTIS T) {k : Int} {e : SetE (List UInt8)} (he : e.xs ≠ []) : NeTIS (setM T k e) := fun p hp => by
  rcases mem_setM.1 hp with ⟨hp, _⟩ | rfl
  · exact h p hp
  · exact he
set_option maxRecDepth 100000 in
set_option maxHeartbeats 4000000 in
theorem fillIS {base : Nat} {w : World} {b : Nat} {T : List (Int × SetE (List UInt8))} (h : MapStIS base w b T) (hbw : base ≤ w.heap.size) {k : Int} (hk : OkKIS k) (x : List UInt8) (hT : T.length ≤ 100000) (hl : (lk T k).length ≤ 100000) :
    Calls Tryz.prog 76 #[.map (some b), .int .i64 k, .string (bs x)] w fun e w' => e = .returned (.tuple #[]) ∧ PutPIS base b T k (insIS (lk T k) x) w w' := by
  have hlook := mlookIS h.2.1 hk
  rw [kp_look] at hlook
  cases hlk : lookM T k with
  | none =>
    rw [hlk] at hlook
    simp only [Option.map_none] at hlook
    have HOf := Lib.hid (set_ofS w)
    have HH := Lib.hid h
    have HK := Lib.hid hk
    have hlk0 := Lib.hid hlk
    have hl0 := lk_noneIS hlk
    rw [hl0]
    have HL0 := Lib.hid hl0
    unfold kVIS at hlook
    clear hlk h hk hl0
    go_enter Tryz.func76, Tryz.ntmps76
    go_wp2_with fail
    refine HOf.out.mono ?_
    rintro e w1 ⟨⟨s, ob, rfl, hs, hsz⟩, hb1⟩
    have hf1 := Fr.of_below (X := fun _ => False) hb1
    have ho1 := ownMIS_same HH.out.2.1 (hf1.block b (ownMIS_lt HH.out.2.1) fun e => e)
    obtain ⟨w2, hput, ho2, hf2⟩ := mputIS ho1 HK.out s (by rw [kp_len]; omega)
    obtain ⟨hm, hbl⟩ := newIS (k := k) HH.out hs hsz hbw hf1
    have hm2 := hm w2 ho2 hf2
    have hlook2 := mlookIS hm2.2.1 HK.out
    rw [kp_look, lookM_set, if_pos rfl] at hlook2
    simp only [Option.map_some] at hlook2
    unfold kVIS at hput hlook2
    obtain ⟨w3, hw3⟩ : ∃ w3, w2.alloc (Obj.cells #[.string (bs x)] 9) = w3 := ⟨_, rfl⟩
    have hf3 : Fr (fun _ => False) w2 w3 := by rw [← hw3]; exact (Fr.refl _ w2).alloc _
    have hm3 := mapStIS_fr hm2 hf3 fun _ _ e => e
    have hn3 : w3.heap[w2.heap.size]? = some (.cells #[.string (bs x)] 9 (0, 0)) := by rw [← hw3]; exact heap_alloc_new w2 _
    have hz3 := blk_lt hn3
    have hmem : (k, (⟨s, ob, []⟩ : SetE (List UInt8))) ∈ setM T k ⟨s, ob, []⟩ := mem_setM.2 (.inr rfl)
    have hset3 := (hm3.2.2.1 _ hmem).1
    have hz12 := hf2.size
    have hz01 := hf1.size
    have hlts := (setLtIS hs).1
    have hltg := (setLtIS hs).2
    have HAdd := Lib.hid (set_addS hset3 (by have := hf3.size; omega) (some ⟨w2.heap.size, 0, none⟩) [x] 1 (by simp) (fun _ => ⟨_, _, rfl, hz3, by simp only []; omega, fun e => by have := (hltg _ e).2; omega, fun j hj => by
      obtain rfl : j = 0 := by simp at hj; omega
      exact blk_cell hn3 0⟩))
    have H := Lib.hid (And.intro hm3 (And.intro hbl (And.intro hf1 (And.intro hf2 hf3))))
    have HW := Lib.hid hw3
    clear hw3 hm3 hbl hf1 hf2 hf3 hm hm2 ho1 ho2 hb1 hs hn3 hz3 hset3 hmem hltg
    go_wp2_with fail
    rw [HW.out]
    refine HAdd.out.mono ?_
    rintro e w4 ⟨rfl, ob', hs4, hn4, hf4⟩
    obtain ⟨hm3, hbl, hf1, hf2, hf3⟩ := H.out
    obtain ⟨hm4, hbl4⟩ := turnIS hm3 (k := k) (e := ⟨s, ob, []⟩) (by rw [lookM_set, if_pos rfl]) hs4 hn4 hf4
    have hlen : (setM (setM T k ⟨s, ob, []⟩) k (⟨s, ob', insAllS [] [x]⟩ : SetE (List UInt8))).length ≤ T.length + 1 := by rw [setM_setM]; exact len_setP _ _ _
    have hP : PutPIS base b T k (insIS [] x) w w4 := by
      refine ⟨_, hm4, fun j => ?_, fun hne => ?_, ?_, fun j hj => ?_, hlen⟩
      · rw [lk_set, lk_set]
        by_cases e : j = k
        · rw [if_pos e, if_pos e]; rfl
        · rw [if_neg e, if_neg e, if_neg e]
      · rw [setM_setM]
        exact neT_setIS hne (insNeIS [] x)
      · refine (((hf1.mono fun _ _ e => e.elim : Fr (BlP b T) w w1).trans3 hf2 fun j hj e => ?_).trans3 hf3 fun j hj e => e.elim).trans3 hf4 fun j hj e => ?_
        · subst e; exact .inl rfl
        · rcases e with rfl | e
          · omega
          · have := (hbl j (.inr ⟨_, mem_setM.2 (.inr rfl), .inr e⟩)).resolve_right (by omega)
            exact this
      · rcases hbl4 j hj with e | e
        · exact hbl j e
        · exact .inr (by have := hf3.size; omega)
    have HP := Lib.hid hP
    clear hP hm4 hbl4 hlen hm3 hbl hf1 hf2 hf3 hs4 hn4 hf4
    go_wp2_with fail
    go_end0
    exact ⟨rfl, HP.out⟩
  | some e =>
    rw [hlk] at hlook
    simp only [Option.map_some] at hlook
    rw [lk_someIS hlk] at hl ⊢
    have hmem := lookM_memP hlk
    obtain ⟨w3, hw3⟩ : ∃ w3, w.alloc (Obj.cells #[.string (bs x)] 9) = w3 := ⟨_, rfl⟩
    have hf3 : Fr (fun _ => False) w w3 := by rw [← hw3]; exact (Fr.refl _ w).alloc _
    have hm3 := mapStIS_fr h hf3 fun _ _ e => e
    have hn3 : w3.heap[w.heap.size]? = some (.cells #[.string (bs x)] 9 (0, 0)) := by rw [← hw3]; exact heap_alloc_new w _
    have hz3 := blk_lt hn3
    have hset3 := (hm3.2.2.1 _ hmem).1
    have hlts := (setLtIS (h.2.2.1 _ hmem).1).1
    have hltg := (setLtIS (h.2.2.1 _ hmem).1).2
    have HAdd := Lib.hid (set_addS hset3 (by omega) (some ⟨w.heap.size, 0, none⟩) [x] 1 (by simp only [List.length_singleton]; omega) (fun _ => ⟨_, _, rfl, hz3, fun e1 => by have e1 : w.heap.size = e.s := e1; have hlts : e.s < w.heap.size := hlts; omega, fun e1 => by have := (hltg _ e1).2; omega, fun j hj => by
      obtain rfl : j = 0 := by simp at hj; omega
      exact blk_cell hn3 0⟩))
    obtain ⟨es, eob, exs⟩ := e
    have H := Lib.hid (And.intro hm3 (And.intro hlk hf3))
    have HW := Lib.hid hw3
    unfold kVIS at hlook
    clear hw3 hm3 hf3 hn3 hz3 hset3 hmem hltg hlk h hlts
    dsimp only [] at HAdd hlook hl
    dsimp only []
    go_enter Tryz.func76, Tryz.ntmps76
    go_wp2_with fail
    rw [HW.out]
    refine HAdd.out.mono ?_
    rintro e w4 ⟨rfl, ob', hs4, hn4, hf4⟩
    obtain ⟨hm3, hlk, hf3⟩ := H.out
    obtain ⟨hm4, hbl4⟩ := turnIS hm3 (k := k) (e := ⟨es, eob, exs⟩) hlk hs4 hn4 hf4
    have hmem := lookM_memP hlk
    have hP : PutPIS base b T k (insIS exs x) w w4 := by
      refine ⟨_, hm4, fun j => ?_, fun hne => ?_, ?_, fun j hj => ?_, len_setP _ _ _⟩
      · rw [lk_set]; rfl
      · exact neT_setIS hne (insNeIS exs x)
      · refine (hf3.mono fun _ _ e => e.elim : Fr (BlP b T) w w3).trans3 hf4 fun j hj e => ?_
        rcases e with rfl | e
        · exact .inr ⟨_, hmem, .inl rfl⟩
        · exact .inr ⟨_, hmem, .inr e⟩
      · rcases hbl4 j hj with e | e
        · exact .inl e
        · exact .inr (by have := hf3.size; omega)
    have HP := Lib.hid hP
    clear hP hm4 hbl4 hm3 hf3 hs4 hn4 hf4 hlk hmem
    go_wp2_with fail
    go_end0
    exact ⟨rfl, HP.out⟩
theorem delStIS {base : Nat} {w w' : World} {b : Nat} {T : List (Int × SetE (List UInt8))} (h : MapStIS base w b T) {k : Int} (ho : OwnMIS w' b (delM (kp T) k)) (hf : Fr (fun j => j = b) w w') : MapStIS base w' b (delM T k) := by
  obtain ⟨h1, h2, h3, h4⟩ := h
  refine ⟨h1, by rw [kp_del]; exact ho, fun p hp => ?_, aprT_del h4 k⟩
  obtain ⟨a1, a2, a3, a4⟩ := h3 p (mem_delM.1 hp).1
  exact ⟨set_keptS a1 (hf.block _ (setLtIS a1).1 a3) fun g hg => hf.block g ((setLtIS a1).2 g hg).2 (fun e => a4 (e ▸ hg)), a2, a3, a4⟩
set_option maxRecDepth 100000 in
set_option maxHeartbeats 4000000 in
theorem emptyIS {base : Nat} {w : World} {b : Nat} {T : List (Int × SetE (List UInt8))} (h : MapStIS base w b T) (hbw : base ≤ w.heap.size) {k : Int} (hk : OkKIS k) (x : List UInt8) {e : SetE (List UInt8)} (hlk : lookM T k = some e) (hl : e.xs.length ≤ 100000) :
    Calls Tryz.prog 68 #[.map (some b), .int .i64 k, .string (bs x)] w fun e' w' => e' = .returned (.tuple #[]) ∧ PutPIS base b T k (delIS (lk T k) x) w w' := by
  have hlook := mlookIS h.2.1 hk
  rw [kp_look] at hlook
  rw [hlk] at hlook
  simp only [Option.map_some] at hlook
  rw [lk_someIS hlk]
  have hmem := lookM_memP hlk
  obtain ⟨w3, hw3⟩ : ∃ w3, w.alloc (Obj.cells #[.string (bs x)] 9) = w3 := ⟨_, rfl⟩
  have hf3 : Fr (fun _ => False) w w3 := by rw [← hw3]; exact (Fr.refl _ w).alloc _
  have hm3 := mapStIS_fr h hf3 fun _ _ e => e
  have hn3 : w3.heap[w.heap.size]? = some (.cells #[.string (bs x)] 9 (0, 0)) := by rw [← hw3]; exact heap_alloc_new w _
  have hz3 := blk_lt hn3
  have hset3 := (hm3.2.2.1 _ hmem).1
  have hlts := (setLtIS (h.2.2.1 _ hmem).1).1
  have hltg := (setLtIS (h.2.2.1 _ hmem).1).2
  have HRem := Lib.hid (set_remS hset3 (by omega) (some ⟨w.heap.size, 0, none⟩) [x] 1 (by dsimp only []; omega) (by simp) (fun _ => ⟨_, _, rfl, hz3, fun e1 => by have e1 : w.heap.size = e.s := e1; have hlts : e.s < w.heap.size := hlts; omega, fun e1 => by have := (hltg _ e1).2; omega, fun j hj => by
    obtain rfl : j = 0 := by simp at hj; omega
    exact blk_cell hn3 0⟩))
  obtain ⟨es, eob, exs⟩ := e
  have HK := Lib.hid hk
  have H := Lib.hid (And.intro hm3 (And.intro hlk hf3))
  have HW := Lib.hid hw3
  unfold kVIS at hlook
  clear hw3 hm3 hf3 hn3 hz3 hset3 hmem hltg hlk h hlts hk
  dsimp only [] at HRem hlook hl
  dsimp only []
  obtain ⟨zs, hzs⟩ : ∃ zs, delIS exs x = zs := ⟨_, rfl⟩
  rw [hzs]
  have HZ := Lib.hid hzs
  clear hzs
  go_enter Tryz.func68, Tryz.ntmps68
  go_wp2_with fail
  rw [HW.out]
  refine HRem.out.mono ?_
  rintro e w4 ⟨rfl, ob', hs4, hn4, hf4⟩
  obtain ⟨hm3, hlk, hf3⟩ := H.out
  obtain ⟨hm4, hbl4⟩ := turnIS hm3 (k := k) (e := ⟨es, eob, exs⟩) hlk hs4 hn4 hf4
  have hmem := lookM_memP hlk
  rw [delAll1IS, HZ.out] at hs4 hm4 hbl4
  have hlook4 := mlookIS hm4.2.1 HK.out
  rw [kp_look, lookM_set, if_pos rfl] at hlook4
  simp only [Option.map_some] at hlook4
  unfold kVIS at hlook4
  have hlen := set_lenS hs4
  have hfr : Fr (BlP b T) w w4 := (hf3.mono fun _ _ e => e.elim : Fr (BlP b T) w w3).trans3 hf4 fun j hj e => by
    rcases e with rfl | e
    · exact .inr ⟨_, hmem, .inl rfl⟩
    · exact .inr ⟨_, hmem, .inr e⟩
  have hbl : ∀ j, BlP b (setM T k ⟨es, ob', zs⟩) j → BlP b T j ∨ w.heap.size ≤ j := fun j hj => by
    rcases hbl4 j hj with e | e
    · exact .inl e
    · exact .inr (by have := hf3.size; omega)
  have HL := Lib.hid hlen
  by_cases h0 : zs.length = 0
  · obtain rfl := List.eq_nil_of_length_eq_zero h0
    obtain ⟨w5, hdel, ho5, hf5⟩ := mdelIS hm4.2.1 HK.out 0
    have hP : PutPIS base b T k [] w w5 := by
      refine ⟨_, delStIS hm4 ho5 hf5, fun j => ?_, fun hne p hp => ?_, hfr.trans3 hf5 fun j hj e => e ▸ .inl rfl, fun j hj => ?_, ?_⟩
      · rw [lk_del, lk_set]
        by_cases e : j = k
        · simp only [if_pos e]
        · simp only [if_neg e]
      · obtain ⟨hp, hpk⟩ := mem_delM.1 hp
        rcases mem_setM.1 hp with ⟨hp, _⟩ | rfl
        · exact hne p hp
        · exact absurd rfl hpk
      · refine hbl j ?_
        rcases hj with rfl | ⟨p, hp, hj⟩
        · exact .inl rfl
        · exact .inr ⟨p, (mem_delM.1 hp).1, hj⟩
      · exact Nat.le_trans (List.length_filter_le _ _) (len_setP T k (⟨es, ob', []⟩ : SetE (List UInt8)))
    have HP := Lib.hid hP
    unfold kVIS at hdel
    clear hP hm4 hbl4 hm3 hf3 hs4 hn4 hf4 hlk hmem hfr hbl hlen ho5 hf5 h0
    go_wp2_with fail
    refine HL.out.mono ?_
    rintro e w6 ⟨rfl, rfl⟩
    go_wp2_with fail
    go_end0
    exact ⟨rfl, HP.out⟩
  · have hd : ((zs.length : Int) == 0) = false := by rw [beq_eq_false_iff_ne]; omega
    have hP : PutPIS base b T k zs w w4 := by
      refine ⟨_, hm4, fun j => ?_, fun hne => ?_, hfr, hbl, len_setP _ _ _⟩
      · rw [lk_set]
      · exact neT_setIS hne (fun e => h0 (by rw [show zs = [] from e]; rfl))
    have HP := Lib.hid hP
    clear hP hm4 hbl4 hm3 hf3 hs4 hn4 hf4 hlk hmem hfr hbl hlen h0
    go_wp2_with fail
    refine HL.out.mono ?_
    rintro e w6 ⟨rfl, rfl⟩
    go_wp2_with fail
    go_end0
    exact ⟨rfl, HP.out⟩
end Go.Proofs.YtlkeomcillencaaGreat
end
section
/- Layer 11: maps of strings to sets of ints: lookups, fill, empty. -/
namespace Go.Proofs.YtlkeomcillencaaGreat
open Go Go.RowKit Go.Maps Go.Lib

def kVSI (k : List UInt8) : Value := .string (bs k)
def kLSI (k : List UInt8) : Lit := (Lit.string k)
def OkKSI (k : List UInt8) : Prop := k.length ≤ maxLen
theorem kLSI_inj : ∀ a b : List UInt8, kLSI a = kLSI b → a = b := fun a b h => by simpa [kLSI] using h
theorem kLSI_key (k : List UInt8) : WideAt.IsKeyLit (kLSI k) := by simp [kLSI, WideAt.IsKeyLit]
theorem keyedSI : Keyed Tryz.prog 9 := string_keyed Tryz.underlying9
theorem keyOfSI {k : List UInt8} (h : OkKSI k) : keyOf Tryz.prog 9 (kVSI k) = some (kLSI k) := WideMaps.keyOf_string_mk Tryz.underlying9 (by simpa [OkKSI] using h)
/-- block b is a map of these sets' blocks -/
def OwnMSI (w : World) (b : Nat) (S : List (List UInt8 × Nat)) : Prop := (∃ D : DataW Unit, w.ownsMap Tryz.prog 9 ptrE b S.length D ∧ MapHas kLSI vP D S) ∧ ∀ p ∈ S, OkKSI p.1
theorem ownMSI_lt {w : World} {b : Nat} {S : List (List UInt8 × Nat)} (h : OwnMSI w b S) : b < w.heap.size := by
  obtain ⟨⟨D, h1, _⟩, _⟩ := h
  exact h1.lt
theorem ownMSI_same {w w' : World} {b : Nat} {S : List (List UInt8 × Nat)} (h : OwnMSI w b S) (he : w'.heap[b]? = w.heap[b]?) : OwnMSI w' b S := by
  obtain ⟨⟨D, h1, h2⟩, h3⟩ := h
  exact ⟨⟨D, owns_sameP h1 he, h2⟩, h3⟩
theorem ownMSI_nodup {w : World} {b : Nat} {S : List (List UInt8 × Nat)} (h : OwnMSI w b S) : (S.map (·.1)).Nodup := by
  obtain ⟨⟨D, h1, h2⟩, h3⟩ := h
  exact h2.nodup
theorem ownMSI_move {w : World} {b : Nat} {S : List (List UInt8 × Nat)} (h : OwnMSI w b S) {k : List UInt8} {s : Nat} (hl : lookM S k = some s) : OwnMSI w b (setM S k s) := by
  obtain ⟨⟨D, h1, h2⟩, h3⟩ := h
  have hm := lookM_memP hl
  have hsz : (setM S k s).length = S.length := by
    have := len_delM h2.nodup k
    rw [if_pos (List.any_eq_true.2 ⟨_, hm, by simp⟩)] at this
    unfold setM
    unfold delM at this
    rw [List.length_append, List.length_singleton]; exact this
  have hsub : ∀ p ∈ setM S k s, p ∈ S := fun p hp => by
    rcases mem_setM.1 hp with ⟨hp, _⟩ | rfl
    · exact hp
    · exact hm
  refine ⟨⟨D, by rw [hsz]; exact h1, ⟨nodup_setM h2.nodup k s, fun p hp => h2.at_ p (hsub p hp), fun kl hk => ?_, by rw [hsz]; exact h2.size⟩⟩, fun p hp => h3 p (hsub p hp)⟩
  obtain ⟨p, hp, e⟩ := h2.only kl hk
  by_cases c : p.1 = k
  · exact ⟨(k, s), mem_setM.2 (.inr rfl), by rw [← e, c]⟩
  · exact ⟨p, mem_setM.2 (.inl ⟨hp, c⟩), e⟩
theorem mlookSI {w : World} {b : Nat} {S : List (List UInt8 × Nat)} (h : OwnMSI w b S) {k : List UInt8} (hk : OkKSI k) : (Instr.lookup 122 (.map (some b)) (kVSI k) false).run Tryz.prog w = .ok (.pointer ((lookM S k).map fun s => ⟨s, 0, none⟩)) w := by
  obtain ⟨⟨D, a5, a6⟩, a7⟩ := h
  have hz : (zeroValue 99).run Tryz.prog w = .ok (.pointer none) w := by kernel_rfl
  obtain ⟨v, ps, h1, h2⟩ := a5.lookup keyedSI Tryz.underlying122 hz (zd := .lit (.int .i64 (-1))) (zp := []) rfl (keyOfSI hk)
  rw [h1]
  rw [a6.look kLSI_inj] at h2
  cases hl : lookM S k with
  | none =>
    rw [hl] at h2
    rcases ptrE_inv h2 with ⟨rfl, _⟩ | ⟨s, _, e⟩
    · rfl
    · omega
  | some s =>
    rw [hl] at h2
    rcases ptrE_inv h2 with ⟨_, e⟩ | ⟨s2, rfl, e⟩
    · omega
    · obtain rfl : s = s2 := by omega
      rfl
theorem mputSI {w : World} {b : Nat} {S : List (List UInt8 × Nat)} (h : OwnMSI w b S) {k : List UInt8} (hk : OkKSI k) (s : Nat) (hl : S.length ≤ 1000000) :
    ∃ w', (Instr.mapUpdate 122 (.map (some b)) (kVSI k) (.pointer (some ⟨s, 0, none⟩))).run Tryz.prog w = .ok () w' ∧ OwnMSI w' b (setM S k s) ∧ Fr (fun j => j = b) w w' := by
  obtain ⟨⟨D, a5, a6⟩, a7⟩ := h
  obtain ⟨w', h1, h2, h3⟩ := a5.update keyedSI Tryz.underlying122 (by unfold maxLen; omega) (keyOfSI hk) (val := .pointer (some ⟨s, 0, none⟩)) (d := vP s) (ps := []) rfl
  have h6 := a6.put kLSI_inj (a5.tidy keyedSI) k (kLSI_key k) s
  refine ⟨w', h1, ⟨⟨_, by rw [← h6.size]; exact owns_tightP h2, h6⟩, fun p hp => ?_⟩, (Fr.refl _ w).grown h3 fun j e => by cases e; exact .inr rfl⟩
  rcases mem_setM.1 hp with ⟨hp, _⟩ | rfl
  · exact a7 p hp
  · exact hk
theorem mdelSI {w : World} {b : Nat} {S : List (List UInt8 × Nat)} (h : OwnMSI w b S) {k : List UInt8} (hk : OkKSI k) (ty : TypeId) :
    ∃ w', (Builtin.delete_ #[122, 9] ty #[.map (some b), kVSI k]).run Tryz.prog w = .ok (.tuple #[]) w' ∧ OwnMSI w' b (delM S k) ∧ Fr (fun j => j = b) w w' := by
  obtain ⟨⟨D, a5, a6⟩, a7⟩ := h
  obtain ⟨w', h1, h2, h3⟩ := a5.drop keyedSI Tryz.underlying122 (keyOfSI hk) ty
  have h6 := a6.del kLSI_inj (a5.tidy keyedSI) k
  exact ⟨w', h1, ⟨⟨_, by rw [← h6.size]; exact owns_tightP h2, h6⟩, fun p hp => a7 p (mem_delM.1 hp).1⟩, (Fr.refl _ w).grown h3.grown fun j e => by cases e; exact .inr rfl⟩
/-- a map of sets as it lies -/
def MapStSI (base : Nat) (w : World) (b : Nat) (T : List (List UInt8 × SetE (Int))) : Prop :=
  base ≤ b ∧ OwnMSI w b (kp T) ∧ (∀ p ∈ T, SetAt base w p.2.s p.2.ob p.2.xs ∧ base ≤ p.2.s ∧ p.2.s ≠ b ∧ p.2.ob ≠ some b) ∧ AprT T
theorem setLtSI {base : Nat} {w : World} {s : Nat} {ob : Option Nat} {xs : List (Int)} (h : SetAt base w s ob xs) : s < w.heap.size ∧ ∀ g, ob = some g → base ≤ g ∧ g < w.heap.size := by
  obtain ⟨⟨v, a, rfl, b⟩, c, d⟩ := h
  exact ⟨blk_lt a, fun g hg => b.lt g hg⟩
theorem blPSI_lt {base : Nat} {w : World} {b : Nat} {T : List (List UInt8 × SetE (Int))} (h : MapStSI base w b T) {j : Nat} (hj : BlP b T j) : base ≤ j ∧ j < w.heap.size := by
  obtain ⟨h1, h2, h3, h4⟩ := h
  rcases hj with rfl | ⟨p, hp, rfl | e⟩
  · exact ⟨h1, ownMSI_lt h2⟩
  · exact ⟨(h3 p hp).2.1, (setLtSI (h3 p hp).1).1⟩
  · exact (setLtSI (h3 p hp).1).2 j e
theorem mapStSI_same {base : Nat} {w w' : World} {b : Nat} {T : List (List UInt8 × SetE (Int))} (h : MapStSI base w b T) (hs : ∀ j, BlP b T j → w'.heap[j]? = w.heap[j]?) : MapStSI base w' b T := by
  obtain ⟨h1, h2, h3, h4⟩ := h
  exact ⟨h1, ownMSI_same h2 (hs b (.inl rfl)), fun p hp => ⟨set_kept (h3 p hp).1 (hs _ (.inr ⟨p, hp, .inl rfl⟩)) fun g hg => hs g (.inr ⟨p, hp, .inr hg⟩), (h3 p hp).2⟩, h4⟩
theorem mapStSI_fr {base : Nat} {w w' : World} {b : Nat} {T : List (List UInt8 × SetE (Int))} {X : Nat → Prop} (h : MapStSI base w b T) (hf : Fr X w w') (hx : ∀ j, BlP b T j → ¬ X j) : MapStSI base w' b T :=
  mapStSI_same h fun j hj => hf.block j (blPSI_lt h hj).2 (hx j hj)
theorem mapStSI_nodup {base : Nat} {w : World} {b : Nat} {T : List (List UInt8 × SetE (Int))} (h : MapStSI base w b T) : (T.map (·.1)).Nodup := by
  have := ownMSI_nodup h.2.1
  unfold kp at this
  rwa [List.map_map] at this
/-- no set is empty -/
def NeTSI (T : List (List UInt8 × SetE (Int))) : Prop := ∀ p ∈ T, p.2.xs ≠ []
/-- under one key stands something else now -/
def PutPSI (base b : Nat) (T : List (List UInt8 × SetE (Int))) (k : List UInt8) (zs : List (Int)) (w w' : World) : Prop :=
  ∃ T', MapStSI base w' b T' ∧ (∀ j, lk T' j = if j = k then zs else lk T j) ∧ (NeTSI T → NeTSI T') ∧ Fr (BlP b T) w w' ∧ (∀ j, BlP b T' j → BlP b T j ∨ w.heap.size ≤ j) ∧ T'.length ≤ T.length + 1
/-- a set under a key turned, by a call that writes its blocks alone -/
theorem turnSI {base : Nat} {w1 w' : World} {b : Nat} {T : List (List UInt8 × SetE (Int))} (h : MapStSI base w1 b T) {k : List UInt8} {e : SetE (Int)} (hl : lookM T k = some e) {ob' : Option Nat} {zs : List (Int)}
    (hs : SetAt base w' e.s ob' zs) (hnew : ∀ g, ob' = some g → g < w1.heap.size → e.ob = some g) (hf : Fr (fun j => j = e.s ∨ e.ob = some j) w1 w') :
    MapStSI base w' b (setM T k ⟨e.s, ob', zs⟩) ∧ (∀ j, BlP b (setM T k ⟨e.s, ob', zs⟩) j → BlP b T j ∨ w1.heap.size ≤ j) := by
  obtain ⟨h1, h2, h3, h4⟩ := h
  have hm := lookM_memP hl
  have hne : ∀ p ∈ T, p.1 ≠ k → AprE p.2 e := fun p hp hpk => h4 p hp (k, e) hm hpk
  have hob : ∀ g, ob' = some g → e.ob = some g ∨ w1.heap.size ≤ g := fun g hg => by
    rcases Nat.lt_or_ge g w1.heap.size with h | h
    · exact .inl (hnew g hg h)
    · exact .inr h
  have hsz := fun p hp => setLtSI (h3 p hp).1
  have hbl := ownMSI_lt h2
  refine ⟨⟨h1, ?_, fun p hp => ?_, aprT_set h4 fun p hp hpk => ?_⟩, fun j hj => ?_⟩
  · rw [kp_set]
    refine ownMSI_move (ownMSI_same h2 (hf.block b hbl ?_)) (by rw [kp_look, hl]; rfl)
    rintro (e1 | e1)
    · exact (h3 _ hm).2.2.1 e1.symm
    · exact (h3 _ hm).2.2.2 e1
  · rcases mem_setM.1 hp with ⟨hp, hpk⟩ | rfl
    · have ha := hne p hp hpk
      refine ⟨set_kept (h3 p hp).1 (hf.block _ (hsz p hp).1 ?_) fun g hg => hf.block g ((hsz p hp).2 g hg).2 ?_, (h3 p hp).2⟩
      · rintro (e1 | e1)
        · exact ha.1 e1
        · exact ha.2.2.1 e1
      · rintro (e1 | e1)
        · exact ha.2.1 (e1 ▸ hg)
        · exact ha.2.2.2 g hg e1
    · refine ⟨hs, (h3 _ hm).2.1, (h3 _ hm).2.2.1, fun e1 => ?_⟩
      rcases hob b e1 with e2 | e2
      · exact (h3 _ hm).2.2.2 e2
      · omega
  · have ha := hne p hp hpk
    refine ⟨ha.1, ha.2.1, fun e1 => ?_, fun g hg e1 => ?_⟩
    · rcases hob _ e1 with e2 | e2
      · exact ha.2.2.1 e2
      · have := (hsz p hp).1; omega
    · rcases hob _ e1 with e2 | e2
      · exact ha.2.2.2 g hg e2
      · have := ((hsz p hp).2 g hg).2; omega
  · rcases hj with rfl | ⟨p, hp, hj⟩
    · exact .inl (.inl rfl)
    · rcases mem_setM.1 hp with ⟨hp, _⟩ | rfl
      · exact .inl (.inr ⟨p, hp, hj⟩)
      · rcases hj with rfl | hj
        · exact .inl (.inr ⟨(k, e), hm, .inl rfl⟩)
        · rcases hob j hj with e2 | e2
          · exact .inl (.inr ⟨(k, e), hm, .inr e2⟩)
          · exact .inr e2
end Go.Proofs.YtlkeomcillencaaGreat
end
section
/- Layer 11: maps of strings to sets of ints: fill, empty. -/
namespace Go.Proofs.YtlkeomcillencaaGreat
open Go Go.RowKit Go.Maps Go.Lib

theorem set_baseSI {b0 b1 : Nat} {w : World} {s : Nat} {ob : Option Nat} {xs : List (Int)} (h : SetAt b1 w s ob xs) (hb : b0 ≤ b1) : SetAt b0 w s ob xs := by
  obtain ⟨⟨v, h1, h2, h3⟩, h4, h5⟩ := h
  exact ⟨⟨v, h1, h2, row_baseP h3 hb⟩, h4, h5⟩
/-- a new empty set under a key that had none -/
theorem newSI {base : Nat} {w w1 : World} {b : Nat} {T : List (List UInt8 × SetE (Int))} (h : MapStSI base w b T) {k : List UInt8} {s : Nat} {ob : Option Nat} (hs : SetAt w.heap.size w1 s ob []) (hsz : w.heap.size ≤ s) (hbw : base ≤ w.heap.size) (hf : Fr (fun _ => False) w w1) :
    (∀ w2, OwnMSI w2 b (setM (kp T) k s) → Fr (fun j => j = b) w1 w2 → MapStSI base w2 b (setM T k ⟨s, ob, []⟩)) ∧ ∀ j, BlP b (setM T k ⟨s, ob, []⟩) j → BlP b T j ∨ w.heap.size ≤ j := by
  have hlt : ∀ {j}, BlP b T j → j < w.heap.size := fun hj => (blPSI_lt h hj).2
  have h' := mapStSI_fr h hf fun _ _ e => e
  obtain ⟨h1, h2, h3, h4⟩ := h'
  have hob : ∀ g, ob = some g → w.heap.size ≤ g := fun g hg => ((setLtSI hs).2 g hg).1
  refine ⟨fun w2 ho hf2 => ⟨h1, by rw [kp_set]; exact ho, fun p hp => ?_, aprT_set h4 fun p hp hpk => ?_⟩, fun j hj => ?_⟩
  · rcases mem_setM.1 hp with ⟨hp, hpk⟩ | rfl
    · obtain ⟨a1, a2, a3, a4⟩ := h3 p hp
      exact ⟨set_kept a1 (hf2.block _ (setLtSI a1).1 a3) fun g hg => hf2.block g ((setLtSI a1).2 g hg).2 (fun e => a4 (e ▸ hg)), a2, a3, a4⟩
    · have hb := hlt (.inl rfl : BlP b T b)
      refine ⟨set_kept (set_baseSI hs hbw) (hf2.block _ (setLtSI hs).1 (fun e => by have e : s = b := e; omega)) fun g hg => hf2.block g ((setLtSI hs).2 g hg).2 (by have := hob g hg; omega), Nat.le_trans hbw hsz, fun e => by have e : s = b := e; omega, fun e => ?_⟩
      have := hob b e; omega
  · have q1 := hlt (.inr ⟨p, hp, .inl rfl⟩ : BlP b T p.2.s)
    have q2 := fun g (hg : p.2.ob = some g) => hlt (.inr ⟨p, hp, .inr hg⟩ : BlP b T g)
    refine ⟨fun e => by have e : p.2.s = s := e; omega, fun e => ?_, fun e => ?_, fun g hg e => ?_⟩
    · have := q2 s e; omega
    · have := hob _ e; omega
    · have := q2 _ hg; have := hob _ e; omega
  · rcases hj with rfl | ⟨p, hp, hj⟩
    · exact .inl (.inl rfl)
    · rcases mem_setM.1 hp with ⟨hp, _⟩ | rfl
      · exact .inl (.inr ⟨p, hp, hj⟩)
      · rcases hj with rfl | hj
        · exact .inr hsz
        · exact .inr (hob j hj)
theorem lkUpSI {base : Nat} {w : World} {b : Nat} {T : List ((List UInt8) × SetE (Int))} (h : MapStSI base w b T) (k : List UInt8) : (lk T k).Pairwise (· < ·) := by
  unfold lk
  cases hl : lookM T k with
  | none => exact List.Pairwise.nil
  | some e => exact (h.2.2.1 _ (lookM_memP hl)).1.2.2
theorem mapSt_baseSI {b0 b1 : Nat} {w : World} {b : Nat} {T : List (List UInt8 × SetE (Int))} (h : MapStSI b1 w b T) (hb : b0 ≤ b1) : MapStSI b0 w b T :=
  ⟨Nat.le_trans hb h.1, h.2.1, fun p hp => ⟨set_baseSI (h.2.2.1 p hp).1 hb, Nat.le_trans hb (h.2.2.1 p hp).2.1, (h.2.2.1 p hp).2.2⟩, h.2.2.2⟩
theorem made_stSI {base : Nat} {w : World} {b : Nat} (hb : base ≤ b) (h : ∃ n, w.ownsMap Tryz.prog 9 ptrE b n (.map [] : DataW Unit) ∧ n = 0) : MapStSI base w b [] := by
  obtain ⟨n, h, rfl⟩ := h
  exact ⟨hb, ⟨⟨.map [], h, mapHas_empty _ _⟩, (fun p hp => by cases hp)⟩, (fun p hp => by cases hp), (fun p hp => by cases hp)⟩
theorem lk_noneSI {T : List (List UInt8 × SetE (Int))} {k : List UInt8} (h : lookM T k = none) : lk T k = [] := by unfold lk; rw [h]
theorem lk_someSI {T : List (List UInt8 × SetE (Int))} {k : List UInt8} {e : SetE (Int)} (h : lookM T k = some e) : lk T k = e.xs := by unfold lk; rw [h]
theorem lkHasSI {T : List ((List UInt8) × SetE (Int))} {a : List UInt8} {b : Int} (h : b ∈ lk T a) : ∃ e, lookM T a = some e ∧ e.xs = lk T a := by
  unfold lk at h ⊢
  cases hl : lookM T a with
  | none => rw [hl] at h; cases h
  | some e => exact ⟨e, rfl, rfl⟩
theorem insAll1SI (xs : List (Int)) (x : Int) : insAll xs [x] = insI xs x := rfl
theorem delAll1SI (xs : List (Int)) (x : Int) : delAll xs [x] = delI xs x := rfl
theorem insNeSI (xs : List (Int)) (x : Int) : insI xs x ≠ [] := fun e => by
  have := insI_len xs x
  rw [e] at this
  split at this
  · rename_i h; simp only [List.length_nil] at this
    have := List.eq_nil_of_length_eq_zero this.symm
    subst this; simp at h
  · simp at this
theorem neT_setSI {T : List (List UInt8 × SetE (Int))} (h : NeTSI T) {k : List UInt8} {e : SetE (Int)} (he : e.xs ≠ []) : NeTSI (setM T k e) := fun p hp => by
  rcases mem_setM.1 hp with ⟨hp, _⟩ | rfl
  · exact h p hp
  · exact he
set_option maxRecDepth 100000 in
set_option maxHeartbeats 4000000 in
theorem fillSI {base : Nat} {w : World} {b : Nat} {T : List (List UInt8 × SetE (Int))} (h : MapStSI base w b T) (hbw : base ≤ w.heap.size) {k : List UInt8} (hk : OkKSI k) (x : Int) (hT : T.length ≤ 100000) (hl : (lk T k).length ≤ 100000) :
    Calls Tryz.prog 77 #[.map (some b), .string (bs k), .int .i64 x] w fun e w' => e = .returned (.tuple #[]) ∧ PutPSI base b T k (insI (lk T k) x) w w' := by
  have hlook := mlookSI h.2.1 hk
  rw [kp_look] at hlook
  cases hlk : lookM T k with
  | none =>
    rw [hlk] at hlook
    simp only [Option.map_none] at hlook
    have HOf := Lib.hid (set_of_none w)
    have HH := Lib.hid h
    have HK := Lib.hid hk
    have hlk0 := Lib.hid hlk
    have hl0 := lk_noneSI hlk
    rw [hl0]
    have HL0 := Lib.hid hl0
    unfold kVSI at hlook
    clear hlk h hk hl0
    go_enter Tryz.func77, Tryz.ntmps77
    go_wp2_with fail
    refine HOf.out.mono ?_
    rintro e w1 ⟨⟨s, ob, rfl, hs, hsz⟩, hb1⟩
    have hf1 := Fr.of_below (X := fun _ => False) hb1
    have ho1 := ownMSI_same HH.out.2.1 (hf1.block b (ownMSI_lt HH.out.2.1) fun e => e)
    obtain ⟨w2, hput, ho2, hf2⟩ := mputSI ho1 HK.out s (by rw [kp_len]; omega)
    obtain ⟨hm, hbl⟩ := newSI (k := k) HH.out hs hsz hbw hf1
    have hm2 := hm w2 ho2 hf2
    have hlook2 := mlookSI hm2.2.1 HK.out
    rw [kp_look, lookM_set, if_pos rfl] at hlook2
    simp only [Option.map_some] at hlook2
    unfold kVSI at hput hlook2
    obtain ⟨w3, hw3⟩ : ∃ w3, w2.alloc (Obj.cells #[.int .i64 x] 3) = w3 := ⟨_, rfl⟩
    have hf3 : Fr (fun _ => False) w2 w3 := by rw [← hw3]; exact (Fr.refl _ w2).alloc _
    have hm3 := mapStSI_fr hm2 hf3 fun _ _ e => e
    have hn3 : w3.heap[w2.heap.size]? = some (.cells #[.int .i64 x] 3 (0, 0)) := by rw [← hw3]; exact heap_alloc_new w2 _
    have hz3 := blk_lt hn3
    have hmem : (k, (⟨s, ob, []⟩ : SetE (Int))) ∈ setM T k ⟨s, ob, []⟩ := mem_setM.2 (.inr rfl)
    have hset3 := (hm3.2.2.1 _ hmem).1
    have hz12 := hf2.size
    have hz01 := hf1.size
    have hlts := (setLtSI hs).1
    have hltg := (setLtSI hs).2
    have HAdd := Lib.hid (set_add hset3 (by have := hf3.size; omega) (some ⟨w2.heap.size, 0, none⟩) [x] 1 (by simp) (fun _ => ⟨_, _, rfl, hz3, by simp only []; omega, fun e => by have := (hltg _ e).2; omega, fun j hj => by
      obtain rfl : j = 0 := by simp at hj; omega
      exact blk_cell hn3 0⟩))
    have H := Lib.hid (And.intro hm3 (And.intro hbl (And.intro hf1 (And.intro hf2 hf3))))
    have HW := Lib.hid hw3
    clear hw3 hm3 hbl hf1 hf2 hf3 hm hm2 ho1 ho2 hb1 hs hn3 hz3 hset3 hmem hltg
    go_wp2_with fail
    rw [HW.out]
    refine HAdd.out.mono ?_
    rintro e w4 ⟨rfl, ob', hs4, hn4, hf4⟩
    obtain ⟨hm3, hbl, hf1, hf2, hf3⟩ := H.out
    obtain ⟨hm4, hbl4⟩ := turnSI hm3 (k := k) (e := ⟨s, ob, []⟩) (by rw [lookM_set, if_pos rfl]) hs4 hn4 hf4
    have hlen : (setM (setM T k ⟨s, ob, []⟩) k (⟨s, ob', insAll [] [x]⟩ : SetE (Int))).length ≤ T.length + 1 := by rw [setM_setM]; exact len_setP _ _ _
    have hP : PutPSI base b T k (insI [] x) w w4 := by
      refine ⟨_, hm4, fun j => ?_, fun hne => ?_, ?_, fun j hj => ?_, hlen⟩
      · rw [lk_set, lk_set]
        by_cases e : j = k
        · rw [if_pos e, if_pos e]; rfl
        · rw [if_neg e, if_neg e, if_neg e]
      · rw [setM_setM]
        exact neT_setSI hne (insNeSI [] x)
      · refine (((hf1.mono fun _ _ e => e.elim : Fr (BlP b T) w w1).trans3 hf2 fun j hj e => ?_).trans3 hf3 fun j hj e => e.elim).trans3 hf4 fun j hj e => ?_
        · subst e; exact .inl rfl
        · rcases e with rfl | e
          · omega
          · have := (hbl j (.inr ⟨_, mem_setM.2 (.inr rfl), .inr e⟩)).resolve_right (by omega)
            exact this
      · rcases hbl4 j hj with e | e
        · exact hbl j e
        · exact .inr (by have := hf3.size; omega)
    have HP := Lib.hid hP
    clear hP hm4 hbl4 hlen hm3 hbl hf1 hf2 hf3 hs4 hn4 hf4
    go_wp2_with fail
    go_end0
    exact ⟨rfl, HP.out⟩
  | some e =>
    rw [hlk] at hlook
    simp only [Option.map_some] at hlook
    rw [lk_someSI hlk] at hl ⊢
    have hmem := lookM_memP hlk
    obtain ⟨w3, hw3⟩ : ∃ w3, w.alloc (Obj.cells #[.int .i64 x] 3) = w3 := ⟨_, rfl⟩
    have hf3 : Fr (fun _ => False) w w3 := by rw [← hw3]; exact (Fr.refl _ w).alloc _
    have hm3 := mapStSI_fr h hf3 fun _ _ e => e
    have hn3 : w3.heap[w.heap.size]? = some (.cells #[.int .i64 x] 3 (0, 0)) := by rw [← hw3]; exact heap_alloc_new w _
    have hz3 := blk_lt hn3
    have hset3 := (hm3.2.2.1 _ hmem).1
    have hlts := (setLtSI (h.2.2.1 _ hmem).1).1
    have hltg := (setLtSI (h.2.2.1 _ hmem).1).2
    have HAdd := Lib.hid (set_add hset3 (by omega) (some ⟨w.heap.size, 0, none⟩) [x] 1 (by simp only [List.length_singleton]; omega) (fun _ => ⟨_, _, rfl, hz3, fun e1 => by have e1 : w.heap.size = e.s := e1; have hlts : e.s < w.heap.size := hlts; omega, fun e1 => by have := (hltg _ e1).2; omega, fun j hj => by
      obtain rfl : j = 0 := by simp at hj; omega
      exact blk_cell hn3 0⟩))
    obtain ⟨es, eob, exs⟩ := e
    have H := Lib.hid (And.intro hm3 (And.intro hlk hf3))
    have HW := Lib.hid hw3
    unfold kVSI at hlook
    clear hw3 hm3 hf3 hn3 hz3 hset3 hmem hltg hlk h hlts
    dsimp only [] at HAdd hlook hl
    dsimp only []
    go_enter Tryz.func77, Tryz.ntmps77
    go_wp2_with fail
    rw [HW.out]
    refine HAdd.out.mono ?_
    rintro e w4 ⟨rfl, ob', hs4, hn4, hf4⟩
    obtain ⟨hm3, hlk, hf3⟩ := H.out
    obtain ⟨hm4, hbl4⟩ := turnSI hm3 (k := k) (e := ⟨es, eob, exs⟩) hlk hs4 hn4 hf4
    have hmem := lookM_memP hlk
    have hP : PutPSI base b T k (insI exs x) w w4 := by
      refine ⟨_, hm4, fun j => ?_, fun hne => ?_, ?_, fun j hj => ?_, len_setP _ _ _⟩
      · rw [lk_set]; rfl
      · exact neT_setSI hne (insNeSI exs x)
      · refine (hf3.mono fun _ _ e => e.elim : Fr (BlP b T) w w3).trans3 hf4 fun j hj e => ?_
        rcases e with rfl | e
        · exact .inr ⟨_, hmem, .inl rfl⟩
        · exact .inr ⟨_, hmem, .inr e⟩
      · rcases hbl4 j hj with e | e
        · exact .inl e
        · exact .inr (by have := hf3.size; omega)
    have HP := Lib.hid hP
    clear hP hm4 hbl4 hm3 hf3 hs4 hn4 hf4 hlk hmem
    go_wp2_with fail
    go_end0
    exact ⟨rfl, HP.out⟩
theorem delStSI {base : Nat} {w w' : World} {b : Nat} {T : List (List UInt8 × SetE (Int))} (h : MapStSI base w b T) {k : List UInt8} (ho : OwnMSI w' b (delM (kp T) k)) (hf : Fr (fun j => j = b) w w') : MapStSI base w' b (delM T k) := by
  obtain ⟨h1, h2, h3, h4⟩ := h
  refine ⟨h1, by rw [kp_del]; exact ho, fun p hp => ?_, aprT_del h4 k⟩
  obtain ⟨a1, a2, a3, a4⟩ := h3 p (mem_delM.1 hp).1
  exact ⟨set_kept a1 (hf.block _ (setLtSI a1).1 a3) fun g hg => hf.block g ((setLtSI a1).2 g hg).2 (fun e => a4 (e ▸ hg)), a2, a3, a4⟩
set_option maxRecDepth 100000 in
set_option maxHeartbeats 4000000 in
theorem emptySI {base : Nat} {w : World} {b : Nat} {T : List (List UInt8 × SetE (Int))} (h : MapStSI base w b T) (hbw : base ≤ w.heap.size) {k : List UInt8} (hk : OkKSI k) (x : Int) {e : SetE (Int)} (hlk : lookM T k = some e) (hl : e.xs.length ≤ 100000) :
    Calls Tryz.prog 69 #[.map (some b), .string (bs k), .int .i64 x] w fun e' w' => e' = .returned (.tuple #[]) ∧ PutPSI base b T k (delI (lk T k) x) w w' := by
  have hlook := mlookSI h.2.1 hk
  rw [kp_look] at hlook
  rw [hlk] at hlook
  simp only [Option.map_some] at hlook
  rw [lk_someSI hlk]
  have hmem := lookM_memP hlk
  obtain ⟨w3, hw3⟩ : ∃ w3, w.alloc (Obj.cells #[.int .i64 x] 3) = w3 := ⟨_, rfl⟩
  have hf3 : Fr (fun _ => False) w w3 := by rw [← hw3]; exact (Fr.refl _ w).alloc _
  have hm3 := mapStSI_fr h hf3 fun _ _ e => e
  have hn3 : w3.heap[w.heap.size]? = some (.cells #[.int .i64 x] 3 (0, 0)) := by rw [← hw3]; exact heap_alloc_new w _
  have hz3 := blk_lt hn3
  have hset3 := (hm3.2.2.1 _ hmem).1
  have hlts := (setLtSI (h.2.2.1 _ hmem).1).1
  have hltg := (setLtSI (h.2.2.1 _ hmem).1).2
  have HRem := Lib.hid (set_rem hset3 (by omega) (some ⟨w.heap.size, 0, none⟩) [x] 1 (by dsimp only []; omega) (by simp) (fun _ => ⟨_, _, rfl, hz3, fun e1 => by have e1 : w.heap.size = e.s := e1; have hlts : e.s < w.heap.size := hlts; omega, fun e1 => by have := (hltg _ e1).2; omega, fun j hj => by
    obtain rfl : j = 0 := by simp at hj; omega
    exact blk_cell hn3 0⟩))
  obtain ⟨es, eob, exs⟩ := e
  have HK := Lib.hid hk
  have H := Lib.hid (And.intro hm3 (And.intro hlk hf3))
  have HW := Lib.hid hw3
  unfold kVSI at hlook
  clear hw3 hm3 hf3 hn3 hz3 hset3 hmem hltg hlk h hlts hk
  dsimp only [] at HRem hlook hl
  dsimp only []
  obtain ⟨zs, hzs⟩ : ∃ zs, delI exs x = zs := ⟨_, rfl⟩
  rw [hzs]
  have HZ := Lib.hid hzs
  clear hzs
  go_enter Tryz.func69, Tryz.ntmps69
  go_wp2_with fail
  rw [HW.out]
  refine HRem.out.mono ?_
  rintro e w4 ⟨rfl, ob', hs4, hn4, hf4⟩
  obtain ⟨hm3, hlk, hf3⟩ := H.out
  obtain ⟨hm4, hbl4⟩ := turnSI hm3 (k := k) (e := ⟨es, eob, exs⟩) hlk hs4 hn4 hf4
  have hmem := lookM_memP hlk
  rw [delAll1SI, HZ.out] at hs4 hm4 hbl4
  have hlook4 := mlookSI hm4.2.1 HK.out
  rw [kp_look, lookM_set, if_pos rfl] at hlook4
  simp only [Option.map_some] at hlook4
  unfold kVSI at hlook4
  have hlen := set_len hs4
  have hfr : Fr (BlP b T) w w4 := (hf3.mono fun _ _ e => e.elim : Fr (BlP b T) w w3).trans3 hf4 fun j hj e => by
    rcases e with rfl | e
    · exact .inr ⟨_, hmem, .inl rfl⟩
    · exact .inr ⟨_, hmem, .inr e⟩
  have hbl : ∀ j, BlP b (setM T k ⟨es, ob', zs⟩) j → BlP b T j ∨ w.heap.size ≤ j := fun j hj => by
    rcases hbl4 j hj with e | e
    · exact .inl e
    · exact .inr (by have := hf3.size; omega)
  have HL := Lib.hid hlen
  by_cases h0 : zs.length = 0
  · obtain rfl := List.eq_nil_of_length_eq_zero h0
    obtain ⟨w5, hdel, ho5, hf5⟩ := mdelSI hm4.2.1 HK.out 0
    have hP : PutPSI base b T k [] w w5 := by
      refine ⟨_, delStSI hm4 ho5 hf5, fun j => ?_, fun hne p hp => ?_, hfr.trans3 hf5 fun j hj e => e ▸ .inl rfl, fun j hj => ?_, ?_⟩
      · rw [lk_del, lk_set]
        by_cases e : j = k
        · simp only [if_pos e]
        · simp only [if_neg e]
      · obtain ⟨hp, hpk⟩ := mem_delM.1 hp
        rcases mem_setM.1 hp with ⟨hp, _⟩ | rfl
        · exact hne p hp
        · exact absurd rfl hpk
      · refine hbl j ?_
        rcases hj with rfl | ⟨p, hp, hj⟩
        · exact .inl rfl
        · exact .inr ⟨p, (mem_delM.1 hp).1, hj⟩
      · exact Nat.le_trans (List.length_filter_le _ _) (len_setP T k (⟨es, ob', []⟩ : SetE (Int)))
    have HP := Lib.hid hP
    unfold kVSI at hdel
    clear hP hm4 hbl4 hm3 hf3 hs4 hn4 hf4 hlk hmem hfr hbl hlen ho5 hf5 h0
    go_wp2_with fail
    refine HL.out.mono ?_
    rintro e w6 ⟨rfl, rfl⟩
    go_wp2_with fail
    go_end0
    exact ⟨rfl, HP.out⟩
  · have hd : ((zs.length : Int) == 0) = false := by rw [beq_eq_false_iff_ne]; omega
    have hP : PutPSI base b T k zs w w4 := by
      refine ⟨_, hm4, fun j => ?_, fun hne => ?_, hfr, hbl, len_setP _ _ _⟩
      · rw [lk_set]
      · exact neT_setSI hne (fun e => h0 (by rw [show zs = [] from e]; rfl))
    have HP := Lib.hid hP
    clear hP hm4 hbl4 hm3 hf3 hs4 hn4 hf4 hlk hmem hfr hbl hlen h0
    go_wp2_with fail
    refine HL.out.mono ?_
    rintro e w6 ⟨rfl, rfl⟩
    go_wp2_with fail
    go_end0
    exact ⟨rfl, HP.out⟩
end Go.Proofs.YtlkeomcillencaaGreat
end
