/- Layer 10: mathematics: each once, rising. -/
import Derived.Test.YteiiaocohpbanaaSetJ
namespace Go.Proofs.Yteiiaocohpbanaa
set_option linter.unusedVariables false
set_option linter.unusedSimpArgs false
open Go Go.RowKit Go.Lib Go.Sort Go.Shelf

theorem up_ext : ∀ {a b : List Int}, a.Pairwise (· < ·) → b.Pairwise (· < ·) → (∀ x, x ∈ a ↔ x ∈ b) → a = b
  | [], [], _, _, _ => rfl
  | [], y :: b, _, _, h => by have := (h y).2 (by simp); simp at this
  | x :: a, [], _, _, h => by have := (h x).1 (by simp); simp at this
  | x :: a, y :: b, ha, hb, h => by
    rw [List.pairwise_cons] at ha hb
    have e : x = y := by
      have h1 := (h x).1 (by simp)
      have h2 := (h y).2 (by simp)
      rcases List.mem_cons.1 h1 with h1 | h1
      · exact h1
      · rcases List.mem_cons.1 h2 with h2 | h2
        · exact h2.symm
        · have := ha.1 y h2; have := hb.1 x h1; omega
    subst e
    congr 1
    refine up_ext ha.2 hb.2 fun z => ⟨fun hz => ?_, fun hz => ?_⟩
    · rcases List.mem_cons.1 ((h z).1 (List.mem_cons_of_mem _ hz)) with e | e
      · subst e; have := ha.1 _ hz; omega
      · exact e
    · rcases List.mem_cons.1 ((h z).2 (List.mem_cons_of_mem _ hz)) with e | e
      · subst e; have := hb.1 _ hz; omega
      · exact e

theorem compactUpTo_succ (d : Array Int) (m : Nat) : compactUpTo d (m + 1) = compactUpTo d m ++ if keeps d m then [d[m]!] else [] := by
  unfold compactUpTo
  rw [List.range_succ, List.filter_append, List.map_append]
  congr 1
  by_cases h : keeps d m <;> simp [h]
theorem compact_ok (d : Array Int) (hs : ∀ i j, i ≤ j → j < d.size → d[i]! ≤ d[j]!) : ∀ m, m ≤ d.size → (compactUpTo d m).Pairwise (· < ·) ∧ ∀ x, x ∈ compactUpTo d m ↔ ∃ j, j < m ∧ d[j]! = x
  | 0, _ => ⟨by simp [compactUpTo], fun x => by simp [compactUpTo]⟩
  | m + 1, hm => by
    obtain ⟨h1, h2⟩ := compact_ok d hs m (by omega)
    rw [compactUpTo_succ]
    by_cases hk : keeps d m = true
    · rw [if_pos hk]
      refine ⟨List.pairwise_append.2 ⟨h1, by simp, fun y hy z hz => ?_⟩, fun x => ?_⟩
      · obtain ⟨j, hj, rfl⟩ := (h2 y).1 hy
        rw [List.mem_singleton] at hz
        subst hz
        simp only [keeps, decide_eq_true_eq] at hk
        rcases hk with hk | hk
        · omega
        · have a1 := hs j (m - 1) (by omega) (by omega)
          have a2 := hs (m - 1) m (by omega) (by omega)
          omega
      · rw [List.mem_append, h2, List.mem_singleton]
        constructor
        · rintro (⟨j, hj, h⟩ | h)
          · exact ⟨j, by omega, h⟩
          · exact ⟨m, by omega, h.symm⟩
        · rintro ⟨j, hj, h⟩
          by_cases e : j = m
          · subst e; exact .inr h.symm
          · exact .inl ⟨j, by omega, h⟩
    · rw [if_neg hk, List.append_nil]
      refine ⟨h1, fun x => ?_⟩
      rw [h2]
      simp only [keeps, decide_eq_true_eq, not_or, Decidable.not_not] at hk
      constructor
      · rintro ⟨j, hj, h⟩; exact ⟨j, by omega, h⟩
      · rintro ⟨j, hj, h⟩
        by_cases e : j = m
        · subst e; exact ⟨j - 1, by omega, hk.2.symm.trans h⟩
        · exact ⟨j, by omega, h⟩
theorem compact_up {zs : List Int} (h : zs.Pairwise (· ≤ ·)) : (compact zs).Pairwise (· < ·) ∧ ∀ x, x ∈ compact zs ↔ x ∈ zs := by
  have hs : ∀ i j, i ≤ j → j < zs.toArray.size → zs.toArray[i]! ≤ zs.toArray[j]! := fun i j hij hj => by
    simp only [List.size_toArray] at hj
    rw [getElem!_pos zs.toArray i (by simp; omega), getElem!_pos zs.toArray j (by simpa using hj)]
    by_cases e : i = j
    · subst e; exact Int.le_refl _
    · have := List.pairwise_iff_getElem.1 h i j (by omega) hj (by omega)
      simpa using this
  obtain ⟨h1, h2⟩ := compact_ok zs.toArray hs zs.length (by simp)
  refine ⟨h1, fun x => (h2 x).trans ⟨?_, fun hx => ?_⟩⟩
  · rintro ⟨j, hj, rfl⟩
    rw [getElem!_pos zs.toArray j (by simpa using hj)]
    simp
  · obtain ⟨j, hj, e⟩ := List.getElem_of_mem hx
    exact ⟨j, hj, by rw [getElem!_pos zs.toArray j (by simpa using hj)]; simpa using e⟩
theorem normI_ok (xs : List Int) : (normI xs).Pairwise (· < ·) ∧ ∀ x, x ∈ normI xs ↔ x ∈ xs := by
  have h := List.pairwise_mergeSort (le := fun (x y : Int) => decide (x ≤ y)) (fun a b c h1 h2 => by simp at *; omega) (fun a b => by simp; omega) xs
  obtain ⟨h1, h2⟩ := compact_up (zs := xs.mergeSort fun x y => decide (x ≤ y)) (h.imp fun h => by simpa using h)
  exact ⟨h1, fun x => (h2 x).trans List.mem_mergeSort⟩
theorem insI_mem (xs : List Int) (y x : Int) : x ∈ insI xs y ↔ x = y ∨ x ∈ xs := by
  unfold insI
  split
  · next h =>
    constructor
    · exact .inr
    · rintro (rfl | h2)
      · simpa using h
      · exact h2
  · conv => rhs; rw [← List.take_append_drop (xs.countP (· < y)) xs]
    simp only [List.mem_append, List.mem_cons]
    constructor
    · rintro (h | h | h)
      · exact .inr (.inl h)
      · exact .inl h
      · exact .inr (.inr h)
    · rintro (h | h | h)
      · exact .inr (.inl h)
      · exact .inl h
      · exact .inr (.inr h)
theorem insAll_mem (xs : List Int) (x : Int) : ∀ ls : List Int, x ∈ insAll xs ls ↔ x ∈ xs ∨ x ∈ ls := by
  refine snoc_ind ?_ ?_
  · simp [insAll]
  · intro l y ih
    rw [insAll_snoc, insI_mem, ih, List.mem_append, List.mem_singleton]
    constructor
    · rintro (h | h | h)
      · exact .inr (.inr h)
      · exact .inl h
      · exact .inr (.inl h)
    · rintro (h | h | h)
      · exact .inr (.inl h)
      · exact .inr (.inr h)
      · exact .inl h
theorem normI_ins (xs : List Int) : normI xs = insAll [] xs :=
  up_ext (normI_ok xs).1 (insAll_up List.Pairwise.nil xs) fun x => by rw [(normI_ok xs).2, insAll_mem]; simp
theorem normI_len (xs : List Int) : (normI xs).length ≤ xs.length := by
  rw [normI_ins]; have := insAll_len [] xs; simp at this; omega
theorem delI_mem {xs : List Int} (h : xs.Pairwise (· < ·)) (y x : Int) : x ∈ delI xs y ↔ x ∈ xs ∧ x ≠ y := by
  unfold delI
  split
  · next hc =>
    have hm : y ∈ xs := by simpa using hc
    have hlt := countP_lt hm
    obtain ⟨t1, t2⟩ := take_lt h y
    have hp := h
    rw [← List.take_append_drop (xs.countP (· < y)) xs] at hp
    obtain ⟨p1, p2, p3⟩ := List.pairwise_append.1 hp
    have hd : xs.drop (xs.countP (· < y)) = y :: xs.drop (xs.countP (· < y) + 1) := by
      rw [List.drop_eq_getElem_cons hlt]
      congr 1
      have hy : y ∈ xs.take (xs.countP (· < y)) ++ xs.drop (xs.countP (· < y)) := by rw [List.take_append_drop]; exact hm
      rcases List.mem_append.1 hy with hy | hy
      · have := t1 y hy; omega
      · rw [List.drop_eq_getElem_cons hlt] at hy p2 t2
        have a1 := t2 _ (List.mem_cons_self)
        rcases List.mem_cons.1 hy with e | e
        · exact e.symm
        · have := (List.pairwise_cons.1 p2).1 y e; omega
    rw [hd] at p2
    have p4 := (List.pairwise_cons.1 p2).1
    have e : x ∈ xs ↔ x ∈ xs.take (xs.countP (· < y)) ∨ x = y ∨ x ∈ xs.drop (xs.countP (· < y) + 1) := by
      conv => lhs; rw [← List.take_append_drop (xs.countP (· < y)) xs, hd]
      simp
    rw [e, List.mem_append]
    constructor
    · rintro (h | h)
      · have := t1 x h; exact ⟨.inl h, by omega⟩
      · have := p4 x h; exact ⟨.inr (.inr h), by omega⟩
    · rintro ⟨h | h | h, h2⟩
      · exact .inl h
      · exact absurd h h2
      · exact .inr h
  · next hc =>
    constructor
    · intro hx; exact ⟨hx, fun e => hc (by subst e; simpa using hx)⟩
    · exact fun hx => hx.1
theorem delI_filter {xs : List Int} (h : xs.Pairwise (· < ·)) (y : Int) : delI xs y = xs.filter (fun x => decide (x ≠ y)) :=
  up_ext (delI_up h y) (h.sublist List.filter_sublist) fun x => by rw [delI_mem h]; simp
theorem delAll_up {xs : List Int} (h : xs.Pairwise (· < ·)) : ∀ ls : List Int, (delAll xs ls).Pairwise (· < ·) := by
  refine snoc_ind h ?_
  intro l x ih
  rw [delAll_snoc]
  exact delI_up ih x
theorem delAll_mem {xs : List Int} (h : xs.Pairwise (· < ·)) (x : Int) : ∀ ls : List Int, x ∈ delAll xs ls ↔ x ∈ xs ∧ x ∉ ls := by
  refine snoc_ind ?_ ?_
  · simp [delAll]
  · intro l y ih
    rw [delAll_snoc, delI_mem (delAll_up h l), ih, List.mem_append, List.mem_singleton, not_or, and_assoc]
theorem delAll_nil {xs ls : List Int} (h : xs.Pairwise (· < ·)) (hs : ∀ x ∈ xs, x ∈ ls) : delAll xs ls = [] := by
  rw [List.eq_nil_iff_forall_not_mem]
  intro x hx
  have := (delAll_mem h x ls).1 hx
  exact this.2 (hs x this.1)
end Go.Proofs.Yteiiaocohpbanaa
