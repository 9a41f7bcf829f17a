/- Layer 9: mathematics of the document's table: the first, again and again. -/
import Derived.Test.YtbgmjieagnmpkaaTimES
namespace Go.Proofs.Ytbgmjieagnmpkaa
set_option linter.unusedVariables false
set_option linter.unusedSimpArgs false
open Go Go.RowKit Go.Maps Go.Sort Go.Shelf

/-- one that may come next -/
def CandS (now : Int) (o : Option (KeyS × Int)) (p : KeyS × Int) : Prop := p.2 ≤ now ∧ ∀ y, o = some y → ltTS y p
theorem cand_iff {T : List (KeyS × Int)} (h : (T.map (·.1)).Nodup) (now : Int) (m : Nat) (p : KeyS × Int) : (p ∈ T ∧ CandS now ((dueMS T now).take m).getLast? p) ↔ p ∈ (dueMS T now).drop m := by
  have hr := dueMS_rise h now
  have hmem : p ∈ dueMS T now ↔ p ∈ T ∧ p.2 ≤ now := dueMS_mem
  obtain ⟨D, hD⟩ : ∃ D, dueMS T now = D := ⟨_, rfl⟩
  rw [hD] at hr hmem ⊢
  have hsp := List.take_append_drop m D
  rw [← hsp, List.pairwise_append] at hr
  obtain ⟨r1, r2, r3⟩ := hr
  constructor
  · rintro ⟨q1, q2, q3⟩
    have hp := hmem.2 ⟨q1, q2⟩
    rw [← hsp, List.mem_append] at hp
    rcases hp with hp | hp
    · exfalso
      cases hl : (D.take m).getLast? with
      | none =>
        rw [List.getLast?_eq_none_iff] at hl
        rw [hl] at hp
        cases hp
      | some y =>
        have h1 := q3 y hl
        obtain ⟨ys, hys⟩ := List.getLast?_eq_some_iff.1 hl
        rw [hys, List.mem_append] at hp
        rw [hys, List.pairwise_append] at r1
        rcases hp with hp | hp
        · exact ltTS_irr _ (ltTS_tr h1 (r1.2.2 p hp y (by simp)))
        · simp only [List.mem_singleton] at hp
          subst hp
          exact ltTS_irr _ h1
    · exact hp
  · intro hp
    have h2 := hmem.1 (by rw [← hsp, List.mem_append]; exact .inr hp)
    exact ⟨h2.1, h2.2, fun y hy => r3 y (List.mem_of_getLast? hy) p hp⟩
/-- b is where the best of the first i stands; -1: none -/
def BestAt (T : List (KeyS × Int)) (now : Int) (o : Option (KeyS × Int)) (i : Nat) (b : Int) : Prop :=
  (b = -1 ∧ ∀ j, j < i → ∀ p, T[j]? = some p → ¬ CandS now o p) ∨ ∃ (k : Nat) (q : KeyS × Int), b = k ∧ k < i ∧ T[k]? = some q ∧ CandS now o q ∧ ∀ j, j < i → ∀ p, T[j]? = some p → CandS now o p → ¬ ltTS p q
theorem bestAt_zero (T : List (KeyS × Int)) (now : Int) (o : Option (KeyS × Int)) : BestAt T now o 0 (-1) := .inl ⟨rfl, fun j hj => by omega⟩
theorem bestAt_skip {T : List (KeyS × Int)} {now : Int} {o : Option (KeyS × Int)} {i : Nat} {b : Int} (h : BestAt T now o i b) {p : KeyS × Int} (hp : T[i]? = some p) (hc : ¬ CandS now o p) : BestAt T now o (i + 1) b := by
  rcases h with ⟨h1, h2⟩ | ⟨k, q, h1, h2, h3, h4, h5⟩
  · refine .inl ⟨h1, fun j hj p' hp' => ?_⟩
    by_cases e : j = i
    · subst e; rw [hp] at hp'; cases hp'; exact hc
    · exact h2 j (by omega) p' hp'
  · refine .inr ⟨k, q, h1, by omega, h3, h4, fun j hj p' hp' hc' => ?_⟩
    by_cases e : j = i
    · subst e; rw [hp] at hp'; cases hp'; exact absurd hc' hc
    · exact h5 j (by omega) p' hp' hc'
theorem bestAt_first {T : List (KeyS × Int)} {now : Int} {o : Option (KeyS × Int)} {i : Nat} (h : BestAt T now o i (-1)) {p : KeyS × Int} (hp : T[i]? = some p) (hc : CandS now o p) : BestAt T now o (i + 1) i := by
  rcases h with ⟨h1, h2⟩ | ⟨k, q, h1, h2, h3, h4, h5⟩
  · refine .inr ⟨i, p, rfl, by omega, hp, hc, fun j hj p' hp' hc' => ?_⟩
    by_cases e : j = i
    · subst e; rw [hp] at hp'; cases hp'; exact ltTS_irr _
    · exact absurd hc' (h2 j (by omega) p' hp')
  · omega
theorem bestAt_less {T : List (KeyS × Int)} {now : Int} {o : Option (KeyS × Int)} {i k : Nat} (h : BestAt T now o i k) {p q : KeyS × Int} (hp : T[i]? = some p) (hc : CandS now o p) (hq : T[k]? = some q) (hl : ltTS p q) : BestAt T now o (i + 1) i := by
  rcases h with ⟨h1, h2⟩ | ⟨k', q', h1, h2, h3, h4, h5⟩
  · omega
  · obtain rfl : k = k' := by omega
    rw [hq] at h3
    cases h3
    refine .inr ⟨i, p, rfl, by omega, hp, hc, fun j hj p' hp' hc' => ?_⟩
    by_cases e : j = i
    · subst e; rw [hp] at hp'; cases hp'; exact ltTS_irr _
    · exact fun e2 => h5 j (by omega) p' hp' hc' (ltTS_tr e2 hl)
theorem bestAt_keep {T : List (KeyS × Int)} {now : Int} {o : Option (KeyS × Int)} {i k : Nat} (h : BestAt T now o i k) {p q : KeyS × Int} (hp : T[i]? = some p) (hq : T[k]? = some q) (hl : ¬ ltTS p q) : BestAt T now o (i + 1) k := by
  rcases h with ⟨h1, h2⟩ | ⟨k', q', h1, h2, h3, h4, h5⟩
  · omega
  · obtain rfl : k = k' := by omega
    rw [hq] at h3
    cases h3
    refine .inr ⟨k, q, rfl, by omega, hq, h4, fun j hj p' hp' hc' => ?_⟩
    by_cases e : j = i
    · subst e; rw [hp] at hp'; cases hp'; exact hl
    · exact h5 j (by omega) p' hp' hc'
theorem bestAt_lt {T : List (KeyS × Int)} {now : Int} {o : Option (KeyS × Int)} {i : Nat} {b : Int} (h : BestAt T now o i b) : b = -1 ∨ ∃ k : Nat, b = k ∧ k < i := by
  rcases h with ⟨h1, _⟩ | ⟨k, q, h1, h2, _⟩
  · exact .inl h1
  · exact .inr ⟨k, h1, h2⟩
/-- none is left -/
theorem best_none {T : List (KeyS × Int)} (h : (T.map (·.1)).Nodup) {now : Int} {m : Nat} (hm : m ≤ (dueMS T now).length) (hb : BestAt T now ((dueMS T now).take m).getLast? T.length (-1)) : m = (dueMS T now).length := by
  rcases hb with ⟨_, h2⟩ | ⟨k, q, h1, _⟩
  · by_cases hlt : m < (dueMS T now).length
    · have h3 : (dueMS T now)[m] ∈ (dueMS T now).drop m := by
        rw [List.mem_iff_getElem]
        exact ⟨0, by rw [List.length_drop]; omega, by simp⟩
      obtain ⟨h4, h5⟩ := (cand_iff h now m _).2 h3
      obtain ⟨j, hj, e⟩ := List.mem_iff_getElem.1 h4
      exact absurd h5 (h2 j hj _ (by rw [← e]; exact List.getElem?_eq_getElem hj))
    · omega
  · omega
/-- the best is the next -/
theorem best_next {T : List (KeyS × Int)} (h : (T.map (·.1)).Nodup) {now : Int} {m k : Nat} {q : KeyS × Int} (hq : T[k]? = some q) (hb : BestAt T now ((dueMS T now).take m).getLast? T.length k) : m < (dueMS T now).length ∧ (dueMS T now).take (m + 1) = (dueMS T now).take m ++ [q] := by
  rcases hb with ⟨h1, _⟩ | ⟨k', q', h1, h2, h3, h4, h5⟩
  · omega
  · obtain rfl : k = k' := by omega
    rw [hq] at h3
    cases h3
    have hqm : q ∈ T := List.mem_of_getElem? hq
    have hd := (cand_iff h now m q).1 ⟨hqm, h4⟩
    have hlt : m < (dueMS T now).length := by
      have := List.length_pos_of_mem hd
      rw [List.length_drop] at this
      omega
    refine ⟨hlt, ?_⟩
    have hsp : (dueMS T now).drop m = (dueMS T now)[m] :: (dueMS T now).drop (m + 1) := List.drop_eq_getElem_cons hlt
    have hmd : (dueMS T now)[m] ∈ (dueMS T now).drop m := by rw [hsp]; exact List.mem_cons_self
    obtain ⟨c1, c2⟩ := (cand_iff h now m _).2 hmd
    obtain ⟨j, hj, e⟩ := List.mem_iff_getElem.1 c1
    have hnl := h5 j hj (dueMS T now)[m] (by rw [← e]; exact List.getElem?_eq_getElem hj) c2
    have hpw : ((dueMS T now).drop m).Pairwise ltTS := (dueMS_rise h now).sublist (List.drop_sublist _ _)
    rw [hsp] at hd hpw
    rw [List.pairwise_cons] at hpw
    rw [List.mem_cons] at hd
    rcases hd with hd | hd
    · rw [List.take_succ_eq_append_getElem hlt, ← hd]
    · exact absurd (hpw.1 q hd) hnl
/-- taking the one away that stands at i -/
theorem delM_at {T : List (KeyS × Int)} (h : (T.map (·.1)).Nodup) {i : Nat} (hi : i < T.length) : delM T T[i].1 = T.take i ++ T.drop (i + 1) := by
  obtain ⟨a, ha⟩ : ∃ a, T[i] = a := ⟨_, rfl⟩
  have hsp : T = T.take i ++ a :: T.drop (i + 1) := by rw [← ha, ← List.drop_eq_getElem_cons hi, List.take_append_drop]
  rw [ha]
  rw [hsp, List.map_append, List.map_cons, List.nodup_append, List.nodup_cons] at h
  obtain ⟨_, ⟨h2, _⟩, h4⟩ := h
  conv => lhs; rw [hsp]
  unfold delM
  rw [List.filter_append, List.filter_cons_of_neg (by simp)]
  congr 1
  · rw [List.filter_eq_self]
    intro p hp
    simp only [decide_eq_true_eq]
    exact h4 _ (List.mem_map_of_mem hp) _ List.mem_cons_self
  · rw [List.filter_eq_self]
    intro p hp
    simp only [decide_eq_true_eq]
    exact fun e => h2 (by rw [← e]; exact List.mem_map_of_mem hp)
theorem lookM_at {T : List (KeyS × Int)} (h : (T.map (·.1)).Nodup) {i : Nat} (hi : i < T.length) : lookM T T[i].1 = some T[i].2 := by
  unfold lookM
  cases hf : T.find? fun p => decide (p.1 = T[i].1) with
  | none =>
    rw [List.find?_eq_none] at hf
    have := hf T[i] (List.getElem_mem hi)
    simp at this
  | some p =>
    have h1 := List.find?_some hf
    have h2 := List.mem_of_find?_eq_some hf
    simp only [decide_eq_true_eq] at h1
    obtain ⟨j, hj, e⟩ := List.mem_iff_getElem.1 h2
    have hij : j = i := by
      rw [List.nodup_iff_pairwise_ne, List.pairwise_iff_getElem] at h
      rcases Nat.lt_trichotomy j i with e1 | e1 | e1
      · exact absurd (by rw [List.getElem_map, List.getElem_map, e, h1]) (h j i (by simpa using hj) (by simpa using hi) e1)
      · exact e1
      · exact absurd (by rw [List.getElem_map, List.getElem_map, e, h1]) (h i j (by simpa using hi) (by simpa using hj) e1)
    subst hij
    rw [Option.map_some, ← e]
theorem lookM_nowhere {T : List (KeyS × Int)} {k : KeyS} (h : ∀ p ∈ T, p.1 ≠ k) : lookM T k = none := by
  unfold lookM
  rw [List.find?_eq_none.2 (fun p hp => by simpa using h p hp)]
  rfl
/-- where a key stands; -1: nowhere -/
def ixM (T : List (KeyS × Int)) (k : KeyS) (n : Int) : Prop := (n = -1 ∧ lookM T k = none ∧ delM T k = T) ∨ ∃ i : Nat, ∃ h : i < T.length, n = i ∧ T[i].1 = k ∧ lookM T k = some T[i].2 ∧ delM T k = T.take i ++ T.drop (i + 1)
end Go.Proofs.Ytbgmjieagnmpkaa
