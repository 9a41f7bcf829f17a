/- Layer 9, keys of kind string: mathematics: what is due, in its order. -/
import Derived.Test.YtbgmjieagnmpkaaTimDS
import Derived.Shelf.SlSortCmp.WholeK
import Derived.Sort.LotA
namespace Go.Proofs.Ytbgmjieagnmpkaa
set_option linter.unusedVariables false
set_option linter.unusedSimpArgs false
open Go Go.RowKit Go.Maps Go.Sort Go.Shelf

def ltTS (x y : KeyS × Int) : Prop := x.2 < y.2 ∨ (x.2 = y.2 ∧ x.1 < y.1)
instance (x y : KeyS × Int) : Decidable (ltTS x y) := by unfold ltTS; exact inferInstance
theorem kirrS (a : KeyS) : ¬ a < a := List.lt_irrefl a
theorem ktrS {a b c : KeyS} (h : a < b) (k : b < c) : a < c := List.lt_trans h k
theorem ktriS (a b : KeyS) : a < b ∨ a = b ∨ b < a := by
  by_cases h : a < b
  · exact .inl h
  · by_cases h2 : b < a
    · exact .inr (.inr h2)
    · exact .inr (.inl (List.le_antisymm (List.not_lt.1 h2) (List.not_lt.1 h)))
theorem cmpKS_neg (a b : KeyS) : cmpS a b < 0 ↔ a < b := by
  unfold cmpS
  by_cases h : a < b
  · simp [h]
  · by_cases h2 : b < a <;> simp [h, h2]
theorem cmpIS_cases (a b : Int) : (a < b ∧ cmpI a b = -1) ∨ (a = b ∧ cmpI a b = 0) ∨ (b < a ∧ cmpI a b = 1) := by
  unfold cmpI
  rcases Int.lt_trichotomy a b with h | h | h
  · exact .inl ⟨h, by rw [if_pos h]⟩
  · exact .inr (.inl ⟨h, by rw [if_neg (by omega), if_neg (by omega)]⟩)
  · exact .inr (.inr ⟨h, by rw [if_neg (by omega), if_pos h]⟩)
theorem ltOfS (x y : KeyS × Int) : ltOf cmpTS x y = decide (ltTS x y) := by
  unfold ltOf
  rw [decide_eq_decide]
  unfold cmpTS ltTS orI
  rcases cmpIS_cases x.2 y.2 with ⟨h, e⟩ | ⟨h, e⟩ | ⟨h, e⟩
  · rw [e]; simp [h]
  · rw [e, if_pos rfl, cmpKS_neg]; simp [h]
  · rw [e]; simp; omega
theorem ltTS_irr (x : KeyS × Int) : ¬ ltTS x x := by
  rintro (h | ⟨_, h⟩)
  · omega
  · exact kirrS _ h
theorem ltTS_tr {x y z : KeyS × Int} (h : ltTS x y) (k : ltTS y z) : ltTS x z := by
  rcases h with h | ⟨h, h2⟩
  · rcases k with k | ⟨k, k2⟩
    · exact .inl (by omega)
    · exact .inl (by omega)
  · rcases k with k | ⟨k, k2⟩
    · exact .inl (by omega)
    · exact .inr ⟨by omega, ktrS h2 k2⟩
theorem ltTS_tri (x y : KeyS × Int) : ltTS x y ∨ x = y ∨ ltTS y x := by
  rcases Int.lt_trichotomy x.2 y.2 with h | h | h
  · exact .inl (.inl h)
  · rcases ktriS x.1 y.1 with k | k | k
    · exact .inl (.inr ⟨h, k⟩)
    · exact .inr (.inl (Prod.ext k h))
    · exact .inr (.inr (.inr ⟨h.symm, k⟩))
  · exact .inr (.inr (.inl h))
theorem swoS : SWO (ltOf cmpTS) where
  irrefl x := by rw [ltOfS]; simpa using ltTS_irr x
  trans x y z h k := by rw [ltOfS] at *; simp only [decide_eq_true_eq] at *; exact ltTS_tr h k
  ntrans x y z h k := by
    rw [ltOfS] at *
    simp only [decide_eq_false_iff_not] at *
    intro hz
    rcases ltTS_tri x y with e | rfl | e
    · exact h e
    · exact k hz
    · exact k (ltTS_tr e hz)
theorem totS (x y : KeyS × Int) (h : ltOf cmpTS x y = false) (k : ltOf cmpTS y x = false) : x = y := by
  rw [ltOfS] at *
  simp only [decide_eq_false_iff_not] at *
  rcases ltTS_tri x y with e | e | e
  · exact absurd e h
  · exact e
  · exact absurd e k
def sortTS (l : List (KeyS × Int)) : List (KeyS × Int) := l.mergeSort fun x y => !ltOf cmpTS y x
theorem sortTS_perm (l : List (KeyS × Int)) : (sortTS l).Perm l := List.mergeSort_perm _ _
theorem sortTS_le (l : List (KeyS × Int)) : (sortTS l).Pairwise fun x y => ¬ ltTS y x := by
  refine (List.pairwise_mergeSort (le := fun x y => !ltOf cmpTS y x) ?_ ?_ l).imp ?_
  · intro a b c h k
    simp only [Bool.not_eq_true'] at *
    exact swoS.ntrans _ _ _ k h
  · intro a b
    rw [ltOfS, ltOfS]
    by_cases h : ltTS b a
    · have : ¬ ltTS a b := fun k => ltTS_irr _ (ltTS_tr h k)
      simp [h, this]
    · simp [h]
  · intro a b h
    rw [ltOfS] at h
    simpa using h
/-- rows that rise, of the same things, are one -/
theorem rise_eqS {l m : List (KeyS × Int)} (h : l.Pairwise ltTS) (k : m.Pairwise ltTS) (hp : l.Perm m) : l = m :=
  List.Perm.eq_of_pairwise (le := ltTS) (fun a b _ _ h1 h2 => absurd (ltTS_tr h1 h2) (ltTS_irr a)) h k hp
theorem sortTS_rise {l : List (KeyS × Int)} (h : l.Nodup) : (sortTS l).Pairwise ltTS := by
  have h1 := sortTS_le l
  have h2 : (sortTS l).Nodup := (sortTS_perm l).nodup_iff.2 h
  exact (h1.and h2).imp fun {a b} ⟨p, q⟩ => by
    rcases ltTS_tri a b with e | e | e
    · exact e
    · exact absurd e q
    · exact absurd e p
/-- what is due now -/
def dueMS (T : List (KeyS × Int)) (now : Int) : List (KeyS × Int) := sortTS (T.filter fun p => decide (p.2 ≤ now))
theorem nodup_fstS {T : List (KeyS × Int)} (h : (T.map (·.1)).Nodup) : T.Nodup := (List.pairwise_map.1 h).imp fun {a b} hne e => hne (by rw [e])
theorem dueMS_rise {T : List (KeyS × Int)} (h : (T.map (·.1)).Nodup) (now : Int) : (dueMS T now).Pairwise ltTS := sortTS_rise ((nodup_fstS h).filter _)
theorem dueMS_mem {T : List (KeyS × Int)} {now : Int} {p : KeyS × Int} : p ∈ dueMS T now ↔ p ∈ T ∧ p.2 ≤ now := by
  unfold dueMS
  rw [(sortTS_perm _).mem_iff, List.mem_filter]
  simp
theorem dueMS_len (T : List (KeyS × Int)) (now : Int) : (dueMS T now).length ≤ T.length := by
  unfold dueMS
  rw [(sortTS_perm _).length_eq]
  exact List.length_filter_le _ _
/-- of whatever order the entries came in -/
theorem dueMS_perm {T ys : List (KeyS × Int)} (h : (T.map (·.1)).Nodup) (hp : ys.Perm T) (now : Int) : sortTS (ys.filter fun p => decide (p.2 ≤ now)) = dueMS T now := by
  have hy : (ys.map (·.1)).Nodup := (hp.map _).nodup_iff.2 h
  refine rise_eqS (sortTS_rise ((nodup_fstS hy).filter _)) (dueMS_rise h now) ?_
  exact ((sortTS_perm _).trans (hp.filter _)).trans (sortTS_perm _).symm
end Go.Proofs.Ytbgmjieagnmpkaa
