/- Layer 9, keys of kind int: mathematics: what is due, in its order. -/
import Derived.Test.YtbgmjieagnmpkaaTimDI
import Derived.Shelf.SlSortCmp.WholeK
import Derived.Sort.LotA
namespace Go.Proofs.Ytbgmjieagnmpkaa
set_option linter.unusedVariables false
set_option linter.unusedSimpArgs false
open Go Go.RowKit Go.Maps Go.Sort Go.Shelf

def ltTI (x y : KeyI × Int) : Prop := x.2 < y.2 ∨ (x.2 = y.2 ∧ x.1 < y.1)
instance (x y : KeyI × Int) : Decidable (ltTI x y) := by unfold ltTI; exact inferInstance
theorem kirrI (a : KeyI) : ¬ a < a := Int.lt_irrefl a
theorem ktrI {a b c : KeyI} (h : a < b) (k : b < c) : a < c := Int.lt_trans h k
theorem ktriI (a b : KeyI) : a < b ∨ a = b ∨ b < a := by
  exact Int.lt_trichotomy a b
theorem cmpKI_neg (a b : KeyI) : cmpI a b < 0 ↔ a < b := by
  unfold cmpI
  by_cases h : a < b
  · simp [h]
  · by_cases h2 : b < a <;> simp [h, h2]
theorem cmpII_cases (a b : Int) : (a < b ∧ cmpI a b = -1) ∨ (a = b ∧ cmpI a b = 0) ∨ (b < a ∧ cmpI a b = 1) := by
  unfold cmpI
  rcases Int.lt_trichotomy a b with h | h | h
  · exact .inl ⟨h, by rw [if_pos h]⟩
  · exact .inr (.inl ⟨h, by rw [if_neg (by omega), if_neg (by omega)]⟩)
  · exact .inr (.inr ⟨h, by rw [if_neg (by omega), if_pos h]⟩)
theorem ltOfI (x y : KeyI × Int) : ltOf cmpTI x y = decide (ltTI x y) := by
  unfold ltOf
  rw [decide_eq_decide]
  unfold cmpTI ltTI orI
  rcases cmpII_cases x.2 y.2 with ⟨h, e⟩ | ⟨h, e⟩ | ⟨h, e⟩
  · rw [e]; simp [h]
  · rw [e, if_pos rfl, cmpKI_neg]; simp [h]
  · rw [e]; simp; omega
theorem ltTI_irr (x : KeyI × Int) : ¬ ltTI x x := by
  rintro (h | ⟨_, h⟩)
  · omega
  · exact kirrI _ h
theorem ltTI_tr {x y z : KeyI × Int} (h : ltTI x y) (k : ltTI y z) : ltTI x z := by
  rcases h with h | ⟨h, h2⟩
  · rcases k with k | ⟨k, k2⟩
    · exact .inl (by omega)
    · exact .inl (by omega)
  · rcases k with k | ⟨k, k2⟩
    · exact .inl (by omega)
    · exact .inr ⟨by omega, ktrI h2 k2⟩
theorem ltTI_tri (x y : KeyI × Int) : ltTI x y ∨ x = y ∨ ltTI y x := by
  rcases Int.lt_trichotomy x.2 y.2 with h | h | h
  · exact .inl (.inl h)
  · rcases ktriI x.1 y.1 with k | k | k
    · exact .inl (.inr ⟨h, k⟩)
    · exact .inr (.inl (Prod.ext k h))
    · exact .inr (.inr (.inr ⟨h.symm, k⟩))
  · exact .inr (.inr (.inl h))
theorem swoI : SWO (ltOf cmpTI) where
  irrefl x := by rw [ltOfI]; simpa using ltTI_irr x
  trans x y z h k := by rw [ltOfI] at *; simp only [decide_eq_true_eq] at *; exact ltTI_tr h k
  ntrans x y z h k := by
    rw [ltOfI] at *
    simp only [decide_eq_false_iff_not] at *
    intro hz
    rcases ltTI_tri x y with e | rfl | e
    · exact h e
    · exact k hz
    · exact k (ltTI_tr e hz)
theorem totI (x y : KeyI × Int) (h : ltOf cmpTI x y = false) (k : ltOf cmpTI y x = false) : x = y := by
  rw [ltOfI] at *
  simp only [decide_eq_false_iff_not] at *
  rcases ltTI_tri x y with e | e | e
  · exact absurd e h
  · exact e
  · exact absurd e k
def sortTI (l : List (KeyI × Int)) : List (KeyI × Int) := l.mergeSort fun x y => !ltOf cmpTI y x
theorem sortTI_perm (l : List (KeyI × Int)) : (sortTI l).Perm l := List.mergeSort_perm _ _
theorem sortTI_le (l : List (KeyI × Int)) : (sortTI l).Pairwise fun x y => ¬ ltTI y x := by
  refine (List.pairwise_mergeSort (le := fun x y => !ltOf cmpTI y x) ?_ ?_ l).imp ?_
  · intro a b c h k
    simp only [Bool.not_eq_true'] at *
    exact swoI.ntrans _ _ _ k h
  · intro a b
    rw [ltOfI, ltOfI]
    by_cases h : ltTI b a
    · have : ¬ ltTI a b := fun k => ltTI_irr _ (ltTI_tr h k)
      simp [h, this]
    · simp [h]
  · intro a b h
    rw [ltOfI] at h
    simpa using h
/-- rows that rise, of the same things, are one -/
theorem rise_eqI {l m : List (KeyI × Int)} (h : l.Pairwise ltTI) (k : m.Pairwise ltTI) (hp : l.Perm m) : l = m :=
  List.Perm.eq_of_pairwise (le := ltTI) (fun a b _ _ h1 h2 => absurd (ltTI_tr h1 h2) (ltTI_irr a)) h k hp
theorem sortTI_rise {l : List (KeyI × Int)} (h : l.Nodup) : (sortTI l).Pairwise ltTI := by
  have h1 := sortTI_le l
  have h2 : (sortTI l).Nodup := (sortTI_perm l).nodup_iff.2 h
  exact (h1.and h2).imp fun {a b} ⟨p, q⟩ => by
    rcases ltTI_tri a b with e | e | e
    · exact e
    · exact absurd e q
    · exact absurd e p
/-- what is due now -/
def dueMI (T : List (KeyI × Int)) (now : Int) : List (KeyI × Int) := sortTI (T.filter fun p => decide (p.2 ≤ now))
theorem nodup_fstI {T : List (KeyI × Int)} (h : (T.map (·.1)).Nodup) : T.Nodup := (List.pairwise_map.1 h).imp fun {a b} hne e => hne (by rw [e])
theorem dueMI_rise {T : List (KeyI × Int)} (h : (T.map (·.1)).Nodup) (now : Int) : (dueMI T now).Pairwise ltTI := sortTI_rise ((nodup_fstI h).filter _)
theorem dueMI_mem {T : List (KeyI × Int)} {now : Int} {p : KeyI × Int} : p ∈ dueMI T now ↔ p ∈ T ∧ p.2 ≤ now := by
  unfold dueMI
  rw [(sortTI_perm _).mem_iff, List.mem_filter]
  simp
theorem dueMI_len (T : List (KeyI × Int)) (now : Int) : (dueMI T now).length ≤ T.length := by
  unfold dueMI
  rw [(sortTI_perm _).length_eq]
  exact List.length_filter_le _ _
/-- of whatever order the entries came in -/
theorem dueMI_perm {T ys : List (KeyI × Int)} (h : (T.map (·.1)).Nodup) (hp : ys.Perm T) (now : Int) : sortTI (ys.filter fun p => decide (p.2 ≤ now)) = dueMI T now := by
  have hy : (ys.map (·.1)).Nodup := (hp.map _).nodup_iff.2 h
  refine rise_eqI (sortTI_rise ((nodup_fstI hy).filter _)) (dueMI_rise h now) ?_
  exact ((sortTI_perm _).trans (hp.filter _)).trans (sortTI_perm _).symm
end Go.Proofs.Ytbgmjieagnmpkaa
