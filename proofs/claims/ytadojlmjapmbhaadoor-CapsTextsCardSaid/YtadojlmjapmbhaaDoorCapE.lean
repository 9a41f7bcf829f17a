/- Layer 12: the answers' Apply. -/
import Derived.Test.YtadojlmjapmbhaaDoorCapD
namespace Go.Proofs.YtadojlmjapmbhaaDoor
set_option linter.unusedVariables false
set_option linter.unusedSimpArgs false
open Go.RowKit Go.Shelf

/-- where the answers' loop stands -/
def AtR (h : BitVec 64) (l : List UInt8) (k f : Nat) (v : BitVec 64) : Prop :=
  (k ≤ l.length → f ≤ k ∧ capV h l = appV h v (splitL (l.drop f)) ∧ (32 : UInt8) ∉ (l.drop f).take (k - f)) ∧ (k = l.length + 1 → capV h l = (v, true))
/-- what is left behind a word -/
def restR (l : List UInt8) (k : Nat) : List (List UInt8) := if k < l.length then splitL (l.drop (k + 1)) else []
theorem AtR.more {h : BitVec 64} {l : List UInt8} {k f : Nat} {v : BitVec 64} (hA : AtR h l k f v) (hk : k < l.length) (hc : l[k] ≠ 32) : AtR h l (k + 1) f v := by
  obtain ⟨h1, h2, h3⟩ := hA.1 (by omega)
  refine ⟨fun _ => ⟨by omega, h2, ?_⟩, fun e => by omega⟩
  have e1 : k + 1 - f = (k - f) + 1 := by omega
  have hl : k - f < (l.drop f).length := by rw [List.length_drop]; omega
  rw [e1, List.take_succ_eq_append_getElem hl]
  intro hm
  rcases List.mem_append.1 hm with hm | hm
  · exact h3 hm
  · have hg : (l.drop f)[k - f] = l[k] := by rw [List.getElem_drop]; congr 1; omega
    rw [List.mem_singleton, hg] at hm
    exact hc hm.symm
theorem AtR.word {h : BitVec 64} {l : List UInt8} {k f : Nat} {v : BitVec 64} (hA : AtR h l k f v) (hk : k ≤ l.length) (hc : ∀ hk : k < l.length, l[k] = 32) : capV h l = appV h v ((l.drop f).take (k - f) :: restR l k) := by
  obtain ⟨h1, h2, h3⟩ := hA.1 hk
  rw [h2]
  unfold restR
  by_cases hlt : k < l.length
  · rw [if_pos hlt]
    have e : l.drop f = (l.drop f).take (k - f) ++ 32 :: l.drop (k + 1) := by
      have h4 := List.drop_eq_getElem_cons hlt
      rw [hc hlt] at h4
      have h5 : (l.drop f).drop (k - f) = l.drop k := by rw [List.drop_drop]; congr 1; omega
      rw [← h4, ← h5, List.take_append_drop]
    conv => lhs; rw [e]
    rw [splitL_cut _ _ h3]
  · rw [if_neg hlt]
    have e : (l.drop f).take (k - f) = l.drop f := List.take_of_length_le (by rw [List.length_drop]; omega)
    rw [e] at h3 ⊢
    rw [splitL_none _ h3]
theorem AtR.next {h : BitVec 64} {l : List UInt8} {k : Nat} {v : BitVec 64} (hk : k ≤ l.length) (hv : capV h l = appV h v (restR l k)) : AtR h l (k + 1) (k + 1) v := by
  refine ⟨fun hle => ⟨Nat.le_refl _, ?_, by simp⟩, fun e => ?_⟩
  · rw [hv]; unfold restR; rw [if_pos (by omega)]
  · rw [hv]; unfold restR; rw [if_neg (by omega)]; rfl

end Go.Proofs.YtadojlmjapmbhaaDoor
