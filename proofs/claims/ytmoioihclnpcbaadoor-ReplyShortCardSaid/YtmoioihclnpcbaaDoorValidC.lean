/- valid.Nick, Channel, User and the answers' ones: both tell the same of any text. -/
import Derived.Test.YtmoioihclnpcbaaDoorValidK
namespace Go.Proofs.YtmoioihclnpcbaaDoor
open Go.RowKit

noncomputable def dec (p : Prop) : Bool := @decide p (Classical.propDecidable _)
theorem dec_iff {p : Prop} : dec p = true ↔ p := by unfold dec; exact @decide_eq_true_iff _ (Classical.propDecidable _)
theorem dec_yes {p : Prop} (h : p) : true = dec p := (dec_iff.2 h).symm
theorem dec_no {p : Prop} (h : ¬ p) : false = dec p := by
  cases e : dec p with
  | false => rfl
  | true => exact absurd (dec_iff.1 e) h
theorem dec_of {b : Bool} {p : Prop} (h : b = true ↔ p) : b = dec p := by
  rw [Bool.eq_iff_iff, h, dec_iff]




/-- may a byte stand so in a nickname? -/
def nickAt (i : Nat) (b : UInt8) : Bool := letterB b || signB b || (decide (i ≠ 0) && (digitB b || decide (b.toNat = 45)))
def NickP (s : ByteArray) : Prop := (1 ≤ s.size ∧ s.size ≤ 16) ∧ ∀ i (h : i < s.size), nickAt i s[i] = true
def ChanP (s : ByteArray) : Prop := (2 ≤ s.size ∧ s.size ≤ 50) ∧ (∃ h : 0 < s.size, s[0].toNat = 35) ∧ ∀ i (h : i < s.size), chanB s[i] = true
def UserP (s : ByteArray) : Prop := (1 ≤ s.size ∧ s.size ≤ 10) ∧ ∀ i (h : i < s.size), (seen s[i] && !inB [33, 64, 42, 63, 58] s[i]) = true

theorem extract_one (s : ByteArray) (h : 1 ≤ s.size) (p : Nat → UInt8 → Bool) : allI (s.extract 0 1) p = p 0 s[0] := by
  rw [Bool.eq_iff_iff, allI_iff]
  have hs : (s.extract 0 1).size = 1 := by simp [ByteArray.size_extract]; omega
  have e : ∀ i (hi : i < (s.extract 0 1).size), (s.extract 0 1)[i] = s[0] := by
    intro i hi
    obtain rfl : i = 0 := by omega
    simp [ByteArray.getElem_extract]
  constructor
  · intro hh; have := hh 0 (by omega); rwa [e] at this
  · intro hh i hi; rw [e]; obtain rfl : i = 0 := by omega
    exact hh











end Go.Proofs.YtmoioihclnpcbaaDoor
