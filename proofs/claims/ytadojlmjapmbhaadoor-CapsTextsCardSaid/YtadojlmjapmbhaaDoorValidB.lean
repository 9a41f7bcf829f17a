/- valid.sized, only, none, plain, and the answers' in, Letter, Digit, Sign: what each tells. -/
import Derived.Test.YtadojlmjapmbhaaDoorValidA
namespace Go.Proofs.YtadojlmjapmbhaaDoor
open Go.RowKit

/-- all bytes of a text, with their places, are so -/
noncomputable def allI (s : ByteArray) (p : Nat → UInt8 → Bool) : Bool := @decide (∀ i (h : i < s.size), p i s[i] = true) (Classical.propDecidable _)
theorem allI_iff {s : ByteArray} {p : Nat → UInt8 → Bool} : allI s p = true ↔ ∀ i (h : i < s.size), p i s[i] = true := by
  unfold allI; exact @decide_eq_true_iff _ (Classical.propDecidable _)
theorem allI_no {s : ByteArray} {p : Nat → UInt8 → Bool} {k : Nat} (h : k < s.size) (hp : p k s[k] = false) : false = allI s p := by
  cases e : allI s p with
  | false => rfl
  | true => rw [allI_iff.1 e k h] at hp; cases hp
theorem allI_yes {s : ByteArray} {p : Nat → UInt8 → Bool} {k : Nat} (hk : s.size ≤ k) (h : ∀ i, i < k → ∀ (hi : i < s.size), p i s[i] = true) : true = allI s p :=
  (allI_iff.2 fun i hi => h i (by omega) hi).symm
theorem all_step {s : ByteArray} {p : Nat → UInt8 → Bool} {k : Nat} (h : ∀ i, i < k → ∀ (hi : i < s.size), p i s[i] = true) (hk : k < s.size) (hp : p k s[k] = true) :
    ∀ i, i < k + 1 → ∀ (hi : i < s.size), p i s[i] = true := by
  intro i h1 h2
  by_cases e : i = k
  · subst e; exact hp
  · exact h i (by omega) h2

/-- is a byte of one of some kinds? -/
def isK (kinds : Int) (b : UInt8) : Bool := !(bits .and .i64 (kAcc b 11) kinds == 0)

set_option maxHeartbeats 1000000 in
theorem only_any (s : ByteArray) (kinds : Int) (w : World) (hs : s.size ≤ 1000000) (hr : Rowed w) :
    Calls Tryd.prog 47 #[.string s, .int .i64 kinds] w fun e w' => e = .returned (.bool (allI s fun _ b => isK kinds b)) ∧ w = w' := by
  go_enter Tryd.func47, Tryd.ntmps47
  go_wp2_with fail
  go_loopw [8] (fun i wr => ∃ k : Nat, k ≤ s.size ∧ i = .int .i64 k ∧ (∀ i, i < k → ∀ (hi : i < s.size), (fun _ b => isK kinds b) i s[i] = true) ∧ wr = w) (fun i _ => s.size - (intOf i).toNat)
  case atStart => exact ⟨0, Nat.zero_le _, rfl, fun _ h => absurd h (Nat.not_lt_zero _), rfl⟩
  case round =>
    obtain ⟨k, hk, rfl, hq, rfl⟩ := hrel
    have Hq := Lib.hid hq
    clear hq
    by_cases hlt : k < s.size
    · cases hb : (bits .and .i64 (kAcc s[k] 11) kinds == 0)
      · go_wp2_with (go_at_call 55; refine (kind_any _ _ (by assumption)).mono ?_; rintro e w' ⟨rfl, rfl⟩)
        exact ⟨⟨k + 1, by omega, by push_cast; rfl, all_step Hq.out hlt (by simp only [isK, hb]; rfl), by simp⟩, by simp only [intOf]; omega⟩
      · go_wp2_with (go_at_call 55; refine (kind_any _ _ (by assumption)).mono ?_; rintro e w' ⟨rfl, rfl⟩)
        go_ret
        exact ⟨ret_bool (allI_no hlt (by simp only [isK, hb]; rfl)), rfl⟩
    · obtain rfl : k = s.size := by omega
      go_wp2_with fail
      go_ret
      exact ⟨ret_bool (allI_yes (Nat.le_refl _) Hq.out), rfl⟩

set_option maxHeartbeats 1000000 in
theorem none_any (s : ByteArray) (kinds : Int) (w : World) (hs : s.size ≤ 1000000) (hr : Rowed w) :
    Calls Tryd.prog 46 #[.string s, .int .i64 kinds] w fun e w' => e = .returned (.bool (allI s fun _ b => !isK kinds b)) ∧ w = w' := by
  go_enter Tryd.func46, Tryd.ntmps46
  go_wp2_with fail
  go_loopw [8] (fun i wr => ∃ k : Nat, k ≤ s.size ∧ i = .int .i64 k ∧ (∀ i, i < k → ∀ (hi : i < s.size), (fun _ b => !isK kinds b) i s[i] = true) ∧ wr = w) (fun i _ => s.size - (intOf i).toNat)
  case atStart => exact ⟨0, Nat.zero_le _, rfl, fun _ h => absurd h (Nat.not_lt_zero _), rfl⟩
  case round =>
    obtain ⟨k, hk, rfl, hq, rfl⟩ := hrel
    have Hq := Lib.hid hq
    clear hq
    by_cases hlt : k < s.size
    · cases hb : (bits .and .i64 (kAcc s[k] 11) kinds == 0)
      · go_wp2_with (go_at_call 55; refine (kind_any _ _ (by assumption)).mono ?_; rintro e w' ⟨rfl, rfl⟩)
        go_ret
        exact ⟨ret_bool (allI_no hlt (p := fun _ b => !isK kinds b) (by simp only [isK, hb]; rfl)), rfl⟩
      · go_wp2_with (go_at_call 55; refine (kind_any _ _ (by assumption)).mono ?_; rintro e w' ⟨rfl, rfl⟩)
        exact ⟨⟨k + 1, by omega, by push_cast; rfl, all_step (p := fun _ b => !isK kinds b) Hq.out hlt (by simp only [isK, hb]; rfl), by simp⟩, by simp only [intOf]; omega⟩
    · obtain rfl : k = s.size := by omega
      go_wp2_with fail
      go_ret
      exact ⟨ret_bool (allI_yes (Nat.le_refl _) Hq.out), rfl⟩

/-- can a byte be seen? -/
def seen (b : UInt8) : Bool := decide (33 ≤ b.toNat ∧ b.toNat ≤ 126)


def sizedB (n : Nat) (a b : Int) : Bool := decide (a ≤ n ∧ (n : Int) ≤ b)
theorem sized_any (s : ByteArray) (a b : Int) (w : World) :
    Calls Tryd.prog 54 #[.string s, .int .i64 a, .int .i64 b] w fun e w' => e = .returned (.bool (sizedB s.size a b)) ∧ w = w' := by
  by_cases h : a ≤ s.size
  · go_enter Tryd.func54, Tryd.ntmps54
    go_wp2_with fail
    go_ret
    exact ⟨ret_bool (by unfold sizedB; rw [Bool.eq_iff_iff]; simp; try omega), rfl⟩
  · go_enter Tryd.func54, Tryd.ntmps54
    go_wp2_with fail
    go_ret
    exact ⟨ret_bool (by unfold sizedB; rw [Bool.eq_iff_iff]; simp; try omega), rfl⟩
/-- is a byte one of a row? -/
def inB (l : List UInt8) (b : UInt8) : Bool := l.contains b
theorem at_mem (s : ByteArray) (k : Nat) (h : k < s.size) : s[k] ∈ s.data.toList := by
  have : s[k] = s.data.toList[k]'(by simpa using h) := rfl
  rw [this]; exact List.getElem_mem _
theorem mem_at {s : ByteArray} {b : UInt8} (h : b ∈ s.data.toList) : ∃ k, ∃ h : k < s.size, s[k] = b := by
  obtain ⟨k, hk, e⟩ := List.mem_iff_getElem.1 h
  exact ⟨k, by simpa using hk, e⟩
theorem inB_yes {s : ByteArray} {b : UInt8} {k : Nat} (h : k < s.size) (e : s[k] = b) : true = inB s.data.toList b := by
  unfold inB; symm; rw [List.contains_iff_mem, ← e]; exact at_mem s k h
theorem inB_no {s : ByteArray} {b : UInt8} {k : Nat} (hk : s.size ≤ k) (h : ∀ i, i < k → ∀ (hi : i < s.size), s[i] ≠ b) : false = inB s.data.toList b := by
  unfold inB; symm
  rw [Bool.eq_false_iff, ne_eq, List.contains_iff_mem]
  intro hm
  obtain ⟨i, hi, e⟩ := mem_at hm
  exact h i (by omega) hi e



def letterB (b : UInt8) : Bool := decide ((65 ≤ b.toNat ∧ b.toNat ≤ 90) ∨ (97 ≤ b.toNat ∧ b.toNat ≤ 122))
def digitB (b : UInt8) : Bool := decide (48 ≤ b.toNat ∧ b.toNat ≤ 57)
def signB (b : UInt8) : Bool := decide (b.toNat = 96) || inB [91, 93, 92, 95, 94, 123, 124, 125] b


end Go.Proofs.YtadojlmjapmbhaaDoor
