/- fold.Byte, fold.turns, cmp.Compare of bytes and numbers: what each answers, for every argument. -/
import Derived.WalkKit
import Derived.Lib.Hide
import Derived.WalkSpells
import Derived.WalkLawsBesides
import Derived.Test.YtfdaeajafmcjcaaProg
import Derived.Test.YtfdaeajafmcjcaaBase
namespace Go.Proofs.Ytfdaeajafmcjcaa
open Go.RowKit

/-- a byte, folded, as a number -/
def foldI (b : Int) : Int := if 65 ≤ b ∧ b ≤ 93 then b + 32 else if b = 126 then 94 else b
theorem foldI_up {b : Int} (h : 65 ≤ b) (h' : b ≤ 93) : foldI b = b + 32 := by rw [foldI, if_pos ⟨h, h'⟩]
theorem foldI_lo {b : Int} (h : b < 65) : foldI b = b := by rw [foldI, if_neg (by omega), if_neg (by omega)]
theorem foldI_hi {b : Int} (h : 93 < b) (h' : (b == 126) = false) : foldI b = b := by
  have := of_decide_eq_false h'
  rw [foldI, if_neg (by omega), if_neg (by omega)]
theorem foldI_bd (b : Int) (h0 : 0 ≤ b) (h1 : b ≤ 255) : 0 ≤ foldI b ∧ foldI b ≤ 255 := by
  unfold foldI; split
  · omega
  · split <;> omega

theorem byte_any (b : Int) (w : World) (h0 : 0 ≤ b) (h1 : b ≤ 255) :
    Calls Try.prog 42 #[.int .u8 b] w fun e w' => e = .returned (.int .u8 (foldI b)) ∧ w = w' := by
  by_cases ha : 65 ≤ b
  · by_cases hb : b ≤ 93
    · go_enter Try.func42, Try.ntmps42
      go_wp2
      go_ret
      exact ⟨ret_int (foldI_up ha hb).symm, rfl⟩
    · by_cases hc : b = 126
      · subst hc
        go_enter Try.func42, Try.ntmps42
        go_wp2
        go_ret
        exact ⟨ret_int (by simp [foldI]), rfl⟩
      · have hc' : (b == 126) = false := by simpa using hc
        go_enter Try.func42, Try.ntmps42
        go_wp2
        go_ret
        exact ⟨ret_int (foldI_hi (by omega) hc').symm, rfl⟩
  · have hc' : (b == 126) = false := by simp; omega
    go_enter Try.func42, Try.ntmps42
    go_wp2
    go_ret
    exact ⟨ret_int (foldI_lo (by omega)).symm, rfl⟩

theorem turns_any (b : Int) (w : World) (h0 : 0 ≤ b) (h1 : b ≤ 255) :
    Calls Try.prog 52 #[.int .u8 b] w fun e w' => e = .returned (.bool (foldI b != b)) ∧ w = w' := by
  go_enter Try.func52, Try.ntmps52
  go_wp2_with (go_at_call 42; refine (byte_any _ _ h0 h1).mono ?_; rintro e w' ⟨rfl, rfl⟩)
  go_ret
  exact ⟨rfl, rfl⟩

/-- what compares two numbers -/
def cmpI (a b : Int) : Int := if a < b then -1 else if b < a then 1 else 0
theorem cmpI_lt {a b : Int} (h : a < b) : cmpI a b = -1 := by rw [cmpI, if_pos h]
theorem cmpI_gt {a b : Int} (h : b < a) : cmpI a b = 1 := by rw [cmpI, if_neg (by omega), if_pos h]
theorem cmpI_eq {a b : Int} (h : a = b) : cmpI a b = 0 := by rw [cmpI, if_neg (by omega), if_neg (by omega)]
theorem cmpI_bd (a b : Int) : -1 ≤ cmpI a b ∧ cmpI a b ≤ 1 := by
  unfold cmpI; split
  · omega
  · split <;> omega




def foldB (b : UInt8) : UInt8 := if 65 ≤ b ∧ b ≤ 93 then b + 32 else if b = 126 then 94 else b
theorem foldB_nat (b : UInt8) : foldI (b.toNat : Int) = ((foldB b).toNat : Int) := by
  have hb := b.toNat_lt
  unfold foldB foldI
  by_cases h : 65 ≤ b ∧ b ≤ 93
  · rw [if_pos h]
    simp only [UInt8.le_iff_toNat_le] at h
    have e1 : (65 : UInt8).toNat = 65 := rfl
    have e2 : (93 : UInt8).toNat = 93 := rfl
    rw [e1, e2] at h
    rw [if_pos (by omega), UInt8.toNat_add]
    have e3 : (32 : UInt8).toNat = 32 := rfl
    omega
  · rw [if_neg h]
    simp only [UInt8.le_iff_toNat_le] at h
    have e1 : (65 : UInt8).toNat = 65 := rfl
    have e2 : (93 : UInt8).toNat = 93 := rfl
    rw [e1, e2] at h
    rw [if_neg (by omega)]
    by_cases h2 : b = 126
    · subst h2; rfl
    · rw [if_neg h2, if_neg]
      intro e
      apply h2
      apply UInt8.toNat_inj.mp
      have : (126 : UInt8).toNat = 126 := rfl
      omega
theorem byte_u8 (c : UInt8) (w : World) :
    Calls Try.prog 42 #[.int .u8 ↑c.toNat] w fun e w' => e = .returned (.int .u8 ↑(foldB c).toNat) ∧ w = w' :=
  (byte_any _ w (u8_bd c).1 (u8_bd c).2).mono fun _ _ h => by rw [foldB_nat] at h; exact h
theorem turns_u8 (c : UInt8) (w : World) :
    Calls Try.prog 52 #[.int .u8 ↑c.toNat] w fun e w' => e = .returned (.bool (foldB c != c)) ∧ w = w' :=
  (turns_any _ w (u8_bd c).1 (u8_bd c).2).mono fun _ _ h => by
    have e : (foldI (c.toNat : Int) != (c.toNat : Int)) = (foldB c != c) := by
      rw [foldB_nat, Bool.eq_iff_iff]
      simp only [bne_iff_ne, ne_eq]
      constructor
      · intro h1 h2; exact h1 (by rw [h2])
      · intro h1 h2; exact h1 (UInt8.toNat_inj.mp (by omega))
    rw [e] at h; exact h
end Go.Proofs.Ytfdaeajafmcjcaa
