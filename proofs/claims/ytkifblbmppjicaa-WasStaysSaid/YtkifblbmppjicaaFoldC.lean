/- fold.Same, fold.Prefix; the document's Byte. -/
import Derived.Test.YtkifblbmppjicaaFoldB
namespace Go.Proofs.Ytkifblbmppjicaa
open Go.RowKit

theorem cmpL_zero : ∀ {a b : List UInt8}, cmpL a b = 0 ↔ a = b
  | [], [] => by simp [cmpL]
  | [], _ :: _ => by simp [cmpL]
  | _ :: _, [] => by simp [cmpL]
  | x :: xs, y :: ys => by
    simp only [cmpL, List.cons.injEq]
    by_cases h1 : x.toNat < y.toNat
    · rw [if_pos h1]; constructor
      · intro h; cases h
      · rintro ⟨rfl, _⟩; omega
    · rw [if_neg h1]
      by_cases h2 : y.toNat < x.toNat
      · rw [if_pos h2]; constructor
        · intro h; cases h
        · rintro ⟨rfl, _⟩; omega
      · rw [if_neg h2, cmpL_zero]
        have : x = y := UInt8.toNat_inj.mp (by omega)
        simp [this]

/-- are two texts alike? -/
def sameF (a b : List UInt8) : Bool := foldL a == foldL b
theorem sameF_iff {a b : List UInt8} : sameF a b = true ↔ foldL a = foldL b := by simp [sameF]
theorem sameF_len {a b : List UInt8} (h : a.length ≠ b.length) : sameF a b = false := by
  rw [Bool.eq_false_iff]; intro e
  rw [sameF_iff] at e
  have := congrArg List.length e
  simp at this; exact h this
theorem sameF_cmp (a b : List UInt8) : (cmpF a b == 0) = sameF a b := by
  rw [Bool.eq_iff_iff, sameF_iff, beq_iff_eq]; exact cmpL_zero

theorem same_any (a b : ByteArray) (w : World) (ha : a.size ≤ 1000000) (hb : b.size ≤ 1000000) :
    Calls Try.prog 52 #[.string a, .string b] w fun e w' => e = .returned (.bool (sameF a.data.toList b.data.toList)) ∧ ∃ n, w' = w.drewN n := by
  by_cases h : a.size = b.size
  · have h1 : ((a.size : Int) == (b.size : Int)) = true := by rw [h]; simp
    have H := Lib.hid h
    clear h
    go_enter Try.func52, Try.ntmps52
    go_wp2_with (go_at_call 64; refine (compare_any _ _ _ ha hb).mono ?_; rintro e w' ⟨rfl, hw⟩; have Hw := Lib.hid hw; clear hw)
    go_ret
    exact ⟨ret_bool (sameF_cmp _ _), Hw.out⟩
  · have h1 : ((a.size : Int) == (b.size : Int)) = false := by rw [beq_eq_false_iff_ne]; omega
    have hs := sameF_len (a := a.data.toList) (b := b.data.toList) (by simpa using h)
    have Hs := Lib.hid hs
    have H := Lib.hid h
    clear h hs
    go_enter Try.func52, Try.ntmps52
    go_wp2_with fail
    go_ret
    exact ⟨ret_bool Hs.out.symm, 0, rfl⟩
end Go.Proofs.Ytkifblbmppjicaa
