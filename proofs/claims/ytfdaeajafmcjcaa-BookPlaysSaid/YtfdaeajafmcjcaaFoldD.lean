/- fold.Prefix; the document's Byte. -/
import Derived.Test.YtfdaeajafmcjcaaFoldC
namespace Go.Proofs.Ytfdaeajafmcjcaa
open Go.RowKit

theorem ba_extract0 (s : ByteArray) (n : Nat) : (s.extract 0 n).data.toList = s.data.toList.take n := by
  simp [ByteArray.data_extract]
theorem ba_extract_to (s : ByteArray) (n : Nat) : (s.extract n s.size).data.toList = s.data.toList.drop n := by
  simp only [ByteArray.data_extract, Array.toList_extract, List.extract_eq_take_drop]
  rw [List.take_of_length_le]; simp



def fromB : ByteArray := ⟨#[65, 66, 67, 68, 69, 70, 71, 72, 73, 74, 75, 76, 77, 78, 79, 80, 81, 82, 83, 84, 85, 86, 87, 88, 89, 90, 91, 93, 92, 126]⟩
def toB : ByteArray := ⟨#[97, 98, 99, 100, 101, 102, 103, 104, 105, 106, 107, 108, 109, 110, 111, 112, 113, 114, 115, 116, 117, 118, 119, 120, 121, 122, 123, 125, 124, 94]⟩
theorem from_found : ∀ k : Fin 30, foldB (fromB[k.1]'(k.2)) = toB[k.1]'(k.2) := by decide +kernel
theorem from_all : ∀ n : Fin 256, foldB (UInt8.ofNat n) = UInt8.ofNat n ∨ ∃ k : Fin 30, fromB[k.1]'(k.2) = UInt8.ofNat n := by decide +kernel
theorem from_none (b : UInt8) (h : ∀ k : Fin 30, fromB[k.1]'(k.2) ≠ b) : foldB b = b := by
  have := from_all ⟨b.toNat, b.toNat_lt⟩
  simp only [UInt8.ofNat_toNat] at this
  rcases this with h1 | ⟨k, hk⟩
  · exact h1
  · exact absurd hk (h k)

theorem refbyte (b : UInt8) (w : World) :
    Calls Try.prog 50 #[.int .u8 ↑b.toNat] w fun e w' => e = .returned (.int .u8 ↑(foldB b).toNat) ∧ w = w' := by
  obtain ⟨F, hF⟩ : ∃ F : ByteArray, F = fromB := ⟨_, rfl⟩
  obtain ⟨T, hT⟩ : ∃ T : ByteArray, T = toB := ⟨_, rfl⟩
  have hF1 : F.size = 30 := by rw [hF]; rfl
  have hT1 : T.size = 30 := by rw [hT]; rfl
  have hf1 : F.size ≤ 30 := by omega
  have hf2 : 30 ≤ F.size := by omega
  have ht1 : T.size ≤ 30 := by omega
  have ht2 : 30 ≤ T.size := by omega
  have hfound : ∀ k (h : k < F.size) (h' : k < T.size), F[k] = b → T[k] = foldB b := by
    intro k h h' e
    subst hF hT
    rw [← e]; exact (from_found ⟨k, by omega⟩).symm
  have hnone : (∀ k (h : k < F.size), F[k] ≠ b) → foldB b = b := by
    intro h
    subst hF
    exact from_none b fun k => h k.1 (by have := k.2; omega)
  have HF := Lib.hid hF
  have HT := Lib.hid hT
  have Hfound := Lib.hid hfound
  have Hnone := Lib.hid hnone
  clear hF hT hF1 hT1 hfound hnone
  go_enter Try.func50, Try.ntmps50
  go_wp2_with fail
  rw [show ({ data := #[65, 66, 67, 68, 69, 70, 71, 72, 73, 74, 75, 76, 77, 78, 79, 80, 81, 82, 83, 84, 85, 86, 87, 88, 89, 90, 91, 93, 92, 126] } : ByteArray) = F from HF.out.symm,
    show ({ data := #[97, 98, 99, 100, 101, 102, 103, 104, 105, 106, 107, 108, 109, 110, 111, 112, 113, 114, 115, 116, 117, 118, 119, 120, 121, 122, 123, 125, 124, 94] } : ByteArray) = T from HT.out.symm]
  go_loop [5] (fun i => ∃ k : Nat, k ≤ 30 ∧ i = .int .i64 k ∧ Hid (∀ j (h : j < F.size), j < k → F[j] ≠ b)) (fun i => 30 - (intOf i).toNat)
  case atStart => exact ⟨0, by omega, rfl, fun j _ h => absurd h (Nat.not_lt_zero j)⟩
  case round =>
    obtain ⟨k, hk, rfl, Hq⟩ := hrel
    by_cases hlt : k < 30
    · have hlF : k < F.size := by omega
      have hlT : k < T.size := by omega
      by_cases he : F[k] = b
      · have hr := Hfound.out k hlF hlT he
        have Hr := Lib.hid hr
        have heb : ((F[k].toNat : Int) == (b.toNat : Int)) = true := by rw [he]; simp
        clear hr he
        go_wp2
        go_ret
        exact ⟨ret_int (by rw [Hr.out]), rfl⟩
      · have heb : ((F[k].toNat : Int) == (b.toNat : Int)) = false := by
          rw [beq_eq_false_iff_ne]; intro h; exact he (UInt8.toNat_inj.mp (by omega))
        have He := Lib.hid he
        clear he
        go_wp2
        go_round
        case rel => exact ⟨k + 1, by omega, by go_num, fun j h hj => by
            by_cases hjk : j = k
            · subst hjk; exact He.out
            · exact Hq.out j h (by omega)⟩
        case measure => simp [intOf]; omega
    · have hr := Hnone.out (fun j h => Hq.out j h (by omega))
      have Hr := Lib.hid hr
      clear hr
      go_wp2
      go_ret
      exact ⟨ret_int (by rw [Hr.out]), rfl⟩
end Go.Proofs.Ytfdaeajafmcjcaa
