/- fold.Compare: which of two texts stands ahead. -/
import Derived.Test.YtkifblbmppjicaaFoldA
import Derived.Deep.QuietTactic
import Derived.BigQuiet
import Derived.Outline
namespace Go.Proofs.Ytkifblbmppjicaa
open Go.RowKit

def foldL (l : List UInt8) : List UInt8 := l.map foldB
@[simp] theorem foldL_nil : foldL [] = [] := rfl
@[simp] theorem foldL_cons (x : UInt8) (l : List UInt8) : foldL (x :: l) = foldB x :: foldL l := rfl
@[simp] theorem foldL_length (l : List UInt8) : (foldL l).length = l.length := by simp [foldL]
@[simp] theorem foldL_append (a b : List UInt8) : foldL (a ++ b) = foldL a ++ foldL b := by simp [foldL]

/-- which of two rows of bytes stands ahead -/
def cmpL : List UInt8 → List UInt8 → Int
  | [], [] => 0
  | [], _ :: _ => -1
  | _ :: _, [] => 1
  | x :: xs, y :: ys => if x.toNat < y.toNat then -1 else if y.toNat < x.toNat then 1 else cmpL xs ys

theorem ba_drop (s : ByteArray) (k : Nat) (h : k < s.size) : s.data.toList.drop k = s[k] :: s.data.toList.drop (k + 1) := by
  rw [List.drop_eq_getElem_cons (by simpa using h)]; rfl
theorem ba_drop_end (s : ByteArray) (k : Nat) (h : s.size ≤ k) : s.data.toList.drop k = [] := by
  rw [List.drop_eq_nil_iff]; simpa using h
theorem ba_take (s : ByteArray) (k : Nat) (h : k < s.size) : s.data.toList.take (k + 1) = s.data.toList.take k ++ [s[k]] := by
  rw [List.take_succ_eq_append_getElem (by simpa using h)]; rfl
theorem ba_len (s : ByteArray) : s.data.toList.length = s.size := by simp

/-- two texts, folded, from a place on -/
def cmpAt (a b : ByteArray) (k : Nat) : Int := cmpL (foldL (a.data.toList.drop k)) (foldL (b.data.toList.drop k))
theorem cmpAt_stop {a b : ByteArray} {k : Nat} (ha : k < a.size) (hb : k < b.size) (h : cmpI ↑(foldB a[k]).toNat ↑(foldB b[k]).toNat ≠ 0) :
    cmpI ↑(foldB a[k]).toNat ↑(foldB b[k]).toNat = cmpAt a b k := by
  unfold cmpAt
  rw [ba_drop a k ha, ba_drop b k hb]
  simp only [foldL_cons, cmpL]
  unfold cmpI at *
  split
  · rw [if_pos (by omega)]
  · rename_i h1
    rw [if_neg h1] at h
    split
    · rw [if_neg (by omega), if_pos (by omega)]
    · rename_i h2; rw [if_neg h2] at h; exact absurd rfl h
theorem cmpAt_step {a b : ByteArray} {k : Nat} (ha : k < a.size) (hb : k < b.size) (h : cmpI ↑(foldB a[k]).toNat ↑(foldB b[k]).toNat = 0) :
    cmpAt a b (k + 1) = cmpAt a b k := by
  unfold cmpAt
  rw [ba_drop a k ha, ba_drop b k hb]
  simp only [foldL_cons, cmpL]
  unfold cmpI at h
  split at h
  · cases h
  · split at h
    · cases h
    · rw [if_neg (by omega), if_neg (by omega)]
theorem cmpAt_end {a b : ByteArray} {k : Nat} (h : k = a.size ∨ k = b.size) (ha : k ≤ a.size) (hb : k ≤ b.size) : cmpI ↑a.size ↑b.size = cmpAt a b k := by
  unfold cmpAt
  by_cases h1 : k < a.size
  · rw [ba_drop a k h1, ba_drop_end b k (by omega), cmpI_gt (by omega)]; rfl
  · rw [ba_drop_end a k (by omega)]
    by_cases h2 : k < b.size
    · rw [ba_drop b k h2, cmpI_lt (by omega)]; rfl
    · rw [ba_drop_end b k (by omega), cmpI_eq (by omega)]; rfl

set_option maxHeartbeats 400000 in
theorem compare_le (a b : ByteArray) (w : World) (_ha : a.size ≤ 1000000) (hb : b.size ≤ 1000000) (hab : a.size ≤ b.size) :
    Calls Try.prog 64 #[.string a, .string b] w fun e w' => e = .returned (.int .i64 (cmpAt a b 0)) ∧ ∃ n, w' = w.drewN n := by
  go_enter Try.func64, Try.ntmps64
  go_wp2_with fail
  go_loopw [5, 6, 12] (fun _ _ i wr => ∃ k : Nat, k ≤ a.size ∧ i = .int .i64 k ∧ cmpAt a b k = cmpAt a b 0 ∧ ∃ n, wr = w.drewN n) (fun _ _ i _ => a.size - (intOf i).toNat)
  case atStart => exact ⟨0, Nat.zero_le _, rfl, rfl, 0, rfl⟩
  case round =>
    obtain ⟨k, hk, rfl, hq, hw⟩ := hrel
    have Hw := Lib.hid hw
    have Hq := Lib.hid hq
    clear hw hq
    by_cases hlt : k < a.size
    · have hlt2 : k < b.size := by omega
      go_wp2_with fail
      go_quiet ((first | (go_at_call 55; refine Calls.quiet_of_same ((byte_u8 _ _).mono fun e w' h => ⟨h.1, h.2.symm⟩)) | (go_at_call 75; refine Calls.quiet_of_same ((cmpByte_any _ _ _).mono fun e w' h => ⟨h.1, h.2.symm⟩))))
      by_cases hc : cmpI ↑(foldB a[k]).toNat ↑(foldB b[k]).toNat = 0
      · have hs := (cmpAt_step hlt hlt2 hc).trans Hq.out
        have Hs := Lib.hid hs
        have hcb : (cmpI ↑(foldB a[k]).toNat ↑(foldB b[k]).toNat != 0) = false := by rw [hc]; rfl
        clear hs hc
        go_wp2
        go_roundw
        case rel => obtain ⟨n, rfl⟩ := Hw.out; exact ⟨k + 1, by omega, by go_num, Hs.out, n + nq, by rw [World.drewN_drewN]⟩
        case measure => simp [intOf]; omega
      · have hs := (cmpAt_stop hlt hlt2 hc).trans Hq.out
        have Hs := Lib.hid hs
        have hcb : (cmpI ↑(foldB a[k]).toNat ↑(foldB b[k]).toNat != 0) = true := by rw [bne_iff_ne]; exact hc
        clear hs hc
        go_wp2
        go_ret
        obtain ⟨n, rfl⟩ := Hw.out
        exact ⟨ret_int Hs.out, n + nq, by rw [World.drewN_drewN]⟩
    · have hs := (cmpAt_end (a := a) (b := b) (k := k) (by omega) hk (by omega)).trans Hq.out
      have Hs := Lib.hid hs
      clear hs
      go_wp2_with (go_at_call 76; refine (cmpInt_any _ _ _).mono ?_; rintro e w' ⟨rfl, rfl⟩)
      go_ret
      exact ⟨ret_int Hs.out, Hw.out⟩

set_option maxHeartbeats 400000 in
theorem compare_gt (a b : ByteArray) (w : World) (ha : a.size ≤ 1000000) (_hb : b.size ≤ 1000000) (hab : b.size < a.size) :
    Calls Try.prog 64 #[.string a, .string b] w fun e w' => e = .returned (.int .i64 (cmpAt a b 0)) ∧ ∃ n, w' = w.drewN n := by
  go_enter Try.func64, Try.ntmps64
  go_wp2_with fail
  go_loopw [5, 6, 12] (fun _ _ i wr => ∃ k : Nat, k ≤ b.size ∧ i = .int .i64 k ∧ cmpAt a b k = cmpAt a b 0 ∧ ∃ n, wr = w.drewN n) (fun _ _ i _ => b.size - (intOf i).toNat)
  case atStart => exact ⟨0, Nat.zero_le _, rfl, rfl, 0, rfl⟩
  case round =>
    obtain ⟨k, hk, rfl, hq, hw⟩ := hrel
    have Hw := Lib.hid hw
    have Hq := Lib.hid hq
    clear hw hq
    by_cases hlt2 : k < b.size
    · have hlt : k < a.size := by omega
      go_wp2_with fail
      go_quiet ((first | (go_at_call 55; refine Calls.quiet_of_same ((byte_u8 _ _).mono fun e w' h => ⟨h.1, h.2.symm⟩)) | (go_at_call 75; refine Calls.quiet_of_same ((cmpByte_any _ _ _).mono fun e w' h => ⟨h.1, h.2.symm⟩))))
      by_cases hc : cmpI ↑(foldB a[k]).toNat ↑(foldB b[k]).toNat = 0
      · have hs := (cmpAt_step hlt hlt2 hc).trans Hq.out
        have Hs := Lib.hid hs
        have hcb : (cmpI ↑(foldB a[k]).toNat ↑(foldB b[k]).toNat != 0) = false := by rw [hc]; rfl
        clear hs hc
        go_wp2
        go_roundw
        case rel => obtain ⟨n, rfl⟩ := Hw.out; exact ⟨k + 1, by omega, by go_num, Hs.out, n + nq, by rw [World.drewN_drewN]⟩
        case measure => simp [intOf]; omega
      · have hs := (cmpAt_stop hlt hlt2 hc).trans Hq.out
        have Hs := Lib.hid hs
        have hcb : (cmpI ↑(foldB a[k]).toNat ↑(foldB b[k]).toNat != 0) = true := by rw [bne_iff_ne]; exact hc
        clear hs hc
        go_wp2
        go_ret
        obtain ⟨n, rfl⟩ := Hw.out
        exact ⟨ret_int Hs.out, n + nq, by rw [World.drewN_drewN]⟩
    · have hs := (cmpAt_end (a := a) (b := b) (k := k) (by omega) (by omega) hk).trans Hq.out
      have Hs := Lib.hid hs
      clear hs
      go_wp2_with (go_at_call 76; refine (cmpInt_any _ _ _).mono ?_; rintro e w' ⟨rfl, rfl⟩)
      go_ret
      exact ⟨ret_int Hs.out, Hw.out⟩

/-- what compares two texts, folded -/
def cmpF (a b : List UInt8) : Int := cmpL (foldL a) (foldL b)
theorem compare_any (a b : ByteArray) (w : World) (ha : a.size ≤ 1000000) (hb : b.size ≤ 1000000) :
    Calls Try.prog 64 #[.string a, .string b] w fun e w' => e = .returned (.int .i64 (cmpF a.data.toList b.data.toList)) ∧ ∃ n, w' = w.drewN n := by
  have e : cmpAt a b 0 = cmpF a.data.toList b.data.toList := rfl
  by_cases h : a.size ≤ b.size
  · rw [← e]; exact compare_le a b w ha hb h
  · rw [← e]; exact compare_gt a b w ha hb (by omega)
end Go.Proofs.Ytkifblbmppjicaa
