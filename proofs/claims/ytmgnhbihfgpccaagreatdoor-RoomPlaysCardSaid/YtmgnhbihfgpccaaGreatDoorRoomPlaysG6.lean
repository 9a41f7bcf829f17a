/- Texts of this proof, one behind the other. -/
import Derived.Test.YtmgnhbihfgpccaaGreatDoorRoomPlaysG5
import Derived.Deep.QuietTactic
import Derived.BigQuiet
import Derived.Outline
import Derived.Test.YtmgnhbihfgpccaaGreatDoorRoomPlaysG2
import Derived.Sort.CutIn
import Derived.Stop.RegionWithIn
import Derived.Shelf.RegionOpenPlain
import Derived.WalkMore
import Derived.Scope
set_option linter.unusedVariables false
set_option linter.unusedSimpArgs false
section
/- valid.Host, Server, Key and the answers' ones: both tell the same of any text. -/
namespace Go.Proofs.YtmgnhbihfgpccaaGreatDoor
open Go.RowKit

theorem isK59 (b : UInt8) : isK 59 b = (letterB b || digitB b || decide (b.toNat = 46) || decide (b.toNat = 45) || decide (b.toNat = 58)) := by
  have := all256 (p := fun b => isK 59 b == (letterB b || digitB b || decide (b.toNat = 46) || decide (b.toNat = 45) || decide (b.toNat = 58))) (by kernel_rfl) b
  simpa using this
theorem isK32 (b : UInt8) : isK 32 b = decide (b.toNat = 58) := by
  have := all256 (p := fun b => isK 32 b == decide (b.toNat = 58)) (by kernel_rfl) b
  simpa using this
theorem isK16 (b : UInt8) : isK 16 b = decide (b.toNat = 46) := by
  have := all256 (p := fun b => isK 16 b == decide (b.toNat = 46)) (by kernel_rfl) b
  simpa using this
theorem isK1 (b : UInt8) : isK 1 b = letterB b := by
  have := all256 (p := fun b => isK 1 b == letterB b) (by kernel_rfl) b
  simpa using this
theorem isK64 (b : UInt8) : isK 64 b = decide (b.toNat = 44) := by
  have := all256 (p := fun b => isK 64 b == decide (b.toNat = 44)) (by kernel_rfl) b
  simpa using this

/-- may a byte stand so in a host? -/
def hostAt (i : Nat) (b : UInt8) : Bool := letterB b || digitB b || decide (b.toNat = 46) || decide (b.toNat = 45) || (decide (b.toNat = 58) && decide (i ≠ 0))
def HostP (s : ByteArray) : Prop := (1 ≤ s.size ∧ s.size ≤ 63) ∧ ∀ i (h : i < s.size), hostAt i s[i] = true
def ServP (s : ByteArray) : Prop := HostP s ∧ (∃ h : 0 < s.size, letterB s[0] = true) ∧ inB s.data.toList 46 = true ∧ inB s.data.toList 58 = false
def KeyP (s : ByteArray) : Prop := (1 ≤ s.size ∧ s.size ≤ 23) ∧ (∀ i (h : i < s.size), (seen s[i] && !decide (s[i].toNat = 44)) = true) ∧ ∃ h : 0 < s.size, s[0].toNat ≠ 58
theorem u8_eq {b : UInt8} {n : Nat} (hn : n < 256) : b.toNat = n ↔ b = n.toUInt8 := by
  constructor
  · intro h; rw [← h]; simp
  · intro h; rw [h]; simp; omega
theorem allI_noneB (s : ByteArray) (c : UInt8) : allI s (fun _ b => !decide (b.toNat = c.toNat)) = !inB s.data.toList c := by
  rw [Bool.eq_iff_iff, allI_iff]
  constructor
  · intro h
    rw [Bool.not_eq_true']
    symm
    exact inB_no (Nat.le_refl _) fun i _ hi e => by have := h i hi; rw [e] at this; simp at this
  · intro h i hi
    rw [Bool.not_eq_true'] at h
    by_cases e : s[i] = c
    · have := inB_yes hi e; rw [h] at this; cases this
    · simp; intro e2; exact e (UInt8.toNat_inj.mp e2)







end Go.Proofs.YtmgnhbihfgpccaaGreatDoor
end
section
/- fold.Compare: which of two texts stands ahead. -/
namespace Go.Proofs.YtmgnhbihfgpccaaGreatDoor
open Go.RowKit

def foldL (l : List UInt8) : List UInt8 := l.map foldB
@[simp] theorem foldL_nil : foldL [] = [] := rfl
@[simp] theorem foldL_cons (x : UInt8) (l : List UInt8) : foldL (x :: l) = foldB x :: foldL l := rfl
@[simp] theorem foldL_length (l : List UInt8) : (foldL l).length = l.length := by simp [foldL]
@[simp] theorem foldL_append (a b : List UInt8) : foldL (a ++ b) = foldL a ++ foldL b := by simp [foldL]

/-- which of two rows of bytes stands ahead -/
def cmpL : List UInt8 → List UInt8 → Int
  | [], [] => 0
  | [], _ :: _ => -1
  | _ :: _, [] => 1
  | x :: xs, y :: ys => if x.toNat < y.toNat then -1 else if y.toNat < x.toNat then 1 else cmpL xs ys

theorem ba_drop (s : ByteArray) (k : Nat) (h : k < s.size) : s.data.toList.drop k = s[k] :: s.data.toList.drop (k + 1) := by
  rw [List.drop_eq_getElem_cons (by simpa using h)]; rfl
theorem ba_drop_end (s : ByteArray) (k : Nat) (h : s.size ≤ k) : s.data.toList.drop k = [] := by
  rw [List.drop_eq_nil_iff]; simpa using h
theorem ba_take (s : ByteArray) (k : Nat) (h : k < s.size) : s.data.toList.take (k + 1) = s.data.toList.take k ++ [s[k]] := by
  rw [List.take_succ_eq_append_getElem (by simpa using h)]; rfl
theorem ba_len (s : ByteArray) : s.data.toList.length = s.size := by simp

/-- two texts, folded, from a place on -/
def cmpAt (a b : ByteArray) (k : Nat) : Int := cmpL (foldL (a.data.toList.drop k)) (foldL (b.data.toList.drop k))
theorem cmpAt_stop {a b : ByteArray} {k : Nat} (ha : k < a.size) (hb : k < b.size) (h : cmpI ↑(foldB a[k]).toNat ↑(foldB b[k]).toNat ≠ 0) :
    cmpI ↑(foldB a[k]).toNat ↑(foldB b[k]).toNat = cmpAt a b k := by
  unfold cmpAt
  rw [ba_drop a k ha, ba_drop b k hb]
  simp only [foldL_cons, cmpL]
  unfold cmpI at *
  split
  · rw [if_pos (by omega)]
  · rename_i h1
    rw [if_neg h1] at h
    split
    · rw [if_neg (by omega), if_pos (by omega)]
    · rename_i h2; rw [if_neg h2] at h; exact absurd rfl h
theorem cmpAt_step {a b : ByteArray} {k : Nat} (ha : k < a.size) (hb : k < b.size) (h : cmpI ↑(foldB a[k]).toNat ↑(foldB b[k]).toNat = 0) :
    cmpAt a b (k + 1) = cmpAt a b k := by
  unfold cmpAt
  rw [ba_drop a k ha, ba_drop b k hb]
  simp only [foldL_cons, cmpL]
  unfold cmpI at h
  split at h
  · cases h
  · split at h
    · cases h
    · rw [if_neg (by omega), if_neg (by omega)]
theorem cmpAt_end {a b : ByteArray} {k : Nat} (h : k = a.size ∨ k = b.size) (ha : k ≤ a.size) (hb : k ≤ b.size) : cmpI ↑a.size ↑b.size = cmpAt a b k := by
  unfold cmpAt
  by_cases h1 : k < a.size
  · rw [ba_drop a k h1, ba_drop_end b k (by omega), cmpI_gt (by omega)]; rfl
  · rw [ba_drop_end a k (by omega)]
    by_cases h2 : k < b.size
    · rw [ba_drop b k h2, cmpI_lt (by omega)]; rfl
    · rw [ba_drop_end b k (by omega), cmpI_eq (by omega)]; rfl

set_option maxHeartbeats 400000 in
theorem compare_le (a b : ByteArray) (w : World) (_ha : a.size ≤ 1000000) (hb : b.size ≤ 1000000) (hab : a.size ≤ b.size) :
    Calls Tryz.prog 111 #[.string a, .string b] w fun e w' => e = .returned (.int .i64 (cmpAt a b 0)) ∧ ∃ n, w' = w.drewN n := by
  go_enter Tryz.func111, Tryz.ntmps111
  go_wp2_with fail
  go_loopw [5, 6, 12] (fun _ _ i wr => ∃ k : Nat, k ≤ a.size ∧ i = .int .i64 k ∧ cmpAt a b k = cmpAt a b 0 ∧ ∃ n, wr = w.drewN n) (fun _ _ i _ => a.size - (Go.RowKit.intOf i).toNat)
  case atStart => exact ⟨0, Nat.zero_le _, rfl, rfl, 0, rfl⟩
  case round =>
    obtain ⟨k, hk, rfl, hq, hw⟩ := hrel
    have Hw := Lib.hid hw
    have Hq := Lib.hid hq
    clear hw hq
    by_cases hlt : k < a.size
    · have hlt2 : k < b.size := by omega
      go_wp2_with fail
      go_quiet ((first | (go_at_call 142; refine Calls.quiet_of_same ((byte_u8 _ _).mono fun e w' h => ⟨h.1, h.2.symm⟩)) | (go_at_call 141; refine Calls.quiet_of_same ((cmpByte_any _ _ _).mono fun e w' h => ⟨h.1, h.2.symm⟩))))
      by_cases hc : cmpI ↑(foldB a[k]).toNat ↑(foldB b[k]).toNat = 0
      · have hs := (cmpAt_step hlt hlt2 hc).trans Hq.out
        have Hs := Lib.hid hs
        have hcb : (cmpI ↑(foldB a[k]).toNat ↑(foldB b[k]).toNat != 0) = false := by rw [hc]; rfl
        clear hs hc
        go_wp2
        go_roundw
        case rel => obtain ⟨n, rfl⟩ := Hw.out; exact ⟨k + 1, by omega, by go_num, Hs.out, n + nq, by rw [World.drewN_drewN]⟩
        case measure => simp [Go.RowKit.intOf]; omega
      · have hs := (cmpAt_stop hlt hlt2 hc).trans Hq.out
        have Hs := Lib.hid hs
        have hcb : (cmpI ↑(foldB a[k]).toNat ↑(foldB b[k]).toNat != 0) = true := by rw [bne_iff_ne]; exact hc
        clear hs hc
        go_wp2
        go_ret
        obtain ⟨n, rfl⟩ := Hw.out
        exact ⟨ret_int Hs.out, n + nq, by rw [World.drewN_drewN]⟩
    · have hs := (cmpAt_end (a := a) (b := b) (k := k) (by omega) hk (by omega)).trans Hq.out
      have Hs := Lib.hid hs
      clear hs
      go_wp2_with (go_at_call 69; refine (cmpInt_any _ _ _).mono ?_; rintro e w' ⟨rfl, rfl⟩)
      go_ret
      exact ⟨ret_int Hs.out, Hw.out⟩

set_option maxHeartbeats 400000 in
theorem compare_gt (a b : ByteArray) (w : World) (ha : a.size ≤ 1000000) (_hb : b.size ≤ 1000000) (hab : b.size < a.size) :
    Calls Tryz.prog 111 #[.string a, .string b] w fun e w' => e = .returned (.int .i64 (cmpAt a b 0)) ∧ ∃ n, w' = w.drewN n := by
  go_enter Tryz.func111, Tryz.ntmps111
  go_wp2_with fail
  go_loopw [5, 6, 12] (fun _ _ i wr => ∃ k : Nat, k ≤ b.size ∧ i = .int .i64 k ∧ cmpAt a b k = cmpAt a b 0 ∧ ∃ n, wr = w.drewN n) (fun _ _ i _ => b.size - (Go.RowKit.intOf i).toNat)
  case atStart => exact ⟨0, Nat.zero_le _, rfl, rfl, 0, rfl⟩
  case round =>
    obtain ⟨k, hk, rfl, hq, hw⟩ := hrel
    have Hw := Lib.hid hw
    have Hq := Lib.hid hq
    clear hw hq
    by_cases hlt2 : k < b.size
    · have hlt : k < a.size := by omega
      go_wp2_with fail
      go_quiet ((first | (go_at_call 142; refine Calls.quiet_of_same ((byte_u8 _ _).mono fun e w' h => ⟨h.1, h.2.symm⟩)) | (go_at_call 141; refine Calls.quiet_of_same ((cmpByte_any _ _ _).mono fun e w' h => ⟨h.1, h.2.symm⟩))))
      by_cases hc : cmpI ↑(foldB a[k]).toNat ↑(foldB b[k]).toNat = 0
      · have hs := (cmpAt_step hlt hlt2 hc).trans Hq.out
        have Hs := Lib.hid hs
        have hcb : (cmpI ↑(foldB a[k]).toNat ↑(foldB b[k]).toNat != 0) = false := by rw [hc]; rfl
        clear hs hc
        go_wp2
        go_roundw
        case rel => obtain ⟨n, rfl⟩ := Hw.out; exact ⟨k + 1, by omega, by go_num, Hs.out, n + nq, by rw [World.drewN_drewN]⟩
        case measure => simp [Go.RowKit.intOf]; omega
      · have hs := (cmpAt_stop hlt hlt2 hc).trans Hq.out
        have Hs := Lib.hid hs
        have hcb : (cmpI ↑(foldB a[k]).toNat ↑(foldB b[k]).toNat != 0) = true := by rw [bne_iff_ne]; exact hc
        clear hs hc
        go_wp2
        go_ret
        obtain ⟨n, rfl⟩ := Hw.out
        exact ⟨ret_int Hs.out, n + nq, by rw [World.drewN_drewN]⟩
    · have hs := (cmpAt_end (a := a) (b := b) (k := k) (by omega) (by omega) hk).trans Hq.out
      have Hs := Lib.hid hs
      clear hs
      go_wp2_with (go_at_call 69; refine (cmpInt_any _ _ _).mono ?_; rintro e w' ⟨rfl, rfl⟩)
      go_ret
      exact ⟨ret_int Hs.out, Hw.out⟩

/-- what compares two texts, folded -/
def cmpF (a b : List UInt8) : Int := cmpL (foldL a) (foldL b)
theorem compare_any (a b : ByteArray) (w : World) (ha : a.size ≤ 1000000) (hb : b.size ≤ 1000000) :
    Calls Tryz.prog 111 #[.string a, .string b] w fun e w' => e = .returned (.int .i64 (cmpF a.data.toList b.data.toList)) ∧ ∃ n, w' = w.drewN n := by
  have e : cmpAt a b 0 = cmpF a.data.toList b.data.toList := rfl
  by_cases h : a.size ≤ b.size
  · rw [← e]; exact compare_le a b w ha hb h
  · rw [← e]; exact compare_gt a b w ha hb (by omega)
end Go.Proofs.YtmgnhbihfgpccaaGreatDoor
end
section
/- fold.Same, fold.Prefix; the document's Byte. -/
namespace Go.Proofs.YtmgnhbihfgpccaaGreatDoor
open Go.RowKit

theorem cmpL_zero : ∀ {a b : List UInt8}, cmpL a b = 0 ↔ a = b
  | [], [] => by simp [cmpL]
  | [], _ :: _ => by simp [cmpL]
  | _ :: _, [] => by simp [cmpL]
  | x :: xs, y :: ys => by
    simp only [cmpL, List.cons.injEq]
    by_cases h1 : x.toNat < y.toNat
    · rw [if_pos h1]; constructor
      · intro h; cases h
      · rintro ⟨rfl, _⟩; omega
    · rw [if_neg h1]
      by_cases h2 : y.toNat < x.toNat
      · rw [if_pos h2]; constructor
        · intro h; cases h
        · rintro ⟨rfl, _⟩; omega
      · rw [if_neg h2, cmpL_zero]
        have : x = y := UInt8.toNat_inj.mp (by omega)
        simp [this]

/-- are two texts alike? -/
def sameF (a b : List UInt8) : Bool := foldL a == foldL b
theorem sameF_iff {a b : List UInt8} : sameF a b = true ↔ foldL a = foldL b := by simp [sameF]
theorem sameF_len {a b : List UInt8} (h : a.length ≠ b.length) : sameF a b = false := by
  rw [Bool.eq_false_iff]; intro e
  rw [sameF_iff] at e
  have := congrArg List.length e
  simp at this; exact h this
theorem sameF_cmp (a b : List UInt8) : (cmpF a b == 0) = sameF a b := by
  rw [Bool.eq_iff_iff, sameF_iff, beq_iff_eq]; exact cmpL_zero

theorem same_any (a b : ByteArray) (w : World) (ha : a.size ≤ 1000000) (hb : b.size ≤ 1000000) :
    Calls Tryz.prog 81 #[.string a, .string b] w fun e w' => e = .returned (.bool (sameF a.data.toList b.data.toList)) ∧ ∃ n, w' = w.drewN n := by
  by_cases h : a.size = b.size
  · have h1 : ((a.size : Int) == (b.size : Int)) = true := by rw [h]; simp
    have H := Lib.hid h
    clear h
    go_enter Tryz.func81, Tryz.ntmps81
    go_wp2_with (go_at_call 111; refine (compare_any _ _ _ ha hb).mono ?_; rintro e w' ⟨rfl, hw⟩; have Hw := Lib.hid hw; clear hw)
    go_ret
    exact ⟨ret_bool (sameF_cmp _ _), Hw.out⟩
  · have h1 : ((a.size : Int) == (b.size : Int)) = false := by rw [beq_eq_false_iff_ne]; omega
    have hs := sameF_len (a := a.data.toList) (b := b.data.toList) (by simpa using h)
    have Hs := Lib.hid hs
    have H := Lib.hid h
    clear h hs
    go_enter Tryz.func81, Tryz.ntmps81
    go_wp2_with fail
    go_ret
    exact ⟨ret_bool Hs.out.symm, 0, rfl⟩
end Go.Proofs.YtmgnhbihfgpccaaGreatDoor
end
section
/- fold.Prefix; the document's Byte. -/
namespace Go.Proofs.YtmgnhbihfgpccaaGreatDoor
open Go.RowKit

theorem ba_extract0 (s : ByteArray) (n : Nat) : (s.extract 0 n).data.toList = s.data.toList.take n := by
  simp [ByteArray.data_extract]
theorem ba_extract_to (s : ByteArray) (n : Nat) : (s.extract n s.size).data.toList = s.data.toList.drop n := by
  simp only [ByteArray.data_extract, Array.toList_extract, List.extract_eq_take_drop]
  rw [List.take_of_length_le]; simp



def fromB : ByteArray := ⟨#[65, 66, 67, 68, 69, 70, 71, 72, 73, 74, 75, 76, 77, 78, 79, 80, 81, 82, 83, 84, 85, 86, 87, 88, 89, 90, 91, 93, 92, 126]⟩
def toB : ByteArray := ⟨#[97, 98, 99, 100, 101, 102, 103, 104, 105, 106, 107, 108, 109, 110, 111, 112, 113, 114, 115, 116, 117, 118, 119, 120, 121, 122, 123, 125, 124, 94]⟩
theorem from_found : ∀ k : Fin 30, foldB (fromB[k.1]'(k.2)) = toB[k.1]'(k.2) := by decide +kernel
theorem from_all : ∀ n : Fin 256, foldB (UInt8.ofNat n) = UInt8.ofNat n ∨ ∃ k : Fin 30, fromB[k.1]'(k.2) = UInt8.ofNat n := by decide +kernel
theorem from_none (b : UInt8) (h : ∀ k : Fin 30, fromB[k.1]'(k.2) ≠ b) : foldB b = b := by
  have := from_all ⟨b.toNat, b.toNat_lt⟩
  simp only [UInt8.ofNat_toNat] at this
  rcases this with h1 | ⟨k, hk⟩
  · exact h1
  · exact absurd hk (h k)

theorem refbyte (b : UInt8) (w : World) :
    Calls Tryz.prog 58 #[.int .u8 ↑b.toNat] w fun e w' => e = .returned (.int .u8 ↑(foldB b).toNat) ∧ w = w' := by
  obtain ⟨F, hF⟩ : ∃ F : ByteArray, F = fromB := ⟨_, rfl⟩
  obtain ⟨T, hT⟩ : ∃ T : ByteArray, T = toB := ⟨_, rfl⟩
  have hF1 : F.size = 30 := by rw [hF]; rfl
  have hT1 : T.size = 30 := by rw [hT]; rfl
  have hf1 : F.size ≤ 30 := by omega
  have hf2 : 30 ≤ F.size := by omega
  have ht1 : T.size ≤ 30 := by omega
  have ht2 : 30 ≤ T.size := by omega
  have hfound : ∀ k (h : k < F.size) (h' : k < T.size), F[k] = b → T[k] = foldB b := by
    intro k h h' e
    subst hF hT
    rw [← e]; exact (from_found ⟨k, by omega⟩).symm
  have hnone : (∀ k (h : k < F.size), F[k] ≠ b) → foldB b = b := by
    intro h
    subst hF
    exact from_none b fun k => h k.1 (by have := k.2; omega)
  have HF := Lib.hid hF
  have HT := Lib.hid hT
  have Hfound := Lib.hid hfound
  have Hnone := Lib.hid hnone
  clear hF hT hF1 hT1 hfound hnone
  go_enter Tryz.func58, Tryz.ntmps58
  go_wp2_with fail
  rw [show ({ data := #[65, 66, 67, 68, 69, 70, 71, 72, 73, 74, 75, 76, 77, 78, 79, 80, 81, 82, 83, 84, 85, 86, 87, 88, 89, 90, 91, 93, 92, 126] } : ByteArray) = F from HF.out.symm,
    show ({ data := #[97, 98, 99, 100, 101, 102, 103, 104, 105, 106, 107, 108, 109, 110, 111, 112, 113, 114, 115, 116, 117, 118, 119, 120, 121, 122, 123, 125, 124, 94] } : ByteArray) = T from HT.out.symm]
  go_loop [5] (fun i => ∃ k : Nat, k ≤ 30 ∧ i = .int .i64 k ∧ Hid (∀ j (h : j < F.size), j < k → F[j] ≠ b)) (fun i => 30 - (Go.RowKit.intOf i).toNat)
  case atStart => exact ⟨0, by omega, rfl, fun j _ h => absurd h (Nat.not_lt_zero j)⟩
  case round =>
    obtain ⟨k, hk, rfl, Hq⟩ := hrel
    by_cases hlt : k < 30
    · have hlF : k < F.size := by omega
      have hlT : k < T.size := by omega
      by_cases he : F[k] = b
      · have hr := Hfound.out k hlF hlT he
        have Hr := Lib.hid hr
        have heb : ((F[k].toNat : Int) == (b.toNat : Int)) = true := by rw [he]; simp
        clear hr he
        go_wp2
        go_ret
        exact ⟨ret_int (by rw [Hr.out]), rfl⟩
      · have heb : ((F[k].toNat : Int) == (b.toNat : Int)) = false := by
          rw [beq_eq_false_iff_ne]; intro h; exact he (UInt8.toNat_inj.mp (by omega))
        have He := Lib.hid he
        clear he
        go_wp2
        go_round
        case rel => exact ⟨k + 1, by omega, by go_num, fun j h hj => by
            by_cases hjk : j = k
            · subst hjk; exact He.out
            · exact Hq.out j h (by omega)⟩
        case measure => simp [Go.RowKit.intOf]; omega
    · have hr := Hnone.out (fun j h => Hq.out j h (by omega))
      have Hr := Lib.hid hr
      clear hr
      go_wp2
      go_ret
      exact ⟨ret_int (by rw [Hr.out]), rfl⟩
end Go.Proofs.YtmgnhbihfgpccaaGreatDoor
end
section
/- fold.Runs: the pieces of a text, one by one, as a function that ranges. -/
namespace Go.Proofs.YtmgnhbihfgpccaaGreatDoor
open Go.RowKit Go.Shelf
attribute [local go_sem] Oper.semAt_some

/-- a piece: its text, and whether its bytes are changed by folding -/
abbrev Piece := { x : ByteArray × Bool // x.1.size ≤ 1000000 }
abbrev encPiece (x : Piece) : Array Value := #[.string x.1.1, .bool x.1.2]
def tb (b : UInt8) : Bool := foldB b != b

def flat : List Piece → List UInt8
  | [] => []
  | x :: r => x.1.1.data.toList ++ flat r
theorem flat_snoc (l : List Piece) (x : Piece) : flat (l ++ [x]) = flat l ++ x.1.1.data.toList := by
  induction l with
  | nil => simp [flat]
  | cons y r ih => simp [flat, ih]
/-- is the next piece as it must be behind these: not empty, of one sort, of the other sort than the last one? -/
def okNext (pre : List Piece) (x : Piece) : Prop :=
  x.1.1.size ≠ 0 ∧ (∀ b ∈ x.1.1.data.toList, tb b = x.1.2) ∧ ∀ y, pre.getLast? = some y → x.1.2 ≠ y.1.2
/-- are pieces as they must be, each behind those ahead of it? -/
def okAll : List Piece → Prop
  | l => ∀ a x r, l = a ++ x :: r → okNext a x
theorem okAll_nil : okAll [] := by intro a x r h; simp at h
theorem okAll_snoc {l : List Piece} {x : Piece} : okAll (l ++ [x]) ↔ okAll l ∧ okNext l x := by
  constructor
  · intro h
    exact ⟨fun a y r e => h a y (r ++ [x]) (by rw [e]; simp), h l x [] rfl⟩
  · rintro ⟨h1, h2⟩ a y r e
    rcases List.eq_nil_or_concat r with rfl | ⟨r', z, rfl⟩
    · have : l ++ [x] = a ++ [y] := e
      obtain ⟨e1, e2⟩ := List.append_inj' this rfl
      simp at e2
      subst e1 e2; exact h2
    · have : l ++ [x] = (a ++ y :: r') ++ [z] := by rw [e]; simp
      obtain ⟨e1, e2⟩ := List.append_inj' this rfl
      exact h1 a y r' e1

/-- how far the pieces have come: what they are of, what is left -/
def RunsAt (l : List UInt8) (pre : List Piece) (rest : List UInt8) : Prop :=
  flat pre ++ rest = l ∧ okAll pre ∧ ∀ y b r, pre.getLast? = some y → rest = b :: r → tb b ≠ y.1.2

theorem flat_len {pre : List Piece} (h : okAll pre) : pre.length ≤ (flat pre).length := by
  induction pre using snoc_ind with
  | nil => simp
  | snoc l x ih =>
    rw [okAll_snoc] at h
    have := ih h.1
    have hx := h.2.1
    rw [flat_snoc]
    simp; omega

theorem runsAt_nil (l : List UInt8) : RunsAt l [] l := ⟨by simp [flat], okAll_nil, by intro y b r h; simp at h⟩

theorem RunsAt.snoc {l : List UInt8} {pre : List Piece} {p q : List UInt8} {t : Bool} (h : RunsAt l pre (p ++ q)) (hp : p ≠ [])
    (ht : ∀ b ∈ p, tb b = t) (hq : ∀ b r, q = b :: r → tb b ≠ t) (x : Piece) (hx : x.1 = (bs p, t)) : RunsAt l (pre ++ [x]) q := by
  obtain ⟨h1, h2, h3⟩ := h
  refine ⟨?_, okAll_snoc.2 ⟨h2, ?_⟩, ?_⟩
  · rw [flat_snoc, hx]; simpa using h1
  · refine ⟨?_, ?_, ?_⟩
    · rw [hx]; simp; exact hp
    · rw [hx]; simpa using ht
    · intro y hy
      rw [hx]
      obtain ⟨b, p', rfl⟩ := List.exists_cons_of_ne_nil hp
      have := h3 y b (p' ++ q) hy rfl
      rw [ht b (by simp)] at this
      exact this
  · intro y b r hy hr
    simp at hy
    subst hy
    rw [hx]
    exact hq b r hr

theorem RunsAt.bound {l : List UInt8} {pre : List Piece} {b : UInt8} {r : List UInt8} (h : RunsAt l pre (b :: r)) : pre.length < l.length := by
  have := flat_len h.2.1
  rw [← h.1]; simp; omega

theorem all_take (R : ByteArray) (t : Bool) (k : Nat) (hk : k ≤ R.size) (h : ∀ j (h : j < R.size), j < k → tb R[j] = t) : ∀ b ∈ R.data.toList.take k, tb b = t := by
  intro b hb
  obtain ⟨j, hj, rfl⟩ := List.mem_iff_getElem.1 hb
  simp only [List.length_take, ba_len] at hj
  rw [List.getElem_take]
  exact h j (by omega) (by omega)

theorem RunsAt.cut {l : List UInt8} {pre : List Piece} {R : ByteArray} (h : RunsAt l pre R.data.toList) (k : Nat) (hk : k < R.size) (t : Bool) (h0 : t = tb (R[0]'(by omega)))
    (ha : ∀ j (h : j < R.size), j < k → tb R[j] = t) (hn : tb R[k] ≠ t) (x : Piece) (hx : x.1 = (R.extract 0 k, t)) : RunsAt l (pre ++ [x]) (R.extract k R.size).data.toList := by
  have hk0 : k ≠ 0 := by rintro rfl; exact hn h0.symm
  rw [ba_extract_to]
  refine RunsAt.snoc (p := R.data.toList.take k) (t := t) (by rw [List.take_append_drop]; exact h) ?_ (all_take R t k (by omega) ha) ?_ x ?_
  · intro e
    have := congrArg List.length e
    rw [List.length_take, ba_len, List.length_nil] at this
    omega
  · intro b r e
    rw [ba_drop R k hk] at e
    cases e
    exact hn
  · rw [hx, ← ba_extract0]; rfl

theorem RunsAt.last {l : List UInt8} {pre : List Piece} {R : ByteArray} (h : RunsAt l pre R.data.toList) (hk : 0 < R.size) (t : Bool)
    (ha : ∀ j (h : j < R.size), j < R.size → tb R[j] = t) (x : Piece) (hx : x.1 = (R, t)) : RunsAt l (pre ++ [x]) [] := by
  refine RunsAt.snoc (p := R.data.toList) (t := t) (by rw [List.append_nil]; exact h) ?_ ?_ (by intro b r e; cases e) x (by rw [hx]; rfl)
  · intro e
    have := congrArg List.length e
    rw [ba_len, List.length_nil] at this
    omega
  · have := all_take R t R.size (Nat.le_refl _) ha
    rw [List.take_of_length_le (by rw [ba_len]; exact Nat.le_refl _)] at this
    exact this
end Go.Proofs.YtmgnhbihfgpccaaGreatDoor
end
section
/- fold.Runs: the walk of its function that ranges. -/
namespace Go.Proofs.YtmgnhbihfgpccaaGreatDoor
open Go.RowKit Go.Shelf
attribute [local go_sem] Oper.semAt_some



end Go.Proofs.YtmgnhbihfgpccaaGreatDoor
end
section
/- fold.Text: what is folded. -/
namespace Go.Proofs.YtmgnhbihfgpccaaGreatDoor
open Go.RowKit Go.Shelf
attribute [local go_sem] Oper.semAt_some

/-- bytes as cells -/
def u8s (l : List UInt8) : List Value := l.map fun b => Value.int .u8 b.toNat
theorem u8s_append (a b : List UInt8) : u8s (a ++ b) = u8s a ++ u8s b := by simp [u8s]
theorem u8s_bytes (s : ByteArray) : byteCells s = u8s s.data.toList := rfl

theorem u8s_step (a : List UInt8) (p : ByteArray) (k : Nat) (h : k < p.size) :
    u8s (a ++ (p.data.toList.map foldB).take (k + 1)) = u8s (a ++ (p.data.toList.map foldB).take k) ++ [.int .u8 (foldB p[k]).toNat] := by
  rw [← List.map_take, ba_take p k h, List.map_append, ← List.append_assoc, u8s_append, List.map_take]
  rfl

/-- what pieces are folded to -/
def tx (pre : List Piece) : List UInt8 := pre.flatMap fun x => if x.1.2 then x.1.1.data.toList.map foldB else x.1.1.data.toList
theorem tx_snoc (pre : List Piece) (x : Piece) : tx (pre ++ [x]) = tx pre ++ (if x.1.2 then x.1.1.data.toList.map foldB else x.1.1.data.toList) := by simp [tx]
theorem tx_len (pre : List Piece) : (tx pre).length ≤ pre.length * 1000000 := by
  induction pre using snoc_ind with
  | nil => simp [tx]
  | snoc l x ih =>
    rw [tx_snoc, List.length_append]
    have hx := x.2
    have e : (if x.1.2 then x.1.1.data.toList.map foldB else x.1.1.data.toList).length = x.1.1.size := by split <;> simp
    rw [e]
    simp only [List.length_append, List.length_cons, List.length_nil]
    omega
theorem tx_fold {pre : List Piece} (h : okAll pre) : tx pre = foldL (flat pre) := by
  induction pre using snoc_ind with
  | nil => rfl
  | snoc l x ih =>
    rw [okAll_snoc] at h
    rw [tx_snoc, flat_snoc, foldL_append, ih h.1]
    congr 1
    obtain ⟨_, hb, _⟩ := h.2
    cases hx : x.1.2 with
    | true => simp [foldL]
    | false =>
      rw [hx] at hb
      simp only [Bool.false_eq_true, if_false]
      unfold foldL
      have : ∀ l : List UInt8, (∀ b ∈ l, tb b = false) → l = l.map foldB := by
        intro l
        induction l with
        | nil => intro _; rfl
        | cons b r ih =>
          intro h
          have hb := h b (by simp)
          simp only [tb, bne_eq_false_iff_eq] at hb
          rw [List.map_cons, hb, ← ih fun c hc => h c (by simp [hc])]
      exact this _ hb

/-- 'out = append(out, ..)' onto a box's own row: what the walk owes. -/
theorem boxed_app {W w1 : World} {n₀ B : Nat} {t e : TypeId} {size g cap k m : Nat} {v' : Value} {xs ys : List Value} (hv : Boxed W B t (.slice (some ⟨g, 0, none⟩) k cap)) (hte : t ≠ e)
    (hrow : W.ownsRow n₀ e size (.slice (some ⟨g, 0, none⟩) k cap) k xs) (hn₀ : n₀ ≤ W.heap.size) (hB : n₀ ≤ B) (hown' : w1.ownsRow n₀ e size v' m ys) (hgrow : W.grownBy w1 (some g)) :
    Boxed w1 B t (.slice (some ⟨g, 0, none⟩) k cap) ∧ Boxed (w1.setCell ⟨B, 0, none⟩ v') B t v' ∧ (w1.setCell ⟨B, 0, none⟩ v').ownsRow n₀ e size v' m ys ∧ KeepsOthers W (w1.setCell ⟨B, 0, none⟩ v') ∧ Below n₀ W (w1.setCell ⟨B, 0, none⟩ v') := by
  have hv1 : Boxed w1 B t (.slice (some ⟨g, 0, none⟩) k cap) := hv.kept hgrow (hv.not_row hte hrow)
  rcases hrow.2 with ⟨h, _⟩ | ⟨g0, cap0, cur, h, hb, hgb, _⟩
  · cases h
  · simp only [Value.slice.injEq, Option.some.injEq, Addr.mk.injEq, true_and, and_true] at h
    obtain ⟨rfl, rfl⟩ := h
    refine ⟨hv1, hv1.set v', hown'.kept (grownBy_setCell' w1 B v') (.inr (hv1.not_row hte hown').symm), ?_, ?_⟩
    · refine (KeepsOthers.of_grownBy hgrow fun j o ej hj => ?_).trans (KeepsOthers.setCell _ _ _)
      cases ej
      rw [hgb] at hj; cases hj; rfl
    · refine ((Below.refl n₀ W).grown hgrow hn₀ fun j ej => ?_).setCell (p := ⟨B, 0, none⟩) hB v'
      cases ej
      exact hb

theorem conv_own {P : Program} (W : World) (src dst e : TypeId) (base g cap : Nat) (l : List UInt8) (hs : P.underlying src = some (.slice e)) (he : P.underlying e = some (.int .u8)) (hd : P.underlying dst = some .string)
    (h : W.ownsRow base e 1 (.slice (some ⟨g, 0, none⟩) l.length cap) l.length (u8s l)) :
    (convert src dst (.slice (some ⟨g, 0, none⟩) l.length cap)).run P W = .ok (.string (bs l)) W :=
  run_convert_bytes_back W src dst e ⟨g, 0, none⟩ cap l hs he hd fun j hj => h.cells (g := g) rfl j _ (by simp [u8s, hj])

theorem Tryz.infoU8 : (Tryz.prog.info? 5).map (fun i => (i.zero, i.size, i.bytes)) = some (some (.int .u8 0), 1, 1) := by kernel_rfl

end Go.Proofs.YtmgnhbihfgpccaaGreatDoor
end
section
/- The document's Text, Same, Compare of layer 1; awake. -/
namespace Go.Proofs.YtmgnhbihfgpccaaGreatDoor
open Go.RowKit

/-- 'string([]byte{b})' -/
theorem conv_one {P : Program} (W : World) (src dst e : TypeId) (b : UInt8) (hs : P.underlying src = some (.slice e)) (he : P.underlying e = some (.int .u8)) (hd : P.underlying dst = some .string) :
    (convert src dst (.slice (some ⟨W.heap.size, 0, none⟩) 1 1)).run P (W.alloc (.cells #[.int .u8 b.toNat] e)) = .ok (.string (bs [b])) (W.alloc (.cells #[.int .u8 b.toNat] e)) :=
  run_convert_bytes_back (W.alloc (.cells #[.int .u8 b.toNat] e)) src dst e ⟨W.heap.size, 0, none⟩ 1 [b] hs he hd fun j hj => by
    simp at hj
    subst hj
    simp [Addr.add]
theorem bs_append (a b : List UInt8) : bs a ++ bs b = bs (a ++ b) := by
  apply ba_ext
  simp [bs]
theorem foldL_step (s : ByteArray) (k : Nat) (h : k < s.size) : bs (foldL (s.data.toList.take k)) ++ bs [foldB s[k]] = bs (foldL (s.data.toList.take (k + 1))) := by
  rw [bs_append, ba_take s k h, foldL_append]; rfl

set_option maxHeartbeats 1000000 in
theorem reftext (s : ByteArray) (w : World) (hs : s.size ≤ 1000000) :
    Calls Tryz.prog 124 #[.string s] w fun e w' => e = .returned (.string (bs (foldL s.data.toList))) ∧ Below w.heap.size w w' := by
  go_enter Tryz.func124, Tryz.ntmps124
  go_wp2_with fail
  go_loopw [3, 4] (fun t i wr => ∃ k : Nat, k ≤ s.size ∧ i = .int .i64 k ∧ t = .string (bs (foldL (s.data.toList.take k))) ∧ Hid (Below w.heap.size w wr)) (fun _ i _ => s.size - (Go.RowKit.intOf i).toNat)
  case atStart => exact ⟨0, Nat.zero_le _, rfl, rfl, Below.refl _ _⟩
  case round =>
    obtain ⟨k, hk, rfl, rfl, HB⟩ := hrel
    by_cases hlt : k < s.size
    · have hconv := conv_one (P := Tryz.prog) wr 81 9 5 (foldB s[k]) Tryz.underlying81 Tryz.underlying5 Tryz.underlying9
      have hst := foldL_step s k hlt
      have Hst := Lib.hid hst
      clear hst
      have hn : (bs (foldL (s.data.toList.take k))).size ≤ 1000000 := by simp; omega
      go_wp2_with (go_at_call 58; refine (refbyte _ _).mono ?_; rintro e w' ⟨rfl, rfl⟩)
      go_roundw
      case rel => exact ⟨k + 1, by omega, by go_num, by rw [← Hst.out], (HB.out.alloc HB.out.size _)⟩
      case measure => simp [Go.RowKit.intOf]; omega
    · have hkp : k = s.size := by omega
      have Hkp := Lib.hid hkp
      clear hkp
      go_wp2_with fail
      go_ret
      exact ⟨by rw [Hkp.out, List.take_of_length_le (by simp)]; rfl, HB.out⟩

theorem bs_inj {a b : List UInt8} (h : bs a = bs b) : a = b := by
  have := congrArg (fun x : ByteArray => x.data.toList) h
  simpa using this
end Go.Proofs.YtmgnhbihfgpccaaGreatDoor
end
section
/- The document's Same and Compare of layer 1. -/
namespace Go.Proofs.YtmgnhbihfgpccaaGreatDoor
open Go.RowKit

theorem refsame (a b : ByteArray) (w : World) (ha : a.size ≤ 1000000) (hb : b.size ≤ 1000000) :
    Calls Tryz.prog 98 #[.string a, .string b] w fun e w' => e = .returned (.bool (sameF a.data.toList b.data.toList)) ∧ Below w.heap.size w w' := by
  go_enter Tryz.func98, Tryz.ntmps98
  go_wp2_with fail
  refine (reftext _ _ ha).mono ?_
  rintro e w1 ⟨rfl, hb1⟩
  go_wp2_with fail
  refine (reftext _ _ hb).mono ?_
  rintro e w2 ⟨rfl, hb2⟩
  go_wp2_with fail
  go_ret
  exact ⟨ret_bool (beq_bs _ _), hb1.trans (hb2.mono hb1.size)⟩

theorem less_cmpL : ∀ (x y : List UInt8), Op.bytesLess x y = true ↔ cmpL x y = -1
  | [], [] => by simp [Op.bytesLess, cmpL]
  | [], _ :: _ => by simp [Op.bytesLess, cmpL]
  | _ :: _, [] => by simp [Op.bytesLess, cmpL]
  | a :: x, b :: y => by
    simp only [Op.bytesLess, cmpL, Bool.or_eq_true, decide_eq_true_eq, Bool.and_eq_true, beq_iff_eq, UInt8.lt_iff_toNat_lt]
    by_cases h1 : a.toNat < b.toNat
    · simp [h1]
    · rw [if_neg h1]
      by_cases h2 : b.toNat < a.toNat
      · rw [if_pos h2]
        constructor
        · rintro (h | ⟨rfl, _⟩) <;> omega
        · intro h; cases h
      · rw [if_neg h2, ← less_cmpL x y]
        have : a = b := UInt8.toNat_inj.mp (by omega)
        subst this
        simp
theorem cmpL_three : ∀ (x y : List UInt8), cmpL x y = -1 ∨ cmpL x y = 0 ∨ cmpL x y = 1
  | [], [] => by simp [cmpL]
  | [], _ :: _ => by simp [cmpL]
  | _ :: _, [] => by simp [cmpL]
  | a :: x, b :: y => by
    simp only [cmpL]
    split
    · simp
    · split
      · simp
      · exact cmpL_three x y
theorem cmpF_lt {a b : List UInt8} {x y : ByteArray} (hx : x = bs (foldL a)) (hy : y = bs (foldL b)) (h : Op.bytesLess x.toList y.toList = true) : cmpF a b = -1 := by
  subst hx hy
  rw [ByteArray.toList_eq, ByteArray.toList_eq] at h
  exact (less_cmpL _ _).1 h
theorem cmpF_eq {a b : List UInt8} {x y : ByteArray} (hx : x = bs (foldL a)) (hy : y = bs (foldL b)) (h : (!x.toList == y.toList) = false) : cmpF a b = 0 := by
  subst hx hy
  rw [beq_bs] at h
  simp at h
  exact cmpL_zero.2 h
theorem cmpF_gt {a b : List UInt8} {x y : ByteArray} (hx : x = bs (foldL a)) (hy : y = bs (foldL b)) (h : Op.bytesLess x.toList y.toList = false) (h2 : (!x.toList == y.toList) = true) : cmpF a b = 1 := by
  subst hx hy
  rw [ByteArray.toList_eq, ByteArray.toList_eq] at h
  rw [beq_bs] at h2
  simp at h2
  rcases cmpL_three (foldL a) (foldL b) with h3 | h3 | h3
  · have := (less_cmpL (foldL a) (foldL b)).2 h3
    rw [bs_toList, bs_toList] at h
    rw [h] at this; cases this
  · exact absurd (cmpL_zero.1 h3) h2
  · exact h3

end Go.Proofs.YtmgnhbihfgpccaaGreatDoor
end
section
/- Masks, as mathematics: what a mask means; that row by row, and by going back to the last star alone, the same is found. -/
namespace Go.Proofs.YtmgnhbihfgpccaaGreatDoor

/-- does a mask's byte that is no star mean a byte? -/
def mb (c b : UInt8) : Bool := c == 63 || foldB c == foldB b
/-- the ends of a text -/
def ends : List UInt8 → List (List UInt8)
  | [] => [[]]
  | b :: s => (b :: s) :: ends s
/-- does a mask mean a text? -/
def mm : List UInt8 → List UInt8 → Bool
  | [], s => s.isEmpty
  | c :: m, s => if c = 42 then (ends s).any (mm m) else match s with
    | [] => false
    | b :: t => mb c b && mm m t

theorem ends_any (p : List UInt8 → Bool) : ∀ s, (ends s).any p = true ↔ ∃ k, k ≤ s.length ∧ p (s.drop k) = true
  | [] => by simp [ends]
  | b :: s => by
    simp only [ends, List.any_cons, Bool.or_eq_true, ends_any p s, List.length_cons]
    constructor
    · rintro (h | ⟨k, hk, h⟩)
      · exact ⟨0, by omega, h⟩
      · exact ⟨k + 1, by omega, h⟩
    · rintro ⟨k, hk, h⟩
      cases k with
      | zero => exact .inl h
      | succ k => exact .inr ⟨k, by omega, h⟩
theorem mm_star (m s : List UInt8) : mm (42 :: m) s = true ↔ ∃ k, k ≤ s.length ∧ mm m (s.drop k) = true := by
  simp only [mm, if_true]; exact ends_any _ _
theorem mm_other {c : UInt8} (hc : c ≠ 42) (m s : List UInt8) : mm (c :: m) s = true ↔ ∃ b t, s = b :: t ∧ mb c b = true ∧ mm m t = true := by
  simp only [mm, if_neg hc]
  cases s with
  | nil => simp
  | cons b t =>
    simp only [Bool.and_eq_true, List.cons.injEq]
    constructor
    · intro h; exact ⟨b, t, ⟨rfl, rfl⟩, h⟩
    · rintro ⟨x, u, ⟨rfl, rfl⟩, h⟩; exact h

theorem mm_snoc_star : ∀ (m s : List UInt8), mm (m ++ [42]) s = true ↔ ∃ i, i ≤ s.length ∧ mm m (s.take i) = true
  | [], s => by
    rw [List.nil_append, mm_star]
    constructor
    · intro _; exact ⟨0, by omega, by simp [mm]⟩
    · intro _; exact ⟨s.length, by omega, by simp [mm]⟩
  | c :: m, s => by
    rw [List.cons_append]
    by_cases hc : c = 42
    · subst hc
      simp only [mm_star, mm_snoc_star m]
      constructor
      · rintro ⟨k, hk, i, hi, h⟩
        rw [List.length_drop] at hi
        refine ⟨k + i, by omega, k, by rw [List.length_take]; omega, ?_⟩
        rw [List.drop_take, Nat.add_sub_cancel_left]; exact h
      · rintro ⟨j, hj, k, hk, h⟩
        rw [List.length_take] at hk
        rw [List.drop_take] at h
        exact ⟨k, by omega, j - k, by rw [List.length_drop]; omega, h⟩
    · simp only [mm_other hc, mm_snoc_star m]
      constructor
      · rintro ⟨b, t, rfl, hb, i, hi, h⟩
        exact ⟨i + 1, by simp; omega, b, t.take i, by simp, hb, h⟩
      · rintro ⟨i, hi, b, t, e, hb, h⟩
        cases s with
        | nil => simp at e
        | cons x s =>
          cases i with
          | zero => simp at e
          | succ i =>
            simp only [List.take_succ_cons, List.cons.injEq] at e
            obtain ⟨rfl, rfl⟩ := e
            exact ⟨x, s, rfl, hb, i, by simp at hi; exact hi, h⟩

theorem mm_snoc_other {c : UInt8} (hc : c ≠ 42) : ∀ (m s : List UInt8), mm (m ++ [c]) s = true ↔ ∃ t b, s = t ++ [b] ∧ mm m t = true ∧ mb c b = true
  | [], s => by
    rw [List.nil_append, mm_other hc]
    constructor
    · rintro ⟨b, t, rfl, hb, h⟩
      have : t = [] := by simpa [mm] using h
      subst this
      exact ⟨[], b, rfl, by simp [mm], hb⟩
    · rintro ⟨t, b, rfl, h, hb⟩
      have : t = [] := by simpa [mm] using h
      subst this
      exact ⟨b, [], rfl, hb, by simp [mm]⟩
  | d :: m, s => by
    rw [List.cons_append]
    by_cases hd : d = 42
    · subst hd
      simp only [mm_star, mm_snoc_other hc m]
      constructor
      · rintro ⟨k, hk, t, b, e, h, hb⟩
        refine ⟨s.take k ++ t, b, ?_, ⟨k, ?_, ?_⟩, hb⟩
        · rw [List.append_assoc, ← e, List.take_append_drop]
        · simp; omega
        · rw [List.drop_append_of_le_length (by simp; omega)]
          rw [List.drop_of_length_le (by rw [List.length_take]; omega), List.nil_append]; exact h
      · rintro ⟨t, b, rfl, ⟨k, hk, h⟩, hb⟩
        exact ⟨k, by simp; omega, t.drop k, b, by rw [List.drop_append_of_le_length hk], h, hb⟩
    · simp only [mm_other hd, mm_snoc_other hc m]
      constructor
      · rintro ⟨x, u, rfl, hx, t, b, rfl, h, hb⟩
        exact ⟨x :: t, b, rfl, ⟨x, t, rfl, hx, h⟩, hb⟩
      · rintro ⟨t, b, rfl, ⟨x, u, rfl, hx, h⟩, hb⟩
        exact ⟨x, u ++ [b], rfl, hx, u, b, rfl, h, hb⟩

/-- row by row: which beginnings of the text do so many bytes of the mask mean? -/
def row (m s : List UInt8) (k i : Nat) : Bool := mm (m.take k) (s.take i)
theorem row_zero (m s : List UInt8) {i : Nat} (hi : i ≤ s.length) : row m s 0 i = (i == 0) := by
  unfold row
  rw [List.take_zero]
  simp only [mm]
  cases i with
  | zero => simp
  | succ i =>
    have : (s.take (i + 1)).length = i + 1 := by rw [List.length_take]; omega
    cases h : s.take (i + 1) with
    | nil => rw [h] at this; simp at this
    | cons a b => rfl
theorem row_star (m s : List UInt8) {k i : Nat} (hk : k < m.length) (hi : i ≤ s.length) (hc : m[k] = 42) : row m s (k + 1) i = (row m s k i || (decide (0 < i) && row m s (k + 1) (i - 1))) := by
  have e : m.take (k + 1) = m.take k ++ [42] := by rw [List.take_succ_eq_append_getElem hk, hc]
  rw [Bool.eq_iff_iff]
  simp only [row, e, Bool.or_eq_true, Bool.and_eq_true, decide_eq_true_eq, mm_snoc_star]
  constructor
  · rintro ⟨j, hj, h⟩
    rw [List.length_take] at hj
    rw [List.take_take, Nat.min_eq_left (by omega)] at h
    by_cases hji : j = i
    · subst hji; exact .inl h
    · exact .inr ⟨by omega, j, by rw [List.length_take]; omega, by rw [List.take_take, Nat.min_eq_left (by omega)]; exact h⟩
  · rintro (h | ⟨h0, j, hj, h⟩)
    · exact ⟨i, by rw [List.length_take]; omega, by rw [List.take_take, Nat.min_self]; exact h⟩
    · rw [List.length_take] at hj
      rw [List.take_take, Nat.min_eq_left (by omega)] at h
      exact ⟨j, by rw [List.length_take]; omega, by rw [List.take_take, Nat.min_eq_left (by omega)]; exact h⟩
theorem row_other (m s : List UInt8) {k i : Nat} (hk : k < m.length) (hi : i < s.length) (hc : m[k] ≠ 42) : row m s (k + 1) (i + 1) = (row m s k i && mb m[k] s[i]) := by
  have e : m.take (k + 1) = m.take k ++ [m[k]] := List.take_succ_eq_append_getElem hk
  have e2 : s.take (i + 1) = s.take i ++ [s[i]] := List.take_succ_eq_append_getElem hi
  rw [Bool.eq_iff_iff]
  simp only [row, e, e2, Bool.and_eq_true, mm_snoc_other hc]
  constructor
  · rintro ⟨t, b, h1, h2, h3⟩
    obtain ⟨rfl, h4⟩ := List.append_inj' h1 rfl
    simp at h4; subst h4
    exact ⟨h2, h3⟩
  · rintro ⟨h2, h3⟩
    exact ⟨_, _, rfl, h2, h3⟩
theorem row_other0 (m s : List UInt8) {k : Nat} (hk : k < m.length) (hc : m[k] ≠ 42) : row m s (k + 1) 0 = false := by
  have e : m.take (k + 1) = m.take k ++ [m[k]] := List.take_succ_eq_append_getElem hk
  rw [Bool.eq_false_iff]
  intro h
  simp only [row, e, mm_snoc_other hc] at h
  obtain ⟨t, b, h1, _⟩ := h
  simp at h1
theorem row_all (m s : List UInt8) : row m s m.length s.length = mm m s := by simp [row]

/-! going back to the last star alone -/
/-- from places on -/
def from' (m s : List UInt8) (a i : Nat) : Bool := mm (m.drop a) (s.drop i)
/-- somewhere from a place on -/
def some' (m s : List UInt8) (a i : Nat) : Prop := ∃ j, i ≤ j ∧ j ≤ s.length ∧ from' m s a j = true
theorem from_star {m s : List UInt8} {a i : Nat} (ha : a < m.length) (hc : m[a] = 42) (hi : i ≤ s.length) : from' m s a i = true ↔ some' m s (a + 1) i := by
  unfold from' some' from'
  rw [List.drop_eq_getElem_cons ha, hc, mm_star]
  constructor
  · rintro ⟨k, hk, h⟩
    rw [List.length_drop] at hk
    rw [List.drop_drop] at h
    exact ⟨i + k, by omega, by omega, h⟩
  · rintro ⟨j, h1, h2, h⟩
    refine ⟨j - i, by rw [List.length_drop]; omega, ?_⟩
    rw [List.drop_drop, show i + (j - i) = j by omega]; exact h
theorem from_step {m s : List UInt8} {a i : Nat} (ha : a < m.length) (hi : i < s.length) (hc : m[a] ≠ 42) : from' m s a i = (mb m[a] s[i] && from' m s (a + 1) (i + 1)) := by
  unfold from'
  rw [List.drop_eq_getElem_cons ha, List.drop_eq_getElem_cons hi, Bool.eq_iff_iff, mm_other hc, Bool.and_eq_true]
  constructor
  · rintro ⟨b, t, e, h1, h2⟩
    simp only [List.cons.injEq] at e
    obtain ⟨rfl, rfl⟩ := e
    exact ⟨h1, h2⟩
  · rintro ⟨h1, h2⟩
    exact ⟨_, _, rfl, h1, h2⟩
theorem from_out {m s : List UInt8} {a i : Nat} (ha : a = m.length) (hi : i < s.length) : from' m s a i = false := by
  unfold from'
  rw [List.drop_of_length_le (by omega), List.drop_eq_getElem_cons hi]
  rfl
/-- are all bytes stars? -/
def stars (l : List UInt8) : Bool := l.all fun c => c == 42
theorem from_end {m s : List UInt8} {a : Nat} : from' m s a s.length = stars (m.drop a) := by
  unfold from'
  rw [List.drop_of_length_le (Nat.le_refl _)]
  generalize m.drop a = l
  induction l with
  | nil => rfl
  | cons c l ih =>
    by_cases hc : c = 42
    · subst hc
      simp only [stars, List.all_cons] at *
      rw [← ih]
      simp [mm, ends]
    · simp [mm, hc, stars]

/-- a row of bytes that are no stars, each meaning one of the text's -/
def seg (m s : List UInt8) (a i n : Nat) : Prop := a + n ≤ m.length ∧ i + n ≤ s.length ∧ ∀ j, j < n → m.getD (a + j) 42 ≠ 42 ∧ mb (m.getD (a + j) 42) (s.getD (i + j) 0) = true
theorem seg_zero {m s : List UInt8} {a i : Nat} (ha : a ≤ m.length) (hi : i ≤ s.length) : seg m s a i 0 := ⟨ha, hi, fun j h => absurd h (Nat.not_lt_zero j)⟩
theorem getD_at (l : List UInt8) (k : Nat) (d : UInt8) (h : k < l.length) : l.getD k d = l[k] := by simp [h]
theorem seg_snoc {m s : List UInt8} {a i n : Nat} (h : seg m s a i n) (ha : a + n < m.length) (hi : i + n < s.length) (hc : m[a + n] ≠ 42) (hb : mb m[a + n] s[i + n] = true) : seg m s a i (n + 1) := by
  refine ⟨by omega, by omega, fun j hj => ?_⟩
  by_cases hjn : j = n
  · subst hjn
    rw [getD_at _ _ _ ha, getD_at _ _ _ hi]; exact ⟨hc, hb⟩
  · exact h.2.2 j (by omega)
theorem seg_from {m s : List UInt8} {a i : Nat} : ∀ {n : Nat}, seg m s a i n → from' m s a i = from' m s (a + n) (i + n)
  | 0, _ => rfl
  | n + 1, h => by
    obtain ⟨h1, h2, h3⟩ := h
    rw [seg_from (n := n) ⟨by omega, by omega, fun j hj => h3 j (by omega)⟩]
    obtain ⟨hc, hb⟩ := h3 n (by omega)
    rw [getD_at _ _ _ (by omega)] at hc hb
    rw [getD_at s _ _ (by omega)] at hb
    rw [from_step (by omega) (by omega) hc, hb]; rfl
/-- what begins with bytes that are no stars takes as many of the text -/
theorem seg_take {m s : List UInt8} {a i : Nat} : ∀ {n : Nat}, (a + n ≤ m.length) → (∀ j, j < n → m.getD (a + j) 42 ≠ 42) → i ≤ s.length → from' m s a i = true → i + n ≤ s.length ∧ from' m s (a + n) (i + n) = true
  | 0, _, _, hi, h => ⟨hi, h⟩
  | n + 1, h1, h3, hi, h => by
    obtain ⟨e1, e2⟩ := seg_take (n := n) (by omega) (fun j hj => h3 j (by omega)) hi h
    have hc := h3 n (by omega)
    rw [getD_at _ _ _ (by omega)] at hc
    by_cases hlt : i + n < s.length
    · rw [from_step (by omega) hlt hc, Bool.and_eq_true] at e2
      exact ⟨by omega, e2.2⟩
    · exfalso
      unfold from' at e2
      have f1 : s.drop (i + n) = [] := List.drop_of_length_le (by omega)
      have f2 : a + n < m.length := by omega
      rw [List.drop_eq_getElem_cons f2, f1, mm_other hc] at e2
      obtain ⟨_, _, e, _⟩ := e2
      cases e
theorem seg_star {m s : List UInt8} {a i n : Nat} (h : seg m s a i n) (ha : a + n < m.length) (hc : m[a + n] = 42) : some' m s a i ↔ some' m s (a + n + 1) (i + n) := by
  constructor
  · rintro ⟨j, h1, h2, h3⟩
    obtain ⟨e1, e2⟩ := seg_take h.1 (fun j hj => (h.2.2 j hj).1) h2 h3
    obtain ⟨j', f1, f2, f3⟩ := (from_star ha hc e1).1 e2
    exact ⟨j', by omega, f2, f3⟩
  · intro h4
    exact ⟨i, Nat.le_refl _, by have := h.2.1; omega, by rw [seg_from h]; exact (from_star ha hc h.2.1).2 h4⟩
theorem seg_miss {m s : List UInt8} {a i n : Nat} (h : seg m s a i n) (hm : from' m s (a + n) (i + n) = false) : some' m s a i ↔ some' m s a (i + 1) := by
  constructor
  · rintro ⟨j, h1, h2, h3⟩
    by_cases hji : j = i
    · subst hji
      rw [seg_from h, hm] at h3; cases h3
    · exact ⟨j, by omega, h2, h3⟩
  · rintro ⟨j, h1, h2, h3⟩
    exact ⟨j, by omega, h2, h3⟩
theorem seg_end {m s : List UInt8} {a i n : Nat} (h : seg m s a i n) (he : i + n = s.length) : some' m s a i ↔ stars (m.drop (a + n)) = true := by
  rw [← from_end (s := s), ← he]
  constructor
  · rintro ⟨j, h1, h2, h3⟩
    obtain ⟨e1, e2⟩ := seg_take h.1 (fun j hj => (h.2.2 j hj).1) h2 h3
    have : j = i := by omega
    subst this; exact e2
  · intro h4
    exact ⟨i, Nat.le_refl _, by omega, by rw [seg_from h]; exact h4⟩
end Go.Proofs.YtmgnhbihfgpccaaGreatDoor
end
section
/- glob.meansByte; strings.Trim with one byte. -/
namespace Go.Proofs.YtmgnhbihfgpccaaGreatDoor
open Go.RowKit

theorem u8_beq (a b : UInt8) : ((a.toNat : Int) == (b.toNat : Int)) = (a == b) := by
  rw [Bool.eq_iff_iff, beq_iff_eq, beq_iff_eq]
  constructor
  · intro h; exact UInt8.toNat_inj.mp (by omega)
  · intro h; rw [h]
theorem means_any (c b : UInt8) (w : World) :
    Calls Tryz.prog 119 #[.int .u8 ↑c.toNat, .int .u8 ↑b.toNat] w fun e w' => e = .returned (.bool (mb c b)) ∧ w = w' := by
  cases h : ((c.toNat : Int) == 63)
  · go_enter Tryz.func119, Tryz.ntmps119
    go_wp2_with (go_at_call 142; refine (byte_u8 _ _).mono ?_; rintro e w' ⟨rfl, rfl⟩)
    go_ret
    have e : (c == 63) = false := by rw [← u8_beq c 63]; exact h
    exact ⟨ret_bool (by unfold mb; rw [e, Bool.false_or, u8_beq]), rfl⟩
  · go_enter Tryz.func119, Tryz.ntmps119
    go_wp2_with fail
    go_ret
    have e : (c == 63) = true := by rw [← u8_beq c 63]; exact h
    exact ⟨ret_bool (by unfold mb; rw [e, Bool.true_or]), rfl⟩

/-- what a text is behind the bytes at its end that are one -/
def dropEnd (c : UInt8) (l : List UInt8) : List UInt8 := (l.reverse.dropWhile (· == c)).reverse
/-- are all bytes so? -/
def allC (c : UInt8) (l : List UInt8) : Bool := l.all (· == c)

def strSize : Value → Nat
  | .string s => s.size
  | _ => 0
theorem allC_at {c : UInt8} {s : ByteArray} (h : allC c s.data.toList = true) (k : Nat) (hk : k < s.size) : s[k] = c := by
  have := List.all_eq_true.1 h s[k] (by
    have e : s[k] = s.data.toList[k]'(by simpa using hk) := rfl
    rw [e]; exact List.getElem_mem _)
  simpa using this
theorem allC_head {c : UInt8} {s : ByteArray} (hk : 0 < s.size) (h : s[0] = c) : allC c (s.extract 1 s.size).data.toList = allC c s.data.toList := by
  rw [ba_extract_to]
  have e := List.drop_eq_getElem_cons (l := s.data.toList) (i := 0) (by simpa using hk)
  rw [List.drop_zero] at e
  have e0 : s.data.toList[0]'(by simpa using hk) = c := h
  rw [e0] at e
  unfold allC
  conv => rhs; rw [e]
  simp
theorem allC_last {c : UInt8} {s : ByteArray} {n : Nat} (hk : s.size = n + 1) (h : s[n]'(by omega) = c) : allC c (s.extract 0 n).data.toList = allC c s.data.toList := by
  rw [Lib.extract_data]
  have hl : s.data.toList.length = n + 1 := by simpa using hk
  have e : s.data.toList = s.data.toList.take n ++ [c] := by
    have := List.take_succ_eq_append_getElem (l := s.data.toList) (i := n) (by omega)
    rw [List.take_of_length_le (by omega)] at this
    rw [this]
    congr 2
  unfold allC
  conv => rhs; rw [e]
  simp

set_option maxHeartbeats 1000000 in
theorem trimRight_any (s : ByteArray) (c : UInt8) (w : World) (hs : s.size ≤ 1000000) :
    Calls Tryz.prog 131 #[.string s, .int .u8 ↑c.toNat] w fun e w' => (∃ r : ByteArray, e = .returned (.string r) ∧ r.size ≤ s.size ∧ allC c r.data.toList = allC c s.data.toList ∧ (allC c r.data.toList = true → r.size = 0)) ∧ w = w' := by
  go_enter Tryz.func131, Tryz.ntmps131
  go_wp2_with fail
  go_loopw [0] (fun v wr => ∃ t : ByteArray, v = .string t ∧ t.size ≤ s.size ∧ allC c t.data.toList = allC c s.data.toList ∧ wr = w) (fun v _ => strSize v)
  case atStart => exact ⟨s, rfl, Nat.le_refl _, rfl, rfl⟩
  case round =>
    obtain ⟨t, rfl, hk, hq, rfl⟩ := hrel
    have Hq := Lib.hid hq
    clear hq
    by_cases hlt : t.size = 0
    · go_wp2_with fail
      go_ret
      exact ⟨⟨t, rfl, hk, Hq.out, fun _ => hlt⟩, rfl⟩
    · obtain ⟨n, hn⟩ : ∃ n, t.size = n + 1 := ⟨t.size - 1, by omega⟩
      have hn' : (t.size : Int) - 1 = n := by omega
      by_cases hb : t[n] = c
      · have hb' : ((t[n].toNat : Int) == ↑c.toNat) = true := by rw [u8_beq]; simpa using hb
        go_wp2_with fail
        exact ⟨⟨t.extract 0 n, rfl, by simp [ByteArray.size_extract]; omega, (allC_last hn hb).trans Hq.out, by simp⟩, by simp [strSize, ByteArray.size_extract]; omega⟩
      · have hb' : ((t[n].toNat : Int) == ↑c.toNat) = false := by rw [u8_beq]; simpa using hb
        go_wp2_with fail
        go_ret
        exact ⟨⟨t, rfl, hk, Hq.out, fun h => absurd (allC_at h n (by omega)) hb⟩, rfl⟩
set_option maxHeartbeats 1000000 in
theorem trimLeft_any (s : ByteArray) (c : UInt8) (w : World) (hs : s.size ≤ 1000000) :
    Calls Tryz.prog 130 #[.string s, .int .u8 ↑c.toNat] w fun e w' => (∃ r : ByteArray, e = .returned (.string r) ∧ r.size ≤ s.size ∧ allC c r.data.toList = allC c s.data.toList ∧ (allC c r.data.toList = true → r.size = 0)) ∧ w = w' := by
  go_enter Tryz.func130, Tryz.ntmps130
  go_wp2_with fail
  go_loopw [0] (fun v wr => ∃ t : ByteArray, v = .string t ∧ t.size ≤ s.size ∧ allC c t.data.toList = allC c s.data.toList ∧ wr = w) (fun v _ => strSize v)
  case atStart => exact ⟨s, rfl, Nat.le_refl _, rfl, rfl⟩
  case round =>
    obtain ⟨t, rfl, hk, hq, rfl⟩ := hrel
    have Hq := Lib.hid hq
    clear hq
    by_cases hlt : t.size = 0
    · go_wp2_with fail
      go_ret
      exact ⟨⟨t, rfl, hk, Hq.out, fun _ => hlt⟩, rfl⟩
    · have h0 : 0 < t.size := by omega
      by_cases hb : t[0] = c
      · have hb' : ((t[0].toNat : Int) == ↑c.toNat) = true := by rw [u8_beq]; simpa using hb
        go_wp2_with fail
        exact ⟨⟨t.extract 1 t.size, rfl, by simp [ByteArray.size_extract]; omega, (allC_head h0 hb).trans Hq.out, by simp⟩, by simp [strSize, ByteArray.size_extract]; omega⟩
      · have hb' : ((t[0].toNat : Int) == ↑c.toNat) = false := by rw [u8_beq]; simpa using hb
        go_wp2_with fail
        go_ret
        exact ⟨⟨t, rfl, hk, Hq.out, fun h => absurd (allC_at h 0 h0) hb⟩, rfl⟩

theorem empty_stars {r : ByteArray} (h : stars r.data.toList = true → r.size = 0) : r.toList.isEmpty = stars r.data.toList := by
  cases e : stars r.data.toList with
  | true => exact str_em (h e)
  | false =>
    refine str_ne ?_
    rcases Nat.eq_zero_or_pos r.size with h0 | h0
    · rw [str_nil h0] at e; cases e
    · exact h0
set_option maxRecDepth 1000000 in
set_option maxHeartbeats 2000000 in
/-- strings.Trim with one byte below 128. -/
theorem trim_any (s : ByteArray) (c : UInt8) (hc : c.toNat < 128) (w : World) (hs : s.size ≤ 1000000) :
    Calls Tryz.prog 106 #[.string s, .string ⟨#[c]⟩] w fun e w' => (∃ r : ByteArray, e = .returned (.string r) ∧ allC c r.data.toList = allC c s.data.toList ∧ (allC c r.data.toList = true → r.size = 0)) ∧ (w' = w ∨ w' = w.drew) := by
  have hc' : ¬ (128 : Int) ≤ (c.toNat : Int) := by omega
  have mixed : Tryz.prog.follows Departure.mixedOrders = true := by kernel_rfl
  go_enter Tryz.func106, Tryz.ntmps106
  go_wp2
  · go_ret
    rename_i h9
    refine ⟨⟨s, rfl, rfl, fun _ => ?_⟩, Or.inl rfl⟩
    rw [ByteArray.toList_eq] at h9
    have := congrArg List.length h9
    simpa using this
  · exfalso
    have h1 : ¬ s.toList = [] := by assumption
    have h2 : s.toList.isEmpty = true := by assumption
    exact h1 (by simpa using h2)
  · go_region_with_o (first | (refine (trimRight_any s c _ hs).mono ?_; rintro e w' ⟨⟨r, rfl, hr, hq, hz⟩, rfl⟩) | (refine (trimLeft_any _ c _ (Nat.le_trans (by assumption) hs)).mono ?_; rintro e w' ⟨⟨r2, rfl, hr2, hq2, hz2⟩, rfl⟩))
    all_goals (go_wp2; go_ret; exact ⟨⟨_, rfl, hq2.trans hq, hz2⟩, Or.inr rfl⟩)
  all_goals (
    exfalso
    have h1 : (128 : Int) ≤ (((⟨#[c]⟩ : ByteArray)[0]'Nat.zero_lt_one).toNat : Int) := by assumption
    have h2 : ((⟨#[c]⟩ : ByteArray)[0]'Nat.zero_lt_one) = c := rfl
    rw [h2] at h1
    omega)
theorem trim_star (s : ByteArray) (w : World) (hs : s.size ≤ 1000000) :
    Calls Tryz.prog 106 #[.string s, .string ⟨#[42]⟩] w fun e w' => (∃ r : ByteArray, e = .returned (.string r) ∧ r.toList.isEmpty = stars s.data.toList) ∧ (w' = w ∨ w' = w.drew) := by
  refine (trim_any s 42 (by decide) w hs).mono ?_
  rintro e w' ⟨⟨r, he, hq, hz⟩, hw⟩
  refine ⟨⟨r, he, ?_⟩, hw⟩
  have e1 : stars s.data.toList = allC 42 s.data.toList := rfl
  rw [e1, ← hq]
  exact empty_stars hz
end Go.Proofs.YtmgnhbihfgpccaaGreatDoor
end
section
/- glob.Match: what it tells is what the mask means. -/
namespace Go.Proofs.YtmgnhbihfgpccaaGreatDoor
open Go.RowKit

def meas (M S a f i : Nat) : Nat := ((M - a) * (S + 1) + (S - f)) * (S + 1) + (S - i)
theorem lex2 {S x x' y y' : Nat} (h : x' < x) (hy : y' ≤ S) : x' * (S + 1) + y' < x * (S + 1) + y := by
  have := Nat.mul_le_mul_right (S + 1) (show x' + 1 ≤ x from h)
  rw [Nat.add_mul, Nat.one_mul] at this
  omega
theorem meas_a {M S a a' f f' i i' : Nat} (h : a < a') (hM : a' ≤ M) : meas M S a' f' i' < meas M S a f i :=
  lex2 (lex2 (by omega) (by omega)) (by omega)
theorem meas_f {M S a f f' i i' : Nat} (h : f < f') (hS : f' ≤ S) : meas M S a f' i' < meas M S a f i :=
  lex2 (by omega) (by omega)
theorem meas_i {M S a f i i' : Nat} (h : i < i') (hS : i' ≤ S) : meas M S a f i' < meas M S a f i := by
  unfold meas; omega

/-- where the greedy search stands: no star yet, or behind one -/
def At (m s : ByteArray) (a i st f : Int) : Prop := ∃ k j : Nat, a = k ∧ i = j ∧ k ≤ m.size ∧ j ≤ s.size ∧
  ((st = -1 ∧ f = 0 ∧ j = k ∧ seg m.data.toList s.data.toList 0 0 k) ∨
   (∃ b g n : Nat, st = b ∧ f = g ∧ k = b + n ∧ j = g + n ∧ seg m.data.toList s.data.toList b g n ∧ (mm m.data.toList s.data.toList = true ↔ some' m.data.toList s.data.toList b g)))
def meas' (m s : ByteArray) (st f i : Value) : Nat := meas m.size s.size (Go.RowKit.intOf st).toNat (Go.RowKit.intOf f).toNat (Go.RowKit.intOf i).toNat
theorem len_ba (s : ByteArray) : s.data.toList.length = s.size := by simp
theorem get_ba (s : ByteArray) (k : Nat) (h : k < s.size) : s.data.toList[k]'(by simpa using h) = s[k] := rfl
theorem mm_from (m s : List UInt8) : mm m s = from' m s 0 0 := by simp [from']

theorem at_star {m s : ByteArray} {k j : Nat} {st f : Int} (h : At m s k j st f) (hk : k < m.size) (hj : j < s.size) (hc : m[k] = 42) :
    At m s (k + 1) j (k + 1) j ∧ meas' m s (.int .i64 (k + 1)) (.int .i64 j) (.int .i64 j) < meas' m s (.int .i64 st) (.int .i64 f) (.int .i64 j) := by
  obtain ⟨k', j', e1, e2, h1, h2, h3⟩ := h
  obtain rfl : k = k' := by omega
  obtain rfl : j = j' := by omega
  have hl := len_ba m; have hl2 := len_ba s
  constructor
  · refine ⟨k + 1, j, by push_cast; rfl, rfl, by omega, h2, .inr ⟨k + 1, j, 0, by push_cast; rfl, rfl, rfl, rfl, seg_zero (by omega) (by omega), ?_⟩⟩
    rcases h3 with ⟨_, _, rfl, hs⟩ | ⟨b, g, n, rfl, rfl, rfl, rfl, hs, hq⟩
    · rw [mm_from, seg_from hs]
      simp only [Nat.zero_add]
      exact from_star (by omega) (by rw [get_ba m j hk]; exact hc) (by omega)
    · rw [hq]
      exact seg_star hs (by omega) (by rw [get_ba m (b + n) hk]; exact hc)
  · unfold meas'
    simp only [Go.RowKit.intOf]
    refine meas_a ?_ (by omega)
    rcases h3 with ⟨rfl, _⟩ | ⟨b, g, n, rfl, rfl, rfl, rfl, _⟩ <;> omega
theorem at_step {m s : ByteArray} {k j : Nat} {st f : Int} (h : At m s k j st f) (hk : k < m.size) (hj : j < s.size) (hc : m[k] ≠ 42) (hb : mb m[k] s[j] = true) :
    At m s (k + 1) (j + 1) st f ∧ meas' m s (.int .i64 st) (.int .i64 f) (.int .i64 (j + 1)) < meas' m s (.int .i64 st) (.int .i64 f) (.int .i64 j) := by
  obtain ⟨k', j', e1, e2, h1, h2, h3⟩ := h
  obtain rfl : k = k' := by omega
  obtain rfl : j = j' := by omega
  have hl := len_ba m; have hl2 := len_ba s
  constructor
  · refine ⟨k + 1, j + 1, by push_cast; rfl, by push_cast; rfl, by omega, by omega, ?_⟩
    rcases h3 with ⟨e3, e4, rfl, hs⟩ | ⟨b, g, n, rfl, rfl, rfl, rfl, hs, hq⟩
    · refine .inl ⟨e3, e4, rfl, ?_⟩
      have := seg_snoc (m := m.data.toList) (s := s.data.toList) (n := j) hs (by omega) (by omega) (by simp only [Nat.zero_add]; rw [get_ba m j hk]; exact hc) (by simp only [Nat.zero_add]; rw [get_ba m j hk, get_ba s j hj]; exact hb)
      exact this
    · exact .inr ⟨b, g, n + 1, rfl, rfl, by omega, by omega, seg_snoc hs (by omega) (by omega) (by rw [get_ba m _ hk]; exact hc) (by rw [get_ba m _ hk, get_ba s _ hj]; exact hb), hq⟩
  · unfold meas'
    simp only [Go.RowKit.intOf]
    exact meas_i (by omega) (by omega)
/-- the byte of the mask means none of the text's here -/
def misses (m s : ByteArray) (k j : Nat) : Prop := (m.size ≤ k) ∨ ∃ (h1 : k < m.size) (h2 : j < s.size), m[k] ≠ 42 ∧ mb m[k] s[j] = false
theorem miss_from {m s : ByteArray} {k j : Nat} (h : misses m s k j) (hk : k ≤ m.size) (hj : j < s.size) : from' m.data.toList s.data.toList k j = false := by
  have hl := len_ba m; have hl2 := len_ba s
  rcases h with h | ⟨h1, h2, hc, hb⟩
  · exact from_out (by omega) (by omega)
  · rw [from_step (by omega) (by omega) (by rw [get_ba m k h1]; exact hc), get_ba m k h1, get_ba s j h2, hb, Bool.false_and]
theorem at_out {m s : ByteArray} {k j : Nat} {f : Int} (h : At m s k j (-1) f) (hj : j < s.size) (hm : misses m s k j) : false = mm m.data.toList s.data.toList := by
  obtain ⟨k', j', e1, e2, h1, h2, h3⟩ := h
  obtain rfl : k = k' := by omega
  obtain rfl : j = j' := by omega
  rcases h3 with ⟨e3, e4, rfl, hs⟩ | ⟨b, g, n, e, _⟩
  · rw [mm_from, seg_from hs]
    simp only [Nat.zero_add]
    exact (miss_from hm h1 hj).symm
  · omega
theorem at_miss {m s : ByteArray} {k j b : Nat} {f : Int} (h : At m s k j b f) (hj : j < s.size) (hm : misses m s k j) :
    At m s b (f + 1) b (f + 1) ∧ meas' m s (.int .i64 b) (.int .i64 (f + 1)) (.int .i64 (f + 1)) < meas' m s (.int .i64 b) (.int .i64 f) (.int .i64 j) := by
  obtain ⟨k', j', e1, e2, h1, h2, h3⟩ := h
  obtain rfl : k = k' := by omega
  obtain rfl : j = j' := by omega
  have hl := len_ba m; have hl2 := len_ba s
  rcases h3 with ⟨e3, _⟩ | ⟨b', g, n, e, rfl, rfl, rfl, hs, hq⟩
  · omega
  · obtain rfl : b = b' := by omega
    constructor
    · refine ⟨b, g + 1, rfl, by push_cast; rfl, by omega, by omega, .inr ⟨b, g + 1, 0, rfl, by push_cast; rfl, rfl, rfl, seg_zero (by omega) (by omega), ?_⟩⟩
      rw [hq]
      exact seg_miss hs (miss_from hm h1 hj)
    · unfold meas'
      simp only [Go.RowKit.intOf]
      exact meas_f (by omega) (by omega)
theorem at_end {m s : ByteArray} {k j : Nat} {st f : Int} (h : At m s k j st f) (hj : s.size ≤ j) : stars (m.data.toList.drop k) = mm m.data.toList s.data.toList := by
  obtain ⟨k', j', e1, e2, h1, h2, h3⟩ := h
  obtain rfl : k = k' := by omega
  obtain rfl : j = j' := by omega
  have hl := len_ba m; have hl2 := len_ba s
  rcases h3 with ⟨e3, e4, rfl, hs⟩ | ⟨b, g, n, rfl, rfl, rfl, rfl, hs, hq⟩
  · rw [mm_from, seg_from hs]
    simp only [Nat.zero_add]
    have : j = s.data.toList.length := by omega
    rw [show from' m.data.toList s.data.toList j j = from' m.data.toList s.data.toList j s.data.toList.length from by rw [← this], from_end]
  · rw [Bool.eq_iff_iff, hq]
    exact (seg_end hs (by omega)).symm

theorem drew_more {w wr : World} (h : ∃ n, wr = w.drewN n) : ∃ n, wr.drew = w.drewN n := by
  obtain ⟨n, rfl⟩ := h; exact ⟨n + 1, rfl⟩

theorem drewN_more {w wr : World} {q : Nat} (h : ∃ n, wr = w.drewN n) : ∃ n, wr.drewN q = w.drewN n := by
  obtain ⟨n, rfl⟩ := h; exact ⟨n + q, by rw [World.drewN_drewN]⟩

set_option maxHeartbeats 8000000 in
theorem match_any (m s : ByteArray) (w : World) (hm : m.size ≤ 1000000) (hs : s.size ≤ 1000000) :
    Calls Tryz.prog 90 #[.string m, .string s] w fun e w' => e = .returned (.bool (mm m.data.toList s.data.toList)) ∧ (∃ n, w' = w.drewN n) := by
  have mixed : Tryz.prog.follows Departure.mixedOrders = true := by kernel_rfl
  go_enter Tryz.func90, Tryz.ntmps90
  go_wp2_with fail
  go_step3
  go_wp2_with fail
  go_step3
  go_wp2_with fail
  go_loopw [5, 6, 7, 8] (fun va vs vf vi wr => ∃ (k j : Nat) (st f : Int), va = .int .i64 k ∧ vs = .int .i64 st ∧ vf = .int .i64 f ∧ vi = .int .i64 j ∧ At m s k j st f ∧ ∃ n, wr = w.drewN n) (fun _ vs vf vi _ => meas' m s vs vf vi)
  case atStart => exact ⟨0, 0, -1, 0, rfl, rfl, rfl, rfl, ⟨0, 0, rfl, rfl, Nat.zero_le _, Nat.zero_le _, .inl ⟨rfl, rfl, rfl, seg_zero (Nat.zero_le _) (Nat.zero_le _)⟩⟩, 0, rfl⟩
  case round =>
    obtain ⟨k, j, st, f, rfl, rfl, rfl, rfl, hA, hw⟩ := hrel
    have hk : k ≤ m.size := by obtain ⟨k', j', e1, e2, h1, h2, h3⟩ := hA; omega
    have hj : j ≤ s.size := by obtain ⟨k', j', e1, e2, h1, h2, h3⟩ := hA; omega
    have hst0 : st < 0 → st = -1 := by obtain ⟨k', j', e1, e2, h1, h2, ⟨h3, _⟩ | ⟨b, g, n, h3, _⟩⟩ := hA <;> omega
    have hst1 : ¬ st < 0 → ∃ b g : Nat, st = b ∧ f = g ∧ b ≤ m.size ∧ g ≤ s.size := by
      obtain ⟨k', j', e1, e2, h1, h2, ⟨h3, _⟩ | ⟨b, g, n, h3, h6, h4, h5, _⟩⟩ := hA
      · intro h; omega
      · intro _; exact ⟨b, g, h3, h6, by omega, by omega⟩
    have HA := Lib.hid hA
    have Hw := Lib.hid hw
    clear hA hw
    by_cases hlt : j < s.size
    · by_cases hkm : k < m.size
      · by_cases hc : m[k] = 42
        · have hc1 : ((m[k].toNat : Int) == 42) = true := by rw [hc]; rfl
          clear hst0 hst1
          go_wp2_with fail
          refine ⟨⟨k + 1, j, k + 1, j, by push_cast; rfl, rfl, rfl, rfl, ?_, Hw.out⟩, ?_⟩
          · have := (at_star HA.out hkm hlt hc).1; push_cast; exact this
          · exact (at_star HA.out hkm hlt hc).2
        · have hc1 : ((m[k].toNat : Int) == 42) = false := by
            rw [beq_eq_false_iff_ne]; intro e; exact hc (UInt8.toNat_inj.mp (by have : (42 : UInt8).toNat = 42 := rfl; omega))
          cases hb : mb m[k] s[j] with
          | true =>
            clear hst0 hst1
            go_wp2_with fail
            go_region_with_o (refine (means_any _ _ _).mono ?_; rintro e w' ⟨rfl, rfl⟩)
            all_goals go_wp2_with fail
            all_goals (refine ⟨⟨k + 1, j + 1, st, f, by push_cast; rfl, rfl, rfl, by push_cast; rfl, ?_, drew_more Hw.out⟩, ?_⟩)
            all_goals first | exact (at_step HA.out hkm hlt hc hb).2 | (have := (at_step HA.out hkm hlt hc hb).1; push_cast; exact this)
          | false =>
            by_cases hst : st < 0
            · obtain rfl := hst0 hst
              clear hst0 hst1
              go_wp2_with fail
              go_region_with_o (refine (means_any _ _ _).mono ?_; rintro e w' ⟨rfl, rfl⟩)
              all_goals go_wp2_with fail
              all_goals first | go_ret | (rw [Exit.noGoto_ret]; go_ret)
              all_goals exact ⟨ret_bool (at_out HA.out hlt (.inr ⟨hkm, hlt, hc, hb⟩)), drew_more Hw.out⟩
            · obtain ⟨b, g, rfl, rfl, hbm, hgm⟩ := hst1 hst
              clear hst0 hst1
              go_wp2_with fail
              go_region_with_o (refine (means_any _ _ _).mono ?_; rintro e w' ⟨rfl, rfl⟩)
              all_goals go_wp2_with fail
              all_goals (refine ⟨⟨b, g + 1, b, g + 1, rfl, rfl, by push_cast; rfl, by push_cast; rfl, ?_, drew_more Hw.out⟩, ?_⟩)
              all_goals first | exact (at_miss HA.out hlt (.inr ⟨hkm, hlt, hc, hb⟩)).2 | (have := (at_miss HA.out hlt (.inr ⟨hkm, hlt, hc, hb⟩)).1; push_cast; exact this)
      · obtain rfl : k = m.size := by omega
        by_cases hst : st < 0
        · obtain rfl := hst0 hst
          clear hst0 hst1
          go_wp2_with fail
          go_quiet (fail)
          all_goals go_wp2_with fail
          all_goals first | go_ret | (rw [Exit.noGoto_ret]; go_ret)
          all_goals exact ⟨ret_bool (at_out HA.out hlt (.inl (Nat.le_refl _))), (by first | exact drewN_more Hw.out | exact drew_more Hw.out)⟩
        · obtain ⟨b, g, rfl, rfl, hbm, hgm⟩ := hst1 hst
          clear hst0 hst1
          go_wp2_with fail
          go_quiet (fail)
          all_goals go_wp2_with fail
          all_goals (refine ⟨⟨b, g + 1, b, g + 1, rfl, rfl, by push_cast; rfl, by push_cast; rfl, ?_, (by first | exact drewN_more Hw.out | exact drew_more Hw.out)⟩, ?_⟩)
          all_goals first | exact (at_miss HA.out hlt (.inl (Nat.le_refl _))).2 | (have := (at_miss HA.out hlt (.inl (Nat.le_refl _))).1; push_cast; exact this)
    · clear hst0 hst1
      go_wp2_with (go_at_call 106; refine (trim_star _ _ (by simp [ByteArray.size_extract]; omega)).mono ?_; rintro e w' ⟨⟨r, rfl, hr⟩, hw⟩)
      have hd : List.take (m.size - k) (List.drop k m.data.toList) = m.data.toList.drop k := List.take_of_length_le (by simp)
      rw [Exit.noGoto_ret]; go_ret
      refine ⟨ret_bool (by rw [hd]; exact at_end HA.out (by omega)), ?_⟩
      obtain ⟨n, e⟩ := Hw.out
      subst e
      rcases hw with rfl | rfl
      · exact ⟨n, rfl⟩
      · exact ⟨n + 1, rfl⟩
end Go.Proofs.YtmgnhbihfgpccaaGreatDoor
end
