/- glob.meansByte; strings.Trim with one byte. -/
import Derived.Test.YteepgklilhljiaaDoorGlobM
import Derived.Test.YteepgklilhljiaaDoorValidA
import Derived.Test.YteepgklilhljiaaDoorFoldD
import Derived.Shelf.RegionOpenPlain
namespace Go.Proofs.YteepgklilhljiaaDoor
open Go.RowKit

theorem u8_beq (a b : UInt8) : ((a.toNat : Int) == (b.toNat : Int)) = (a == b) := by
  rw [Bool.eq_iff_iff, beq_iff_eq, beq_iff_eq]
  constructor
  · intro h; exact UInt8.toNat_inj.mp (by omega)
  · intro h; rw [h]
theorem means_any (c b : UInt8) (w : World) :
    Calls Tryd.prog 30 #[.int .u8 ↑c.toNat, .int .u8 ↑b.toNat] w fun e w' => e = .returned (.bool (mb c b)) ∧ w = w' := by
  cases h : ((c.toNat : Int) == 63)
  · go_enter Tryd.func30, Tryd.ntmps30
    go_wp2_with (go_at_call 33; refine (byte_u8 _ _).mono ?_; rintro e w' ⟨rfl, rfl⟩)
    go_ret
    have e : (c == 63) = false := by rw [← u8_beq c 63]; exact h
    exact ⟨ret_bool (by unfold mb; rw [e, Bool.false_or, u8_beq]), rfl⟩
  · go_enter Tryd.func30, Tryd.ntmps30
    go_wp2_with fail
    go_ret
    have e : (c == 63) = true := by rw [← u8_beq c 63]; exact h
    exact ⟨ret_bool (by unfold mb; rw [e, Bool.true_or]), rfl⟩

/-- what a text is behind the bytes at its end that are one -/
def dropEnd (c : UInt8) (l : List UInt8) : List UInt8 := (l.reverse.dropWhile (· == c)).reverse
/-- are all bytes so? -/
def allC (c : UInt8) (l : List UInt8) : Bool := l.all (· == c)

def strSize : Value → Nat
  | .string s => s.size
  | _ => 0
theorem allC_at {c : UInt8} {s : ByteArray} (h : allC c s.data.toList = true) (k : Nat) (hk : k < s.size) : s[k] = c := by
  have := List.all_eq_true.1 h s[k] (by
    have e : s[k] = s.data.toList[k]'(by simpa using hk) := rfl
    rw [e]; exact List.getElem_mem _)
  simpa using this
theorem allC_head {c : UInt8} {s : ByteArray} (hk : 0 < s.size) (h : s[0] = c) : allC c (s.extract 1 s.size).data.toList = allC c s.data.toList := by
  rw [ba_extract_to]
  have e := List.drop_eq_getElem_cons (l := s.data.toList) (i := 0) (by simpa using hk)
  rw [List.drop_zero] at e
  have e0 : s.data.toList[0]'(by simpa using hk) = c := h
  rw [e0] at e
  unfold allC
  conv => rhs; rw [e]
  simp
theorem allC_last {c : UInt8} {s : ByteArray} {n : Nat} (hk : s.size = n + 1) (h : s[n]'(by omega) = c) : allC c (s.extract 0 n).data.toList = allC c s.data.toList := by
  rw [Lib.extract_data]
  have hl : s.data.toList.length = n + 1 := by simpa using hk
  have e : s.data.toList = s.data.toList.take n ++ [c] := by
    have := List.take_succ_eq_append_getElem (l := s.data.toList) (i := n) (by omega)
    rw [List.take_of_length_le (by omega)] at this
    rw [this]
    congr 2
  unfold allC
  conv => rhs; rw [e]
  simp

set_option maxHeartbeats 1000000 in
theorem trimRight_any (s : ByteArray) (c : UInt8) (w : World) (hs : s.size ≤ 1000000) :
    Calls Tryd.prog 35 #[.string s, .int .u8 ↑c.toNat] w fun e w' => (∃ r : ByteArray, e = .returned (.string r) ∧ r.size ≤ s.size ∧ allC c r.data.toList = allC c s.data.toList ∧ (allC c r.data.toList = true → r.size = 0)) ∧ w = w' := by
  go_enter Tryd.func35, Tryd.ntmps35
  go_wp2_with fail
  go_loopw [0] (fun v wr => ∃ t : ByteArray, v = .string t ∧ t.size ≤ s.size ∧ allC c t.data.toList = allC c s.data.toList ∧ wr = w) (fun v _ => strSize v)
  case atStart => exact ⟨s, rfl, Nat.le_refl _, rfl, rfl⟩
  case round =>
    obtain ⟨t, rfl, hk, hq, rfl⟩ := hrel
    have Hq := Lib.hid hq
    clear hq
    by_cases hlt : t.size = 0
    · go_wp2_with fail
      go_ret
      exact ⟨⟨t, rfl, hk, Hq.out, fun _ => hlt⟩, rfl⟩
    · obtain ⟨n, hn⟩ : ∃ n, t.size = n + 1 := ⟨t.size - 1, by omega⟩
      have hn' : (t.size : Int) - 1 = n := by omega
      by_cases hb : t[n] = c
      · have hb' : ((t[n].toNat : Int) == ↑c.toNat) = true := by rw [u8_beq]; simpa using hb
        go_wp2_with fail
        exact ⟨⟨t.extract 0 n, rfl, by simp [ByteArray.size_extract]; omega, (allC_last hn hb).trans Hq.out, by simp⟩, by simp [strSize, ByteArray.size_extract]; omega⟩
      · have hb' : ((t[n].toNat : Int) == ↑c.toNat) = false := by rw [u8_beq]; simpa using hb
        go_wp2_with fail
        go_ret
        exact ⟨⟨t, rfl, hk, Hq.out, fun h => absurd (allC_at h n (by omega)) hb⟩, rfl⟩
set_option maxHeartbeats 1000000 in
theorem trimLeft_any (s : ByteArray) (c : UInt8) (w : World) (hs : s.size ≤ 1000000) :
    Calls Tryd.prog 34 #[.string s, .int .u8 ↑c.toNat] w fun e w' => (∃ r : ByteArray, e = .returned (.string r) ∧ r.size ≤ s.size ∧ allC c r.data.toList = allC c s.data.toList ∧ (allC c r.data.toList = true → r.size = 0)) ∧ w = w' := by
  go_enter Tryd.func34, Tryd.ntmps34
  go_wp2_with fail
  go_loopw [0] (fun v wr => ∃ t : ByteArray, v = .string t ∧ t.size ≤ s.size ∧ allC c t.data.toList = allC c s.data.toList ∧ wr = w) (fun v _ => strSize v)
  case atStart => exact ⟨s, rfl, Nat.le_refl _, rfl, rfl⟩
  case round =>
    obtain ⟨t, rfl, hk, hq, rfl⟩ := hrel
    have Hq := Lib.hid hq
    clear hq
    by_cases hlt : t.size = 0
    · go_wp2_with fail
      go_ret
      exact ⟨⟨t, rfl, hk, Hq.out, fun _ => hlt⟩, rfl⟩
    · have h0 : 0 < t.size := by omega
      by_cases hb : t[0] = c
      · have hb' : ((t[0].toNat : Int) == ↑c.toNat) = true := by rw [u8_beq]; simpa using hb
        go_wp2_with fail
        exact ⟨⟨t.extract 1 t.size, rfl, by simp [ByteArray.size_extract]; omega, (allC_head h0 hb).trans Hq.out, by simp⟩, by simp [strSize, ByteArray.size_extract]; omega⟩
      · have hb' : ((t[0].toNat : Int) == ↑c.toNat) = false := by rw [u8_beq]; simpa using hb
        go_wp2_with fail
        go_ret
        exact ⟨⟨t, rfl, hk, Hq.out, fun h => absurd (allC_at h 0 h0) hb⟩, rfl⟩

theorem empty_stars {r : ByteArray} (h : stars r.data.toList = true → r.size = 0) : r.toList.isEmpty = stars r.data.toList := by
  cases e : stars r.data.toList with
  | true => exact str_em (h e)
  | false =>
    refine str_ne ?_
    rcases Nat.eq_zero_or_pos r.size with h0 | h0
    · rw [str_nil h0] at e; cases e
    · exact h0
set_option maxRecDepth 1000000 in
set_option maxHeartbeats 2000000 in
/-- strings.Trim with one byte below 128. -/
theorem trim_any (s : ByteArray) (c : UInt8) (hc : c.toNat < 128) (w : World) (hs : s.size ≤ 1000000) :
    Calls Tryd.prog 31 #[.string s, .string ⟨#[c]⟩] w fun e w' => (∃ r : ByteArray, e = .returned (.string r) ∧ allC c r.data.toList = allC c s.data.toList ∧ (allC c r.data.toList = true → r.size = 0)) ∧ (w' = w ∨ w' = w.drew) := by
  have hc' : ¬ (128 : Int) ≤ (c.toNat : Int) := by omega
  have mixed : Tryd.prog.follows Departure.mixedOrders = true := by kernel_rfl
  go_enter Tryd.func31, Tryd.ntmps31
  go_wp2
  · go_ret
    rename_i h9
    refine ⟨⟨s, rfl, rfl, fun _ => ?_⟩, Or.inl rfl⟩
    rw [ByteArray.toList_eq] at h9
    have := congrArg List.length h9
    simpa using this
  · exfalso
    have h1 : ¬ s.toList = [] := by assumption
    have h2 : s.toList.isEmpty = true := by assumption
    exact h1 (by simpa using h2)
  · go_region_with_o (first | (refine (trimRight_any s c _ hs).mono ?_; rintro e w' ⟨⟨r, rfl, hr, hq, hz⟩, rfl⟩) | (refine (trimLeft_any _ c _ (Nat.le_trans (by assumption) hs)).mono ?_; rintro e w' ⟨⟨r2, rfl, hr2, hq2, hz2⟩, rfl⟩))
    all_goals (go_wp2; go_ret; exact ⟨⟨_, rfl, hq2.trans hq, hz2⟩, Or.inr rfl⟩)
  all_goals (
    exfalso
    have h1 : (128 : Int) ≤ (((⟨#[c]⟩ : ByteArray)[0]'Nat.zero_lt_one).toNat : Int) := by assumption
    have h2 : ((⟨#[c]⟩ : ByteArray)[0]'Nat.zero_lt_one) = c := rfl
    rw [h2] at h1
    omega)
theorem trim_star (s : ByteArray) (w : World) (hs : s.size ≤ 1000000) :
    Calls Tryd.prog 31 #[.string s, .string ⟨#[42]⟩] w fun e w' => (∃ r : ByteArray, e = .returned (.string r) ∧ r.toList.isEmpty = stars s.data.toList) ∧ (w' = w ∨ w' = w.drew) := by
  refine (trim_any s 42 (by decide) w hs).mono ?_
  rintro e w' ⟨⟨r, he, hq, hz⟩, hw⟩
  refine ⟨⟨r, he, ?_⟩, hw⟩
  have e1 : stars s.data.toList = allC 42 s.data.toList := rfl
  rw [e1, ← hq]
  exact empty_stars hz
end Go.Proofs.YteepgklilhljiaaDoor
