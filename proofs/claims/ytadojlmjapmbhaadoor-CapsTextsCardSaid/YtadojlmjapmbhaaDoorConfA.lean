/- Layer 15: what may be a password, on both sides; the answers' Check. -/
import Derived.Test.YtadojlmjapmbhaaDoorValidD
import Derived.Test.YtadojlmjapmbhaaDoorOwn
namespace Go.Proofs.YtadojlmjapmbhaaDoor
set_option linter.unusedVariables false
set_option linter.unusedSimpArgs false
open Go.RowKit

theorem rowed_below {w w' : World} {B : Nat} (h : Rowed w) (hB : w.heap.size ≤ B) (hb : Below B w w') : Rowed w' := by
  intro i hi
  obtain ⟨s, h1, h2⟩ := h i hi
  refine ⟨s, ?_, h2⟩
  rw [← h1]
  exact hb.cell (Nat.lt_of_lt_of_le (World.block_lt_of_cell? _ _ h1) hB)
def PassP (s : ByteArray) : Prop := (∀ i (h : i < s.size), seen s[i] = true) ∧ s.size ≤ 50 ∧ ∀ h : 0 < s.size, s[0].toNat ≠ 58
/-- does a text begin with a byte? -/
def headB (s : ByteArray) (c : UInt8) : Bool := s.data.toList.head? == some c
theorem head_at {s : ByteArray} {c : UInt8} (h : 0 < s.size) : headB s c = (s[0] == c) := by
  unfold headB
  have : s.data.toList.head? = some s[0] := by
    rw [List.head?_eq_getElem?, List.getElem?_eq_getElem (by simpa using h)]; rfl
  rw [this]; rfl
theorem head_em {s : ByteArray} {c : UInt8} (h : s.size = 0) : headB s c = false := by
  unfold headB
  rw [str_nil h]; rfl
theorem extract1 (s : ByteArray) (c : UInt8) (h : 0 < s.size) : ((s.extract 0 1).toList == (⟨#[c]⟩ : ByteArray).toList) = (s[0] == c) := by
  have e : (s.extract 0 1).data.toList = [s[0]] := by
    rw [Lib.extract_data, List.drop_zero]
    have := List.take_succ_eq_append_getElem (l := s.data.toList) (i := 0) (by simpa using h)
    rw [Nat.sub_zero]
    rw [this]; rfl
  rw [beq_ba, e]
  show ([s[0]] == [c]) = _
  simp

theorem pre_lite (s : ByteArray) (c : UInt8) (w : World) (hs : s.size ≤ 1000000) :
    Calls Tryd.prog 44 #[.string s, .string ⟨#[c]⟩] w fun e w' => e = .returned (.bool (headB s c)) ∧ w = w' := by
  by_cases h : 0 < s.size
  · have e := extract1 s c h
    rw [← head_at h] at e
    have h1 : 1 ≤ s.size := h
    have E := Lib.hid e
    clear e
    go_enter Tryd.func44, Tryd.ntmps44
    go_wp2_with fail
    go_ret
    exact ⟨ret_bool (by rw [← E.out, show (⟨#[c]⟩ : ByteArray).toList = [c] from by rw [ByteArray.toList_eq]]), rfl⟩
  · have e := head_em (s := s) (c := c) (by omega)
    have E := Lib.hid e
    clear e
    go_enter Tryd.func44, Tryd.ntmps44
    go_wp2_with fail
    go_ret
    exact ⟨ret_bool (by rw [E.out]), rfl⟩
theorem pre_any (s : ByteArray) (c : UInt8) (w : World) (hs : s.size ≤ 1000000) :
    Calls Tryd.prog 48 #[.string s, .string ⟨#[c]⟩] w fun e w' => e = .returned (.bool (headB s c)) ∧ w = w' := by
  go_enter Tryd.func48, Tryd.ntmps48
  go_wp2_with (go_at_call 44; refine (pre_lite s c _ hs).mono ?_; rintro e w' ⟨rfl, rfl⟩)
  go_ret
  exact ⟨rfl, rfl⟩

set_option maxHeartbeats 1000000 in
theorem pass_v (s : ByteArray) (w : World) (hs : s.size ≤ 1000000) :
    Calls Tryd.prog 35 #[.string s] w fun e w' => e = .returned (.bool (dec (PassP s))) ∧ w = w' := by
  go_enter Tryd.func35, Tryd.ntmps35
  go_wp2_with fail
  go_loopw [3, 6] (fun _ i wr => ∃ k : Nat, k ≤ s.size ∧ i = .int .i64 k ∧ (∀ i, i < k → ∀ (hi : i < s.size), (fun _ b => seen b) i s[i] = true) ∧ wr = w) (fun _ i _ => s.size - (intOf i).toNat)
  case atStart => exact ⟨0, Nat.zero_le _, rfl, fun _ h => absurd h (Nat.not_lt_zero _), rfl⟩
  case round =>
    obtain ⟨k, hk, rfl, hq, rfl⟩ := hrel
    have Hq := Lib.hid hq
    clear hq
    by_cases hlt : k < s.size
    · by_cases hb : 33 ≤ s[k].toNat
      · by_cases hb2 : s[k].toNat ≤ 126
        · go_wp2_with fail
          go_roundw
          case rel => exact ⟨k + 1, by omega, by push_cast; rfl, all_step Hq.out hlt (decide_eq_true ⟨hb, hb2⟩), by simp⟩
          case measure => simp only [intOf]; omega
        · go_wp2_with fail
          go_ret
          exact ⟨ret_bool (dec_no fun h => hb2 (by have := of_decide_eq_true (h.1 k hlt); exact this.2)), rfl⟩
      · go_wp2_with fail
        go_ret
        exact ⟨ret_bool (dec_no fun h => hb (by have := of_decide_eq_true (h.1 k hlt); exact this.1)), rfl⟩
    · obtain rfl : k = s.size := by omega
      by_cases h50 : s.size ≤ 50
      · go_wp2_with (go_at_call 48; refine (pre_any s 58 _ hs).mono ?_; rintro e w' ⟨rfl, rfl⟩)
        go_ret
        refine ⟨ret_bool (dec_of ?_), rfl⟩
        constructor
        · intro h
          refine ⟨fun i hi => Hq.out i hi hi, h50, fun h0 e => ?_⟩
          rw [head_at h0, show s[0] = 58 from UInt8.toNat_inj.mp e] at h
          simp at h
        · rintro ⟨_, _, h⟩
          by_cases h0 : 0 < s.size
          · rw [head_at h0]
            simp
            intro e; exact h h0 (by rw [e]; rfl)
          · rw [head_em (by omega)]; rfl
      · go_wp2_with fail
        go_ret
        exact ⟨ret_bool (dec_no fun h => h50 h.2.1), rfl⟩





def inR (n a b : Int) : Bool := decide (a ≤ n ∧ n ≤ b)
end Go.Proofs.YtadojlmjapmbhaaDoor
