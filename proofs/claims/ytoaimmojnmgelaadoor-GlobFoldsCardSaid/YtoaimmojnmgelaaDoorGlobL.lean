/- The answers' Short. -/
import Derived.Test.YtoaimmojnmgelaaDoorGlobK
namespace Go.Proofs.YtoaimmojnmgelaaDoor
open Go.RowKit

theorem short_len (l : List UInt8) : (shortL l).length ≤ l.length := by
  have := shS_len l
  unfold shortL
  split <;> rename_i h <;> simp [h] at this ⊢ <;> omega
/-- one byte more -/
theorem short_next (s : ByteArray) (k : Nat) (h : k < s.size) : shortL (s.data.toList.take (k + 1)) =
    if s[k] = 42 then (shS (s.data.toList.take k)).1 ++ [42] else if s[k] = 63 ∧ (shS (s.data.toList.take k)).2 = true then (shS (s.data.toList.take k)).1 ++ [63, 42] else shortL (s.data.toList.take k) ++ [s[k]] := by
  unfold shortL
  rw [shS_next s k h]
  obtain ⟨⟨o, st⟩, ho⟩ : ∃ x, shS (s.data.toList.take k) = x := ⟨_, rfl⟩
  rw [ho]
  unfold shStep
  by_cases h1 : s[k] = 42
  · simp [h1]
  · by_cases h2 : s[k] = 63
    · cases st <;> simp [h2]
    · cases st <;> simp [h1, h2]
theorem app_one (t s : ByteArray) (k : Nat) (h : k < s.size) : (t ++ s.extract k (k + 1)).data.toList = t.data.toList ++ [s[k]] := by
  have : (s.extract k (k + 1)).data.toList = [s[k]] := by
    rw [Lib.extract_data, show k + 1 - k = 1 by omega, List.drop_eq_getElem_cons (by simpa using h), get_ba s k h]; rfl
  rw [← this]; simp
theorem last_at {t : ByteArray} {o : List UInt8} {c : UInt8} (h : t.data.toList = o ++ [c]) (h0 : 0 < t.size) : t[t.size - 1] = c := by
  have h1 : t[t.size - 1] = t.data.toList[t.size - 1]'(by simp; omega) := rfl
  have h2 : t.size = o.length + 1 := by rw [← len_ba, h]; simp
  rw [h1]
  have : t.data.toList[t.size - 1]? = some c := by rw [h, h2]; simp
  rw [List.getElem?_eq_getElem (by simp; omega)] at this
  exact Option.some.inj this
theorem last_ne {t : ByteArray} {o : List UInt8} (h : t.data.toList = o) (hl : ∀ x, o.getLast? = some x → x ≠ 42) (h0 : 0 < t.size) : t[t.size - 1] ≠ 42 := by
  refine hl _ ?_
  rw [← h, List.getLast?_eq_getElem?, len_ba, List.getElem?_eq_getElem (by simp; omega)]
  rfl

set_option maxHeartbeats 4000000 in
theorem rshort_any (s : ByteArray) (w : World) (hs : s.size ≤ 1000000) :
    Calls Tryd.prog 42 #[.string s] w fun e w' => e = .returned (.string (bs (shortL s.data.toList))) ∧ w = w' := by
  go_enter Tryd.func42, Tryd.ntmps42
  go_wp2_with fail
  go_loopw [3, 4, 5] (fun v i _ wr => ∃ (k : Nat) (t : ByteArray), i = .int .i64 k ∧ k ≤ s.size ∧ v = .string t ∧ t.data.toList = shortL (s.data.toList.take k) ∧ wr = w) (fun _ i _ _ => s.size - (intOf i).toNat)
  case atStart => exact ⟨0, ⟨#[]⟩, rfl, Nat.zero_le _, rfl, rfl, rfl⟩
  case round =>
    obtain ⟨k, t, rfl, hk, rfl, ht, rfl⟩ := hrel
    have htl : t.size ≤ 1000000 := by
      rw [← len_ba, ht]
      have := short_len (s.data.toList.take k)
      have h2 : (s.data.toList.take k).length ≤ k := List.length_take_le _ _
      omega
    by_cases hlt : k < s.size
    · have hnx := short_next s k hlt
      have hla := shS_last (s.data.toList.take k)
      have hdef : shortL (s.data.toList.take k) = if (shS (s.data.toList.take k)).2 then (shS (s.data.toList.take k)).1 ++ [42] else (shS (s.data.toList.take k)).1 := rfl
      rw [← ht] at hnx hdef
      have hex := app_one t s k hlt
      obtain ⟨⟨o, st⟩, ho⟩ : ∃ x, shS (s.data.toList.take k) = x := ⟨_, rfl⟩
      rw [ho] at hnx hdef hla
      simp only at hnx hdef hla
      have Hnx := Lib.hid hnx
      have Hex := Lib.hid hex
      clear hnx ho ht hex
      by_cases h1 : s[k] = 42
      · have hc1 : ((s[k].toNat : Int) == 63) = false := by rw [h1]; rfl
        have hc2 : ((s[k].toNat : Int) != 42) = false := by rw [h1]; rfl
        have H1 := Lib.hid h1
        clear h1
        cases st
        · rw [if_neg (by decide)] at hdef
          by_cases h0 : t.size = 0
          · have h3 : ((t.size : Int) == 0) = true := by rw [beq_iff_eq]; omega
            have Hd := Lib.hid hdef
            have H0 := Lib.hid h0
            clear hdef hla h0
            go_wp2_with fail
            go_roundw
            case rel => exact ⟨k + 1, _, by go_num, by omega, rfl, by rw [Hnx.out, if_pos H1.out, ← Hd.out, Hex.out, H1.out], by simp⟩
            case measure => simp [intOf]; omega
          · have h3 : ((t.size : Int) == 0) = false := by rw [beq_eq_false_iff_ne]; omega
            have h0' : 0 < t.size := by omega
            have h4 := last_ne hdef hla h0'
            have h5 : ((t[t.size - 1].toNat : Int) != 42) = true := by
              rw [bne_iff_ne]; intro e; exact h4 (UInt8.toNat_inj.mp (by have : (42 : UInt8).toNat = 42 := rfl; omega))
            have Hd := Lib.hid hdef
            clear hdef hla h0 h4
            go_wp2_with fail
            go_roundw
            case rel => exact ⟨k + 1, _, by go_num, by omega, rfl, by rw [Hnx.out, if_pos H1.out, ← Hd.out, Hex.out, H1.out], by simp⟩
            case measure => simp [intOf]; omega
        · rw [if_pos rfl] at hdef
          have h0' : 0 < t.size := by rw [← len_ba, hdef]; simp
          have h3 : ((t.size : Int) == 0) = false := by rw [beq_eq_false_iff_ne]; omega
          have h4 := last_at hdef h0'
          have h5 : ((t[t.size - 1].toNat : Int) != 42) = false := by rw [h4]; rfl
          have Hd := Lib.hid hdef
          clear hdef hla h4
          go_wp2_with fail
          go_roundw
          case rel => exact ⟨k + 1, _, by go_num, by omega, rfl, by rw [Hnx.out, if_pos H1.out, ← Hd.out], by simp⟩
          case measure => simp [intOf]; omega
      · have hc2 : ((s[k].toNat : Int) != 42) = true := by
          rw [bne_iff_ne]; intro e; exact h1 (UInt8.toNat_inj.mp (by have : (42 : UInt8).toNat = 42 := rfl; omega))
        by_cases h2 : s[k] = 63
        · have hc1 : ((s[k].toNat : Int) == 63) = true := by rw [h2]; rfl
          have H2 := Lib.hid h2
          clear h2
          cases st
          · rw [if_neg (by decide)] at hdef
            by_cases h0 : t.size = 0
            · have h6 : decide (0 < t.size) = false := decide_eq_false (by omega)
              have h6b : ¬ 0 < t.size := by omega
              clear hdef hla h0
              go_wp2_with fail
              go_roundw
              case rel => exact ⟨k + 1, _, by go_num, by omega, rfl, by rw [Hnx.out, if_neg h1, if_neg (by simp), Hex.out], by simp⟩
              case measure => simp [intOf]; omega
            · have h0' : 0 < t.size := by omega
              have h6 : decide ((0 : Int) < (t.size : Int)) = true := decide_eq_true (by omega)
              have h4 := last_ne hdef hla h0'
              have h5 : ((t[t.size - 1].toNat : Int) == 42) = false := by
                rw [beq_eq_false_iff_ne]; intro e; exact h4 (UInt8.toNat_inj.mp (by have : (42 : UInt8).toNat = 42 := rfl; omega))
              clear hdef hla h0 h4
              go_wp2_with fail
              go_roundw
              case rel => exact ⟨k + 1, _, by go_num, by omega, rfl, by rw [Hnx.out, if_neg h1, if_neg (by simp), Hex.out], by simp⟩
              case measure => simp [intOf]; omega
          · rw [if_pos rfl] at hdef
            have h0' : 0 < t.size := by rw [← len_ba, hdef]; simp
            have h6 : decide ((0 : Int) < (t.size : Int)) = true := decide_eq_true (by omega)
            have h4 := last_at hdef h0'
            have h5 : ((t[t.size - 1].toNat : Int) == 42) = true := by rw [h4]; rfl
            have Hd := Lib.hid hdef
            clear hdef hla h4
            go_wp2_with fail
            go_roundw
            case rel => exact ⟨k + 1, _, by go_num, by omega, rfl, by rw [Hnx.out, if_neg h1, if_pos ⟨H2.out, by simp⟩]; (have h9 := congrArg List.length Hd.out; rw [len_ba] at h9; simp at h9); simp [Lib.extract_data, Hd.out, h9], by simp⟩
            case measure => simp [intOf]; omega
        · have hc1 : ((s[k].toNat : Int) == 63) = false := by
            rw [beq_eq_false_iff_ne]; intro e; exact h2 (UInt8.toNat_inj.mp (by have : (63 : UInt8).toNat = 63 := rfl; omega))
          clear hdef hla
          go_wp2_with fail
          go_roundw
          case rel => exact ⟨k + 1, _, by go_num, by omega, rfl, by rw [Hnx.out, if_neg h1, if_neg (by rintro ⟨h, _⟩; exact h2 h), Hex.out], by simp⟩
          case measure => simp [intOf]; omega
    · obtain rfl : k = s.size := by omega
      have Ht := Lib.hid ht
      clear ht
      go_wp2_with fail
      go_ret
      exact ⟨ret_str (ba_ext (by rw [Ht.out, List.take_of_length_le (by simp)]; simp)), rfl⟩
end Go.Proofs.YtoaimmojnmgelaaDoor
