/- The answers' Clean; ValidCleans, walked. -/
import Derived.Test.YtoaimmojnmgelaaDoorValidF
namespace Go.Proofs.YtoaimmojnmgelaaDoor
set_option linter.unusedVariables false
set_option linter.unusedSimpArgs false
open Go.RowKit

theorem app_one' (t s : ByteArray) (k : Nat) (h : k < s.size) : (t ++ s.extract k (k + 1)).data.toList = t.data.toList ++ [s[k]] := by
  have : (s.extract k (k + 1)).data.toList = [s[k]] := by
    rw [Lib.extract_data, show k + 1 - k = 1 by omega, List.drop_eq_getElem_cons (by simpa using h), List.take_succ_cons, List.take_zero]; rfl
  rw [← this]; simp
theorem take_snoc_lt {l : List UInt8} {n : Nat} {c : UInt8} (h : (l.take n).length < n) : (l ++ [c]).take n = l.take n ++ [c] := by
  rw [List.length_take] at h
  rw [List.take_append, List.take_of_length_le (l := l) (by omega), List.take_of_length_le (l := [c]) (by simp; omega)]
theorem take_snoc_ge {l : List UInt8} {n : Nat} {c : UInt8} (h : ¬ (l.take n).length < n) : (l ++ [c]).take n = l.take n := by
  rw [List.length_take] at h
  rw [List.take_append, show n - l.length = 0 by omega]
  simp
theorem brk_three (b : UInt8) : brkB b = !((((b.toNat : Int) != 0) && ((b.toNat : Int) != 10)) && ((b.toNat : Int) != 13)) := by
  have := all256 (p := fun b => brkB b == !((((b.toNat : Int) != 0) && ((b.toNat : Int) != 10)) && ((b.toNat : Int) != 13))) (by kernel_rfl) b
  simpa only [beq_iff_eq] using this

set_option maxHeartbeats 4000000 in
theorem clean_r (s : ByteArray) (most : Int) (w : World) (hs : s.size ≤ 1000000) :
    Calls Tryd.prog 29 #[.string s, .int .i64 most] w fun e w' => e = .returned (.string (cleanV s most)) ∧ w = w' := by
  go_enter Tryd.func29, Tryd.ntmps29
  go_wp2_with fail
  go_loopw [5, 6] (fun v i wr => ∃ (k : Nat) (t : ByteArray), i = .int .i64 k ∧ k ≤ s.size ∧ v = .string t ∧ t.data.toList = (cleanL (s.data.toList.take k)).take most.toNat ∧ wr = w) (fun _ i _ => s.size - (intOf i).toNat)
  case atStart => exact ⟨0, ⟨#[]⟩, rfl, Nat.zero_le _, rfl, by simp [cleanL], rfl⟩
  case round =>
    obtain ⟨k, t, rfl, hk, rfl, ht, rfl⟩ := hrel
    have htl : t.size ≤ 1000000 := by
      have h0 : t.data.toList.length = t.size := by simp
      rw [← h0, ht, List.length_take]
      have h1 := clean_len (s.data.toList.take k)
      have h2 : (s.data.toList.take k).length ≤ k := List.length_take_le _ _
      omega
    by_cases hlt : k < s.size
    · have hnx := clean_next s k hlt
      have hex := app_one' t s k hlt
      have hbr := brk_three s[k]
      have hlen : t.size = ((cleanL (s.data.toList.take k)).take most.toNat).length := by rw [← ht]; simp
      have hsn : ((cleanL (s.data.toList.take k)).take most.toNat).length < most.toNat → (cleanL (s.data.toList.take k) ++ [s[k]]).take most.toNat = (cleanL (s.data.toList.take k)).take most.toNat ++ [s[k]] := take_snoc_lt
      have hsg : ¬ ((cleanL (s.data.toList.take k)).take most.toNat).length < most.toNat → (cleanL (s.data.toList.take k) ++ [s[k]]).take most.toNat = (cleanL (s.data.toList.take k)).take most.toNat := take_snoc_ge
      rw [← hlen] at hsn hsg
      have HN := Lib.hid hnx
      have HE := Lib.hid hex
      have HT := Lib.hid ht
      have HS := Lib.hid hsn
      have HG := Lib.hid hsg
      clear hnx hex ht hlen hsn hsg
      cases h1 : ((s[k].toNat : Int) != 0) <;> cases h2 : ((s[k].toNat : Int) != 10) <;> cases h3 : ((s[k].toNat : Int) != 13) <;> rw [h1, h2, h3] at hbr
      case true.true.true =>
        have HB := Lib.hid hbr
        clear hbr
        by_cases hm : (t.size : Int) < most
        · have hm2 : t.size < most.toNat := by omega
          go_wp2_with fail
          go_roundw
          case rel => exact ⟨k + 1, _, by go_num, by omega, rfl, by rw [HE.out, HN.out, HB.out]; simp only [Bool.and_self, Bool.not_true, Bool.false_eq_true, if_false]; rw [HS.out hm2, HT.out], by simp⟩
          case measure => simp [intOf]; omega
        · have hm2 : ¬ t.size < most.toNat := by omega
          go_wp2_with fail
          go_roundw
          case rel => exact ⟨k + 1, _, by go_num, by omega, rfl, by rw [HN.out, HB.out]; simp only [Bool.and_self, Bool.not_true, Bool.false_eq_true, if_false]; rw [HG.out hm2, HT.out], by simp⟩
          case measure => simp [intOf]; omega
      all_goals
        have HB := Lib.hid hbr
        clear hbr
        go_wp2_with fail
        go_roundw
        case rel => exact ⟨k + 1, _, by go_num, by omega, rfl, by rw [HN.out, HB.out]; simp [HT.out], by simp⟩
        case measure => simp [intOf]; omega
    · obtain rfl : k = s.size := by omega
      have HT := Lib.hid ht
      clear ht
      go_wp2_with fail
      go_ret
      exact ⟨ret_str (ba_ext (by rw [HT.out, List.take_of_length_le (l := s.data.toList) (by simp)]; unfold cleanV; simp)), rfl⟩

theorem cleanV_text (s : ByteArray) (most : Int) : textL (cleanV s most).data.toList = true := by
  unfold cleanV
  rw [bs_toList]
  exact text_take (text_clean _) _
theorem cleanV_again (s : ByteArray) (most : Int) : cleanV (cleanV s most) most = cleanV s most := by
  have h := clean_text (cleanV_text s most)
  unfold cleanV at h ⊢
  rw [bs_toList] at h ⊢
  rw [h, List.take_take, Nat.min_self]
theorem cleanV_size (s : ByteArray) (most : Int) : (cleanV s most).size ≤ s.size ∧ ((cleanV s most).size : Int) ≤ max most 0 := by
  unfold cleanV
  rw [bs_size, List.length_take]
  have h1 := clean_len s.data.toList
  have h2 : s.data.toList.length = s.size := by simp
  omega

set_option maxHeartbeats 4000000 in
theorem validCleans_walk (s : ByteArray) (most : Int) (w : World) (_hs : s.size ≤ maxLen) (hr : Rowed w) :
    Calls Tryd.prog 5 #[.string s, .int .i64 most] w fun e w' => e = .returned (.bool true) ∧ Below w.heap.size w w' := by
  unfold maxLen at _hs
  by_cases h : 200 < s.size
  · go_enter Tryd.func5, Tryd.ntmps5
    go_wp2_with (go_at_call 13; refine (awake3 _ (by assumption)).mono ?_; rintro e w' ⟨rfl, rfl⟩)
    go_ret
    exact ⟨rfl, Below.refl _ _⟩
  · have hs : s.size ≤ 1000000 := by omega
    obtain ⟨z1, z2⟩ := cleanV_size s most
    have ht := cleanV_text s most
    have hg := cleanV_again s most
    obtain ⟨t, htt⟩ : ∃ t, cleanV s most = t := ⟨_, rfl⟩
    rw [htt] at z1 z2 ht hg
    have hts : t.size ≤ 1000000 := by omega
    have HT := Lib.hid ht
    have HG := Lib.hid hg
    have HV := Lib.hid htt
    clear ht hg htt
    go_enter Tryd.func5, Tryd.ntmps5
    go_wp2_with fail
    refine (awake3 _ hr).mono ?_
    rintro e w' ⟨rfl, rfl⟩
    go_wp2_with fail
    refine (clean_v _ _ _ hs).mono ?_
    rintro e w1 ⟨rfl, q⟩
    rw [HV.out]
    go_wp2_with fail
    refine (clean_r _ _ _ hs).mono ?_
    rintro e w' ⟨rfl, rfl⟩
    rw [HV.out]
    go_wp2_with fail
    refine (text_v _ _ hts).mono ?_
    rintro e w2 ⟨rfl, q2⟩
    rw [HT.out]
    replace q := q.trans (q2.mono q.size); clear q2
    go_wp2_with fail
    refine (clean_v _ _ _ hts).mono ?_
    rintro e w3 ⟨rfl, q2⟩
    rw [HG.out]
    replace q := q.trans (q2.mono q.size); clear q2
    go_wp2_with fail
    go_ret
    exact ⟨ret_bool (by simp; try omega), q⟩
end Go.Proofs.YtoaimmojnmgelaaDoor
