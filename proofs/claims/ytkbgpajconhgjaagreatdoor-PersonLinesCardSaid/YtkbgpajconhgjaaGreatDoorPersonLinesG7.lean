/- Texts of this proof, one behind the other. -/
import Derived.Test.YtkbgpajconhgjaaGreatDoorPersonLinesG6
import Derived.Test.YtkbgpajconhgjaaGreatDoorPersonLinesG5
set_option linter.unusedVariables false
set_option linter.unusedSimpArgs false
section
/- The answers' Clean; ValidCleans, walked. -/
namespace Go.Proofs.YtkbgpajconhgjaaGreatDoor
open Go.RowKit

theorem app_one' (t s : ByteArray) (k : Nat) (h : k < s.size) : (t ++ s.extract k (k + 1)).data.toList = t.data.toList ++ [s[k]] := by
  have : (s.extract k (k + 1)).data.toList = [s[k]] := by
    rw [Lib.extract_data, show k + 1 - k = 1 by omega, List.drop_eq_getElem_cons (by simpa using h), List.take_succ_cons, List.take_zero]; rfl
  rw [← this]; simp
theorem take_snoc_lt {l : List UInt8} {n : Nat} {c : UInt8} (h : (l.take n).length < n) : (l ++ [c]).take n = l.take n ++ [c] := by
  rw [List.length_take] at h
  rw [List.take_append, List.take_of_length_le (l := l) (by omega), List.take_of_length_le (l := [c]) (by simp; omega)]
theorem take_snoc_ge {l : List UInt8} {n : Nat} {c : UInt8} (h : ¬ (l.take n).length < n) : (l ++ [c]).take n = l.take n := by
  rw [List.length_take] at h
  rw [List.take_append, show n - l.length = 0 by omega]
  simp
theorem brk_three (b : UInt8) : brkB b = !((((b.toNat : Int) != 0) && ((b.toNat : Int) != 10)) && ((b.toNat : Int) != 13)) := by
  have := all256 (p := fun b => brkB b == !((((b.toNat : Int) != 0) && ((b.toNat : Int) != 10)) && ((b.toNat : Int) != 13))) (by kernel_rfl) b
  simpa only [beq_iff_eq] using this

set_option maxHeartbeats 4000000 in
theorem clean_r (s : ByteArray) (most : Int) (w : World) (hs : s.size ≤ 1000000) :
    Calls Tryz.prog 49 #[.string s, .int .i64 most] w fun e w' => e = .returned (.string (cleanV s most)) ∧ w = w' := by
  go_enter Tryz.func49, Tryz.ntmps49
  go_wp2_with fail
  go_loopw [5, 6] (fun v i wr => ∃ (k : Nat) (t : ByteArray), i = .int .i64 k ∧ k ≤ s.size ∧ v = .string t ∧ t.data.toList = (cleanL (s.data.toList.take k)).take most.toNat ∧ wr = w) (fun _ i _ => s.size - (Go.RowKit.intOf i).toNat)
  case atStart => exact ⟨0, ⟨#[]⟩, rfl, Nat.zero_le _, rfl, by simp [cleanL], rfl⟩
  case round =>
    obtain ⟨k, t, rfl, hk, rfl, ht, rfl⟩ := hrel
    have htl : t.size ≤ 1000000 := by
      have h0 : t.data.toList.length = t.size := by simp
      rw [← h0, ht, List.length_take]
      have h1 := clean_len (s.data.toList.take k)
      have h2 : (s.data.toList.take k).length ≤ k := List.length_take_le _ _
      omega
    by_cases hlt : k < s.size
    · have hnx := clean_next s k hlt
      have hex := app_one' t s k hlt
      have hbr := brk_three s[k]
      have hlen : t.size = ((cleanL (s.data.toList.take k)).take most.toNat).length := by rw [← ht]; simp
      have hsn : ((cleanL (s.data.toList.take k)).take most.toNat).length < most.toNat → (cleanL (s.data.toList.take k) ++ [s[k]]).take most.toNat = (cleanL (s.data.toList.take k)).take most.toNat ++ [s[k]] := take_snoc_lt
      have hsg : ¬ ((cleanL (s.data.toList.take k)).take most.toNat).length < most.toNat → (cleanL (s.data.toList.take k) ++ [s[k]]).take most.toNat = (cleanL (s.data.toList.take k)).take most.toNat := take_snoc_ge
      rw [← hlen] at hsn hsg
      have HN := Lib.hid hnx
      have HE := Lib.hid hex
      have HT := Lib.hid ht
      have HS := Lib.hid hsn
      have HG := Lib.hid hsg
      clear hnx hex ht hlen hsn hsg
      cases h1 : ((s[k].toNat : Int) != 0) <;> cases h2 : ((s[k].toNat : Int) != 10) <;> cases h3 : ((s[k].toNat : Int) != 13) <;> rw [h1, h2, h3] at hbr
      case true.true.true =>
        have HB := Lib.hid hbr
        clear hbr
        by_cases hm : (t.size : Int) < most
        · have hm2 : t.size < most.toNat := by omega
          go_wp2_with fail
          go_roundw
          case rel => exact ⟨k + 1, _, by go_num, by omega, rfl, by rw [HE.out, HN.out, HB.out]; simp only [Bool.and_self, Bool.not_true, Bool.false_eq_true, if_false]; rw [HS.out hm2, HT.out], by simp⟩
          case measure => simp [Go.RowKit.intOf]; omega
        · have hm2 : ¬ t.size < most.toNat := by omega
          go_wp2_with fail
          go_roundw
          case rel => exact ⟨k + 1, _, by go_num, by omega, rfl, by rw [HN.out, HB.out]; simp only [Bool.and_self, Bool.not_true, Bool.false_eq_true, if_false]; rw [HG.out hm2, HT.out], by simp⟩
          case measure => simp [Go.RowKit.intOf]; omega
      all_goals
        have HB := Lib.hid hbr
        clear hbr
        go_wp2_with fail
        go_roundw
        case rel => exact ⟨k + 1, _, by go_num, by omega, rfl, by rw [HN.out, HB.out]; simp [HT.out], by simp⟩
        case measure => simp [Go.RowKit.intOf]; omega
    · obtain rfl : k = s.size := by omega
      have HT := Lib.hid ht
      clear ht
      go_wp2_with fail
      go_ret
      exact ⟨ret_str (ba_ext (by rw [HT.out, List.take_of_length_le (l := s.data.toList) (by simp)]; unfold cleanV; simp)), rfl⟩

theorem cleanV_text (s : ByteArray) (most : Int) : textL (cleanV s most).data.toList = true := by
  unfold cleanV
  rw [bs_toList]
  exact text_take (text_clean _) _
theorem cleanV_again (s : ByteArray) (most : Int) : cleanV (cleanV s most) most = cleanV s most := by
  have h := clean_text (cleanV_text s most)
  unfold cleanV at h ⊢
  rw [bs_toList] at h ⊢
  rw [h, List.take_take, Nat.min_self]
theorem cleanV_size (s : ByteArray) (most : Int) : (cleanV s most).size ≤ s.size ∧ ((cleanV s most).size : Int) ≤ max most 0 := by
  unfold cleanV
  rw [bs_size, List.length_take]
  have h1 := clean_len s.data.toList
  have h2 : s.data.toList.length = s.size := by simp
  omega

end Go.Proofs.YtkbgpajconhgjaaGreatDoor
end
section
/- Layer 22: the document's has, dashed, Command and Capitals of three digits. -/
namespace Go.Proofs.YtkbgpajconhgjaaGreatDoor
open Go Go.RowKit

set_option maxHeartbeats 1000000 in
theorem has_r (s : ByteArray) (b : UInt8) (w : World) (hs : s.size ≤ 1000000) :
    Calls Tryz.prog 64 #[.string s, .int .u8 ↑b.toNat] w fun e w' => e = .returned (.bool (inB s.data.toList b)) ∧ w = w' := by
  go_enter Tryz.func64, Tryz.ntmps64
  go_wp2_with fail
  go_loopw [5] (fun i wr => ∃ k : Nat, k ≤ s.size ∧ i = .int .i64 k ∧ (∀ i, i < k → ∀ (hi : i < s.size), s[i] ≠ b) ∧ wr = w) (fun i _ => s.size - (Go.RowKit.intOf i).toNat)
  case atStart => exact ⟨0, Nat.zero_le _, rfl, fun _ h => absurd h (Nat.not_lt_zero _), rfl⟩
  case round =>
    obtain ⟨k, hk, rfl, hq, rfl⟩ := hrel
    have Hq := Lib.hid hq
    clear hq
    by_cases hlt : k < s.size
    · by_cases hb : s[k] = b
      · have hb' : ((s[k].toNat : Int) == ↑b.toNat) = true := by rw [hb]; simp
        go_wp2_with fail
        go_ret
        exact ⟨ret_bool (inB_yes hlt hb), rfl⟩
      · have hb' : ((s[k].toNat : Int) == ↑b.toNat) = false := by
          rw [beq_eq_false_iff_ne]; intro e; exact hb (UInt8.toNat_inj.mp (by omega))
        go_wp2_with fail
        exact ⟨⟨k + 1, by omega, by push_cast; rfl, fun i h1 h2 => (by
          by_cases e : i = k
          · subst e; exact hb
          · exact Hq.out i (by omega) h2), by simp⟩, by simp only [Go.RowKit.intOf]; omega⟩
    · obtain rfl : k = s.size := by omega
      go_wp2_with fail
      go_ret
      exact ⟨ret_bool (inB_no (Nat.le_refl _) Hq.out), rfl⟩
theorem has_l (l : List UInt8) (w : World) (hl : l.length ≤ 1000000) :
    Calls Tryz.prog 64 #[.string (bs l), .int .u8 32] w fun e w' => e = .returned (.bool (decide (32 ∈ l))) ∧ w = w' := by
  have h := has_r (bs l) 32 w (by simpa using hl)
  rw [bs_toList] at h
  have e : inB l 32 = decide (32 ∈ l) := by unfold inB; rw [Bool.eq_iff_iff]; simp
  rw [e] at h
  exact h
/-- a - for each blank, and, where a text is a parameter, for a colon ahead -/
def dashC (c : Bool) (l : List UInt8) : List UInt8 := l.mapIdx fun i b => if b = 32 ∨ (c = true ∧ i = 0 ∧ b = 58) then 45 else b
theorem dashC_len (c : Bool) (l : List UInt8) : (dashC c l).length = l.length := by simp [dashC]
theorem dashC_no (l : List UInt8) : dashC false l = dashL l := by
  unfold dashC dashL
  refine List.ext_getElem (by simp) fun i h1 h2 => ?_
  simp
theorem dashC_mid (l : List UInt8) : (if dashC true l = [] then [42] else dashC true l) = midL l := by
  cases l with
  | nil => rfl
  | cons b r =>
    have h1 : dashC true (b :: r) = (if b = 32 ∨ b = 58 then 45 else b) :: dashL r := by
      unfold dashC dashL
      rw [List.mapIdx_cons]
      refine congr (congrArg List.cons ?_) ?_
      · simp
      · refine List.ext_getElem (by simp) fun i h1 h2 => ?_
        simp
    rw [h1, if_neg (by simp)]
    show _ = midU (dashL (b :: r))
    have h2 : dashL (b :: r) = (if b = 32 then 45 else b) :: dashL r := rfl
    rw [h2]
    by_cases h3 : b = 32
    · subst h3; rfl
    · rw [if_neg h3]
      by_cases h4 : b = 58
      · subst h4; rfl
      · show _ = (if b = 58 then 45 :: dashL r else b :: dashL r)
        rw [if_neg h4, if_neg (fun h => h.elim h3 h4)]
theorem dashC_take (c : Bool) (l : List UInt8) (k : Nat) (h : k < l.length) : (dashC c l).take (k + 1) = (dashC c l).take k ++ [if l[k] = 32 ∨ (c = true ∧ k = 0 ∧ l[k] = 58) then 45 else l[k]] := by
  rw [List.take_succ_eq_append_getElem (by rw [dashC_len]; exact h)]
  simp [dashC]
theorem bs_dash (l : List UInt8) : bs l ++ ({ data := #[45] } : ByteArray) = bs (l ++ [45]) := ba_ext (by simp)
theorem bs_ext1 (l : List UInt8) (k : Nat) (h : k < l.length) : (bs l).extract k (k + 1) = bs [l[k]] := by
  refine ba_ext ?_
  rw [Lib.extract_data, bs_toList, bs_toList, show k + 1 - k = 1 by omega, List.drop_eq_getElem_cons h, List.take_succ_cons, List.take_zero]
theorem bs_join (a b : List UInt8) : bs a ++ bs b = bs (a ++ b) := ba_ext (by simp)
set_option maxHeartbeats 4000000 in
theorem dashed_r (l : List UInt8) (c : Bool) (w : World) (hl : l.length ≤ 1000000) :
    Calls Tryz.prog 48 #[.string (bs l), .bool c] w fun e w' => e = .returned (.string (bs (dashC c l))) ∧ w = w' := by
  have hsz : (bs l).size = l.length := by simp
  go_enter Tryz.func48, Tryz.ntmps48
  go_wp2_with fail
  go_loopw [5, 6] (fun v i wr => ∃ (k : Nat), i = .int .i64 k ∧ k ≤ l.length ∧ v = .string (bs ((dashC c l).take k)) ∧ wr = w) (fun _ i _ => l.length - (Go.RowKit.intOf i).toNat)
  case atStart => exact ⟨0, rfl, Nat.zero_le _, rfl, rfl⟩
  case round =>
    obtain ⟨k, rfl, hk, rfl, rfl⟩ := hrel
    obtain ⟨D, hD⟩ : ∃ D, (dashC c l).take k = D := ⟨_, rfl⟩
    have hDl : D.length ≤ 1000000 := by rw [← hD, List.length_take, dashC_len]; omega
    rw [hD]
    by_cases hlt : k < l.length
    · have hki : k < (bs l).size := by rw [hsz]; exact hlt
      have hbk : (bs l)[k]'hki = l[k]'hlt := rfl
      have htk := dashC_take c l k hlt
      have hex := bs_ext1 l k hlt
      rw [hD] at htk
      obtain ⟨b, hb⟩ : ∃ b, l[k]'hlt = b := ⟨_, rfl⟩
      rw [hb] at htk hbk hex
      have HT := Lib.hid htk
      have HE := Lib.hid hex
      clear htk hb hex hD
      by_cases h1 : b = 32
      · have q1 : (((bs l)[k]'hki).toNat : Int) == 32 := by rw [hbk, h1]; rfl
        have H1 := Lib.hid h1
        clear h1 hbk
        go_wp2_with fail
        go_roundw
        case rel => exact ⟨k + 1, by go_num, by omega, by rw [HT.out, if_pos (.inl H1.out), ← bs_dash], by simp⟩
        case measure => simp [Go.RowKit.intOf]; omega
      · have q1 : ((((bs l)[k]'hki).toNat : Int) == 32) = false := by
          rw [hbk, beq_eq_false_iff_ne]; intro e; exact h1 (UInt8.toNat_inj.mp (by show b.toNat = 32; omega))
        cases c with
        | false =>
          have H1 := Lib.hid h1
          clear h1 hbk
          go_wp2_with fail
          go_roundw
          case rel => exact ⟨k + 1, by go_num, by omega, by rw [HT.out, if_neg (fun h => h.elim H1.out fun h => by cases h.1), ← bs_join, ← HE.out], by simp⟩
          case measure => simp [Go.RowKit.intOf]; omega
        | true =>
          by_cases h2 : k = 0
          · by_cases h3 : b = 58
            · have q2 : ((k : Int) == 0) = true := by rw [h2]; rfl
              have q3 : ((((bs l)[k]'hki).toNat : Int) == 58) = true := by rw [hbk, h3]; rfl
              have H3 := Lib.hid (And.intro h2 h3)
              clear h1 h2 h3 hbk
              go_wp2_with fail
              go_roundw
              case rel => exact ⟨k + 1, by go_num, by omega, by rw [HT.out, if_pos (.inr ⟨rfl, H3.out⟩), ← bs_dash], by simp⟩
              case measure => simp [Go.RowKit.intOf]; omega
            · have q2 : ((k : Int) == 0) = true := by rw [h2]; rfl
              have q3 : ((((bs l)[k]'hki).toNat : Int) == 58) = false := by
                rw [hbk, beq_eq_false_iff_ne]; intro e; exact h3 (UInt8.toNat_inj.mp (by show b.toNat = 58; omega))
              have H3 := Lib.hid (And.intro h1 h3)
              clear h1 h2 h3 hbk
              go_wp2_with fail
              go_roundw
              case rel => exact ⟨k + 1, by go_num, by omega, by rw [HT.out, if_neg (fun h => h.elim H3.out.1 fun h => H3.out.2 h.2.2), ← bs_join, ← HE.out], by simp⟩
              case measure => simp [Go.RowKit.intOf]; omega
          · have q2 : ((k : Int) == 0) = false := by rw [beq_eq_false_iff_ne]; omega
            have H3 := Lib.hid (And.intro h1 h2)
            clear h1 h2 hbk
            go_wp2_with fail
            go_roundw
            case rel => exact ⟨k + 1, by go_num, by omega, by rw [HT.out, if_neg (fun h => h.elim H3.out.1 fun h => H3.out.2 h.2.1), ← bs_join, ← HE.out], by simp⟩
            case measure => simp [Go.RowKit.intOf]; omega
    · obtain rfl : k = (bs l).size := by omega
      rw [List.take_of_length_le (by rw [dashC_len]; omega)] at hD
      have HD := Lib.hid hD
      clear hD
      go_wp2_with fail
      go_ret
      exact ⟨by rw [HD.out]; rfl, rfl⟩
/-- three digits -/
theorem digit_d14 (n : Nat) : digitB (d14 n) = true := by unfold digitB; rw [d14_nat]; exact decide_eq_true ⟨by omega, by omega⟩
theorem letter_d14 (n : Nat) : letterB (d14 n) = false := by unfold letterB; rw [d14_nat]; exact decide_eq_false fun h => by omega
theorem code_at (n k : Nat) (h : k < 3) : ∃ m, ∀ (h2 : k < (bs (codeL n)).size), (bs (codeL n))[k] = d14 m := by
  obtain rfl | rfl | rfl : k = 0 ∨ k = 1 ∨ k = 2 := by omega
  · exact ⟨n / 100, fun _ => rfl⟩
  · exact ⟨n / 10, fun _ => rfl⟩
  · exact ⟨n, fun _ => rfl⟩
set_option maxHeartbeats 4000000 in
theorem command_r (n : Nat) (w : World) :
    Calls Tryz.prog 46 #[.string (bs (codeL n))] w fun e w' => e = .returned (.bool true) ∧ w = w' := by
  have hsz : (bs (codeL n)).size = 3 := rfl
  obtain ⟨s, hs⟩ : ∃ s, bs (codeL n) = s := ⟨_, rfl⟩
  have HC := Lib.hid (fun k h => code_at n k h)
  rw [hs] at hsz HC
  rw [hs]
  clear hs
  go_enter Tryz.func46, Tryz.ntmps46
  go_wp2_with fail
  go_loopw [3, 4, 5] (fun a b i wr => ∃ (k : Nat), i = .int .i64 k ∧ k ≤ 3 ∧ a = .bool (decide (k = 0)) ∧ b = .bool true ∧ wr = w) (fun _ _ i _ => 3 - (Go.RowKit.intOf i).toNat)
  case atStart => exact ⟨0, rfl, Nat.zero_le _, rfl, rfl, rfl⟩
  case round =>
    obtain ⟨k, rfl, hk, rfl, rfl, rfl⟩ := hrel
    by_cases hlt : k < 3
    · obtain ⟨m, hm⟩ := HC.out k hlt
      have hm2 := hm (by omega)
      have L1 := Lib.hid (letter_any (s[k]'(by omega)))
      have D1 := Lib.hid (digit_any (s[k]'(by omega)))
      rw [hm2, letter_d14] at L1
      rw [hm2, digit_d14] at D1
      rw [← hm2] at L1 D1
      clear hm hm2
      by_cases h0 : k = 0
      · subst h0
        go_wp2_with (first | (go_at_call 61; refine (L1.out _).mono ?_; rintro e w' ⟨rfl, rfl⟩) | (go_at_call 62; refine (D1.out _).mono ?_; rintro e w' ⟨rfl, rfl⟩))
        go_roundw
        case rel => exact ⟨1, by go_num, by omega, rfl, rfl, by simp⟩
        case measure => simp [Go.RowKit.intOf]
      · have hd : decide (k = 0) = false := decide_eq_false h0
        rw [hd]
        go_wp2_with (first | (go_at_call 61; refine (L1.out _).mono ?_; rintro e w' ⟨rfl, rfl⟩) | (go_at_call 62; refine (D1.out _).mono ?_; rintro e w' ⟨rfl, rfl⟩))
        go_roundw
        case rel => exact ⟨k + 1, by go_num, by omega, by simp, rfl, by simp⟩
        case measure => simp [Go.RowKit.intOf]; omega
    · obtain rfl : k = 3 := by omega
      go_wp2_with fail
      go_ret
      exact ⟨rfl, rfl⟩
set_option maxRecDepth 100000 in
set_option maxHeartbeats 4000000 in
theorem capitals_r (n : Nat) (w : World) :
    Calls Tryz.prog 47 #[.string (bs (codeL n))] w fun e w' => e = .returned (.string (bs (codeL n))) ∧ Below w.heap.size w w' := by
  have hsz : (bs (codeL n)).size = 3 := rfl
  have HC := Lib.hid (fun k h => code_at n k h)
  have hlen : (codeL n).length = 3 := rfl
  obtain ⟨l, hl⟩ : ∃ l, codeL n = l := ⟨_, rfl⟩
  rw [hl] at hsz HC hlen ⊢
  clear hl
  go_enter Tryz.func47, Tryz.ntmps47
  go_wp2_with fail
  go_loopw [3, 4] (fun v i wr => ∃ (k : Nat), i = .int .i64 k ∧ k ≤ 3 ∧ v = .string (bs (l.take k)) ∧ Below w.heap.size w wr) (fun _ i _ => 3 - (Go.RowKit.intOf i).toNat)
  case atStart => exact ⟨0, rfl, Nat.zero_le _, rfl, Below.refl _ _⟩
  case round =>
    obtain ⟨k, rfl, hk, rfl, hB⟩ := hrel
    have HB := Lib.hid hB
    clear hB
    by_cases hlt : k < 3
    · obtain ⟨m, hm⟩ := HC.out k hlt
      have hm2 := hm (by omega)
      have hnat := d14_nat m
      rw [← hm2] at hnat
      have hlk : l[k]'(by omega) = (bs l)[k]'(by omega) := rfl
      have htk : l.take (k + 1) = l.take k ++ [(bs l)[k]'(by omega)] := by rw [List.take_succ_eq_append_getElem (by omega), hlk]
      obtain ⟨b, hb⟩ : ∃ b, (bs l)[k]'(by omega) = b := ⟨_, rfl⟩
      have hdl : (l.take k).length ≤ 3 := by rw [List.length_take]; omega
      obtain ⟨D, hD⟩ : ∃ D, l.take k = D := ⟨_, rfl⟩
      rw [hb] at hnat htk
      rw [hD] at htk hdl ⊢
      have HT := Lib.hid (And.intro hb htk)
      have q1 : ¬ (97 : Int) ≤ ((bs l)[k]'(by omega)).toNat := by rw [hb]; omega
      have hconv := run_convert_bytes_back (P := Tryz.prog) (wr.alloc (.cells #[.int .u8 ((bs l)[k]'(by omega)).toNat] 5)) 66 9 5 ⟨wr.heap.size, 0, none⟩ 1 [(bs l)[k]'(by omega)] Tryz.underlying66 Tryz.underlying5 Tryz.underlying9 (fun j hj => by
        obtain rfl : j = 0 := by simpa using hj
        have hadd : (⟨wr.heap.size, 0, none⟩ : Addr).add 0 = ⟨wr.heap.size, 0, none⟩ := by unfold Addr.add; split <;> simp_all
        rw [hadd, blk_cell (heap_alloc_new wr _) 0]
        rfl)
      clear hm hm2 hnat hlk htk hb hD
      simp only [List.length_cons, List.length_nil, Nat.zero_add] at hconv
      go_wp2_with fail
      go_roundw
      case rel => exact ⟨k + 1, by go_num, by omega, by rw [HT.out.2, ← bs_join, HT.out.1]; rfl, HB.out.trans (((Below.refl _ _).alloc (Nat.le_refl _) _).mono HB.out.size)⟩
      case measure => simp [Go.RowKit.intOf]; omega
    · obtain rfl : k = 3 := by omega
      rw [List.take_of_length_le (by omega)]
      go_wp2_with fail
      go_ret
      exact ⟨rfl, HB.out⟩
end Go.Proofs.YtkbgpajconhgjaaGreatDoor
end
section
/- Layer 22: the document's plain: a message's text. -/
namespace Go.Proofs.YtkbgpajconhgjaaGreatDoor
open Go Go.RowKit

theorem needC_eq (l : List UInt8) : needC l = (decide (l = []) || decide (l.head? = some 58) || decide (32 ∈ l)) := rfl
theorem bs_pre2 (H p : List UInt8) : (bs H ++ ({ data := #[32] } : ByteArray)) ++ bs p = bs (H ++ 32 :: p) := ba_ext (by simp)
theorem bs_pre3 (H p : List UInt8) : (bs H ++ ({ data := #[32] } : ByteArray)) ++ (({ data := #[58] } : ByteArray) ++ bs p) = bs (H ++ 32 :: 58 :: p) := ba_ext (by simp)
theorem piece_no {last : Bool} {p : List UInt8} (h : (last && needC p) = false) : piece last p = 32 :: p := by unfold piece; rw [h]; rfl
theorem piece_yes {last : Bool} {p : List UInt8} (h : (last && needC p) = true) : piece last p = 32 :: 58 :: p := by unfold piece; rw [h]; rfl
set_option maxRecDepth 100000 in
set_option maxHeartbeats 16000000 in
theorem plain_r (pre name : List UInt8) (A : Option Addr) (c : Nat) (ps : List (List UInt8)) (w : World) (hR : ReadsT w A ps) (h1 : pre.length ≤ 1000000) (h2 : name.length ≤ 1000000) (h3 : ps.length ≤ 100) (h4 : ∀ p ∈ ps, p.length ≤ 100000) :
    Calls Tryz.prog 50 #[.agg #[.slice none 0 0, .string (bs pre), .string (bs name), .slice A ps.length c]] w fun e w' => e = .returned (.string (bs (writeL pre name ps))) ∧ Below w.heap.size w w' := by
  obtain ⟨W, hW⟩ : ∃ W, w.alloc (.cells #[.slice none 0 0, .string (bs pre), .string (bs name), .slice A ps.length c] 60) = W := ⟨_, rfl⟩
  have hbx := heap_alloc_new w (.cells #[.slice none 0 0, .string (bs pre), .string (bs name), .slice A ps.length c] 60)
  have hB : Below w.heap.size w W := by rw [← hW]; exact (Below.refl _ w).alloc (Nat.le_refl _) _
  rw [hW] at hbx
  have HR := Lib.hid (readsT_below hR hB (Nat.le_refl _))
  have HB := Lib.hid hB
  obtain ⟨N, hN⟩ : ∃ N, w.heap.size = N := ⟨_, rfl⟩
  rw [hN] at hbx
  have c0 : W.cell? ⟨N, 0, none⟩ = some (.slice none 0 0) := blk_cell hbx 0
  have c1 : W.cell? ⟨N, 1, none⟩ = some (.string (bs pre)) := blk_cell hbx 1
  have c2 : W.cell? ⟨N, 2, none⟩ = some (.string (bs name)) := blk_cell hbx 2
  have c3 : W.cell? ⟨N, 3, none⟩ = some (.slice A ps.length c) := blk_cell hbx 3
  have HLen : Hid (∀ k, (accL ps k).length ≤ k * 100002) := Lib.hid (accL_len h4)
  have H4 := Lib.hid h4
  obtain ⟨H0, hH0⟩ : ∃ H, headL pre ++ name = H := ⟨_, rfl⟩
  have hH0l : H0.length ≤ 3000000 := by
    rw [← hH0, List.length_append]
    have : (headL pre).length ≤ pre.length + 2 := by unfold headL; split <;> simp
    omega
  have HE : Hid (writeL pre name ps = H0 ++ accL ps ps.length) := Lib.hid (by unfold writeL; rw [hH0, accL_all])
  clear hR hB hbx h4
  cases pre with
  | nil =>
    have HH : Hid (bs name = bs H0) := Lib.hid (by rw [← hH0]; rfl)
    clear hH0
    have e0 : bs ([] : List UInt8) = ({ data := #[] } : ByteArray) := rfl
    rw [e0] at hW c1
    rw [e0]
    clear e0
    go_enter Tryz.func50, Tryz.ntmps50
    go_wp2_with fail
    try rw [hN]
    try rw [hW]
    clear hW
    go_loopw [3, 4] (fun v i wr => ∃ k : Nat, i = .int .i64 k ∧ k ≤ ps.length ∧ v = .string (bs (H0 ++ accL ps k)) ∧ W = wr) (fun _ i _ => ps.length - (Go.RowKit.intOf i).toNat)
    case atStart => exact ⟨0, rfl, Nat.zero_le _, by refine congrArg Value.string ?_; rw [show accL ps 0 = [] from rfl, List.append_nil]; exact HH.out, rfl⟩
    case round =>
      obtain ⟨k, rfl, hk, rfl, rfl⟩ := hrel
      have hacc := HLen.out k
      by_cases hlt : k < ps.length
      · obtain ⟨g, o, hA, hg, hcell0⟩ := HR.out (by omega)
        have hcell : W.cell? ⟨g, o + k, none⟩ = some (.string (bs ps[k])) := hcell0 k hlt
        have hpk := H4.out ps[k] (List.getElem_mem hlt)
        have hnext : accL ps (k + 1) = accL ps k ++ piece (decide (k + 1 = ps.length)) ps[k] := by
          rw [accL, List.getD_eq_getElem?_getD, List.getElem?_eq_getElem hlt]; rfl
        obtain ⟨p, hp⟩ : ∃ p, ps[k]'hlt = p := ⟨_, rfl⟩
        rw [hp] at hcell hpk hnext
        obtain ⟨D, hD⟩ : ∃ D, H0 ++ accL ps k = D := ⟨_, rfl⟩
        have hDl : D.length ≤ 20000000 := by rw [← hD, List.length_append]; omega
        rw [hD]
        have HN : Hid (H0 ++ accL ps (k + 1) = D ++ piece (decide (k + 1 = ps.length)) p) := Lib.hid (by rw [hnext, ← List.append_assoc, hD])
        have hadd : (⟨g, o, none⟩ : Addr).add k = ⟨g, o + k, none⟩ := by unfold Addr.add; split <;> simp_all
        clear hcell0 hnext hp hD hacc hg
        subst hA
        by_cases hlast : k + 1 = ps.length
        · have hq : ((k : Int) == (ps.length : Int) - 1) = true := by rw [beq_iff_eq]; omega
          have HL : Hid (decide (k + 1 = ps.length) = true) := Lib.hid (decide_eq_true hlast)
          cases p with
          | nil =>
            have e1 : bs ([] : List UInt8) = ({ data := #[] } : ByteArray) := rfl
            rw [e1] at hcell
            clear e1
            go_wp2_with fail
            go_roundw
            case rel => exact ⟨k + 1, by go_num, by omega, by rw [HN.out, HL.out, piece_yes rfl]; exact congrArg Value.string (ba_ext (by simp)), by simp⟩
            case measure => simp [Go.RowKit.intOf]; omega
          | cons x r =>
            have hemp := str_ne (s := bs (x :: r)) (by simp)
            have hrl : r.length ≤ 100000 := by simp only [List.length_cons] at hpk; omega
            have h0 : 0 < (bs (x :: r)).size := by simp
            have hb0 : (bs (x :: r))[0]'h0 = x := rfl
            by_cases hc : x = 58
            · have hq2 : ((((bs (x :: r))[0]'h0).toNat : Int) == 58) = true := by rw [hb0, hc]; rfl
              have HC : Hid ((true && needC (x :: r)) = true) := Lib.hid (by rw [hc]; simp [needC])
              clear hc hb0
              go_wp2_with fail
              go_roundw
              case rel => exact ⟨k + 1, by go_num, by omega, by rw [HN.out, HL.out, piece_yes HC.out, ← bs_pre3], by simp⟩
              case measure => simp [Go.RowKit.intOf]; omega
            · have hq2 : ((((bs (x :: r))[0]'h0).toNat : Int) == 58) = false := by
                rw [hb0, beq_eq_false_iff_ne]; intro e; exact hc (UInt8.toNat_inj.mp (by show x.toNat = 58; omega))
              have HS := Lib.hid (has_l (x :: r) W (by omega))
              obtain ⟨z, hz⟩ : ∃ z, decide (32 ∈ x :: r) = z := ⟨_, rfl⟩
              rw [hz] at HS
              have HC : Hid ((true && needC (x :: r)) = z) := Lib.hid (by rw [← hz]; simp [needC, hc])
              clear hc hb0 hz
              cases z with
              | true =>
                go_wp2_with (go_at_call 64; refine HS.out.mono ?_; rintro e w' ⟨rfl, rfl⟩)
                go_roundw
                case rel => exact ⟨k + 1, by go_num, by omega, by rw [HN.out, HL.out, piece_yes HC.out, ← bs_pre3], by simp⟩
                case measure => simp [Go.RowKit.intOf]; omega
              | false =>
                go_wp2_with (go_at_call 64; refine HS.out.mono ?_; rintro e w' ⟨rfl, rfl⟩)
                go_roundw
                case rel => exact ⟨k + 1, by go_num, by omega, by rw [HN.out, HL.out, piece_no HC.out, ← bs_pre2], by simp⟩
                case measure => simp [Go.RowKit.intOf]; omega
        · have hq : ((k : Int) == (ps.length : Int) - 1) = false := by rw [beq_eq_false_iff_ne]; omega
          have HL : Hid (decide (k + 1 = ps.length) = false) := Lib.hid (decide_eq_false hlast)
          go_wp2_with fail
          go_roundw
          case rel => exact ⟨k + 1, by go_num, by omega, by rw [HN.out, HL.out, piece_no rfl, ← bs_pre2], by simp⟩
          case measure => simp [Go.RowKit.intOf]; omega
      · obtain rfl : k = ps.length := by omega
        obtain ⟨L, hL⟩ : ∃ L, H0 ++ accL ps ps.length = L := ⟨_, rfl⟩
        rw [hL]
        have HE2 : Hid (writeL [] name ps = L) := Lib.hid (HE.out.trans hL)
        clear hL hacc
        go_wp2_with fail
        go_ret
        exact ⟨by rw [HE2.out]; rfl, HB.out⟩
  | cons b0 r0 =>
    have HH : Hid (((({ data := #[58] } : ByteArray) ++ bs (b0 :: r0)) ++ ({ data := #[32] } : ByteArray)) ++ bs name = bs H0) := Lib.hid (by rw [← hH0]; exact ba_ext (by simp [headL]))
    have hemp0 := str_ne (s := bs (b0 :: r0)) (by simp)
    have hr0l : r0.length ≤ 1000000 := by simp only [List.length_cons] at h1; omega
    clear hH0
    go_enter Tryz.func50, Tryz.ntmps50
    go_wp2_with fail
    try rw [hN]
    try rw [hW]
    clear hW hemp0
    go_loopw [3, 4] (fun v i wr => ∃ k : Nat, i = .int .i64 k ∧ k ≤ ps.length ∧ v = .string (bs (H0 ++ accL ps k)) ∧ W = wr) (fun _ i _ => ps.length - (Go.RowKit.intOf i).toNat)
    case atStart => exact ⟨0, rfl, Nat.zero_le _, by refine congrArg Value.string ?_; rw [show accL ps 0 = [] from rfl, List.append_nil]; exact HH.out, rfl⟩
    case round =>
      obtain ⟨k, rfl, hk, rfl, rfl⟩ := hrel
      have hacc := HLen.out k
      by_cases hlt : k < ps.length
      · obtain ⟨g, o, hA, hg, hcell0⟩ := HR.out (by omega)
        have hcell : W.cell? ⟨g, o + k, none⟩ = some (.string (bs ps[k])) := hcell0 k hlt
        have hpk := H4.out ps[k] (List.getElem_mem hlt)
        have hnext : accL ps (k + 1) = accL ps k ++ piece (decide (k + 1 = ps.length)) ps[k] := by
          rw [accL, List.getD_eq_getElem?_getD, List.getElem?_eq_getElem hlt]; rfl
        obtain ⟨p, hp⟩ : ∃ p, ps[k]'hlt = p := ⟨_, rfl⟩
        rw [hp] at hcell hpk hnext
        obtain ⟨D, hD⟩ : ∃ D, H0 ++ accL ps k = D := ⟨_, rfl⟩
        have hDl : D.length ≤ 20000000 := by rw [← hD, List.length_append]; omega
        rw [hD]
        have HN : Hid (H0 ++ accL ps (k + 1) = D ++ piece (decide (k + 1 = ps.length)) p) := Lib.hid (by rw [hnext, ← List.append_assoc, hD])
        have hadd : (⟨g, o, none⟩ : Addr).add k = ⟨g, o + k, none⟩ := by unfold Addr.add; split <;> simp_all
        clear hcell0 hnext hp hD hacc hg
        subst hA
        by_cases hlast : k + 1 = ps.length
        · have hq : ((k : Int) == (ps.length : Int) - 1) = true := by rw [beq_iff_eq]; omega
          have HL : Hid (decide (k + 1 = ps.length) = true) := Lib.hid (decide_eq_true hlast)
          cases p with
          | nil =>
            have e1 : bs ([] : List UInt8) = ({ data := #[] } : ByteArray) := rfl
            rw [e1] at hcell
            clear e1
            go_wp2_with fail
            go_roundw
            case rel => exact ⟨k + 1, by go_num, by omega, by rw [HN.out, HL.out, piece_yes rfl]; exact congrArg Value.string (ba_ext (by simp)), by simp⟩
            case measure => simp [Go.RowKit.intOf]; omega
          | cons x r =>
            have hemp := str_ne (s := bs (x :: r)) (by simp)
            have hrl : r.length ≤ 100000 := by simp only [List.length_cons] at hpk; omega
            have h0 : 0 < (bs (x :: r)).size := by simp
            have hb0 : (bs (x :: r))[0]'h0 = x := rfl
            by_cases hc : x = 58
            · have hq2 : ((((bs (x :: r))[0]'h0).toNat : Int) == 58) = true := by rw [hb0, hc]; rfl
              have HC : Hid ((true && needC (x :: r)) = true) := Lib.hid (by rw [hc]; simp [needC])
              clear hc hb0
              go_wp2_with fail
              go_roundw
              case rel => exact ⟨k + 1, by go_num, by omega, by rw [HN.out, HL.out, piece_yes HC.out, ← bs_pre3], by simp⟩
              case measure => simp [Go.RowKit.intOf]; omega
            · have hq2 : ((((bs (x :: r))[0]'h0).toNat : Int) == 58) = false := by
                rw [hb0, beq_eq_false_iff_ne]; intro e; exact hc (UInt8.toNat_inj.mp (by show x.toNat = 58; omega))
              have HS := Lib.hid (has_l (x :: r) W (by omega))
              obtain ⟨z, hz⟩ : ∃ z, decide (32 ∈ x :: r) = z := ⟨_, rfl⟩
              rw [hz] at HS
              have HC : Hid ((true && needC (x :: r)) = z) := Lib.hid (by rw [← hz]; simp [needC, hc])
              clear hc hb0 hz
              cases z with
              | true =>
                go_wp2_with (go_at_call 64; refine HS.out.mono ?_; rintro e w' ⟨rfl, rfl⟩)
                go_roundw
                case rel => exact ⟨k + 1, by go_num, by omega, by rw [HN.out, HL.out, piece_yes HC.out, ← bs_pre3], by simp⟩
                case measure => simp [Go.RowKit.intOf]; omega
              | false =>
                go_wp2_with (go_at_call 64; refine HS.out.mono ?_; rintro e w' ⟨rfl, rfl⟩)
                go_roundw
                case rel => exact ⟨k + 1, by go_num, by omega, by rw [HN.out, HL.out, piece_no HC.out, ← bs_pre2], by simp⟩
                case measure => simp [Go.RowKit.intOf]; omega
        · have hq : ((k : Int) == (ps.length : Int) - 1) = false := by rw [beq_eq_false_iff_ne]; omega
          have HL : Hid (decide (k + 1 = ps.length) = false) := Lib.hid (decide_eq_false hlast)
          go_wp2_with fail
          go_roundw
          case rel => exact ⟨k + 1, by go_num, by omega, by rw [HN.out, HL.out, piece_no rfl, ← bs_pre2], by simp⟩
          case measure => simp [Go.RowKit.intOf]; omega
      · obtain rfl : k = ps.length := by omega
        obtain ⟨L, hL⟩ : ∃ L, H0 ++ accL ps ps.length = L := ⟨_, rfl⟩
        rw [hL]
        have HE2 : Hid (writeL (b0 :: r0) name ps = L) := Lib.hid (HE.out.trans hL)
        clear hL hacc
        go_wp2_with fail
        go_ret
        exact ⟨by rw [HE2.out]; rfl, HB.out⟩
end Go.Proofs.YtkbgpajconhgjaaGreatDoor
end
section
/- Layer 22: the document's Code, Make. -/
namespace Go.Proofs.YtkbgpajconhgjaaGreatDoor
open Go Go.RowKit

set_option maxRecDepth 100000 in
set_option maxHeartbeats 4000000 in
theorem codeM (n : Nat) (h1 : n ≤ 999) (w : World) :
    Calls Tryz.prog 31 #[.int .i64 n] w fun e w' => e = .returned (.string (bs (codeL n))) ∧ Below w.heap.size w w' := by
  have hnew := heap_alloc_new w (.cells #[.int .u8 (48 + (n : Int) / 100), .int .u8 (48 + (n : Int) / 10 % 10), .int .u8 (48 + (n : Int) % 10)] 5)
  have hconv := run_convert_bytes_back (P := Tryz.prog) (w.alloc (.cells #[.int .u8 (48 + (n : Int) / 100), .int .u8 (48 + (n : Int) / 10 % 10), .int .u8 (48 + (n : Int) % 10)] 5)) 66 9 5 ⟨w.heap.size, 0, none⟩ 3 (codeL n) Tryz.underlying66 Tryz.underlying5 Tryz.underlying9 (fun j hj => by
    have hj3 : j < 3 := by simpa [codeL] using hj
    have hadd : (⟨w.heap.size, 0, none⟩ : Addr).add j = ⟨w.heap.size, j, none⟩ := by unfold Addr.add; split <;> simp_all
    rw [hadd, blk_cell hnew j]
    obtain rfl | rfl | rfl : j = 0 ∨ j = 1 ∨ j = 2 := by omega
    · show some (Value.int .u8 (48 + (n : Int) / 100)) = some (Value.int .u8 ((d14 (n / 100)).toNat : Int))
      rw [d14_nat]; congr 2; omega
    · show some (Value.int .u8 (48 + (n : Int) / 10 % 10)) = some (Value.int .u8 ((d14 (n / 10)).toNat : Int))
      rw [d14_nat]; congr 2
    · show some (Value.int .u8 (48 + (n : Int) % 10)) = some (Value.int .u8 ((d14 n).toNat : Int))
      rw [d14_nat]; congr 2)
  have hlen : (codeL n).length = 3 := rfl
  rw [hlen] at hconv
  clear hnew hlen
  go_enter Tryz.func31, Tryz.ntmps31
  go_wp2_with fail
  go_ret
  exact ⟨rfl, (Below.refl _ w).alloc (Nat.le_refl _) _⟩
theorem clean_rl (l : List UInt8) (w : World) (hl : l.length ≤ 1000000) :
    Calls Tryz.prog 49 #[.string (bs l), .int .i64 (l.length : Nat)] w fun e w' => e = .returned (.string (bs (cleanL l))) ∧ w = w' := by
  have h := clean_r (bs l) ((bs l).size : Int) w (by simpa using hl)
  rw [cleanV_all, show (bs l).size = l.length by simp] at h
  exact h
theorem fr_below_no {w W : World} (h : Fr (fun _ => False) w W) : Below w.heap.size w W := h.below (Nat.le_refl _) fun _ _ h => h.elim
set_option maxRecDepth 100000 in
set_option maxHeartbeats 16000000 in
theorem make_r (pre : List UInt8) (n : Nat) (A : Option Addr) (c : Nat) (ps : List (List UInt8)) (w : World) (hR : ReadsT w A ps) (h1 : pre.length ≤ 1000000) (h3 : ps.length ≤ 15) (h4 : ∀ p ∈ ps, p.length ≤ 90000) :
    Calls Tryz.prog 30 #[.string (bs pre), .string (bs (codeL n)), .slice A ps.length c] w fun e w' => e = .returned (.string (bs (makeL pre (codeL n) ps))) ∧ Below w.heap.size w w' := by
  have HR := Lib.hid hR
  have HC := Lib.hid (command_r n w)
  have HK := Lib.hid (capitals_r n w)
  have HU := Lib.hid (fun W => clean_rl pre W h1)
  have HDs := Lib.hid (fun W => dashed_r (cleanL pre) false W (Nat.le_trans (clean_len pre) h1))
  rw [dashC_no] at HDs
  obtain ⟨up, hup⟩ : ∃ u, dashL (cleanL pre) = u := ⟨_, rfl⟩
  have hupl : up.length ≤ 1000000 := by rw [← hup]; unfold dashL; rw [List.length_map]; exact Nat.le_trans (clean_len pre) h1
  rw [hup] at HDs
  have HUP := Lib.hid (And.intro hup hupl)
  obtain ⟨name, hname⟩ : ∃ x, codeL n = x := ⟨_, rfl⟩
  have hnl2 : name.length = 3 := by rw [← hname]; rfl
  rw [hname] at HC HK ⊢
  clear hR hup hupl hname
  obtain ⟨i0, hi0, hz0, hz1, hz2⟩ := info_parts Tryz.infoT
  have hnl : ¬ (15 : Int) < ps.length := by omega
  go_enter Tryz.func30, Tryz.ntmps30
  go_wp2_with fail
  refine HC.out.mono ?_
  rintro e w' ⟨rfl, rfl⟩
  go_wp2_with fail
  refine HK.out.mono ?_
  rintro e w1 ⟨rfl, hb1⟩
  have HB1 := Lib.hid hb1
  clear hb1
  go_wp2_with fail
  refine (HU.out _).mono ?_
  rintro e w' ⟨rfl, rfl⟩
  go_wp2_with fail
  refine (HDs.out _).mono ?_
  rintro e w' ⟨rfl, rfl⟩
  go_wp2_with fail
  obtain ⟨N2, hN2⟩ : ∃ n, w1.heap.size = n := ⟨_, rfl⟩
  have hw1 : w.heap.size ≤ N2 := by rw [← hN2]; exact HB1.out.size
  have HN2 := Lib.hid hN2
  have hbx := heap_alloc_new w1 (.cells #[.slice none 0 0, .string (bs up), .string (bs name), .slice none 0 0] 60)
  have hsz : (w1.alloc (.cells #[.slice none 0 0, .string (bs up), .string (bs name), .slice none 0 0] 60)).heap.size = N2 + 1 := by rw [World.size_alloc, hN2]
  have hbl : Below N2 w1 (w1.alloc (.cells #[.slice none 0 0, .string (bs up), .string (bs name), .slice none 0 0] 60)) := (Below.refl _ w1).alloc (by omega) _
  rw [hN2]
  rw [hN2] at hbx
  obtain ⟨W1, hW1⟩ : ∃ W, (w1.alloc (.cells #[.slice none 0 0, .string (bs up), .string (bs name), .slice none 0 0] 60)) = W := ⟨_, rfl⟩
  rw [hW1] at hbx hsz hbl ⊢
  have HX := Lib.hid (And.intro hbx (And.intro hsz hbl))
  clear hbx hsz hbl hW1 hN2 hw1
  go_loopw [8] (fun i wr => ∃ (k : Nat) (v : Value), k ≤ ps.length ∧ i = .int .i64 k ∧ wr.heap[N2]? = some (.cells #[.slice none 0 0, .string (bs up), .string (bs name), v] 60 (0, 0)) ∧ OwnT (N2 + 1) wr v ((lineP ps).take k) ∧ Below N2 w1 wr ∧ N2 + 1 ≤ wr.heap.size) (fun i _ => ps.length - (Go.RowKit.intOf i).toNat)
  case atStart => exact ⟨0, _, Nat.zero_le _, rfl, HX.out.1, ownT_nil _ _, HX.out.2.2, by rw [HX.out.2.1]; exact Nat.le_refl _⟩
  case round =>
    obtain ⟨k, v, hk, rfl, hbox, hown, hB, hS⟩ := hrel
    have HO := Lib.hid (And.intro hbox (And.intro hown (And.intro hB hS)))
    by_cases hlt : k < ps.length
    · obtain ⟨g, o, hA, hg, hc⟩ := HR.out (by omega)
      have hcell : wr.cell? ⟨g, o + k, none⟩ = some (.string (bs ps[k])) := ((HB1.out.trans (HO.out.2.2.1.mono (by rw [← HN2.out]; exact HB1.out.size))).cell (p := ⟨g, o + k, none⟩) hg).trans (hc k hlt)
      have hpk := h4 ps[k] (List.getElem_mem hlt)
      have htk := lineP_take hlt
      obtain ⟨p, hp⟩ : ∃ p, ps[k]'hlt = p := ⟨_, rfl⟩
      rw [hp] at hcell hpk htk
      have hgw : g < wr.heap.size := World.block_lt_of_cell? _ _ hcell
      have HCELL : Hid (∀ W, Fr (fun _ => False) wr W → W.cell? ⟨g, o + k, none⟩ = some (.string (bs p))) := Lib.hid fun W hf => (hf.cell (p := ⟨g, o + k, none⟩) hgw (fun h => h)).trans hcell
      have HT := Lib.hid htk
      have HCL := Lib.hid (fun W => clean_rl p W (by omega))
      have hql := clean_len p
      obtain ⟨q, hq⟩ : ∃ q, cleanL p = q := ⟨_, rfl⟩
      rw [hq] at HCL HT hql
      have HMM := Lib.hid (fun W => dashed_r q true W (by omega))
      have HMid := Lib.hid (dashC_mid q)
      have hdl := dashC_len true q
      obtain ⟨d, hd⟩ : ∃ d, dashC true q = d := ⟨_, rfl⟩
      rw [hd] at HMM HMid hdl
      have hHk : k < 15 := by omega
      clear hc htk hp hq hd hbox hown hB hS hg hcell hgw
      subst hA
      go_wp2_with fail
      refine wp_region_held_drew (S := fun W => Fr (fun _ => False) wr W) (by kernel_rfl) (by exact (Fr.refl _ wr).drew) (fun hHeld => ?_)
      refine wpAnyH_read (i := 0) (oi := { dst := some 38, op := Go.Op.move (Go.Operand.tmp 2), type := 26, pos := "ref.go:197", after := #[], guard := none }) ?_ rfl (by kernel_rfl) (by kernel_rfl) (by kernel_rfl) (fun _ _ _ h => h) (by rfl) (by assumption) ?_ ?_
      rotate_left
      · (intro w0 hS0; go_simp <;> (try with_reducible rfl))
      try simp only [Act.put, List.setIfInBounds_toArray, List.set_cons_zero, List.set_cons_succ]
      refine wpAnyH_read (i := 1) (oi := { dst := some 39, op := Go.Op.move (Go.Operand.tmp 8), type := 3, pos := "ref.go:197", after := #[], guard := none }) ?_ rfl (by kernel_rfl) (by kernel_rfl) (by kernel_rfl) (fun _ _ _ h => h) (by rfl) (by assumption) ?_ ?_
      rotate_left
      · (intro w0 hS0; go_simp <;> (try with_reducible rfl))
      try simp only [Act.put, List.setIfInBounds_toArray, List.set_cons_zero, List.set_cons_succ]
      refine wpAnyH_read (i := 2) (oi := { dst := some 40, op := Go.Op.indexAddr 26 (Go.Operand.tmp 38) (Go.Operand.tmp 39), type := 0, pos := "ref.go:197", after := #[{ on := 0, ground := Go.Ground.data }, { on := 1, ground := Go.Ground.data }], guard := none }) ?_ rfl (by kernel_rfl) (by kernel_rfl) (by kernel_rfl) (fun _ _ _ h => h) (by rfl) (by assumption) ?_ ?_
      rotate_left
      · (intro w0 hS0; go_simp <;> (try with_reducible rfl))
      try simp only [Act.put, List.setIfInBounds_toArray, List.set_cons_zero, List.set_cons_succ]
      refine wpAnyH_read (i := 4) (oi := { dst := some 42, op := Go.Op.move (Go.Operand.tmp 2), type := 26, pos := "ref.go:197", after := #[], guard := none }) ?_ rfl (by kernel_rfl) (by kernel_rfl) (by kernel_rfl) (fun _ _ _ h => h) (by rfl) (by assumption) ?_ ?_
      rotate_left
      · (intro w0 hS0; go_simp <;> (try with_reducible rfl))
      try simp only [Act.put, List.setIfInBounds_toArray, List.set_cons_zero, List.set_cons_succ]
      refine wpAnyH_read (i := 5) (oi := { dst := some 43, op := Go.Op.move (Go.Operand.tmp 8), type := 3, pos := "ref.go:197", after := #[], guard := none }) ?_ rfl (by kernel_rfl) (by kernel_rfl) (by kernel_rfl) (fun _ _ _ h => h) (by rfl) (by assumption) ?_ ?_
      rotate_left
      · (intro w0 hS0; go_simp <;> (try with_reducible rfl))
      try simp only [Act.put, List.setIfInBounds_toArray, List.set_cons_zero, List.set_cons_succ]
      refine wpAnyH_read (i := 6) (oi := { dst := some 44, op := Go.Op.indexAddr 26 (Go.Operand.tmp 42) (Go.Operand.tmp 43), type := 0, pos := "ref.go:197", after := #[{ on := 4, ground := Go.Ground.data }, { on := 5, ground := Go.Ground.data }], guard := none }) ?_ rfl (by kernel_rfl) (by kernel_rfl) (by kernel_rfl) (fun _ _ _ h => h) (by rfl) (by assumption) ?_ ?_
      rotate_left
      · (intro w0 hS0; go_simp <;> (try with_reducible rfl))
      try simp only [Act.put, List.setIfInBounds_toArray, List.set_cons_zero, List.set_cons_succ]
      refine wpAnyH_read (i := 3) (oi := { dst := some 41, op := Go.Op.load 9 (Go.Operand.tmp 40), type := 9, pos := "ref.go:197", after := #[{ on := 2, ground := Go.Ground.data }], guard := none }) ?_ rfl (by kernel_rfl) (by kernel_rfl) (by kernel_rfl) (fun _ _ _ h => h) (by rfl) (by assumption) ?_ ?_
      rotate_left
      · (intro w0 hS0; have s0 := HCELL.out w0 hS0; go_simp <;> (try with_reducible rfl))
      try simp only [Act.put, List.setIfInBounds_toArray, List.set_cons_zero, List.set_cons_succ]
      refine wpAnyH_read (i := 7) (oi := { dst := some 45, op := Go.Op.load 9 (Go.Operand.tmp 44), type := 9, pos := "ref.go:197", after := #[{ on := 6, ground := Go.Ground.data }], guard := none }) ?_ rfl (by kernel_rfl) (by kernel_rfl) (by kernel_rfl) (fun _ _ _ h => h) (by rfl) (by assumption) ?_ ?_
      rotate_left
      · (intro w0 hS0; have s0 := HCELL.out w0 hS0; go_simp <;> (try with_reducible rfl))
      try simp only [Act.put, List.setIfInBounds_toArray, List.set_cons_zero, List.set_cons_succ]
      refine wpAnyH_read (i := 8) (oi := { dst := some 46, op := Go.Op.call { callee := Go.Callee.builtin Go.Builtin.len, args := #[Go.Operand.tmp 45], argTypes := #[9] }, type := 3, pos := "ref.go:197", after := #[{ on := 7, ground := Go.Ground.data }], guard := none }) ?_ rfl (by kernel_rfl) (by kernel_rfl) (by kernel_rfl) (fun _ _ _ h => h) (by rfl) (by assumption) ?_ ?_
      rotate_left
      · (intro w0 hS0; go_simp <;> (try with_reducible rfl))
      try simp only [Act.put, List.setIfInBounds_toArray, List.set_cons_zero, List.set_cons_succ]
      refine wpAnyH_one (i := 9) (o := { dst := some 47, op := Go.Op.call { callee := Go.Callee.value (Go.Operand.func 49), args := #[Go.Operand.tmp 41, Go.Operand.tmp 46], argTypes := #[9, 3] }, type := 9, pos := "ref.go:197", after := #[{ on := 3, ground := Go.Ground.data }, { on := 8, ground := Go.Ground.data }], guard := none }) (by kernel_rfl) rfl (by rfl) (fun K hK => ?_)
      go_simp
      refine (HCL.out _).mono ?_
      rintro e9 V1 ⟨rfl, rfl⟩
      refine hK.out _ _ ?_ (fun hHeld => ?_)
      · exact (Fr.refl _ wr).drew
      clear hK K
      try simp only [Act.put, List.setIfInBounds_toArray, List.set_cons_zero, List.set_cons_succ]
      refine wpAnyH_read (i := 10) (oi := { dst := some 9, op := Go.Op.assign (Go.Operand.tmp 47), type := 9, pos := "ref.go:197", after := #[{ on := 9, ground := Go.Ground.data }, { on := 9, ground := Go.Ground.chain }, { on := 0, ground := Go.Ground.phase }, { on := 1, ground := Go.Ground.phase }, { on := 2, ground := Go.Ground.phase }, { on := 3, ground := Go.Ground.phase }, { on := 4, ground := Go.Ground.phase }, { on := 5, ground := Go.Ground.phase }, { on := 6, ground := Go.Ground.phase }, { on := 7, ground := Go.Ground.phase }, { on := 8, ground := Go.Ground.phase }, { on := 9, ground := Go.Ground.phase }], guard := none }) ?_ rfl (by kernel_rfl) (by kernel_rfl) (by kernel_rfl) (fun _ _ _ h => h) (by rfl) (by assumption) ?_ ?_
      rotate_left
      · (intro w0 hS0; go_simp <;> (try with_reducible rfl))
      try simp only [Act.put, List.setIfInBounds_toArray, List.set_cons_zero, List.set_cons_succ]
      refine wpAnyH_done (by kernel_rfl) ?_ _
      have hb2 : Below wr.heap.size wr wr.drew := fr_below_no (Fr.refl _ wr).drew
      obtain ⟨w2, hw2⟩ : ∃ W, wr.drew = W := ⟨_, rfl⟩
      rw [hw2] at hb2 ⊢
      clear HCELL hw2
      by_cases hlast : (k : Int) < ps.length - 1
      · go_wp2_with fail
        refine (HMM.out _).mono ?_
        rintro e w' ⟨rfl, rfl⟩
        cases d with
        | nil =>
          have HM2 : Hid (midL q = [42]) := Lib.hid (by rw [← HMid.out]; rfl)
          have e1 : bs ([] : List UInt8) = ({ data := #[] } : ByteArray) := rfl
          rw [e1]
          clear e1
          have e2 : Hid (bs [42] = ({ data := #[42] } : ByteArray)) := Lib.hid rfl
          have hbox2 := (Fr.of_below (X := fun _ => False) hb2).blk HO.out.1 (fun h => h)
          have hown2 : OwnT (N2 + 1) w2 v ((lineP ps).take k) := ownT_kept HO.out.2.1 fun g' hg' => hb2.block g' (HO.out.2.1.lt g' hg').2
          have hv2 : w2.cell? ⟨N2, 3, none⟩ = some v := blk_cell hbox2 3
          have hS2 : N2 + 1 ≤ w2.heap.size := Nat.le_trans HO.out.2.2.2 hb2.size
          have hB2 : Below N2 w1 w2 := HO.out.2.2.1.trans (hb2.mono (by have := HO.out.2.2.2; omega))
          obtain ⟨D, hD⟩ : ∃ D, (lineP ps).take k = D := ⟨_, rfl⟩
          have hDl : D.length ≤ 15 := by rw [← hD, List.length_take]; omega
          rw [hD] at hown2
          have HD := Lib.hid hD
          have H2 := Lib.hid (And.intro hbox2 (And.intro hown2 (And.intro hB2 hS2)))
          clear hbox2 hown2 hS2 hB2 hb2 hD
          go_wp2_with (at_builtin; refine wpList_app_fr rfl _ _ 26 rfl (N2 + 1) 9 i0 (.string ByteArray.empty) 1 16 Tryz.underlying26 hi0 hz0 hz1 hz2 rfl (by decide) v _ _ rfl H2.out.2.1 #[.string (bs ([42]))] w2.heap.size rfl rfl rfl (by intro u hu; simp at hu; subst hu; rfl) (by omega) (by decide) H2.out.2.2.2 ?_)
          intro v1 w3 hown3 hfr3
          have hbox3 := hfr3.blk H2.out.1 (fun e => by have := (H2.out.2.1.lt _ e).1; omega)
          have hv3 : w3.cell? ⟨N2, 3, none⟩ = some v := blk_cell hbox3 3
          have hf3 : w3.frozen? ⟨N2, 3, none⟩ = false := blk_free hbox3 3
          have H3 := Lib.hid (And.intro hbox3 (And.intro (ownT_snoc hown3) hfr3))
          obtain ⟨A3, c3, hv4⟩ := row_slice hown3
          subst hv4
          clear hbox3 hown3 hfr3 hv2
          go_wp2_with fail
          go_roundw
          case rel =>
            refine ⟨k + 1, .slice A3 (D.length + 1) c3, by omega, by go_num, blk_set H3.out.1 3 _, ?_, ?_, ?_⟩
            · rw [HT.out, if_pos (by omega), HM2.out, HD.out]
              exact ownT_kept H3.out.2.1 fun g' hg' => heap_setCell_other w3 _ g' _ fun e => by have := (H3.out.2.1.lt g' hg').1; simp at e; omega
            · refine Below.setCell (H2.out.2.2.1.trans (H3.out.2.2.below (by have := H2.out.2.2.2; omega) fun g' _ hg' => ?_)) (Nat.le_refl _) _
              have := (H2.out.2.1.lt g' hg').1; omega
            · have := H3.out.2.2.size
              have := H2.out.2.2.2
              simp; omega
          case measure => simp [Go.RowKit.intOf]; omega

        | cons d0 dr =>
          have HM2 : Hid (midL q = d0 :: dr) := Lib.hid (by rw [← HMid.out]; simp)
          have hemp := str_ne (s := bs (d0 :: dr)) (by simp)
          have hbox2 := (Fr.of_below (X := fun _ => False) hb2).blk HO.out.1 (fun h => h)
          have hown2 : OwnT (N2 + 1) w2 v ((lineP ps).take k) := ownT_kept HO.out.2.1 fun g' hg' => hb2.block g' (HO.out.2.1.lt g' hg').2
          have hv2 : w2.cell? ⟨N2, 3, none⟩ = some v := blk_cell hbox2 3
          have hS2 : N2 + 1 ≤ w2.heap.size := Nat.le_trans HO.out.2.2.2 hb2.size
          have hB2 : Below N2 w1 w2 := HO.out.2.2.1.trans (hb2.mono (by have := HO.out.2.2.2; omega))
          obtain ⟨D, hD⟩ : ∃ D, (lineP ps).take k = D := ⟨_, rfl⟩
          have hDl : D.length ≤ 15 := by rw [← hD, List.length_take]; omega
          rw [hD] at hown2
          have HD := Lib.hid hD
          have H2 := Lib.hid (And.intro hbox2 (And.intro hown2 (And.intro hB2 hS2)))
          clear hbox2 hown2 hS2 hB2 hb2 hD
          go_wp2_with (at_builtin; refine wpList_app_fr rfl _ _ 26 rfl (N2 + 1) 9 i0 (.string ByteArray.empty) 1 16 Tryz.underlying26 hi0 hz0 hz1 hz2 rfl (by decide) v _ _ rfl H2.out.2.1 #[.string (bs (d0 :: dr))] w2.heap.size rfl rfl rfl (by intro u hu; simp at hu; subst hu; rfl) (by omega) (by decide) H2.out.2.2.2 ?_)
          intro v1 w3 hown3 hfr3
          have hbox3 := hfr3.blk H2.out.1 (fun e => by have := (H2.out.2.1.lt _ e).1; omega)
          have hv3 : w3.cell? ⟨N2, 3, none⟩ = some v := blk_cell hbox3 3
          have hf3 : w3.frozen? ⟨N2, 3, none⟩ = false := blk_free hbox3 3
          have H3 := Lib.hid (And.intro hbox3 (And.intro (ownT_snoc hown3) hfr3))
          obtain ⟨A3, c3, hv4⟩ := row_slice hown3
          subst hv4
          clear hbox3 hown3 hfr3 hv2
          go_wp2_with fail
          go_roundw
          case rel =>
            refine ⟨k + 1, .slice A3 (D.length + 1) c3, by omega, by go_num, blk_set H3.out.1 3 _, ?_, ?_, ?_⟩
            · rw [HT.out, if_pos (by omega), HM2.out, HD.out]
              exact ownT_kept H3.out.2.1 fun g' hg' => heap_setCell_other w3 _ g' _ fun e => by have := (H3.out.2.1.lt g' hg').1; simp at e; omega
            · refine Below.setCell (H2.out.2.2.1.trans (H3.out.2.2.below (by have := H2.out.2.2.2; omega) fun g' _ hg' => ?_)) (Nat.le_refl _) _
              have := (H2.out.2.1.lt g' hg').1; omega
            · have := H3.out.2.2.size
              have := H2.out.2.2.2
              simp; omega
          case measure => simp [Go.RowKit.intOf]; omega

      · have hbox2 := (Fr.of_below (X := fun _ => False) hb2).blk HO.out.1 (fun h => h)
        have hown2 : OwnT (N2 + 1) w2 v ((lineP ps).take k) := ownT_kept HO.out.2.1 fun g' hg' => hb2.block g' (HO.out.2.1.lt g' hg').2
        have hv2 : w2.cell? ⟨N2, 3, none⟩ = some v := blk_cell hbox2 3
        have hS2 : N2 + 1 ≤ w2.heap.size := Nat.le_trans HO.out.2.2.2 hb2.size
        have hB2 : Below N2 w1 w2 := HO.out.2.2.1.trans (hb2.mono (by have := HO.out.2.2.2; omega))
        obtain ⟨D, hD⟩ : ∃ D, (lineP ps).take k = D := ⟨_, rfl⟩
        have hDl : D.length ≤ 15 := by rw [← hD, List.length_take]; omega
        rw [hD] at hown2
        have HD := Lib.hid hD
        have H2 := Lib.hid (And.intro hbox2 (And.intro hown2 (And.intro hB2 hS2)))
        clear hbox2 hown2 hS2 hB2 hb2 hD
        go_wp2_with (at_builtin; refine wpList_app_fr rfl _ _ 26 rfl (N2 + 1) 9 i0 (.string ByteArray.empty) 1 16 Tryz.underlying26 hi0 hz0 hz1 hz2 rfl (by decide) v _ _ rfl H2.out.2.1 #[.string (bs (q))] w2.heap.size rfl rfl rfl (by intro u hu; simp at hu; subst hu; rfl) (by omega) (by decide) H2.out.2.2.2 ?_)
        intro v1 w3 hown3 hfr3
        have hbox3 := hfr3.blk H2.out.1 (fun e => by have := (H2.out.2.1.lt _ e).1; omega)
        have hv3 : w3.cell? ⟨N2, 3, none⟩ = some v := blk_cell hbox3 3
        have hf3 : w3.frozen? ⟨N2, 3, none⟩ = false := blk_free hbox3 3
        have H3 := Lib.hid (And.intro hbox3 (And.intro (ownT_snoc hown3) hfr3))
        obtain ⟨A3, c3, hv4⟩ := row_slice hown3
        subst hv4
        clear hbox3 hown3 hfr3 hv2
        go_wp2_with fail
        go_roundw
        case rel =>
          refine ⟨k + 1, .slice A3 (D.length + 1) c3, by omega, by go_num, blk_set H3.out.1 3 _, ?_, ?_, ?_⟩
          · rw [HT.out, if_neg (by omega), HD.out]
            exact ownT_kept H3.out.2.1 fun g' hg' => heap_setCell_other w3 _ g' _ fun e => by have := (H3.out.2.1.lt g' hg').1; simp at e; omega
          · refine Below.setCell (H2.out.2.2.1.trans (H3.out.2.2.below (by have := H2.out.2.2.2; omega) fun g' _ hg' => ?_)) (Nat.le_refl _) _
            have := (H2.out.2.1.lt g' hg').1; omega
          · have := H3.out.2.2.size
            have := H2.out.2.2.2
            simp; omega
        case measure => simp [Go.RowKit.intOf]; omega

    · obtain rfl : k = ps.length := by omega
      clear hbox hown hB hS
      obtain ⟨D, hD⟩ : ∃ D, lineP ps = D := ⟨_, rfl⟩
      have hDl : D.length = ps.length := by rw [← hD, lineP_len]
      have hown : OwnT (N2 + 1) wr v D := by have := HO.out.2.1; rwa [List.take_of_length_le (by rw [lineP_len]; exact Nat.le_refl _), hD] at this
      obtain ⟨A2, c2, hv2⟩ := row_slice hown
      subst hv2
      have HW := Lib.hid (plain_r up name A2 c2 D wr (reads_ownT hown) HUP.out.2 (by omega) (by omega) (fun q hq => by have := lineP_mem h4 q (hD ▸ hq); omega))
      rw [hDl] at HW
      have hbox := HO.out.1
      have hc0 : wr.cell? ⟨N2, 0, none⟩ = some (.slice none 0 0) := blk_cell hbox 0
      have hc1 : wr.cell? ⟨N2, 1, none⟩ = some (.string (bs up)) := blk_cell hbox 1
      have hc2 : wr.cell? ⟨N2, 2, none⟩ = some (.string (bs name)) := blk_cell hbox 2
      have hc3 : wr.cell? ⟨N2, 3, none⟩ = some (.slice A2 D.length c2) := blk_cell hbox 3
      rw [hDl] at hc3
      have HD := Lib.hid hD
      clear hown hbox hD
      go_wp2_with fail
      refine HW.out.mono ?_
      rintro e w2 ⟨rfl, hb2⟩
      obtain ⟨L, hL⟩ : ∃ L, writeL up name D = L := ⟨_, rfl⟩
      rw [hL]
      have hend : makeL pre name ps = L.take 510 := by unfold makeL; rw [HUP.out.1, HD.out, hL]
      have HE := Lib.hid hend
      have HB2 := Lib.hid hb2
      have HFin : Hid (Below w.heap.size w w2) := Lib.hid (HB1.out.trans ((HO.out.2.2.1.trans (HB2.out.mono (by have := HO.out.2.2.2; omega))).mono (by rw [← HN2.out]; exact HB1.out.size)))
      clear hb2 hL hend
      by_cases hbig : (510 : Int) < L.length
      · have e5 : (bs L).extract 0 510 = bs (L.take 510) := ba_ext (by simp)
        have hLs : 510 ≤ (bs L).size := by simp; omega
        have HE5 := Lib.hid e5
        clear e5
        go_wp2_with fail
        go_ret
        exact ⟨by rw [HE.out, ← HE5.out]; rfl, HFin.out⟩
      · have e5 : L.take 510 = L := List.take_of_length_le (by omega)
        have HE5 := Lib.hid e5
        clear e5
        go_wp2_with fail
        go_ret
        exact ⟨by rw [HE.out, HE5.out]; rfl, HFin.out⟩
end Go.Proofs.YtkbgpajconhgjaaGreatDoor
end
section
/- Layer 22: the document's Numeric; rows of texts that are written down. -/
namespace Go.Proofs.YtkbgpajconhgjaaGreatDoor
open Go Go.RowKit

theorem ownT_lit {W : World} {B base : Nat} {xs : List (List UInt8)} (hB : base ≤ B) (h : W.heap[B]? = some (.cells (xs.map encT).toArray 9 (0, 0))) (hl : xs.length ≤ 1000) :
    OwnT base W (.slice (some ⟨B, 0, none⟩) xs.length xs.length) xs := by
  refine ⟨by simp, .inr ⟨B, xs.length, _, rfl, hB, h, Nat.le_refl _, by unfold maxLen; omega, by simp, by
    have h2 : (List.map encT xs).length ≤ xs.length * 1 := by simp
    exact List.take_of_length_le h2⟩⟩
theorem reads_lit {W : World} {B : Nat} {xs : List (List UInt8)} (h : W.heap[B]? = some (.cells (xs.map encT).toArray 9 (0, 0))) (hl : xs.length ≤ 1000) :
    ReadsT W (some ⟨B, 0, none⟩) xs := reads_ownT (ownT_lit (base := 0) (Nat.zero_le _) h hl)
set_option maxRecDepth 100000 in
set_option maxHeartbeats 8000000 in
theorem numeric_r (server whom : List UInt8) (n : Nat) (A : Option Addr) (c : Nat) (ps : List (List UInt8)) (w : World) (hR : ReadsT w A ps) (h0 : 1 ≤ n) (h1 : n ≤ 999) (h2 : ps.length ≤ 14) (h3 : server.length ≤ 1000000) (h4 : whom.length ≤ 90000) (h5 : ∀ p ∈ ps, p.length ≤ 90000) :
    Calls Tryz.prog 17 #[.string (bs server), .int .i64 n, .string (bs whom), .slice A ps.length c] w fun e w' => e = .returned (.string (bs (numL server whom n ps))) ∧ Below w.heap.size w w' := by
  obtain ⟨i0, hi0, hz0, hz1, hz2⟩ := info_parts Tryz.infoT
  have HR := Lib.hid hR
  have HD := Lib.hid (codeM n h1 w)
  have q1 : ¬ (n : Int) < 1 := by omega
  have q2 : ¬ (999 : Int) < n := by omega
  have q3 : ¬ (14 : Int) < ps.length := by omega
  have core : ∀ (t : List UInt8) (w1 : World), Below w.heap.size w w1 → ∀ W, W = w1.alloc (.cells #[.string (bs t)] 9) → OwnT w1.heap.size W (.slice (some ⟨w1.heap.size, 0, none⟩) 1 1) [t] := fun t w1 hb W hW => by
    rw [hW]; exact ownT_lit (xs := [t]) (Nat.le_refl _) (heap_alloc_new w1 _) (by simp)
  have HCore := Lib.hid core
  clear hR core
  unfold numL
  cases whom with
  | nil =>
    have e0 : bs ([] : List UInt8) = ({ data := #[] } : ByteArray) := rfl
    rw [e0, show toL [] = [42] from rfl]
    clear e0
    go_enter Tryz.func17, Tryz.ntmps17
    go_wp2_with fail
    refine HD.out.mono ?_
    rintro e w1 ⟨rfl, hb1⟩
    have HB1 := Lib.hid hb1
    have HO := Lib.hid (HCore.out [42] w1 hb1 _ rfl)
    have hs1 := hb1.size
    have hsa : w1.heap.size ≤ (w1.alloc (.cells #[.string ({ data := #[42] } : ByteArray)] 9)).heap.size := by rw [World.size_alloc]; omega
    have HSrc := Lib.hid (srcT (c := c) (readsT_below (readsT_below HR.out hb1 (Nat.le_refl _)) ((Below.refl _ w1).alloc (Nat.le_refl _) (.cells #[.string (bs [42])] 9)) (Nat.le_refl _)))
    clear hb1
    go_wp2_with (at_builtin; refine wpList_app_u rfl _ _ 26 26 rfl w1.heap.size 9 i0 _ 1 16 Tryz.underlying26 hi0 hz0 hz1 hz2 rfl _ 1 ([[42]].map encT) rfl HO.out (.slice A ps.length c) ps.length (ps.map encT) rfl HSrc.out (by omega) (by decide) hsa ?_)
    intro v3 w3 r1 r2 r3
    have hown : OwnT w1.heap.size w3 v3 ([42] :: ps) := by
      unfold OwnT
      rw [List.length_cons, Nat.add_comm]
      exact r1
    obtain ⟨A2, c2, rfl⟩ := row_slice hown
    have hb3 : Below w1.heap.size w1 w3 := ((Below.refl _ w1).alloc (Nat.le_refl _) (.cells #[.string (bs [42])] 9)).trans (r2.below (by omega) fun k _ hk => by cases hk; exact Nat.le_refl _)
    have HW := Lib.hid (HB1.out.trans (hb3.mono HB1.out.size))
    have HMK := Lib.hid (make_r server n A2 c2 ([42] :: ps) w3 (reads_ownT hown) h3 (by simp; omega) (by
      intro p hp
      rcases List.mem_cons.1 hp with rfl | hp
      · simp
      · exact h5 p hp))
    clear r1 r2 r3 hown hb3 hs1 hsa
    go_wp2_with fail
    refine HMK.out.mono ?_
    rintro e w4 ⟨rfl, hb4⟩
    have HB4 := Lib.hid hb4
    clear hb4
    go_wp2_with fail
    go_ret
    exact ⟨rfl, HW.out.trans (HB4.out.mono HW.out.size)⟩
  | cons b0 r0 =>
    have hemp := str_ne (s := bs (b0 :: r0)) (by simp)
    rw [show toL (b0 :: r0) = b0 :: r0 from rfl]
    go_enter Tryz.func17, Tryz.ntmps17
    go_wp2_with fail
    refine HD.out.mono ?_
    rintro e w1 ⟨rfl, hb1⟩
    have HB1 := Lib.hid hb1
    have HO := Lib.hid (HCore.out (b0 :: r0) w1 hb1 _ rfl)
    have hs1 := hb1.size
    have hsa : w1.heap.size ≤ (w1.alloc (.cells #[.string (bs (b0 :: r0))] 9)).heap.size := by rw [World.size_alloc]; omega
    have HSrc := Lib.hid (srcT (c := c) (readsT_below (readsT_below HR.out hb1 (Nat.le_refl _)) ((Below.refl _ w1).alloc (Nat.le_refl _) (.cells #[.string (bs (b0 :: r0))] 9)) (Nat.le_refl _)))
    clear hb1
    go_wp2_with (at_builtin; refine wpList_app_u rfl _ _ 26 26 rfl w1.heap.size 9 i0 _ 1 16 Tryz.underlying26 hi0 hz0 hz1 hz2 rfl _ 1 ([b0 :: r0].map encT) rfl HO.out (.slice A ps.length c) ps.length (ps.map encT) rfl HSrc.out (by omega) (by decide) hsa ?_)
    intro v3 w3 r1 r2 r3
    have hown : OwnT w1.heap.size w3 v3 ((b0 :: r0) :: ps) := by
      unfold OwnT
      rw [List.length_cons, Nat.add_comm]
      exact r1
    obtain ⟨A2, c2, rfl⟩ := row_slice hown
    have hb3 : Below w1.heap.size w1 w3 := ((Below.refl _ w1).alloc (Nat.le_refl _) (.cells #[.string (bs (b0 :: r0))] 9)).trans (r2.below (by omega) fun k _ hk => by cases hk; exact Nat.le_refl _)
    have HW := Lib.hid (HB1.out.trans (hb3.mono HB1.out.size))
    have HMK := Lib.hid (make_r server n A2 c2 ((b0 :: r0) :: ps) w3 (reads_ownT hown) h3 (by simp; omega) (by
      intro p hp
      rcases List.mem_cons.1 hp with rfl | hp
      · exact h4
      · exact h5 p hp))
    clear r1 r2 r3 hown hb3 hs1 hsa
    go_wp2_with fail
    refine HMK.out.mono ?_
    rintro e w4 ⟨rfl, hb4⟩
    have HB4 := Lib.hid hb4
    clear hb4
    go_wp2_with fail
    go_ret
    exact ⟨rfl, HW.out.trans (HB4.out.mono HW.out.size)⟩
end Go.Proofs.YtkbgpajconhgjaaGreatDoor
end
