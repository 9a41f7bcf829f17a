/- valid.Nick, Channel, User and the answers' ones: both tell the same of any text. -/
import Derived.Test.YtoaimmojnmgelaaDoorValidK
namespace Go.Proofs.YtoaimmojnmgelaaDoor
open Go.RowKit

noncomputable def dec (p : Prop) : Bool := @decide p (Classical.propDecidable _)
theorem dec_iff {p : Prop} : dec p = true ↔ p := by unfold dec; exact @decide_eq_true_iff _ (Classical.propDecidable _)
theorem dec_yes {p : Prop} (h : p) : true = dec p := (dec_iff.2 h).symm
theorem dec_no {p : Prop} (h : ¬ p) : false = dec p := by
  cases e : dec p with
  | false => rfl
  | true => exact absurd (dec_iff.1 e) h
theorem dec_of {b : Bool} {p : Prop} (h : b = true ↔ p) : b = dec p := by
  rw [Bool.eq_iff_iff, h, dec_iff]

theorem sized_yes (s : ByteArray) (a b : Int) (w : World) (h : a ≤ s.size ∧ (s.size : Int) ≤ b) :
    Calls Tryd.prog 47 #[.string s, .int .i64 a, .int .i64 b] w fun e w' => e = .returned (.bool true) ∧ w = w' :=
  (sized_any s a b w).mono fun _ _ hh => by rw [show sizedB s.size a b = true from decide_eq_true h] at hh; exact hh
theorem sized_no (s : ByteArray) (a b : Int) (w : World) (h : ¬ (a ≤ s.size ∧ (s.size : Int) ≤ b)) :
    Calls Tryd.prog 47 #[.string s, .int .i64 a, .int .i64 b] w fun e w' => e = .returned (.bool false) ∧ w = w' :=
  (sized_any s a b w).mono fun _ _ hh => by rw [show sizedB s.size a b = false from decide_eq_false h] at hh; exact hh

/-- may a byte stand so in a nickname? -/
def nickAt (i : Nat) (b : UInt8) : Bool := letterB b || signB b || (decide (i ≠ 0) && (digitB b || decide (b.toNat = 45)))
def NickP (s : ByteArray) : Prop := (1 ≤ s.size ∧ s.size ≤ 16) ∧ ∀ i (h : i < s.size), nickAt i s[i] = true
def ChanP (s : ByteArray) : Prop := (2 ≤ s.size ∧ s.size ≤ 50) ∧ (∃ h : 0 < s.size, s[0].toNat = 35) ∧ ∀ i (h : i < s.size), chanB s[i] = true
def UserP (s : ByteArray) : Prop := (1 ≤ s.size ∧ s.size ≤ 10) ∧ ∀ i (h : i < s.size), (seen s[i] && !inB [33, 64, 42, 63, 58] s[i]) = true

theorem extract_one (s : ByteArray) (h : 1 ≤ s.size) (p : Nat → UInt8 → Bool) : allI (s.extract 0 1) p = p 0 s[0] := by
  rw [Bool.eq_iff_iff, allI_iff]
  have hs : (s.extract 0 1).size = 1 := by simp [ByteArray.size_extract]; omega
  have e : ∀ i (hi : i < (s.extract 0 1).size), (s.extract 0 1)[i] = s[0] := by
    intro i hi
    obtain rfl : i = 0 := by omega
    simp [ByteArray.getElem_extract]
  constructor
  · intro hh; have := hh 0 (by omega); rwa [e] at this
  · intro hh i hi; rw [e]; obtain rfl : i = 0 := by omega
    exact hh

set_option maxHeartbeats 1000000 in
theorem nick_v (s : ByteArray) (w : World) (hs : s.size ≤ 1000000) (hr : Rowed w) :
    Calls Tryd.prog 14 #[.string s] w fun e w' => e = .returned (.bool (dec (NickP s))) ∧ w = w' := by
  by_cases h : 1 ≤ s.size ∧ s.size ≤ 16
  · have h1 := h.1
    go_enter Tryd.func14, Tryd.ntmps14
    go_wp2_with (first | (go_at_call 47; refine (sized_yes _ _ _ _ (by omega)).mono ?_; rintro e w' ⟨rfl, rfl⟩) | (go_at_call 48; refine (only_any _ _ _ (by first | assumption | (simp [ByteArray.size_extract]; omega)) (by assumption)).mono ?_; rintro e w' ⟨rfl, rfl⟩))
    all_goals go_ret
    all_goals rename_i hx
    · rw [extract_one s h1] at hx
      refine ⟨ret_bool (dec_of ?_), rfl⟩
      rw [allI_iff]
      constructor
      · intro hh
        refine ⟨h, fun i hi => ?_⟩
        have a := hh i hi
        rw [isK15] at a; rw [isK5] at hx
        unfold nickAt
        by_cases e : i = 0
        · subst e; rw [hx]; rfl
        · rw [decide_eq_true e, Bool.true_and, ← Bool.or_assoc]; exact a
      · intro hh i hi
        have a := hh.2 i hi
        rw [isK15]
        unfold nickAt at a
        simp only [Bool.or_eq_true, Bool.and_eq_true] at a ⊢
        rcases a with a | ⟨_, a | a⟩
        · exact .inl (.inl a)
        · exact .inl (.inr a)
        · exact .inr a
    · rw [extract_one s h1, isK5] at hx
      refine ⟨ret_bool (dec_no fun hh => hx ?_), rfl⟩
      have a := hh.2 0 (by omega)
      unfold nickAt at a
      simpa using a
  · go_enter Tryd.func14, Tryd.ntmps14
    go_wp2_with (go_at_call 47; refine (sized_no _ _ _ _ (by omega)).mono ?_; rintro e w' ⟨rfl, rfl⟩)
    go_ret
    exact ⟨ret_bool (dec_no fun hh => h hh.1), rfl⟩

set_option maxHeartbeats 1000000 in
theorem nick_r (s : ByteArray) (w : World) (hs : s.size ≤ 1000000) :
    Calls Tryd.prog 15 #[.string s] w fun e w' => e = .returned (.bool (dec (NickP s))) ∧ w = w' := by
  go_enter Tryd.func15, Tryd.ntmps15
  go_wp2_with fail
  go_loopw [3] (fun i wr => ∃ k : Nat, k ≤ s.size ∧ i = .int .i64 k ∧ (∀ i, i < k → ∀ (hi : i < s.size), nickAt i s[i] = true) ∧ wr = w) (fun i _ => s.size - (intOf i).toNat)
  case atStart => exact ⟨0, Nat.zero_le _, rfl, fun _ h => absurd h (Nat.not_lt_zero _), rfl⟩
  case round =>
    obtain ⟨k, hk, rfl, hq, rfl⟩ := hrel
    have Hq := Lib.hid hq
    clear hq
    by_cases hlt : k < s.size
    · have hlt' : (k : Int) < s.size := by omega
      go_wp2_with (first | (go_at_call 49; refine (letter_any _ _).mono ?_; rintro e w' ⟨rfl, rfl⟩) | (go_at_call 50; refine (sign_any _ _).mono ?_; rintro e w' ⟨rfl, rfl⟩) | (go_at_call 51; refine (digit_any _ _).mono ?_; rintro e w' ⟨rfl, rfl⟩))
      all_goals first
        | (refine ⟨⟨k + 1, by omega, by push_cast; rfl, all_step (p := nickAt) Hq.out hlt ?_, by simp⟩, by simp only [intOf]; omega⟩; clear Hq; unfold nickAt; simp_all; try omega)
        | (go_ret; refine ⟨ret_bool (dec_no fun hh => ?_), rfl⟩; have a := hh.2 k hlt; clear hh Hq; unfold nickAt at a; simp_all; try omega)
    · obtain rfl : k = s.size := by omega
      go_wp2_with fail
      all_goals go_ret
      · exact ⟨ret_bool (dec_of ⟨fun h => ⟨⟨by omega, by have := of_decide_eq_true h; omega⟩, fun i h => Hq.out i h h⟩, fun h => decide_eq_true (by have := h.1.2; omega)⟩), rfl⟩
      · exact ⟨ret_bool (dec_no fun h => by have := h.1.1; omega), rfl⟩

set_option maxHeartbeats 1000000 in
theorem chan_v (s : ByteArray) (w : World) (hs : s.size ≤ 1000000) (hr : Rowed w) :
    Calls Tryd.prog 16 #[.string s] w fun e w' => e = .returned (.bool (dec (ChanP s))) ∧ w = w' := by
  by_cases h : 2 ≤ s.size ∧ s.size ≤ 50
  · have h1 : 1 ≤ s.size := by omega
    go_enter Tryd.func16, Tryd.ntmps16
    go_wp2_with (first | (go_at_call 47; refine (sized_yes _ _ _ _ (by omega)).mono ?_; rintro e w' ⟨rfl, rfl⟩) | (go_at_call 52; refine (none_any _ _ _ (by assumption) (by assumption)).mono ?_; rintro e w' ⟨rfl, rfl⟩))
    all_goals go_ret
    all_goals rename_i hx
    · refine ⟨ret_bool (dec_of ?_), rfl⟩
      rw [allI_iff]
      constructor
      · intro hh
        refine ⟨h, ⟨by omega, by omega⟩, fun i hi => ?_⟩
        have a := hh i hi
        rw [isK1888, Bool.not_not] at a; exact a
      · intro hh i hi
        rw [isK1888, Bool.not_not]; exact hh.2.2 i hi
    · refine ⟨ret_bool (dec_no fun hh => hx ?_), rfl⟩
      obtain ⟨_, e⟩ := hh.2.1
      omega
  · go_enter Tryd.func16, Tryd.ntmps16
    go_wp2_with (go_at_call 47; refine (sized_no _ _ _ _ (by omega)).mono ?_; rintro e w' ⟨rfl, rfl⟩)
    go_ret
    exact ⟨ret_bool (dec_no fun hh => h hh.1), rfl⟩

set_option maxHeartbeats 1000000 in
theorem user_v (s : ByteArray) (w : World) (hs : s.size ≤ 1000000) (hr : Rowed w) :
    Calls Tryd.prog 18 #[.string s] w fun e w' => e = .returned (.bool (dec (UserP s))) ∧ w = w' := by
  by_cases h : 1 ≤ s.size ∧ s.size ≤ 10
  · go_enter Tryd.func18, Tryd.ntmps18
    go_wp2_with (first | (go_at_call 47; refine (sized_yes _ _ _ _ (by omega)).mono ?_; rintro e w' ⟨rfl, rfl⟩) | (go_at_call 52; refine (none_any _ _ _ (by assumption) (by assumption)).mono ?_; rintro e w' ⟨rfl, rfl⟩) | (go_at_call 53; refine (plain_any _ _ (by assumption)).mono ?_; rintro e w' ⟨rfl, rfl⟩))
    all_goals go_ret
    all_goals rename_i hx
    · refine ⟨ret_bool (dec_of ?_), rfl⟩
      rw [allI_iff] at hx ⊢
      constructor
      · intro hh
        refine ⟨h, fun i hi => ?_⟩
        have a := hh i hi
        rw [isK160] at a; rw [Bool.and_eq_true]; exact ⟨hx i hi, a⟩
      · intro hh i hi
        have a := hh.2 i hi
        rw [isK160]; rw [Bool.and_eq_true] at a; exact a.2
    · refine ⟨ret_bool (dec_no fun hh => hx ?_), rfl⟩
      rw [allI_iff]
      intro i hi
      have a := hh.2 i hi
      rw [Bool.and_eq_true] at a; exact a.1
  · go_enter Tryd.func18, Tryd.ntmps18
    go_wp2_with (go_at_call 47; refine (sized_no _ _ _ _ (by omega)).mono ?_; rintro e w' ⟨rfl, rfl⟩)
    go_ret
    exact ⟨ret_bool (dec_no fun hh => h hh.1), rfl⟩

set_option maxHeartbeats 1000000 in
theorem user_r (s : ByteArray) (w : World) (hs : s.size ≤ 1000000) :
    Calls Tryd.prog 19 #[.string s] w fun e w' => e = .returned (.bool (dec (UserP s))) ∧ w = w' := by
  go_enter Tryd.func19, Tryd.ntmps19
  go_wp2_with fail
  go_loopw [3] (fun i wr => ∃ k : Nat, k ≤ s.size ∧ i = .int .i64 k ∧ (∀ i, i < k → ∀ (hi : i < s.size), (fun _ b => seen b && !inB [33, 64, 42, 63, 58] b) i s[i] = true) ∧ wr = w) (fun i _ => s.size - (intOf i).toNat)
  case atStart => exact ⟨0, Nat.zero_le _, rfl, fun _ h => absurd h (Nat.not_lt_zero _), rfl⟩
  case round =>
    obtain ⟨k, hk, rfl, hq, rfl⟩ := hrel
    have Hq := Lib.hid hq
    clear hq
    by_cases hlt : k < s.size
    · have hlt' : (k : Int) < s.size := by omega
      go_wp2_with (go_at_call 54; refine (in_any _ _ _ (by decide)).mono ?_; rintro e w' ⟨rfl, rfl⟩)
      all_goals first
        | (refine ⟨⟨k + 1, by omega, by push_cast; rfl, all_step (p := fun _ b => seen b && !inB [33, 64, 42, 63, 58] b) Hq.out hlt ?_, by simp⟩, by simp only [intOf]; omega⟩; clear Hq; unfold seen; simp_all; try omega)
        | (go_ret; refine ⟨ret_bool (dec_no fun hh => ?_), rfl⟩; have a := hh.2 k hlt; clear hh Hq; unfold seen at a; simp_all; try omega)
    · obtain rfl : k = s.size := by omega
      go_wp2_with fail
      all_goals go_ret
      · exact ⟨ret_bool (dec_of ⟨fun h => ⟨⟨by omega, by have := of_decide_eq_true h; omega⟩, fun i h => Hq.out i h h⟩, fun h => decide_eq_true (by have := h.1.2; omega)⟩), rfl⟩
      · exact ⟨ret_bool (dec_no fun h => by have := h.1.1; omega), rfl⟩

set_option maxHeartbeats 1000000 in
theorem chan_r (s : ByteArray) (w : World) (hs : s.size ≤ 1000000) :
    Calls Tryd.prog 17 #[.string s] w fun e w' => e = .returned (.bool (dec (ChanP s))) ∧ w = w' := by
  by_cases h : 2 ≤ s.size ∧ s.size ≤ 50
  · obtain ⟨h1, h2⟩ := h
    have h3 : 0 < s.size := by omega
    by_cases h4 : s[0].toNat = 35
    · have h5 : ((s[0].toNat : Int) != 35) = false := by simp; omega
      go_enter Tryd.func17, Tryd.ntmps17
      go_wp2_with fail
      go_loopw [3] (fun i wr => ∃ k : Nat, 1 ≤ k ∧ k ≤ s.size ∧ i = .int .i64 k ∧ (∀ i, i < k → ∀ (hi : i < s.size), (fun _ b => chanB b) i s[i] = true) ∧ wr = w) (fun i _ => s.size - (intOf i).toNat)
      case atStart =>
        refine ⟨1, Nat.le_refl _, by omega, rfl, fun i hi hl => ?_, rfl⟩
        obtain rfl : i = 0 := by omega
        show chanB s[0] = true
        unfold chanB; rw [h4]; rfl
      case round =>
        obtain ⟨k, hk1, hk, rfl, hq, rfl⟩ := hrel
        have Hq := Lib.hid hq
        clear hq
        by_cases hlt : k < s.size
        · have hlt' : (k : Int) < s.size := by omega
          cases hc : chanB s[k] with
          | true =>
            have hc0 := hc
            unfold chanB at hc
            rw [Bool.not_eq_true', decide_eq_false_iff_not] at hc
            have c0 : ((s[k].toNat : Int) == 0) = false := by rw [beq_eq_false_iff_ne]; omega
            have c1 : ((s[k].toNat : Int) == 7) = false := by rw [beq_eq_false_iff_ne]; omega
            have c2 : ((s[k].toNat : Int) == 10) = false := by rw [beq_eq_false_iff_ne]; omega
            have c3 : ((s[k].toNat : Int) == 13) = false := by rw [beq_eq_false_iff_ne]; omega
            have c4 : ((s[k].toNat : Int) == 32) = false := by rw [beq_eq_false_iff_ne]; omega
            have c5 : ((s[k].toNat : Int) == 44) = false := by rw [beq_eq_false_iff_ne]; omega
            have c6 : ((s[k].toNat : Int) == 58) = false := by rw [beq_eq_false_iff_ne]; omega
            go_wp2_with fail
            all_goals first
              | exact ⟨⟨k + 1, by omega, by omega, by push_cast; rfl, all_step (p := fun _ b => chanB b) Hq.out hlt hc0, by simp⟩, by simp only [intOf]; omega⟩
              | (exfalso; simp_all; omega)
          | false =>
            have hc0 := hc
            unfold chanB at hc
            rw [Bool.not_eq_false', decide_eq_true_iff] at hc
            go_wp2_with fail
            all_goals first
              | (go_ret; exact ⟨ret_bool (dec_no fun hh => by have := hh.2.2 k hlt; rw [hc0] at this; cases this), rfl⟩)
              | (exfalso; clear Hq; simp_all; try omega)
        · obtain rfl : k = s.size := by omega
          go_wp2_with fail
          all_goals go_ret
          exact ⟨ret_bool (dec_yes ⟨⟨h1, h2⟩, ⟨h3, h4⟩, fun i h => Hq.out i h h⟩), rfl⟩
    · have h5 : ((s[0].toNat : Int) != 35) = true := by simp; omega
      go_enter Tryd.func17, Tryd.ntmps17
      go_wp2_with fail
      all_goals go_ret
      all_goals exact ⟨ret_bool (dec_no fun hh => by obtain ⟨_, e⟩ := hh.2.1; exact h4 e), rfl⟩
  · by_cases h1 : s.size < 2
    · go_enter Tryd.func17, Tryd.ntmps17
      go_wp2_with fail
      all_goals go_ret
      all_goals exact ⟨ret_bool (dec_no fun hh => h hh.1), rfl⟩
    · have h2 : 50 < s.size := by omega
      go_enter Tryd.func17, Tryd.ntmps17
      go_wp2_with fail
      all_goals go_ret
      all_goals exact ⟨ret_bool (dec_no fun hh => h hh.1), rfl⟩
end Go.Proofs.YtoaimmojnmgelaaDoor
