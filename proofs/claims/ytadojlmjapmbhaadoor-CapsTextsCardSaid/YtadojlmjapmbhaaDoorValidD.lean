/- valid.Host, Server, Key and the answers' ones: both tell the same of any text. -/
import Derived.Test.YtadojlmjapmbhaaDoorValidC
namespace Go.Proofs.YtadojlmjapmbhaaDoor
set_option linter.unusedVariables false
set_option linter.unusedSimpArgs false
open Go.RowKit

theorem isK59 (b : UInt8) : isK 59 b = (letterB b || digitB b || decide (b.toNat = 46) || decide (b.toNat = 45) || decide (b.toNat = 58)) := by
  have := all256 (p := fun b => isK 59 b == (letterB b || digitB b || decide (b.toNat = 46) || decide (b.toNat = 45) || decide (b.toNat = 58))) (by kernel_rfl) b
  simpa using this
theorem isK32 (b : UInt8) : isK 32 b = decide (b.toNat = 58) := by
  have := all256 (p := fun b => isK 32 b == decide (b.toNat = 58)) (by kernel_rfl) b
  simpa using this
theorem isK16 (b : UInt8) : isK 16 b = decide (b.toNat = 46) := by
  have := all256 (p := fun b => isK 16 b == decide (b.toNat = 46)) (by kernel_rfl) b
  simpa using this
theorem isK1 (b : UInt8) : isK 1 b = letterB b := by
  have := all256 (p := fun b => isK 1 b == letterB b) (by kernel_rfl) b
  simpa using this
theorem isK64 (b : UInt8) : isK 64 b = decide (b.toNat = 44) := by
  have := all256 (p := fun b => isK 64 b == decide (b.toNat = 44)) (by kernel_rfl) b
  simpa using this

/-- may a byte stand so in a host? -/
def hostAt (i : Nat) (b : UInt8) : Bool := letterB b || digitB b || decide (b.toNat = 46) || decide (b.toNat = 45) || (decide (b.toNat = 58) && decide (i ≠ 0))
def HostP (s : ByteArray) : Prop := (1 ≤ s.size ∧ s.size ≤ 63) ∧ ∀ i (h : i < s.size), hostAt i s[i] = true
def ServP (s : ByteArray) : Prop := HostP s ∧ (∃ h : 0 < s.size, letterB s[0] = true) ∧ inB s.data.toList 46 = true ∧ inB s.data.toList 58 = false
def KeyP (s : ByteArray) : Prop := (1 ≤ s.size ∧ s.size ≤ 23) ∧ (∀ i (h : i < s.size), (seen s[i] && !decide (s[i].toNat = 44)) = true) ∧ ∃ h : 0 < s.size, s[0].toNat ≠ 58
theorem u8_eq {b : UInt8} {n : Nat} (hn : n < 256) : b.toNat = n ↔ b = n.toUInt8 := by
  constructor
  · intro h; rw [← h]; simp
  · intro h; rw [h]; simp; omega
theorem allI_noneB (s : ByteArray) (c : UInt8) : allI s (fun _ b => !decide (b.toNat = c.toNat)) = !inB s.data.toList c := by
  rw [Bool.eq_iff_iff, allI_iff]
  constructor
  · intro h
    rw [Bool.not_eq_true']
    symm
    exact inB_no (Nat.le_refl _) fun i _ hi e => by have := h i hi; rw [e] at this; simp at this
  · intro h i hi
    rw [Bool.not_eq_true'] at h
    by_cases e : s[i] = c
    · have := inB_yes hi e; rw [h] at this; cases this
    · simp; intro e2; exact e (UInt8.toNat_inj.mp e2)

set_option maxHeartbeats 1000000 in
theorem host_v (s : ByteArray) (w : World) (hs : s.size ≤ 1000000) (hr : Rowed w) :
    Calls Tryd.prog 45 #[.string s] w fun e w' => e = .returned (.bool (dec (HostP s))) ∧ w = w' := by
  by_cases h : 1 ≤ s.size ∧ s.size ≤ 63
  · have h1 := h.1
    go_enter Tryd.func45, Tryd.ntmps45
    go_wp2_with (first | (go_at_call 54; refine (sized_yes _ _ _ _ (by omega)).mono ?_; rintro e w' ⟨rfl, rfl⟩) | (go_at_call 47; refine (only_any _ _ _ (by first | assumption | (simp [ByteArray.size_extract]; omega)) (by assumption)).mono ?_; rintro e w' ⟨rfl, rfl⟩) | (go_at_call 46; refine (none_any _ _ _ (by first | assumption | (simp [ByteArray.size_extract]; omega)) (by assumption)).mono ?_; rintro e w' ⟨rfl, rfl⟩))
    all_goals go_ret
    all_goals rename_i hx
    · rw [extract_one s h1] at hx
      refine ⟨ret_bool (dec_of ?_), rfl⟩
      rw [allI_iff]
      rw [isK32] at hx
      constructor
      · intro hh
        refine ⟨h, fun i hi => ?_⟩
        have a := hh i hi
        rw [isK59] at a
        unfold hostAt
        by_cases e : i = 0
        · subst e
          simp only [Bool.or_eq_true, Bool.and_eq_true, Bool.not_eq_true', decide_eq_true_eq, decide_eq_false_iff_not] at a hx ⊢
          rcases a with a | a
          · exact .inl a
          · exact absurd a hx
        · rw [decide_eq_true e, Bool.and_true]; exact a
      · intro hh i hi
        have a := hh.2 i hi
        rw [isK59]
        unfold hostAt at a
        simp only [Bool.or_eq_true, Bool.and_eq_true] at a ⊢
        rcases a with a | ⟨a, _⟩
        · exact .inl a
        · exact .inr a
    · rw [extract_one s h1, isK32] at hx
      refine ⟨ret_bool (dec_no fun hh => hx ?_), rfl⟩
      have a := hh.2 0 (by omega)
      unfold hostAt at a
      simp only [Bool.or_eq_true, Bool.and_eq_true, decide_eq_true_eq, ne_eq, not_true_eq_false, and_false, or_false, Bool.not_eq_true', decide_eq_false_iff_not] at a ⊢
      intro e
      rcases a with ((a | a) | a) | a
      · unfold letterB at a; simp at a; omega
      · unfold digitB at a; simp at a; omega
      · omega
      · omega
  · go_enter Tryd.func45, Tryd.ntmps45
    go_wp2_with (go_at_call 54; refine (sized_no _ _ _ _ (by omega)).mono ?_; rintro e w' ⟨rfl, rfl⟩)
    go_ret
    exact ⟨ret_bool (dec_no fun hh => h hh.1), rfl⟩



set_option maxHeartbeats 2000000 in
theorem serv_v (s : ByteArray) (w : World) (hs : s.size ≤ 1000000) (hr : Rowed w) :
    Calls Tryd.prog 34 #[.string s] w fun e w' => e = .returned (.bool (dec (ServP s))) ∧ w = w' := by
  by_cases hh : HostP s
  · have h1 : 1 ≤ s.size := hh.1.1
    have hhd := dec_iff.2 hh
    have e32 : (allI s fun _ b => !isK 32 b) = !inB s.data.toList 58 := by rw [← allI_noneB s 58]; congr 1; funext _ b; rw [isK32]; rfl
    have e16 : (allI s fun _ b => !isK 16 b) = !inB s.data.toList 46 := by rw [← allI_noneB s 46]; congr 1; funext _ b; rw [isK16]; rfl
    have e1 : (allI (s.extract 0 1) fun _ b => isK 1 b) = letterB s[0] := by rw [extract_one s h1, isK1]
    obtain ⟨x, hx⟩ : ∃ x, inB s.data.toList 58 = x := ⟨_, rfl⟩
    obtain ⟨y, hy⟩ : ∃ x, inB s.data.toList 46 = x := ⟨_, rfl⟩
    obtain ⟨z, hz⟩ : ∃ x, letterB s[0] = x := ⟨_, rfl⟩
    rw [hx] at e32
    rw [hy] at e16
    rw [hz] at e1
    have hfin : (!x && y && z) = dec (ServP s) := by
      refine dec_of ?_
      unfold ServP
      rw [hx, hy]
      constructor
      · intro h
        simp only [Bool.and_eq_true, Bool.not_eq_true'] at h
        exact ⟨hh, ⟨by omega, by rw [hz]; exact h.2⟩, h.1.2, h.1.1⟩
      · rintro ⟨_, ⟨_, h2⟩, h3, h4⟩
        rw [hz] at h2
        simp [h2, h3, h4]
    have E32 := Lib.hid e32
    have E16 := Lib.hid e16
    have E1 := Lib.hid e1
    have HD := Lib.hid hhd
    have HF := Lib.hid hfin
    have hs1 : (s.extract 0 1).size ≤ 1000000 := by simp [ByteArray.size_extract]; omega
    clear e32 e16 e1 hhd hfin hx hy hz
    cases x
    · cases y
      · go_enter Tryd.func34, Tryd.ntmps34
        go_wp2_with fail
        refine (host_v _ _ hs hr).mono ?_
        rintro e w' ⟨rfl, rfl⟩
        rw [HD.out]
        go_wp2_with fail
        refine (none_any _ _ _ hs hr).mono ?_
        rintro e w' ⟨rfl, rfl⟩
        rw [E32.out]
        go_wp2_with fail
        refine (none_any _ _ _ hs hr).mono ?_
        rintro e w' ⟨rfl, rfl⟩
        rw [E16.out]
        go_wp2_with fail
        go_ret
        exact ⟨ret_bool (by rw [← HF.out]; rfl), rfl⟩
      · go_enter Tryd.func34, Tryd.ntmps34
        go_wp2_with fail
        refine (host_v _ _ hs hr).mono ?_
        rintro e w' ⟨rfl, rfl⟩
        rw [HD.out]
        go_wp2_with fail
        refine (none_any _ _ _ hs hr).mono ?_
        rintro e w' ⟨rfl, rfl⟩
        rw [E32.out]
        go_wp2_with fail
        refine (none_any _ _ _ hs hr).mono ?_
        rintro e w' ⟨rfl, rfl⟩
        rw [E16.out]
        go_wp2_with fail
        refine (only_any _ _ _ hs1 hr).mono ?_
        rintro e w' ⟨rfl, rfl⟩
        rw [E1.out]
        go_wp2_with fail
        go_ret
        exact ⟨ret_bool (by rw [← HF.out]; rfl), rfl⟩
    · go_enter Tryd.func34, Tryd.ntmps34
      go_wp2_with fail
      refine (host_v _ _ hs hr).mono ?_
      rintro e w' ⟨rfl, rfl⟩
      rw [HD.out]
      go_wp2_with fail
      refine (none_any _ _ _ hs hr).mono ?_
      rintro e w' ⟨rfl, rfl⟩
      rw [E32.out]
      go_wp2_with fail
      go_ret
      exact ⟨ret_bool (by rw [← HF.out]; rfl), rfl⟩
  · have hd : dec (HostP s) = false := (dec_no hh).symm
    have HD := Lib.hid hd
    have hfin : false = dec (ServP s) := dec_no fun h => hh h.1
    have HF := Lib.hid hfin
    clear hd hfin hh
    go_enter Tryd.func34, Tryd.ntmps34
    go_wp2_with fail
    refine (host_v _ _ hs hr).mono ?_
    rintro e w' ⟨rfl, rfl⟩
    rw [HD.out]
    go_wp2_with fail
    go_ret
    exact ⟨ret_bool HF.out, rfl⟩

end Go.Proofs.YtadojlmjapmbhaaDoor
