/- GlobShorts, GlobParts, GlobFolds, walked. -/
import Derived.Test.YtoaimmojnmgelaaDoorGlobN
import Derived.Test.YtoaimmojnmgelaaDoorGlobP
import Derived.Test.YtoaimmojnmgelaaDoorAnyB
namespace Go.Proofs.YtoaimmojnmgelaaDoor
set_option linter.unusedVariables false
set_option linter.unusedSimpArgs false
open Go.RowKit

theorem wildB (s : ByteArray) (w : World) (hs : s.size ≤ 1000000) :
    Calls Tryd.prog 43 #[.string s] w fun e w' => e = .returned (.bool (wildL s.data.toList)) ∧ Below w.heap.size w w' := by
  have e : (s.data.toList.any fun x => (⟨#[42, 63]⟩ : ByteArray).data.toList.contains x) = wildL s.data.toList := by
    unfold wildL; congr 1; funext x; simp; rfl
  have E := Lib.hid e
  clear e
  go_enter Tryd.func43, Tryd.ntmps43
  go_wp2_with fail
  refine (containsAnyB s ⟨#[42, 63]⟩ _ hs (by decide) (by decide) (by unfold asciiL; decide)).mono ?_
  rintro e w1 ⟨rfl, q⟩
  rw [E.out]
  go_wp2_with fail
  go_ret
  exact ⟨rfl, q⟩

set_option maxHeartbeats 2000000 in
theorem globShorts_walk (m s : ByteArray) (w : World) (_hm : m.size ≤ maxLen) (_hs : s.size ≤ maxLen) :
    Calls Tryd.prog 10 #[.string m, .string s] w fun e w' => e = .returned (.bool true) ∧ Below w.heap.size w w' := by
  unfold maxLen at _hm _hs
  by_cases h : m.size ≤ 60 ∧ s.size ≤ 60
  · obtain ⟨h1, h2⟩ := h
    have hm : m.size ≤ 1000000 := by omega
    have hs : s.size ≤ 1000000 := by omega
    have ht : (bs (shortL m.data.toList)).size ≤ 1000000 := by
      rw [bs_size]; have := short_len m.data.toList; rw [len_ba] at this; omega
    have e1 : mm (bs (shortL m.data.toList)).data.toList s.data.toList = mm m.data.toList s.data.toList := by rw [bs_toList]; exact short_alike _ _
    have e2 : wildL (bs (shortL m.data.toList)).data.toList = wildL m.data.toList := by rw [bs_toList]; exact short_wild _
    have e3 : bs (shortL (bs (shortL m.data.toList)).data.toList) = bs (shortL m.data.toList) := by rw [bs_toList, short_idem]
    have E1 := Lib.hid e1
    have E2 := Lib.hid e2
    have E3 := Lib.hid e3
    clear e1 e2 e3
    have hq := Nat.le_refl w.heap.size
    have q := Below.refl w.heap.size w
    go_enter Tryd.func10, Tryd.ntmps10
    go_wp2_with fail
    refine (awake4 _).mono ?_
    rintro e w1 ⟨rfl, q1⟩
    replace q := bjoin q hq q1; clear q1
    go_wp2_with fail
    refine (short_any _ _ hm).mono ?_
    rintro e w1 ⟨rfl, q1⟩
    replace q := bjoin q hq q1; clear q1
    go_wp2_with fail
    refine (rshort_any _ _ hm).mono ?_
    rintro e w1 ⟨rfl, rfl⟩
    go_wp2_with fail
    refine (matchB _ _ _ ht hs).mono ?_
    rintro e w1 ⟨rfl, q1⟩
    replace q := bjoin q hq q1; clear q1
    rw [E1.out]
    go_wp2_with fail
    refine (matchB _ _ _ hm hs).mono ?_
    rintro e w1 ⟨rfl, q1⟩
    replace q := bjoin q hq q1; clear q1
    go_wp2_with fail
    refine (wildB _ _ ht).mono ?_
    rintro e w1 ⟨rfl, q1⟩
    replace q := bjoin q hq q1; clear q1
    rw [E2.out]
    go_wp2_with fail
    refine (wildB _ _ hm).mono ?_
    rintro e w1 ⟨rfl, q1⟩
    replace q := bjoin q hq q1; clear q1
    go_wp2_with fail
    refine (short_any _ _ ht).mono ?_
    rintro e w1 ⟨rfl, q1⟩
    replace q := bjoin q hq q1; clear q1
    rw [E3.out]
    go_wp2_with fail
    go_ret
    exact ⟨rfl, q⟩
  · go_enter Tryd.func10, Tryd.ntmps10
    go_wp2_with (go_at_call 32; refine (awake4 _).mono ?_; rintro e w' ⟨rfl, q1⟩)
    all_goals go_ret
    all_goals exact ⟨rfl, q1⟩

/-! parts -/
/-- what the loops have found -/
def Fnd (a b s : List UInt8) (i k : Nat) : Prop := ∃ i' k', (i' < i ∨ (i' = i ∧ k' < k)) ∧ i' ≤ k' ∧ k' ≤ s.length ∧ mm a (s.take i') = true ∧ mm b (s.drop k') = true
/-- found, up to there -/
noncomputable def fnd (a b s : List UInt8) (i k : Nat) : Bool := @decide (Fnd a b s i k) (Classical.propDecidable _)
theorem fnd_iff {a b s : List UInt8} {i k : Nat} : fnd a b s i k = true ↔ Fnd a b s i k := by unfold fnd; exact @decide_eq_true_iff _ (Classical.propDecidable _)
theorem fnd_zero (a b s : List UInt8) : fnd a b s 0 0 = false := by
  rw [Bool.eq_false_iff, ne_eq, fnd_iff]
  rintro ⟨i', k', h, _⟩; omega
theorem fnd_row (a b s : List UInt8) (i : Nat) {k : Nat} (hk : k = s.length + 1) : fnd a b s (i + 1) (i + 1) = fnd a b s i k := by
  rw [Bool.eq_iff_iff, fnd_iff, fnd_iff]
  constructor
  · rintro ⟨i', k', h, h1, h2, h3⟩
    exact ⟨i', k', by omega, h1, h2, h3⟩
  · rintro ⟨i', k', h, h1, h2, h3⟩
    exact ⟨i', k', by omega, h1, h2, h3⟩
theorem fnd_next (a b s : List UInt8) {i k : Nat} (hik : i ≤ k) (hk : k ≤ s.length) : fnd a b s i (k + 1) = (fnd a b s i k || (mm a (s.take i) && mm b (s.drop k))) := by
  rw [Bool.eq_iff_iff, Bool.or_eq_true, Bool.and_eq_true, fnd_iff, fnd_iff]
  constructor
  · rintro ⟨i', k', h, h1, h2, h3, h4⟩
    by_cases e : i' = i ∧ k' = k
    · obtain ⟨rfl, rfl⟩ := e; exact .inr ⟨h3, h4⟩
    · exact .inl ⟨i', k', by omega, h1, h2, h3, h4⟩
  · rintro (⟨i', k', h, h1, h2, h3⟩ | ⟨h3, h4⟩)
    · exact ⟨i', k', by omega, h1, h2, h3⟩
    · exact ⟨i, k, by omega, hik, hk, h3, h4⟩
theorem fnd_all (a b s : List UInt8) {n : Nat} (hn : n = s.length + 1) : fnd a b s n n = mm (a ++ [42] ++ b) s := by
  rw [Bool.eq_iff_iff, fnd_iff, mm_parts]
  constructor
  · rintro ⟨i', k', h, h1, h2, h3⟩; exact ⟨i', k', h1, h2, h3⟩
  · rintro ⟨i', k', h1, h2, h3⟩; exact ⟨i', k', by omega, h1, h2, h3⟩

set_option maxRecDepth 100000 in
set_option maxHeartbeats 8000000 in
theorem globParts_walk (a b s : ByteArray) (w : World) (_ha : a.size ≤ maxLen) (_hb : b.size ≤ maxLen) (_hs : s.size ≤ maxLen) :
    Calls Tryd.prog 11 #[.string a, .string b, .string s] w fun e w' => e = .returned (.bool true) ∧ Below w.heap.size w w' := by
  unfold maxLen at _ha _hb _hs
  by_cases h : a.size ≤ 30 ∧ b.size ≤ 30 ∧ s.size ≤ 30
  · obtain ⟨h1, h2, h3⟩ := h
    have ha : a.size ≤ 1000000 := by omega
    have hb : b.size ≤ 1000000 := by omega
    have hs : s.size ≤ 1000000 := by omega
    have hj : (a ++ ⟨#[42]⟩ ++ b).size ≤ 1000000 := by
      have e1 : (⟨#[42]⟩ : ByteArray).size = 1 := rfl
      simp only [ByteArray.size_append]; omega
    have ej : mm (a ++ ⟨#[42]⟩ ++ b).data.toList s.data.toList = fnd a.data.toList b.data.toList s.data.toList (s.size + 1) (s.size + 1) := by
      rw [fnd_all _ _ _ (by rw [len_ba])]; simp
    have ep : wildL a.data.toList = false → mm a.data.toList s.data.toList = sameF a.data.toList s.data.toList := fun hw => by
      rw [mm_plain _ _ hw]; rfl
    have EJ := Lib.hid ej
    have EP := Lib.hid ep
    have HJ := Lib.hid hj
    clear ej ep hj
    have hq := Nat.le_refl w.heap.size
    have q := Below.refl w.heap.size w
    go_enter Tryd.func11, Tryd.ntmps11
    go_wp2_with fail
    refine (awake4 _).mono ?_
    rintro e w1 ⟨rfl, q1⟩
    replace q := bjoin q hq q1; clear q1
    go_wp2_with fail
    go_loopw [7, 8, 9] (fun f i _ wr => ∃ k : Nat, i = .int .i64 k ∧ k ≤ s.size + 1 ∧ f = .bool (fnd a.data.toList b.data.toList s.data.toList k k) ∧ Below w.heap.size w wr) (fun _ i _ _ => s.size + 1 - (intOf i).toNat)
    case atStart => exact ⟨0, rfl, Nat.zero_le _, by rw [fnd_zero], q⟩
    case round =>
      clear q
      obtain ⟨i, rfl, hi, rfl, q⟩ := hrel
      by_cases hlt : i < s.size + 1
      · have hle : i ≤ s.size := by omega
        obtain ⟨f0, hf0⟩ : ∃ f, fnd a.data.toList b.data.toList s.data.toList i i = f := ⟨_, rfl⟩
        rw [hf0]
        have HF0 := Lib.hid hf0
        clear hf0
        go_wp2_with fail
        obtain ⟨wo, hwo⟩ : ∃ wo : World, wo = wr := ⟨_, rfl⟩
        subst hwo
        go_loopw [7, 9] (fun f k wi => ∃ k' : Nat, k = .int .i64 k' ∧ i ≤ k' ∧ k' ≤ s.size + 1 ∧ f = .bool (fnd a.data.toList b.data.toList s.data.toList i k') ∧ Below w.heap.size w wi) (fun _ k _ => s.size + 1 - (intOf k).toNat)
        case atStart => exact ⟨i, rfl, Nat.le_refl _, hi, by rw [HF0.out], q⟩
        case round =>
          clear q
          obtain ⟨k, rfl, hik, hk, rfl, q⟩ := hrel
          by_cases hlt2 : k < s.size + 1
          · have hle2 : k ≤ s.size := by omega
            have hx := fnd_next a.data.toList b.data.toList s.data.toList hik (by rw [len_ba]; exact hle2)
            have hs1 : (s.extract 0 i).size ≤ 1000000 := size_ex _ _ hs
            have hs2 : (s.extract k s.size).size ≤ 1000000 := size_ex _ _ hs
            have e1 : mm a.data.toList (s.extract 0 i).data.toList = mm a.data.toList (s.data.toList.take i) := by rw [ba_extract0]
            have e2 : mm b.data.toList (s.extract k s.size).data.toList = mm b.data.toList (s.data.toList.drop k) := by rw [ba_extract_to]
            obtain ⟨f1, hf1⟩ : ∃ f, fnd a.data.toList b.data.toList s.data.toList i k = f := ⟨_, rfl⟩
            obtain ⟨x1, hx1⟩ : ∃ f, mm a.data.toList (s.data.toList.take i) = f := ⟨_, rfl⟩
            obtain ⟨x2, hx2⟩ : ∃ f, mm b.data.toList (s.data.toList.drop k) = f := ⟨_, rfl⟩
            rw [hf1, hx1, hx2] at hx
            rw [hf1]
            rw [hx1] at e1
            rw [hx2] at e2
            have HX := Lib.hid hx
            have E1 := Lib.hid e1
            have E2 := Lib.hid e2
            clear hx e1 e2 hf1 hx1 hx2
            cases f1
            · cases x1
              · go_wp2_with (go_at_call 34; refine (matchB a (s.extract 0 i) _ ha hs1).mono ?_; rintro e w' ⟨rfl, q1⟩; rw [E1.out])
                go_roundw
                case rel => exact ⟨k + 1, by go_num, by omega, by omega, by rw [HX.out]; rfl, bjoin q (Nat.le_refl _) q1⟩
                case measure => simp [intOf]; omega
              · go_wp2_with fail
                refine (matchB a (s.extract 0 i) _ ha hs1).mono ?_
                rintro e w' ⟨rfl, q1⟩
                rw [E1.out]
                go_wp2_with fail
                refine (matchB b (s.extract k s.size) _ hb hs2).mono ?_
                rintro e w' ⟨rfl, q2⟩
                rw [E2.out]
                go_wp2_with fail
                go_roundw
                case rel => exact ⟨k + 1, by go_num, by omega, by omega, by rw [HX.out]; cases x2 <;> rfl, bjoin (bjoin q (Nat.le_refl _) q1) (Nat.le_refl _) q2⟩
                case measure => simp [intOf]; omega
            · go_wp2_with fail
              go_roundw
              case rel => exact ⟨k + 1, by go_num, by omega, by omega, by rw [HX.out]; rfl, q⟩
              case measure => simp [intOf]; omega
          · obtain rfl : k = s.size + 1 := by omega
            obtain ⟨f1, hf1⟩ : ∃ f, fnd a.data.toList b.data.toList s.data.toList i (s.size + 1) = f := ⟨_, rfl⟩
            rw [hf1]
            have hr := fnd_row a.data.toList b.data.toList s.data.toList i (k := s.size + 1) (by rw [len_ba])
            rw [hf1] at hr
            have HR := Lib.hid hr
            clear hr hf1
            go_wp2_with fail
            go_roundw
            case rel => exact ⟨i + 1, by go_num, by omega, by rw [HR.out], q⟩
            case measure => simp [intOf]; omega
      · obtain rfl : i = s.size + 1 := by omega
        obtain ⟨f1, hf1⟩ : ∃ f, fnd a.data.toList b.data.toList s.data.toList (s.size + 1) (s.size + 1) = f := ⟨_, rfl⟩
        have ej := EJ.out
        rw [hf1] at ej
        rw [hf1]
        have EJ2 := Lib.hid ej
        clear ej hf1 EJ
        cases hw : wildL a.data.toList with
        | true =>
          have HW := Lib.hid hw
          clear hw
          go_wp2_with fail
          refine (matchB _ _ _ HJ.out hs).mono ?_
          rintro e w' ⟨rfl, q1⟩
          replace q := bjoin q (Nat.le_refl _) q1; clear q1
          rw [EJ2.out]
          go_wp2_with fail
          refine (wildB _ _ ha).mono ?_
          rintro e w' ⟨rfl, q1⟩
          replace q := bjoin q (Nat.le_refl _) q1; clear q1
          rw [HW.out]
          go_wp2_with fail
          go_ret
          exact ⟨rfl, q⟩
        | false =>
          have ep := EP.out hw
          have HW := Lib.hid hw
          have EP2 := Lib.hid ep
          clear hw ep
          go_wp2_with fail
          refine (matchB _ _ _ HJ.out hs).mono ?_
          rintro e w' ⟨rfl, q1⟩
          replace q := bjoin q (Nat.le_refl _) q1; clear q1
          rw [EJ2.out]
          go_wp2_with fail
          refine (wildB _ _ ha).mono ?_
          rintro e w' ⟨rfl, q1⟩
          replace q := bjoin q (Nat.le_refl _) q1; clear q1
          rw [HW.out]
          go_wp2_with fail
          refine (matchB _ _ _ ha hs).mono ?_
          rintro e w' ⟨rfl, q1⟩
          replace q := bjoin q (Nat.le_refl _) q1; clear q1
          rw [EP2.out]
          go_wp2_with fail
          refine (refsame _ _ _ ha hs).mono ?_
          rintro e w' ⟨rfl, q1⟩
          replace q := bjoin q (Nat.le_refl _) q1; clear q1
          go_wp2_with fail
          go_ret
          exact ⟨ret_bool (by simp), q⟩
  · go_enter Tryd.func11, Tryd.ntmps11
    go_wp2_with (go_at_call 32; refine (awake4 _).mono ?_; rintro e w' ⟨rfl, q1⟩)
    all_goals go_ret
    all_goals exact ⟨rfl, q1⟩

/-! folds -/
def markB (c : UInt8) : Bool := c == 33 || c == 64 || c == 63
def markedL (l : List UInt8) : Bool := l.any markB
def starredL (l : List UInt8) : Bool := l.any fun c => c == 42
theorem any_drop {s : ByteArray} {k : Nat} (h : k < s.size) (p : UInt8 → Bool) : (s.data.toList.drop k).any p = (p s[k] || (s.data.toList.drop (k + 1)).any p) := by
  rw [List.drop_eq_getElem_cons (by simpa using h), List.any_cons, get_ba s k h]
theorem any_end {s : ByteArray} {k : Nat} (h : s.size ≤ k) (p : UInt8 → Bool) : (s.data.toList.drop k).any p = false := by
  rw [List.drop_of_length_le (by simpa using h)]; rfl

set_option maxHeartbeats 1000000 in
theorem marked_any (s : ByteArray) (w : World) (hs : s.size ≤ 1000000) :
    Calls Tryd.prog 44 #[.string s] w fun e w' => e = .returned (.bool (markedL s.data.toList)) ∧ w = w' := by
  go_enter Tryd.func44, Tryd.ntmps44
  go_wp2_with fail
  go_loopw [3] (fun i wr => ∃ k : Nat, k ≤ s.size ∧ i = .int .i64 k ∧ Hid (markedL s.data.toList = (s.data.toList.drop k).any markB) ∧ wr = w) (fun i _ => s.size - (intOf i).toNat)
  case atStart => exact ⟨0, Nat.zero_le _, rfl, by rw [List.drop_zero]; rfl, rfl⟩
  case round =>
    obtain ⟨k, hk, rfl, HQ, rfl⟩ := hrel
    by_cases hlt : k < s.size
    · have hn := any_drop hlt markB
      have hb : markB s[k] = (((s[k].toNat : Int) == 33) || ((s[k].toNat : Int) == 64) || ((s[k].toNat : Int) == 63)) := by
        unfold markB; rw [← u8_beq s[k] 33, ← u8_beq s[k] 64, ← u8_beq s[k] 63]; rfl
      rw [hb, ← HQ.out] at hn
      cases h1 : ((s[k].toNat : Int) == 33) <;> cases h2 : ((s[k].toNat : Int) == 64) <;> cases h3 : ((s[k].toNat : Int) == 63) <;> rw [h1, h2, h3] at hn <;> (have HN := Lib.hid hn; clear hn hb; go_wp2_with fail; first | (go_ret; exact ⟨ret_bool (by rw [HN.out]; rfl), rfl⟩) | exact ⟨⟨k + 1, by omega, by push_cast; rfl, Lib.hid (by have := HN.out; simpa using this), by simp⟩, by simp only [intOf]; omega⟩)
    · have hn := any_end (s := s) (k := k) (by omega) markB
      rw [← HQ.out] at hn
      have HN := Lib.hid hn
      clear hn
      go_wp2_with fail
      go_ret
      exact ⟨ret_bool HN.out.symm, rfl⟩
set_option maxHeartbeats 1000000 in
theorem lstar_any (s : ByteArray) (w : World) (hs : s.size ≤ 1000000) :
    Calls Tryd.prog 46 #[.string s] w fun e w' => e = .returned (.bool (starredL s.data.toList)) ∧ w = w' := by
  go_enter Tryd.func46, Tryd.ntmps46
  go_wp2_with fail
  go_loopw [3] (fun i wr => ∃ k : Nat, k ≤ s.size ∧ i = .int .i64 k ∧ Hid (starredL s.data.toList = (s.data.toList.drop k).any fun c => c == 42) ∧ wr = w) (fun i _ => s.size - (intOf i).toNat)
  case atStart => exact ⟨0, Nat.zero_le _, rfl, by rw [List.drop_zero]; rfl, rfl⟩
  case round =>
    obtain ⟨k, hk, rfl, HQ, rfl⟩ := hrel
    by_cases hlt : k < s.size
    · have hn := any_drop hlt (fun c => c == 42)
      have hb : (s[k] == 42) = ((s[k].toNat : Int) == 42) := by rw [← u8_beq s[k] 42]; rfl
      try simp only [] at hn
      rw [hb, ← HQ.out] at hn
      cases h1 : ((s[k].toNat : Int) == 42) <;> rw [h1] at hn <;> (have HN := Lib.hid hn; clear hn hb; go_wp2_with fail; first | (go_ret; exact ⟨ret_bool (by rw [HN.out]; rfl), rfl⟩) | exact ⟨⟨k + 1, by omega, by push_cast; rfl, Lib.hid (by have := HN.out; simpa using this), by simp⟩, by simp only [intOf]; omega⟩)
    · have hn := any_end (s := s) (k := k) (by omega) (fun c => c == 42)
      rw [← HQ.out] at hn
      have HN := Lib.hid hn
      clear hn
      go_wp2_with fail
      go_ret
      exact ⟨ret_bool HN.out.symm, rfl⟩

theorem split_eq {c : UInt8} : ∀ {a a' b b' : List UInt8}, c ∉ a → c ∉ a' → ((a ++ c :: b = a' ++ c :: b') ↔ (a = a' ∧ b = b'))
  | [], [], b, b', _, _ => by simp
  | [], y :: a', b, b', _, h => by
    simp only [List.nil_append, List.cons_append, List.cons.injEq]
    constructor
    · rintro ⟨rfl, _⟩; exact absurd (by simp) h
    · rintro ⟨h2, _⟩; cases h2
  | x :: a, [], b, b', h, _ => by
    simp only [List.nil_append, List.cons_append, List.cons.injEq]
    constructor
    · rintro ⟨rfl, _⟩; exact absurd (by simp) h
    · rintro ⟨h2, _⟩; cases h2
  | x :: a, y :: a', b, b', h, h' => by
    have := split_eq (a := a) (a' := a') (b := b) (b' := b') (fun hm => h (List.mem_cons_of_mem _ hm)) (fun hm => h' (List.mem_cons_of_mem _ hm))
    simp only [List.cons_append, List.cons.injEq, this]
    constructor
    · rintro ⟨h1, h2, h3⟩; exact ⟨⟨h1, h2⟩, h3⟩
    · rintro ⟨⟨h1, h2⟩, h3⟩; exact ⟨h1, h2, h3⟩
theorem fold_mem {c : UInt8} (hc : ∀ b, (foldB b == c) = (b == c)) {l : List UInt8} (h : c ∉ l) : c ∉ foldL l := by
  unfold foldL
  intro hm
  obtain ⟨b, hb, e⟩ := List.mem_map.1 hm
  have := hc b
  rw [e] at this
  simp at this
  exact h (this ▸ hb)
theorem mark_33 {l : List UInt8} (h : markedL l = false) : 33 ∉ l := fun hm => by
  have := List.any_eq_false.1 h 33 hm
  exact this rfl
theorem mark_64 {l : List UInt8} (h : markedL l = false) : 64 ∉ l := fun hm => by
  have := List.any_eq_false.1 h 64 hm
  exact this rfl
theorem mark_wild {l : List UInt8} (h : markedL l = false) (h2 : starredL l = false) : wildL l = false := by
  unfold wildL
  rw [List.any_eq_false]
  intro c hc
  have h1 := List.any_eq_false.1 h c hc
  have h3 := List.any_eq_false.1 h2 c hc
  simp only [markB, Bool.or_eq_true, not_or] at h1
  simp only [Bool.or_eq_true, not_or]
  exact ⟨h3, h1.2⟩
theorem folds_plain {m n u h : List UInt8} (W : Whole m n u h) (nick user host : List UInt8) (w1 : wildL m = false ∨ (starredL n = false ∧ starredL u = false ∧ starredL h = false)) (m1 : markedL n = false) (m2 : markedL u = false) (m3 : markedL h = false)
    (k1 : markedL nick = false) (k2 : markedL user = false) (k3 : markedL host = false) : mm m (nick ++ 33 :: (user ++ 64 :: host)) = (mm n nick && mm u user && mm h host) := by
  have hm := W.1
  have hw : wildL n = false ∧ wildL u = false ∧ wildL h = false := by
    rcases w1 with w1 | ⟨s1, s2, s3⟩
    · rw [hm] at w1
      simp only [wildL, List.any_append, List.any_cons, Bool.or_eq_false_iff] at w1
      exact ⟨w1.1, w1.2.2.1, w1.2.2.2.2⟩
    · exact ⟨mark_wild m1 s1, mark_wild m2 s2, mark_wild m3 s3⟩
  have hwm : wildL m = false := by
    rw [hm]
    simp only [wildL, List.any_append, List.any_cons, Bool.or_eq_false_iff]
    exact ⟨hw.1, ⟨rfl, rfl⟩, hw.2.1, ⟨rfl, rfl⟩, hw.2.2⟩
  rw [mm_plain _ _ hwm, mm_plain _ _ hw.1, mm_plain _ _ hw.2.1, mm_plain _ _ hw.2.2, hm]
  have e33 : foldB 33 = 33 := rfl
  have e64 : foldB 64 = 64 := rfl
  have f : ∀ a b c : List UInt8, foldL (a ++ 33 :: (b ++ 64 :: c)) = foldL a ++ 33 :: (foldL b ++ 64 :: foldL c) := fun a b c => by
    simp [foldL, e33, e64]
  rw [f, f, Bool.eq_iff_iff, Bool.and_eq_true, Bool.and_eq_true, beq_iff_eq, beq_iff_eq, beq_iff_eq, beq_iff_eq,
    split_eq (fold_mem foldB_33 (mark_33 m1)) (fold_mem foldB_33 (mark_33 k1)), split_eq (fold_mem foldB_64 (mark_64 m2)) (fold_mem foldB_64 (mark_64 k2))]
  exact ⟨fun h => ⟨⟨h.1, h.2.1⟩, h.2.2⟩, fun h => ⟨h.1.1, h.1.2, h.2⟩⟩

set_option maxRecDepth 100000 in
set_option maxHeartbeats 8000000 in
theorem globFolds_small (m a b c : ByteArray) (w : World) (hm : m.size ≤ 30) (ha : a.size ≤ 30) (hb : b.size ≤ 30) (hc : c.size ≤ 30) (k1 : markedL a.data.toList = false) (k2 : markedL b.data.toList = false) (k3 : markedL c.data.toList = false) :
    Calls Tryd.prog 12 #[.string m, .string a, .string b, .string c] w fun e w' => e = .returned (.bool true) ∧ Below w.heap.size w w' := by
  have hm1 : m.size ≤ 1000000 := by omega
  have ha1 : a.size ≤ 1000000 := by omega
  have hb1 : b.size ≤ 1000000 := by omega
  have hc1 : c.size ≤ 1000000 := by omega
  obtain ⟨s, hs⟩ : ∃ s, a ++ ⟨#[33]⟩ ++ b ++ ⟨#[64]⟩ ++ c = s := ⟨_, rfl⟩
  have hs1 : s.size ≤ 1000000 := by
    have e1 : (⟨#[33]⟩ : ByteArray).size = 1 := rfl
    have e2 : (⟨#[64]⟩ : ByteArray).size = 1 := rfl
    rw [← hs]; simp only [ByteArray.size_append]; omega
  have hsl : s.data.toList = a.data.toList ++ 33 :: (b.data.toList ++ 64 :: c.data.toList) := by rw [← hs]; simp
  have hfm : (bs (foldL m.data.toList)).size ≤ 1000000 := by rw [bs_size]; simp [foldL]; omega
  have hfs : (bs (foldL s.data.toList)).size ≤ 1000000 := by rw [bs_size]; simp [foldL]; omega
  have hff : mm (bs (foldL m.data.toList)).data.toList (bs (foldL s.data.toList)).data.toList = mm m.data.toList s.data.toList := by rw [bs_toList, bs_toList, mm_fold]
  obtain ⟨X, hX⟩ : ∃ X, mm m.data.toList s.data.toList = X := ⟨_, rfl⟩
  rw [hX] at hff
  have HS := Lib.hid hs
  have HFF := Lib.hid hff
  have HX := Lib.hid hX
  have HFM := Lib.hid hfm
  have HFS := Lib.hid hfs
  have hq := Nat.le_refl w.heap.size
  have q := Below.refl w.heap.size w
  have K1 := Lib.hid k1
  have K2 := Lib.hid k2
  have K3 := Lib.hid k3
  by_cases hW : ∃ n u h, Whole m.data.toList n u h
  · obtain ⟨n, u, h, hW⟩ := hW
    have hcut := cutV_yes hW
    have hle : n.length + u.length + h.length ≤ m.size := by rw [← len_ba, hW.1]; simp; omega
    have hn1 : (bs n).size ≤ 1000000 := by rw [bs_size]; omega
    have hu1 : (bs u).size ≤ 1000000 := by rw [bs_size]; omega
    have hh1 : (bs h).size ≤ 1000000 := by rw [bs_size]; omega
    have hT := folds_plain hW a.data.toList b.data.toList c.data.toList
    rw [← hsl, hX] at hT
    have HC := Lib.hid hcut
    have HT := Lib.hid hT
    have HN := Lib.hid hn1
    have HU := Lib.hid hu1
    have HH := Lib.hid hh1
    clear hcut hT hn1 hu1 hh1 hle hW hs hsl hfm hfs hff hX k1 k2 k3
    obtain ⟨wd, hwd⟩ : ∃ x, wildL m.data.toList = x := ⟨_, rfl⟩
    have HWD := Lib.hid hwd
    clear hwd
    have dn : (bs n).data.toList = n := bs_toList n
    have du : (bs u).data.toList = u := bs_toList u
    have dh : (bs h).data.toList = h := bs_toList h
    have DN := Lib.hid dn
    have DU := Lib.hid du
    have DH := Lib.hid dh
    clear dn du dh
    obtain ⟨sa, hsa⟩ : ∃ x, starredL n = x := ⟨_, rfl⟩
    obtain ⟨sb, hsb⟩ : ∃ x, starredL u = x := ⟨_, rfl⟩
    obtain ⟨sc, hsc⟩ : ∃ x, starredL h = x := ⟨_, rfl⟩
    obtain ⟨ma, hma⟩ : ∃ x, markedL n = x := ⟨_, rfl⟩
    obtain ⟨mb', hmb⟩ : ∃ x, markedL u = x := ⟨_, rfl⟩
    obtain ⟨mc, hmc⟩ : ∃ x, markedL h = x := ⟨_, rfl⟩
    obtain ⟨xa, hxa⟩ : ∃ x, mm n a.data.toList = x := ⟨_, rfl⟩
    obtain ⟨xb, hxb⟩ : ∃ x, mm u b.data.toList = x := ⟨_, rfl⟩
    obtain ⟨xc, hxc⟩ : ∃ x, mm h c.data.toList = x := ⟨_, rfl⟩
    have SA := Lib.hid hsa
    have SB := Lib.hid hsb
    have SC := Lib.hid hsc
    have MA := Lib.hid hma
    have MB := Lib.hid hmb
    have MC := Lib.hid hmc
    have XA := Lib.hid hxa
    have XB := Lib.hid hxb
    have XC := Lib.hid hxc
    clear hsa hsb hsc hma hmb hmc hxa hxb hxc
    go_enter Tryd.func12, Tryd.ntmps12
    go_wp2_with fail
    refine (awake4 _).mono ?_
    rintro e w1 ⟨rfl, q1⟩
    replace q := bjoin q hq q1; clear q1
    go_wp2_with fail
    refine (marked_any _ _ ha1).mono ?_
    rintro e w1 ⟨rfl, rfl⟩
    rw [K1.out]
    go_wp2_with fail
    refine (marked_any _ _ hb1).mono ?_
    rintro e w1 ⟨rfl, rfl⟩
    rw [K2.out]
    go_wp2_with fail
    refine (marked_any _ _ hc1).mono ?_
    rintro e w1 ⟨rfl, rfl⟩
    rw [K3.out]
    go_wp2_with fail
    rw [HS.out]
    refine (matchB _ _ _ hm1 hs1).mono ?_
    rintro e w1 ⟨rfl, q1⟩
    replace q := bjoin q hq q1; clear q1
    rw [HX.out]
    go_wp2_with fail
    refine (reftext _ _ hm1).mono ?_
    rintro e w1 ⟨rfl, q1⟩
    replace q := bjoin q hq q1; clear q1
    go_wp2_with fail
    refine (reftext _ _ hs1).mono ?_
    rintro e w1 ⟨rfl, q1⟩
    replace q := bjoin q hq q1; clear q1
    go_wp2_with fail
    refine (matchB _ _ _ HFM.out HFS.out).mono ?_
    rintro e w1 ⟨rfl, q1⟩
    replace q := bjoin q hq q1; clear q1
    rw [HFF.out]
    go_wp2_with fail
    refine (cutB_glob _ _ hm1).mono ?_
    rintro e w1 ⟨rfl, q1⟩
    replace q := bjoin q hq q1; clear q1
    rw [HC.out]
    go_wp2_with fail
    refine (wildB _ _ hm1).mono ?_
    rintro e w1 ⟨rfl, q1⟩
    replace q := bjoin q hq q1; clear q1
    rw [HWD.out]
    cases wd
    · skip
      go_wp2_with fail
      refine (marked_any _ _ HN.out).mono ?_
      rintro e w9 ⟨rfl, rfl⟩
      rw [DN.out, MA.out]
      cases ma
      rotate_left
      · go_wp2_with fail
        go_ret
        exact ⟨rfl, q⟩
      go_wp2_with fail
      refine (marked_any _ _ HU.out).mono ?_
      rintro e w9 ⟨rfl, rfl⟩
      rw [DU.out, MB.out]
      cases mb'
      rotate_left
      · go_wp2_with fail
        go_ret
        exact ⟨rfl, q⟩
      go_wp2_with fail
      refine (marked_any _ _ HH.out).mono ?_
      rintro e w9 ⟨rfl, rfl⟩
      rw [DH.out, MC.out]
      cases mc
      rotate_left
      · go_wp2_with fail
        go_ret
        exact ⟨rfl, q⟩
      have t := HT.out (.inl HWD.out) MA.out MB.out MC.out K1.out K2.out K3.out
      rw [XA.out, XB.out, XC.out] at t
      have TT := Lib.hid t
      clear t
      go_wp2_with fail
      refine (matchB _ _ _ hm1 hs1).mono ?_
      rintro e w9 ⟨rfl, q1⟩
      replace q := bjoin q hq q1; clear q1
      rw [HX.out]
      go_wp2_with fail
      refine (matchB _ _ _ HN.out ha1).mono ?_
      rintro e w9 ⟨rfl, q1⟩
      replace q := bjoin q hq q1; clear q1
      rw [DN.out, XA.out]
      cases xa
      · go_wp2_with fail
        go_ret
        exact ⟨ret_bool (by rw [TT.out]; simp), q⟩
      go_wp2_with fail
      refine (matchB _ _ _ HU.out hb1).mono ?_
      rintro e w9 ⟨rfl, q1⟩
      replace q := bjoin q hq q1; clear q1
      rw [DU.out, XB.out]
      cases xb
      · go_wp2_with fail
        go_ret
        exact ⟨ret_bool (by rw [TT.out]; simp), q⟩
      go_wp2_with fail
      refine (matchB _ _ _ HH.out hc1).mono ?_
      rintro e w9 ⟨rfl, q1⟩
      replace q := bjoin q hq q1; clear q1
      rw [DH.out, XC.out]
      go_wp2_with fail
      go_ret
      exact ⟨ret_bool (by rw [TT.out]; simp), q⟩
    · skip
      go_wp2_with fail
      refine (lstar_any _ _ HN.out).mono ?_
      rintro e w9 ⟨rfl, rfl⟩
      rw [DN.out, SA.out]
      cases sa
      rotate_left
      · go_wp2_with fail
        go_ret
        exact ⟨rfl, q⟩
      go_wp2_with fail
      refine (lstar_any _ _ HU.out).mono ?_
      rintro e w9 ⟨rfl, rfl⟩
      rw [DU.out, SB.out]
      cases sb
      rotate_left
      · go_wp2_with fail
        go_ret
        exact ⟨rfl, q⟩
      go_wp2_with fail
      refine (lstar_any _ _ HH.out).mono ?_
      rintro e w9 ⟨rfl, rfl⟩
      rw [DH.out, SC.out]
      cases sc
      rotate_left
      · go_wp2_with fail
        go_ret
        exact ⟨rfl, q⟩
      go_wp2_with fail
      refine (marked_any _ _ HN.out).mono ?_
      rintro e w9 ⟨rfl, rfl⟩
      rw [DN.out, MA.out]
      cases ma
      rotate_left
      · go_wp2_with fail
        go_ret
        exact ⟨rfl, q⟩
      go_wp2_with fail
      refine (marked_any _ _ HU.out).mono ?_
      rintro e w9 ⟨rfl, rfl⟩
      rw [DU.out, MB.out]
      cases mb'
      rotate_left
      · go_wp2_with fail
        go_ret
        exact ⟨rfl, q⟩
      go_wp2_with fail
      refine (marked_any _ _ HH.out).mono ?_
      rintro e w9 ⟨rfl, rfl⟩
      rw [DH.out, MC.out]
      cases mc
      rotate_left
      · go_wp2_with fail
        go_ret
        exact ⟨rfl, q⟩
      have t := HT.out (.inr ⟨SA.out, SB.out, SC.out⟩) MA.out MB.out MC.out K1.out K2.out K3.out
      rw [XA.out, XB.out, XC.out] at t
      have TT := Lib.hid t
      clear t
      go_wp2_with fail
      refine (matchB _ _ _ hm1 hs1).mono ?_
      rintro e w9 ⟨rfl, q1⟩
      replace q := bjoin q hq q1; clear q1
      rw [HX.out]
      go_wp2_with fail
      refine (matchB _ _ _ HN.out ha1).mono ?_
      rintro e w9 ⟨rfl, q1⟩
      replace q := bjoin q hq q1; clear q1
      rw [DN.out, XA.out]
      cases xa
      · go_wp2_with fail
        go_ret
        exact ⟨ret_bool (by rw [TT.out]; simp), q⟩
      go_wp2_with fail
      refine (matchB _ _ _ HU.out hb1).mono ?_
      rintro e w9 ⟨rfl, q1⟩
      replace q := bjoin q hq q1; clear q1
      rw [DU.out, XB.out]
      cases xb
      · go_wp2_with fail
        go_ret
        exact ⟨ret_bool (by rw [TT.out]; simp), q⟩
      go_wp2_with fail
      refine (matchB _ _ _ HH.out hc1).mono ?_
      rintro e w9 ⟨rfl, q1⟩
      replace q := bjoin q hq q1; clear q1
      rw [DH.out, XC.out]
      go_wp2_with fail
      go_ret
      exact ⟨ret_bool (by rw [TT.out]; simp), q⟩
  · have hcut := cutV_no hW
    have HC := Lib.hid hcut
    clear hcut hW hs hsl hfm hfs hff hX k1 k2 k3
    go_enter Tryd.func12, Tryd.ntmps12
    go_wp2_with fail
    refine (awake4 _).mono ?_
    rintro e w1 ⟨rfl, q1⟩
    replace q := bjoin q hq q1; clear q1
    go_wp2_with fail
    refine (marked_any _ _ ha1).mono ?_
    rintro e w1 ⟨rfl, rfl⟩
    rw [K1.out]
    go_wp2_with fail
    refine (marked_any _ _ hb1).mono ?_
    rintro e w1 ⟨rfl, rfl⟩
    rw [K2.out]
    go_wp2_with fail
    refine (marked_any _ _ hc1).mono ?_
    rintro e w1 ⟨rfl, rfl⟩
    rw [K3.out]
    go_wp2_with fail
    rw [HS.out]
    refine (matchB _ _ _ hm1 hs1).mono ?_
    rintro e w1 ⟨rfl, q1⟩
    replace q := bjoin q hq q1; clear q1
    rw [HX.out]
    go_wp2_with fail
    refine (reftext _ _ hm1).mono ?_
    rintro e w1 ⟨rfl, q1⟩
    replace q := bjoin q hq q1; clear q1
    go_wp2_with fail
    refine (reftext _ _ hs1).mono ?_
    rintro e w1 ⟨rfl, q1⟩
    replace q := bjoin q hq q1; clear q1
    go_wp2_with fail
    refine (matchB _ _ _ HFM.out HFS.out).mono ?_
    rintro e w1 ⟨rfl, q1⟩
    replace q := bjoin q hq q1; clear q1
    rw [HFF.out]
    go_wp2_with fail
    refine (cutB_glob _ _ hm1).mono ?_
    rintro e w1 ⟨rfl, q1⟩
    replace q := bjoin q hq q1; clear q1
    rw [HC.out]
    unfold noCut
    go_wp2_with fail
    go_ret
    exact ⟨rfl, q⟩

set_option maxHeartbeats 4000000 in
theorem globFolds_walk (m a b c : ByteArray) (w : World) (_hm : m.size ≤ maxLen) (_ha : a.size ≤ maxLen) (_hb : b.size ≤ maxLen) (_hc : c.size ≤ maxLen) :
    Calls Tryd.prog 12 #[.string m, .string a, .string b, .string c] w fun e w' => e = .returned (.bool true) ∧ Below w.heap.size w w' := by
  unfold maxLen at _hm _ha _hb _hc
  by_cases h : m.size ≤ 30 ∧ a.size ≤ 30 ∧ b.size ≤ 30 ∧ c.size ≤ 30
  · obtain ⟨h1, h2, h3, h4⟩ := h
    have ha1 : a.size ≤ 1000000 := by omega
    have hb1 : b.size ≤ 1000000 := by omega
    have hc1 : c.size ≤ 1000000 := by omega
    cases k1 : markedL a.data.toList with
    | true =>
      have K1 := Lib.hid k1
      clear k1
      go_enter Tryd.func12, Tryd.ntmps12
      go_wp2_with fail
      refine (awake4 _).mono ?_
      rintro e w1 ⟨rfl, q1⟩
      go_wp2_with fail
      refine (marked_any _ _ ha1).mono ?_
      rintro e w1 ⟨rfl, rfl⟩
      rw [K1.out]
      go_wp2_with fail
      go_ret
      exact ⟨rfl, q1⟩
    | false =>
      cases k2 : markedL b.data.toList with
      | true =>
        have K1 := Lib.hid k1
        have K2 := Lib.hid k2
        clear k1 k2
        go_enter Tryd.func12, Tryd.ntmps12
        go_wp2_with fail
        refine (awake4 _).mono ?_
        rintro e w1 ⟨rfl, q1⟩
        go_wp2_with fail
        refine (marked_any _ _ ha1).mono ?_
        rintro e w1 ⟨rfl, rfl⟩
        rw [K1.out]
        go_wp2_with fail
        refine (marked_any _ _ hb1).mono ?_
        rintro e w1 ⟨rfl, rfl⟩
        rw [K2.out]
        go_wp2_with fail
        go_ret
        exact ⟨rfl, q1⟩
      | false =>
        cases k3 : markedL c.data.toList with
        | true =>
          have K1 := Lib.hid k1
          have K2 := Lib.hid k2
          have K3 := Lib.hid k3
          clear k1 k2 k3
          go_enter Tryd.func12, Tryd.ntmps12
          go_wp2_with fail
          refine (awake4 _).mono ?_
          rintro e w1 ⟨rfl, q1⟩
          go_wp2_with fail
          refine (marked_any _ _ ha1).mono ?_
          rintro e w1 ⟨rfl, rfl⟩
          rw [K1.out]
          go_wp2_with fail
          refine (marked_any _ _ hb1).mono ?_
          rintro e w1 ⟨rfl, rfl⟩
          rw [K2.out]
          go_wp2_with fail
          refine (marked_any _ _ hc1).mono ?_
          rintro e w1 ⟨rfl, rfl⟩
          rw [K3.out]
          go_wp2_with fail
          go_ret
          exact ⟨rfl, q1⟩
        | false => exact globFolds_small m a b c w h1 h2 h3 h4 k1 k2 k3
  · go_enter Tryd.func12, Tryd.ntmps12
    go_wp2_with (go_at_call 32; refine (awake4 _).mono ?_; rintro e w' ⟨rfl, q1⟩)
    all_goals go_ret
    all_goals exact ⟨rfl, q1⟩
end Go.Proofs.YtoaimmojnmgelaaDoor
