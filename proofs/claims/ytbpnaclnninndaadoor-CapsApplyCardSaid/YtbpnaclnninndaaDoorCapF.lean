/- Layer 12: awake; the walks of CapsApply, CapsTwo. -/
import Derived.Test.YtbpnaclnninndaaDoorCapE
namespace Go.Proofs.YtbpnaclnninndaaDoor
set_option linter.unusedVariables false
set_option linter.unusedSimpArgs false
open Go.RowKit Go.Shelf

theorem IV_of (n : Int) (h : (Lit.int .i64 n).wf = true) : IV (BitVec.ofInt 64 n) = n := by
  simp only [Lit.wf, IntKind.has, Bool.and_eq_true, decide_eq_true_eq] at h
  have h1 : -9223372036854775808 ≤ n := h.1
  have h2 : n ≤ 9223372036854775807 := h.2
  unfold IV
  rw [BitVec.toInt_ofInt]
  simp only [Int.bmod]
  omega
theorem bjc {B : Nat} {w w1 w2 : World} (h : Below B w w1) (hB : B ≤ w1.heap.size) (k : Below w1.heap.size w1 w2) : Below B w w2 := h.trans (k.mono hB)
def awakeS : ByteArray := ⟨#[97, 119, 97, 121, 45, 110, 111, 116, 105, 102, 121, 32, 45, 101, 99, 104, 111, 45, 109, 101, 115, 115, 97, 103, 101]⟩
theorem awake12 (w : World) (hK : Known w) : Calls Tryd.prog 9 #[] w fun e w' => e = .returned (.bool true) ∧ Below w.heap.size w w' := by
  have hA := apply_any 2#64 awakeS w (by decide) hK
  rw [show capV 2#64 awakeS.data.toList = (1#64, true) by decide +kernel, show IV 2#64 = 2 by decide +kernel] at hA
  simp only at hA
  rw [show IV 1#64 = 1 by decide +kernel] at hA
  go_enter Tryd.func9, Tryd.ntmps9
  go_wp2_with (go_at_call 10; refine hA.mono ?_; rintro e w1 ⟨rfl, q1⟩; have Q1 := Lib.hid q1; clear q1)
  go_ret
  exact ⟨rfl, Q1.out⟩

set_option maxHeartbeats 4000000 in
theorem capsApply_walk (n : Int) (s : ByteArray) (w : World) (hn : (Lit.int .i64 n).wf = true) (hs : s.size ≤ maxLen) (hK : Known w) :
    Calls Tryd.prog 3 #[.int .i64 n, .string s] w fun e w' => e = .returned (.bool true) ∧ Below w.heap.size w w' := by
  unfold maxLen at hs
  obtain ⟨h, hh⟩ : ∃ h, IV h = n := ⟨_, IV_of n hn⟩
  subst hh
  clear hn
  have HK := Lib.hid hK
  clear hK
  by_cases hb : 100 < s.size
  · have p1 : (s.size : Int) > 100 := by omega
    clear hb
    go_enter Tryd.func3, Tryd.ntmps3
    go_wp2_with fail
    go_at_call 9
    refine (awake12 _ HK.out).mono ?_
    rintro e w1 ⟨rfl, q1⟩
    have Q1 := Lib.hid q1
    clear q1
    go_wp2_with fail
    go_ret
    exact ⟨rfl, Q1.out⟩
  · have p1 : ¬ ((s.size : Int) > 100) := by omega
    have hA : ∀ W, Known W → Calls Tryd.prog 10 #[.int .i64 (IV h), .string s] W fun e w' => e = .returned (.tuple #[.int .i64 (IV (capV h s.data.toList).1), .bool (capV h s.data.toList).2]) ∧ Below W.heap.size W w' := fun W hk => apply_any h s W (by omega) hk
    have hR : ∀ W, Calls Tryd.prog 11 #[.int .i64 (IV h), .string s] W fun e w' => e = .returned (.tuple #[.int .i64 (IV (capV h s.data.toList).1), .bool (capV h s.data.toList).2]) ∧ Below W.heap.size W w' := fun W => applyr_any h s W (by omega)
    have hA2 : ∀ W, Known W → Calls Tryd.prog 10 #[.int .i64 (IV (capV h s.data.toList).1), .string s] W fun e w' => e = .returned (.tuple #[.int .i64 (IV (capV h s.data.toList).1), .bool (capV h s.data.toList).2]) ∧ Below W.heap.size W w' := fun W hk => by
      have := apply_any (capV h s.data.toList).1 s W (by omega) hk
      rw [cap_again] at this
      exact this
    obtain ⟨⟨c, b⟩, hc⟩ : ∃ y, capV h s.data.toList = y := ⟨_, rfl⟩
    rw [hc] at hA hR hA2
    simp only at hA hR hA2
    clear hb hc
    go_enter Tryd.func3, Tryd.ntmps3
    go_wp2_with fail
    go_at_call 9
    refine (awake12 _ HK.out).mono ?_
    rintro e w1 ⟨rfl, q1⟩
    have Q1 : Hid (Below w.heap.size w w1 ∧ Known w1) := ⟨q1, HK.out.kept q1⟩
    clear q1
    go_wp2_with fail
    go_at_call 10
    refine (hA _ Q1.out.2).mono ?_
    rintro e w2 ⟨rfl, q2⟩
    have Q2 : Hid (Below w.heap.size w w2 ∧ Known w2) := ⟨bjc Q1.out.1 Q1.out.1.size q2, Q1.out.2.kept q2⟩
    clear q2 hA
    go_wp2_with fail
    go_at_call 11
    refine (hR _).mono ?_
    rintro e w3 ⟨rfl, q3⟩
    have Q3 : Hid (Below w.heap.size w w3 ∧ Known w3) := ⟨bjc Q2.out.1 Q2.out.1.size q3, Q2.out.2.kept q3⟩
    clear q3 hR
    go_wp2_with fail
    go_at_call 10
    refine (hA2 _ Q3.out.2).mono ?_
    rintro e w4 ⟨rfl, q4⟩
    have Q4 := Lib.hid (bjc Q3.out.1 Q3.out.1.size q4)
    clear q4 hA2
    have e1 : (IV c == IV c) = true := by simp
    have e2 : (b == b) = true := by simp
    go_wp2_with fail
    go_ret
    exact ⟨ret_bool (by simp), Q4.out⟩

set_option maxHeartbeats 8000000 in
theorem capsTwo_walk (n : Int) (s t : ByteArray) (w : World) (hn : (Lit.int .i64 n).wf = true) (hs : s.size ≤ maxLen) (ht : t.size ≤ maxLen) (hK : Known w) :
    Calls Tryd.prog 5 #[.int .i64 n, .string s, .string t] w fun e w' => e = .returned (.bool true) ∧ Below w.heap.size w w' := by
  unfold maxLen at hs ht
  obtain ⟨h, hh⟩ : ∃ h, IV h = n := ⟨_, IV_of n hn⟩
  subst hh
  clear hn
  have HK := Lib.hid hK
  clear hK
  by_cases hb : 60 < s.size ∨ 60 < t.size
  · by_cases hb1 : 60 < s.size
    all_goals
      first
        | have p1 : (s.size : Int) > 60 := by omega
        | (have p1 : ¬ ((s.size : Int) > 60) := by omega
           have p2 : (t.size : Int) > 60 := by omega)
      clear hb hb1
      go_enter Tryd.func5, Tryd.ntmps5
      go_wp2_with fail
      go_at_call 9
      refine (awake12 _ HK.out).mono ?_
      rintro e w1 ⟨rfl, q1⟩
      have Q1 := Lib.hid q1
      clear q1
      go_wp2_with fail
      go_ret
      exact ⟨rfl, Q1.out⟩
  · have p1 : ¬ ((s.size : Int) > 60) := by omega
    have p2 : ¬ ((t.size : Int) > 60) := by omega
    have hcat : (s ++ ⟨#[32]⟩ ++ t : ByteArray).data.toList = s.data.toList ++ 32 :: t.data.toList := by simp
    have h32 : (⟨#[32]⟩ : ByteArray).size = 1 := rfl
    have hcs : (s ++ ⟨#[32]⟩ ++ t : ByteArray).size ≤ 1000000 := by
      rw [ByteArray.size_append, ByteArray.size_append, h32]; omega
    have hcs0 : (s ++ ⟨#[32]⟩ : ByteArray).size ≤ 1000000 := by rw [ByteArray.size_append, h32]; omega
    have hA : ∀ W, Known W → Calls Tryd.prog 10 #[.int .i64 (IV h), .string s] W fun e w' => e = .returned (.tuple #[.int .i64 (IV (capV h s.data.toList).1), .bool (capV h s.data.toList).2]) ∧ Below W.heap.size W w' := fun W hk => apply_any h s W (by omega) hk
    have hB : ∀ W, Known W → Calls Tryd.prog 10 #[.int .i64 (IV (capV h s.data.toList).1), .string t] W fun e w' => e = .returned (.tuple #[.int .i64 (IV (capV (capV h s.data.toList).1 t.data.toList).1), .bool (capV (capV h s.data.toList).1 t.data.toList).2]) ∧ Below W.heap.size W w' := fun W hk => apply_any _ t W (by omega) hk
    have hC : ∀ W, Known W → Calls Tryd.prog 10 #[.int .i64 (IV h), .string (s ++ ⟨#[32]⟩ ++ t)] W fun e w' => e = .returned (.tuple #[.int .i64 (IV (capV h (s.data.toList ++ 32 :: t.data.toList)).1), .bool (capV h (s.data.toList ++ 32 :: t.data.toList)).2]) ∧ Below W.heap.size W w' := fun W hk => by
      have := apply_any h (s ++ ⟨#[32]⟩ ++ t) W hcs hk
      rw [hcat] at this
      exact this
    obtain ⟨t1, t2, t3, t4⟩ := cap_two h s.data.toList t.data.toList
    obtain ⟨⟨x, p⟩, hx⟩ : ∃ y, capV h s.data.toList = y := ⟨_, rfl⟩
    rw [hx] at hA hB t1 t2 t3 t4
    simp only at hA hB t1 t2 t3 t4
    obtain ⟨⟨y, q⟩, hy⟩ : ∃ z, capV x t.data.toList = z := ⟨_, rfl⟩
    rw [hy] at hB t1 t2 t4
    simp only at hB t1 t2 t4
    obtain ⟨⟨z, r⟩, hz⟩ : ∃ z, capV h (s.data.toList ++ 32 :: t.data.toList) = z := ⟨_, rfl⟩
    rw [hz] at hC t1 t2
    simp only at hC
    clear hx hy hz hb hcat h32
    cases p <;> cases q
    · obtain rfl : x = h := t3 rfl
      obtain rfl : y = x := t4 rfl
      obtain ⟨rfl, rfl⟩ : z = y ∧ r = false := by have := t2 (by simp); simpa using this
      clear t1 t2 t3 t4
      go_enter Tryd.func5, Tryd.ntmps5
      go_wp2_with fail
      go_at_call 9
      refine (awake12 _ HK.out).mono ?_
      rintro e w1 ⟨rfl, q1⟩
      have Q1 : Hid (Below w.heap.size w w1 ∧ Known w1) := ⟨q1, HK.out.kept q1⟩
      clear q1
      go_wp2_with fail
      go_at_call 10
      refine (hA _ Q1.out.2).mono ?_
      rintro e w2 ⟨rfl, q2⟩
      have Q2 : Hid (Below w.heap.size w w2 ∧ Known w2) := ⟨bjc Q1.out.1 Q1.out.1.size q2, Q1.out.2.kept q2⟩
      clear q2 hA
      go_wp2_with fail
      go_at_call 10
      refine (hB _ Q2.out.2).mono ?_
      rintro e w3 ⟨rfl, q3⟩
      have Q3 : Hid (Below w.heap.size w w3 ∧ Known w3) := ⟨bjc Q2.out.1 Q2.out.1.size q3, Q2.out.2.kept q3⟩
      clear q3 hB
      go_wp2_with fail
      go_at_call 10
      refine (hC _ Q3.out.2).mono ?_
      rintro e w4 ⟨rfl, q4⟩
      have Q4 := Lib.hid (bjc Q3.out.1 Q3.out.1.size q4)
      clear q4 hC
      go_wp2_with fail
      go_ret
      exact ⟨ret_bool (by simp), Q4.out⟩
    · obtain rfl : x = h := t3 rfl
      obtain ⟨rfl, rfl⟩ : z = x ∧ r = false := by have := t2 (by simp); simpa using this
      clear t1 t2 t3 t4
      go_enter Tryd.func5, Tryd.ntmps5
      go_wp2_with fail
      go_at_call 9
      refine (awake12 _ HK.out).mono ?_
      rintro e w1 ⟨rfl, q1⟩
      have Q1 : Hid (Below w.heap.size w w1 ∧ Known w1) := ⟨q1, HK.out.kept q1⟩
      clear q1
      go_wp2_with fail
      go_at_call 10
      refine (hA _ Q1.out.2).mono ?_
      rintro e w2 ⟨rfl, q2⟩
      have Q2 : Hid (Below w.heap.size w w2 ∧ Known w2) := ⟨bjc Q1.out.1 Q1.out.1.size q2, Q1.out.2.kept q2⟩
      clear q2 hA
      go_wp2_with fail
      go_at_call 10
      refine (hB _ Q2.out.2).mono ?_
      rintro e w3 ⟨rfl, q3⟩
      have Q3 : Hid (Below w.heap.size w w3 ∧ Known w3) := ⟨bjc Q2.out.1 Q2.out.1.size q3, Q2.out.2.kept q3⟩
      clear q3 hB
      go_wp2_with fail
      go_at_call 10
      refine (hC _ Q3.out.2).mono ?_
      rintro e w4 ⟨rfl, q4⟩
      have Q4 := Lib.hid (bjc Q3.out.1 Q3.out.1.size q4)
      clear q4 hC
      go_wp2_with fail
      go_ret
      exact ⟨ret_bool (by simp), Q4.out⟩
    · obtain rfl : y = x := t4 rfl
      obtain ⟨rfl, rfl⟩ : z = h ∧ r = false := by have := t2 (by simp); simpa using this
      clear t1 t2 t3 t4
      go_enter Tryd.func5, Tryd.ntmps5
      go_wp2_with fail
      go_at_call 9
      refine (awake12 _ HK.out).mono ?_
      rintro e w1 ⟨rfl, q1⟩
      have Q1 : Hid (Below w.heap.size w w1 ∧ Known w1) := ⟨q1, HK.out.kept q1⟩
      clear q1
      go_wp2_with fail
      go_at_call 10
      refine (hA _ Q1.out.2).mono ?_
      rintro e w2 ⟨rfl, q2⟩
      have Q2 : Hid (Below w.heap.size w w2 ∧ Known w2) := ⟨bjc Q1.out.1 Q1.out.1.size q2, Q1.out.2.kept q2⟩
      clear q2 hA
      go_wp2_with fail
      go_at_call 10
      refine (hB _ Q2.out.2).mono ?_
      rintro e w3 ⟨rfl, q3⟩
      have Q3 : Hid (Below w.heap.size w w3 ∧ Known w3) := ⟨bjc Q2.out.1 Q2.out.1.size q3, Q2.out.2.kept q3⟩
      clear q3 hB
      go_wp2_with fail
      go_at_call 10
      refine (hC _ Q3.out.2).mono ?_
      rintro e w4 ⟨rfl, q4⟩
      have Q4 := Lib.hid (bjc Q3.out.1 Q3.out.1.size q4)
      clear q4 hC
      go_wp2_with fail
      go_ret
      exact ⟨ret_bool (by simp), Q4.out⟩
    · obtain ⟨rfl, rfl⟩ : z = y ∧ r = true := by have := t1 (by simp); simpa using this
      clear t1 t2 t3 t4
      go_enter Tryd.func5, Tryd.ntmps5
      go_wp2_with fail
      go_at_call 9
      refine (awake12 _ HK.out).mono ?_
      rintro e w1 ⟨rfl, q1⟩
      have Q1 : Hid (Below w.heap.size w w1 ∧ Known w1) := ⟨q1, HK.out.kept q1⟩
      clear q1
      go_wp2_with fail
      go_at_call 10
      refine (hA _ Q1.out.2).mono ?_
      rintro e w2 ⟨rfl, q2⟩
      have Q2 : Hid (Below w.heap.size w w2 ∧ Known w2) := ⟨bjc Q1.out.1 Q1.out.1.size q2, Q1.out.2.kept q2⟩
      clear q2 hA
      go_wp2_with fail
      go_at_call 10
      refine (hB _ Q2.out.2).mono ?_
      rintro e w3 ⟨rfl, q3⟩
      have Q3 : Hid (Below w.heap.size w w3 ∧ Known w3) := ⟨bjc Q2.out.1 Q2.out.1.size q3, Q2.out.2.kept q3⟩
      clear q3 hB
      go_wp2_with fail
      go_at_call 10
      refine (hC _ Q3.out.2).mono ?_
      rintro e w4 ⟨rfl, q4⟩
      have Q4 := Lib.hid (bjc Q3.out.1 Q3.out.1.size q4)
      clear q4 hC
      go_wp2_with fail
      go_ret
      exact ⟨ret_bool (by simp), Q4.out⟩
end Go.Proofs.YtbpnaclnninndaaDoor
