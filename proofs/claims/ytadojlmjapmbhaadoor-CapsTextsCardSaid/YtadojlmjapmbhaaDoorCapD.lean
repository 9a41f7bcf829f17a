/- Layer 12: the answers' Number, bit. -/
import Derived.Test.YtadojlmjapmbhaaDoorCapC
import Derived.Laws.Rows
namespace Go.Proofs.YtadojlmjapmbhaaDoor
set_option linter.unusedVariables false
set_option linter.unusedSimpArgs false
open Go.RowKit Go.Shelf

theorem names_any (w : World) : Calls Tryd.prog 21 #[] w fun e w' => e = .returned (.agg #[.string awayB, .string echoB, .string multiB]) ∧ Below w.heap.size w w' := by
  go_enter Tryd.func21, Tryd.ntmps21
  go_wp2_with fail
  refine bodyPost_ret (results_cell_row rfl _ _ w.heap.size _ _ _ _ rfl (heap_alloc_new w _) Tryd.underlying45 rfl (by kernel_rfl)) rfl ?_
  exact ⟨rfl, (Below.refl _ _).alloc (Nat.le_refl _) _⟩
theorem name_at0 (a b c : ByteArray) (w : World) : (Instr.index 45 (.agg #[.string a, .string b, .string c]) (.int .i64 0)).run Tryd.prog w = .ok (.string a) w := by kernel_rfl
theorem name_at1 (a b c : ByteArray) (w : World) : (Instr.index 45 (.agg #[.string a, .string b, .string c]) (.int .i64 1)).run Tryd.prog w = .ok (.string b) w := by kernel_rfl
theorem name_at2 (a b c : ByteArray) (w : World) : (Instr.index 45 (.agg #[.string a, .string b, .string c]) (.int .i64 2)).run Tryd.prog w = .ok (.string c) w := by kernel_rfl

set_option maxHeartbeats 4000000 in
theorem numr_any (name : ByteArray) (w : World) :
    Calls Tryd.prog 10 #[.string name] w fun e w' => e = .returned (.int .i64 (IV (numV name.data.toList))) ∧ Below w.heap.size w w' := by
  have hc0 := name_at0; have hc1 := name_at1; have hc2 := name_at2
  go_enter Tryd.func10, Tryd.ntmps10
  go_wp2_with fail
  go_loopw [3, 4] (fun n i wr => ∃ k : Nat, k ≤ 3 ∧ i = .int .i64 k ∧ n = .int .i64 ((2 ^ k : Nat) : Int) ∧ Hid (NotIn name (knownC.take k) ∧ Below w.heap.size w wr)) (fun _ i _ => 3 - (intOf i).toNat)
  case atStart => exact ⟨0, by omega, rfl, rfl, fun x h => (by cases h), Below.refl _ _⟩
  case round =>
    obtain ⟨k, hk, rfl, rfl, HR⟩ := hrel
    rcases k with _ | _ | _ | _ | k
    · by_cases h : awayB = name
      · have q : (awayB.toList == name.toList) = true := by rw [h]; simp
        have hv : IV (numV name.data.toList) = 1 := numV_last (p0 := knownC.take 0) (x := (awayB, 1)) (r := knownC.drop 1) rfl h
        have HV := Lib.hid hv
        clear hv h
        go_wp2_with (go_at_call 21; refine (names_any _).mono ?_; rintro e w1 ⟨rfl, q1⟩; have Q1 := Lib.hid (HR.out.2.trans (q1.mono HR.out.2.size)); clear q1)
        go_ret
        exact ⟨ret_int (by rw [HV.out]; first | done | rfl), Q1.out⟩
      · have q : (awayB.toList == name.toList) = false := by rw [beq_ba, beq_eq_false_iff_ne]; exact fun e => h (ba_ext e)
        have H := Lib.hid h
        clear h
        go_wp2_with (go_at_call 21; refine (names_any _).mono ?_; rintro e w1 ⟨rfl, q1⟩; have Q1 := Lib.hid (HR.out.2.trans (q1.mono HR.out.2.size)); clear q1)
        go_roundw
        case rel => exact ⟨1, by omega, by go_num, by go_num, fun x hx => by
          have hx2 : x ∈ knownC.take 0 ∨ x = (awayB, 1) := by simpa [knownC, or_assoc] using hx
          rcases hx2 with hx2 | rfl
          · exact HR.out.1 x hx2
          · exact H.out, Q1.out⟩
        case measure => simp [intOf]
    · by_cases h : echoB = name
      · have q : (echoB.toList == name.toList) = true := by rw [h]; simp
        have hv : IV (numV name.data.toList) = 2 := numV_last (p0 := knownC.take 1) (x := (echoB, 2)) (r := knownC.drop 2) rfl h
        have HV := Lib.hid hv
        clear hv h
        go_wp2_with (go_at_call 21; refine (names_any _).mono ?_; rintro e w1 ⟨rfl, q1⟩; have Q1 := Lib.hid (HR.out.2.trans (q1.mono HR.out.2.size)); clear q1)
        go_ret
        exact ⟨ret_int (by rw [HV.out]; first | done | rfl), Q1.out⟩
      · have q : (echoB.toList == name.toList) = false := by rw [beq_ba, beq_eq_false_iff_ne]; exact fun e => h (ba_ext e)
        have H := Lib.hid h
        clear h
        go_wp2_with (go_at_call 21; refine (names_any _).mono ?_; rintro e w1 ⟨rfl, q1⟩; have Q1 := Lib.hid (HR.out.2.trans (q1.mono HR.out.2.size)); clear q1)
        go_roundw
        case rel => exact ⟨2, by omega, by go_num, by go_num, fun x hx => by
          have hx2 : x ∈ knownC.take 1 ∨ x = (echoB, 2) := by simpa [knownC, or_assoc] using hx
          rcases hx2 with hx2 | rfl
          · exact HR.out.1 x hx2
          · exact H.out, Q1.out⟩
        case measure => simp [intOf]
    · by_cases h : multiB = name
      · have q : (multiB.toList == name.toList) = true := by rw [h]; simp
        have hv : IV (numV name.data.toList) = 4 := numV_last (p0 := knownC.take 2) (x := (multiB, 4)) (r := knownC.drop 3) rfl h
        have HV := Lib.hid hv
        clear hv h
        go_wp2_with (go_at_call 21; refine (names_any _).mono ?_; rintro e w1 ⟨rfl, q1⟩; have Q1 := Lib.hid (HR.out.2.trans (q1.mono HR.out.2.size)); clear q1)
        go_ret
        exact ⟨ret_int (by rw [HV.out]; first | done | rfl), Q1.out⟩
      · have q : (multiB.toList == name.toList) = false := by rw [beq_ba, beq_eq_false_iff_ne]; exact fun e => h (ba_ext e)
        have H := Lib.hid h
        clear h
        go_wp2_with (go_at_call 21; refine (names_any _).mono ?_; rintro e w1 ⟨rfl, q1⟩; have Q1 := Lib.hid (HR.out.2.trans (q1.mono HR.out.2.size)); clear q1)
        go_roundw
        case rel => exact ⟨3, by omega, by go_num, by go_num, fun x hx => by
          have hx2 : x ∈ knownC.take 2 ∨ x = (multiB, 4) := by simpa [knownC, or_assoc] using hx
          rcases hx2 with hx2 | rfl
          · exact HR.out.1 x hx2
          · exact H.out, Q1.out⟩
        case measure => simp [intOf]
    · go_wp2_with fail
      have hv := numV_none (name := name) HR.out.1
      go_ret
      exact ⟨ret_int (by rw [hv]; rfl), HR.out.2⟩
    · omega
theorem bit_any (v m : BitVec 64) (w : World) :
    Calls Tryd.prog 20 #[.int .i64 (IV v), .int .i64 (IV m)] w fun e w' => e = .returned (.bool ((v &&& m) == m)) ∧ w = w' := by
  have hb := bits_and_v v m
  have he := IV_beq (v &&& m) m
  obtain ⟨b, hbb⟩ : ∃ b, ((v &&& m) == m) = b := ⟨_, rfl⟩
  rw [hbb] at he ⊢
  clear hbb
  go_enter Tryd.func20, Tryd.ntmps20
  go_wp2_with fail
  go_ret
  exact ⟨ret_bool (by first | exact he | simp [he]), rfl⟩
end Go.Proofs.YtadojlmjapmbhaaDoor
