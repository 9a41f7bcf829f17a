/- Layer 15: the answers' Check; both under one answer; Usual; ConfigChecks, ConfigBounds, walked. -/
import Derived.Test.YtbpnaclnninndaaDoorConfB
namespace Go.Proofs.YtbpnaclnninndaaDoor
set_option linter.unusedVariables false
set_option linter.unusedSimpArgs false
open Go.RowKit

/-- what any configuration is told of -/
noncomputable def chkA (nm ps on op : ByteArray) (n0 n1 n2 n3 n4 n5 n6 n7 n8 n9 n10 : Int) : Int := if (dec (ServP nm) && dec (PassP ps) && dec (PassP on) && dec (PassP op) && (on.toList.isEmpty == op.toList.isEmpty)) = true then chkN n0 n1 n2 n3 n4 n5 n6 n7 n8 n9 n10 else 4
theorem check_v (nm ps on op : ByteArray) (n0 n1 n2 n3 n4 n5 n6 n7 n8 n9 n10 : Int) (w : World) (hr : Rowed w) (h1 : nm.size ≤ 1000000) (h2 : ps.size ≤ 1000000) (h3 : on.size ≤ 1000000) (h4 : op.size ≤ 1000000) :
    Calls Tryd.prog 20 #[cfg nm ps on op n0 n1 n2 n3 n4 n5 n6 n7 n8 n9 n10] w fun e w' => e = .returned (.int .i64 (chkA nm ps on op n0 n1 n2 n3 n4 n5 n6 n7 n8 n9 n10)) ∧ Below w.heap.size w w' := by
  by_cases h : (dec (ServP nm) && dec (PassP ps) && dec (PassP on) && dec (PassP op) && (on.toList.isEmpty == op.toList.isEmpty)) = true
  · rw [show chkA nm ps on op n0 n1 n2 n3 n4 n5 n6 n7 n8 n9 n10 = chkN n0 n1 n2 n3 n4 n5 n6 n7 n8 n9 n10 from if_pos h]
    simp only [Bool.and_eq_true] at h
    exact check_nums nm ps on op n0 n1 n2 n3 n4 n5 n6 n7 n8 n9 n10 w hr h1 h2 h3 h4 h.1.1.1.1 h.1.1.1.2 h.1.1.2 h.1.2 h.2
  · rw [show chkA nm ps on op n0 n1 n2 n3 n4 n5 n6 n7 n8 n9 n10 = 4 from if_neg h]
    exact check_texts nm ps on op n0 n1 n2 n3 n4 n5 n6 n7 n8 n9 n10 w hr h1 h2 h3 h4 (by simpa using h)

set_option maxRecDepth 100000 in
set_option maxHeartbeats 16000000 in
theorem check_r (nm ps on op : ByteArray) (n0 n1 n2 n3 n4 n5 n6 n7 n8 n9 n10 : Int) (w : World) (h1 : nm.size ≤ 1000000) (h2 : ps.size ≤ 1000000) (h3 : on.size ≤ 1000000) (h4 : op.size ≤ 1000000) :
    Calls Tryd.prog 21 #[cfg nm ps on op n0 n1 n2 n3 n4 n5 n6 n7 n8 n9 n10] w fun e w' => e = .returned (.int .i64 (chkA nm ps on op n0 n1 n2 n3 n4 n5 n6 n7 n8 n9 n10)) ∧ Below w.heap.size w w' := by
  have hdef : chkA nm ps on op n0 n1 n2 n3 n4 n5 n6 n7 n8 n9 n10 = if (dec (ServP nm) && dec (PassP ps) && dec (PassP on) && dec (PassP op) && (on.toList.isEmpty == op.toList.isEmpty)) = true then chkN n0 n1 n2 n3 n4 n5 n6 n7 n8 n9 n10 else 4 := rfl
  have hn : chkN n0 n1 n2 n3 n4 n5 n6 n7 n8 n9 n10 = if numsB n0 n1 n2 n3 n4 n5 n6 n7 n8 n9 n10 then 0 else 2 := rfl
  unfold cfg
  obtain ⟨res, hres⟩ : ∃ x, chkA nm ps on op n0 n1 n2 n3 n4 n5 n6 n7 n8 n9 n10 = x := ⟨_, rfl⟩
  rw [hres] at hdef ⊢
  obtain ⟨sv, hsv⟩ : ∃ x, dec (ServP nm) = x := ⟨_, rfl⟩
  obtain ⟨pa, hpa⟩ : ∃ x, dec (PassP ps) = x := ⟨_, rfl⟩
  obtain ⟨po, hpo⟩ : ∃ x, dec (PassP on) = x := ⟨_, rfl⟩
  obtain ⟨pp, hpp⟩ : ∃ x, dec (PassP op) = x := ⟨_, rfl⟩
  obtain ⟨eo, heo⟩ : ∃ x, on.toList.isEmpty = x := ⟨_, rfl⟩
  obtain ⟨ep, hep⟩ : ∃ x, op.toList.isEmpty = x := ⟨_, rfl⟩
  rw [hsv, hpa, hpo, hpp, heo, hep, hn] at hdef
  have SV := Lib.hid hsv
  have PA := Lib.hid hpa
  have PO := Lib.hid hpo
  have PP := Lib.hid hpp
  have HD := Lib.hid hdef
  clear hsv hpa hpo hpp hdef hn hres
  go_enter Tryd.func21, Tryd.ntmps21
  go_wp2_with fail
  refine (serv_r _ _ h1).mono ?_
  rintro e w1 ⟨rfl, rfl⟩
  rw [SV.out]
  cases sv
  · go_wp2_with fail
    go_ret
    exact ⟨ret_int (by rw [HD.out]; rfl), (Below.refl _ _).alloc (Nat.le_refl _) _⟩
  go_wp2_with fail
  refine (pass_r _ _ h2).mono ?_
  rintro e w1 ⟨rfl, rfl⟩
  rw [PA.out]
  cases pa
  · go_wp2_with fail
    go_ret
    exact ⟨ret_int (by rw [HD.out]; rfl), (Below.refl _ _).alloc (Nat.le_refl _) _⟩
  go_wp2_with fail
  refine (pass_r _ _ h3).mono ?_
  rintro e w1 ⟨rfl, rfl⟩
  rw [PO.out]
  cases po
  · go_wp2_with fail
    go_ret
    exact ⟨ret_int (by rw [HD.out]; rfl), (Below.refl _ _).alloc (Nat.le_refl _) _⟩
  go_wp2_with fail
  refine (pass_r _ _ h4).mono ?_
  rintro e w1 ⟨rfl, rfl⟩
  rw [PP.out]
  cases pp
  · go_wp2_with fail
    go_ret
    exact ⟨ret_int (by rw [HD.out]; rfl), (Below.refl _ _).alloc (Nat.le_refl _) _⟩
  cases eo <;> cases ep
  · go_wp2_with (go_at_call 36; refine (in_r _ _ _ _).mono ?_; rintro e w' ⟨rfl, rfl⟩)
    all_goals go_ret
    all_goals exact ⟨ret_int (by rw [HD.out]; unfold numsB; clear HD SV PA PO PP; simp_all), (Below.refl _ _).alloc (Nat.le_refl _) _⟩
  · go_wp2_with fail
    go_ret
    exact ⟨ret_int (by rw [HD.out]; rfl), (Below.refl _ _).alloc (Nat.le_refl _) _⟩
  · go_wp2_with fail
    go_ret
    exact ⟨ret_int (by rw [HD.out]; rfl), (Below.refl _ _).alloc (Nat.le_refl _) _⟩
  · go_wp2_with (go_at_call 36; refine (in_r _ _ _ _).mono ?_; rintro e w' ⟨rfl, rfl⟩)
    all_goals go_ret
    all_goals exact ⟨ret_int (by rw [HD.out]; unfold numsB; clear HD SV PA PO PP; simp_all), (Below.refl _ _).alloc (Nat.le_refl _) _⟩
end Go.Proofs.YtbpnaclnninndaaDoor
