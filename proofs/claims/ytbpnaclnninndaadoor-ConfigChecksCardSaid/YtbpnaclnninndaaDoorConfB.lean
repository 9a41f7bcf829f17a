/- Layer 15: Check on both sides. -/
import Derived.Test.YtbpnaclnninndaaDoorConfA
namespace Go.Proofs.YtbpnaclnninndaaDoor
set_option linter.unusedVariables false
set_option linter.unusedSimpArgs false
open Go.RowKit

/-- a configuration, as a value -/
def cfg (nm ps on op : ByteArray) (n0 n1 n2 n3 n4 n5 n6 n7 n8 n9 n10 : Int) : Value := .agg #[.string nm, .string ps, .string on, .string op, .int .i64 n0, .int .i64 n1, .int .i64 n2, .int .i64 n3, .int .i64 n4, .int .i64 n5, .int .i64 n6, .int .i64 n7, .int .i64 n8, .int .i64 n9, .int .i64 n10]
/-- may all numbers be as they are? -/
def numsB (n0 n1 n2 n3 n4 n5 n6 n7 n8 n9 n10 : Int) : Bool := inR n0 1 1000 && inR n1 512 65536 && inR n2 1 1000 && inR n3 1 1000 && inR n4 1 1000 && inR n5 1 1000 && inR n6 1 1000 && inR n7 0 1000 && inR n8 1 1000000 && inR n9 1 1000000 && inR n10 1 1000000
/-- the numbers' own answers, one by one -/
def numsL (n0 n1 n2 n3 n4 n5 n6 n7 n8 n9 n10 : Int) : List Bool := [inR n0 1 1000, inR n1 512 65536, inR n2 1 1000, inR n3 1 1000, inR n4 1 1000, inR n5 1 1000, inR n6 1 1000, inR n7 0 1000, inR n8 1 1000000, inR n9 1 1000000, inR n10 1 1000000]
theorem nums_all (n0 n1 n2 n3 n4 n5 n6 n7 n8 n9 n10 : Int) : numsB n0 n1 n2 n3 n4 n5 n6 n7 n8 n9 n10 = (numsL n0 n1 n2 n3 n4 n5 n6 n7 n8 n9 n10).all id := by
  simp [numsB, numsL, Bool.and_assoc]
theorem nums_no {n0 n1 n2 n3 n4 n5 n6 n7 n8 n9 n10 : Int} {k : Nat} (h : (numsL n0 n1 n2 n3 n4 n5 n6 n7 n8 n9 n10)[k]? = some false) : numsB n0 n1 n2 n3 n4 n5 n6 n7 n8 n9 n10 = false := by
  rw [nums_all, List.all_eq_false]
  exact ⟨false, List.mem_of_getElem? h, by simp⟩
theorem nums_yes {n0 n1 n2 n3 n4 n5 n6 n7 n8 n9 n10 : Int} (h : ∀ k, k < 11 → (numsL n0 n1 n2 n3 n4 n5 n6 n7 n8 n9 n10)[k]? = some true) : numsB n0 n1 n2 n3 n4 n5 n6 n7 n8 n9 n10 = true := by
  rw [nums_all, List.all_eq_true]
  intro x hx
  obtain ⟨k, hk⟩ := List.mem_iff_getElem?.1 hx
  have hl : k < 11 := by
    have := (List.getElem?_eq_some_iff.1 hk).1
    simpa [numsL] using this
  rw [h k hl] at hk
  cases hk
  rfl
/-- what the numbers are told of -/
def chkN (n0 n1 n2 n3 n4 n5 n6 n7 n8 n9 n10 : Int) : Int := if numsB n0 n1 n2 n3 n4 n5 n6 n7 n8 n9 n10 then 0 else 2
theorem chkN_yes {n0 n1 n2 n3 n4 n5 n6 n7 n8 n9 n10 : Int} (h : numsB n0 n1 n2 n3 n4 n5 n6 n7 n8 n9 n10 = true) : 0 = chkN n0 n1 n2 n3 n4 n5 n6 n7 n8 n9 n10 := by unfold chkN; rw [if_pos h]
theorem chkN_no {n0 n1 n2 n3 n4 n5 n6 n7 n8 n9 n10 : Int} {k : Nat} (h : (numsL n0 n1 n2 n3 n4 n5 n6 n7 n8 n9 n10)[k]? = some false) : 2 = chkN n0 n1 n2 n3 n4 n5 n6 n7 n8 n9 n10 := by unfold chkN; rw [nums_no h]; rfl
theorem inR_yes {n a b : Int} (h1 : a ≤ n) (h2 : n ≤ b) : some (inR n a b) = some true := by rw [show inR n a b = true from decide_eq_true ⟨h1, h2⟩]
theorem inR_no {n a b : Int} (h : ¬ (a ≤ n ∧ n ≤ b)) : some (inR n a b) = some false := by rw [show inR n a b = false from decide_eq_false h]
/-- what a configuration is told of -/
def chkI (sv pa po pp eo ep r : Bool) : Int := if sv && pa && po && pp && (eo == ep) then (if r then 0 else 2) else 4

set_option maxRecDepth 100000 in
set_option maxHeartbeats 8000000 in
theorem check_texts (nm ps on op : ByteArray) (n0 n1 n2 n3 n4 n5 n6 n7 n8 n9 n10 : Int) (w : World) (hr : Rowed w) (h1 : nm.size ≤ 1000000) (h2 : ps.size ≤ 1000000) (h3 : on.size ≤ 1000000) (h4 : op.size ≤ 1000000)
    (hno : (dec (ServP nm) && dec (PassP ps) && dec (PassP on) && dec (PassP op) && (on.toList.isEmpty == op.toList.isEmpty)) = false) :
    Calls Tryd.prog 20 #[cfg nm ps on op n0 n1 n2 n3 n4 n5 n6 n7 n8 n9 n10] w fun e w' => e = .returned (.int .i64 4) ∧ Below w.heap.size w w' := by
  unfold cfg
  obtain ⟨sv, hsv⟩ : ∃ x, dec (ServP nm) = x := ⟨_, rfl⟩
  obtain ⟨pa, hpa⟩ : ∃ x, dec (PassP ps) = x := ⟨_, rfl⟩
  obtain ⟨po, hpo⟩ : ∃ x, dec (PassP on) = x := ⟨_, rfl⟩
  obtain ⟨pp, hpp⟩ : ∃ x, dec (PassP op) = x := ⟨_, rfl⟩
  have hr1 : Rowed (w.alloc (.cells #[.string nm, .string ps, .string on, .string op, .int .i64 n0, .int .i64 n1, .int .i64 n2, .int .i64 n3, .int .i64 n4, .int .i64 n5, .int .i64 n6, .int .i64 n7, .int .i64 n8, .int .i64 n9, .int .i64 n10] 34)) := rowed_below hr (Nat.le_refl _) ((Below.refl _ _).alloc (Nat.le_refl _) _)
  rw [hsv, hpa, hpo, hpp] at hno
  have SV := Lib.hid hsv
  have PA := Lib.hid hpa
  have PO := Lib.hid hpo
  have PP := Lib.hid hpp
  clear hsv hpa hpo hpp
  go_enter Tryd.func20, Tryd.ntmps20
  go_wp2_with fail
  refine (serv_v _ _ h1 hr1).mono ?_
  rintro e w1 ⟨rfl, rfl⟩
  rw [SV.out]
  cases sv
  · go_wp2_with fail
    go_ret
    exact ⟨rfl, (Below.refl _ _).alloc (Nat.le_refl _) _⟩
  go_wp2_with fail
  refine (pass_v _ _ h2).mono ?_
  rintro e w1 ⟨rfl, rfl⟩
  rw [PA.out]
  cases pa
  · go_wp2_with fail
    go_ret
    exact ⟨rfl, (Below.refl _ _).alloc (Nat.le_refl _) _⟩
  go_wp2_with fail
  refine (pass_v _ _ h3).mono ?_
  rintro e w1 ⟨rfl, rfl⟩
  rw [PO.out]
  cases po
  · go_wp2_with fail
    go_ret
    exact ⟨rfl, (Below.refl _ _).alloc (Nat.le_refl _) _⟩
  go_wp2_with fail
  refine (pass_v _ _ h4).mono ?_
  rintro e w1 ⟨rfl, rfl⟩
  rw [PP.out]
  cases pp
  · go_wp2_with fail
    go_ret
    exact ⟨rfl, (Below.refl _ _).alloc (Nat.le_refl _) _⟩
  · cases e1 : on.toList.isEmpty <;> cases e2 : op.toList.isEmpty <;> rw [e1, e2] at hno <;> first | (exfalso; exact Bool.noConfusion hno) | skip
    all_goals
      go_wp2_with fail
      go_ret
      exact ⟨rfl, (Below.refl _ _).alloc (Nat.le_refl _) _⟩

set_option maxRecDepth 100000 in
set_option maxHeartbeats 16000000 in
theorem check_nums (nm ps on op : ByteArray) (n0 n1 n2 n3 n4 n5 n6 n7 n8 n9 n10 : Int) (w : World) (hr : Rowed w) (h1 : nm.size ≤ 1000000) (h2 : ps.size ≤ 1000000) (h3 : on.size ≤ 1000000) (h4 : op.size ≤ 1000000)
    (hsv : dec (ServP nm) = true) (hpa : dec (PassP ps) = true) (hpo : dec (PassP on) = true) (hpp : dec (PassP op) = true) (hee : (on.toList.isEmpty == op.toList.isEmpty) = true) :
    Calls Tryd.prog 20 #[cfg nm ps on op n0 n1 n2 n3 n4 n5 n6 n7 n8 n9 n10] w fun e w' => e = .returned (.int .i64 (chkN n0 n1 n2 n3 n4 n5 n6 n7 n8 n9 n10)) ∧ Below w.heap.size w w' := by
  unfold cfg
  have hr1 : Rowed (w.alloc (.cells #[.string nm, .string ps, .string on, .string op, .int .i64 n0, .int .i64 n1, .int .i64 n2, .int .i64 n3, .int .i64 n4, .int .i64 n5, .int .i64 n6, .int .i64 n7, .int .i64 n8, .int .i64 n9, .int .i64 n10] 34)) := rowed_below hr (Nat.le_refl _) ((Below.refl _ _).alloc (Nat.le_refl _) _)
  have SV := Lib.hid hsv
  have PA := Lib.hid hpa
  have PO := Lib.hid hpo
  have PP := Lib.hid hpp
  have he : on.toList.isEmpty = op.toList.isEmpty := by simpa using hee
  clear hsv hpa hpo hpp hee
  obtain ⟨b, hb⟩ : ∃ b, op.toList.isEmpty = b := ⟨_, rfl⟩
  rw [hb] at he
  go_enter Tryd.func20, Tryd.ntmps20
  go_wp2_with fail
  refine (serv_v _ _ h1 hr1).mono ?_
  rintro e w1 ⟨rfl, rfl⟩
  rw [SV.out]
  go_wp2_with fail
  refine (pass_v _ _ h2).mono ?_
  rintro e w1 ⟨rfl, rfl⟩
  rw [PA.out]
  go_wp2_with fail
  refine (pass_v _ _ h3).mono ?_
  rintro e w1 ⟨rfl, rfl⟩
  rw [PO.out]
  go_wp2_with fail
  refine (pass_v _ _ h4).mono ?_
  rintro e w1 ⟨rfl, rfl⟩
  rw [PP.out]
  go_wp2_with fail
  clear hr1
  obtain ⟨W2, hW2⟩ : ∃ W2, W2 = (w.alloc (.cells #[.string nm, .string ps, .string on, .string op, .int .i64 n0, .int .i64 n1, .int .i64 n2, .int .i64 n3, .int .i64 n4, .int .i64 n5, .int .i64 n6, .int .i64 n7, .int .i64 n8, .int .i64 n9, .int .i64 n10] 34)).alloc (.cells #[.int .i64 n0, .int .i64 1, .int .i64 1000, .int .i64 n1, .int .i64 512, .int .i64 65536, .int .i64 n2, .int .i64 1, .int .i64 1000, .int .i64 n3, .int .i64 1, .int .i64 1000, .int .i64 n4, .int .i64 1, .int .i64 1000, .int .i64 n5, .int .i64 1, .int .i64 1000, .int .i64 n6, .int .i64 1, .int .i64 1000, .int .i64 n7, .int .i64 0, .int .i64 1000, .int .i64 n8, .int .i64 1, .int .i64 1000000, .int .i64 n9, .int .i64 1, .int .i64 1000000, .int .i64 n10, .int .i64 1, .int .i64 1000000] 59) := ⟨_, rfl⟩
  rw [← hW2]
  have hcell : ∀ j v, (#[.int .i64 n0, .int .i64 1, .int .i64 1000, .int .i64 n1, .int .i64 512, .int .i64 65536, .int .i64 n2, .int .i64 1, .int .i64 1000, .int .i64 n3, .int .i64 1, .int .i64 1000, .int .i64 n4, .int .i64 1, .int .i64 1000, .int .i64 n5, .int .i64 1, .int .i64 1000, .int .i64 n6, .int .i64 1, .int .i64 1000, .int .i64 n7, .int .i64 0, .int .i64 1000, .int .i64 n8, .int .i64 1, .int .i64 1000000, .int .i64 n9, .int .i64 1, .int .i64 1000000, .int .i64 n10, .int .i64 1, .int .i64 1000000] : Array Value)[j]? = some v → W2.cell? ⟨w.heap.size + 1, j, none⟩ = some v := fun j v hv => by
    rw [hW2]
    have hrow : ((w.alloc (.cells #[.string nm, .string ps, .string on, .string op, .int .i64 n0, .int .i64 n1, .int .i64 n2, .int .i64 n3, .int .i64 n4, .int .i64 n5, .int .i64 n6, .int .i64 n7, .int .i64 n8, .int .i64 n9, .int .i64 n10] 34)).alloc (.cells #[.int .i64 n0, .int .i64 1, .int .i64 1000, .int .i64 n1, .int .i64 512, .int .i64 65536, .int .i64 n2, .int .i64 1, .int .i64 1000, .int .i64 n3, .int .i64 1, .int .i64 1000, .int .i64 n4, .int .i64 1, .int .i64 1000, .int .i64 n5, .int .i64 1, .int .i64 1000, .int .i64 n6, .int .i64 1, .int .i64 1000, .int .i64 n7, .int .i64 0, .int .i64 1000, .int .i64 n8, .int .i64 1, .int .i64 1000000, .int .i64 n9, .int .i64 1, .int .i64 1000000, .int .i64 n10, .int .i64 1, .int .i64 1000000] 59)).heap[w.heap.size + 1]? = some (.cells #[.int .i64 n0, .int .i64 1, .int .i64 1000, .int .i64 n1, .int .i64 512, .int .i64 65536, .int .i64 n2, .int .i64 1, .int .i64 1000, .int .i64 n3, .int .i64 1, .int .i64 1000, .int .i64 n4, .int .i64 1, .int .i64 1000, .int .i64 n5, .int .i64 1, .int .i64 1000, .int .i64 n6, .int .i64 1, .int .i64 1000, .int .i64 n7, .int .i64 0, .int .i64 1000, .int .i64 n8, .int .i64 1, .int .i64 1000000, .int .i64 n9, .int .i64 1, .int .i64 1000000, .int .i64 n10, .int .i64 1, .int .i64 1000000] 59 (0, 0)) := by
      have := heap_alloc_new (w.alloc (.cells #[.string nm, .string ps, .string on, .string op, .int .i64 n0, .int .i64 n1, .int .i64 n2, .int .i64 n3, .int .i64 n4, .int .i64 n5, .int .i64 n6, .int .i64 n7, .int .i64 n8, .int .i64 n9, .int .i64 n10] 34)) (.cells #[.int .i64 n0, .int .i64 1, .int .i64 1000, .int .i64 n1, .int .i64 512, .int .i64 65536, .int .i64 n2, .int .i64 1, .int .i64 1000, .int .i64 n3, .int .i64 1, .int .i64 1000, .int .i64 n4, .int .i64 1, .int .i64 1000, .int .i64 n5, .int .i64 1, .int .i64 1000, .int .i64 n6, .int .i64 1, .int .i64 1000, .int .i64 n7, .int .i64 0, .int .i64 1000, .int .i64 n8, .int .i64 1, .int .i64 1000000, .int .i64 n9, .int .i64 1, .int .i64 1000000, .int .i64 n10, .int .i64 1, .int .i64 1000000] 59)
      rwa [World.size_alloc] at this
    rw [cell_of_row _ _ j _ _ (0, 0) hrow]; exact hv
  have hB2 : Below w.heap.size w W2 := by rw [hW2]; exact ((Below.refl _ _).alloc (Nat.le_refl _) _).alloc (by simp) _
  have hs2 : W2.heap.size = w.heap.size + 2 := by rw [hW2]; simp
  have HC := Lib.hid hcell
  have HB := Lib.hid hB2
  have HS := Lib.hid hs2
  clear hW2 hcell hB2 hs2
  go_loopw [4, 71] (fun _ i wr => ∃ k : Nat, i = .int .i64 k ∧ k ≤ 11 ∧ Hid (∀ j, j < k → (numsL n0 n1 n2 n3 n4 n5 n6 n7 n8 n9 n10)[j]? = some true) ∧ Hid (Below (w.heap.size + 2) W2 wr ∧ w.heap.size + 2 ≤ wr.heap.size)) (fun _ i _ => 11 - (intOf i).toNat)
  case atStart => exact ⟨0, rfl, by omega, fun _ h => absurd h (Nat.not_lt_zero _), Below.refl _ _, by rw [HS.out]; exact Nat.le_refl _⟩
  case round =>
    obtain ⟨k, rfl, hk, HQ, HW⟩ := hrel
    rcases (by omega : k = 0 ∨ k = 1 ∨ k = 2 ∨ k = 3 ∨ k = 4 ∨ k = 5 ∨ k = 6 ∨ k = 7 ∨ k = 8 ∨ k = 9 ∨ k = 10 ∨ k = 11) with rfl | rfl | rfl | rfl | rfl | rfl | rfl | rfl | rfl | rfl | rfl | rfl
    · have c0 : wr.cell? ⟨w.heap.size + 1, 0, none⟩ = some (.int .i64 n0) := (HW.out.1.cell (p := ⟨w.heap.size + 1, 0, none⟩) (by simp)).trans (HC.out 0 _ rfl)
      have c1 : wr.cell? ⟨w.heap.size + 1, 1, none⟩ = some (.int .i64 1) := (HW.out.1.cell (p := ⟨w.heap.size + 1, 1, none⟩) (by simp)).trans (HC.out 1 _ rfl)
      have c2 : wr.cell? ⟨w.heap.size + 1, 2, none⟩ = some (.int .i64 1000) := (HW.out.1.cell (p := ⟨w.heap.size + 1, 2, none⟩) (by simp)).trans (HC.out 2 _ rfl)
      by_cases l1 : 1 ≤ n0
      · by_cases l2 : n0 ≤ 1000
        · go_wp2_with fail
          go_roundw
          case rel => exact ⟨1, by first | rfl | go_num, by omega, fun j hj => (by
            by_cases e : j = 0
            · subst e; exact inR_yes l1 l2
            · exact HQ.out j (by omega)), HW.out.1.alloc HW.out.2 _, by have := HW.out.2; simp; omega⟩
          case measure => simp [intOf]
        · go_wp2_with fail
          go_ret
          exact ⟨ret_int (chkN_no (k := 0) (inR_no (by omega))), HB.out.trans ((HW.out.1.alloc HW.out.2 _).mono (by omega))⟩
      · go_wp2_with fail
        go_ret
        exact ⟨ret_int (chkN_no (k := 0) (inR_no (by omega))), HB.out.trans ((HW.out.1.alloc HW.out.2 _).mono (by omega))⟩
    · have c0 : wr.cell? ⟨w.heap.size + 1, 3, none⟩ = some (.int .i64 n1) := (HW.out.1.cell (p := ⟨w.heap.size + 1, 3, none⟩) (by simp)).trans (HC.out 3 _ rfl)
      have c1 : wr.cell? ⟨w.heap.size + 1, 4, none⟩ = some (.int .i64 512) := (HW.out.1.cell (p := ⟨w.heap.size + 1, 4, none⟩) (by simp)).trans (HC.out 4 _ rfl)
      have c2 : wr.cell? ⟨w.heap.size + 1, 5, none⟩ = some (.int .i64 65536) := (HW.out.1.cell (p := ⟨w.heap.size + 1, 5, none⟩) (by simp)).trans (HC.out 5 _ rfl)
      by_cases l1 : 512 ≤ n1
      · by_cases l2 : n1 ≤ 65536
        · go_wp2_with fail
          go_roundw
          case rel => exact ⟨2, by first | rfl | go_num, by omega, fun j hj => (by
            by_cases e : j = 1
            · subst e; exact inR_yes l1 l2
            · exact HQ.out j (by omega)), HW.out.1.alloc HW.out.2 _, by have := HW.out.2; simp; omega⟩
          case measure => simp [intOf]
        · go_wp2_with fail
          go_ret
          exact ⟨ret_int (chkN_no (k := 1) (inR_no (by omega))), HB.out.trans ((HW.out.1.alloc HW.out.2 _).mono (by omega))⟩
      · go_wp2_with fail
        go_ret
        exact ⟨ret_int (chkN_no (k := 1) (inR_no (by omega))), HB.out.trans ((HW.out.1.alloc HW.out.2 _).mono (by omega))⟩
    · have c0 : wr.cell? ⟨w.heap.size + 1, 6, none⟩ = some (.int .i64 n2) := (HW.out.1.cell (p := ⟨w.heap.size + 1, 6, none⟩) (by simp)).trans (HC.out 6 _ rfl)
      have c1 : wr.cell? ⟨w.heap.size + 1, 7, none⟩ = some (.int .i64 1) := (HW.out.1.cell (p := ⟨w.heap.size + 1, 7, none⟩) (by simp)).trans (HC.out 7 _ rfl)
      have c2 : wr.cell? ⟨w.heap.size + 1, 8, none⟩ = some (.int .i64 1000) := (HW.out.1.cell (p := ⟨w.heap.size + 1, 8, none⟩) (by simp)).trans (HC.out 8 _ rfl)
      by_cases l1 : 1 ≤ n2
      · by_cases l2 : n2 ≤ 1000
        · go_wp2_with fail
          go_roundw
          case rel => exact ⟨3, by first | rfl | go_num, by omega, fun j hj => (by
            by_cases e : j = 2
            · subst e; exact inR_yes l1 l2
            · exact HQ.out j (by omega)), HW.out.1.alloc HW.out.2 _, by have := HW.out.2; simp; omega⟩
          case measure => simp [intOf]
        · go_wp2_with fail
          go_ret
          exact ⟨ret_int (chkN_no (k := 2) (inR_no (by omega))), HB.out.trans ((HW.out.1.alloc HW.out.2 _).mono (by omega))⟩
      · go_wp2_with fail
        go_ret
        exact ⟨ret_int (chkN_no (k := 2) (inR_no (by omega))), HB.out.trans ((HW.out.1.alloc HW.out.2 _).mono (by omega))⟩
    · have c0 : wr.cell? ⟨w.heap.size + 1, 9, none⟩ = some (.int .i64 n3) := (HW.out.1.cell (p := ⟨w.heap.size + 1, 9, none⟩) (by simp)).trans (HC.out 9 _ rfl)
      have c1 : wr.cell? ⟨w.heap.size + 1, 10, none⟩ = some (.int .i64 1) := (HW.out.1.cell (p := ⟨w.heap.size + 1, 10, none⟩) (by simp)).trans (HC.out 10 _ rfl)
      have c2 : wr.cell? ⟨w.heap.size + 1, 11, none⟩ = some (.int .i64 1000) := (HW.out.1.cell (p := ⟨w.heap.size + 1, 11, none⟩) (by simp)).trans (HC.out 11 _ rfl)
      by_cases l1 : 1 ≤ n3
      · by_cases l2 : n3 ≤ 1000
        · go_wp2_with fail
          go_roundw
          case rel => exact ⟨4, by first | rfl | go_num, by omega, fun j hj => (by
            by_cases e : j = 3
            · subst e; exact inR_yes l1 l2
            · exact HQ.out j (by omega)), HW.out.1.alloc HW.out.2 _, by have := HW.out.2; simp; omega⟩
          case measure => simp [intOf]
        · go_wp2_with fail
          go_ret
          exact ⟨ret_int (chkN_no (k := 3) (inR_no (by omega))), HB.out.trans ((HW.out.1.alloc HW.out.2 _).mono (by omega))⟩
      · go_wp2_with fail
        go_ret
        exact ⟨ret_int (chkN_no (k := 3) (inR_no (by omega))), HB.out.trans ((HW.out.1.alloc HW.out.2 _).mono (by omega))⟩
    · have c0 : wr.cell? ⟨w.heap.size + 1, 12, none⟩ = some (.int .i64 n4) := (HW.out.1.cell (p := ⟨w.heap.size + 1, 12, none⟩) (by simp)).trans (HC.out 12 _ rfl)
      have c1 : wr.cell? ⟨w.heap.size + 1, 13, none⟩ = some (.int .i64 1) := (HW.out.1.cell (p := ⟨w.heap.size + 1, 13, none⟩) (by simp)).trans (HC.out 13 _ rfl)
      have c2 : wr.cell? ⟨w.heap.size + 1, 14, none⟩ = some (.int .i64 1000) := (HW.out.1.cell (p := ⟨w.heap.size + 1, 14, none⟩) (by simp)).trans (HC.out 14 _ rfl)
      by_cases l1 : 1 ≤ n4
      · by_cases l2 : n4 ≤ 1000
        · go_wp2_with fail
          go_roundw
          case rel => exact ⟨5, by first | rfl | go_num, by omega, fun j hj => (by
            by_cases e : j = 4
            · subst e; exact inR_yes l1 l2
            · exact HQ.out j (by omega)), HW.out.1.alloc HW.out.2 _, by have := HW.out.2; simp; omega⟩
          case measure => simp [intOf]
        · go_wp2_with fail
          go_ret
          exact ⟨ret_int (chkN_no (k := 4) (inR_no (by omega))), HB.out.trans ((HW.out.1.alloc HW.out.2 _).mono (by omega))⟩
      · go_wp2_with fail
        go_ret
        exact ⟨ret_int (chkN_no (k := 4) (inR_no (by omega))), HB.out.trans ((HW.out.1.alloc HW.out.2 _).mono (by omega))⟩
    · have c0 : wr.cell? ⟨w.heap.size + 1, 15, none⟩ = some (.int .i64 n5) := (HW.out.1.cell (p := ⟨w.heap.size + 1, 15, none⟩) (by simp)).trans (HC.out 15 _ rfl)
      have c1 : wr.cell? ⟨w.heap.size + 1, 16, none⟩ = some (.int .i64 1) := (HW.out.1.cell (p := ⟨w.heap.size + 1, 16, none⟩) (by simp)).trans (HC.out 16 _ rfl)
      have c2 : wr.cell? ⟨w.heap.size + 1, 17, none⟩ = some (.int .i64 1000) := (HW.out.1.cell (p := ⟨w.heap.size + 1, 17, none⟩) (by simp)).trans (HC.out 17 _ rfl)
      by_cases l1 : 1 ≤ n5
      · by_cases l2 : n5 ≤ 1000
        · go_wp2_with fail
          go_roundw
          case rel => exact ⟨6, by first | rfl | go_num, by omega, fun j hj => (by
            by_cases e : j = 5
            · subst e; exact inR_yes l1 l2
            · exact HQ.out j (by omega)), HW.out.1.alloc HW.out.2 _, by have := HW.out.2; simp; omega⟩
          case measure => simp [intOf]
        · go_wp2_with fail
          go_ret
          exact ⟨ret_int (chkN_no (k := 5) (inR_no (by omega))), HB.out.trans ((HW.out.1.alloc HW.out.2 _).mono (by omega))⟩
      · go_wp2_with fail
        go_ret
        exact ⟨ret_int (chkN_no (k := 5) (inR_no (by omega))), HB.out.trans ((HW.out.1.alloc HW.out.2 _).mono (by omega))⟩
    · have c0 : wr.cell? ⟨w.heap.size + 1, 18, none⟩ = some (.int .i64 n6) := (HW.out.1.cell (p := ⟨w.heap.size + 1, 18, none⟩) (by simp)).trans (HC.out 18 _ rfl)
      have c1 : wr.cell? ⟨w.heap.size + 1, 19, none⟩ = some (.int .i64 1) := (HW.out.1.cell (p := ⟨w.heap.size + 1, 19, none⟩) (by simp)).trans (HC.out 19 _ rfl)
      have c2 : wr.cell? ⟨w.heap.size + 1, 20, none⟩ = some (.int .i64 1000) := (HW.out.1.cell (p := ⟨w.heap.size + 1, 20, none⟩) (by simp)).trans (HC.out 20 _ rfl)
      by_cases l1 : 1 ≤ n6
      · by_cases l2 : n6 ≤ 1000
        · go_wp2_with fail
          go_roundw
          case rel => exact ⟨7, by first | rfl | go_num, by omega, fun j hj => (by
            by_cases e : j = 6
            · subst e; exact inR_yes l1 l2
            · exact HQ.out j (by omega)), HW.out.1.alloc HW.out.2 _, by have := HW.out.2; simp; omega⟩
          case measure => simp [intOf]
        · go_wp2_with fail
          go_ret
          exact ⟨ret_int (chkN_no (k := 6) (inR_no (by omega))), HB.out.trans ((HW.out.1.alloc HW.out.2 _).mono (by omega))⟩
      · go_wp2_with fail
        go_ret
        exact ⟨ret_int (chkN_no (k := 6) (inR_no (by omega))), HB.out.trans ((HW.out.1.alloc HW.out.2 _).mono (by omega))⟩
    · have c0 : wr.cell? ⟨w.heap.size + 1, 21, none⟩ = some (.int .i64 n7) := (HW.out.1.cell (p := ⟨w.heap.size + 1, 21, none⟩) (by simp)).trans (HC.out 21 _ rfl)
      have c1 : wr.cell? ⟨w.heap.size + 1, 22, none⟩ = some (.int .i64 0) := (HW.out.1.cell (p := ⟨w.heap.size + 1, 22, none⟩) (by simp)).trans (HC.out 22 _ rfl)
      have c2 : wr.cell? ⟨w.heap.size + 1, 23, none⟩ = some (.int .i64 1000) := (HW.out.1.cell (p := ⟨w.heap.size + 1, 23, none⟩) (by simp)).trans (HC.out 23 _ rfl)
      by_cases l1 : 0 ≤ n7
      · by_cases l2 : n7 ≤ 1000
        · go_wp2_with fail
          go_roundw
          case rel => exact ⟨8, by first | rfl | go_num, by omega, fun j hj => (by
            by_cases e : j = 7
            · subst e; exact inR_yes l1 l2
            · exact HQ.out j (by omega)), HW.out.1.alloc HW.out.2 _, by have := HW.out.2; simp; omega⟩
          case measure => simp [intOf]
        · go_wp2_with fail
          go_ret
          exact ⟨ret_int (chkN_no (k := 7) (inR_no (by omega))), HB.out.trans ((HW.out.1.alloc HW.out.2 _).mono (by omega))⟩
      · go_wp2_with fail
        go_ret
        exact ⟨ret_int (chkN_no (k := 7) (inR_no (by omega))), HB.out.trans ((HW.out.1.alloc HW.out.2 _).mono (by omega))⟩
    · have c0 : wr.cell? ⟨w.heap.size + 1, 24, none⟩ = some (.int .i64 n8) := (HW.out.1.cell (p := ⟨w.heap.size + 1, 24, none⟩) (by simp)).trans (HC.out 24 _ rfl)
      have c1 : wr.cell? ⟨w.heap.size + 1, 25, none⟩ = some (.int .i64 1) := (HW.out.1.cell (p := ⟨w.heap.size + 1, 25, none⟩) (by simp)).trans (HC.out 25 _ rfl)
      have c2 : wr.cell? ⟨w.heap.size + 1, 26, none⟩ = some (.int .i64 1000000) := (HW.out.1.cell (p := ⟨w.heap.size + 1, 26, none⟩) (by simp)).trans (HC.out 26 _ rfl)
      by_cases l1 : 1 ≤ n8
      · by_cases l2 : n8 ≤ 1000000
        · go_wp2_with fail
          go_roundw
          case rel => exact ⟨9, by first | rfl | go_num, by omega, fun j hj => (by
            by_cases e : j = 8
            · subst e; exact inR_yes l1 l2
            · exact HQ.out j (by omega)), HW.out.1.alloc HW.out.2 _, by have := HW.out.2; simp; omega⟩
          case measure => simp [intOf]
        · go_wp2_with fail
          go_ret
          exact ⟨ret_int (chkN_no (k := 8) (inR_no (by omega))), HB.out.trans ((HW.out.1.alloc HW.out.2 _).mono (by omega))⟩
      · go_wp2_with fail
        go_ret
        exact ⟨ret_int (chkN_no (k := 8) (inR_no (by omega))), HB.out.trans ((HW.out.1.alloc HW.out.2 _).mono (by omega))⟩
    · have c0 : wr.cell? ⟨w.heap.size + 1, 27, none⟩ = some (.int .i64 n9) := (HW.out.1.cell (p := ⟨w.heap.size + 1, 27, none⟩) (by simp)).trans (HC.out 27 _ rfl)
      have c1 : wr.cell? ⟨w.heap.size + 1, 28, none⟩ = some (.int .i64 1) := (HW.out.1.cell (p := ⟨w.heap.size + 1, 28, none⟩) (by simp)).trans (HC.out 28 _ rfl)
      have c2 : wr.cell? ⟨w.heap.size + 1, 29, none⟩ = some (.int .i64 1000000) := (HW.out.1.cell (p := ⟨w.heap.size + 1, 29, none⟩) (by simp)).trans (HC.out 29 _ rfl)
      by_cases l1 : 1 ≤ n9
      · by_cases l2 : n9 ≤ 1000000
        · go_wp2_with fail
          go_roundw
          case rel => exact ⟨10, by first | rfl | go_num, by omega, fun j hj => (by
            by_cases e : j = 9
            · subst e; exact inR_yes l1 l2
            · exact HQ.out j (by omega)), HW.out.1.alloc HW.out.2 _, by have := HW.out.2; simp; omega⟩
          case measure => simp [intOf]
        · go_wp2_with fail
          go_ret
          exact ⟨ret_int (chkN_no (k := 9) (inR_no (by omega))), HB.out.trans ((HW.out.1.alloc HW.out.2 _).mono (by omega))⟩
      · go_wp2_with fail
        go_ret
        exact ⟨ret_int (chkN_no (k := 9) (inR_no (by omega))), HB.out.trans ((HW.out.1.alloc HW.out.2 _).mono (by omega))⟩
    · have c0 : wr.cell? ⟨w.heap.size + 1, 30, none⟩ = some (.int .i64 n10) := (HW.out.1.cell (p := ⟨w.heap.size + 1, 30, none⟩) (by simp)).trans (HC.out 30 _ rfl)
      have c1 : wr.cell? ⟨w.heap.size + 1, 31, none⟩ = some (.int .i64 1) := (HW.out.1.cell (p := ⟨w.heap.size + 1, 31, none⟩) (by simp)).trans (HC.out 31 _ rfl)
      have c2 : wr.cell? ⟨w.heap.size + 1, 32, none⟩ = some (.int .i64 1000000) := (HW.out.1.cell (p := ⟨w.heap.size + 1, 32, none⟩) (by simp)).trans (HC.out 32 _ rfl)
      by_cases l1 : 1 ≤ n10
      · by_cases l2 : n10 ≤ 1000000
        · go_wp2_with fail
          go_roundw
          case rel => exact ⟨11, by first | rfl | go_num, by omega, fun j hj => (by
            by_cases e : j = 10
            · subst e; exact inR_yes l1 l2
            · exact HQ.out j (by omega)), HW.out.1.alloc HW.out.2 _, by have := HW.out.2; simp; omega⟩
          case measure => simp [intOf]
        · go_wp2_with fail
          go_ret
          exact ⟨ret_int (chkN_no (k := 10) (inR_no (by omega))), HB.out.trans ((HW.out.1.alloc HW.out.2 _).mono (by omega))⟩
      · go_wp2_with fail
        go_ret
        exact ⟨ret_int (chkN_no (k := 10) (inR_no (by omega))), HB.out.trans ((HW.out.1.alloc HW.out.2 _).mono (by omega))⟩
    · go_wp2_with fail
      go_ret
      refine ⟨ret_int (chkN_yes (nums_yes HQ.out)), ?_⟩
      exact HB.out.trans (HW.out.1.mono (by omega))
end Go.Proofs.YtbpnaclnninndaaDoor
