/- ConfigChecks, walked. -/
import Derived.Test.YtbpnaclnninndaaDoorConfD
import Derived.Shelf.RegionOpenPlain
namespace Go.Proofs.YtbpnaclnninndaaDoor
set_option linter.unusedVariables false
set_option linter.unusedSimpArgs false
open Go.RowKit

theorem bjoin' {B : Nat} {w w1 w2 : World} (h : Below B w w1) (hB : B ≤ w1.heap.size) (k : Below w1.heap.size w1 w2) : Below B w w2 := h.trans (k.mono hB)
theorem great_no (nm ps on op : ByteArray) (n0 n1 n2 n3 n4 n5 n6 n7 n8 n9 n10 : Int) (w : World) (h1 : nm.size ≤ 100) (h2 : ps.size ≤ 100) (h3 : on.size ≤ 100) (h4 : op.size ≤ 100) :
    Calls Tryd.prog 19 #[cfg nm ps on op n0 n1 n2 n3 n4 n5 n6 n7 n8 n9 n10] w fun e w' => e = .returned (.bool false) ∧ Below w.heap.size w w' := by
  unfold cfg
  go_enter Tryd.func19, Tryd.ntmps19
  go_wp2_with fail
  go_ret
  exact ⟨ret_bool (by simp; omega), (Below.refl _ _).alloc (Nat.le_refl _) _⟩
theorem great_yes (nm ps on op : ByteArray) (n0 n1 n2 n3 n4 n5 n6 n7 n8 n9 n10 : Int) (w : World) (h1 : nm.size ≤ maxLen) (h2 : ps.size ≤ maxLen) (h3 : on.size ≤ maxLen) (h4 : op.size ≤ maxLen) (h : ¬ (nm.size ≤ 100 ∧ ps.size ≤ 100 ∧ on.size ≤ 100 ∧ op.size ≤ 100)) :
    Calls Tryd.prog 19 #[cfg nm ps on op n0 n1 n2 n3 n4 n5 n6 n7 n8 n9 n10] w fun e w' => e = .returned (.bool true) ∧ Below w.heap.size w w' := by
  unfold maxLen at h1 h2 h3 h4
  unfold cfg
  go_enter Tryd.func19, Tryd.ntmps19
  go_wp2_with fail
  all_goals go_ret
  all_goals exact ⟨ret_bool (by simp; try omega), (Below.refl _ _).alloc (Nat.le_refl _) _⟩

/-- a configuration's box, cell by cell -/
def Box15 (W : World) (B : Nat) (nm ps on op : ByteArray) (n0 n1 n2 n3 n4 n5 n6 n7 n8 n9 n10 : Int) : Prop := W.cell? ⟨B, 0, none⟩ = some (.string nm) ∧ W.cell? ⟨B, 1, none⟩ = some (.string ps) ∧ W.cell? ⟨B, 2, none⟩ = some (.string on) ∧ W.cell? ⟨B, 3, none⟩ = some (.string op) ∧ W.cell? ⟨B, 4, none⟩ = some (.int .i64 n0) ∧ W.cell? ⟨B, 5, none⟩ = some (.int .i64 n1) ∧ W.cell? ⟨B, 6, none⟩ = some (.int .i64 n2) ∧ W.cell? ⟨B, 7, none⟩ = some (.int .i64 n3) ∧ W.cell? ⟨B, 8, none⟩ = some (.int .i64 n4) ∧ W.cell? ⟨B, 9, none⟩ = some (.int .i64 n5) ∧ W.cell? ⟨B, 10, none⟩ = some (.int .i64 n6) ∧ W.cell? ⟨B, 11, none⟩ = some (.int .i64 n7) ∧ W.cell? ⟨B, 12, none⟩ = some (.int .i64 n8) ∧ W.cell? ⟨B, 13, none⟩ = some (.int .i64 n9) ∧ W.cell? ⟨B, 14, none⟩ = some (.int .i64 n10)
theorem box_below {W W' : World} {B : Nat} {nm ps on op : ByteArray} {n0 n1 n2 n3 n4 n5 n6 n7 n8 n9 n10 : Int} (h : Box15 W B nm ps on op n0 n1 n2 n3 n4 n5 n6 n7 n8 n9 n10) (hB : B < W.heap.size) (hb : Below W.heap.size W W') : Box15 W' B nm ps on op n0 n1 n2 n3 n4 n5 n6 n7 n8 n9 n10 := by
  unfold Box15 at h ⊢
  simp only [hb.cell (p := ⟨B, _, none⟩) hB]
  exact h
theorem box_new (w : World) (nm ps on op : ByteArray) (n0 n1 n2 n3 n4 n5 n6 n7 n8 n9 n10 : Int) (T : TypeId) : Box15 (w.alloc (.cells #[.string nm, .string ps, .string on, .string op, .int .i64 n0, .int .i64 n1, .int .i64 n2, .int .i64 n3, .int .i64 n4, .int .i64 n5, .int .i64 n6, .int .i64 n7, .int .i64 n8, .int .i64 n9, .int .i64 n10] T)) w.heap.size nm ps on op n0 n1 n2 n3 n4 n5 n6 n7 n8 n9 n10 := by
  have hrow := heap_alloc_new w (.cells #[.string nm, .string ps, .string on, .string op, .int .i64 n0, .int .i64 n1, .int .i64 n2, .int .i64 n3, .int .i64 n4, .int .i64 n5, .int .i64 n6, .int .i64 n7, .int .i64 n8, .int .i64 n9, .int .i64 n10] T)
  have h : ∀ j v, (#[.string nm, .string ps, .string on, .string op, .int .i64 n0, .int .i64 n1, .int .i64 n2, .int .i64 n3, .int .i64 n4, .int .i64 n5, .int .i64 n6, .int .i64 n7, .int .i64 n8, .int .i64 n9, .int .i64 n10] : Array Value)[j]? = some v → (w.alloc (.cells #[.string nm, .string ps, .string on, .string op, .int .i64 n0, .int .i64 n1, .int .i64 n2, .int .i64 n3, .int .i64 n4, .int .i64 n5, .int .i64 n6, .int .i64 n7, .int .i64 n8, .int .i64 n9, .int .i64 n10] T)).cell? ⟨w.heap.size, j, none⟩ = some v := fun j v hv => by
    rw [cell_of_row _ _ j _ _ (0, 0) hrow]; exact hv
  exact ⟨h 0 _ rfl, h 1 _ rfl, h 2 _ rfl, h 3 _ rfl, h 4 _ rfl, h 5 _ rfl, h 6 _ rfl, h 7 _ rfl, h 8 _ rfl, h 9 _ rfl, h 10 _ rfl, h 11 _ rfl, h 12 _ rfl, h 13 _ rfl, h 14 _ rfl⟩

set_option maxRecDepth 100000 in
set_option maxHeartbeats 8000000 in
theorem configChecks_walk (nm ps on op : ByteArray) (n0 n1 n2 n3 n4 n5 n6 n7 n8 n9 n10 : Int) (w : World) (_h1 : nm.size ≤ maxLen) (_h2 : ps.size ≤ maxLen) (_h3 : on.size ≤ maxLen) (_h4 : op.size ≤ maxLen) (hr : Rowed w) :
    Calls Tryd.prog 6 #[cfg nm ps on op n0 n1 n2 n3 n4 n5 n6 n7 n8 n9 n10] w fun e w' => e = .returned (.bool true) ∧ Below w.heap.size w w' := by
  have mixed : Tryd.prog.follows Departure.mixedOrders = true := by kernel_rfl
  have hq := Nat.le_refl w.heap.size
  have q : Below w.heap.size w (w.alloc (.cells #[.string nm, .string ps, .string on, .string op, .int .i64 n0, .int .i64 n1, .int .i64 n2, .int .i64 n3, .int .i64 n4, .int .i64 n5, .int .i64 n6, .int .i64 n7, .int .i64 n8, .int .i64 n9, .int .i64 n10] 34)) := (Below.refl _ _).alloc (Nat.le_refl _) _
  have hr0 := rowed_below hr hq q
  have hx0 := box_new w nm ps on op n0 n1 n2 n3 n4 n5 n6 n7 n8 n9 n10 34
  have HX0 := Lib.hid hx0
  clear hx0
  by_cases h : nm.size ≤ 100 ∧ ps.size ≤ 100 ∧ on.size ≤ 100 ∧ op.size ≤ 100
  · obtain ⟨h1, h2, h3, h4⟩ := h
    have k1 : nm.size ≤ 1000000 := by omega
    have k2 : ps.size ≤ 1000000 := by omega
    have k3 : on.size ≤ 1000000 := by omega
    have k4 : op.size ≤ 1000000 := by omega
    unfold cfg
    go_enter Tryd.func6, Tryd.ntmps6
    go_wp2_with fail
    refine (awake15 _ hr0).mono ?_
    rintro e w1 ⟨rfl, q1⟩
    have HX1 := Lib.hid (box_below HX0.out (by simp) q1)
    have hr1 := rowed_below hr0 (Nat.le_refl _) q1
    have hz1 : w.heap.size + 1 ≤ w1.heap.size := by have := q1.size; simpa using this
    have hz3 : w.heap.size < w1.heap.size := by omega
    replace q := bjoin' q (by simp) q1; clear q1
    obtain ⟨c0, c1, c2, c3, c4, c5, c6, c7, c8, c9, c10, c11, c12, c13, c14⟩ := HX1.out
    go_wp2_with fail
    refine (great_no nm ps on op n0 n1 n2 n3 n4 n5 n6 n7 n8 n9 n10 _ h1 h2 h3 h4).mono ?_
    rintro e w2 ⟨rfl, q1⟩
    have HX2 := Lib.hid (box_below HX1.out hz3 q1)
    have hr2 := rowed_below hr1 (Nat.le_refl _) q1
    have hz4 : w.heap.size < w2.heap.size := by have := q1.size; omega
    replace q := bjoin' q (by omega) q1; clear q1
    clear c0 c1 c2 c3 c4 c5 c6 c7 c8 c9 c10 c11 c12 c13 c14
    obtain ⟨d0, d1, d2, d3, d4, d5, d6, d7, d8, d9, d10, d11, d12, d13, d14⟩ := HX2.out
    go_wp2_with fail
    go_region_with_o (first | (go_at_call 20; refine (check_v nm ps on op n0 n1 n2 n3 n4 n5 n6 n7 n8 n9 n10 _ (by exact hr2) k1 k2 k3 k4).mono ?_; rintro e w3 ⟨rfl, q3⟩; have HX3 := Lib.hid (box_below (W := w2.drew) HX2.out hz4 q3); obtain ⟨f0, f1, f2, f3, f4, f5, f6, f7, f8, f9, f10, f11, f12, f13, f14⟩ := HX3.out) | (go_at_call 21; refine (check_r nm ps on op n0 n1 n2 n3 n4 n5 n6 n7 n8 n9 n10 _ k1 k2 k3 k4).mono ?_; rintro e w4 ⟨rfl, q4⟩))
    all_goals go_wp2_with fail
    all_goals go_ret
    all_goals (have hz5 : w.heap.size ≤ w3.heap.size := Nat.le_trans (Nat.le_of_lt hz4) q3.size)
    all_goals exact ⟨ret_bool (by simp), ((q.drew).trans (q3.mono (Nat.le_of_lt hz4))).trans (q4.mono hz5)⟩
  · unfold cfg
    go_enter Tryd.func6, Tryd.ntmps6
    go_wp2_with fail
    refine (awake15 _ hr0).mono ?_
    rintro e w1 ⟨rfl, q1⟩
    obtain ⟨hc1, hf1⟩ := bcell q1
    have hr1 := rowed_below hr0 (Nat.le_refl _) q1
    have hz1 : w.heap.size + 1 ≤ w1.heap.size := by have := q1.size; simpa using this
    replace q := bjoin' q (by simp) q1; clear q1
    go_wp2_with fail
    refine (great_yes nm ps on op n0 n1 n2 n3 n4 n5 n6 n7 n8 n9 n10 _ _h1 _h2 _h3 _h4 h).mono ?_
    rintro e w2 ⟨rfl, q1⟩
    replace q := bjoin' q (by omega) q1; clear q1
    go_wp2_with fail
    go_ret
    exact ⟨rfl, q⟩
end Go.Proofs.YtbpnaclnninndaaDoor
