/- Layer 2: digits. -/
import Derived.Test.YtfdaeajafmcjcaaBokE
import Derived.Test.YtfdaeajafmcjcaaOwn
namespace Go.Proofs.Ytfdaeajafmcjcaa
set_option linter.unusedVariables false
set_option linter.unusedSimpArgs false
open Go Go.RowKit Go.Maps Go.Sort Go.Shelf Go.Lib

def dg (n : Nat) : UInt8 := UInt8.ofNat (48 + n % 10)
def dig (n : Nat) : List UInt8 := if n < 10 then [dg n] else if n < 100 then [dg (n / 10), dg n] else [dg (n / 100), dg (n / 10), dg n]
def valL (l : List UInt8) : Nat := l.foldl (fun a d => 10 * a + (d.toNat - 48)) 0
theorem dig_all : ((List.range 300).all fun n => decide (valL (dig n) = n) && decide (foldL (dig n) = dig n)) = true := by kernel_rfl
theorem dig_inj {i j : Nat} (hi : i < 300) (hj : j < 300) (h : dig i = dig j) : i = j := by
  have h0 := List.all_eq_true.1 dig_all
  have h1 := h0 i (List.mem_range.2 hi)
  have h2 := h0 j (List.mem_range.2 hj)
  simp only [Bool.and_eq_true, decide_eq_true_eq] at h1 h2
  rw [← h1.1, ← h2.1, h]
theorem dig_fold {i : Nat} (hi : i < 300) : foldL (dig i) = dig i := by
  have h0 := List.all_eq_true.1 dig_all
  have h1 := h0 i (List.mem_range.2 hi)
  simp only [Bool.and_eq_true, decide_eq_true_eq] at h1
  exact h1.2
theorem bs_append (a b : List UInt8) : bs a ++ bs b = bs (a ++ b) := by
  apply ba_ext
  simp [bs]
theorem dg_nat (n : Nat) : (dg n).toNat = 48 + n % 10 := by simp [dg]; omega
theorem conv_dg {W : World} {B n : Nat} {m : Int} {T : TypeId} (hm : m = ((48 + n % 10 : Nat) : Int)) (hk : W.heap[B]? = some (.cells #[.int .u8 m] T (0, 0))) :
    ((convert 95 9 (.slice (some ⟨B, 0, none⟩) 1 1)).run Try.prog W).andThen (fun a w' => Result.ok (Next.value a) w') = .ok (.value (.string (bs [dg n]))) W := by
  have h : (convert 95 9 (.slice (some ⟨B, 0, none⟩) 1 1)).run Try.prog W = .ok (.string (bs [dg n])) W := by
    refine run_convert_bytes_back W _ _ 5 ⟨B, 0, none⟩ 1 [dg n] Try.underlying95 Try.underlying5 Try.underlying9 fun j hj => ?_
    obtain rfl : j = 0 := by simp at hj; omega
    have := blk_cell hk 0
    simp only [List.getElem_cons_zero, dg_nat]
    rw [← hm]
    exact this
  rw [h]; rfl
set_option maxRecDepth 100000 in
set_option maxHeartbeats 4000000 in
theorem digits_one (n : Nat) (h : n < 10) (w : World) : Calls Try.prog 28 #[.int .i64 n] w fun e w' => e = .returned (.string (bs [dg n])) ∧ RowKit.Below w.heap.size w w' := by
  have h1 : ((n : Int) < 10) := by omega
  have q1 : decide ((n : Int) < 10) = true := by simp; omega
  have hc := conv_dg (n := n) (m := 48 + (n : Int)) (by omega) (heap_alloc_new w (Obj.cells #[Value.int IntKind.u8 (48 + (n : Int))] 5))
  go_enter Try.func28, Try.ntmps28
  go_wp2_with fail
  go_ret
  exact ⟨rfl, (Below.refl _ w).alloc (Nat.le_refl _) _⟩
theorem wrap8 {a : Int} (h : 0 ≤ a ∧ a < 256) : IntKind.u8.wrap a = a := by
  simp [IntKind.wrap, IntKind.signed, IntKind.bits]
  omega
set_option maxRecDepth 100000 in
set_option maxHeartbeats 8000000 in
theorem digits_more (n q r : Nat) (h : 10 ≤ n) (hn : n < 1000) (hq : n / 10 = q) (hr : n % 10 = r) (l : List UInt8) (hll : l.length ≤ 100) (hrec : ∀ W, Calls Try.prog 28 #[.int .i64 q] W fun e W' => e = .returned (.string (bs l)) ∧ RowKit.Below W.heap.size W W') (w : World) :
    Calls Try.prog 28 #[.int .i64 n] w fun e w' => e = .returned (.string (bs l ++ bs [dg n])) ∧ RowKit.Below w.heap.size w w' := by
  have h1 : ¬ ((n : Int) < 10) := by omega
  have q1 : decide ((n : Int) < 10) = false := by simp; omega
  have q2 : (n : Int).tdiv 10 = (q : Int) := by rw [← hq]; rfl
  have q3 : (n : Int).tmod 10 = (r : Int) := by rw [← hr]; rfl
  have r1 : (r : Int) < 10 := by omega
  have r0 : r < 10 := by omega
  have w1 : IntKind.i64.wrap (q : Int) = (q : Int) := IntWalk.i64_in _ ⟨by omega, by omega⟩
  have w2 : IntKind.i64.wrap (48 + (r : Int)) = 48 + (r : Int) := IntWalk.i64_in _ ⟨by omega, by omega⟩
  have w3 : IntKind.u8.wrap (48 + (r : Int)) = 48 + (r : Int) := wrap8 ⟨by omega, by omega⟩
  have hc : ∀ V B, V.heap[B]? = some (.cells #[.int .u8 (48 + (r : Int))] 5 (0, 0)) → ((convert 95 9 (.slice (some ⟨B, 0, none⟩) 1 1)).run Try.prog V).andThen (fun a w' => Result.ok (Next.value a) w') = .ok (.value (.string (bs [dg n]))) V := fun V B hV => conv_dg (by omega) hV
  have c0 := hc _ _ (heap_alloc_new w.drew (Obj.cells #[Value.int IntKind.u8 (48 + (r : Int))] 5))
  have c1 := hc ((w.alloc (Obj.cells #[Value.int IntKind.u8 (48 + (r : Int))] 5)).drew) _ (heap_alloc_new w (Obj.cells #[Value.int IntKind.u8 (48 + (r : Int))] 5))
  have HD : Hid (Calls Try.prog 28 #[.int .i64 q] w.drew fun e v2 => e = .returned (.string (bs l)) ∧ ((convert 95 9 (.slice (some ⟨v2.heap.size, 0, none⟩) 1 1)).run Try.prog (v2.alloc (Obj.cells #[Value.int IntKind.u8 (48 + (r : Int))] 5))).andThen (fun a w' => Result.ok (Next.value a) w') = .ok (.value (.string (bs [dg n]))) (v2.alloc (Obj.cells #[Value.int IntKind.u8 (48 + (r : Int))] 5)) ∧ Hid (Fr (fun _ => False) w v2)) :=
    (hrec w.drew).mono fun e v2 ⟨he, b⟩ => ⟨he, hc _ _ (heap_alloc_new v2 _), ((Fr.refl (fun _ => False) w).drew).trans (Fr.of_below b)⟩
  have HA : Hid (Calls Try.prog 28 #[.int .i64 q] (w.alloc (Obj.cells #[Value.int IntKind.u8 (48 + (r : Int))] 5)).drew fun e v2 => e = .returned (.string (bs l)) ∧ ((convert 95 9 (.slice (some ⟨w.heap.size, 0, none⟩) 1 1)).run Try.prog v2).andThen (fun a w' => Result.ok (Next.value a) w') = .ok (.value (.string (bs [dg n]))) v2 ∧ Hid (Fr (fun _ => False) w v2)) :=
    (hrec _).mono fun e v2 ⟨he, b⟩ => ⟨he, hc _ _ ((Fr.of_below (X := fun _ => False) b).blk (heap_alloc_new w (Obj.cells #[Value.int IntKind.u8 (48 + (r : Int))] 5)) fun e => e), (((Fr.refl (fun _ => False) w).alloc _).drew).trans (Fr.of_below b)⟩
  have hn2 : (bs l).size ≤ 1000000 := by simp; omega
  have mixed : (Try.prog).follows Departure.mixedOrders = true := by kernel_rfl
  clear hrec hc
  go_enter Try.func28, Try.ntmps28
  go_upto_region 3 with fail
  go_region_with_o (first | (with_reducible refine HD.out.mono ?_; rintro e v2 ⟨rfl, g1, HV⟩) | (with_reducible refine HA.out.mono ?_; rintro e v2 ⟨rfl, g1, HV⟩))
  all_goals go_wp2_with fail
  all_goals go_ret
  all_goals first
    | exact ⟨rfl, (HV.out.alloc _).below (Nat.le_refl _) fun _ _ e => e.elim⟩
    | exact ⟨rfl, HV.out.below (Nat.le_refl _) fun _ _ e => e.elim⟩
theorem dig_len (n : Nat) : (dig n).length ≤ 3 := by
  unfold dig
  split
  · simp
  · split <;> simp
theorem digits_small (n : Nat) (h : n < 300) (w : World) : Calls Try.prog 28 #[.int .i64 n] w fun e w' => e = .returned (.string (bs (dig n))) ∧ RowKit.Below w.heap.size w w' := by
  have two : ∀ m : Nat, m < 100 → ∀ W, Calls Try.prog 28 #[.int .i64 m] W fun e w' => e = .returned (.string (bs (dig m))) ∧ RowKit.Below W.heap.size W w' := fun m hm W => by
    by_cases h1 : m < 10
    · have := digits_one m h1 W
      unfold dig; rw [if_pos h1]; exact this
    · have := digits_more m (m / 10) (m % 10) (by omega) (by omega) rfl rfl [dg (m / 10)] (by simp) (fun V => digits_one _ (by omega) V) W
      rw [bs_append] at this
      unfold dig; rw [if_neg h1, if_pos hm]; exact this
  by_cases h2 : n < 100
  · exact two n h2 w
  · have := digits_more n (n / 10) (n % 10) (by omega) (by omega) rfl rfl (dig (n / 10)) (Nat.le_trans (dig_len _) (by decide)) (fun V => two _ (by omega) V) w
    rw [bs_append] at this
    have e : dig n = dig (n / 10) ++ [dg n] := by
      have h3 : ¬ n / 10 < 10 := by omega
      have h4 : n / 10 < 100 := by omega
      have h5 : ¬ n < 10 := by omega
      unfold dig
      rw [if_neg h5, if_neg h2, if_neg h3, if_pos h4, Nat.div_div_eq_div_mul]; rfl
    rw [e]; exact this
end Go.Proofs.Ytfdaeajafmcjcaa
