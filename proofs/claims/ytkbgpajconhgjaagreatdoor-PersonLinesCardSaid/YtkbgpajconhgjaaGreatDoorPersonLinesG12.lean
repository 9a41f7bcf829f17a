/- Texts of this proof, one behind the other. -/
import Derived.Test.YtkbgpajconhgjaaGreatDoorPersonLinesG3
import Derived.Test.YtkbgpajconhgjaaGreatDoorPersonLinesG1
import Derived.Lib.ItoaNum
import Derived.IntWalk
import Derived.Shelf.RegionOpenPlain
import Derived.Lib.Hide
import Derived.Test.YtkbgpajconhgjaaGreatDoorPersonLinesG5
import Derived.Shelf.Strconv.Itoa3
import Derived.Lib.ItoaMem
import Derived.Lib.AppendIntMem
import Derived.Laws.ResultCell
import Derived.Test.YtkbgpajconhgjaaGreatDoorPersonLinesG11
set_option linter.unusedVariables false
set_option linter.unusedSimpArgs false
section
/- The answers' decimal digits: any number. -/
namespace Go.Proofs.YtkbgpajconhgjaaGreatDoor
open Go Go.RowKit Go.Shelf Go.Lib

def dg (n : Nat) : UInt8 := UInt8.ofNat (48 + n % 10)
theorem dg_nat (n : Nat) : (dg n).toNat = 48 + n % 10 := by simp [dg]; omega
theorem conv_dg {W : World} {B n : Nat} {m : Int} {T : TypeId} (hm : m = ((48 + n % 10 : Nat) : Int)) (hk : W.heap[B]? = some (.cells #[.int .u8 m] T (0, 0))) :
    ((convert 66 9 (.slice (some ⟨B, 0, none⟩) 1 1)).run Tryz.prog W).andThen (fun a w' => Result.ok (Next.value a) w') = .ok (.value (.string (bs [dg n]))) W := by
  have h : (convert 66 9 (.slice (some ⟨B, 0, none⟩) 1 1)).run Tryz.prog W = .ok (.string (bs [dg n])) W := by
    refine run_convert_bytes_back W _ _ 5 ⟨B, 0, none⟩ 1 [dg n] Tryz.underlying66 Tryz.underlying5 Tryz.underlying9 fun j hj => ?_
    obtain rfl : j = 0 := by simp at hj; omega
    have := blk_cell hk 0
    simp only [List.getElem_cons_zero, dg_nat]
    rw [← hm]
    exact this
  rw [h]; rfl
set_option maxRecDepth 100000 in
set_option maxHeartbeats 4000000 in
theorem digits_one (n : Nat) (h : n < 10) (w : World) : Calls Tryz.prog 38 #[.int .i64 n] w fun e w' => e = .returned (.string (bs [dg n])) ∧ RowKit.Below w.heap.size w w' := by
  have h1 : ((n : Int) < 10) := by omega
  have q1 : decide ((n : Int) < 10) = true := by simp; omega
  have hc := conv_dg (n := n) (m := 48 + (n : Int)) (by omega) (heap_alloc_new w (Obj.cells #[Value.int IntKind.u8 (48 + (n : Int))] 5))
  go_enter Tryz.func38, Tryz.ntmps38
  go_wp2_with fail
  go_ret
  exact ⟨rfl, (Below.refl _ w).alloc (Nat.le_refl _) _⟩
theorem wrap8 {a : Int} (h : 0 ≤ a ∧ a < 256) : IntKind.u8.wrap a = a := by
  simp [IntKind.wrap, IntKind.signed, IntKind.bits]
  omega
set_option maxRecDepth 100000 in
set_option maxHeartbeats 8000000 in
theorem digits_more (n q r : Nat) (h : 10 ≤ n) (hn : n < 9223372036854775808) (hq : n / 10 = q) (hr : n % 10 = r) (l : List UInt8) (hll : l.length ≤ 100) (hrec : ∀ W, Calls Tryz.prog 38 #[.int .i64 q] W fun e W' => e = .returned (.string (bs l)) ∧ RowKit.Below W.heap.size W W') (w : World) :
    Calls Tryz.prog 38 #[.int .i64 n] w fun e w' => e = .returned (.string (bs l ++ bs [dg n])) ∧ RowKit.Below w.heap.size w w' := by
  have h1 : ¬ ((n : Int) < 10) := by omega
  have q1 : decide ((n : Int) < 10) = false := by simp; omega
  have q2 : (n : Int).tdiv 10 = (q : Int) := by rw [← hq]; rfl
  have q3 : (n : Int).tmod 10 = (r : Int) := by rw [← hr]; rfl
  have r1 : (r : Int) < 10 := by omega
  have r0 : r < 10 := by omega
  have w1 : IntKind.i64.wrap (q : Int) = (q : Int) := IntWalk.i64_in _ ⟨by omega, by omega⟩
  have w2 : IntKind.i64.wrap (48 + (r : Int)) = 48 + (r : Int) := IntWalk.i64_in _ ⟨by omega, by omega⟩
  have w3 : IntKind.u8.wrap (48 + (r : Int)) = 48 + (r : Int) := wrap8 ⟨by omega, by omega⟩
  have hc : ∀ V B, V.heap[B]? = some (.cells #[.int .u8 (48 + (r : Int))] 5 (0, 0)) → ((convert 66 9 (.slice (some ⟨B, 0, none⟩) 1 1)).run Tryz.prog V).andThen (fun a w' => Result.ok (Next.value a) w') = .ok (.value (.string (bs [dg n]))) V := fun V B hV => conv_dg (by omega) hV
  have c0 := hc _ _ (heap_alloc_new w.drew (Obj.cells #[Value.int IntKind.u8 (48 + (r : Int))] 5))
  have c1 := hc ((w.alloc (Obj.cells #[Value.int IntKind.u8 (48 + (r : Int))] 5)).drew) _ (heap_alloc_new w (Obj.cells #[Value.int IntKind.u8 (48 + (r : Int))] 5))
  have HD : Hid (Calls Tryz.prog 38 #[.int .i64 q] w.drew fun e v2 => e = .returned (.string (bs l)) ∧ ((convert 66 9 (.slice (some ⟨v2.heap.size, 0, none⟩) 1 1)).run Tryz.prog (v2.alloc (Obj.cells #[Value.int IntKind.u8 (48 + (r : Int))] 5))).andThen (fun a w' => Result.ok (Next.value a) w') = .ok (.value (.string (bs [dg n]))) (v2.alloc (Obj.cells #[Value.int IntKind.u8 (48 + (r : Int))] 5)) ∧ Hid (Fr (fun _ => False) w v2)) :=
    (hrec w.drew).mono fun e v2 ⟨he, b⟩ => ⟨he, hc _ _ (heap_alloc_new v2 _), ((Fr.refl (fun _ => False) w).drew).trans (Fr.of_below b)⟩
  have HA : Hid (Calls Tryz.prog 38 #[.int .i64 q] (w.alloc (Obj.cells #[Value.int IntKind.u8 (48 + (r : Int))] 5)).drew fun e v2 => e = .returned (.string (bs l)) ∧ ((convert 66 9 (.slice (some ⟨w.heap.size, 0, none⟩) 1 1)).run Tryz.prog v2).andThen (fun a w' => Result.ok (Next.value a) w') = .ok (.value (.string (bs [dg n]))) v2 ∧ Hid (Fr (fun _ => False) w v2)) :=
    (hrec _).mono fun e v2 ⟨he, b⟩ => ⟨he, hc _ _ ((Fr.of_below (X := fun _ => False) b).blk (heap_alloc_new w (Obj.cells #[Value.int IntKind.u8 (48 + (r : Int))] 5)) fun e => e), (((Fr.refl (fun _ => False) w).alloc _).drew).trans (Fr.of_below b)⟩
  have hn2 : (bs l).size ≤ 1000000 := by rw [bs_size]; omega
  have mixed : (Tryz.prog).follows Departure.mixedOrders = true := by kernel_rfl
  clear hrec hc
  go_enter Tryz.func38, Tryz.ntmps38
  go_upto_region 3 with fail
  go_region_with_o (first | (with_reducible refine HD.out.mono ?_; rintro e v2 ⟨rfl, g1, HV⟩) | (with_reducible refine HA.out.mono ?_; rintro e v2 ⟨rfl, g1, HV⟩))
  all_goals go_wp2_with fail
  all_goals go_ret
  all_goals first
    | exact ⟨rfl, (HV.out.alloc _).below (Nat.le_refl _) fun _ _ e => e.elim⟩
    | exact ⟨rfl, HV.out.below (Nat.le_refl _) fun _ _ e => e.elim⟩
theorem dec_len : ∀ (k n : Nat), n < 10 ^ (k + 1) → (Lib.decDigits n).length ≤ k + 1
  | 0, n, h => by
    unfold Lib.decDigits
    rw [dif_pos (by omega)]
    exact Nat.le_refl _
  | k + 1, n, h => by
    unfold Lib.decDigits
    split
    · simp
    · have := dec_len k (n / 10) (by rw [Nat.pow_succ] at h; omega)
      rw [List.length_append]
      simp
      omega
theorem dec_len19 {n : Nat} (h : n < 9223372036854775808) : (Lib.decDigits n).length ≤ 19 := dec_len 18 n (by omega)
theorem digits_all (n : Nat) (h : n < 9223372036854775808) (w : World) : Calls Tryz.prog 38 #[.int .i64 n] w fun e w' => e = .returned (.string (bs (Lib.decDigits n))) ∧ RowKit.Below w.heap.size w w' := by
  induction n using Nat.strongRecOn generalizing w with
  | ind n ih =>
    by_cases h1 : n < 10
    · have := digits_one n h1 w
      unfold Lib.decDigits
      rw [dif_pos h1]
      have e : dg n = UInt8.ofNat (48 + n) := by unfold dg; rw [Nat.mod_eq_of_lt h1]
      rw [← e]
      exact this
    · have := digits_more n (n / 10) (n % 10) (by omega) h rfl rfl (Lib.decDigits (n / 10)) (Nat.le_trans (dec_len19 (by omega)) (by decide)) (fun V => ih (n / 10) (by omega) (by omega) V) w
      rw [bs_append] at this
      unfold Lib.decDigits
      rw [dif_neg h1]
      have e : dg n = UInt8.ofNat (48 + n % 10) := rfl
      rw [← e]
      exact this
theorem itoa_len {n : Int} (h0 : -9223372036854775808 ≤ n) (h1 : n ≤ 9223372036854775807) : (Lib.itoa n).length ≤ 20 := by
  unfold Lib.itoa
  split
  · have := dec_len 18 n.natAbs (by omega)
    simp
    omega
  · have := dec_len19 (n := n.toNat) (by omega)
    omega


theorem tmod_neg10 (n : Int) (h : n ≤ 0) : -10 < n.tmod 10 ∧ n.tmod 10 ≤ 0 := by
  have e : n.tmod 10 = -((-n).tmod 10) := by rw [Int.neg_tmod]; omega
  have e2 : (-n).tmod 10 = (-n) % 10 := Int.tmod_eq_emod_of_nonneg (by omega)
  rw [e, e2]
  omega

end Go.Proofs.YtkbgpajconhgjaaGreatDoor
end
section
/- Layer 22: strconv.FormatUint at base 10; behind; the document's number. -/
namespace Go.Proofs.YtkbgpajconhgjaaGreatDoor
open Go Go.RowKit Go.Sort Go.Lib

set_option maxRecDepth 100000 in
set_option maxHeartbeats 12800000 in
theorem fmtU_i (u : Nat) (hu64 : u < 18446744073709551616) (w : World) (htab : PowW w) :
    Calls Tryz.prog 54 #[.int .u64 u, .int .i64 10] w fun e w' => e = .returned (.string ⟨(Lib.decDigits u).toArray⟩) ∧ ∃ k os, w' = grow (w.drewN k) os := by
  by_cases hs : u < 100
  · have hq : (u : Int) < 100 := by omega
    have hcv : ∀ W, (convert 56 3 (.int .u64 u)).run Tryz.prog W = .ok (.int .i64 u) W := fun W => by
      go_simp
      try (simp [IntKind.wrap, IntKind.signed, IntKind.bits]; omega)
    go_enter Tryz.func54, Tryz.ntmps54
    go_wp2_with (go_at_call 68; refine (Any.internal_strconv_small { Tryz.laysM171 with } u hs _).mono ?_; rintro e w' ⟨rfl, rfl⟩)
    go_ret
    exact ⟨rfl, 0, #[], by simp [World.drewN_zero, grow]⟩
  · have hu1 : 1 ≤ u := by omega
    have hq : ¬ (u : Int) < 100 := by omega
    have hnd20 : Lib.nDigits u ≤ 20 := by have := Lib.numDigits_eq u hu1 hu64; split at this <;> omega
    have hal : Tryz.prog.arrayLen 81 = 24 := by kernel_rfl
    have hsl : ∀ W, (Instr.sliceAt 81 (.pointer (some ⟨w.heap.size, 0, none⟩)) none (some (.int .i64 (Lib.nDigits u : Int))) none).run Tryz.prog W = .ok (.slice (some ⟨w.heap.size, 0, none⟩) (Lib.nDigits u) 24) W := fun W => by
      rw [run_sliceAt_array_h W 81 ⟨w.heap.size, 0, none⟩ (by kernel_rfl) .i64 (Lib.nDigits u : Int) (by omega) (by rw [hal]; omega)]
      go_simp
    have hH0 := Lib.holds_zero0 w 81 (Lib.nDigits u) (by omega)
    have hfmt := Any.internal_strconv_formatBase10 { Tryz.laysM171 with } w.heap.size 0 24 u (Array.replicate (Lib.nDigits u) 0) (w.alloc (.cells Lib.zeros24 81)) hH0 (by rw [Array.size_replicate]; exact Lib.lt_pow_nDigits u) hu64 (by rw [Array.size_replicate]; omega)
    rw [Array.size_replicate] at hfmt
    have HH0 := Lib.hid hH0
    have HF := Lib.hid hfmt
    have HND := Lib.hid (fun W h => Any.internal_strconv_numDigits { Tryz.laysM171 with } u hu1 hu64 W h)
    have HT := Lib.hid (Lib.tabIs_alloc htab (.cells Lib.zeros24 81))
    clear hH0 hfmt htab hal
    go_enter Tryz.func54, Tryz.ntmps54
    go_wp2_with (go_at_call 69; refine (HND.out _ HT.out).mono ?_; rintro e w' ⟨rfl, rfl⟩)
    go_at_call 70
    refine HF.out.mono ?_
    rintro e w' ⟨rfl, k, v', dk, rfl, hF⟩
    have hcv : (convert 66 9 (.slice (some ⟨w.heap.size, 0, none⟩) (Lib.nDigits u) 24)).run Tryz.prog ((putRow (fun (b : UInt8) => Value.int .u8 (b.toNat : Int)) (w.alloc (.cells Lib.zeros24 81)) w.heap.size 0 dk).drewN k) = .ok (.string ⟨(Lib.decDigits u).toArray⟩) ((putRow (fun (b : UInt8) => Value.int .u8 (b.toNat : Int)) (w.alloc (.cells Lib.zeros24 81)) w.heap.size 0 dk).drewN k) := by
      have h := run_convert_bytes_back (P := Tryz.prog) ((putRow (fun (b : UInt8) => Value.int .u8 (b.toNat : Int)) (w.alloc (.cells Lib.zeros24 81)) w.heap.size 0 dk).drewN k) 66 9 5 ⟨w.heap.size, 0, none⟩ 24 (Lib.decDigits u) Tryz.underlying66 Tryz.underlying5 Tryz.underlying9 (fun j hj => by
        rw [Lib.row_is_numeral hF j hj, Lib.add_plain, World.cell?_drewN]
        exact cell?_putRow (fun (b : UInt8) => Value.int .u8 (b.toNat : Int)) _ w.heap.size 0 _ dk HH0.out (by rw [hF.size, Array.size_replicate]) j (by rw [hF.size]; rw [Lib.decDigits_length] at hj; exact hj))
      rw [Lib.decDigits_length] at h
      exact h
    obtain ⟨os, eo⟩ := Lib.fin_at w (.cells Lib.zeros24 81) dk k 0
    have HEo := Lib.hid eo
    clear eo
    go_wp2_with fail
    go_ret
    exact ⟨rfl, k, os, HEo.out⟩
theorem fmtU (u : Nat) (hu64 : u < 18446744073709551616) (w : World) (hp : PowW w) :
    Calls Tryz.prog 35 #[.int .u64 u, .int .i64 10] w fun e w' => e = .returned (.string (bs (Lib.decDigits u))) ∧ Below w.heap.size w w' := by
  have HI := Lib.hid (fmtU_i u hu64 w hp)
  go_enter Tryz.func35, Tryz.ntmps35
  go_wp2_with fail
  refine HI.out.mono ?_
  rintro e w' ⟨rfl, k, os, rfl⟩
  have key : Fr (fun _ => False) (w.drewN k) (grow (w.drewN k) os) := ⟨rfl, rfl, rfl, by simp [grow], fun j hj _ => by
    show (((w.drewN k).heap ++ os)[j]?) = _
    exact Array.getElem?_append_left hj⟩
  have hb : Below w.heap.size w (grow (w.drewN k) os) := (((Fr.refl (fun _ => False) w).drewN k).trans key).below (Nat.le_refl _) fun _ _ h => h.elim
  have HB := Lib.hid hb
  clear hb key
  go_wp2_with fail
  go_ret
  exact ⟨rfl, HB.out⟩
/-- how far a number is behind another one -/
def behL (a b : Int) : List UInt8 := if a < b then [48] else Lib.decDigits (a - b).toNat
set_option maxHeartbeats 2000000 in
theorem behind_m (a b : Int) (ha0 : -9223372036854775808 ≤ a) (ha1 : a ≤ 9223372036854775807) (hb0 : -9223372036854775808 ≤ b) (hb1 : b ≤ 9223372036854775807) (w : World) (hp : PowW w) :
    Calls Tryz.prog 23 #[.int .i64 a, .int .i64 b] w fun e w' => e = .returned (.string (bs (behL a b))) ∧ Below w.heap.size w w' := by
  unfold behL
  by_cases h : a < b
  · rw [if_pos h]
    go_enter Tryz.func23, Tryz.ntmps23
    go_wp2_with fail
    go_ret
    exact ⟨rfl, Below.refl _ _⟩
  · rw [if_neg h]
    obtain ⟨u, hu⟩ : ∃ u : Nat, a - b = u := ⟨(a - b).toNat, by omega⟩
    have hun : (a - b).toNat = u := by omega
    rw [hun]
    have HF := Lib.hid (fmtU u (by omega) w hp)
    have hw : IntKind.u64.wrap (IntKind.u64.wrap a - IntKind.u64.wrap b) = (u : Int) := by rw [IntKind.wrap_u64, IntKind.wrap_u64, IntKind.wrap_u64]; omega
    clear hun ha0 ha1 hb0 hb1
    go_enter Tryz.func23, Tryz.ntmps23
    go_wp2_with fail
    refine HF.out.mono ?_
    rintro e w' ⟨rfl, hb⟩
    have HB := Lib.hid hb
    clear hb
    go_wp2_with fail
    go_ret
    exact ⟨rfl, HB.out⟩
theorem number_r (n : Int) (h1 : n ≤ 9223372036854775807) (w : World) :
    Calls Tryz.prog 26 #[.int .i64 n] w fun e w' => e = .returned (.string (bs (behL n 0))) ∧ Below w.heap.size w w' := by
  unfold behL
  by_cases h : n < 0
  · rw [if_pos h]
    have HD := Lib.hid (digits_all 0 (by omega) w)
    have e0 : Lib.decDigits 0 = [48] := by rw [Lib.decDigits, dif_pos (by omega)]; rfl
    rw [e0] at HD
    clear e0
    go_enter Tryz.func26, Tryz.ntmps26
    go_wp2_with fail
    refine HD.out.mono ?_
    rintro e w' ⟨rfl, hb⟩
    have HB := Lib.hid hb
    clear hb
    go_wp2_with fail
    go_ret
    exact ⟨rfl, HB.out⟩
  · rw [if_neg h]
    obtain ⟨u, rfl⟩ : ∃ u : Nat, n = u := ⟨n.toNat, by omega⟩
    have HD := Lib.hid (digits_all u (by omega) w)
    have hq : ¬ (u : Int) < 0 := by omega
    rw [show ((u : Int) - 0).toNat = u by omega]
    clear h
    go_enter Tryz.func26, Tryz.ntmps26
    go_wp2_with fail
    refine HD.out.mono ?_
    rintro e w' ⟨rfl, hb⟩
    have HB := Lib.hid hb
    clear hb
    go_wp2_with fail
    go_ret
    exact ⟨rfl, HB.out⟩
theorem beh_zero (a b : Int) : behL (a - b) 0 = behL a b := by
  unfold behL
  by_cases h : a < b
  · rw [if_pos h, if_pos (by omega)]
  · rw [if_neg h, if_neg (by omega), show a - b - 0 = a - b by omega]
end Go.Proofs.YtkbgpajconhgjaaGreatDoor
end
section
/- Drawn regions: two writing operations may come up. A box of seven cells. -/
namespace Go.Proofs.YtkbgpajconhgjaaGreatDoor
open Go Go.RowKit

theorem wpAnyH_two {P : Program} {md : Region.Mode} {ops : Array Oper} {Q : Exit → Act → World → Prop} {S : World → Prop} {i j : Nat} {o o2 : Oper} {fuel : Nat} {listed : Array Bool} {a : Act} {w : World} (hr : Region.ready md ops listed = [i, j]) (ho : ops[i]? = some o) (ho2 : ops[j]? = some o2)
    (hw : Region.wanted o (yielded ops a.tmps) = true) (hw2 : Region.wanted o2 (yielded ops a.tmps) = true)
    (h : ∀ K' : Act → World → Prop, Shut (∀ a w, S w → (S w → wpAnyH P md ops Q S fuel (listed.setIfInBounds i true) a w) → K' a w) → Oper.wp P o a w K' Q)
    (h2 : ∀ K' : Act → World → Prop, Shut (∀ a w, S w → (S w → wpAnyH P md ops Q S fuel (listed.setIfInBounds j true) a w) → K' a w) → Oper.wp P o2 a w K' Q) : wpAnyH P md ops Q S (fuel + 1) listed a w :=
  wpAnyH_ready hr (by simp) (AllReadyH.cons ho (fun K hK => by rw [if_pos hw]; exact h K hK) (AllReadyH.cons ho2 (fun K hK => by rw [if_pos hw2]; exact h2 K hK) AllReadyH.nil))
section
variable {W a : World} {B : Nat} {T : TypeId} {X : Nat → Prop} {c0 c1 c2 c3 c4 c5 c6 v0 v1 v2 v3 v4 v5 v6 : Value}
theorem set7 (h : W.heap[B]? = some (.cells #[c0, c1, c2, c3, c4, c5, c6] T (0, 0))) : (((((((W.setCell ⟨B, 0, none⟩ v0).setCell ⟨B, 1, none⟩ v1).setCell ⟨B, 2, none⟩ v2).setCell ⟨B, 3, none⟩ v3).setCell ⟨B, 4, none⟩ v4).setCell ⟨B, 5, none⟩ v5).setCell ⟨B, 6, none⟩ v6).heap[B]? = some (.cells #[v0, v1, v2, v3, v4, v5, v6] T (0, 0)) := by
  have := blk_set (blk_set (blk_set (blk_set (blk_set (blk_set (blk_set h 0 v0) 1 v1) 2 v2) 3 v3) 4 v4) 5 v5) 6 v6
  simpa using this
theorem set7_fr (h : Fr X a W) (hB : X B) : Fr X a (((((((W.setCell ⟨B, 0, none⟩ v0).setCell ⟨B, 1, none⟩ v1).setCell ⟨B, 2, none⟩ v2).setCell ⟨B, 3, none⟩ v3).setCell ⟨B, 4, none⟩ v4).setCell ⟨B, 5, none⟩ v5).setCell ⟨B, 6, none⟩ v6) :=
  Fr.setCell (Fr.setCell (Fr.setCell (Fr.setCell (Fr.setCell (Fr.setCell (Fr.setCell h ⟨B, 0, none⟩ hB v0) ⟨B, 1, none⟩ hB v1) ⟨B, 2, none⟩ hB v2) ⟨B, 3, none⟩ hB v3) ⟨B, 4, none⟩ hB v4) ⟨B, 5, none⟩ hB v5) ⟨B, 6, none⟩ hB v6
theorem set7_oth {k : Nat} {o : Obj} (h : W.heap[k]? = some o) (hk : k ≠ B) : (((((((W.setCell ⟨B, 0, none⟩ v0).setCell ⟨B, 1, none⟩ v1).setCell ⟨B, 2, none⟩ v2).setCell ⟨B, 3, none⟩ v3).setCell ⟨B, 4, none⟩ v4).setCell ⟨B, 5, none⟩ v5).setCell ⟨B, 6, none⟩ v6).heap[k]? = some o :=
  (set7_fr (X := fun k => k = B) (Fr.refl _ W) rfl).blk h hk
theorem res_seven {P : Program} {fn : Func} {p u : Tmp} {ty : TypeId} {tmps : Array Value} {V : World} {N : Nat} (h : fn.results = #[.cell p ty, .tmp u]) (hp : tmps.getD p undef = .pointer (some ⟨N, 0, none⟩)) (hg : (isAgg ty).run P V = .ok true V) (hz : (sizeOf ty).run P V = .ok 7 V)
    (h0 : V.heap[N]? = some (.cells #[c0, c1, c2, c3, c4, c5, c6] T (0, 0))) : (results fn tmps).run P V = .ok (.tuple #[.agg #[c0, c1, c2, c3, c4, c5, c6], tmps.getD u undef]) V := by
  have k := fun j => blk_cell h0 j
  rw [results_cell_tmp h, hp]
  have k0 := k 0; have k1 := k 1; have k2 := k 2; have k3 := k 3; have k4 := k 4; have k5 := k 5; have k6 := k 6
  simp [asAddr, loadVar, Sem.run_bind, hg, hz, loadCells, loadCellsFrom, k0, k1, k2, k3, k4, k5, k6, Result.andThen, go_sem]
end
end Go.Proofs.YtkbgpajconhgjaaGreatDoor
end
section
/- Layer 22: serverLine, Whowas, both sides. -/
namespace Go.Proofs.YtkbgpajconhgjaaGreatDoor
open Go Go.RowKit

theorem mkL (w0 W : World) (xs : List (List UInt8)) (cs : Array Value) (hcs : (xs.map encT).toArray = cs) (hl : xs.length ≤ 1000) (h : w0.alloc (.cells cs 9) = W) : ReadsT W (some ⟨w0.heap.size, 0, none⟩) xs ∧ Fr (fun _ => False) w0 W := by
  subst h
  exact ⟨reads_new w0 xs cs hcs hl, (Fr.refl _ w0).alloc _⟩
def rollL : List UInt8 := [114, 111, 108, 108, 99, 97, 108, 108]
/-- the cells of somebody in a box, in any world that keeps it -/
theorem per_box {W0 : World} {N : Nat} {id si sp : Int} {n u h r y : List UInt8} {o d : Bool} (k : W0.heap[N]? = some (.cells #[.int .i64 id, .string (bs n), .string (bs u), .string (bs h), .string (bs r), .string (bs y), .bool o, .bool d, .int .i64 si, .int .i64 sp] 23 (0, 0))) (W : World) (hf : Fr (fun _ => False) W0 W) :
    W.cell? ⟨N, 0, none⟩ = some (.int .i64 id) ∧ W.cell? ⟨N, 1, none⟩ = some (.string (bs n)) ∧ W.cell? ⟨N, 2, none⟩ = some (.string (bs u)) ∧ W.cell? ⟨N, 3, none⟩ = some (.string (bs h)) ∧ W.cell? ⟨N, 4, none⟩ = some (.string (bs r)) ∧ W.cell? ⟨N, 5, none⟩ = some (.string (bs y)) ∧ W.cell? ⟨N, 6, none⟩ = some (.bool o) ∧ W.cell? ⟨N, 7, none⟩ = some (.bool d) ∧ W.cell? ⟨N, 8, none⟩ = some (.int .i64 si) ∧ W.cell? ⟨N, 9, none⟩ = some (.int .i64 sp) :=
  have h := hf.blk k fun e => e
  ⟨blk_cell h 0, blk_cell h 1, blk_cell h 2, blk_cell h 3, blk_cell h 4, blk_cell h 5, blk_cell h 6, blk_cell h 7, blk_cell h 8, blk_cell h 9⟩
set_option maxRecDepth 100000 in
set_option maxHeartbeats 8000000 in
theorem servl_m (server whom n u h r y : List UInt8) (id si sp : Int) (o d : Bool) (w : World) (hsv : server.length ≤ 100) (hwh : whom.length ≤ 100) (hn : n.length ≤ 200) (hu : u.length ≤ 200) (hh : h.length ≤ 200) (hr : r.length ≤ 200) (hm : Mx w) (hp : PowW w) :
    Calls Tryz.prog 22 #[.string (bs server), .string (bs whom), per id (bs n) (bs u) (bs h) (bs r) (bs y) o d si sp] w fun e w' => e = .returned (.string (bs (numL server whom 312 [n, server, rollL]))) ∧ Below w.heap.size w w' := by
  unfold per
  obtain ⟨N, hN⟩ : ∃ N, w.heap.size = N := ⟨_, rfl⟩
  obtain ⟨W0, hW0⟩ : ∃ W, w.alloc (.cells #[.int .i64 id, .string (bs n), .string (bs u), .string (bs h), .string (bs r), .string (bs y), .bool o, .bool d, .int .i64 si, .int .i64 sp] 23) = W := ⟨_, rfl⟩
  have k1 : W0.heap[N]? = some (.cells #[.int .i64 id, .string (bs n), .string (bs u), .string (bs h), .string (bs r), .string (bs y), .bool o, .bool d, .int .i64 si, .int .i64 sp] 23 (0, 0)) := by rw [← hW0, ← hN]; exact heap_alloc_new w _
  have f0 : Fr (fun _ => False) w W0 := by rw [← hW0]; exact (Fr.refl _ w).alloc _
  have HF0 := Lib.hid f0
  have HP := Lib.hid (per_box k1)
  have hsv2 : server.length ≤ 1000 := by omega
  have hwh2 : whom.length ≤ 1000 := by omega
  have hall : ∀ p ∈ [n, server, rollL], p.length ≤ 1000 := by
    intro p hp
    simp only [List.mem_cons, List.not_mem_nil, or_false] at hp
    rcases hp with rfl | rfl | rfl <;> first | omega | decide
  have HNu := Lib.hid (num_m (n := 312) (k := 3) server whom [n, server, rollL] W0 _ rfl rfl (by decide) (by decide) (by decide) hsv2 hwh2 hall (hm.fr f0) (hp.fr f0))
  have HALL := Lib.hid hall
  obtain ⟨c0, c1, c2, c3, c4, c5, c6, c7, c8, c9⟩ := HP.out W0 (Fr.refl _ _)
  clear hm hp hall f0 k1
  go_enter Tryz.func22, Tryz.ntmps22
  go_wp2_with fail
  try rw [hW0]
  refine HNu.out.mono ?_
  rintro e w1 ⟨rfl, hb1⟩
  have HB1 := Lib.hid hb1
  clear hb1 c0 c1 c2 c3 c4 c5 c6 c7 c8 c9
  go_wp2_with fail
  go_ret
  exact ⟨rfl, (HF0.out.trans (Fr.of_below HB1.out)).below (Nat.le_refl _) fun _ _ e => e.elim⟩
def whowasL (server whom n u h r : List UInt8) : List (List UInt8) := [numL server whom 314 [n, u, h, [42], r], numL server whom 312 [n, server, rollL]]
theorem whowas_all {n u h r : List UInt8} (hn : n.length ≤ 200) (hu : u.length ≤ 200) (hh : h.length ≤ 200) (hr : r.length ≤ 200) : ∀ p ∈ [n, u, h, [42], r], p.length ≤ 1000 := by
  intro p hp
  simp only [List.mem_cons, List.not_mem_nil, or_false] at hp
  rcases hp with rfl | rfl | rfl | rfl | rfl <;> first | omega | decide
theorem serv_all {n server : List UInt8} (hn : n.length ≤ 200) (hs : server.length ≤ 100) : ∀ p ∈ [n, server, rollL], p.length ≤ 1000 := by
  intro p hp
  simp only [List.mem_cons, List.not_mem_nil, or_false] at hp
  rcases hp with rfl | rfl | rfl <;> first | omega | decide
set_option maxRecDepth 100000 in
set_option maxHeartbeats 8000000 in
theorem whowas_m (server whom n u h r y : List UInt8) (id si sp : Int) (o d : Bool) (w : World) (hsv : server.length ≤ 100) (hwh : whom.length ≤ 100) (hn : n.length ≤ 200) (hu : u.length ≤ 200) (hh : h.length ≤ 200) (hr : r.length ≤ 200) (hm : Mx w) (hp : PowW w) :
    Calls Tryz.prog 12 #[.string (bs server), .string (bs whom), per id (bs n) (bs u) (bs h) (bs r) (bs y) o d si sp] w fun e w' => ∃ A c, e = .returned (.slice A (whowasL server whom n u h r).length c) ∧ ReadsT w' A (whowasL server whom n u h r) ∧ Below w.heap.size w w' := by
  unfold per
  obtain ⟨N, hN⟩ : ∃ N, w.heap.size = N := ⟨_, rfl⟩
  obtain ⟨W0, hW0⟩ : ∃ W, w.alloc (.cells #[.int .i64 id, .string (bs n), .string (bs u), .string (bs h), .string (bs r), .string (bs y), .bool o, .bool d, .int .i64 si, .int .i64 sp] 23) = W := ⟨_, rfl⟩
  have k1 : W0.heap[N]? = some (.cells #[.int .i64 id, .string (bs n), .string (bs u), .string (bs h), .string (bs r), .string (bs y), .bool o, .bool d, .int .i64 si, .int .i64 sp] 23 (0, 0)) := by rw [← hW0, ← hN]; exact heap_alloc_new w _
  have f0 : Fr (fun _ => False) w W0 := by rw [← hW0]; exact (Fr.refl _ w).alloc _
  have HF0 := Lib.hid f0
  have HP := Lib.hid (per_box k1)
  have hsv2 : server.length ≤ 1000 := by omega
  have hwh2 : whom.length ≤ 1000 := by omega
  have HMX : Hid (∀ W, Fr (fun _ => False) W0 W → Mx W ∧ PowW W) := Lib.hid fun W hf => ⟨(hm.fr f0).fr hf, (hp.fr f0).fr hf⟩
  clear f0 k1 hm hp
  go_enter Tryz.func12, Tryz.ntmps12
  go_wp2_with fail
  try rw [hW0]
  clear hW0 hN
  refine wp_region_held_drew (S := fun W => Fr (fun _ => False) W0 W) (by kernel_rfl) (by exact ((Fr.refl _ W0).drew)) (fun hHeld => ?_)
  refine wpAnyH_read (i := 0) (oi := { dst := some 7, op := Go.Op.move (Go.Operand.tmp 0), type := 9, pos := "person.go:101", after := #[], guard := none }) ?_ rfl (by kernel_rfl) (by kernel_rfl) (by kernel_rfl) (fun _ _ _ h => h) (by rfl) (by assumption) ?_ ?_
  rotate_left
  · (intro w0 hS0; go_simp <;> (try with_reducible rfl))
  try simp only [Act.put, List.setIfInBounds_toArray, List.set_cons_zero, List.set_cons_succ]
  refine wpAnyH_read (i := 1) (oi := { dst := some 8, op := Go.Op.move (Go.Operand.tmp 1), type := 9, pos := "person.go:101", after := #[], guard := none }) ?_ rfl (by kernel_rfl) (by kernel_rfl) (by kernel_rfl) (fun _ _ _ h => h) (by rfl) (by assumption) ?_ ?_
  rotate_left
  · (intro w0 hS0; go_simp <;> (try with_reducible rfl))
  try simp only [Act.put, List.setIfInBounds_toArray, List.set_cons_zero, List.set_cons_succ]
  refine wpAnyH_read (i := 2) (oi := { dst := some 9, op := Go.Op.fieldAddr 23 (Go.Operand.tmp 5) 1, type := 0, pos := "person.go:101", after := #[], guard := none }) ?_ rfl (by kernel_rfl) (by kernel_rfl) (by kernel_rfl) (fun _ _ _ h => h) (by rfl) (by assumption) ?_ ?_
  rotate_left
  · (intro w0 hS0; go_simp <;> (try with_reducible rfl))
  try simp only [Act.put, List.setIfInBounds_toArray, List.set_cons_zero, List.set_cons_succ]
  refine wpAnyH_read (i := 4) (oi := { dst := some 11, op := Go.Op.fieldAddr 23 (Go.Operand.tmp 5) 2, type := 0, pos := "person.go:101", after := #[], guard := none }) ?_ rfl (by kernel_rfl) (by kernel_rfl) (by kernel_rfl) (fun _ _ _ h => h) (by rfl) (by assumption) ?_ ?_
  rotate_left
  · (intro w0 hS0; go_simp <;> (try with_reducible rfl))
  try simp only [Act.put, List.setIfInBounds_toArray, List.set_cons_zero, List.set_cons_succ]
  refine wpAnyH_read (i := 6) (oi := { dst := some 13, op := Go.Op.fieldAddr 23 (Go.Operand.tmp 5) 3, type := 0, pos := "person.go:101", after := #[], guard := none }) ?_ rfl (by kernel_rfl) (by kernel_rfl) (by kernel_rfl) (fun _ _ _ h => h) (by rfl) (by assumption) ?_ ?_
  rotate_left
  · (intro w0 hS0; go_simp <;> (try with_reducible rfl))
  try simp only [Act.put, List.setIfInBounds_toArray, List.set_cons_zero, List.set_cons_succ]
  refine wpAnyH_read (i := 8) (oi := { dst := some 15, op := Go.Op.fieldAddr 23 (Go.Operand.tmp 5) 4, type := 0, pos := "person.go:101", after := #[], guard := none }) ?_ rfl (by kernel_rfl) (by kernel_rfl) (by kernel_rfl) (fun _ _ _ h => h) (by rfl) (by assumption) ?_ ?_
  rotate_left
  · (intro w0 hS0; go_simp <;> (try with_reducible rfl))
  try simp only [Act.put, List.setIfInBounds_toArray, List.set_cons_zero, List.set_cons_succ]
  refine wpAnyH_read (i := 12) (oi := { dst := some 19, op := Go.Op.move (Go.Operand.tmp 0), type := 9, pos := "person.go:101", after := #[], guard := none }) ?_ rfl (by kernel_rfl) (by kernel_rfl) (by kernel_rfl) (fun _ _ _ h => h) (by rfl) (by assumption) ?_ ?_
  rotate_left
  · (intro w0 hS0; go_simp <;> (try with_reducible rfl))
  try simp only [Act.put, List.setIfInBounds_toArray, List.set_cons_zero, List.set_cons_succ]
  refine wpAnyH_read (i := 13) (oi := { dst := some 20, op := Go.Op.move (Go.Operand.tmp 1), type := 9, pos := "person.go:101", after := #[], guard := none }) ?_ rfl (by kernel_rfl) (by kernel_rfl) (by kernel_rfl) (fun _ _ _ h => h) (by rfl) (by assumption) ?_ ?_
  rotate_left
  · (intro w0 hS0; go_simp <;> (try with_reducible rfl))
  try simp only [Act.put, List.setIfInBounds_toArray, List.set_cons_zero, List.set_cons_succ]
  refine wpAnyH_read (i := 3) (oi := { dst := some 10, op := Go.Op.load 9 (Go.Operand.tmp 9), type := 9, pos := "person.go:101", after := #[{ on := 2, ground := Go.Ground.data }], guard := none }) ?_ rfl (by kernel_rfl) (by kernel_rfl) (by kernel_rfl) (fun _ _ _ h => h) (by rfl) (by assumption) ?_ ?_
  rotate_left
  · (intro w0 hS0; obtain ⟨c0, c1, c2, c3, c4, c5, c6, c7, c8, c9⟩ := HP.out w0 hS0; go_simp <;> (try with_reducible rfl))
  try simp only [Act.put, List.setIfInBounds_toArray, List.set_cons_zero, List.set_cons_succ]
  refine wpAnyH_read (i := 5) (oi := { dst := some 12, op := Go.Op.load 9 (Go.Operand.tmp 11), type := 9, pos := "person.go:101", after := #[{ on := 4, ground := Go.Ground.data }], guard := none }) ?_ rfl (by kernel_rfl) (by kernel_rfl) (by kernel_rfl) (fun _ _ _ h => h) (by rfl) (by assumption) ?_ ?_
  rotate_left
  · (intro w0 hS0; obtain ⟨c0, c1, c2, c3, c4, c5, c6, c7, c8, c9⟩ := HP.out w0 hS0; go_simp <;> (try with_reducible rfl))
  try simp only [Act.put, List.setIfInBounds_toArray, List.set_cons_zero, List.set_cons_succ]
  refine wpAnyH_read (i := 7) (oi := { dst := some 14, op := Go.Op.load 9 (Go.Operand.tmp 13), type := 9, pos := "person.go:101", after := #[{ on := 6, ground := Go.Ground.data }], guard := none }) ?_ rfl (by kernel_rfl) (by kernel_rfl) (by kernel_rfl) (fun _ _ _ h => h) (by rfl) (by assumption) ?_ ?_
  rotate_left
  · (intro w0 hS0; obtain ⟨c0, c1, c2, c3, c4, c5, c6, c7, c8, c9⟩ := HP.out w0 hS0; go_simp <;> (try with_reducible rfl))
  try simp only [Act.put, List.setIfInBounds_toArray, List.set_cons_zero, List.set_cons_succ]
  refine wpAnyH_read (i := 9) (oi := { dst := some 16, op := Go.Op.load 9 (Go.Operand.tmp 15), type := 9, pos := "person.go:101", after := #[{ on := 8, ground := Go.Ground.data }], guard := none }) ?_ rfl (by kernel_rfl) (by kernel_rfl) (by kernel_rfl) (fun _ _ _ h => h) (by rfl) (by assumption) ?_ ?_
  rotate_left
  · (intro w0 hS0; obtain ⟨c0, c1, c2, c3, c4, c5, c6, c7, c8, c9⟩ := HP.out w0 hS0; go_simp <;> (try with_reducible rfl))
  try simp only [Act.put, List.setIfInBounds_toArray, List.set_cons_zero, List.set_cons_succ]
  refine wpAnyH_read (i := 14) (oi := { dst := some 21, op := Go.Op.load 23 (Go.Operand.tmp 5), type := 23, pos := "person.go:101", after := #[], guard := none }) ?_ rfl (by kernel_rfl) (by kernel_rfl) (by kernel_rfl) (fun _ _ _ h => h) (by rfl) (by assumption) ?_ ?_
  rotate_left
  · (intro w0 hS0; obtain ⟨c0, c1, c2, c3, c4, c5, c6, c7, c8, c9⟩ := HP.out w0 hS0; go_simp <;> (try with_reducible rfl))
  try simp only [Act.put, List.setIfInBounds_toArray, List.set_cons_zero, List.set_cons_succ]
  refine wpAnyH_one (i := 10) (o := { dst := some 17, op := Go.Op.buildSlice 26 5 #[(0, Go.Operand.tmp 10), (1, Go.Operand.tmp 12), (2, Go.Operand.tmp 14), (3, Go.Operand.const (Go.Value.string { data := #[42] })), (4, Go.Operand.tmp 16)], type := 26, pos := "person.go:101", after := #[{ on := 3, ground := Go.Ground.data }, { on := 5, ground := Go.Ground.data }, { on := 7, ground := Go.Ground.data }, { on := 9, ground := Go.Ground.data }], guard := none }) (by kernel_rfl) rfl (by rfl) (fun K hK => ?_)
  go_simp
  refine hK.out _ _ ?_ (fun hHeld => ?_)
  · exact ((Fr.refl _ W0).drew).alloc _
  clear hK K
  try simp only [Act.put, List.setIfInBounds_toArray, List.set_cons_zero, List.set_cons_succ]
  refine wpAnyH_one (i := 11) (o := { dst := some 18, op := Go.Op.call { callee := Go.Callee.value (Go.Operand.func 16), args := #[Go.Operand.tmp 7, Go.Operand.const (Go.Value.int Go.IntKind.i64 314), Go.Operand.tmp 8, Go.Operand.tmp 17], argTypes := #[9, 3, 9, 26] }, type := 9, pos := "person.go:102", after := #[{ on := 0, ground := Go.Ground.data }, { on := 1, ground := Go.Ground.data }, { on := 10, ground := Go.Ground.data }], guard := none }) (by kernel_rfl) rfl (by rfl) (fun K hK => ?_)
  go_simp
  have HN := num_m (n := 314) (k := 5) server whom [n, u, h, [42], r] W0.drew _ rfl rfl (by decide) (by decide) (by decide) hsv2 hwh2 (whowas_all hn hu hh hr) (HMX.out _ ((Fr.refl _ W0).drew)).1 (HMX.out _ ((Fr.refl _ W0).drew)).2
  refine HN.mono ?_
  rintro e9 V1 ⟨rfl, hb1⟩
  have F1 : Fr (fun _ => False) W0 V1 := ((Fr.refl _ W0).drew).trans (Fr.of_below hb1)
  clear hb1
  refine hK.out _ _ ?_ (fun hHeld => ?_)
  · exact F1
  clear hK K
  try simp only [Act.put, List.setIfInBounds_toArray, List.set_cons_zero, List.set_cons_succ]
  refine wpAnyH_one (i := 15) (o := { dst := some 22, op := Go.Op.call { callee := Go.Callee.value (Go.Operand.func 22), args := #[Go.Operand.tmp 19, Go.Operand.tmp 20, Go.Operand.tmp 21], argTypes := #[9, 9, 23] }, type := 9, pos := "person.go:103", after := #[{ on := 12, ground := Go.Ground.data }, { on := 13, ground := Go.Ground.data }, { on := 14, ground := Go.Ground.data }, { on := 11, ground := Go.Ground.chain }], guard := none }) (by kernel_rfl) rfl (by rfl) (fun K hK => ?_)
  go_simp
  have HS := servl_m server whom n u h r y id si sp o d V1 hsv hwh hn hu hh hr (HMX.out _ F1).1 (HMX.out _ F1).2
  unfold per at HS
  refine HS.mono ?_
  rintro e9 V2 ⟨rfl, hb2⟩
  have F2 : Fr (fun _ => False) W0 V2 := F1.trans (Fr.of_below hb2)
  clear hb2
  refine hK.out _ _ ?_ (fun hHeld => ?_)
  · exact F2
  clear hK K
  try simp only [Act.put, List.setIfInBounds_toArray, List.set_cons_zero, List.set_cons_succ]
  refine wpAnyH_one (i := 16) (o := { dst := some 23, op := Go.Op.buildSlice 26 2 #[(0, Go.Operand.tmp 18), (1, Go.Operand.tmp 22)], type := 26, pos := "person.go:101", after := #[{ on := 11, ground := Go.Ground.data }, { on := 15, ground := Go.Ground.data }], guard := none }) (by kernel_rfl) rfl (by rfl) (fun K hK => ?_)
  go_simp
  refine hK.out _ _ ?_ (fun hHeld => ?_)
  · exact F2.alloc _
  clear hK K
  try simp only [Act.put, List.setIfInBounds_toArray, List.set_cons_zero, List.set_cons_succ]
  refine wpAnyH_read (i := 17) (oi := { dst := some 6, op := Go.Op.assign (Go.Operand.tmp 23), type := 26, pos := "person.go:101", after := #[{ on := 16, ground := Go.Ground.data }, { on := 15, ground := Go.Ground.chain }, { on := 0, ground := Go.Ground.phase }, { on := 1, ground := Go.Ground.phase }, { on := 2, ground := Go.Ground.phase }, { on := 3, ground := Go.Ground.phase }, { on := 4, ground := Go.Ground.phase }, { on := 5, ground := Go.Ground.phase }, { on := 6, ground := Go.Ground.phase }, { on := 7, ground := Go.Ground.phase }, { on := 8, ground := Go.Ground.phase }, { on := 9, ground := Go.Ground.phase }, { on := 10, ground := Go.Ground.phase }, { on := 11, ground := Go.Ground.phase }, { on := 12, ground := Go.Ground.phase }, { on := 13, ground := Go.Ground.phase }, { on := 14, ground := Go.Ground.phase }, { on := 15, ground := Go.Ground.phase }, { on := 16, ground := Go.Ground.phase }], guard := none }) ?_ rfl (by kernel_rfl) (by kernel_rfl) (by kernel_rfl) (fun _ _ _ h => h) (by rfl) (by assumption) ?_ ?_
  rotate_left
  · (intro w0 hS0; go_simp <;> (try with_reducible rfl))
  try simp only [Act.put, List.setIfInBounds_toArray, List.set_cons_zero, List.set_cons_succ]
  refine wpAnyH_done (by kernel_rfl) ?_ _
  have HFin : Hid (Fr (fun _ => False) w V2) := Lib.hid (HF0.out.trans F2)
  go_wp2_with fail
  go_ret
  refine ⟨some ⟨V2.heap.size, 0, none⟩, 2, rfl, ?_, (HFin.out.alloc _).below (Nat.le_refl _) fun _ _ e => e.elim⟩
  exact reads_new V2 (whowasL server whom n u h r) _ rfl (by simp [whowasL])
set_option maxRecDepth 100000 in
set_option maxHeartbeats 8000000 in
theorem whowas_r (server whom n u h r y : List UInt8) (id si sp : Int) (o d : Bool) (w : World) (hsv : server.length ≤ 100) (hwh : whom.length ≤ 100) (hn : n.length ≤ 200) (hu : u.length ≤ 200) (hh : h.length ≤ 200) (hr : r.length ≤ 200) :
    Calls Tryz.prog 13 #[.string (bs server), .string (bs whom), per id (bs n) (bs u) (bs h) (bs r) (bs y) o d si sp] w fun e w' => ∃ A c, e = .returned (.slice A (whowasL server whom n u h r).length c) ∧ ReadsT w' A (whowasL server whom n u h r) ∧ Below w.heap.size w w' := by
  unfold per
  obtain ⟨N, hN⟩ : ∃ N, w.heap.size = N := ⟨_, rfl⟩
  obtain ⟨W0, hW0⟩ : ∃ W, w.alloc (.cells #[.int .i64 id, .string (bs n), .string (bs u), .string (bs h), .string (bs r), .string (bs y), .bool o, .bool d, .int .i64 si, .int .i64 sp] 23) = W := ⟨_, rfl⟩
  have k1 : W0.heap[N]? = some (.cells #[.int .i64 id, .string (bs n), .string (bs u), .string (bs h), .string (bs r), .string (bs y), .bool o, .bool d, .int .i64 si, .int .i64 sp] 23 (0, 0)) := by rw [← hW0, ← hN]; exact heap_alloc_new w _
  have f0 : Fr (fun _ => False) w W0 := by rw [← hW0]; exact (Fr.refl _ w).alloc _
  have HF0 := Lib.hid f0
  have HP := Lib.hid (per_box k1)
  have hsv2 : server.length ≤ 1000 := by omega
  have hwh2 : whom.length ≤ 1000 := by omega
  clear f0 k1
  go_enter Tryz.func13, Tryz.ntmps13
  go_wp2_with fail
  try rw [hW0]
  clear hW0 hN
  refine wp_region_held_drew (S := fun W => Fr (fun _ => False) W0 W) (by kernel_rfl) (by exact ((Fr.refl _ W0).drew)) (fun hHeld => ?_)
  obtain ⟨w0, hw0⟩ : ∃ W, W0.drew = W := ⟨_, rfl⟩
  have F0 : Fr (fun _ => False) W0 w0 := by rw [← hw0]; exact ((Fr.refl _ W0).drew)
  rw [hw0] at hHeld ⊢
  clear hw0
  refine wpAnyH_read (i := 0) (oi := { dst := some 7, op := Go.Op.move (Go.Operand.tmp 0), type := 9, pos := "ref.go:74", after := #[], guard := none }) ?_ rfl (by kernel_rfl) (by kernel_rfl) (by kernel_rfl) (fun _ _ _ h => h) (by rfl) (by exact hHeld) ?_ ?_
  rotate_left
  · (intro w0 hS0; go_simp <;> (try with_reducible rfl))
  try simp only [Act.put, List.setIfInBounds_toArray, List.set_cons_zero, List.set_cons_succ]
  refine wpAnyH_read (i := 1) (oi := { dst := some 8, op := Go.Op.move (Go.Operand.tmp 1), type := 9, pos := "ref.go:74", after := #[], guard := none }) ?_ rfl (by kernel_rfl) (by kernel_rfl) (by kernel_rfl) (fun _ _ _ h => h) (by rfl) (by exact hHeld) ?_ ?_
  rotate_left
  · (intro w0 hS0; go_simp <;> (try with_reducible rfl))
  try simp only [Act.put, List.setIfInBounds_toArray, List.set_cons_zero, List.set_cons_succ]
  refine wpAnyH_read (i := 2) (oi := { dst := some 9, op := Go.Op.fieldAddr 23 (Go.Operand.tmp 5) 1, type := 0, pos := "ref.go:74", after := #[], guard := none }) ?_ rfl (by kernel_rfl) (by kernel_rfl) (by kernel_rfl) (fun _ _ _ h => h) (by rfl) (by exact hHeld) ?_ ?_
  rotate_left
  · (intro w0 hS0; go_simp <;> (try with_reducible rfl))
  try simp only [Act.put, List.setIfInBounds_toArray, List.set_cons_zero, List.set_cons_succ]
  refine wpAnyH_read (i := 4) (oi := { dst := some 11, op := Go.Op.fieldAddr 23 (Go.Operand.tmp 5) 2, type := 0, pos := "ref.go:74", after := #[], guard := none }) ?_ rfl (by kernel_rfl) (by kernel_rfl) (by kernel_rfl) (fun _ _ _ h => h) (by rfl) (by exact hHeld) ?_ ?_
  rotate_left
  · (intro w0 hS0; go_simp <;> (try with_reducible rfl))
  try simp only [Act.put, List.setIfInBounds_toArray, List.set_cons_zero, List.set_cons_succ]
  refine wpAnyH_read (i := 6) (oi := { dst := some 13, op := Go.Op.fieldAddr 23 (Go.Operand.tmp 5) 3, type := 0, pos := "ref.go:74", after := #[], guard := none }) ?_ rfl (by kernel_rfl) (by kernel_rfl) (by kernel_rfl) (fun _ _ _ h => h) (by rfl) (by exact hHeld) ?_ ?_
  rotate_left
  · (intro w0 hS0; go_simp <;> (try with_reducible rfl))
  try simp only [Act.put, List.setIfInBounds_toArray, List.set_cons_zero, List.set_cons_succ]
  refine wpAnyH_read (i := 8) (oi := { dst := some 15, op := Go.Op.fieldAddr 23 (Go.Operand.tmp 5) 4, type := 0, pos := "ref.go:74", after := #[], guard := none }) ?_ rfl (by kernel_rfl) (by kernel_rfl) (by kernel_rfl) (fun _ _ _ h => h) (by rfl) (by exact hHeld) ?_ ?_
  rotate_left
  · (intro w0 hS0; go_simp <;> (try with_reducible rfl))
  try simp only [Act.put, List.setIfInBounds_toArray, List.set_cons_zero, List.set_cons_succ]
  refine wpAnyH_read (i := 12) (oi := { dst := some 19, op := Go.Op.move (Go.Operand.tmp 0), type := 9, pos := "ref.go:74", after := #[], guard := none }) ?_ rfl (by kernel_rfl) (by kernel_rfl) (by kernel_rfl) (fun _ _ _ h => h) (by rfl) (by exact hHeld) ?_ ?_
  rotate_left
  · (intro w0 hS0; go_simp <;> (try with_reducible rfl))
  try simp only [Act.put, List.setIfInBounds_toArray, List.set_cons_zero, List.set_cons_succ]
  refine wpAnyH_read (i := 13) (oi := { dst := some 20, op := Go.Op.move (Go.Operand.tmp 1), type := 9, pos := "ref.go:74", after := #[], guard := none }) ?_ rfl (by kernel_rfl) (by kernel_rfl) (by kernel_rfl) (fun _ _ _ h => h) (by rfl) (by exact hHeld) ?_ ?_
  rotate_left
  · (intro w0 hS0; go_simp <;> (try with_reducible rfl))
  try simp only [Act.put, List.setIfInBounds_toArray, List.set_cons_zero, List.set_cons_succ]
  refine wpAnyH_read (i := 14) (oi := { dst := some 21, op := Go.Op.fieldAddr 23 (Go.Operand.tmp 5) 1, type := 0, pos := "ref.go:74", after := #[], guard := none }) ?_ rfl (by kernel_rfl) (by kernel_rfl) (by kernel_rfl) (fun _ _ _ h => h) (by rfl) (by exact hHeld) ?_ ?_
  rotate_left
  · (intro w0 hS0; go_simp <;> (try with_reducible rfl))
  try simp only [Act.put, List.setIfInBounds_toArray, List.set_cons_zero, List.set_cons_succ]
  refine wpAnyH_read (i := 16) (oi := { dst := some 23, op := Go.Op.move (Go.Operand.tmp 0), type := 9, pos := "ref.go:74", after := #[], guard := none }) ?_ rfl (by kernel_rfl) (by kernel_rfl) (by kernel_rfl) (fun _ _ _ h => h) (by rfl) (by exact hHeld) ?_ ?_
  rotate_left
  · (intro w0 hS0; go_simp <;> (try with_reducible rfl))
  try simp only [Act.put, List.setIfInBounds_toArray, List.set_cons_zero, List.set_cons_succ]
  refine wpAnyH_read (i := 3) (oi := { dst := some 10, op := Go.Op.load 9 (Go.Operand.tmp 9), type := 9, pos := "ref.go:74", after := #[{ on := 2, ground := Go.Ground.data }], guard := none }) ?_ rfl (by kernel_rfl) (by kernel_rfl) (by kernel_rfl) (fun _ _ _ h => h) (by rfl) (by exact hHeld) ?_ ?_
  rotate_left
  · (intro w0 hS0; obtain ⟨c0, c1, c2, c3, c4, c5, c6, c7, c8, c9⟩ := HP.out w0 hS0; go_simp <;> (try with_reducible rfl))
  try simp only [Act.put, List.setIfInBounds_toArray, List.set_cons_zero, List.set_cons_succ]
  refine wpAnyH_read (i := 5) (oi := { dst := some 12, op := Go.Op.load 9 (Go.Operand.tmp 11), type := 9, pos := "ref.go:74", after := #[{ on := 4, ground := Go.Ground.data }], guard := none }) ?_ rfl (by kernel_rfl) (by kernel_rfl) (by kernel_rfl) (fun _ _ _ h => h) (by rfl) (by exact hHeld) ?_ ?_
  rotate_left
  · (intro w0 hS0; obtain ⟨c0, c1, c2, c3, c4, c5, c6, c7, c8, c9⟩ := HP.out w0 hS0; go_simp <;> (try with_reducible rfl))
  try simp only [Act.put, List.setIfInBounds_toArray, List.set_cons_zero, List.set_cons_succ]
  refine wpAnyH_read (i := 7) (oi := { dst := some 14, op := Go.Op.load 9 (Go.Operand.tmp 13), type := 9, pos := "ref.go:74", after := #[{ on := 6, ground := Go.Ground.data }], guard := none }) ?_ rfl (by kernel_rfl) (by kernel_rfl) (by kernel_rfl) (fun _ _ _ h => h) (by rfl) (by exact hHeld) ?_ ?_
  rotate_left
  · (intro w0 hS0; obtain ⟨c0, c1, c2, c3, c4, c5, c6, c7, c8, c9⟩ := HP.out w0 hS0; go_simp <;> (try with_reducible rfl))
  try simp only [Act.put, List.setIfInBounds_toArray, List.set_cons_zero, List.set_cons_succ]
  refine wpAnyH_read (i := 9) (oi := { dst := some 16, op := Go.Op.load 9 (Go.Operand.tmp 15), type := 9, pos := "ref.go:74", after := #[{ on := 8, ground := Go.Ground.data }], guard := none }) ?_ rfl (by kernel_rfl) (by kernel_rfl) (by kernel_rfl) (fun _ _ _ h => h) (by rfl) (by exact hHeld) ?_ ?_
  rotate_left
  · (intro w0 hS0; obtain ⟨c0, c1, c2, c3, c4, c5, c6, c7, c8, c9⟩ := HP.out w0 hS0; go_simp <;> (try with_reducible rfl))
  try simp only [Act.put, List.setIfInBounds_toArray, List.set_cons_zero, List.set_cons_succ]
  refine wpAnyH_read (i := 15) (oi := { dst := some 22, op := Go.Op.load 9 (Go.Operand.tmp 21), type := 9, pos := "ref.go:74", after := #[{ on := 14, ground := Go.Ground.data }], guard := none }) ?_ rfl (by kernel_rfl) (by kernel_rfl) (by kernel_rfl) (fun _ _ _ h => h) (by rfl) (by exact hHeld) ?_ ?_
  rotate_left
  · (intro w0 hS0; obtain ⟨c0, c1, c2, c3, c4, c5, c6, c7, c8, c9⟩ := HP.out w0 hS0; go_simp <;> (try with_reducible rfl))
  try simp only [Act.put, List.setIfInBounds_toArray, List.set_cons_zero, List.set_cons_succ]
  refine wpAnyH_two (i := 10) (j := 17) (o := { dst := some 17, op := Go.Op.buildSlice 26 5 #[(0, Go.Operand.tmp 10), (1, Go.Operand.tmp 12), (2, Go.Operand.tmp 14), (3, Go.Operand.const (Go.Value.string { data := #[42] })), (4, Go.Operand.tmp 16)], type := 26, pos := "ref.go:74", after := #[{ on := 3, ground := Go.Ground.data }, { on := 5, ground := Go.Ground.data }, { on := 7, ground := Go.Ground.data }, { on := 9, ground := Go.Ground.data }], guard := none }) (o2 := { dst := some 24, op := Go.Op.buildSlice 26 3 #[(0, Go.Operand.tmp 22), (1, Go.Operand.tmp 23), (2, Go.Operand.const (Go.Value.string { data := #[114, 111, 108, 108, 99, 97, 108, 108] }))], type := 26, pos := "ref.go:74", after := #[{ on := 15, ground := Go.Ground.data }, { on := 16, ground := Go.Ground.data }], guard := none }) (by kernel_rfl) rfl rfl (by rfl) (by rfl) (fun K hK => ?_) (fun K hK => ?_)
  · go_simp
    obtain ⟨u1, hu1⟩ : ∃ W, w0.alloc (.cells #[.string (bs n), .string (bs u), .string (bs h), .string ({ data := #[42] } : ByteArray), .string (bs r)] 9) = W := ⟨_, rfl⟩
    rw [hu1]
    obtain ⟨p10, q10⟩ := mkL w0 u1 [n, u, h, [42], r] _ rfl (by simp) hu1
    have F1 : Fr (fun _ => False) W0 u1 := (F0).trans q10
    refine hK.out _ _ ?_ (fun hHeld => ?_)
    · exact F1
    clear hK K
    try simp only [Act.put, List.setIfInBounds_toArray, List.set_cons_zero, List.set_cons_succ]
    refine wpAnyH_two (i := 11) (j := 17) (o := { dst := some 18, op := Go.Op.call { callee := Go.Callee.value (Go.Operand.func 17), args := #[Go.Operand.tmp 7, Go.Operand.const (Go.Value.int Go.IntKind.i64 314), Go.Operand.tmp 8, Go.Operand.tmp 17], argTypes := #[9, 3, 9, 26] }, type := 9, pos := "ref.go:74", after := #[{ on := 0, ground := Go.Ground.data }, { on := 1, ground := Go.Ground.data }, { on := 10, ground := Go.Ground.data }], guard := none }) (o2 := { dst := some 24, op := Go.Op.buildSlice 26 3 #[(0, Go.Operand.tmp 22), (1, Go.Operand.tmp 23), (2, Go.Operand.const (Go.Value.string { data := #[114, 111, 108, 108, 99, 97, 108, 108] }))], type := 26, pos := "ref.go:74", after := #[{ on := 15, ground := Go.Ground.data }, { on := 16, ground := Go.Ground.data }], guard := none }) (by kernel_rfl) rfl rfl (by rfl) (by rfl) (fun K hK => ?_) (fun K hK => ?_)
    · go_simp
      have HN10 := numeric_r server whom 314 _ 5 [n, u, h, [42], r] u1 p10 (by decide) (by decide) (by simp) (by omega) (by omega) (fun p hp => by have := whowas_all hn hu hh hr p hp; omega)
      refine HN10.mono ?_
      rintro e9 u2 ⟨rfl, hb2⟩
      have F2 : Fr (fun _ => False) W0 u2 := (F1).trans (Fr.of_below hb2)
      refine hK.out _ _ ?_ (fun hHeld => ?_)
      · exact F2
      clear hK K
      try simp only [Act.put, List.setIfInBounds_toArray, List.set_cons_zero, List.set_cons_succ]
      refine wpAnyH_one (i := 17) (o := { dst := some 24, op := Go.Op.buildSlice 26 3 #[(0, Go.Operand.tmp 22), (1, Go.Operand.tmp 23), (2, Go.Operand.const (Go.Value.string { data := #[114, 111, 108, 108, 99, 97, 108, 108] }))], type := 26, pos := "ref.go:74", after := #[{ on := 15, ground := Go.Ground.data }, { on := 16, ground := Go.Ground.data }], guard := none }) (by kernel_rfl) rfl (by rfl) (fun K hK => ?_)
      go_simp
      obtain ⟨u3, hu3⟩ : ∃ W, u2.alloc (.cells #[.string (bs n), .string (bs server), .string ({ data := #[114, 111, 108, 108, 99, 97, 108, 108] } : ByteArray)] 9) = W := ⟨_, rfl⟩
      rw [hu3]
      obtain ⟨p17, q17⟩ := mkL u2 u3 [n, server, rollL] _ rfl (by simp) hu3
      have F3 : Fr (fun _ => False) W0 u3 := (F2).trans q17
      refine hK.out _ _ ?_ (fun hHeld => ?_)
      · exact F3
      clear hK K
      try simp only [Act.put, List.setIfInBounds_toArray, List.set_cons_zero, List.set_cons_succ]
      refine wpAnyH_one (i := 18) (o := { dst := some 25, op := Go.Op.call { callee := Go.Callee.value (Go.Operand.func 17), args := #[Go.Operand.tmp 19, Go.Operand.const (Go.Value.int Go.IntKind.i64 312), Go.Operand.tmp 20, Go.Operand.tmp 24], argTypes := #[9, 3, 9, 26] }, type := 9, pos := "ref.go:74", after := #[{ on := 12, ground := Go.Ground.data }, { on := 13, ground := Go.Ground.data }, { on := 17, ground := Go.Ground.data }, { on := 11, ground := Go.Ground.chain }], guard := none }) (by kernel_rfl) rfl (by rfl) (fun K hK => ?_)
      go_simp
      have HN17 := numeric_r server whom 312 _ 3 [n, server, rollL] u3 p17 (by decide) (by decide) (by simp) (by omega) (by omega) (fun p hp => by have := serv_all hn hsv p hp; omega)
      refine HN17.mono ?_
      rintro e9 V2 ⟨rfl, hb4⟩
      have F2z : Fr (fun _ => False) W0 V2 := (F3).trans (Fr.of_below hb4)
      refine hK.out _ _ ?_ (fun hHeld => ?_)
      · exact F2z
      clear hK K
      try simp only [Act.put, List.setIfInBounds_toArray, List.set_cons_zero, List.set_cons_succ]
      refine wpAnyH_one (i := 19) (o := { dst := some 26, op := Go.Op.buildSlice 26 2 #[(0, Go.Operand.tmp 18), (1, Go.Operand.tmp 25)], type := 26, pos := "ref.go:74", after := #[{ on := 11, ground := Go.Ground.data }, { on := 18, ground := Go.Ground.data }], guard := none }) (by kernel_rfl) rfl (by rfl) (fun K hK => ?_)
      go_simp
      refine hK.out _ _ ?_ (fun hHeld => ?_)
      · exact (F2z).alloc _
      clear hK K
      try simp only [Act.put, List.setIfInBounds_toArray, List.set_cons_zero, List.set_cons_succ]
      refine wpAnyH_read (i := 20) (oi := { dst := some 6, op := Go.Op.assign (Go.Operand.tmp 26), type := 26, pos := "ref.go:74", after := #[{ on := 19, ground := Go.Ground.data }, { on := 18, ground := Go.Ground.chain }, { on := 0, ground := Go.Ground.phase }, { on := 1, ground := Go.Ground.phase }, { on := 2, ground := Go.Ground.phase }, { on := 3, ground := Go.Ground.phase }, { on := 4, ground := Go.Ground.phase }, { on := 5, ground := Go.Ground.phase }, { on := 6, ground := Go.Ground.phase }, { on := 7, ground := Go.Ground.phase }, { on := 8, ground := Go.Ground.phase }, { on := 9, ground := Go.Ground.phase }, { on := 10, ground := Go.Ground.phase }, { on := 11, ground := Go.Ground.phase }, { on := 12, ground := Go.Ground.phase }, { on := 13, ground := Go.Ground.phase }, { on := 14, ground := Go.Ground.phase }, { on := 15, ground := Go.Ground.phase }, { on := 16, ground := Go.Ground.phase }, { on := 17, ground := Go.Ground.phase }, { on := 18, ground := Go.Ground.phase }, { on := 19, ground := Go.Ground.phase }], guard := none }) ?_ rfl (by kernel_rfl) (by kernel_rfl) (by kernel_rfl) (fun _ _ _ h => h) (by rfl) (by exact hHeld) ?_ ?_
      rotate_left
      · (intro w0 hS0; go_simp <;> (try with_reducible rfl))
      try simp only [Act.put, List.setIfInBounds_toArray, List.set_cons_zero, List.set_cons_succ]
      refine wpAnyH_done (by kernel_rfl) ?_ _
      have HFin : Hid (Fr (fun _ => False) w V2) := Lib.hid (HF0.out.trans F2z)
      go_wp2_with fail
      go_ret
      refine ⟨some ⟨V2.heap.size, 0, none⟩, 2, rfl, ?_, (HFin.out.alloc _).below (Nat.le_refl _) fun _ _ e => e.elim⟩
      exact reads_new V2 (whowasL server whom n u h r) _ rfl (by simp [whowasL])
    · go_simp
      obtain ⟨u5, hu5⟩ : ∃ W, u1.alloc (.cells #[.string (bs n), .string (bs server), .string ({ data := #[114, 111, 108, 108, 99, 97, 108, 108] } : ByteArray)] 9) = W := ⟨_, rfl⟩
      rw [hu5]
      obtain ⟨p17, q17⟩ := mkL u1 u5 [n, server, rollL] _ rfl (by simp) hu5
      have F5 : Fr (fun _ => False) W0 u5 := (F1).trans q17
      have p10b5 := readsT_frX (X := fun _ => False) p10 q17 fun e => e
      refine hK.out _ _ ?_ (fun hHeld => ?_)
      · exact F5
      clear hK K
      try simp only [Act.put, List.setIfInBounds_toArray, List.set_cons_zero, List.set_cons_succ]
      refine wpAnyH_one (i := 11) (o := { dst := some 18, op := Go.Op.call { callee := Go.Callee.value (Go.Operand.func 17), args := #[Go.Operand.tmp 7, Go.Operand.const (Go.Value.int Go.IntKind.i64 314), Go.Operand.tmp 8, Go.Operand.tmp 17], argTypes := #[9, 3, 9, 26] }, type := 9, pos := "ref.go:74", after := #[{ on := 0, ground := Go.Ground.data }, { on := 1, ground := Go.Ground.data }, { on := 10, ground := Go.Ground.data }], guard := none }) (by kernel_rfl) rfl (by rfl) (fun K hK => ?_)
      go_simp
      have HN10 := numeric_r server whom 314 _ 5 [n, u, h, [42], r] u5 p10b5 (by decide) (by decide) (by simp) (by omega) (by omega) (fun p hp => by have := whowas_all hn hu hh hr p hp; omega)
      refine HN10.mono ?_
      rintro e9 u6 ⟨rfl, hb6⟩
      have F6 : Fr (fun _ => False) W0 u6 := (F5).trans (Fr.of_below hb6)
      have p17b6 := readsT_frX (X := fun _ => False) p17 (Fr.of_below (X := fun _ => False) hb6) fun e => e
      refine hK.out _ _ ?_ (fun hHeld => ?_)
      · exact F6
      clear hK K
      try simp only [Act.put, List.setIfInBounds_toArray, List.set_cons_zero, List.set_cons_succ]
      refine wpAnyH_one (i := 18) (o := { dst := some 25, op := Go.Op.call { callee := Go.Callee.value (Go.Operand.func 17), args := #[Go.Operand.tmp 19, Go.Operand.const (Go.Value.int Go.IntKind.i64 312), Go.Operand.tmp 20, Go.Operand.tmp 24], argTypes := #[9, 3, 9, 26] }, type := 9, pos := "ref.go:74", after := #[{ on := 12, ground := Go.Ground.data }, { on := 13, ground := Go.Ground.data }, { on := 17, ground := Go.Ground.data }, { on := 11, ground := Go.Ground.chain }], guard := none }) (by kernel_rfl) rfl (by rfl) (fun K hK => ?_)
      go_simp
      have HN17 := numeric_r server whom 312 _ 3 [n, server, rollL] u6 p17b6 (by decide) (by decide) (by simp) (by omega) (by omega) (fun p hp => by have := serv_all hn hsv p hp; omega)
      refine HN17.mono ?_
      rintro e9 V2 ⟨rfl, hb7⟩
      have F2z : Fr (fun _ => False) W0 V2 := (F6).trans (Fr.of_below hb7)
      refine hK.out _ _ ?_ (fun hHeld => ?_)
      · exact F2z
      clear hK K
      try simp only [Act.put, List.setIfInBounds_toArray, List.set_cons_zero, List.set_cons_succ]
      refine wpAnyH_one (i := 19) (o := { dst := some 26, op := Go.Op.buildSlice 26 2 #[(0, Go.Operand.tmp 18), (1, Go.Operand.tmp 25)], type := 26, pos := "ref.go:74", after := #[{ on := 11, ground := Go.Ground.data }, { on := 18, ground := Go.Ground.data }], guard := none }) (by kernel_rfl) rfl (by rfl) (fun K hK => ?_)
      go_simp
      refine hK.out _ _ ?_ (fun hHeld => ?_)
      · exact (F2z).alloc _
      clear hK K
      try simp only [Act.put, List.setIfInBounds_toArray, List.set_cons_zero, List.set_cons_succ]
      refine wpAnyH_read (i := 20) (oi := { dst := some 6, op := Go.Op.assign (Go.Operand.tmp 26), type := 26, pos := "ref.go:74", after := #[{ on := 19, ground := Go.Ground.data }, { on := 18, ground := Go.Ground.chain }, { on := 0, ground := Go.Ground.phase }, { on := 1, ground := Go.Ground.phase }, { on := 2, ground := Go.Ground.phase }, { on := 3, ground := Go.Ground.phase }, { on := 4, ground := Go.Ground.phase }, { on := 5, ground := Go.Ground.phase }, { on := 6, ground := Go.Ground.phase }, { on := 7, ground := Go.Ground.phase }, { on := 8, ground := Go.Ground.phase }, { on := 9, ground := Go.Ground.phase }, { on := 10, ground := Go.Ground.phase }, { on := 11, ground := Go.Ground.phase }, { on := 12, ground := Go.Ground.phase }, { on := 13, ground := Go.Ground.phase }, { on := 14, ground := Go.Ground.phase }, { on := 15, ground := Go.Ground.phase }, { on := 16, ground := Go.Ground.phase }, { on := 17, ground := Go.Ground.phase }, { on := 18, ground := Go.Ground.phase }, { on := 19, ground := Go.Ground.phase }], guard := none }) ?_ rfl (by kernel_rfl) (by kernel_rfl) (by kernel_rfl) (fun _ _ _ h => h) (by rfl) (by exact hHeld) ?_ ?_
      rotate_left
      · (intro w0 hS0; go_simp <;> (try with_reducible rfl))
      try simp only [Act.put, List.setIfInBounds_toArray, List.set_cons_zero, List.set_cons_succ]
      refine wpAnyH_done (by kernel_rfl) ?_ _
      have HFin : Hid (Fr (fun _ => False) w V2) := Lib.hid (HF0.out.trans F2z)
      go_wp2_with fail
      go_ret
      refine ⟨some ⟨V2.heap.size, 0, none⟩, 2, rfl, ?_, (HFin.out.alloc _).below (Nat.le_refl _) fun _ _ e => e.elim⟩
      exact reads_new V2 (whowasL server whom n u h r) _ rfl (by simp [whowasL])
  · go_simp
    obtain ⟨u8, hu8⟩ : ∃ W, w0.alloc (.cells #[.string (bs n), .string (bs server), .string ({ data := #[114, 111, 108, 108, 99, 97, 108, 108] } : ByteArray)] 9) = W := ⟨_, rfl⟩
    rw [hu8]
    obtain ⟨p17, q17⟩ := mkL w0 u8 [n, server, rollL] _ rfl (by simp) hu8
    have F8 : Fr (fun _ => False) W0 u8 := (F0).trans q17
    refine hK.out _ _ ?_ (fun hHeld => ?_)
    · exact F8
    clear hK K
    try simp only [Act.put, List.setIfInBounds_toArray, List.set_cons_zero, List.set_cons_succ]
    refine wpAnyH_one (i := 10) (o := { dst := some 17, op := Go.Op.buildSlice 26 5 #[(0, Go.Operand.tmp 10), (1, Go.Operand.tmp 12), (2, Go.Operand.tmp 14), (3, Go.Operand.const (Go.Value.string { data := #[42] })), (4, Go.Operand.tmp 16)], type := 26, pos := "ref.go:74", after := #[{ on := 3, ground := Go.Ground.data }, { on := 5, ground := Go.Ground.data }, { on := 7, ground := Go.Ground.data }, { on := 9, ground := Go.Ground.data }], guard := none }) (by kernel_rfl) rfl (by rfl) (fun K hK => ?_)
    go_simp
    obtain ⟨u9, hu9⟩ : ∃ W, u8.alloc (.cells #[.string (bs n), .string (bs u), .string (bs h), .string ({ data := #[42] } : ByteArray), .string (bs r)] 9) = W := ⟨_, rfl⟩
    rw [hu9]
    obtain ⟨p10, q10⟩ := mkL u8 u9 [n, u, h, [42], r] _ rfl (by simp) hu9
    have F9 : Fr (fun _ => False) W0 u9 := (F8).trans q10
    have p17b9 := readsT_frX (X := fun _ => False) p17 q10 fun e => e
    refine hK.out _ _ ?_ (fun hHeld => ?_)
    · exact F9
    clear hK K
    try simp only [Act.put, List.setIfInBounds_toArray, List.set_cons_zero, List.set_cons_succ]
    refine wpAnyH_one (i := 11) (o := { dst := some 18, op := Go.Op.call { callee := Go.Callee.value (Go.Operand.func 17), args := #[Go.Operand.tmp 7, Go.Operand.const (Go.Value.int Go.IntKind.i64 314), Go.Operand.tmp 8, Go.Operand.tmp 17], argTypes := #[9, 3, 9, 26] }, type := 9, pos := "ref.go:74", after := #[{ on := 0, ground := Go.Ground.data }, { on := 1, ground := Go.Ground.data }, { on := 10, ground := Go.Ground.data }], guard := none }) (by kernel_rfl) rfl (by rfl) (fun K hK => ?_)
    go_simp
    have HN10 := numeric_r server whom 314 _ 5 [n, u, h, [42], r] u9 p10 (by decide) (by decide) (by simp) (by omega) (by omega) (fun p hp => by have := whowas_all hn hu hh hr p hp; omega)
    refine HN10.mono ?_
    rintro e9 u10 ⟨rfl, hb10⟩
    have F10 : Fr (fun _ => False) W0 u10 := (F9).trans (Fr.of_below hb10)
    have p17b10 := readsT_frX (X := fun _ => False) p17b9 (Fr.of_below (X := fun _ => False) hb10) fun e => e
    refine hK.out _ _ ?_ (fun hHeld => ?_)
    · exact F10
    clear hK K
    try simp only [Act.put, List.setIfInBounds_toArray, List.set_cons_zero, List.set_cons_succ]
    refine wpAnyH_one (i := 18) (o := { dst := some 25, op := Go.Op.call { callee := Go.Callee.value (Go.Operand.func 17), args := #[Go.Operand.tmp 19, Go.Operand.const (Go.Value.int Go.IntKind.i64 312), Go.Operand.tmp 20, Go.Operand.tmp 24], argTypes := #[9, 3, 9, 26] }, type := 9, pos := "ref.go:74", after := #[{ on := 12, ground := Go.Ground.data }, { on := 13, ground := Go.Ground.data }, { on := 17, ground := Go.Ground.data }, { on := 11, ground := Go.Ground.chain }], guard := none }) (by kernel_rfl) rfl (by rfl) (fun K hK => ?_)
    go_simp
    have HN17 := numeric_r server whom 312 _ 3 [n, server, rollL] u10 p17b10 (by decide) (by decide) (by simp) (by omega) (by omega) (fun p hp => by have := serv_all hn hsv p hp; omega)
    refine HN17.mono ?_
    rintro e9 V2 ⟨rfl, hb11⟩
    have F2z : Fr (fun _ => False) W0 V2 := (F10).trans (Fr.of_below hb11)
    refine hK.out _ _ ?_ (fun hHeld => ?_)
    · exact F2z
    clear hK K
    try simp only [Act.put, List.setIfInBounds_toArray, List.set_cons_zero, List.set_cons_succ]
    refine wpAnyH_one (i := 19) (o := { dst := some 26, op := Go.Op.buildSlice 26 2 #[(0, Go.Operand.tmp 18), (1, Go.Operand.tmp 25)], type := 26, pos := "ref.go:74", after := #[{ on := 11, ground := Go.Ground.data }, { on := 18, ground := Go.Ground.data }], guard := none }) (by kernel_rfl) rfl (by rfl) (fun K hK => ?_)
    go_simp
    refine hK.out _ _ ?_ (fun hHeld => ?_)
    · exact (F2z).alloc _
    clear hK K
    try simp only [Act.put, List.setIfInBounds_toArray, List.set_cons_zero, List.set_cons_succ]
    refine wpAnyH_read (i := 20) (oi := { dst := some 6, op := Go.Op.assign (Go.Operand.tmp 26), type := 26, pos := "ref.go:74", after := #[{ on := 19, ground := Go.Ground.data }, { on := 18, ground := Go.Ground.chain }, { on := 0, ground := Go.Ground.phase }, { on := 1, ground := Go.Ground.phase }, { on := 2, ground := Go.Ground.phase }, { on := 3, ground := Go.Ground.phase }, { on := 4, ground := Go.Ground.phase }, { on := 5, ground := Go.Ground.phase }, { on := 6, ground := Go.Ground.phase }, { on := 7, ground := Go.Ground.phase }, { on := 8, ground := Go.Ground.phase }, { on := 9, ground := Go.Ground.phase }, { on := 10, ground := Go.Ground.phase }, { on := 11, ground := Go.Ground.phase }, { on := 12, ground := Go.Ground.phase }, { on := 13, ground := Go.Ground.phase }, { on := 14, ground := Go.Ground.phase }, { on := 15, ground := Go.Ground.phase }, { on := 16, ground := Go.Ground.phase }, { on := 17, ground := Go.Ground.phase }, { on := 18, ground := Go.Ground.phase }, { on := 19, ground := Go.Ground.phase }], guard := none }) ?_ rfl (by kernel_rfl) (by kernel_rfl) (by kernel_rfl) (fun _ _ _ h => h) (by rfl) (by exact hHeld) ?_ ?_
    rotate_left
    · (intro w0 hS0; go_simp <;> (try with_reducible rfl))
    try simp only [Act.put, List.setIfInBounds_toArray, List.set_cons_zero, List.set_cons_succ]
    refine wpAnyH_done (by kernel_rfl) ?_ _
    have HFin : Hid (Fr (fun _ => False) w V2) := Lib.hid (HF0.out.trans F2z)
    go_wp2_with fail
    go_ret
    refine ⟨some ⟨V2.heap.size, 0, none⟩, 2, rfl, ?_, (HFin.out.alloc _).below (Nat.le_refl _) fun _ _ e => e.elim⟩
    exact reads_new V2 (whowasL server whom n u h r) _ rfl (by simp [whowasL])
end Go.Proofs.YtkbgpajconhgjaaGreatDoor
end
section
/- Layer 22: Whois, both sides. -/
namespace Go.Proofs.YtkbgpajconhgjaaGreatDoor
open Go Go.RowKit

def operL : List UInt8 := [105, 115, 32, 97, 110, 32, 73, 82, 67, 32, 111, 112, 101, 114, 97, 116, 111, 114]
def idleL : List UInt8 := [115, 101, 99, 111, 110, 100, 115, 32, 105, 100, 108, 101, 44, 32, 115, 105, 103, 110, 111, 110, 32, 116, 105, 109, 101]
def chanS (server whom n : List UInt8) (ws : List (List UInt8)) : List (List UInt8) := if ws = [] then [] else packL server whom 319 [n] ws
def awayS (server whom n y : List UInt8) : List (List UInt8) := if y = [] then [] else [numL server whom 301 [n, y]]
def operS (server whom n : List UInt8) (o : Bool) : List (List UInt8) := if o = true then [numL server whom 313 [n, operL]] else []
/-- the lines of WHOIS -/
def whoisL (server whom n u h r y : List UInt8) (o : Bool) (sp si now : Int) (ws : List (List UInt8)) : List (List UInt8) :=
  (((([numL server whom 311 [n, u, h, [42], r]] ++ chanS server whom n ws) ++ [numL server whom 312 [n, server, rollL]]) ++ awayS server whom n y) ++ operS server whom n o) ++ [numL server whom 317 [n, behL now sp, behL si 0, idleL]]
theorem beh_len (a b : Int) (h : a - b < 18446744073709551616) : (behL a b).length ≤ 20 := by
  unfold behL
  split
  · decide
  · exact dec_len 19 _ (by omega)
theorem away_all {n y : List UInt8} (hn : n.length ≤ 200) (hy : y.length ≤ 200) : ∀ p ∈ [n, y], p.length ≤ 1000 := by
  intro p hp
  simp only [List.mem_cons, List.not_mem_nil, or_false] at hp
  rcases hp with rfl | rfl <;> omega
theorem oper_all {n : List UInt8} (hn : n.length ≤ 200) : ∀ p ∈ [n, operL], p.length ≤ 1000 := by
  intro p hp
  simp only [List.mem_cons, List.not_mem_nil, or_false] at hp
  rcases hp with rfl | rfl <;> first | omega | decide
theorem idle_all {n a b : List UInt8} (hn : n.length ≤ 200) (ha : a.length ≤ 20) (hb : b.length ≤ 20) : ∀ p ∈ [n, a, b, idleL], p.length ≤ 1000 := by
  intro p hp
  simp only [List.mem_cons, List.not_mem_nil, or_false] at hp
  rcases hp with rfl | rfl | rfl | rfl <;> first | omega | decide
theorem long_ok {server whom n : List UInt8} (hsv : server.length ≤ 100) (hwh : whom.length ≤ 100) (hn : n.length ≤ 200) : longN server [whom, n] ≤ 510 ∧ longN server [whom, n] ≠ 0 := by
  have h1 := clean_len server
  have h2 := clean_len whom
  have h3 := clean_len n
  have h4 : headN server ≤ 102 := by unfold headN; split <;> omega
  unfold longN
  simp only [List.map_cons, List.map_nil, List.sum_cons, List.sum_nil]
  unfold lenP
  omega
theorem rows_len (ah : Nat) {xs : List (List UInt8)} (h : ∀ x ∈ xs, x.length ≤ 500) : (rowsP ah (wholeL xs)).length ≤ xs.length + 1 := by
  have h1 := (pkOk_all (ah := ah) (whole_ok h)).2
  have h2 := whole_len xs
  unfold rowsP
  rw [List.length_append]
  simp only [List.length_cons, List.length_nil]
  omega
theorem packL_len (server whom : List UInt8) (n : Nat) (ps : List (List UInt8)) {xs : List (List UInt8)} (h : ∀ x ∈ xs, x.length ≤ 500) : (packL server whom n ps xs).length ≤ xs.length + 1 := by
  unfold packL
  rw [List.length_map]
  exact rows_len _ h
theorem emp_iff (y : List UInt8) : (bs y).toList.isEmpty = decide (y = []) := by
  cases y with
  | nil => first | decide | kernel_rfl | simp
  | cons a r => rw [str_ne (s := bs (a :: r)) (by simp)]; simp
end Go.Proofs.YtkbgpajconhgjaaGreatDoor
end
