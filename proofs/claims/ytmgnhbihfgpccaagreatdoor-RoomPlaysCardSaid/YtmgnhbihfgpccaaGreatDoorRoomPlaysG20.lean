/- Texts of this proof, one behind the other. -/
import Derived.Test.YtmgnhbihfgpccaaGreatDoorRows
import Derived.Test.YtmgnhbihfgpccaaGreatDoorRoomPlaysG19
import Derived.ProofKit
import Derived.OpenShut
import Derived.LaidMore
import Derived.Lay
import Derived.Test.YtmgnhbihfgpccaaGreatDoorRoomPlaysG8
import Derived.Test.YtmgnhbihfgpccaaGreatDoorRoomPlaysG1
import Derived.Test.YtmgnhbihfgpccaaGreatDoorRoomPlaysG6
import Derived.Test.YtmgnhbihfgpccaaGreatDoorRoomPlaysG2
import Derived.Lib.ItoaNum
import Derived.IntWalk
import Derived.Shelf.RegionOpenPlain
import Derived.Lib.Hide
import Derived.Test.YtmgnhbihfgpccaaGreatDoorRoomPlaysG14
import Derived.Test.YtmgnhbihfgpccaaGreatDoorRoomPlaysG12
import Derived.Test.YtmgnhbihfgpccaaGreatDoorRoomPlaysG5
set_option linter.unusedVariables false
set_option linter.unusedSimpArgs false
section
/- Layer 19: what is laid, read. -/
namespace Go.Proofs.YtmgnhbihfgpccaaGreatDoor
open Go Go.ChangeShapes Go.WideShapes Go.ChangeAt Go.RowKit

theorem rowed_of19 {W : World} (h : laidMetH Tryz.prog [("math/bits.deBruijn32tab", Rows.laid_math_bits_deBruijn32tab), ("math/bits.deBruijn64tab", Rows.laid_math_bits_deBruijn64tab), ("internal/strconv.uint64pow10", Rows.laid_internal_strconv_uint64pow10), ("unicode/utf8.acceptRanges", Rows.laid_unicode_utf8_acceptRanges), ("strconv.ErrRange", Rows.laid_strconv_ErrRange), ("strconv.ErrSyntax", Rows.laid_strconv_ErrSyntax), ("rollcall/valid.bytesOf", Rows.laid_rollcall_valid_bytesOf), ("unicode/utf8.first", Rows.laid_unicode_utf8_first)] W) : Rowed W := by
  rw [MakeChecks.laidMetH_plain _ _ _ (by kernel_rfl)] at h
  obtain ⟨ps, ⟨_, _, _, _, _, _, _, _, _, _, ⟨_, _, _, _, _, _, _, _, _, _, ⟨_, _, _, _, _, _, _, _, _, _, ⟨_, _, _, _, _, _, _, _, _, _, ⟨_, _, _, _, _, _, _, _, _, _, ⟨_, _, _, _, _, _, _, _, _, _, ⟨g, t, cs, fuel, p, q, hg, ht, hv, hd, _, _⟩, _⟩, _⟩, _⟩, _⟩, _⟩, _⟩, _⟩ := h
  obtain rfl := Option.some.inj ((show Tryz.prog.globalNamed "rollcall/valid.bytesOf" = some 1 by kernel_rfl).symm.trans hg)
  obtain rfl := Option.some.inj ((show (Tryz.prog.globals[1]?).map (·.type) = some 168 by kernel_rfl).symm.trans ht)
  obtain ⟨xs, m, _, ex, _, hl, hel⟩ := DataW.trod_array Tryz.underlying168 hd
  intro i hi
  have c5 : Tryz.prog.cellsOf 9 = 1 := by kernel_rfl
  have e3 : (xs.map (·.1)) = (List.range 11).map fun k => .lit (.string (laidRow k)) := (DataW.agg.inj (Prod.mk.inj ex).1).symm
  have hlen : xs.length = 11 := by have := congrArg List.length e3; simpa using this
  have hE := hel i (by omega)
  rw [c5, Nat.mul_one, List.getElem?_eq_getElem (by omega)] at hE
  obtain ⟨s, e1, e2, _⟩ := DataW.trod_string Tryz.underlying9 hE
  have e4 : (xs.map (·.1))[i]? = ((List.range 11).map fun k => (DataW.lit (.string (laidRow k)) : DataW Unit))[i]? := by rw [e3]
  rw [List.getElem?_map, List.getElem?_map, List.getElem?_eq_getElem (by omega : i < xs.length), List.getElem?_eq_getElem (by simpa using hi : i < (List.range 11).length), e2] at e4
  have hz : s.data.toList = laidRow i := by
    simp only [Option.map_some, Option.some.injEq, DataW.lit.injEq, Lit.string.injEq, List.getElem_range] at e4
    exact e4
  refine ⟨s, ?_, hz⟩
  rw [World.var?_cell hg hv i]
  have : cs.toList[i]? = some (.string s) := by
    have h0 : ((cs.toList.drop i).take 1)[0]? = some (.string s) := by rw [e1]; rfl
    simpa using h0
  simpa using this
theorem pow_of19 {W : World} (h : laidMetH Tryz.prog [("math/bits.deBruijn32tab", Rows.laid_math_bits_deBruijn32tab), ("math/bits.deBruijn64tab", Rows.laid_math_bits_deBruijn64tab), ("internal/strconv.uint64pow10", Rows.laid_internal_strconv_uint64pow10), ("unicode/utf8.acceptRanges", Rows.laid_unicode_utf8_acceptRanges), ("strconv.ErrRange", Rows.laid_strconv_ErrRange), ("strconv.ErrSyntax", Rows.laid_strconv_ErrSyntax), ("rollcall/valid.bytesOf", Rows.laid_rollcall_valid_bytesOf), ("unicode/utf8.first", Rows.laid_unicode_utf8_first)] W) : PowR W := by
  rw [MakeChecks.laidMetH_plain _ _ _ (by kernel_rfl)] at h
  obtain ⟨ps, ⟨_, _, _, _, _, _, _, _, _, _, ⟨_, _, _, _, _, _, _, _, _, _, ⟨g, t, cs, fuel, p, q, hg, ht, hv, hd, _, _⟩, _⟩, _⟩, _⟩ := h
  obtain rfl := Option.some.inj (powGR.symm.trans hg)
  obtain rfl := Option.some.inj ((show (Tryz.prog.globals[0]?).map (·.type) = some 166 by kernel_rfl).symm.trans ht)
  unfold PowR Lib.TabIs
  rw [hv, ← Lib.cells_of_tab (zs := Lib.pow10Tab) (k := .u64) Tryz.underlying166 Tryz.underlying140 (by kernel_rfl) (by kernel_rfl) hd]
/-- what the laws of this layer ask of the world -/
def Laid19 (W : World) : Prop := Rowed W ∧ PowR W
end Go.Proofs.YtmgnhbihfgpccaaGreatDoor
end
section
/- Layer 19: small words of the laws, once more (RmYy, RmC2 hold them too: a claim must stay below its size). -/
namespace Go.Proofs.YtmgnhbihfgpccaaGreatDoor
open Go Go.RowKit

theorem readsA_of {w : World} {A : Option Addr} {l : List Act19} (h : 0 < l.length → ∃ g o, A = some ⟨g, o, none⟩ ∧ g < w.heap.size ∧ ∀ i (h : i < l.length) j u, (encA l[i])[j]? = some u → w.cell? ⟨g, o + i * 7 + j, none⟩ = some u) : ReadsA w A l := fun h0 => by
  obtain ⟨g, o, h1, h2, h3⟩ := h h0
  refine ⟨g, o, h1, h2, fun j hj i hi => ?_⟩
  have hl : i < (encA l[j]).length := hi
  rw [List.getElem?_eq_getElem hl]
  exact h3 j hj i _ (List.getElem?_eq_getElem hl)
theorem two_new {w w1 w2 : World} {B B2 : Nat} {q : RmV} {qx : RxV} {r : Rm} {x : Rx} (h1 : RoomAt w.heap.size B q r w1) (hb1 : RowKit.Below w.heap.size w w1) (h2 : RxAt w1.heap.size B2 qx x w2) (hb2 : RowKit.Below w1.heap.size w1 w2) : Two19 w.heap.size B q r B2 qx x w2 := by
  refine ⟨h1.below hb2, ?_, fun k hk e => by have := (h1.lt k hk).2; have := (h2.lt k e).1; omega⟩
  obtain ⟨g1, g2, g3, g4, g5⟩ := h2
  have hz := hb1.size
  exact ⟨g1, ownM_base g2 hz, ownT_base g3 hz, ownI_base g4 hz, by omega⟩
theorem texts_same {W : World} {A C : Option Addr} {xs : List (List UInt8)} (c1 c2 : Nat) (hl : xs.length ≤ 100000) (h1 : ReadsT W A xs) (h2 : ReadsT W C xs) :
    Calls Tryz.prog 15 #[.slice A xs.length c1, .slice C xs.length c2] W fun e w' => e = .returned (.bool true) ∧ ∃ n, w' = W.drewN n := by
  have hrow : ∀ {D : Option Addr}, ReadsT W D xs → RowT W D (xs.map bs) := fun {D} h h0 => by
    rw [List.length_map] at h0
    obtain ⟨g, o, a, _, b⟩ := h h0
    exact ⟨g, o, a, fun i hi => by rw [List.length_map] at hi; rw [b i hi, List.getElem_map]⟩
  have h := texts_any A C (xs.map bs) (xs.map bs) c1 c2 W (by rw [List.length_map]; exact hl) (hrow h1) (hrow h2)
  rw [List.length_map] at h
  refine h.mono ?_
  rintro e w' ⟨rfl, hw⟩
  exact ⟨by rw [decide_eq_true rfl], hw⟩
end Go.Proofs.YtmgnhbihfgpccaaGreatDoor
end
section
/- The answers' decimal digits: any number. -/
namespace Go.Proofs.YtmgnhbihfgpccaaGreatDoor
open Go Go.RowKit Go.Shelf Go.Lib

def dg (n : Nat) : UInt8 := UInt8.ofNat (48 + n % 10)
theorem dg_nat (n : Nat) : (dg n).toNat = 48 + n % 10 := by simp [dg]; omega
theorem conv_dg {W : World} {B n : Nat} {m : Int} {T : TypeId} (hm : m = ((48 + n % 10 : Nat) : Int)) (hk : W.heap[B]? = some (.cells #[.int .u8 m] T (0, 0))) :
    ((convert 81 9 (.slice (some ⟨B, 0, none⟩) 1 1)).run Tryz.prog W).andThen (fun a w' => Result.ok (Next.value a) w') = .ok (.value (.string (bs [dg n]))) W := by
  have h : (convert 81 9 (.slice (some ⟨B, 0, none⟩) 1 1)).run Tryz.prog W = .ok (.string (bs [dg n])) W := by
    refine run_convert_bytes_back W _ _ 5 ⟨B, 0, none⟩ 1 [dg n] Tryz.underlying81 Tryz.underlying5 Tryz.underlying9 fun j hj => ?_
    obtain rfl : j = 0 := by simp at hj; omega
    have := blk_cell hk 0
    simp only [List.getElem_cons_zero, dg_nat]
    rw [← hm]
    exact this
  rw [h]; rfl
set_option maxRecDepth 100000 in
set_option maxHeartbeats 4000000 in
theorem digits_one (n : Nat) (h : n < 10) (w : World) : Calls Tryz.prog 74 #[.int .i64 n] w fun e w' => e = .returned (.string (bs [dg n])) ∧ RowKit.Below w.heap.size w w' := by
  have h1 : ((n : Int) < 10) := by omega
  have q1 : decide ((n : Int) < 10) = true := by simp; omega
  have hc := conv_dg (n := n) (m := 48 + (n : Int)) (by omega) (heap_alloc_new w (Obj.cells #[Value.int IntKind.u8 (48 + (n : Int))] 5))
  go_enter Tryz.func74, Tryz.ntmps74
  go_wp2_with fail
  go_ret
  exact ⟨rfl, (Below.refl _ w).alloc (Nat.le_refl _) _⟩
theorem wrap8 {a : Int} (h : 0 ≤ a ∧ a < 256) : IntKind.u8.wrap a = a := by
  simp [IntKind.wrap, IntKind.signed, IntKind.bits]
  omega
set_option maxRecDepth 100000 in
set_option maxHeartbeats 8000000 in
theorem digits_more (n q r : Nat) (h : 10 ≤ n) (hn : n < 9223372036854775808) (hq : n / 10 = q) (hr : n % 10 = r) (l : List UInt8) (hll : l.length ≤ 100) (hrec : ∀ W, Calls Tryz.prog 74 #[.int .i64 q] W fun e W' => e = .returned (.string (bs l)) ∧ RowKit.Below W.heap.size W W') (w : World) :
    Calls Tryz.prog 74 #[.int .i64 n] w fun e w' => e = .returned (.string (bs l ++ bs [dg n])) ∧ RowKit.Below w.heap.size w w' := by
  have h1 : ¬ ((n : Int) < 10) := by omega
  have q1 : decide ((n : Int) < 10) = false := by simp; omega
  have q2 : (n : Int).tdiv 10 = (q : Int) := by rw [← hq]; rfl
  have q3 : (n : Int).tmod 10 = (r : Int) := by rw [← hr]; rfl
  have r1 : (r : Int) < 10 := by omega
  have r0 : r < 10 := by omega
  have w1 : IntKind.i64.wrap (q : Int) = (q : Int) := IntWalk.i64_in _ ⟨by omega, by omega⟩
  have w2 : IntKind.i64.wrap (48 + (r : Int)) = 48 + (r : Int) := IntWalk.i64_in _ ⟨by omega, by omega⟩
  have w3 : IntKind.u8.wrap (48 + (r : Int)) = 48 + (r : Int) := wrap8 ⟨by omega, by omega⟩
  have hc : ∀ V B, V.heap[B]? = some (.cells #[.int .u8 (48 + (r : Int))] 5 (0, 0)) → ((convert 81 9 (.slice (some ⟨B, 0, none⟩) 1 1)).run Tryz.prog V).andThen (fun a w' => Result.ok (Next.value a) w') = .ok (.value (.string (bs [dg n]))) V := fun V B hV => conv_dg (by omega) hV
  have c0 := hc _ _ (heap_alloc_new w.drew (Obj.cells #[Value.int IntKind.u8 (48 + (r : Int))] 5))
  have c1 := hc ((w.alloc (Obj.cells #[Value.int IntKind.u8 (48 + (r : Int))] 5)).drew) _ (heap_alloc_new w (Obj.cells #[Value.int IntKind.u8 (48 + (r : Int))] 5))
  have HD : Hid (Calls Tryz.prog 74 #[.int .i64 q] w.drew fun e v2 => e = .returned (.string (bs l)) ∧ ((convert 81 9 (.slice (some ⟨v2.heap.size, 0, none⟩) 1 1)).run Tryz.prog (v2.alloc (Obj.cells #[Value.int IntKind.u8 (48 + (r : Int))] 5))).andThen (fun a w' => Result.ok (Next.value a) w') = .ok (.value (.string (bs [dg n]))) (v2.alloc (Obj.cells #[Value.int IntKind.u8 (48 + (r : Int))] 5)) ∧ Hid (Fr (fun _ => False) w v2)) :=
    (hrec w.drew).mono fun e v2 ⟨he, b⟩ => ⟨he, hc _ _ (heap_alloc_new v2 _), ((Fr.refl (fun _ => False) w).drew).trans (Fr.of_below b)⟩
  have HA : Hid (Calls Tryz.prog 74 #[.int .i64 q] (w.alloc (Obj.cells #[Value.int IntKind.u8 (48 + (r : Int))] 5)).drew fun e v2 => e = .returned (.string (bs l)) ∧ ((convert 81 9 (.slice (some ⟨w.heap.size, 0, none⟩) 1 1)).run Tryz.prog v2).andThen (fun a w' => Result.ok (Next.value a) w') = .ok (.value (.string (bs [dg n]))) v2 ∧ Hid (Fr (fun _ => False) w v2)) :=
    (hrec _).mono fun e v2 ⟨he, b⟩ => ⟨he, hc _ _ ((Fr.of_below (X := fun _ => False) b).blk (heap_alloc_new w (Obj.cells #[Value.int IntKind.u8 (48 + (r : Int))] 5)) fun e => e), (((Fr.refl (fun _ => False) w).alloc _).drew).trans (Fr.of_below b)⟩
  have hn2 : (bs l).size ≤ 1000000 := by rw [bs_size]; omega
  have mixed : (Tryz.prog).follows Departure.mixedOrders = true := by kernel_rfl
  clear hrec hc
  go_enter Tryz.func74, Tryz.ntmps74
  go_upto_region 3 with fail
  go_region_with_o (first | (with_reducible refine HD.out.mono ?_; rintro e v2 ⟨rfl, g1, HV⟩) | (with_reducible refine HA.out.mono ?_; rintro e v2 ⟨rfl, g1, HV⟩))
  all_goals go_wp2_with fail
  all_goals go_ret
  all_goals first
    | exact ⟨rfl, (HV.out.alloc _).below (Nat.le_refl _) fun _ _ e => e.elim⟩
    | exact ⟨rfl, HV.out.below (Nat.le_refl _) fun _ _ e => e.elim⟩
theorem dec_len : ∀ (k n : Nat), n < 10 ^ (k + 1) → (Lib.decDigits n).length ≤ k + 1
  | 0, n, h => by
    unfold Lib.decDigits
    rw [dif_pos (by omega)]
    exact Nat.le_refl _
  | k + 1, n, h => by
    unfold Lib.decDigits
    split
    · simp
    · have := dec_len k (n / 10) (by rw [Nat.pow_succ] at h; omega)
      rw [List.length_append]
      simp
      omega
theorem dec_len19 {n : Nat} (h : n < 9223372036854775808) : (Lib.decDigits n).length ≤ 19 := dec_len 18 n (by omega)
theorem digits_all (n : Nat) (h : n < 9223372036854775808) (w : World) : Calls Tryz.prog 74 #[.int .i64 n] w fun e w' => e = .returned (.string (bs (Lib.decDigits n))) ∧ RowKit.Below w.heap.size w w' := by
  induction n using Nat.strongRecOn generalizing w with
  | ind n ih =>
    by_cases h1 : n < 10
    · have := digits_one n h1 w
      unfold Lib.decDigits
      rw [dif_pos h1]
      have e : dg n = UInt8.ofNat (48 + n) := by unfold dg; rw [Nat.mod_eq_of_lt h1]
      rw [← e]
      exact this
    · have := digits_more n (n / 10) (n % 10) (by omega) h rfl rfl (Lib.decDigits (n / 10)) (Nat.le_trans (dec_len19 (by omega)) (by decide)) (fun V => ih (n / 10) (by omega) (by omega) V) w
      rw [bs_append] at this
      unfold Lib.decDigits
      rw [dif_neg h1]
      have e : dg n = UInt8.ofNat (48 + n % 10) := rfl
      rw [← e]
      exact this
theorem itoa_len {n : Int} (h0 : -9223372036854775808 ≤ n) (h1 : n ≤ 9223372036854775807) : (Lib.itoa n).length ≤ 20 := by
  unfold Lib.itoa
  split
  · have := dec_len 18 n.natAbs (by omega)
    simp
    omega
  · have := dec_len19 (n := n.toNat) (by omega)
    omega
set_option maxRecDepth 100000 in
set_option maxHeartbeats 4000000 in
theorem num_pos (n : Int) (h : 0 ≤ n) (h1 : n ≤ 9223372036854775807) (w : World) : Calls Tryz.prog 44 #[.int .i64 n] w fun e w' => e = .returned (.string (bs (Lib.itoa n))) ∧ RowKit.Below w.heap.size w w' := by
  have hd := digits_all n.toNat (by omega) w
  rw [Int.toNat_of_nonneg h] at hd
  have he : Lib.itoa n = Lib.decDigits n.toNat := by unfold Lib.itoa; rw [if_neg (by omega)]
  rw [he]
  have HD := Lib.hid hd
  have q1 : n ≥ 0 := h
  have q2 : decide (0 ≤ n) = true := by simpa using h
  clear hd he
  go_enter Tryz.func44, Tryz.ntmps44
  go_wp2_with fail
  refine HD.out.mono ?_
  rintro e w1 ⟨rfl, b1⟩
  have B1 := Lib.hid b1
  clear b1
  go_wp2_with fail
  go_ret
  exact ⟨rfl, B1.out⟩
set_option maxRecDepth 100000 in
set_option maxHeartbeats 4000000 in
theorem num_small (n : Int) (h : n < 0) (h1 : -10 < n) (w : World) : Calls Tryz.prog 44 #[.int .i64 n] w fun e w' => e = .returned (.string (bs (Lib.itoa n))) ∧ RowKit.Below w.heap.size w w' := by
  have hd := digits_all n.natAbs (by omega) w
  rw [show ((n.natAbs : Nat) : Int) = -n by omega] at hd
  have he : bs (Lib.itoa n) = ⟨#[45]⟩ ++ bs (Lib.decDigits n.natAbs) := by
    unfold Lib.itoa
    rw [if_pos h]
    exact (bs_append [45] _).symm
  rw [he]
  have hl : (Lib.decDigits n.natAbs).length ≤ 19 := dec_len19 (by omega)
  obtain ⟨sd, hsd⟩ : ∃ sd, bs (Lib.decDigits n.natAbs) = sd := ⟨_, rfl⟩
  have hsz : sd.size ≤ 19 := by rw [← hsd, bs_size]; exact hl
  rw [hsd] at hd ⊢
  have HD := Lib.hid hd
  have q1 : ¬ n ≥ 0 := by omega
  have q2 : decide (0 ≤ n) = false := by simp; omega
  have q3 : n > -10 := h1
  have q4 : decide (-10 < n) = true := by simpa using h1
  have w1 : IntKind.i64.wrap (-n) = -n := IntWalk.i64_in _ ⟨by omega, by omega⟩
  clear hd he hsd hl
  go_enter Tryz.func44, Tryz.ntmps44
  go_wp2_with fail
  refine HD.out.mono ?_
  rintro e w1 ⟨rfl, b1⟩
  have B1 := Lib.hid b1
  clear b1
  go_wp2_with fail
  go_ret
  exact ⟨rfl, B1.out⟩
theorem tmod_neg10 (n : Int) (h : n ≤ 0) : -10 < n.tmod 10 ∧ n.tmod 10 ≤ 0 := by
  have e : n.tmod 10 = -((-n).tmod 10) := by rw [Int.neg_tmod]; omega
  have e2 : (-n).tmod 10 = (-n) % 10 := Int.tmod_eq_emod_of_nonneg (by omega)
  rw [e, e2]
  omega
set_option maxRecDepth 100000 in
set_option maxHeartbeats 4000000 in
theorem num_more (n q r : Int) (h : n ≤ -10) (h0 : -9223372036854775808 ≤ n) (hq : n.tdiv 10 = q) (hr : n.tmod 10 = r) (hrec : ∀ W, Calls Tryz.prog 44 #[.int .i64 q] W fun e w' => e = .returned (.string (bs (Lib.itoa q))) ∧ RowKit.Below W.heap.size W w') (w : World) : Calls Tryz.prog 44 #[.int .i64 n] w fun e w' => e = .returned (.string (bs (Lib.itoa n))) ∧ RowKit.Below w.heap.size w w' := by
  have hdm := Int.mul_tdiv_add_tmod n 10
  rw [hq, hr] at hdm
  have hr2 : -10 < r ∧ r ≤ 0 := by
    subst hr
    exact tmod_neg10 n (by omega)
  have hd := fun W => digits_all r.natAbs (by omega) W
  simp only [show ((r.natAbs : Nat) : Int) = -r by omega] at hd
  have he : bs (Lib.itoa n) = bs (Lib.itoa q) ++ bs (Lib.decDigits r.natAbs) := by
    rw [bs_append]
    congr 1
    unfold Lib.itoa
    rw [if_pos (by omega), if_pos (by omega)]
    rw [List.cons_append]
    congr 1
    have e1 : q.natAbs = n.natAbs / 10 := by omega
    have e2 : r.natAbs = n.natAbs % 10 := by omega
    rw [e1, e2]
    conv => lhs; unfold Lib.decDigits
    rw [dif_neg (by omega)]
    congr 1
    unfold Lib.decDigits
    rw [dif_pos (by omega)]
  rw [he]
  have hl : (Lib.decDigits r.natAbs).length ≤ 19 := dec_len19 (by omega)
  have hl2 := itoa_len (n := q) (by omega) (by omega)
  obtain ⟨sd, hsd⟩ : ∃ sd, bs (Lib.decDigits r.natAbs) = sd := ⟨_, rfl⟩
  have hsz : sd.size ≤ 19 := by rw [← hsd, bs_size]; exact hl
  obtain ⟨sq, hsq⟩ : ∃ sq, bs (Lib.itoa q) = sq := ⟨_, rfl⟩
  have hsz2 : sq.size ≤ 20 := by rw [← hsq, bs_size]; exact hl2
  simp only [hsd] at hd ⊢
  simp only [hsq] at hrec ⊢
  have HD := Lib.hid hd
  have HRE := Lib.hid hrec
  have q1 : ¬ n ≥ 0 := by omega
  have q2 : decide (0 ≤ n) = false := by simp; omega
  have q3 : ¬ n > -10 := by omega
  have q4 : decide (-10 < n) = false := by simp; omega
  have w0 : IntKind.i64.wrap q = q := IntWalk.i64_in _ ⟨by omega, by omega⟩
  have w1 : IntKind.i64.wrap (-r) = -r := IntWalk.i64_in _ ⟨by omega, by omega⟩
  have w2 : IntKind.i64.wrap r = r := IntWalk.i64_in _ ⟨by omega, by omega⟩
  clear hd he hsd hl hrec hsq hl2 hdm
  go_enter Tryz.func44, Tryz.ntmps44
  go_wp2_with fail
  refine (HRE.out _).mono ?_
  rintro e w3 ⟨rfl, b3⟩
  have B3 := Lib.hid b3
  clear b3
  go_wp2_with fail
  refine (HD.out _).mono ?_
  rintro e w4 ⟨rfl, b4⟩
  have B4 := Lib.hid (B3.out.trans (b4.mono B3.out.size))
  clear b4
  go_wp2_with fail
  go_ret
  exact ⟨rfl, B4.out⟩
theorem num_all (n : Int) (h0 : -9223372036854775808 ≤ n) (h1 : n ≤ 9223372036854775807) (w : World) : Calls Tryz.prog 44 #[.int .i64 n] w fun e w' => e = .returned (.string (bs (Lib.itoa n))) ∧ RowKit.Below w.heap.size w w' := by
  have key : ∀ (m : Nat) (n : Int), n.natAbs = m → -9223372036854775808 ≤ n → n ≤ 9223372036854775807 → ∀ W, Calls Tryz.prog 44 #[.int .i64 n] W fun e w' => e = .returned (.string (bs (Lib.itoa n))) ∧ RowKit.Below W.heap.size W w' := by
    intro m
    induction m using Nat.strongRecOn with
    | ind m ih =>
      intro n hn h0 h1 W
      by_cases hp : 0 ≤ n
      · exact num_pos n hp h1 W
      · by_cases hs : -10 < n
        · exact num_small n (by omega) hs W
        · have hdm := Int.mul_tdiv_add_tmod n 10
          obtain ⟨h2, h3⟩ := tmod_neg10 n (by omega)
          exact num_more n _ _ (by omega) h0 rfl rfl (fun V => ih (n.tdiv 10).natAbs (by omega) _ rfl (by omega) (by omega) V) W
  exact key _ n rfl h0 h1 w
end Go.Proofs.YtmgnhbihfgpccaaGreatDoor
end
section
/- Layer 19: the document's Modes. -/
namespace Go.Proofs.YtmgnhbihfgpccaaGreatDoor
open Go Go.RowKit

theorem ownT_set0 {base : Nat} {W : World} {g c : Nat} {R0 : List UInt8} {xs : List (List UInt8)} (h : OwnT base W (.slice (some ⟨g, 0, none⟩) (R0 :: xs).length c) (R0 :: xs)) (R : List UInt8) :
    OwnT base (W.setCell ⟨g, 0, none⟩ (.string (bs R))) (.slice (some ⟨g, 0, none⟩) (R :: xs).length c) (R :: xs) := by
  exact row_set h 0 (by simp) (.string (bs R))
def outK (key : List UInt8) (all : Bool) : List (List UInt8) := if key = [] then [] else [if all then key else [42]]
def outN (lim : Nat) (num : List UInt8) (all : Bool) : List (List UInt8) := if lim ≠ 0 ∧ all = true then [num] else []
def outD (key : List UInt8) (lim : Nat) (num : List UInt8) (all : Bool) : Nat → List (List UInt8)
  | 0 => [[]]
  | 1 => [[]]
  | 2 => [] :: outK key all
  | _ => [] :: (outK key all ++ outN lim num all)
theorem outD_lim0 (key : List UInt8) (num : List UInt8) (all : Bool) : outD key 0 num all 3 = outD key 0 num all 2 := by
  show [] :: (outK key all ++ outN 0 num all) = [] :: outK key all
  unfold outN; simp
theorem outD_limf (key : List UInt8) (n : Nat) (num : List UInt8) : outD key n num false 3 = outD key n num false 2 := by
  show [] :: (outK key false ++ outN n num false) = [] :: outK key false
  unfold outN; simp
theorem outD_limt (key : List UInt8) (n : Nat) (num : List UInt8) : outD key (n + 1) num true 3 = outD key (n + 1) num true 2 ++ [num] := by
  show [] :: (outK key true ++ outN (n + 1) num true) = ([] :: outK key true) ++ [num]
  unfold outN; simp
theorem outD_len (key : List UInt8) (n : Nat) (num : List UInt8) (all : Bool) (k : Nat) : (outD key n num all k).length ≤ 3 := by
  have h1 : (outK key all).length ≤ 1 := by unfold outK; split <;> simp
  have h2 : (outN n num all).length ≤ 1 := by unfold outN; split <;> simp
  match k with
  | 0 => show 1 ≤ 3; omega
  | 1 => show 1 ≤ 3; omega
  | 2 => show (outK key all).length + 1 ≤ 3; omega
  | k + 3 => show (outK key all ++ outN n num all).length + 1 ≤ 3; rw [List.length_append]; omega
set_option maxRecDepth 100000 in
set_option maxHeartbeats 16000000 in
theorem refModes_any {base B : Nat} {q : RxV} {x : Rx} {w : World} (h : RxAt base B q x w) (all : Bool) (fl : Fl) (hf : ∀ c, x.on.contains c = fl.has c) (lim : Nat) (hlim : x.lim = lim) (hl : lim ≤ 1000000) (hol : x.on.length ≤ 100000) :
    Calls Tryz.prog 21 #[.pointer (some ⟨B, 0, none⟩), .bool all] w (RetT (modesL fl.has x.key lim (Lib.itoa lim) all) w) := by
  obtain ⟨key, hkey⟩ : ∃ key, x.key = key := ⟨_, rfl⟩
  obtain ⟨num, hnum⟩ : ∃ num, Lib.itoa lim = num := ⟨_, rfl⟩
  have hcell : ∀ W, RowKit.Below w.heap.size w W → W.cell? ⟨B, 5, none⟩ = some (.string (bs key)) ∧ W.cell? ⟨B, 6, none⟩ = some (.int .i64 lim) := fun W hb => by
    have hB := (hb.block B (blk_lt h.1)).trans h.1
    rw [← hkey, ← hlim]
    exact ⟨blk_cell hB 5, blk_cell hB 6⟩
  have HC := Lib.hid hcell
  have hFl := fun (W : World) (hb : RowKit.Below w.heap.size w W) c => refFlag_any (h.below hb) c (by omega)
  have HF : Hid (∀ (W : World), RowKit.Below w.heap.size w W → ∀ c : UInt8, Calls Tryz.prog 23 #[.pointer (some ⟨B, 0, none⟩), .int .u8 c.toNat] W fun e w' => e = .returned (.bool (fl.has c)) ∧ w' = W) := fun W hb c => by rw [← hf c]; exact hFl W hb c
  have HP : Hid (∀ W, Calls Tryz.prog 44 #[.int .i64 lim] W fun e w' => e = .returned (.string (bs num)) ∧ RowKit.Below W.heap.size W w') := fun W => by rw [← hnum]; exact num_all lim (by omega) (by omega) W
  rw [hkey, hnum]
  clear hcell hFl h hf hlim hol hkey hnum
  go_enter Tryz.func21, Tryz.ntmps21
  go_wp2_with fail
  have hs0 : Hid (OwnT w.heap.size (w.alloc (.cells #[.string ⟨#[]⟩] 9)) (.slice (some ⟨w.heap.size, 0, none⟩) 1 1) [[]] ∧ RowKit.Below w.heap.size w (w.alloc (.cells #[.string ⟨#[]⟩] 9))) := ⟨⟨by simp, .inr ⟨w.heap.size, 1, #[.string ⟨#[]⟩], rfl, Nat.le_refl _, heap_alloc_new w _, Nat.le_refl _, by unfold maxLen; omega, rfl, rfl⟩⟩, (Below.refl _ _).alloc (Nat.le_refl _) _⟩
  go_loopw [5, 6, 7] (fun u v i wr => ∃ (k : Nat) (A : Option Addr) (cc : Nat) (t : ByteArray), k ≤ 7 ∧ u = .string t ∧ v = .slice A (outD key lim num all k).length cc ∧ i = .int .i64 k ∧ Hid (t.data.toList = rowU fl.has (decide (key ≠ [])) (decide (lim ≠ 0)) k) ∧ Hid (OwnT w.heap.size wr (.slice A (outD key lim num all k).length cc) (outD key lim num all k) ∧ RowKit.Below w.heap.size w wr)) (fun _ _ i _ => 7 - (Go.RowKit.intOf i).toNat)
  case atStart => exact ⟨0, _, _, _, by decide, rfl, rfl, rfl, rfl, hs0⟩
  case round =>
    obtain ⟨k, A, cc, t, hk, rfl, rfl, rfl, HT, HS⟩ := hrel
    have htl : t.size ≤ 1000000 := by
      have h0 : t.data.toList.length = t.size := by simp
      rw [← h0, HT.out]
      have := rowU_len fl.has (decide (key ≠ [])) (decide (lim ≠ 0)) k
      omega
    have hk8 : k = 0 ∨ k = 1 ∨ k = 2 ∨ k = 3 ∨ k = 4 ∨ k = 5 ∨ k = 6 ∨ k = 7 := by omega
    rcases hk8 with rfl | rfl | rfl | rfl | rfl | rfl | rfl | rfl
    · have hF := HF.out wr HS.out.2 105
      have hch : (((({ data := #[105, 107, 108, 109, 110, 115, 116] } : ByteArray)[0]'(by decide)).toNat : Nat) : Int) = 105 := rfl
      obtain ⟨v, hv⟩ : ∃ v, fl.has 105 = v := ⟨_, rfl⟩
      rw [hv] at hF
      have HV := Lib.hid hv
      clear hv
      cases v with
      | false =>
        go_wp2_with fail
        refine hF.mono ?_
        rintro e w1 ⟨rfl, hw1⟩
        rw [hw1]
        clear hw1 hF
        simp only [hch]
        go_wp2_with fail
        exact ⟨⟨1, A, cc, t, by decide, rfl, rfl, rfl, Lib.hid (by rw [rowU_step _ _ _ 0 (by decide), if_neg (by show ¬ onB _ _ _ 105 = true; unfold onB; rw [HV.out]; simp), List.append_nil]; exact HT.out), HS⟩, by simp only [Go.RowKit.intOf]; omega⟩
      | true =>
        obtain ⟨W7, hW7⟩ : ∃ W7, wr.alloc (.cells #[.int .u8 105] 5) = W7 := ⟨_, rfl⟩
        have hconv : (convert 81 9 (.slice (some ⟨wr.heap.size, 0, none⟩) 1 1)).run Tryz.prog W7 = .ok (.string (bs [105])) W7 := by rw [← hW7]; exact conv_one (P := Tryz.prog) wr 81 9 5 105 Tryz.underlying81 Tryz.underlying5 Tryz.underlying9
        have b7 : RowKit.Below wr.heap.size wr W7 := by rw [← hW7]; exact (Below.refl _ _).alloc (Nat.le_refl _) _
        have o7 := ownT_kept HS.out.1 fun g hg => b7.block g (HS.out.1.lt g hg).2
        have bb7 := HS.out.2.trans (b7.mono HS.out.2.size)
        obtain ⟨t2, ht2⟩ : ∃ t2, t ++ bs [105] = t2 := ⟨_, rfl⟩
        have hT2 : t2.data.toList = rowU fl.has (decide (key ≠ [])) (decide (lim ≠ 0)) 1 := by rw [← ht2, rowU_step _ _ _ 0 (by decide), ByteArray.data_append, Array.toList_append, HT.out]; rw [if_pos (by show onB _ _ _ 105 = true; unfold onB; rw [HV.out]; simp)]; rfl
        have H7 := Lib.hid (And.intro o7 (And.intro bb7 hT2))
        clear b7 o7 bb7 hT2
        go_wp2_with fail
        refine hF.mono ?_
        rintro e w1 ⟨rfl, hw1⟩
        rw [hw1]
        clear hw1 hF
        simp only [hch]
        go_wp2_with fail
        exact ⟨⟨1, A, cc, t2, by decide, rfl, rfl, rfl, Lib.hid H7.out.2.2, Lib.hid ⟨H7.out.1, H7.out.2.1⟩⟩, by simp only [Go.RowKit.intOf]; omega⟩
    · have hF : Calls _ _ _ _ fun e w' => e = .returned (.bool false) ∧ w' = wr := HF.out wr HS.out.2 107
      have hch : (((({ data := #[105, 107, 108, 109, 110, 115, 116] } : ByteArray)[1]'(by decide)).toNat : Nat) : Int) = 107 := rfl
      obtain ⟨c5, c6⟩ := HC.out wr HS.out.2
      cases key with
      | nil =>
        rw [show bs ([] : List UInt8) = ({ data := #[] } : ByteArray) from rfl] at c5
        go_wp2_with fail
        refine hF.mono ?_
        rintro e w1 ⟨rfl, hw1⟩
        rw [hw1]
        clear hw1 hF
        simp only [hch]
        go_wp2_with fail
        exact ⟨⟨2, A, cc, t, by decide, rfl, rfl, rfl, Lib.hid (by rw [rowU_step _ _ _ 1 (by decide), if_neg (by show ¬ onB fl.has _ _ 107 = true; unfold onB; rw [show fl.has 107 = false from rfl]; simp), List.append_nil]; exact HT.out), HS⟩, by simp only [Go.RowKit.intOf]; omega⟩
      | cons b0 k0 =>
        have hemp := str_ne (s := bs (b0 :: k0)) (by simp)
        obtain ⟨W7, hW7⟩ : ∃ W7, wr.alloc (.cells #[.int .u8 107] 5) = W7 := ⟨_, rfl⟩
        have hconv : (convert 81 9 (.slice (some ⟨wr.heap.size, 0, none⟩) 1 1)).run Tryz.prog W7 = .ok (.string (bs [107])) W7 := by rw [← hW7]; exact conv_one (P := Tryz.prog) wr 81 9 5 107 Tryz.underlying81 Tryz.underlying5 Tryz.underlying9
        have b7 : RowKit.Below wr.heap.size wr W7 := by rw [← hW7]; exact (Below.refl _ _).alloc (Nat.le_refl _) _
        have o7 := ownT_kept HS.out.1 fun g hg => b7.block g (HS.out.1.lt g hg).2
        have bb7 := HS.out.2.trans (b7.mono HS.out.2.size)
        obtain ⟨t2, ht2⟩ : ∃ t2, t ++ bs [107] = t2 := ⟨_, rfl⟩
        have hT2 : t2.data.toList = rowU fl.has (decide ((b0 :: k0) ≠ [])) (decide (lim ≠ 0)) 2 := by rw [← ht2, rowU_step _ _ _ 1 (by decide), ByteArray.data_append, Array.toList_append, HT.out]; rw [if_pos (by show onB _ _ _ 107 = true; unfold onB; simp)]; rfl
        have H7 := Lib.hid (And.intro o7 (And.intro bb7 hT2))
        have e5 := (HC.out W7 bb7).1
        cases all with
        | true =>
          obtain ⟨W8, hW8⟩ : ∃ W8, W7.alloc (.cells #[.string (bs (b0 :: k0))] 9) = W8 := ⟨_, rfl⟩
          have b8 : RowKit.Below W7.heap.size W7 W8 := by rw [← hW8]; exact (Below.refl _ _).alloc (Nat.le_refl _) _
          have o8 := ownT_kept o7 fun g hg => b8.block g (o7.lt g hg).2
          have bb8 := bb7.trans (b8.mono bb7.size)
          obtain ⟨A9, c9, W9, hr9, o9, f9, t9⟩ := app_textR (y := (b0 :: k0)) o8 bb8.size (by show 1 ≤ _; omega) (N := W7.heap.size) (by rw [← hW8]; exact blk_cell (heap_alloc_new W7 _) 0)
          have bb9 := bb8.trans (f9.below bb8.size fun k _ e => (o8.lt k e).1)
          have H9 := Lib.hid (And.intro o9 bb9)
          clear b7 b8 o8 bb8 o9 f9 t9 bb9 hT2 o7 bb7
          go_wp2_with fail
          refine hF.mono ?_
          rintro e w1 ⟨rfl, hw1⟩
          rw [hw1]
          clear hw1 hF
          simp only [hch]
          go_wp2_with (at_builtin; refine wpList_app_g rfl _ _ _ _ rfl (by exact hr9) ?_)
          exact ⟨⟨2, A9, c9, t2, by decide, rfl, rfl, rfl, Lib.hid H7.out.2.2, Lib.hid ⟨H9.out.1, H9.out.2⟩⟩, by simp only [Go.RowKit.intOf]; omega⟩
        | false =>
          obtain ⟨W8, hW8⟩ : ∃ W8, W7.alloc (.cells #[.string ⟨#[42]⟩] 9) = W8 := ⟨_, rfl⟩
          have b8 : RowKit.Below W7.heap.size W7 W8 := by rw [← hW8]; exact (Below.refl _ _).alloc (Nat.le_refl _) _
          have o8 := ownT_kept o7 fun g hg => b8.block g (o7.lt g hg).2
          have bb8 := bb7.trans (b8.mono bb7.size)
          obtain ⟨A9, c9, W9, hr9, o9, f9, t9⟩ := app_textR (y := [42]) o8 bb8.size (by show 1 ≤ _; omega) (N := W7.heap.size) (by rw [← hW8]; exact blk_cell (heap_alloc_new W7 _) 0)
          have bb9 := bb8.trans (f9.below bb8.size fun k _ e => (o8.lt k e).1)
          have H9 := Lib.hid (And.intro o9 bb9)
          clear b7 b8 o8 bb8 o9 f9 t9 bb9 hT2 o7 bb7
          go_wp2_with fail
          refine hF.mono ?_
          rintro e w1 ⟨rfl, hw1⟩
          rw [hw1]
          clear hw1 hF
          simp only [hch]
          go_wp2_with (at_builtin; refine wpList_app_g rfl _ _ _ _ rfl (by exact hr9) ?_)
          exact ⟨⟨2, A9, c9, t2, by decide, rfl, rfl, rfl, Lib.hid H7.out.2.2, Lib.hid ⟨H9.out.1, H9.out.2⟩⟩, by simp only [Go.RowKit.intOf]; omega⟩
    · have hF : Calls _ _ _ _ fun e w' => e = .returned (.bool false) ∧ w' = wr := HF.out wr HS.out.2 108
      have hch : (((({ data := #[105, 107, 108, 109, 110, 115, 116] } : ByteArray)[2]'(by decide)).toNat : Nat) : Int) = 108 := rfl
      obtain ⟨c5, c6⟩ := HC.out wr HS.out.2
      cases lim with
      | zero =>
        go_wp2_with fail
        refine hF.mono ?_
        rintro e w1 ⟨rfl, hw1⟩
        rw [hw1]
        clear hw1 hF
        simp only [hch]
        go_wp2_with fail
        exact ⟨⟨3, A, cc, t, by decide, rfl, by rw [outD_lim0], rfl, Lib.hid (by rw [rowU_step _ _ _ 2 (by decide), if_neg (by show ¬ onB fl.has _ _ 108 = true; unfold onB; rw [show fl.has 108 = false from rfl]; simp), List.append_nil]; exact HT.out), by rw [outD_lim0]; exact HS⟩, by simp only [Go.RowKit.intOf]; omega⟩
      | succ l0 =>
        obtain ⟨W7, hW7⟩ : ∃ W7, wr.alloc (.cells #[.int .u8 108] 5) = W7 := ⟨_, rfl⟩
        have hconv : (convert 81 9 (.slice (some ⟨wr.heap.size, 0, none⟩) 1 1)).run Tryz.prog W7 = .ok (.string (bs [108])) W7 := by rw [← hW7]; exact conv_one (P := Tryz.prog) wr 81 9 5 108 Tryz.underlying81 Tryz.underlying5 Tryz.underlying9
        have b7 : RowKit.Below wr.heap.size wr W7 := by rw [← hW7]; exact (Below.refl _ _).alloc (Nat.le_refl _) _
        have o7 := ownT_kept HS.out.1 fun g hg => b7.block g (HS.out.1.lt g hg).2
        have bb7 := HS.out.2.trans (b7.mono HS.out.2.size)
        obtain ⟨t2, ht2⟩ : ∃ t2, t ++ bs [108] = t2 := ⟨_, rfl⟩
        have hT2 : t2.data.toList = rowU fl.has (decide (key ≠ [])) (decide ((l0 + 1) ≠ 0)) 3 := by rw [← ht2, rowU_step _ _ _ 2 (by decide), ByteArray.data_append, Array.toList_append, HT.out]; rw [if_pos (by show onB _ _ _ 108 = true; unfold onB; simp)]; rfl
        have H7 := Lib.hid (And.intro o7 (And.intro bb7 hT2))
        obtain ⟨M, hM⟩ : ∃ M : Int, ((l0 + 1 : Nat) : Int) = M := ⟨_, rfl⟩
        have hpos : M ≠ 0 := by omega
        have e6 := (HC.out W7 bb7).2
        have hP := HP.out W7
        rw [hM] at c6 e6 hP
        cases all with
        | false =>
          clear b7 o7 bb7 hT2
          go_wp2_with fail
          refine hF.mono ?_
          rintro e w1 ⟨rfl, hw1⟩
          rw [hw1]
          clear hw1 hF
          simp only [hch]
          go_wp2_with fail
          exact ⟨⟨3, A, cc, t2, by decide, rfl, by rw [outD_limf], rfl, Lib.hid H7.out.2.2, by rw [outD_limf]; exact Lib.hid ⟨H7.out.1, H7.out.2.1⟩⟩, by simp only [Go.RowKit.intOf]; omega⟩
        | true =>
          clear b7 o7 bb7 hT2
          go_wp2_with fail
          refine hF.mono ?_
          rintro e w1 ⟨rfl, hw1⟩
          rw [hw1]
          clear hw1 hF
          simp only [hch]
          go_wp2_with fail
          refine hP.mono ?_
          rintro e V ⟨rfl, bV⟩
          have oV := ownT_kept H7.out.1 fun g hg => bV.block g (H7.out.1.lt g hg).2
          have bbV := H7.out.2.1.trans (bV.mono H7.out.2.1.size)
          clear hW7 hconv hP
          obtain ⟨W8, hW8⟩ : ∃ W8, V.alloc (.cells #[.string (bs num)] 9) = W8 := ⟨_, rfl⟩
          have b8 : RowKit.Below V.heap.size V W8 := by rw [← hW8]; exact (Below.refl _ _).alloc (Nat.le_refl _) _
          have o8 := ownT_kept oV fun g hg => b8.block g (oV.lt g hg).2
          have bb8 := bbV.trans (b8.mono bbV.size)
          obtain ⟨A9, c9, W9, hr9, o9, f9, t9⟩ := app_textR (y := num) o8 bb8.size (by have := outD_len key (l0 + 1) num true 2; omega) (N := V.heap.size) (by rw [← hW8]; exact blk_cell (heap_alloc_new V _) 0)
          have bb9 := bb8.trans (f9.below bb8.size fun k _ e => (o8.lt k e).1)
          have H9 := Lib.hid (And.intro o9 bb9)
          clear bV oV bbV b8 o8 bb8 o9 f9 t9 bb9
          go_wp2_with (at_builtin; refine wpList_app_g rfl _ _ _ _ rfl (by exact hr9) ?_)
          exact ⟨⟨3, A9, c9, t2, by decide, rfl, by rw [outD_limt]; simp, rfl, Lib.hid H7.out.2.2, by rw [outD_limt]; exact Lib.hid (by have h9 := H9.out; rw [List.length_append]; exact h9)⟩, by simp only [Go.RowKit.intOf]; omega⟩
    · have hF := HF.out wr HS.out.2 109
      have hch : (((({ data := #[105, 107, 108, 109, 110, 115, 116] } : ByteArray)[3]'(by decide)).toNat : Nat) : Int) = 109 := rfl
      obtain ⟨v, hv⟩ : ∃ v, fl.has 109 = v := ⟨_, rfl⟩
      rw [hv] at hF
      have HV := Lib.hid hv
      clear hv
      cases v with
      | false =>
        go_wp2_with fail
        refine hF.mono ?_
        rintro e w1 ⟨rfl, hw1⟩
        rw [hw1]
        clear hw1 hF
        simp only [hch]
        go_wp2_with fail
        exact ⟨⟨4, A, cc, t, by decide, rfl, rfl, rfl, Lib.hid (by rw [rowU_step _ _ _ 3 (by decide), if_neg (by show ¬ onB _ _ _ 109 = true; unfold onB; rw [HV.out]; simp), List.append_nil]; exact HT.out), HS⟩, by simp only [Go.RowKit.intOf]; omega⟩
      | true =>
        obtain ⟨W7, hW7⟩ : ∃ W7, wr.alloc (.cells #[.int .u8 109] 5) = W7 := ⟨_, rfl⟩
        have hconv : (convert 81 9 (.slice (some ⟨wr.heap.size, 0, none⟩) 1 1)).run Tryz.prog W7 = .ok (.string (bs [109])) W7 := by rw [← hW7]; exact conv_one (P := Tryz.prog) wr 81 9 5 109 Tryz.underlying81 Tryz.underlying5 Tryz.underlying9
        have b7 : RowKit.Below wr.heap.size wr W7 := by rw [← hW7]; exact (Below.refl _ _).alloc (Nat.le_refl _) _
        have o7 := ownT_kept HS.out.1 fun g hg => b7.block g (HS.out.1.lt g hg).2
        have bb7 := HS.out.2.trans (b7.mono HS.out.2.size)
        obtain ⟨t2, ht2⟩ : ∃ t2, t ++ bs [109] = t2 := ⟨_, rfl⟩
        have hT2 : t2.data.toList = rowU fl.has (decide (key ≠ [])) (decide (lim ≠ 0)) 4 := by rw [← ht2, rowU_step _ _ _ 3 (by decide), ByteArray.data_append, Array.toList_append, HT.out]; rw [if_pos (by show onB _ _ _ 109 = true; unfold onB; rw [HV.out]; simp)]; rfl
        have H7 := Lib.hid (And.intro o7 (And.intro bb7 hT2))
        clear b7 o7 bb7 hT2
        go_wp2_with fail
        refine hF.mono ?_
        rintro e w1 ⟨rfl, hw1⟩
        rw [hw1]
        clear hw1 hF
        simp only [hch]
        go_wp2_with fail
        exact ⟨⟨4, A, cc, t2, by decide, rfl, rfl, rfl, Lib.hid H7.out.2.2, Lib.hid ⟨H7.out.1, H7.out.2.1⟩⟩, by simp only [Go.RowKit.intOf]; omega⟩
    · have hF := HF.out wr HS.out.2 110
      have hch : (((({ data := #[105, 107, 108, 109, 110, 115, 116] } : ByteArray)[4]'(by decide)).toNat : Nat) : Int) = 110 := rfl
      obtain ⟨v, hv⟩ : ∃ v, fl.has 110 = v := ⟨_, rfl⟩
      rw [hv] at hF
      have HV := Lib.hid hv
      clear hv
      cases v with
      | false =>
        go_wp2_with fail
        refine hF.mono ?_
        rintro e w1 ⟨rfl, hw1⟩
        rw [hw1]
        clear hw1 hF
        simp only [hch]
        go_wp2_with fail
        exact ⟨⟨5, A, cc, t, by decide, rfl, rfl, rfl, Lib.hid (by rw [rowU_step _ _ _ 4 (by decide), if_neg (by show ¬ onB _ _ _ 110 = true; unfold onB; rw [HV.out]; simp), List.append_nil]; exact HT.out), HS⟩, by simp only [Go.RowKit.intOf]; omega⟩
      | true =>
        obtain ⟨W7, hW7⟩ : ∃ W7, wr.alloc (.cells #[.int .u8 110] 5) = W7 := ⟨_, rfl⟩
        have hconv : (convert 81 9 (.slice (some ⟨wr.heap.size, 0, none⟩) 1 1)).run Tryz.prog W7 = .ok (.string (bs [110])) W7 := by rw [← hW7]; exact conv_one (P := Tryz.prog) wr 81 9 5 110 Tryz.underlying81 Tryz.underlying5 Tryz.underlying9
        have b7 : RowKit.Below wr.heap.size wr W7 := by rw [← hW7]; exact (Below.refl _ _).alloc (Nat.le_refl _) _
        have o7 := ownT_kept HS.out.1 fun g hg => b7.block g (HS.out.1.lt g hg).2
        have bb7 := HS.out.2.trans (b7.mono HS.out.2.size)
        obtain ⟨t2, ht2⟩ : ∃ t2, t ++ bs [110] = t2 := ⟨_, rfl⟩
        have hT2 : t2.data.toList = rowU fl.has (decide (key ≠ [])) (decide (lim ≠ 0)) 5 := by rw [← ht2, rowU_step _ _ _ 4 (by decide), ByteArray.data_append, Array.toList_append, HT.out]; rw [if_pos (by show onB _ _ _ 110 = true; unfold onB; rw [HV.out]; simp)]; rfl
        have H7 := Lib.hid (And.intro o7 (And.intro bb7 hT2))
        clear b7 o7 bb7 hT2
        go_wp2_with fail
        refine hF.mono ?_
        rintro e w1 ⟨rfl, hw1⟩
        rw [hw1]
        clear hw1 hF
        simp only [hch]
        go_wp2_with fail
        exact ⟨⟨5, A, cc, t2, by decide, rfl, rfl, rfl, Lib.hid H7.out.2.2, Lib.hid ⟨H7.out.1, H7.out.2.1⟩⟩, by simp only [Go.RowKit.intOf]; omega⟩
    · have hF := HF.out wr HS.out.2 115
      have hch : (((({ data := #[105, 107, 108, 109, 110, 115, 116] } : ByteArray)[5]'(by decide)).toNat : Nat) : Int) = 115 := rfl
      obtain ⟨v, hv⟩ : ∃ v, fl.has 115 = v := ⟨_, rfl⟩
      rw [hv] at hF
      have HV := Lib.hid hv
      clear hv
      cases v with
      | false =>
        go_wp2_with fail
        refine hF.mono ?_
        rintro e w1 ⟨rfl, hw1⟩
        rw [hw1]
        clear hw1 hF
        simp only [hch]
        go_wp2_with fail
        exact ⟨⟨6, A, cc, t, by decide, rfl, rfl, rfl, Lib.hid (by rw [rowU_step _ _ _ 5 (by decide), if_neg (by show ¬ onB _ _ _ 115 = true; unfold onB; rw [HV.out]; simp), List.append_nil]; exact HT.out), HS⟩, by simp only [Go.RowKit.intOf]; omega⟩
      | true =>
        obtain ⟨W7, hW7⟩ : ∃ W7, wr.alloc (.cells #[.int .u8 115] 5) = W7 := ⟨_, rfl⟩
        have hconv : (convert 81 9 (.slice (some ⟨wr.heap.size, 0, none⟩) 1 1)).run Tryz.prog W7 = .ok (.string (bs [115])) W7 := by rw [← hW7]; exact conv_one (P := Tryz.prog) wr 81 9 5 115 Tryz.underlying81 Tryz.underlying5 Tryz.underlying9
        have b7 : RowKit.Below wr.heap.size wr W7 := by rw [← hW7]; exact (Below.refl _ _).alloc (Nat.le_refl _) _
        have o7 := ownT_kept HS.out.1 fun g hg => b7.block g (HS.out.1.lt g hg).2
        have bb7 := HS.out.2.trans (b7.mono HS.out.2.size)
        obtain ⟨t2, ht2⟩ : ∃ t2, t ++ bs [115] = t2 := ⟨_, rfl⟩
        have hT2 : t2.data.toList = rowU fl.has (decide (key ≠ [])) (decide (lim ≠ 0)) 6 := by rw [← ht2, rowU_step _ _ _ 5 (by decide), ByteArray.data_append, Array.toList_append, HT.out]; rw [if_pos (by show onB _ _ _ 115 = true; unfold onB; rw [HV.out]; simp)]; rfl
        have H7 := Lib.hid (And.intro o7 (And.intro bb7 hT2))
        clear b7 o7 bb7 hT2
        go_wp2_with fail
        refine hF.mono ?_
        rintro e w1 ⟨rfl, hw1⟩
        rw [hw1]
        clear hw1 hF
        simp only [hch]
        go_wp2_with fail
        exact ⟨⟨6, A, cc, t2, by decide, rfl, rfl, rfl, Lib.hid H7.out.2.2, Lib.hid ⟨H7.out.1, H7.out.2.1⟩⟩, by simp only [Go.RowKit.intOf]; omega⟩
    · have hF := HF.out wr HS.out.2 116
      have hch : (((({ data := #[105, 107, 108, 109, 110, 115, 116] } : ByteArray)[6]'(by decide)).toNat : Nat) : Int) = 116 := rfl
      obtain ⟨v, hv⟩ : ∃ v, fl.has 116 = v := ⟨_, rfl⟩
      rw [hv] at hF
      have HV := Lib.hid hv
      clear hv
      cases v with
      | false =>
        go_wp2_with fail
        refine hF.mono ?_
        rintro e w1 ⟨rfl, hw1⟩
        rw [hw1]
        clear hw1 hF
        simp only [hch]
        go_wp2_with fail
        exact ⟨⟨7, A, cc, t, by decide, rfl, rfl, rfl, Lib.hid (by rw [rowU_step _ _ _ 6 (by decide), if_neg (by show ¬ onB _ _ _ 116 = true; unfold onB; rw [HV.out]; simp), List.append_nil]; exact HT.out), HS⟩, by simp only [Go.RowKit.intOf]; omega⟩
      | true =>
        obtain ⟨W7, hW7⟩ : ∃ W7, wr.alloc (.cells #[.int .u8 116] 5) = W7 := ⟨_, rfl⟩
        have hconv : (convert 81 9 (.slice (some ⟨wr.heap.size, 0, none⟩) 1 1)).run Tryz.prog W7 = .ok (.string (bs [116])) W7 := by rw [← hW7]; exact conv_one (P := Tryz.prog) wr 81 9 5 116 Tryz.underlying81 Tryz.underlying5 Tryz.underlying9
        have b7 : RowKit.Below wr.heap.size wr W7 := by rw [← hW7]; exact (Below.refl _ _).alloc (Nat.le_refl _) _
        have o7 := ownT_kept HS.out.1 fun g hg => b7.block g (HS.out.1.lt g hg).2
        have bb7 := HS.out.2.trans (b7.mono HS.out.2.size)
        obtain ⟨t2, ht2⟩ : ∃ t2, t ++ bs [116] = t2 := ⟨_, rfl⟩
        have hT2 : t2.data.toList = rowU fl.has (decide (key ≠ [])) (decide (lim ≠ 0)) 7 := by rw [← ht2, rowU_step _ _ _ 6 (by decide), ByteArray.data_append, Array.toList_append, HT.out]; rw [if_pos (by show onB _ _ _ 116 = true; unfold onB; rw [HV.out]; simp)]; rfl
        have H7 := Lib.hid (And.intro o7 (And.intro bb7 hT2))
        clear b7 o7 bb7 hT2
        go_wp2_with fail
        refine hF.mono ?_
        rintro e w1 ⟨rfl, hw1⟩
        rw [hw1]
        clear hw1 hF
        simp only [hch]
        go_wp2_with fail
        exact ⟨⟨7, A, cc, t2, by decide, rfl, rfl, rfl, Lib.hid H7.out.2.2, Lib.hid ⟨H7.out.1, H7.out.2.1⟩⟩, by simp only [Go.RowKit.intOf]; omega⟩
    · obtain ⟨D, hD⟩ : ∃ D, outK key all ++ outN lim num all = D := ⟨_, rfl⟩
      have e7 : outD key lim num all 7 = [] :: D := by rw [← hD]; rfl
      have hs := HS.out
      rw [e7] at hs ⊢
      have hm : modesL fl.has key lim num all = rowU fl.has (decide (key ≠ [])) (decide (lim ≠ 0)) 7 :: D := by rw [← hD]; rfl
      have hs2 := hs.1
      rcases hs2.2 with ⟨e, h0⟩ | ⟨g, cap, cur, e, hb, hg, hn, hmx, hcs, htk⟩
      · cases h0
      · injection e with e1 e2 e3
        subst e1 e3
        have htt : bs (rowU fl.has (decide (key ≠ [])) (decide (lim ≠ 0)) 7) = t := by apply ba_ext; rw [HT.out]; rfl
        have h3 := ownT_set0 hs.1 (rowU fl.has (decide (key ≠ [])) (decide (lim ≠ 0)) 7)
        rw [htt] at h3
        have hbt := hs.2.trans (((Fr.refl (fun k => k = g) wr).setCell ⟨g, 0, none⟩ rfl (.string t)).below hs.2.size fun k _ e => by have e2 : k = g := e; omega)
        have H3 := Lib.hid (And.intro h3 (And.intro hbt hm))
        have q0 : 0 < cur.size := by rw [hcs]; have := hn; simp at this ⊢; omega
        have z0 : wr.cell? ⟨g, 0, none⟩ = some cur[0] := by
          have := blk_cell hg 0
          rw [this]; simp [q0]
        have z1 := blk_free hg 0
        have hln : (0 : Int) < (([] :: D : List (List UInt8)).length : Int) := by simp
        clear hs hs2 h3 hbt hm htk hg hn hcs
        go_wp2_with fail
        go_ret
        rw [H3.out.2.2]
        exact ⟨⟨_, _, rfl, H3.out.1⟩, H3.out.2.1⟩
end Go.Proofs.YtmgnhbihfgpccaaGreatDoor
end
section
/- Layer 10: the document's Add. -/
namespace Go.Proofs.YtmgnhbihfgpccaaGreatDoor
open Go Go.RowKit Go.Lib Go.Sort Go.Shelf

/-- what Add has built behind k of the numbers -/
def addZ (xs : List Int) (x : Int) (k : Nat) : List Int := if k ≤ xs.countP (· < x) then xs.take k else xs.take (xs.countP (· < x)) ++ x :: (xs.take k).drop (xs.countP (· < x))
theorem addZ_len (xs : List Int) (x : Int) (k : Nat) : (addZ xs x k).length ≤ xs.length + 1 := by
  unfold addZ
  split
  · rw [List.length_take]; omega
  · rw [List.length_append, List.length_cons, List.length_drop, List.length_take, List.length_take]; omega
theorem addZ_low {xs : List Int} {x : Int} {k : Nat} (h : k < xs.countP (· < x)) (hk : k < xs.length) : addZ xs x (k + 1) = addZ xs x k ++ [xs[k]] := by
  unfold addZ
  rw [if_pos (by omega), if_pos (by omega), List.take_succ_eq_append_getElem hk]
theorem addZ_at {xs : List Int} {x : Int} {k : Nat} (h : k = xs.countP (· < x)) (hk : k < xs.length) : addZ xs x (k + 1) = (addZ xs x k ++ [x]) ++ [xs[k]] := by
  unfold addZ
  rw [if_neg (by omega), if_pos (by omega), ← h, List.take_succ_eq_append_getElem hk, List.drop_append_of_le_length (by rw [List.length_take]; omega), List.drop_of_length_le (by rw [List.length_take]; omega)]
  simp
theorem addZ_high {xs : List Int} {x : Int} {k : Nat} (h : xs.countP (· < x) < k) (hk : k < xs.length) : addZ xs x (k + 1) = addZ xs x k ++ [xs[k]] := by
  unfold addZ
  rw [if_neg (by omega), if_neg (by omega), List.take_succ_eq_append_getElem hk, List.drop_append_of_le_length (by rw [List.length_take]; omega), List.append_assoc, List.cons_append]
theorem addZ_end (xs : List Int) (x : Int) (h : xs.contains x = false) : insI xs x = if xs.countP (· < x) < xs.length then addZ xs x xs.length else addZ xs x xs.length ++ [x] := by
  have hc := countP_le xs x
  unfold insI addZ
  rw [h, if_neg Bool.false_ne_true]
  by_cases e : xs.countP (· < x) < xs.length
  · rw [if_pos e, if_neg (by omega), List.take_length]
  · have e2 : xs.countP (· < x) = xs.length := by omega
    rw [if_neg e, if_pos (by omega), e2, List.take_length, List.drop_length]
theorem low_lt {xs : List Int} (h : xs.Pairwise (· < ·)) {x : Int} {k : Nat} (hk : k < xs.countP (· < x)) (hl : k < xs.length) : xs[k] < x :=
  (take_lt h x).1 _ (by rw [List.mem_take_iff_getElem]; exact ⟨k, by omega, rfl⟩)
theorem high_ge {xs : List Int} (h : xs.Pairwise (· < ·)) {x : Int} {k : Nat} (hk : xs.countP (· < x) ≤ k) (hl : k < xs.length) : x ≤ xs[k] :=
  (take_lt h x).2 _ (by rw [List.mem_drop_iff_getElem]; exact ⟨k - xs.countP (· < x), by omega, by simp [show xs.countP (· < x) + (k - xs.countP (· < x)) = k by omega]⟩)
end Go.Proofs.YtmgnhbihfgpccaaGreatDoor
end
section
/- Layer 10: the document's Add. -/
namespace Go.Proofs.YtmgnhbihfgpccaaGreatDoor
open Go Go.RowKit Go.Lib Go.Sort Go.Shelf

theorem own_snoc {base : Nat} {w : World} {v : Value} {zs : List Int} {y : Int} (h : w.ownsRow base 3 1 v (zs.length + 1) (zs.map (Value.int .i64) ++ #[Value.int .i64 y].toList)) : OwnI base w v (zs ++ [y]) := by
  unfold OwnI; rw [List.length_append, List.map_append]; exact h
theorem tie_own {w W : World} {v v' : Value} {zs : List Int} (h : OwnI w.heap.size W v' zs) : Tie w v v' := fun k hk hl => by have := (h.lt k hk).1; omega
/-- a row handed back: the one that was given, or a new one -/
def RowNT (base : Nat) (zs : List Int) (v : Value) (w : World) (e : Ending) (w' : World) : Prop := (∃ v', e = .returned v' ∧ OwnI base w' v' zs ∧ Tie w v v') ∧ Below w.heap.size w w'
set_option maxRecDepth 100000 in
set_option maxHeartbeats 4000000 in
theorem add10 {base : Nat} {w : World} {v : Value} {xs : List Int} (hv : OwnI base w v xs) (hup : xs.Pairwise (· < ·)) (hl : xs.length ≤ 900000) (hbw : base ≤ w.heap.size) (x : Int) :
    Calls Tryz.prog 41 #[v, .int .i64 x] w (RowNT base (insI xs x) v w) := by
  obtain ⟨i0, hi, hz0, hz1, hz2⟩ := info_parts Tryz.infoI
  obtain ⟨A, c, rfl⟩ := row_slice hv
  have HA := Lib.hid (reads_own hv)
  have HV := Lib.hid hv
  have HU := Lib.hid hup
  have hh := has10 A xs c x (by omega) HA.out
  obtain ⟨b, hb⟩ : ∃ b, xs.contains x = b := ⟨_, rfl⟩
  rw [hb] at hh
  have HH := Lib.hid hh
  have HB := Lib.hid hb
  clear hv hup hh hb
  go_enter Tryz.func41, Tryz.ntmps41
  go_wp2_with fail
  refine HH.out.mono ?_
  rintro e w1 ⟨rfl, rfl⟩
  cases b with
  | true =>
    go_wp2_with fail
    go_ret
    have hx : insI xs x = xs := by unfold insI; rw [if_pos HB.out]
    rw [hx]
    exact ⟨⟨_, rfl, HV.out, tie_same rfl⟩, Below.refl _ _⟩
  | false =>
    go_wp2_with fail
    have h00 : OwnI w1.heap.size w1 (.slice none 0 0) (addZ xs x 0) := by unfold addZ; rw [if_pos (Nat.zero_le _)]; exact own_nil _ _
    obtain ⟨p, hp⟩ : ∃ p, xs.countP (fun y => decide (y < x)) = p := ⟨_, rfl⟩
    have HP := Lib.hid hp
    have hpl : p ≤ xs.length := by rw [← hp]; exact countP_le xs x
    clear hp
    go_loopw [5, 6, 7] (fun v d i wr => ∃ k : Nat, i = .int .i64 k ∧ k ≤ xs.length ∧ d = .bool (decide (p < k)) ∧ Hid (OwnI w1.heap.size wr v (addZ xs x k) ∧ Below w1.heap.size w1 wr)) (fun _ _ i _ => xs.length - (Go.RowKit.intOf i).toNat)
    case atStart => exact ⟨0, rfl, Nat.zero_le _, by simp, h00, Below.refl _ _⟩
    case round =>
      clear h00
      obtain ⟨k, rfl, hk, rfl, HQ⟩ := hrel
      obtain ⟨q1, q2⟩ := HQ.out
      have hz := q2.size
      have hzl := addZ_len xs x k
      obtain ⟨zs, hzs⟩ : ∃ zs, addZ xs x k = zs := ⟨_, rfl⟩
      rw [hzs] at q1 hzl
      have hor : wr.ownsRow w1.heap.size 3 1 u5 zs.length (zs.map (Value.int .i64)) := q1
      have HO := Lib.hid hor
      have HQ2 := Lib.hid (And.intro q1 (And.intro q2 hzs))
      by_cases hlt : k < xs.length
      · obtain ⟨g, o, rfl, hg, ha⟩ := HA.out (by omega)
        have a1 : wr.cell? ⟨g, o + k, none⟩ = some (.int .i64 xs[k]) := (World.cell?_of_block (w := w1) (w' := wr) (a := ⟨g, o + k, none⟩) (q2.block g hg)).trans (ha k hlt)
        have hne : xs[k] ≠ x := fun e => by
          have := HB.out
          rw [← e] at this
          simp at this
        have hlow : k < p → xs[k] < x := fun h => low_lt HU.out (by rw [HP.out]; exact h) hlt
        have hhigh : p ≤ k → x ≤ xs[k] := fun h => high_ge HU.out (by rw [HP.out]; exact h) hlt
        have e1 : k < p → addZ xs x (k + 1) = addZ xs x k ++ [xs[k]] := fun h => addZ_low (by rw [HP.out]; exact h) hlt
        have e2 : k = p → addZ xs x (k + 1) = (addZ xs x k ++ [x]) ++ [xs[k]] := fun h => addZ_at (by rw [HP.out]; exact h) hlt
        have e3 : p < k → addZ xs x (k + 1) = addZ xs x k ++ [xs[k]] := fun h => addZ_high (by rw [HP.out]; exact h) hlt
        obtain ⟨y, hy⟩ : ∃ y, xs[k] = y := ⟨_, rfl⟩
        rw [hy] at a1 hne hlow hhigh e1 e2 e3
        rw [hzs] at e1 e2 e3
        have p1 : (k : Int) < (xs.length : Int) := by omega
        have HE := Lib.hid (And.intro e1 (And.intro e2 e3))
        clear ha hy e1 e2 e3 q1 q2 hzs hor
        rcases Nat.lt_trichotomy k p with h | h | h
        · have hd : decide (p < k) = false := by simp; omega
          have hx : ¬ (x < y) := by have := hlow h; omega
          rw [hd]
          clear hlow hhigh hd
          go_wp2_with (at_builtin; refine Hid.out ?_)
          refine Lib.hid ?_
          refine wpList_app_fr rfl _ _ 44 rfl w1.heap.size 3 i0 _ 1 8 Tryz.underlying44 hi hz0 hz1 hz2 rfl (by decide) u5 (zs).length ((zs).map (Value.int .i64)) rfl HO.out #[.int .i64 y] _ rfl rfl rfl (by intro u hu; simp at hu; subst hu; rfl) (by omega) (by decide) (by omega) ?_
          intro v1 W2 o1 f1
          obtain ⟨q1, q2, hzs⟩ := HQ2.out
          have HN : Hid (OwnI w1.heap.size W2 v1 (addZ xs x (k + 1)) ∧ Below w1.heap.size w1 W2) := ⟨by rw [HE.out.1 h]; exact own_snoc o1, q2.trans (f1.below q2.size fun j _ ej => (q1.lt j ej).1)⟩
          clear q1 q2 hzs o1 f1
          go_wp2_with fail
          go_roundw
          case rel => exact ⟨k + 1, by go_num, by omega, by simp; omega, HN⟩
          case measure => simp [Go.RowKit.intOf]; omega
        · have hd : decide (p < k) = false := by simp; omega
          have hx : x < y := by have := hhigh (by omega); omega
          have h9 : p ≤ k := by omega
          have h8 : k ≤ p := by omega
          rw [hd]
          have E2 := Lib.hid (HE.out.2.1 h)
          clear hlow hhigh hd h
          go_wp2_with (at_builtin; refine Hid.out ?_)
          refine Lib.hid ?_
          refine wpList_app_fr rfl _ _ 44 rfl w1.heap.size 3 i0 _ 1 8 Tryz.underlying44 hi hz0 hz1 hz2 rfl (by decide) u5 (zs).length ((zs).map (Value.int .i64)) rfl HO.out #[.int .i64 x] _ rfl rfl rfl (by intro u hu; simp at hu; subst hu; rfl) (by omega) (by decide) (by omega) ?_
          intro v1 W2 o1 f1
          have o2 := own_snoc o1
          have zl2 : (zs ++ [x]).length ≤ 1000000 := by rw [List.length_append]; simp; omega
          have zw2 := f1.size
          have a2 : W2.cell? ⟨g, o + k, none⟩ = some (.int .i64 y) := (f1.cell (p := ⟨g, o + k, none⟩) (by have := hg; simp; omega) (fun e => by have := (HQ2.out.1.lt g e).1; omega)).trans a1
          obtain ⟨z2, hz2e⟩ : ∃ z2, zs ++ [x] = z2 := ⟨_, rfl⟩
          rw [hz2e] at o2 zl2
          have hor2 : W2.ownsRow w1.heap.size 3 1 v1 z2.length (z2.map (Value.int .i64)) := o2
          have HO2 := Lib.hid hor2
          have HF := Lib.hid (And.intro o2 (And.intro f1 hz2e))
          clear o1 o2 f1 hor2 hz2e
          go_wp2_with (at_builtin; refine Hid.out ?_)
          refine Lib.hid ?_
          refine wpList_app_fr rfl _ _ 44 rfl w1.heap.size 3 i0 _ 1 8 Tryz.underlying44 hi hz0 hz1 hz2 rfl (by decide) v1 (z2).length ((z2).map (Value.int .i64)) rfl HO2.out #[.int .i64 y] _ rfl rfl rfl (by intro u hu; simp at hu; subst hu; rfl) (by omega) (by decide) (by omega) ?_
          intro v2 W3 o3 f3
          obtain ⟨q1, q2, hzs⟩ := HQ2.out
          obtain ⟨o2, f1, hz2e⟩ := HF.out
          have q3 : Below w1.heap.size w1 W2 := q2.trans (f1.below q2.size fun j _ ej => (q1.lt j ej).1)
          have HN : Hid (OwnI w1.heap.size W3 v2 (addZ xs x (k + 1)) ∧ Below w1.heap.size w1 W3) := ⟨by rw [E2.out, hz2e]; exact own_snoc o3, q3.trans (f3.below q3.size fun j _ ej => (o2.lt j ej).1)⟩
          clear q1 q2 hzs o2 f1 hz2e q3 o3 f3
          go_wp2_with fail
          go_roundw
          case rel => exact ⟨k + 1, by go_num, by omega, by simp; omega, HN⟩
          case measure => simp [Go.RowKit.intOf]; omega
        · have hd : decide (p < k) = true := by simp; omega
          rw [hd]
          clear hlow hhigh hd
          go_wp2_with (at_builtin; refine Hid.out ?_)
          refine Lib.hid ?_
          refine wpList_app_fr rfl _ _ 44 rfl w1.heap.size 3 i0 _ 1 8 Tryz.underlying44 hi hz0 hz1 hz2 rfl (by decide) u5 (zs).length ((zs).map (Value.int .i64)) rfl HO.out #[.int .i64 y] _ rfl rfl rfl (by intro u hu; simp at hu; subst hu; rfl) (by omega) (by decide) (by omega) ?_
          intro v1 W2 o1 f1
          obtain ⟨q1, q2, hzs⟩ := HQ2.out
          have HN : Hid (OwnI w1.heap.size W2 v1 (addZ xs x (k + 1)) ∧ Below w1.heap.size w1 W2) := ⟨by rw [HE.out.2.2 h]; exact own_snoc o1, q2.trans (f1.below q2.size fun j _ ej => (q1.lt j ej).1)⟩
          clear q1 q2 hzs o1 f1
          go_wp2_with fail
          go_roundw
          case rel => exact ⟨k + 1, by go_num, by omega, by simp; omega, HN⟩
          case measure => simp [Go.RowKit.intOf]; omega
      · obtain rfl : k = xs.length := by omega
        have p1 : ¬ ((xs.length : Int) < (xs.length : Int)) := by omega
        have hend := addZ_end xs x HB.out
        rw [HP.out, hzs] at hend
        clear q1 q2 hzs hor
        by_cases h : p < xs.length
        · have hd : decide (p < xs.length) = true := by simp; omega
          rw [if_pos h] at hend
          rw [hd]
          clear hd
          go_wp2_with fail
          go_ret
          obtain ⟨q1, q2, hzs⟩ := HQ2.out
          first | rw [hend] | skip
          exact ⟨⟨u5, rfl, row_base' q1 hbw, tie_own q1⟩, q2⟩
        · have hd : decide (p < xs.length) = false := by simp; omega
          rw [if_neg h] at hend
          rw [hd]
          clear hd
          go_wp2_with (at_builtin; refine Hid.out ?_)
          refine Lib.hid ?_
          refine wpList_app_fr rfl _ _ 44 rfl w1.heap.size 3 i0 _ 1 8 Tryz.underlying44 hi hz0 hz1 hz2 rfl (by decide) u5 (zs).length ((zs).map (Value.int .i64)) rfl HO.out #[.int .i64 x] _ rfl rfl rfl (by intro u hu; simp at hu; subst hu; rfl) (by omega) (by decide) (by omega) ?_
          intro v1 W2 o1 f1
          have HF := Lib.hid (And.intro (own_snoc o1) f1)
          clear o1 f1
          go_wp2_with fail
          go_ret
          obtain ⟨q1, q2, hzs⟩ := HQ2.out
          obtain ⟨o2, f1⟩ := HF.out
          first | rw [hend] | skip
          exact ⟨⟨v1, rfl, row_base' o2 hbw, tie_own o2⟩, q2.trans (f1.below q2.size fun j _ ej => (q1.lt j ej).1)⟩
end Go.Proofs.YtmgnhbihfgpccaaGreatDoor
end
