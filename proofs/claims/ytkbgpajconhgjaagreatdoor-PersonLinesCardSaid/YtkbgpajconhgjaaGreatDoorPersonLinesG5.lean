/- Texts of this proof, one behind the other. -/
import Derived.Test.YtkbgpajconhgjaaGreatDoorPersonLinesG4
import Derived.Test.YtkbgpajconhgjaaGreatDoorPersonLinesG2
import Derived.Shelf.Spec.SlicesGrow
import Derived.Deep.RegionHeld3
import Derived.Deep.DrawnRows
import Derived.WalkKit
import Derived.Sort.QuietThIn
import Derived.Sort.QuietTacIn
import Derived.StillTail
import Derived.TacticsIn
set_option linter.unusedVariables false
set_option linter.unusedSimpArgs false
section
/- Layer 14: digits, slices.Concat of two rows of texts, Numeric. -/
namespace Go.Proofs.YtkbgpajconhgjaaGreatDoor
open Go Go.RowKit

/-- a row of texts as what is appended -/
theorem srcT {w : World} {A : Option Addr} {c : Nat} {xs : List (List UInt8)} (h : ReadsT w A xs) : Src Tryz.prog 1 26 (.slice A xs.length c) xs.length (xs.map encT) w := by
  cases A with
  | none =>
    have h0 : xs = [] := by
      rcases Nat.eq_zero_or_pos xs.length with h0 | h0
      · exact List.length_eq_zero_iff.1 h0
      · obtain ⟨_, _, e, _⟩ := h h0; cases e
    subst h0
    exact Src.ofNil w Tryz.underlying26 c
  | some a =>
    refine Src.ofSlice w Tryz.underlying26 a _ c _ (by simp) (fun j u hu => ?_) (fun u hu => ?_)
    · have hj : j < xs.length := by have := (List.getElem?_eq_some_iff.1 hu).1; simpa using this
      obtain ⟨g, o, e, hg, hc⟩ := h (by omega)
      cases e
      have hadd : (⟨g, o, none⟩ : Addr).add j = ⟨g, o + j, none⟩ := by unfold Addr.add; split <;> simp_all
      rw [hadd, hc j hj, ← hu]
      simp [hj, encT]
    · obtain ⟨b, _, rfl⟩ := List.mem_map.1 hu; rfl
theorem readsT_below {w W : World} {A : Option Addr} {xs : List (List UInt8)} (h : ReadsT w A xs) {B : Nat} (hb : Below B w W) (hB : w.heap.size ≤ B) : ReadsT W A xs := fun h0 => by
  obtain ⟨g, o, e, hg, hc⟩ := h h0
  exact ⟨g, o, e, Nat.lt_of_lt_of_le hg hb.size, fun j hj => (hb.cell (p := ⟨g, o + j, none⟩) (Nat.lt_of_lt_of_le hg hB)).trans (hc j hj)⟩
/-- room for rows -/
theorem growM (n : Nat) (w : World) (h0 : 0 < n) (hn : n ≤ 1000000) :
    Calls Tryz.prog 45 #[.slice none 0 0, .int .i64 n] w fun e w' => ∃ v, e = .returned v ∧ OwnT w.heap.size w' v [] ∧ Below w.heap.size w w' := by
  obtain ⟨i0, hi0, hz0, hz1, hz2⟩ := info_parts Tryz.infoT
  refine (Any8.slices_Grow_grow { Tryz.growS with } i0 _ hi0 hz0 (by omega) none 0 0 n [] w (Nat.le_refl _) (by omega) (by rw [hz2]; omega) (by omega) (by simp) (fun _ => rfl) (fun a e => by cases e)).mono ?_
  rintro e w' ⟨rfl, rfl⟩
  refine ⟨_, rfl, ?_, ?_⟩
  · have hG := Go.grownCap_ge w (0 + n) 0 9
    have hM := Go.grownCap_le_maxLen w (0 + n) 0 9 (by unfold maxLen; omega)
    refine ⟨rfl, .inr ⟨w.heap.size, _, _, rfl, Nat.le_refl _, heap_alloc_new _ _, Nat.zero_le _, hM, ?_, by simp⟩⟩
    have hzc : (Value.cells (Value.string ByteArray.empty)).size = 1 := rfl
    have hr : Tryz.growS_ren.t 25 = 9 := rfl
    simp only [Array.size_append, size_zeroCells, hzc, hr] at *
    have hu : (List.toArray ([] : List Value)).size = 0 := rfl
    omega
  · exact (Below.refl _ w).drew.alloc (Nat.le_refl _) _
set_option maxRecDepth 100000 in
set_option maxHeartbeats 16000000 in
theorem concatM (g2 c2 : Nat) (A B : Option Addr) (c d : Nat) (xs ys : List (List UInt8)) (w : World) (h1 : w.cell? ⟨g2, 0, none⟩ = some (.slice A xs.length c)) (h2 : w.cell? ⟨g2, 1, none⟩ = some (.slice B ys.length d)) (hA : ReadsT w A xs) (hB : ReadsT w B ys) (h0 : 0 < xs.length + ys.length) (hn : xs.length + ys.length ≤ 100000) (hg2 : g2 < w.heap.size) :
    Calls Tryz.prog 29 #[.slice (some ⟨g2, 0, none⟩) 2 c2] w fun e w' => ∃ v, e = .returned v ∧ OwnT w.heap.size w' v (xs ++ ys) ∧ Below w.heap.size w w' := by
  obtain ⟨i0, hi0, hz0, hz1, hz2⟩ := info_parts Tryz.infoT
  have HGr := Lib.hid (growM (xs.length + ys.length) w h0 (by omega))
  have HA := Lib.hid hA
  have HB := Lib.hid hB
  have H12 := Lib.hid (And.intro h1 h2)
  have hs1 : ¬ ((xs.length : Int) < 0) := by omega
  have hs2 : ¬ (((xs.length : Int) + ys.length) < 0) := by omega
  clear hA hB h0
  go_enter Tryz.func29, Tryz.ntmps29
  go_wp2_with fail
  go_loopw [11, 3] (fun i z wr => ∃ k : Nat, k ≤ 2 ∧ i = .int .i64 k ∧ z = .int .i64 (if k = 0 then 0 else if k = 1 then (xs.length : Int) else (xs.length : Int) + ys.length) ∧ w = wr) (fun i _ _ => 2 - (Go.RowKit.intOf i).toNat)
  case atStart => exact ⟨0, by omega, rfl, rfl, rfl⟩
  case round =>
    obtain ⟨k, hk, rfl, rfl, rfl⟩ := hrel
    have hc1 := H12.out.1
    have hc2 := H12.out.2
    obtain rfl | rfl | rfl : k = 0 ∨ k = 1 ∨ k = 2 := by omega
    · go_wp2_with fail
      exact ⟨⟨1, by omega, rfl, by simp, by simp⟩, by simp [Go.RowKit.intOf]⟩
    · go_wp2_with fail
      exact ⟨⟨2, by omega, rfl, by simp, by simp⟩, by simp [Go.RowKit.intOf]⟩
    · go_wp2_with fail
      refine HGr.out.mono ?_
      rintro e w1 ⟨v, rfl, ho, hb⟩
      have HO := Lib.hid ho
      have HW := Lib.hid hb
      clear ho hb
      go_wp2_with fail
      go_loopw [27, 6] (fun i v wr => ∃ k : Nat, k ≤ 2 ∧ i = .int .i64 k ∧ OwnT w.heap.size wr v (if k = 0 then [] else if k = 1 then xs else xs ++ ys) ∧ Below w.heap.size w wr) (fun i _ _ => 2 - (Go.RowKit.intOf i).toNat)
      case atStart => exact ⟨0, by omega, rfl, HO.out, HW.out⟩
      case round =>
        obtain ⟨k, hk, rfl, ho, hb⟩ := hrel
        have HO2 := Lib.hid ho
        have HW2 := Lib.hid hb
        have hd1 : wr.cell? ⟨g2, 0, none⟩ = some (.slice A xs.length c) := (hb.cell (p := ⟨g2, 0, none⟩) hg2).trans H12.out.1
        have hd2 : wr.cell? ⟨g2, 1, none⟩ = some (.slice B ys.length d) := (hb.cell (p := ⟨g2, 1, none⟩) hg2).trans H12.out.2
        clear ho hb
        obtain rfl | rfl | rfl : k = 0 ∨ k = 1 ∨ k = 2 := by omega
        · go_wp2_with (at_builtin; refine wpList_app_u rfl _ _ 26 26 rfl w.heap.size 9 i0 _ 1 16 Tryz.underlying26 hi0 hz0 hz1 hz2 rfl _ 0 [] rfl HO2.out (.slice A xs.length c) xs.length (xs.map encT) rfl (srcT (readsT_below HA.out HW2.out (Nat.le_refl _))) (by omega) (by decide) HW2.out.size ?_)
          intro v3 w3 r1 r2 r3
          have HR1 := Lib.hid (And.intro r1 r2)
          clear r1 r2 r3
          go_wp2_with fail
          refine ⟨⟨1, by omega, rfl, ?_, ?_⟩, by simp [Go.RowKit.intOf]⟩
          · have := HR1.out.1
            exact this
          · exact HW2.out.trans (HR1.out.2.below HW2.out.size fun k _ hk => (HO2.out.lt k hk).1)
        · go_wp2_with (at_builtin; refine wpList_app_u rfl _ _ 26 26 rfl w.heap.size 9 i0 _ 1 16 Tryz.underlying26 hi0 hz0 hz1 hz2 rfl _ xs.length (xs.map encT) rfl HO2.out (.slice B ys.length d) ys.length (ys.map encT) rfl (srcT (readsT_below HB.out HW2.out (Nat.le_refl _))) (by omega) (by decide) HW2.out.size ?_)
          intro v3 w3 r1 r2 r3
          have HR1 := Lib.hid (And.intro r1 r2)
          clear r1 r2 r3
          go_wp2_with fail
          refine ⟨⟨2, by omega, rfl, ?_, ?_⟩, by simp [Go.RowKit.intOf]⟩
          · have := HR1.out.1
            rw [← List.map_append, ← List.length_append] at this
            exact this
          · exact HW2.out.trans (HR1.out.2.below HW2.out.size fun k _ hk => (HO2.out.lt k hk).1)
        · go_wp2_with fail
          go_ret
          exact ⟨_, rfl, HO2.out, HW2.out⟩
/-- a numeric's three digits -/
def d14 (n : Nat) : UInt8 := UInt8.ofNat (48 + n % 10)
def codeL (n : Nat) : List UInt8 := [d14 (n / 100), d14 (n / 10), d14 n]
theorem itoa_code (n : Nat) (h : n ≤ 999) : Lib.itoa (1000 + (n : Int)) = 49 :: codeL n := by
  unfold Lib.itoa
  rw [if_neg (by omega), show (1000 + (n : Int)).toNat = 1000 + n by omega]
  rw [Lib.decDigits, dif_neg (by omega), Lib.decDigits, dif_neg (by omega), Lib.decDigits, dif_neg (by omega), Lib.decDigits, dif_pos (by omega)]
  rw [show (1000 + n) % 10 = n % 10 by omega, show (1000 + n) / 10 % 10 = n / 10 % 10 by omega, show (1000 + n) / 10 / 10 % 10 = n / 100 % 10 by omega, show (1000 + n) / 10 / 10 / 10 = 1 by omega]
  rfl
/-- the table of powers -/
def PowW (W : World) : Prop := Lib.TabIs Tryz.prog W "internal/strconv.uint64pow10" .u64 Lib.pow10Tab
theorem powG14 : Tryz.prog.globalNamed "internal/strconv.uint64pow10" = some 0 := by kernel_rfl
theorem PowW.below {w W : World} (h : PowW w) (hb : Below w.heap.size w W) : PowW W := by
  have hlt : 0 < w.heap.size := by
    unfold PowW Lib.TabIs World.var? at h
    rw [powG14] at h
    simp only [Option.bind_some] at h
    split at h
    · rename_i cs t i hx
      exact (Array.getElem?_eq_some_iff.1 hx).1
    · cases h
  unfold PowW Lib.TabIs World.var? at h ⊢
  rw [powG14] at h ⊢
  simp only [Option.bind_some] at h ⊢
  rw [hb.block _ hlt]
  exact h
theorem itoaM (n : Int) (h0 : -9223372036854775808 ≤ n) (h1 : n ≤ 9223372036854775807) (w : World) (hp : PowW w) : Calls Tryz.prog 44 #[.int .i64 n] w fun e w' => e = .returned (.string (bs (Lib.itoa n))) ∧ Below w.heap.size w w' := by
  refine (Tryz.strconv_Itoa n h0 h1 w hp).mono ?_
  rintro e w' ⟨rfl, k, os, rfl⟩
  refine ⟨rfl, ?_⟩
  have key : Fr (fun _ => False) (w.drewN k) (Go.Sort.grow (w.drewN k) os) := ⟨rfl, rfl, rfl, by simp [Go.Sort.grow], fun j hj _ => by
    show (((w.drewN k).heap ++ os)[j]?) = _
    exact Array.getElem?_append_left hj⟩
  exact (((Fr.refl (fun _ => False) w).drewN k).trans key).below (Nat.le_refl _) fun _ _ h => h.elim
set_option maxRecDepth 100000 in
set_option maxHeartbeats 4000000 in
theorem digitsM (n : Nat) (h0 : 1 ≤ n) (h1 : n ≤ 999) (w : World) (hp : PowW w) :
    Calls Tryz.prog 28 #[.int .i64 n] w fun e w' => e = .returned (.string (bs (codeL n))) ∧ Below w.heap.size w w' := by
  have HI := Lib.hid (itoaM (1000 + (n : Int)) (by omega) (by omega) w hp)
  rw [itoa_code n h1] at HI
  have hw : wrap64 (1000 + (n : Int)) = 1000 + (n : Int) := by unfold wrap64; omega
  have hn1 : ¬ ((n : Int) < 1) := by omega
  have hn2 : ¬ ((999 : Int) < n) := by omega
  clear hp
  go_enter Tryz.func28, Tryz.ntmps28
  go_wp2_with fail
  refine HI.out.mono ?_
  rintro e w1 ⟨rfl, hb⟩
  have HB := Lib.hid hb
  clear hb
  go_wp2_with fail
  go_ret
  have e1 : (bs (49 :: codeL n)).extract 1 (bs (49 :: codeL n)).size = bs (codeL n) := ba_ext (by simp)
  exact ⟨congrArg Ending.returned (congrArg Value.string e1), HB.out⟩
end Go.Proofs.YtkbgpajconhgjaaGreatDoor
end
section
/- Layer 14: Numeric. -/
namespace Go.Proofs.YtkbgpajconhgjaaGreatDoor
open Go Go.RowKit

theorem d14_nat (n : Nat) : (d14 n).toNat = 48 + n % 10 := by simp [d14]; omega
theorem code_cmd (n : Nat) : cmdB (bs (codeL n)) = true := by
  have h1 : capsB (bs (codeL n)) = false := (allI_no (s := bs (codeL n)) (p := fun _ b => betw 65 90 b) (k := 0) (by simp [codeL]) (by
    show betw 65 90 (d14 (n / 100)) = false
    unfold betw
    rw [d14_nat]
    exact decide_eq_false fun h => by omega)).symm
  have h2 : digsB (bs (codeL n)) = true := allI_iff.2 fun i hi => by
    have h3 : i < 3 := by simpa [codeL] using hi
    obtain rfl | rfl | rfl : i = 0 ∨ i = 1 ∨ i = 2 := by omega
    · show betw 48 57 (d14 (n / 100)) = true
      unfold betw; rw [d14_nat]; exact decide_eq_true ⟨by omega, by omega⟩
    · show betw 48 57 (d14 (n / 10)) = true
      unfold betw; rw [d14_nat]; exact decide_eq_true ⟨by omega, by omega⟩
    · show betw 48 57 (d14 n) = true
      unfold betw; rw [d14_nat]; exact decide_eq_true ⟨by omega, by omega⟩
  unfold cmdB
  rw [h1, h2]
  simp [codeL]
/-- whom a numeric is told -/
def toL (whom : List UInt8) : List UInt8 := if whom = [] then [42] else whom
/-- the line of a numeric -/
def numL (server whom : List UInt8) (n : Nat) (ps : List (List UInt8)) : List UInt8 := makeL server (codeL n) (toL whom :: ps)
/-- the rows that are put together -/
theorem two_rows (w : World) (whom : List UInt8) (v : Value) (N : Nat) (hN : w.heap.size = N) :
    ((w.alloc (.cells #[.string (bs whom)] 9)).alloc (.cells #[.slice (some ⟨N, 0, none⟩) 1 1, v] 26)).cell? ⟨N + 1, 0, none⟩ = some (.slice (some ⟨N, 0, none⟩) 1 1) ∧
    ((w.alloc (.cells #[.string (bs whom)] 9)).alloc (.cells #[.slice (some ⟨N, 0, none⟩) 1 1, v] 26)).cell? ⟨N + 1, 1, none⟩ = some v ∧
    ((w.alloc (.cells #[.string (bs whom)] 9)).alloc (.cells #[.slice (some ⟨N, 0, none⟩) 1 1, v] 26)).cell? ⟨N, 0, none⟩ = some (.string (bs whom)) := by
  have h1 := heap_alloc_new (w.alloc (.cells #[.string (bs whom)] 9)) (.cells #[.slice (some ⟨N, 0, none⟩) 1 1, v] 26)
  rw [World.size_alloc, hN] at h1
  have h2 := blk_alloc (heap_alloc_new w (.cells #[.string (bs whom)] 9)) (.cells #[.slice (some ⟨N, 0, none⟩) 1 1, v] 26)
  rw [hN] at h2
  exact ⟨blk_cell h1 0, blk_cell h1 1, blk_cell h2 0⟩
theorem conc_rows (w1 : World) (whom : List UInt8) (A : Option Addr) (c : Nat) (ps : List (List UInt8)) (hR : ReadsT w1 A ps) (hl : ps.length ≤ 14) :
    Calls Tryz.prog 29 #[.slice (some ⟨w1.heap.size + 1, 0, none⟩) 2 2] ((w1.alloc (.cells #[.string (bs whom)] 9)).alloc (.cells #[.slice (some ⟨w1.heap.size, 0, none⟩) 1 1, .slice A ps.length c] 26)) fun e w' => ∃ A2 c2, e = .returned (.slice A2 (whom :: ps).length c2) ∧ ReadsT w' A2 (whom :: ps) ∧ Below w1.heap.size w1 w' := by
  obtain ⟨h1, h2, h3⟩ := two_rows w1 whom (.slice A ps.length c) w1.heap.size rfl
  obtain ⟨W, hW⟩ : ∃ W, ((w1.alloc (.cells #[.string (bs whom)] 9)).alloc (.cells #[.slice (some ⟨w1.heap.size, 0, none⟩) 1 1, .slice A ps.length c] 26)) = W := ⟨_, rfl⟩
  have hs : W.heap.size = w1.heap.size + 2 := by rw [← hW]; simp
  have hb : Below w1.heap.size w1 W := by rw [← hW]; exact ((Below.refl _ w1).alloc (Nat.le_refl _) _).alloc (by simp) _
  rw [hW] at h1 h2 h3 ⊢
  have hr1 : ReadsT W (some ⟨w1.heap.size, 0, none⟩) [whom] := fun _ => ⟨_, _, rfl, by omega, fun j hj => by
    obtain rfl : j = 0 := by simpa using hj
    exact h3⟩
  refine (concatM (w1.heap.size + 1) 2 (some ⟨w1.heap.size, 0, none⟩) A 1 c [whom] ps W h1 h2 hr1 (readsT_below hR hb (Nat.le_refl _)) (by simp only [List.length_cons, List.length_nil]; omega) (by simp; omega) (by omega)).mono ?_
  rintro e w' ⟨v, rfl, ho, hb2⟩
  obtain ⟨A2, c2, rfl⟩ := row_slice ho
  exact ⟨A2, c2, rfl, reads_ownT ho, hb.trans (hb2.mono (by omega))⟩
set_option maxRecDepth 100000 in
set_option maxHeartbeats 8000000 in
theorem numericM (server whom : List UInt8) (n : Nat) (A : Option Addr) (c : Nat) (ps : List (List UInt8)) (w : World) (hR : ReadsT w A ps) (hm : Mx w) (hp : PowW w) (h0 : 1 ≤ n) (h1 : n ≤ 999) (h2 : ps.length ≤ 14) (h3 : server.length ≤ 1000000) (h4 : whom.length ≤ 90000) (h5 : ∀ p ∈ ps, p.length ≤ 90000) :
    Calls Tryz.prog 16 #[.string (bs server), .int .i64 n, .string (bs whom), .slice A ps.length c] w fun e w' => e = .returned (.string (bs (numL server whom n ps))) ∧ Below w.heap.size w w' := by
  have HR := Lib.hid hR
  have HM := Lib.hid hm
  have HD := Lib.hid (digitsM n h0 h1 w hp)
  clear hR hm hp
  unfold numL
  cases whom with
  | nil =>
    have e0 : bs ([] : List UInt8) = ({ data := #[] } : ByteArray) := rfl
    rw [e0, show toL [] = [42] from rfl]
    clear e0
    go_enter Tryz.func16, Tryz.ntmps16
    go_wp2_with fail
    refine HD.out.mono ?_
    rintro e w1 ⟨rfl, hb1⟩
    have hs1 := hb1.size
    have HC := Lib.hid (conc_rows w1 ([42]) A c ps (readsT_below HR.out hb1 (Nat.le_refl _)) h2)
    have HB1 := Lib.hid hb1
    have HS1 := Lib.hid hs1
    clear hb1 hs1
    go_wp2_with fail
    refine HC.out.mono ?_
    rintro e w2 ⟨A2, c2, rfl, hr2, hb2⟩
    have HW := Lib.hid (HB1.out.trans (hb2.mono HS1.out))
    have HMK := Lib.hid (makeM server (codeL n) A2 c2 (([42]) :: ps) w2 hr2 (mx_kept HM.out HW.out (Nat.le_refl _)) (code_cmd n) h3 (by simp [codeL]) (by simp; omega) (by
      intro p hp
      rcases List.mem_cons.1 hp with rfl | hp
      · first | exact h4 | simp
      · exact h5 p hp))
    clear hr2 hb2 HC
    go_wp2_with fail
    refine HMK.out.mono ?_
    rintro e w3 ⟨rfl, hb3⟩
    have HB3 := Lib.hid hb3
    clear hb3
    go_wp2_with fail
    go_ret
    exact ⟨rfl, HW.out.trans (HB3.out.mono HW.out.size)⟩
  | cons b0 r0 =>
    have hemp := str_ne (s := bs (b0 :: r0)) (by simp)
    rw [show toL (b0 :: r0) = b0 :: r0 from rfl]
    go_enter Tryz.func16, Tryz.ntmps16
    go_wp2_with fail
    refine HD.out.mono ?_
    rintro e w1 ⟨rfl, hb1⟩
    have hs1 := hb1.size
    have HC := Lib.hid (conc_rows w1 (b0 :: r0) A c ps (readsT_below HR.out hb1 (Nat.le_refl _)) h2)
    have HB1 := Lib.hid hb1
    have HS1 := Lib.hid hs1
    clear hb1 hs1
    go_wp2_with fail
    refine HC.out.mono ?_
    rintro e w2 ⟨A2, c2, rfl, hr2, hb2⟩
    have HW := Lib.hid (HB1.out.trans (hb2.mono HS1.out))
    have HMK := Lib.hid (makeM server (codeL n) A2 c2 ((b0 :: r0) :: ps) w2 hr2 (mx_kept HM.out HW.out (Nat.le_refl _)) (code_cmd n) h3 (by simp [codeL]) (by simp; omega) (by
      intro p hp
      rcases List.mem_cons.1 hp with rfl | hp
      · first | exact h4 | simp
      · exact h5 p hp))
    clear hr2 hb2 HC
    go_wp2_with fail
    refine HMK.out.mono ?_
    rintro e w3 ⟨rfl, hb3⟩
    have HB3 := Lib.hid hb3
    clear hb3
    go_wp2_with fail
    go_ret
    exact ⟨rfl, HW.out.trans (HB3.out.mono HW.out.size)⟩
end Go.Proofs.YtkbgpajconhgjaaGreatDoor
end
section
/- Regions that draw their order, walked op by op in one way: what is held may grow on the way. -/
namespace Go.Proofs.YtkbgpajconhgjaaGreatDoor
open Go Go.RowKit

section
variable {P : Program} {md : Region.Mode} {ops : Array Oper} {Q : Exit → Act → World → Prop} {S T : World → Prop}
/-- what is held may be more from here on -/
theorem wpAnyH_more (hST : ∀ w, T w → S w) : ∀ (fuel : Nat) (listed : Array Bool) (a : Act) (w : World), wpAnyH P md ops Q T fuel listed a w → wpAnyH P md ops Q S fuel listed a w
  | 0, _, _, _, h => h
  | fuel + 1, _, _, _, h => ⟨h.1, fun i hi => wpOp_mono (fun a' w' h' => ⟨hST w' h'.1, wpAnyH_more hST fuel _ a' w' h'.2⟩) (h.2 i hi)⟩
/-- one alone may come up: a call, a store -/
theorem wpAnyH_one {i : Nat} {o : Oper} {fuel : Nat} {listed : Array Bool} {a : Act} {w : World} (hr : Region.ready md ops listed = [i]) (ho : ops[i]? = some o) (hw : Region.wanted o (yielded ops a.tmps) = true)
    (h : ∀ K' : Act → World → Prop, Shut (∀ a w, S w → (S w → wpAnyH P md ops Q S fuel (listed.setIfInBounds i true) a w) → K' a w) → Oper.wp P o a w K' Q) : wpAnyH P md ops Q S (fuel + 1) listed a w :=
  wpAnyH_ready hr (by simp) (AllReadyH.cons ho (fun K hK => by rw [if_pos hw]; exact h K hK) AllReadyH.nil)
/-- what yields in every world that is held -/
theorem wpAnyH_read {i : Nat} {oi : Oper} (v : Value) {fuel : Nat} {listed : Array Bool} {a : Act} {w : World} (hi : ops[i]? = some oi)
    (hs : Region.noSelect ops = true) (hf : Region.free md ops listed i = true) (hr : (Region.ready md ops listed).contains i = true)
    (hQ : ∀ c a w, Q (.panic c) (a.put oi.dst v) w → Q (.panic c) a w) (hw : Region.wanted oi (yielded ops a.tmps) = true) (hS : S w)
    (hy : ∀ w, S w → (execOp a.eval oi).run P w = .ok (.value v) w)
    (h : wpAnyH P md ops Q S fuel (listed.setIfInBounds i true) (a.put oi.dst v) w) : wpAnyH P md ops Q S (fuel + 1) listed a w :=
  wpAnyH_take hi hs hf hr hQ (Or.inl ⟨hw, hy⟩) hS h
/-- what is guarded, and not wanted -/
theorem wpAnyH_pass {i : Nat} {oi : Oper} {fuel : Nat} {listed : Array Bool} {a : Act} {w : World} (hi : ops[i]? = some oi)
    (hs : Region.noSelect ops = true) (hf : Region.free md ops listed i = true) (hr : (Region.ready md ops listed).contains i = true)
    (hQ : ∀ c a w, Q (.panic c) (a.put oi.dst undef) w → Q (.panic c) a w) (hw : Region.wanted oi (yielded ops a.tmps) = false) (hS : S w)
    (h : wpAnyH P md ops Q S fuel (listed.setIfInBounds i true) (a.put oi.dst undef) w) : wpAnyH P md ops Q S (fuel + 1) listed a w :=
  wpAnyH_take hi hs hf hr hQ (Or.inr ⟨hw, rfl⟩) hS h
end
end Go.Proofs.YtkbgpajconhgjaaGreatDoor
end
section
/- Layer 22: reply.whole: words that have bytes, without those that part words or lines. -/
namespace Go.Proofs.YtkbgpajconhgjaaGreatDoor
open Go Go.RowKit Go.Lib
attribute [local go_sem] Oper.semAt_some

/-- a word without the bytes that part words or lines -/
def bareL (l : List UInt8) : List UInt8 := (cleanL l).filter fun b => decide (b ≠ 32)
theorem bareL_len (l : List UInt8) : (bareL l).length ≤ l.length := Nat.le_trans (List.length_filter_le _ _) (clean_len l)
theorem bareL_swap (l : List UInt8) : cleanL (l.filter fun b => decide (b ≠ 32)) = bareL l := by
  unfold bareL cleanL
  rw [List.filter_filter, List.filter_filter]
  congr 1
  funext b
  exact Bool.and_comm _ _
def wholeL (ws : List (List UInt8)) : List (List UInt8) := (ws.map bareL).filter fun x => decide (x ≠ [])
theorem filt_none {l : List UInt8} (h : ∀ b ∈ l, b ≠ 32) : l.filter (fun b => decide (b ≠ 32)) = l := List.filter_eq_self.2 fun b hb => decide_eq_true (h b hb)
theorem replaceK_none : ∀ (k : Nat) (s : List UInt8), Lib.count s [32] ≤ k → Lib.replaceK [32] [] k s = s.filter fun b => decide (b ≠ 32)
  | 0, s, h => by
    rcases ix_split s with ⟨h1, h2⟩ | ⟨i, h1, _⟩
    · rw [filt_none h2]; rfl
    · have := Lib.count_hit (by decide) h1; omega
  | k + 1, s, h => by
    rcases ix_split s with ⟨h1, h2⟩ | ⟨i, h1, hl, h2, h3⟩
    · rw [filt_none h2]
      show (if Lib.index s [32] == -1 then s else _) = s
      rw [h1]; rfl
    · have hc := Lib.count_hit (by decide) h1
      rw [Lib.replaceK_hit _ _ _ _ _ h1, replaceK_none k _ (by simp only [List.length_cons, List.length_nil] at hc ⊢; omega)]
      conv => rhs; rw [h2]
      rw [List.filter_append, List.filter_cons, filt_none h3]
      simp
theorem replace_none (s : List UInt8) : Lib.replaceAll s [32] [] = s.filter fun b => decide (b ≠ 32) := by
  unfold Lib.replaceAll Lib.replace
  rw [if_neg (by decide)]
  refine replaceK_none _ _ ?_
  unfold Lib.replaceNum
  rw [if_pos (.inl (by decide))]
  exact Nat.le_refl _
theorem replN (l : List UInt8) (w : World) (hl : l.length ≤ 1000000) (hm : Mx w) :
    Calls Tryz.prog 52 #[.string (bs l), .string ⟨#[32]⟩, .string ⟨#[]⟩] w fun e w' => e = .returned (.string (bs (l.filter fun b => decide (b ≠ 32)))) ∧ Below w.heap.size w w' := by
  obtain ⟨m, hm⟩ := hm
  have hs : (bs l).size = l.length := by simp
  have hc := countB_blank (bs l)
  refine (Tryz.strings_ReplaceAll (bs l) ⟨#[32]⟩ ⟨#[]⟩ m w (by omega) hm (by decide) (by
    have h1 : (⟨#[]⟩ : ByteArray).size = 0 := rfl
    rw [h1]; omega)).mono ?_
  rintro e w' ⟨rfl, hb⟩
  refine ⟨?_, hb⟩
  have : Lib.replaceAll (bs l).data.toList (⟨#[32]⟩ : ByteArray).data.toList (⟨#[]⟩ : ByteArray).data.toList = l.filter fun b => decide (b ≠ 32) := by
    rw [bs_toList]; exact replace_none l
  rw [this]
  rfl
theorem cleanP (l : List UInt8) (w : World) (hl : l.length ≤ 1000000) :
    Calls Tryz.prog 53 #[.string (bs l), .int .i64 (l.length : Nat)] w fun e w' => e = .returned (.string (bs (cleanL l))) ∧ Below w.heap.size w w' := by
  have hc := clean_v (bs l) ((bs l).size : Int) w (by simpa using hl)
  rw [cleanV_all, show (bs l).size = l.length by simp] at hc
  exact hc
theorem mx_same {w W : World} (h : Mx w) (hb : W.heap[1]? = w.heap[1]?) : Mx W := by
  obtain ⟨m, hm⟩ := h
  exact ⟨m, (World.cell?_of_block (w := w) (w' := W) (a := ⟨1, 0, none⟩) hb).trans hm⟩
theorem mx_lt {w : World} (h : Mx w) : 1 < w.heap.size := by
  obtain ⟨m, hm⟩ := h
  exact World.block_lt_of_cell? _ _ hm
set_option maxRecDepth 100000 in
set_option maxHeartbeats 4000000 in
theorem whole_seqF {w : World} {B : Nat} {F : Value} {Yf : Nat → Prop} {xs : List (List UInt8)} (hb : w.heap[B]? = some (.cells #[F] 41 (0, 0))) (hm : Mx w) (hlen : ∀ x ∈ xs, x.length ≤ 100000) (hT : TellsF Tryz.prog encL w F Yf xs) :
    SeqF Tryz.prog 51 #[.pointer (some ⟨B, 0, none⟩)] encL (fun b => b = B ∨ b = 1 ∨ Yf b) (wholeL xs) w := fun l J Jx X V hs hYl hX hJ hJx hY h0 => by
  obtain ⟨gf, lb, rfl, hseq, hYf, heg⟩ := hT
  have kB := (hs B (.inl rfl)).trans hb
  have mV : Mx V := mx_same hm (hs _ (.inr (.inl rfl)))
  obtain ⟨W0, hW0⟩ : ∃ W0, V.alloc (Obj.cells #[.func (.yield l) #[] #[]] 47) = W0 := ⟨_, rfl⟩
  have f0 : Fr (fun _ => False) V W0 := by rw [← hW0]; exact (Fr.refl _ V).alloc _
  have k3 : W0.heap[V.heap.size]? = some (.cells #[.func (.yield l) #[] #[]] 47 (0, 0)) := by rw [← hW0]; exact heap_alloc_new _ _
  have z0 : W0.heap.size = V.heap.size + 1 := by rw [← hW0]; simp
  have m0 : Mx W0 := mx_same mV (f0.block _ (mx_lt mV) fun e => e)
  have hsq : SeqF Tryz.prog gf lb encL Yf xs W0 := (hseq.same (fun b hb => hs b (.inr (.inr hb)))).same fun b hb => f0.block b (hYl b (.inr (.inr hb))) fun e => e
  have hj0 : J (wholeL []) X W0 := hJ.fr h0 (fun k hk => (hX k hk).1) f0 fun _ e => e.elim
  have c0 : (V.alloc (Obj.cells #[.func (.yield l) #[] #[]] 47)).cell? ⟨B, 0, none⟩ = some (.func (.func gf) #[] lb) := by rw [hW0]; exact (blk_cell (f0.blk kB fun e => e) 0).trans rfl
  have H := Lib.hid (And.intro hX (And.intro hYl (And.intro hJ (And.intro hJx (And.intro hY (And.intro f0 (And.intro k3 (And.intro z0 (And.intro hsq (And.intro hj0 (And.intro heg (And.intro m0 (And.intro hYf hlen)))))))))))))
  have HW := Lib.hid hW0
  clear hb hs hYl hX hJ hJx hY h0 kB mV f0 k3 z0 hsq hj0 hseq heg hYf hW0 hm m0 hlen
  have hnil : ∀ W, (binOp BinOp.eql 41 (.func (.func gf) #[] lb) Value.nilFunc).run Tryz.prog W = .ok (.bool false) W := fun W => by rfl
  refine (callsIn_wide (n := 20)).1 ?_
  refine callsIn_of_wp_marks Tryz.func51 rfl trivial ?_ rfl
  simp only [Tryz.ntmps51, List.size_toArray, List.length_cons, List.length_nil, Nat.reduceAdd, Nat.reduceSub, Array.replicate_succ, Array.replicate_zero, List.push_toArray, List.append_toArray, List.nil_append, List.cons_append]
  gi_wp2_with (simp only [hnil])
  rw [HW.out]
  obtain ⟨hX, hYl, hJ, hJx, hY, f0, k3, z0, hsq, hj0, heg, m0, hYf, hlen⟩ := H.out
  have bx : ∀ k, X k → k < V.heap.size := fun k hk => (hX k hk).1
  refine wpIn_rangeF (X := X) (Y := Yf) (xs := xs) (encs := encL) (gf := gf) (lb := lb) (fun pre X1 W => J (wholeL pre) X1 W) (fun c pre X1 W => c = .ret ∧ Jx (wholeL pre) X1 W)
    rfl hsq (fun k hk => ⟨by have := bx k hk; omega, fun e => (hX k hk).2 (.inr (.inr e))⟩) (fun b hb => by have := hYl b (.inr (.inr hb)); omega) (by omega) heg (fun _ => rfl)
    (fun s => hJ _) (fun c s X1 V1 V2 h h1 h2 => ⟨h.1, hJx _ X1 V1 V2 h.2 h1 h2⟩) hj0 ?round ?done ?stop
  case round =>
    rintro l2 pre y r X1 V1 K rb hl2 hpx hI hG hxl hF hlV hK
    dsimp only [encL]
    have HK := Lib.hid hK
    have HV := Lib.hid (And.intro hpx (And.intro hI (And.intro hG (And.intro hxl (And.intro hF (And.intro hlV hl2))))))
    clear hK hX hYl hJ hJx hY f0 k3 z0 hsq hj0 heg m0 hYf hlen hpx hI hG hxl hF hlV hl2 bx c0
    gi_wp2_with fail
    refine HK.out _ _ (Fr.refl _ _) fun Vb hfb hzb hsb hrb => ?_
    clear HK K
    obtain ⟨hpx, hI, hG, hxl, hF, hlV, hl2⟩ := HV.out
    obtain ⟨hX, hYl, hJ, hJx, hY, f0, k3, z0, hsq, hj0, heg, m0, hYf, hlen⟩ := H.out
    have hyl : y.length ≤ 100000 := hlen y (by rw [← hpx]; simp)
    have hb1 : ∀ k, X1 k → k < V1.heap.size := fun k hk => (hG k hk).1
    have hlt : ∀ k, X k → k < V.heap.size := fun k hk => (hX k hk).1
    have at1 : ∀ {b : Nat} {o : Obj}, W0.heap[b]? = some o → ¬ X b → Vb.heap[b]? = some o := fun {b o} h hx => hfb.blk (hF.blk h hx) fun e => by have := blk_lt h; omega
    have k3b := at1 k3 fun e => by have := hlt _ e; omega
    have hmlt := mx_lt m0
    have mVb : Mx Vb := mx_same m0 ((hfb.block _ (Nat.lt_of_lt_of_le hmlt hF.size) (fun e => by omega)).trans (hF.block _ hmlt fun e => (hX _ e).2 (.inr (.inl rfl))))
    have hfw : Fr X V Vb := ((f0.mono (Y := X) fun _ _ h => h.elim).trans3 hF fun k _ e => e).trans3 hfb fun k hk e => by omega
    have hgw : GrowX X X1 V Vb := fun k hk => ⟨Nat.lt_of_lt_of_le (hb1 k hk) hfb.size, fun h => (hG k hk).2 (by omega)⟩
    have hjb : J (wholeL pre) X1 Vb := hJ.fr hI hb1 hfb fun k e h => hxl (e ▸ h)
    have hzs : Vb.heap.size = V1.heap.size := hzb
    have HCl := Lib.hid (cleanP y Vb (by omega))
    have HE := Lib.hid (And.intro hpx (And.intro hI (And.intro hG (And.intro hxl (And.intro hF (And.intro hlV (And.intro hl2 (And.intro hX (And.intro hYl (And.intro hJ (And.intro hJx (And.intro hY (And.intro hb1 (And.intro hlt (And.intro k3b (And.intro mVb (And.intro hfw (And.intro hgw (And.intro hjb (And.intro hzs (And.intro hfb hrb)))))))))))))))))))))
    clear hpx hI hG hxl hF hlV hl2 hX hYl hJ hJx hY f0 k3 z0 hsq hj0 heg m0 hYf hlen hb1 hlt at1 k3b hmlt mVb hfw hgw hjb hzs hfb hzb hsb hrb H HV HW
    gi_wp2_with fail
    refine ⟨trivial, (calls_wide (.inr ⟨l2, rfl⟩) HCl.out).mono ?_⟩
    rintro e W4 ⟨rfl, b4⟩
    have HRp := Lib.hid (replN (cleanL y) W4 (Nat.le_trans (clean_len y) (by omega)) (mx_kept HE.out.2.2.2.2.2.2.2.2.2.2.2.2.2.2.2.1 b4 (Nat.le_refl _)))
    have B4 := Lib.hid b4
    clear b4
    gi_wp2_with fail
    refine ⟨trivial, (calls_wide (.inr ⟨l2, rfl⟩) HRp.out).mono ?_⟩
    rintro e W5 ⟨rfl, b5⟩
    rw [show ((cleanL y).filter fun b => decide (b ≠ 32)) = bareL y from rfl]
    obtain ⟨hpx, hI, hG, hxl, hF, hlV, hl2, hX, hYl, hJ, hJx, hY, hb1, hlt, k3b, mVb, hfw, hgw, hjb, hzs, hfb, hrb⟩ := HE.out
    have f5 : Fr (fun _ => False) Vb W5 := Fr.of_below (B4.out.trans (b5.mono B4.out.size))
    have hjc : J (wholeL pre) X1 W5 := hJ.fr hjb (fun k hk => by have := hb1 k hk; omega) f5 fun _ e => e.elim
    have k3c := f5.blk k3b fun e => e
    have c3 := blk_cell k3c 0
    have hrc := f5.blk hrb fun e => e
    have hfc : Fr X V W5 := hfw.trans3 f5 fun _ _ e => e.elim
    have hgc : GrowX X X1 V W5 := fun k hk => ⟨Nat.lt_of_lt_of_le (hgw k hk).1 f5.size, (hgw k hk).2⟩
    have hf2 : Fr (fun k => k = l2) V1 W5 := hfb.trans3 f5 fun _ _ e => e.elim
    have hz5 := f5.size
    obtain ⟨q, hq⟩ : ∃ q, bareL y = q := ⟨_, rfl⟩
    rw [hq]
    cases q with
    | nil =>
      have hfl : wholeL (pre ++ [y]) = wholeL pre := by unfold wholeL; rw [List.map_append, List.filter_append]; simp [hq]
      have HN : Hid (∃ X2, GrowX X1 X2 V1 W5 ∧ Fr (fun k => k = l2 ∨ X1 k) V1 W5 ∧ W5.heap[l2]? = some (.loop rb) ∧ J (wholeL (pre ++ [y])) X2 W5) :=
        ⟨X1, fun k hk => ⟨by have := hb1 k hk; omega, fun _ => hk⟩, hf2.mono fun k _ e => .inl e, hrc, by rw [hfl]; exact hjc⟩
      have e0 : bs ([] : List UInt8) = ({ data := #[] } : ByteArray) := rfl
      rw [e0]
      clear e0 hfl hpx hI hG hxl hF hlV hl2 hX hYl hJ hJx hY hb1 hlt k3b mVb hfw hgw hjb hzs hfb hrb f5 hjc k3c hrc hfc hgc hf2 hz5 b5 hq HCl HRp B4 HE
      gi_wp2_with fail
      refine ⟨(fun _ h => by cases h), ?_⟩
      gi_wp2_with fail
      exact HN.out
    | cons q0 qr =>
      have hemp := str_ne (s := bs (q0 :: qr)) (by simp)
      have hfl : wholeL (pre ++ [y]) = wholeL pre ++ [q0 :: qr] := by unfold wholeL; rw [List.map_append, List.filter_append]; simp [hq]
      have hsp : wholeL pre ++ (q0 :: qr) :: wholeL r = wholeL xs := by
        rw [← hpx]; unfold wholeL; rw [List.map_append, List.filter_append, List.map_cons, List.filter_cons, hq]; simp
      have hyy := hY _ (q0 :: qr) _ X1 W5 hsp hgc hjc hfc
      obtain ⟨fn, tmps, assign, body, hy, hR⟩ := hyy
      dsimp only [encL] at hy
      have HE2 := Lib.hid (And.intro hfl (And.intro hb1 (And.intro hf2 (And.intro hrc (And.intro hxl (And.intro hz5 (And.intro hzs hlV)))))))
      clear hfl hsp hpx hI hG hxl hF hlV hl2 hX hYl hJ hJx hY hb1 hlt k3b mVb hfw hgw hjb hzs hfb hrb f5 hjc k3c hrc hfc hgc hf2 hz5 b5 hq HCl HRp B4 HE
      gi_wp2_with fail
      refine (round_wide (.inr ⟨l2, rfl⟩) hR).mono ?_
      rintro e W6 ⟨X2, g2, f2, (⟨rfl, hJ3⟩ | ⟨rfl, hJx3⟩)⟩
      all_goals
        clear hR hy
        gi_wp2_with fail
        obtain ⟨hfl, hb1, hf2, hrc, hxl, hz5, hzs, hlV⟩ := HE2.out
        refine ⟨X2, fun k hk => ⟨(g2 k hk).1, fun h => (g2 k hk).2 (by omega)⟩, (hf2.mono (Y := fun k => k = l2 ∨ X1 k) fun k _ e => .inl e).trans3 f2 fun k _ e => .inr e, f2.blk hrc hxl, ?_⟩
      · rw [← hfl] at hJ3; exact hJ3
      · rw [← hfl] at hJx3; exact ⟨rfl, hJx3⟩
  case done =>
    rintro D X2 V2 hD hxD hG hF hI hdef
    have hfw : Fr X V V2 := (f0.mono (Y := X) fun _ _ h => h.elim).trans3 hF fun k _ e => e
    have hgw : GrowX X X2 V V2 := fun k hk => ⟨(hG k hk).1, fun h => (hG k hk).2 (by omega)⟩
    have HE := Lib.hid (And.intro hfw (And.intro hgw (And.intro hI (And.intro hdef (And.intro hxD (And.intro hJ hD))))))
    clear hfw hgw hX hYl hJ hJx hY f0 k3 hsq hj0 heg m0 hYf hlen hG hF hI hdef hxD c0 hD bx
    gi_wp2_with fail
    obtain ⟨hfw, hgw, hI, hdef, hxD, hJ, hD⟩ := HE.out
    refine leaves_one D _ hdef fun w' hf => ⟨_, results_none rfl _ _ _, ⟨_, rfl⟩, X2, fun k hk => ⟨Nat.lt_of_lt_of_le (hgw k hk).1 hf.size, (hgw k hk).2⟩, hfw.trans3 hf fun k hk e => by omega, .inl (hJ.fr hI (fun k hk => (hgw k hk).1) hf fun k e h => hxD (e ▸ h))⟩
  case stop =>
    rintro D c pre r X2 V2 hD hpr hxD hG hF ⟨rfl, hI⟩ hdef
    have hfw : Fr X V V2 := (f0.mono (Y := X) fun _ _ h => h.elim).trans3 hF fun k _ e => e
    have hgw : GrowX X X2 V V2 := fun k hk => ⟨(hG k hk).1, fun h => (hG k hk).2 (by omega)⟩
    refine wpIn_ret ?_
    refine leaves_one D _ hdef fun w' hf => ⟨_, results_none rfl _ _ _, ⟨_, rfl⟩, X2, fun k hk => ⟨Nat.lt_of_lt_of_le (hgw k hk).1 hf.size, (hgw k hk).2⟩, hfw.trans3 hf fun k hk e => by omega, .inr ⟨_, wholeL r, by rw [← hpr]; unfold wholeL; rw [List.map_append, List.filter_append], hJx.fr hI (fun k hk => (hgw k hk).1) hf fun k e h => hxD (e ▸ h)⟩⟩
end Go.Proofs.YtkbgpajconhgjaaGreatDoor
end
section
/- Layer 22: a line that Pack makes. -/
namespace Go.Proofs.YtkbgpajconhgjaaGreatDoor
open Go Go.RowKit Go.Lib

theorem two_rows2 (w : World) (last : List UInt8) (v : Value) (N : Nat) (hN : w.heap.size = N) :
    ((w.alloc (.cells #[.string (bs last)] 9)).alloc (.cells #[v, .slice (some ⟨N, 0, none⟩) 1 1] 26)).cell? ⟨N + 1, 0, none⟩ = some v ∧
    ((w.alloc (.cells #[.string (bs last)] 9)).alloc (.cells #[v, .slice (some ⟨N, 0, none⟩) 1 1] 26)).cell? ⟨N + 1, 1, none⟩ = some (.slice (some ⟨N, 0, none⟩) 1 1) ∧
    ((w.alloc (.cells #[.string (bs last)] 9)).alloc (.cells #[v, .slice (some ⟨N, 0, none⟩) 1 1] 26)).cell? ⟨N, 0, none⟩ = some (.string (bs last)) := by
  have h1 := heap_alloc_new (w.alloc (.cells #[.string (bs last)] 9)) (.cells #[v, .slice (some ⟨N, 0, none⟩) 1 1] 26)
  rw [World.size_alloc, hN] at h1
  have h2 := blk_alloc (heap_alloc_new w (.cells #[.string (bs last)] 9)) (.cells #[v, .slice (some ⟨N, 0, none⟩) 1 1] 26)
  rw [hN] at h2
  exact ⟨blk_cell h1 0, blk_cell h1 1, blk_cell h2 0⟩
theorem conc_rows2 (w1 : World) (last : List UInt8) (A : Option Addr) (c : Nat) (ps : List (List UInt8)) (hR : ReadsT w1 A ps) (hl : ps.length ≤ 14) :
    Calls Tryz.prog 29 #[.slice (some ⟨w1.heap.size + 1, 0, none⟩) 2 2] ((w1.alloc (.cells #[.string (bs last)] 9)).alloc (.cells #[.slice A ps.length c, .slice (some ⟨w1.heap.size, 0, none⟩) 1 1] 26)) fun e w' => ∃ A2 c2, e = .returned (.slice A2 (ps ++ [last]).length c2) ∧ ReadsT w' A2 (ps ++ [last]) ∧ Below w1.heap.size w1 w' := by
  obtain ⟨h1, h2, h3⟩ := two_rows2 w1 last (.slice A ps.length c) w1.heap.size rfl
  obtain ⟨W, hW⟩ : ∃ W, ((w1.alloc (.cells #[.string (bs last)] 9)).alloc (.cells #[.slice A ps.length c, .slice (some ⟨w1.heap.size, 0, none⟩) 1 1] 26)) = W := ⟨_, rfl⟩
  have hs : W.heap.size = w1.heap.size + 2 := by rw [← hW]; simp
  have hb : Below w1.heap.size w1 W := by rw [← hW]; exact ((Below.refl _ w1).alloc (Nat.le_refl _) _).alloc (by simp) _
  rw [hW] at h1 h2 h3 ⊢
  have hr1 : ReadsT W (some ⟨w1.heap.size, 0, none⟩) [last] := fun _ => ⟨_, _, rfl, by omega, fun j hj => by
    obtain rfl : j = 0 := by simpa using hj
    exact h3⟩
  refine (concatM (w1.heap.size + 1) 2 A (some ⟨w1.heap.size, 0, none⟩) c 1 ps [last] W h1 h2 (readsT_below hR hb (Nat.le_refl _)) hr1 (by simp only [List.length_cons, List.length_nil]; omega) (by simp; omega) (by omega)).mono ?_
  rintro e w' ⟨v, rfl, ho, hb2⟩
  obtain ⟨A2, c2, rfl⟩ := row_slice ho
  exact ⟨A2, c2, rfl, reads_ownT ho, hb.trans (hb2.mono (by omega))⟩
/-- a world that is as another one but for new blocks -/
theorem PowW.fr {w W : World} (h : PowW w) (hf : Fr (fun _ => False) w W) : PowW W := h.below (hf.below (Nat.le_refl _) fun _ _ h => h.elim)
theorem Mx.fr {w W : World} (h : Mx w) (hf : Fr (fun _ => False) w W) : Mx W := mx_same h (hf.block _ (mx_lt h) fun e => e)
theorem readsT_fr0 {w W : World} {A : Option Addr} {xs : List (List UInt8)} (h : ReadsT w A xs) (hf : Fr (fun _ => False) w W) : ReadsT W A xs := readsT_below h (hf.below (Nat.le_refl _) fun _ _ h => h.elim) (Nat.le_refl _)
set_option maxRecDepth 100000 in
set_option maxHeartbeats 8000000 in
theorem line_m (server whom last : List UInt8) (n : Nat) (A : Option Addr) (c : Nat) (ps : List (List UInt8)) (w : World) (B1 B2 B3 B4 : Nat)
    (k1 : w.heap[B1]? = some (.cells #[.string (bs server)] 9 (0, 0))) (k2 : w.heap[B2]? = some (.cells #[.int .i64 n] 3 (0, 0))) (k3 : w.heap[B3]? = some (.cells #[.string (bs whom)] 9 (0, 0))) (k4 : w.heap[B4]? = some (.cells #[.slice A ps.length c] 26 (0, 0)))
    (hR : ReadsT w A ps) (hm : Mx w) (hp : PowW w) (h0 : 1 ≤ n) (h1 : n ≤ 999) (h2 : ps.length ≤ 13) (hsv : server.length ≤ 1000000) (hwh : whom.length ≤ 90000) (h5 : ∀ p ∈ ps, p.length ≤ 90000) (h6 : last.length ≤ 90000) :
    Calls Tryz.prog 32 #[.string (bs last), .pointer (some ⟨B1, 0, none⟩), .pointer (some ⟨B2, 0, none⟩), .pointer (some ⟨B3, 0, none⟩), .pointer (some ⟨B4, 0, none⟩)] w fun e w' => e = .returned (.string (bs (numL server whom n (ps ++ [last])))) ∧ Below w.heap.size w w' := by
  have HBX : Hid (∀ W, Fr (fun _ => False) w W → W.cell? ⟨B1, 0, none⟩ = some (.string (bs server)) ∧ W.cell? ⟨B2, 0, none⟩ = some (.int .i64 n) ∧ W.cell? ⟨B3, 0, none⟩ = some (.string (bs whom)) ∧ W.cell? ⟨B4, 0, none⟩ = some (.slice A ps.length c)) :=
    Lib.hid fun W hf => ⟨blk_cell (hf.blk k1 fun e => e) 0, blk_cell (hf.blk k2 fun e => e) 0, blk_cell (hf.blk k3 fun e => e) 0, blk_cell (hf.blk k4 fun e => e) 0⟩
  have F1 : Hid (Fr (fun _ => False) w (w.drew.alloc (.cells #[.string (bs last)] 9))) := Lib.hid (((Fr.refl _ w).drew).alloc _)
  have F2 : Hid (Fr (fun _ => False) w ((w.drew.alloc (.cells #[.string (bs last)] 9)).alloc (.cells #[.slice A ps.length c, .slice (some ⟨w.heap.size, 0, none⟩) 1 1] 26))) := Lib.hid ((((Fr.refl _ w).drew).alloc _).alloc _)
  have HCN := Lib.hid (conc_rows2 w.drew last A c ps (readsT_fr0 hR ((Fr.refl _ w).drew)) (by omega))
  have HMX : Hid (∀ V, Fr (fun _ => False) w V → Mx V) := Lib.hid fun V hf => hm.fr hf
  have HPW : Hid (∀ V, Fr (fun _ => False) w V → PowW V) := Lib.hid fun V hf => hp.fr hf
  have hps2 : (ps ++ [last]).length ≤ 14 := by rw [List.length_append]; simp; omega
  have hall : ∀ p ∈ ps ++ [last], p.length ≤ 90000 := fun p hp => by
    rcases List.mem_append.1 hp with h | h
    · exact h5 p h
    · rw [List.mem_singleton.1 h]; exact h6
  obtain ⟨qs, hqs⟩ : ∃ q, ps ++ [last] = q := ⟨_, rfl⟩
  rw [hqs] at HCN hps2 hall ⊢
  clear hR hm hp k1 k2 k3 k4 hqs
  go_enter Tryz.func32, Tryz.ntmps32
  go_wp2_with fail
  refine wp_region_held_drew (S := fun W => Fr (fun _ => False) w W) (by kernel_rfl) (by exact (Fr.refl _ w).drew) (fun hHeld => ?_)
  refine wpAnyH_read (i := 4) (oi := { dst := some 11, op := Go.Op.move (Go.Operand.tmp 0), type := 9, pos := "reply.go:106", after := #[], guard := none }) ?_ rfl (by kernel_rfl) (by kernel_rfl) (by kernel_rfl) (fun _ _ _ h => h) (by rfl) (by assumption) ?_ ?_
  rotate_left
  · (intro w0 hS0; go_simp <;> (try with_reducible rfl))
  try simp only [Act.put, List.setIfInBounds_toArray, List.set_cons_zero, List.set_cons_succ]
  refine wpAnyH_read (i := 0) (oi := { dst := some 7, op := Go.Op.load 9 (Go.Operand.tmp 1), type := 9, pos := "reply.go:106", after := #[], guard := none }) ?_ rfl (by kernel_rfl) (by kernel_rfl) (by kernel_rfl) (fun _ _ _ h => h) (by rfl) (by assumption) ?_ ?_
  rotate_left
  · (intro w0 hS0; obtain ⟨s1, s2, s3, s4⟩ := HBX.out w0 hS0; go_simp <;> (try with_reducible rfl))
  try simp only [Act.put, List.setIfInBounds_toArray, List.set_cons_zero, List.set_cons_succ]
  refine wpAnyH_read (i := 1) (oi := { dst := some 8, op := Go.Op.load 3 (Go.Operand.tmp 2), type := 3, pos := "reply.go:106", after := #[], guard := none }) ?_ rfl (by kernel_rfl) (by kernel_rfl) (by kernel_rfl) (fun _ _ _ h => h) (by rfl) (by assumption) ?_ ?_
  rotate_left
  · (intro w0 hS0; obtain ⟨s1, s2, s3, s4⟩ := HBX.out w0 hS0; go_simp <;> (try with_reducible rfl))
  try simp only [Act.put, List.setIfInBounds_toArray, List.set_cons_zero, List.set_cons_succ]
  refine wpAnyH_read (i := 2) (oi := { dst := some 9, op := Go.Op.load 9 (Go.Operand.tmp 3), type := 9, pos := "reply.go:106", after := #[], guard := none }) ?_ rfl (by kernel_rfl) (by kernel_rfl) (by kernel_rfl) (fun _ _ _ h => h) (by rfl) (by assumption) ?_ ?_
  rotate_left
  · (intro w0 hS0; obtain ⟨s1, s2, s3, s4⟩ := HBX.out w0 hS0; go_simp <;> (try with_reducible rfl))
  try simp only [Act.put, List.setIfInBounds_toArray, List.set_cons_zero, List.set_cons_succ]
  refine wpAnyH_read (i := 3) (oi := { dst := some 10, op := Go.Op.load 26 (Go.Operand.tmp 4), type := 26, pos := "reply.go:106", after := #[], guard := none }) ?_ rfl (by kernel_rfl) (by kernel_rfl) (by kernel_rfl) (fun _ _ _ h => h) (by rfl) (by assumption) ?_ ?_
  rotate_left
  · (intro w0 hS0; obtain ⟨s1, s2, s3, s4⟩ := HBX.out w0 hS0; go_simp <;> (try with_reducible rfl))
  try simp only [Act.put, List.setIfInBounds_toArray, List.set_cons_zero, List.set_cons_succ]
  refine wpAnyH_one (i := 5) (o := { dst := some 12, op := Go.Op.buildSlice 26 1 #[(0, Go.Operand.tmp 11)], type := 26, pos := "reply.go:106", after := #[{ on := 4, ground := Go.Ground.data }], guard := none }) (by kernel_rfl) rfl (by rfl) (fun K hK => ?_)
  go_simp
  refine hK.out _ _ ?_ (fun hHeld => ?_)
  · exact F1.out
  clear hK K
  try simp only [Act.put, List.setIfInBounds_toArray, List.set_cons_zero, List.set_cons_succ]
  refine wpAnyH_one (i := 6) (o := { dst := some 13, op := Go.Op.buildSlice 62 2 #[(0, Go.Operand.tmp 10), (1, Go.Operand.tmp 12)], type := 62, pos := "reply.go:106", after := #[{ on := 3, ground := Go.Ground.data }, { on := 5, ground := Go.Ground.data }], guard := none }) (by kernel_rfl) rfl (by rfl) (fun K hK => ?_)
  go_simp
  refine hK.out _ _ ?_ (fun hHeld => ?_)
  · exact F2.out
  clear hK K
  try simp only [Act.put, List.setIfInBounds_toArray, List.set_cons_zero, List.set_cons_succ]
  refine wpAnyH_one (i := 7) (o := { dst := some 14, op := Go.Op.call { callee := Go.Callee.value (Go.Operand.func 29), args := #[Go.Operand.tmp 13], argTypes := #[62] }, type := 26, pos := "reply.go:106", after := #[{ on := 6, ground := Go.Ground.data }], guard := none }) (by kernel_rfl) rfl (by rfl) (fun K hK => ?_)
  go_simp
  refine (HCN.out).mono ?_
  rintro e9 V3 ⟨A2, c2, rfl, hr3, hb3⟩
  have F3 : Hid (Fr (fun _ => False) w V3) := Lib.hid (((Fr.refl _ w).drew).trans (Fr.of_below hb3))
  have HNu := Lib.hid (numericM server whom n A2 c2 qs V3 hr3 (HMX.out V3 F3.out) (HPW.out V3 F3.out) h0 h1 hps2 hsv hwh hall)
  clear hr3 hb3
  refine hK.out _ _ ?_ (fun hHeld => ?_)
  · exact F3.out
  clear hK K
  try simp only [Act.put, List.setIfInBounds_toArray, List.set_cons_zero, List.set_cons_succ]
  refine wpAnyH_one (i := 8) (o := { dst := some 15, op := Go.Op.call { callee := Go.Callee.value (Go.Operand.func 16), args := #[Go.Operand.tmp 7, Go.Operand.tmp 8, Go.Operand.tmp 9, Go.Operand.tmp 14], argTypes := #[9, 3, 9, 26] }, type := 9, pos := "reply.go:106", after := #[{ on := 0, ground := Go.Ground.data }, { on := 1, ground := Go.Ground.data }, { on := 2, ground := Go.Ground.data }, { on := 7, ground := Go.Ground.data }, { on := 7, ground := Go.Ground.chain }], guard := none }) (by kernel_rfl) rfl (by rfl) (fun K hK => ?_)
  go_simp
  refine (HNu.out).mono ?_
  rintro e9 V4 ⟨rfl, hb4⟩
  have F4 : Hid (Fr (fun _ => False) w V4) := Lib.hid (F3.out.trans (Fr.of_below hb4))
  clear hb4
  refine hK.out _ _ ?_ (fun hHeld => ?_)
  · exact F4.out
  clear hK K
  try simp only [Act.put, List.setIfInBounds_toArray, List.set_cons_zero, List.set_cons_succ]
  refine wpAnyH_read (i := 9) (oi := { dst := some 6, op := Go.Op.assign (Go.Operand.tmp 15), type := 9, pos := "reply.go:106", after := #[{ on := 8, ground := Go.Ground.data }, { on := 8, ground := Go.Ground.chain }, { on := 0, ground := Go.Ground.phase }, { on := 1, ground := Go.Ground.phase }, { on := 2, ground := Go.Ground.phase }, { on := 3, ground := Go.Ground.phase }, { on := 4, ground := Go.Ground.phase }, { on := 5, ground := Go.Ground.phase }, { on := 6, ground := Go.Ground.phase }, { on := 7, ground := Go.Ground.phase }, { on := 8, ground := Go.Ground.phase }], guard := none }) ?_ rfl (by kernel_rfl) (by kernel_rfl) (by kernel_rfl) (fun _ _ _ h => h) (by rfl) (by assumption) ?_ ?_
  rotate_left
  · (intro w0 hS0; go_simp <;> (try with_reducible rfl))
  try simp only [Act.put, List.setIfInBounds_toArray, List.set_cons_zero, List.set_cons_succ]
  refine wpAnyH_done (by kernel_rfl) ?_ _
  go_wp2_with fail
  go_ret
  exact ⟨rfl, F4.out.below (Nat.le_refl _) fun _ _ e => e.elim⟩
end Go.Proofs.YtkbgpajconhgjaaGreatDoor
end
section
/- Layer 22: mathematics: how words go to lines; reply.whole. -/
namespace Go.Proofs.YtkbgpajconhgjaaGreatDoor
open Go Go.RowKit Go.Lib

/-- a word goes to the line ahead, if that still has room with it -/
def packS (ah : Nat) (s : List (List UInt8) × List UInt8) (w : List UInt8) : List (List UInt8) × List UInt8 :=
  if s.2 = [] then (s.1, w) else if ah + s.2.length + 1 + w.length ≤ 510 then (s.1, s.2 ++ 32 :: w) else (s.1 ++ [s.2], w)
def packF (ah : Nat) (ws : List (List UInt8)) : List (List UInt8) × List UInt8 := ws.foldl (packS ah) ([], [])
theorem packF_snoc (ah : Nat) (ws : List (List UInt8)) (w : List UInt8) : packF ah (ws ++ [w]) = packS ah (packF ah ws) w := by
  unfold packF; rw [List.foldl_append]; rfl
def PkOk (s : List (List UInt8) × List UInt8) : Prop := s.2.length ≤ 510 ∧ (∀ r ∈ s.1, r.length ≤ 510) ∧ (s.2 = [] → s.1 = [])
theorem pkOk_step {ah : Nat} {s : List (List UInt8) × List UInt8} {w : List UInt8} (h : PkOk s) (hw : w.length ≤ 500) (h0 : w ≠ []) : PkOk (packS ah s w) ∧ (packS ah s w).1.length ≤ s.1.length + 1 := by
  obtain ⟨h1, h2, h3⟩ := h
  unfold packS
  by_cases e : s.2 = []
  · rw [if_pos e]
    refine ⟨⟨by show w.length ≤ 510; omega, h2, fun e2 => absurd e2 h0⟩, Nat.le_succ _⟩
  · rw [if_neg e]
    by_cases hl : ah + s.2.length + 1 + w.length ≤ 510
    · rw [if_pos hl]
      refine ⟨⟨by show (s.2 ++ 32 :: w).length ≤ 510; rw [List.length_append, List.length_cons]; omega, h2, fun e2 => ?_⟩, Nat.le_succ _⟩
      have e3 : s.2 ++ 32 :: w = [] := e2
      simp at e3
    · rw [if_neg hl]
      refine ⟨⟨by show w.length ≤ 510; omega, fun r hr => ?_, fun e2 => absurd e2 h0⟩, by show (s.1 ++ [s.2]).length ≤ _; simp⟩
      rcases List.mem_append.1 hr with hr | hr
      · exact h2 r hr
      · rw [List.mem_singleton.1 hr]; exact h1
theorem pkOk_fold {ah : Nat} : ∀ (ws : List (List UInt8)) (s : List (List UInt8) × List UInt8), PkOk s → (∀ w ∈ ws, w.length ≤ 500 ∧ w ≠ []) → PkOk (ws.foldl (packS ah) s) ∧ (ws.foldl (packS ah) s).1.length ≤ s.1.length + ws.length
  | [], s, h, _ => ⟨h, Nat.le_refl _⟩
  | w :: ws, s, h, hw => by
    have h1 := pkOk_step (ah := ah) h (hw w (List.mem_cons_self ..)).1 (hw w (List.mem_cons_self ..)).2
    have h2 := pkOk_fold (ah := ah) ws _ h1.1 fun x hx => hw x (List.mem_cons_of_mem _ hx)
    refine ⟨h2.1, ?_⟩
    have := h2.2
    have := h1.2
    rw [List.length_cons]
    show (ws.foldl (packS ah) (packS ah s w)).1.length ≤ _
    omega
theorem pkOk_all {ah : Nat} {ws : List (List UInt8)} (hw : ∀ w ∈ ws, w.length ≤ 500 ∧ w ≠ []) : PkOk (packF ah ws) ∧ (packF ah ws).1.length ≤ ws.length := by
  have h := pkOk_fold (ah := ah) ws ([], []) ⟨by simp, ⟨fun r hr => (by cases hr), fun _ => rfl⟩⟩ hw
  refine ⟨h.1, ?_⟩
  have := h.2
  simpa [packF] using this
/-- the lines with some words -/
def rowsP (ah : Nat) (ws : List (List UInt8)) : List (List UInt8) := (packF ah ws).1 ++ [(packF ah ws).2]
/-- the lines so far, as the document has them -/
def rowsD (s : List (List UInt8) × List UInt8) : List (List UInt8) := if s.2 = [] then [] else s.1 ++ [s.2]
def aheadL (server whom : List UInt8) (n : Nat) (ps : List (List UInt8)) : Nat := (numL server whom n (ps ++ [[]])).length
def packL (server whom : List UInt8) (n : Nat) (ps ws : List (List UInt8)) : List (List UInt8) := (rowsP (aheadL server whom n ps) (wholeL ws)).map fun x => numL server whom n (ps ++ [x])
theorem whole_ok {xs : List (List UInt8)} (h : ∀ x ∈ xs, x.length ≤ 500) : ∀ w ∈ wholeL xs, w.length ≤ 500 ∧ w ≠ [] := fun w hw => by
  unfold wholeL at hw
  obtain ⟨h1, h2⟩ := List.mem_filter.1 hw
  obtain ⟨x, hx, rfl⟩ := List.mem_map.1 h1
  exact ⟨Nat.le_trans (bareL_len x) (h x hx), of_decide_eq_true h2⟩
theorem whole_len (xs : List (List UInt8)) : (wholeL xs).length ≤ xs.length := by
  unfold wholeL
  refine Nat.le_trans (List.length_filter_le _ _) ?_
  rw [List.length_map]; exact Nat.le_refl _
set_option maxHeartbeats 2000000 in
theorem whole_m (gf : Nat) (lb : Array Value) (w : World) :
    Calls Tryz.prog 33 #[.func (.func gf) #[] lb] w fun e w' => e = .returned (.func (.func 51) #[] #[.pointer (some ⟨w.heap.size, 0, none⟩)]) ∧ w'.heap[w.heap.size]? = some (.cells #[.func (.func gf) #[] lb] 41 (0, 0)) ∧ w'.heap.size = w.heap.size + 1 ∧ Below w.heap.size w w' := by
  go_enter Tryz.func33, Tryz.ntmps33
  go_wp2_with fail
  go_ret
  exact ⟨rfl, heap_alloc_new _ _, by simp, (Below.refl _ _).alloc (Nat.le_refl _) _⟩
end Go.Proofs.YtkbgpajconhgjaaGreatDoor
end
section
/- A region that draws its order, anywhere, a loop's round over a function too: what only reads, in whatever order; then what must come last, in its order. -/
namespace Go.Proofs.YtkbgpajconhgjaaGreatDoor
open Go

section
variable {F : Fence} {n : Nat} {P : Program} {ops : Array Oper} {md : Region.Mode} {C : World → Prop}

/-- no operation puts a call off -/
def noDefer (ops : Array Oper) : Bool := ops.all fun o => match o.op with | .defer _ => false | _ => true
theorem noDefer_spec (h : noDefer ops = true) {i : Nat} {o : Oper} (ho : ops[i]? = some o) : ∀ c, o.op ≠ .defer c := by
  intro c hc
  have := Array.all_eq_true.1 h i (Array.getElem?_eq_some_iff.1 ho).1
  rw [(Array.getElem?_eq_some_iff.1 ho).2, hc] at this
  cases this

theorem quiet_wpIn {o : Oper} {a : Act} {K : Act → Prop} {K' : Act → World → Prop} {Q' : Exit → Act → World → Prop} {w : World} (hd : ∀ c, o.op ≠ .defer c) (hw : C w) (h : ∀ a w', C w' → K a → K' a w')
    (ha : o.askedIn F P a C) (hh : o.quietIn F n P a C K) : o.wpIn F n P a w K' Q' := by
  obtain ⟨v, h1, h2⟩ := hh
  have h3 := h1 w hw
  unfold Oper.quietAtIn at h3
  refine ⟨ha w hw, ?_⟩
  rw [Oper.semAt_eq _ _ _ hd]
  generalize (execOp a.eval o).run P w = r at h3 ⊢
  match r, h3 with
  | .ok (.value u) w', h3 =>
    obtain ⟨rfl, rfl⟩ := h3
    exact h _ _ hw h2
  | .ok .skip w', h3 =>
    obtain ⟨rfl, rfl⟩ := h3
    exact h _ _ hw h2
  | .ok (.enter f args) w', h3 =>
    obtain ⟨rfl, hdep, hc⟩ := h3
    exact ⟨hdep, hc.mono fun e w'' hx => by obtain ⟨rfl, hw''⟩ := hx; exact h _ _ hw'' h2⟩

theorem quiet_wpOpIn {i : Nat} {a : Act} {K : Act → Prop} {K' : Act → World → Prop} {Q' : Exit → Act → World → Prop} {w : World} (hnd : noDefer ops = true) (hC : C w) (h : ∀ a w', C w' → K a → K' a w')
    (hh : qOpIn F n P ops C i K a) : wpOpIn F n P ops Q' i K' a w := by
  unfold qOpIn at hh
  unfold wpOpIn
  cases ho : ops[i]? with
  | none => simp only [ho] at hh ⊢; exact h _ _ hC hh
  | some o =>
    simp only [ho] at hh ⊢
    obtain ⟨ha, hh⟩ := hh
    by_cases hw : Region.wanted o (yielded ops a.tmps) = true
    · simp only [hw, if_true] at hh ⊢
      exact quiet_wpIn (noDefer_spec hnd ho) hC h ha hh
    · simp only [hw] at hh ⊢
      exact ⟨ha w hC, h _ _ hC hh⟩

/-- the head of a region: so many operations, whatever comes up, each below m -/
def headQ (F : Fence) (n : Nat) (P : Program) (md : Region.Mode) (ops : Array Oper) (C : World → Prop) (m : Nat) (L : Array Bool → Act → Prop) : Nat → Array Bool → Act → Prop
  | 0, listed, a => L listed a
  | f + 1, listed, a =>
    Region.ready md ops listed ≠ [] ∧ ∀ i ∈ Region.ready md ops listed, i < m ∧ qOpIn F n P ops C i (headQ F n P md ops C m L f (listed.setIfInBounds i true)) a

theorem wpAnyIn_of_headQ {m g : Nat} {L : Array Bool → Act → Prop} {Q' : Exit → Act → World → Prop} (hnd : noDefer ops = true) (hL : ∀ listed a w, C w → L listed a → wpAnyIn F n P md ops Q' g listed a w) :
    ∀ (f : Nat) (listed : Array Bool) (a : Act) (w : World), C w → headQ F n P md ops C m L f listed a → wpAnyIn F n P md ops Q' (f + g) listed a w
  | 0, listed, a, w, hw, h => by rw [Nat.zero_add]; exact hL _ _ _ hw h
  | f + 1, listed, a, w, hw, h => by
    rw [show f + 1 + g = (f + g) + 1 by omega]
    exact ⟨fun h0 => absurd h0 h.1, fun i hi => quiet_wpOpIn hnd hw (fun a' w' hw' h' => wpAnyIn_of_headQ hnd hL f _ a' w' hw' h') (h.2 i hi).2⟩

theorem headQ_first {m i : Nat} {oi : Oper} {v : Value} {L : Array Bool → Act → Prop} (hi : ops[i]? = some oi) (hsel : ∀ (j : Nat) (o : Oper) cs b, ops[j]? = some o → o.op ≠ .select cs b)
    (hs : Region.sinkB md ops m = true) (hc : Region.chainB md ops m = true) (hn : m < ops.size) (hin : i < m)
    (hdone : ∀ listed a, L listed a → ∀ j ∈ Region.ready md ops listed, m ≤ j) :
    ∀ (f : Nat) (listed : Array Bool) (a : Act), HeadInv md ops m listed →
      (∀ j oj, ops[j]? = some oj → j ≠ i → listed.getD j true = false → (∀ e ∈ oj.after, Region.binds md e = true → e.on ≠ i) → oi.apart ops oj = true) →
      i ∈ Region.ready md ops listed → YieldsQuiet F n P ops C oi v a →
      headQ F n P md ops C m L f (listed.setIfInBounds i true) (a.put oi.dst v) → headQ F n P md ops C m L (f + 1) listed a := by
  intro f
  induction f with
  | zero =>
    intro listed a inv _ hr hy H
    have hun := (mem_ready.1 hr).1
    refine ⟨fun h => (by rw [h] at hr; cases hr), fun j hj => ?_⟩
    have hjn : j < m := Nat.lt_of_not_le fun h => tail_waits hs hc hn inv _ i rfl hin hun j h hj
    refine ⟨hjn, ?_⟩
    by_cases hji : j = i
    · subst hji; exact hy.qOpIn hi H
    · exact absurd (hdone _ _ H j (ready_mono hj hji)) (by omega)
  | succ f ih =>
    intro listed a inv hfree hr hy H
    have hun := (mem_ready.1 hr).1
    refine ⟨fun h => (by rw [h] at hr; cases hr), fun j hj => ?_⟩
    have hjn : j < m := Nat.lt_of_not_le fun h => tail_waits hs hc hn inv _ i rfl hin hun j h hj
    refine ⟨hjn, ?_⟩
    by_cases hji : j = i
    · subst hji; exact hy.qOpIn hi H
    · have h1 := (H.2 j (ready_mono hj hji)).2
      obtain ⟨hjun, oj, hoj, hall⟩ := mem_ready.1 hj
      have hnot : ∀ e ∈ oj.after, Region.binds md e = true → e.on ≠ i := fun e he hb heq => by
        have h1 := hall e he hb
        rw [heq, getD_both hun] at h1
        cases h1
      have h2 := qOpIn_put hoj (hfree j oj hoj hji hjun hnot) (fun cs b => hsel i oi cs b hi) (fun cs b => hsel j oj cs b hoj) hy h1
      have hfree' : ∀ k ok, ops[k]? = some ok → k ≠ i → (listed.setIfInBounds j true).getD k true = false →
          (∀ e ∈ ok.after, Region.binds md e = true → e.on ≠ i) → oi.apart ops ok = true := fun k ok hk hki hun hno => by
        refine hfree k ok hk hki ?_ hno
        by_cases hjk : j = k
        · subst hjk; exact hjun
        · rw [getD_set_ne true hjk] at hun; exact hun
      refine qOpIn_mono (fun a' h3 => ih (listed.setIfInBounds j true) a' (inv.set hj hjn) hfree' (ready_mono hr (Ne.symm hji)) h3.1 ?_) h2
      rw [Array.setIfInBounds_comm _ _ hji]
      exact h3.2

theorem wpAnyIn_of_seq {Q' : Exit → Act → World → Prop} : ∀ (l : List Oper) (k : Nat) (listed : Array Bool) (a : Act) (w : World), (∀ j, l[j]? = ops[k + j]?) →
    Region.seqB md ops l.length k listed = true → wpListIn F n P ops Q' l a w → wpAnyIn F n P md ops Q' l.length listed a w
  | [], _, _, _, _, _, hB, h => ⟨by simpa [Region.seqB] using hB, h⟩
  | o :: l, k, listed, a, w, hl, hB, h => by
    have h0 : ops[k]? = some o := by simpa using (hl 0).symm
    simp only [List.length_cons, Region.seqB, Bool.and_eq_true, decide_eq_true_eq] at hB
    refine ⟨fun h1 => (by rw [hB.1] at h1; cases h1), fun i hi => ?_⟩
    rw [hB.1] at hi
    have hik : i = k := by simpa using hi
    subst hik
    have hw : wpOpIn F n P ops Q' i (wpListIn F n P ops Q' l) a w := by unfold wpOpIn; simp only [h0]; exact h
    exact wpOpIn_mono (fun a' w' h' => wpAnyIn_of_seq l (i + 1) _ a' w' (fun j => by have := hl (j + 1); simpa [Nat.add_assoc, Nat.add_comm 1 j] using this) hB.2 h') hw

theorem headQ_lex {m g : Nat} {Lq : Act → Prop} (hsel : Region.noSelect ops = true) (hs : Region.sinkB md ops m = true) (hc : Region.chainB md ops m = true) (hn : m < ops.size) :
    ∀ (l : List Oper) (k : Nat) (listed : Array Bool) (a : Act), (∀ j, j < l.length → l[j]? = ops[k + j]?) → k + l.length = m → HeadInv md ops m listed →
    Region.lexHead md ops g l.length k listed = true → wpQuietIn F n P ops C Lq l a →
    headQ F n P md ops C m (fun listed' a' => Region.seqB md ops g m listed' = true ∧ Lq a') l.length listed a
  | [], k, listed, a, _, hk, _, hB, h => by
    have : k = m := by simpa using hk
    subst this
    exact ⟨by simpa [Region.lexHead] using hB, h⟩
  | o :: l, k, listed, a, hl, hk, inv, hB, h => by
    have h0 : ops[k]? = some o := by simpa using (hl 0 (by simp)).symm
    simp only [List.length_cons, Region.lexHead, Bool.and_eq_true] at hB
    obtain ⟨⟨hr, hf⟩, hB'⟩ := hB
    have hkn : k < m := by simp only [List.length_cons] at hk; omega
    have hr' : k ∈ Region.ready md ops listed := by simpa using hr
    have hst : qOpIn F n P ops C k (wpQuietIn F n P ops C Lq l) a := by unfold qOpIn; simp only [h0]; exact h
    obtain ⟨v, hy, hK⟩ := yieldsQuiet_of_qOpIn h0 hst
    exact headQ_first h0 (Region.noSelect_spec hsel) hs hc hn hkn (fun listed' a' hL => seqB_ready hL.1) l.length listed a inv (Region.free_spec h0 hf) hr' hy
      (headQ_lex hsel hs hc hn l (k + 1) _ _ (fun j hj => by have := hl (j + 1) (by simp; omega); simpa [Nat.add_assoc, Nat.add_comm 1 j] using this) (by simp only [List.length_cons] at hk; omega) (inv.set hr' hkn) hB' hK)

/-- what only reads ahead, in whatever order; what must come last behind it, in its order -/
theorem wpIn_quiet_tail {id : Nat} {Q : Exit → Act → World → Prop} {a : Act} {w : World} {l : List Oper} (m : Nat) (hm : P.follows .mixedOrders = true) (hnd : noDefer l.toArray = true) (hB : Region.lexTailB .any l.toArray m = true)
    (h : wpQuietIn F n P l.toArray (fun w' => ∃ k, w' = w.drewN k) (fun a' => ∀ w', (∃ k, w' = w.drewN k) → wpListIn F n P l.toArray Q (l.drop m) a' w') (l.take m) a) : (Code.region id l.toArray true).wpIn F n P Q a w := by
  simp only [Region.lexTailB, Bool.and_eq_true, decide_eq_true_eq] at hB
  obtain ⟨⟨⟨⟨hsel, hn⟩, hs⟩, hc⟩, hlex⟩ := hB
  have hn' : m < l.length := by simpa using hn
  have htl : (l.take m).length = m := by simp; omega
  have hdl : (l.drop m).length = l.toArray.size - m := by simp
  have inv0 : HeadInv .any l.toArray m (Array.replicate l.toArray.size false) :=
    ⟨by simp, fun j oj _ hl => (by rw [getD_replicate_false] at hl; cases hl), fun t _ ht => getD_in (by simpa using ht) (getD_replicate_false _ _)⟩
  have H := headQ_lex (F := F) (n := n) (P := P) (md := .any) (g := l.toArray.size - m) hsel hs hc hn (l.take m) 0 _ a (fun j hj => by
    have hj' : j < m := by rw [htl] at hj; exact hj
    simp [hj']) (by simpa using htl) inv0 (by rw [htl]; exact hlex) h
  refine wpIn_region_any hm ?_
  have := wpAnyIn_of_headQ (Q' := Q) (g := l.toArray.size - m) hnd (fun listed a' w' hw' hL => by
    have := wpAnyIn_of_seq (F := F) (n := n) (P := P) (md := .any) (Q' := Q) (l.drop m) m listed a' w' (fun j => by simp [List.getElem?_drop]) (by rw [hdl]; exact hL.1) (hL.2 w' hw')
    rwa [hdl] at this) _ _ _ _ ⟨1, rfl⟩ H
  rw [htl, show m + (l.toArray.size - m) = l.toArray.size by omega] at this
  exact this

theorem wpAnyIn_of_allQ {Q : Act → Prop} {Q' : Exit → Act → World → Prop} (hnd : noDefer ops = true) (hQ : ∀ a w, C w → Q a → Q' .normal a w) : ∀ (fuel : Nat) (listed : Array Bool) (a : Act) (w : World), C w →
    wpAnyQIn F n P md ops C Q fuel listed a → wpAnyIn F n P md ops Q' fuel listed a w
  | 0, _, _, _, hw, h => ⟨h.1, hQ _ _ hw h.2⟩
  | fuel + 1, _, _, _, hw, h => ⟨fun h0 => hQ _ _ hw (h.1 h0), fun i hi => quiet_wpOpIn hnd hw (fun a' w' hw' => wpAnyIn_of_allQ hnd hQ fuel _ a' w' hw') (h.2 i hi)⟩

/-- all of it only reads -/
theorem wpIn_quiet_all {id : Nat} {Q : Exit → Act → World → Prop} {a : Act} {w : World} {l : List Oper} (hm : P.follows .mixedOrders = true) (hnd : noDefer l.toArray = true) (hB : Region.lexB .any l.toArray = true)
    (h : wpQuietIn F n P l.toArray (fun w' => ∃ k, w' = w.drewN k) (fun a' => ∀ w', (∃ k, w' = w.drewN k) → Q .normal a' w') l a) : (Code.region id l.toArray true).wpIn F n P Q a w := by
  simp only [Region.lexB, Bool.and_eq_true] at hB
  refine wpIn_region_any hm (wpAnyIn_of_allQ (Q := fun a' => ∀ w', (∃ k, w' = w.drewN k) → Q .normal a' w') hnd (fun _ w' hw' h => h w' hw') _ _ _ _ ⟨1, rfl⟩ ?_)
  have := wpAnyQIn_lex (F := F) (n := n) (P := P) (C := fun w' => ∃ k, w' = w.drewN k) (md := .any) hB.1 l.toArray.toList 0 (Array.replicate l.toArray.size false) a (by simp) (by simpa using hB.2) (by simpa using h)
  simpa using this

/-- one operation of the walk, where the fence lets every function by -/
theorem quiet_step_w (hF : ∀ f, F.fn f) {Q : Act → Prop} {a : Act} {o : Oper} {rest : List Oper}
    (h : ∀ K : Act → Prop, (∀ a, wpQuietIn F n P ops C Q rest a → K a) → if Region.wanted o (yielded ops a.tmps) then o.quietIn F n P a C K else K (a.put o.dst undef)) : wpQuietIn F n P ops C Q (o :: rest) a :=
  wpQuietIn_step (fun _ _ f _ => hF f) h
end
end Go.Proofs.YtkbgpajconhgjaaGreatDoor
end
