/- Layer 14: digits, slices.Concat of two rows of texts, Numeric. -/
import Derived.Test.YtmoioihclnpcbaaDoorRepD
import Derived.Test.YtmoioihclnpcbaaDoorAppU
import Derived.Test.YtmoioihclnpcbaaDoorShelf
import Derived.Shelf.Spec.SlicesGrow
namespace Go.Proofs.YtmoioihclnpcbaaDoor
set_option linter.unusedVariables false
set_option linter.unusedSimpArgs false
open Go Go.RowKit

/-- a row of texts as what is appended -/
theorem srcT {w : World} {A : Option Addr} {c : Nat} {xs : List (List UInt8)} (h : ReadsT w A xs) : Src Tryd.prog 1 25 (.slice A xs.length c) xs.length (xs.map encT) w := by
  cases A with
  | none =>
    have h0 : xs = [] := by
      rcases Nat.eq_zero_or_pos xs.length with h0 | h0
      · exact List.length_eq_zero_iff.1 h0
      · obtain ⟨_, _, e, _⟩ := h h0; cases e
    subst h0
    exact Src.ofNil w Tryd.underlying25 c
  | some a =>
    refine Src.ofSlice w Tryd.underlying25 a _ c _ (by simp) (fun j u hu => ?_) (fun u hu => ?_)
    · have hj : j < xs.length := by have := (List.getElem?_eq_some_iff.1 hu).1; simpa using this
      obtain ⟨g, o, e, hg, hc⟩ := h (by omega)
      cases e
      have hadd : (⟨g, o, none⟩ : Addr).add j = ⟨g, o + j, none⟩ := by unfold Addr.add; split <;> simp_all
      rw [hadd, hc j hj, ← hu]
      simp [hj, encT]
    · obtain ⟨b, _, rfl⟩ := List.mem_map.1 hu; rfl
theorem readsT_below {w W : World} {A : Option Addr} {xs : List (List UInt8)} (h : ReadsT w A xs) {B : Nat} (hb : Below B w W) (hB : w.heap.size ≤ B) : ReadsT W A xs := fun h0 => by
  obtain ⟨g, o, e, hg, hc⟩ := h h0
  exact ⟨g, o, e, Nat.lt_of_lt_of_le hg hb.size, fun j hj => (hb.cell (p := ⟨g, o + j, none⟩) (Nat.lt_of_lt_of_le hg hB)).trans (hc j hj)⟩
/-- room for rows -/
theorem growM (n : Nat) (w : World) (h0 : 0 < n) (hn : n ≤ 1000000) :
    Calls Tryd.prog 19 #[.slice none 0 0, .int .i64 n] w fun e w' => ∃ v, e = .returned v ∧ OwnT w.heap.size w' v [] ∧ Below w.heap.size w w' := by
  obtain ⟨i0, hi0, hz0, hz1, hz2⟩ := info_parts Tryd.infoT
  refine (Any8.slices_Grow_grow { Tryd.growS with } i0 _ hi0 hz0 (by omega) none 0 0 n [] w (Nat.le_refl _) (by omega) (by rw [hz2]; omega) (by omega) (by simp) (fun _ => rfl) (fun a e => by cases e)).mono ?_
  rintro e w' ⟨rfl, rfl⟩
  refine ⟨_, rfl, ?_, ?_⟩
  · have hG := Go.grownCap_ge w (0 + n) 0 9
    have hM := Go.grownCap_le_maxLen w (0 + n) 0 9 (by unfold maxLen; omega)
    refine ⟨rfl, .inr ⟨w.heap.size, _, _, rfl, Nat.le_refl _, heap_alloc_new _ _, Nat.zero_le _, hM, ?_, by simp⟩⟩
    have hzc : (Value.cells (Value.string ByteArray.empty)).size = 1 := rfl
    have hr : Tryd.growS_ren.t 25 = 9 := rfl
    simp only [Array.size_append, size_zeroCells, hzc, hr] at *
    have hu : (List.toArray ([] : List Value)).size = 0 := rfl
    omega
  · exact (Below.refl _ w).drew.alloc (Nat.le_refl _) _
set_option maxRecDepth 100000 in
set_option maxHeartbeats 16000000 in
theorem concatM (g2 c2 : Nat) (A B : Option Addr) (c d : Nat) (xs ys : List (List UInt8)) (w : World) (h1 : w.cell? ⟨g2, 0, none⟩ = some (.slice A xs.length c)) (h2 : w.cell? ⟨g2, 1, none⟩ = some (.slice B ys.length d)) (hA : ReadsT w A xs) (hB : ReadsT w B ys) (h0 : 0 < xs.length + ys.length) (hn : xs.length + ys.length ≤ 100000) (hg2 : g2 < w.heap.size) :
    Calls Tryd.prog 12 #[.slice (some ⟨g2, 0, none⟩) 2 c2] w fun e w' => ∃ v, e = .returned v ∧ OwnT w.heap.size w' v (xs ++ ys) ∧ Below w.heap.size w w' := by
  obtain ⟨i0, hi0, hz0, hz1, hz2⟩ := info_parts Tryd.infoT
  have HGr := Lib.hid (growM (xs.length + ys.length) w h0 (by omega))
  have HA := Lib.hid hA
  have HB := Lib.hid hB
  have H12 := Lib.hid (And.intro h1 h2)
  have hs1 : ¬ ((xs.length : Int) < 0) := by omega
  have hs2 : ¬ (((xs.length : Int) + ys.length) < 0) := by omega
  clear hA hB h0
  go_enter Tryd.func12, Tryd.ntmps12
  go_wp2_with fail
  go_loopw [11, 3] (fun i z wr => ∃ k : Nat, k ≤ 2 ∧ i = .int .i64 k ∧ z = .int .i64 (if k = 0 then 0 else if k = 1 then (xs.length : Int) else (xs.length : Int) + ys.length) ∧ w = wr) (fun i _ _ => 2 - (intOf i).toNat)
  case atStart => exact ⟨0, by omega, rfl, rfl, rfl⟩
  case round =>
    obtain ⟨k, hk, rfl, rfl, rfl⟩ := hrel
    have hc1 := H12.out.1
    have hc2 := H12.out.2
    obtain rfl | rfl | rfl : k = 0 ∨ k = 1 ∨ k = 2 := by omega
    · go_wp2_with fail
      exact ⟨⟨1, by omega, rfl, by simp, by simp⟩, by simp [intOf]⟩
    · go_wp2_with fail
      exact ⟨⟨2, by omega, rfl, by simp, by simp⟩, by simp [intOf]⟩
    · go_wp2_with fail
      refine HGr.out.mono ?_
      rintro e w1 ⟨v, rfl, ho, hb⟩
      have HO := Lib.hid ho
      have HW := Lib.hid hb
      clear ho hb
      go_wp2_with fail
      go_loopw [27, 6] (fun i v wr => ∃ k : Nat, k ≤ 2 ∧ i = .int .i64 k ∧ OwnT w.heap.size wr v (if k = 0 then [] else if k = 1 then xs else xs ++ ys) ∧ Below w.heap.size w wr) (fun i _ _ => 2 - (intOf i).toNat)
      case atStart => exact ⟨0, by omega, rfl, HO.out, HW.out⟩
      case round =>
        obtain ⟨k, hk, rfl, ho, hb⟩ := hrel
        have HO2 := Lib.hid ho
        have HW2 := Lib.hid hb
        have hd1 : wr.cell? ⟨g2, 0, none⟩ = some (.slice A xs.length c) := (hb.cell (p := ⟨g2, 0, none⟩) hg2).trans H12.out.1
        have hd2 : wr.cell? ⟨g2, 1, none⟩ = some (.slice B ys.length d) := (hb.cell (p := ⟨g2, 1, none⟩) hg2).trans H12.out.2
        clear ho hb
        obtain rfl | rfl | rfl : k = 0 ∨ k = 1 ∨ k = 2 := by omega
        · go_wp2_with (at_builtin; refine wpList_app_u rfl _ _ 25 25 rfl w.heap.size 9 i0 _ 1 16 Tryd.underlying25 hi0 hz0 hz1 hz2 rfl _ 0 [] rfl HO2.out (.slice A xs.length c) xs.length (xs.map encT) rfl (srcT (readsT_below HA.out HW2.out (Nat.le_refl _))) (by omega) (by decide) HW2.out.size ?_)
          intro v3 w3 r1 r2 r3
          have HR1 := Lib.hid (And.intro r1 r2)
          clear r1 r2 r3
          go_wp2_with fail
          refine ⟨⟨1, by omega, rfl, ?_, ?_⟩, by simp [intOf]⟩
          · have := HR1.out.1
            exact this
          · exact HW2.out.trans (HR1.out.2.below HW2.out.size fun k _ hk => (HO2.out.lt k hk).1)
        · go_wp2_with (at_builtin; refine wpList_app_u rfl _ _ 25 25 rfl w.heap.size 9 i0 _ 1 16 Tryd.underlying25 hi0 hz0 hz1 hz2 rfl _ xs.length (xs.map encT) rfl HO2.out (.slice B ys.length d) ys.length (ys.map encT) rfl (srcT (readsT_below HB.out HW2.out (Nat.le_refl _))) (by omega) (by decide) HW2.out.size ?_)
          intro v3 w3 r1 r2 r3
          have HR1 := Lib.hid (And.intro r1 r2)
          clear r1 r2 r3
          go_wp2_with fail
          refine ⟨⟨2, by omega, rfl, ?_, ?_⟩, by simp [intOf]⟩
          · have := HR1.out.1
            rw [← List.map_append, ← List.length_append] at this
            exact this
          · exact HW2.out.trans (HR1.out.2.below HW2.out.size fun k _ hk => (HO2.out.lt k hk).1)
        · go_wp2_with fail
          go_ret
          exact ⟨_, rfl, HO2.out, HW2.out⟩
/-- a numeric's three digits -/
def d14 (n : Nat) : UInt8 := UInt8.ofNat (48 + n % 10)
def codeL (n : Nat) : List UInt8 := [d14 (n / 100), d14 (n / 10), d14 n]
theorem itoa_code (n : Nat) (h : n ≤ 999) : Lib.itoa (1000 + (n : Int)) = 49 :: codeL n := by
  unfold Lib.itoa
  rw [if_neg (by omega), show (1000 + (n : Int)).toNat = 1000 + n by omega]
  rw [Lib.decDigits, dif_neg (by omega), Lib.decDigits, dif_neg (by omega), Lib.decDigits, dif_neg (by omega), Lib.decDigits, dif_pos (by omega)]
  rw [show (1000 + n) % 10 = n % 10 by omega, show (1000 + n) / 10 % 10 = n / 10 % 10 by omega, show (1000 + n) / 10 / 10 % 10 = n / 100 % 10 by omega, show (1000 + n) / 10 / 10 / 10 = 1 by omega]
  rfl
/-- the table of powers -/
def PowW (W : World) : Prop := Lib.TabIs Tryd.prog W "internal/strconv.uint64pow10" .u64 Lib.pow10Tab
theorem powG14 : Tryd.prog.globalNamed "internal/strconv.uint64pow10" = some 0 := by kernel_rfl
theorem PowW.below {w W : World} (h : PowW w) (hb : Below w.heap.size w W) : PowW W := by
  have hlt : 0 < w.heap.size := by
    unfold PowW Lib.TabIs World.var? at h
    rw [powG14] at h
    simp only [Option.bind_some] at h
    split at h
    · rename_i cs t i hx
      exact (Array.getElem?_eq_some_iff.1 hx).1
    · cases h
  unfold PowW Lib.TabIs World.var? at h ⊢
  rw [powG14] at h ⊢
  simp only [Option.bind_some] at h ⊢
  rw [hb.block _ hlt]
  exact h
theorem itoaM (n : Int) (h0 : -9223372036854775808 ≤ n) (h1 : n ≤ 9223372036854775807) (w : World) (hp : PowW w) : Calls Tryd.prog 18 #[.int .i64 n] w fun e w' => e = .returned (.string (bs (Lib.itoa n))) ∧ Below w.heap.size w w' := by
  refine (Tryd.strconv_Itoa n h0 h1 w hp).mono ?_
  rintro e w' ⟨rfl, k, os, rfl⟩
  refine ⟨rfl, ?_⟩
  have key : Fr (fun _ => False) (w.drewN k) (Go.Sort.grow (w.drewN k) os) := ⟨rfl, rfl, rfl, by simp [Go.Sort.grow], fun j hj _ => by
    show (((w.drewN k).heap ++ os)[j]?) = _
    exact Array.getElem?_append_left hj⟩
  exact (((Fr.refl (fun _ => False) w).drewN k).trans key).below (Nat.le_refl _) fun _ _ h => h.elim
set_option maxRecDepth 100000 in
set_option maxHeartbeats 4000000 in
theorem digitsM (n : Nat) (h0 : 1 ≤ n) (h1 : n ≤ 999) (w : World) (hp : PowW w) :
    Calls Tryd.prog 11 #[.int .i64 n] w fun e w' => e = .returned (.string (bs (codeL n))) ∧ Below w.heap.size w w' := by
  have HI := Lib.hid (itoaM (1000 + (n : Int)) (by omega) (by omega) w hp)
  rw [itoa_code n h1] at HI
  have hw : wrap64 (1000 + (n : Int)) = 1000 + (n : Int) := by unfold wrap64; omega
  have hn1 : ¬ ((n : Int) < 1) := by omega
  have hn2 : ¬ ((999 : Int) < n) := by omega
  clear hp
  go_enter Tryd.func11, Tryd.ntmps11
  go_wp2_with fail
  refine HI.out.mono ?_
  rintro e w1 ⟨rfl, hb⟩
  have HB := Lib.hid hb
  clear hb
  go_wp2_with fail
  go_ret
  have e1 : (bs (49 :: codeL n)).extract 1 (bs (49 :: codeL n)).size = bs (codeL n) := ba_ext (by simp)
  exact ⟨congrArg Ending.returned (congrArg Value.string e1), HB.out⟩
end Go.Proofs.YtmoioihclnpcbaaDoor
