/- Layer 14: texts of a line: clean, unparted, middle, needsColon, isCommand. -/
import Derived.Test.YtmoioihclnpcbaaDoorRepM
import Derived.Test.YtmoioihclnpcbaaDoorValidE
import Derived.Test.YtmoioihclnpcbaaDoorFrm
import Derived.Shelf.Strings.Replace
import Derived.Shelf.Strings.Search3
namespace Go.Proofs.YtmoioihclnpcbaaDoor
set_option linter.unusedVariables false
set_option linter.unusedSimpArgs false
open Go Go.RowKit Go.Lib

/-- some number in MaxLen -/
def Mx (w : World) : Prop := ∃ m : Int, w.cell? ⟨1, 0, none⟩ = some (.int .i64 m)
theorem mx_kept {w W : World} {B : Nat} (h : Mx w) (hb : Below B w W) (hB : w.heap.size ≤ B) : Mx W := by
  obtain ⟨m, hm⟩ := h
  exact ⟨m, (hb.cell (Nat.lt_of_lt_of_le (World.block_lt_of_cell? _ _ hm) hB)).trans hm⟩
theorem cleanV_all (l : List UInt8) : cleanV (bs l) ((bs l).size : Int) = bs (cleanL l) := by
  unfold cleanV
  rw [bs_toList]
  congr 1
  refine List.take_of_length_le ?_
  have := clean_len l
  simp; omega
set_option maxRecDepth 100000 in
set_option maxHeartbeats 4000000 in
theorem cleanM (l : List UInt8) (w : World) (hl : l.length ≤ 1000000) :
    Calls Tryd.prog 16 #[.string (bs l)] w fun e w' => e = .returned (.string (bs (cleanL l))) ∧ Below w.heap.size w w' := by
  have hc := clean_v (bs l) ((bs l).size : Int) w (by simpa using hl)
  rw [cleanV_all] at hc
  have HC := Lib.hid hc
  clear hc
  go_enter Tryd.func16, Tryd.ntmps16
  go_wp2_with (go_at_call 22; refine HC.out.mono ?_; rintro e w' ⟨rfl, hb⟩)
  go_ret
  exact ⟨rfl, hb⟩
theorem countB_blank (s : ByteArray) : Lib.countB s ⟨#[32]⟩ ≤ s.size + 1 := by
  have := Lib.count_le s.data.toList [32]
  have e : s.data.toList.length = s.size := by simp
  unfold Lib.countB
  rw [e] at this
  exact this
theorem replM (l : List UInt8) (w : World) (hl : l.length ≤ 1000000) (hm : Mx w) :
    Calls Tryd.prog 21 #[.string (bs l), .string ⟨#[32]⟩, .string ⟨#[45]⟩] w fun e w' => e = .returned (.string (bs (dashL l))) ∧ Below w.heap.size w w' := by
  obtain ⟨m, hm⟩ := hm
  have hs : (bs l).size = l.length := by simp
  have hc := countB_blank (bs l)
  refine (Tryd.strings_ReplaceAll (bs l) ⟨#[32]⟩ ⟨#[45]⟩ m w (by omega) hm (by decide) (by
    have h1 : (⟨#[45]⟩ : ByteArray).size = 1 := rfl
    rw [h1]; omega)).mono ?_
  rintro e w' ⟨rfl, hb⟩
  refine ⟨?_, hb⟩
  have : Lib.replaceAll (bs l).data.toList (⟨#[32]⟩ : ByteArray).data.toList (⟨#[45]⟩ : ByteArray).data.toList = dashL l := by
    rw [bs_toList]; exact replace_dash l
  rw [this]
  rfl
set_option maxRecDepth 100000 in
set_option maxHeartbeats 4000000 in
theorem unpM (l : List UInt8) (w : World) (hl : l.length ≤ 1000000) (hm : Mx w) :
    Calls Tryd.prog 14 #[.string (bs l)] w fun e w' => e = .returned (.string (bs (dashL (cleanL l)))) ∧ Below w.heap.size w w' := by
  have HC := Lib.hid (cleanM l w hl)
  have HR := Lib.hid (fun W h => replM (cleanL l) W (Nat.le_trans (clean_len l) hl) h)
  have HM := Lib.hid hm
  clear hm
  go_enter Tryd.func14, Tryd.ntmps14
  go_wp2_with fail
  refine HC.out.mono ?_
  rintro e w1 ⟨rfl, hb⟩
  have HB := Lib.hid hb
  have hR := HR.out w1 (mx_kept HM.out hb (Nat.le_refl _))
  have HR1 := Lib.hid hR
  clear hb hR
  go_wp2_with fail
  refine HR1.out.mono ?_
  rintro e w2 ⟨rfl, hb2⟩
  have HB2 := Lib.hid hb2
  clear hb2
  go_wp2_with fail
  go_ret
  exact ⟨rfl, HB.out.trans (HB2.out.mono HB.out.size)⟩
theorem bs_head (b : UInt8) (r : List UInt8) : (bs (b :: r)).size = r.length + 1 := by simp
set_option maxRecDepth 100000 in
set_option maxHeartbeats 8000000 in
theorem midM (l : List UInt8) (w : World) (hl : l.length ≤ 1000000) (hm : Mx w) :
    Calls Tryd.prog 15 #[.string (bs l)] w fun e w' => e = .returned (.string (bs (midL (cleanL l)))) ∧ Below w.heap.size w w' := by
  have HU := Lib.hid (unpM l w hl hm)
  obtain ⟨u, hu⟩ : ∃ u, dashL (cleanL l) = u := ⟨_, rfl⟩
  have hlen : u.length ≤ 1000000 := by rw [← hu]; unfold dashL; rw [List.length_map]; exact Nat.le_trans (clean_len l) hl
  have hmid : midL (cleanL l) = midU u := by unfold midL; rw [hu]
  rw [hu] at HU
  rw [hmid]
  clear hmid hu hm
  cases u with
  | nil =>
    have e0 : bs ([] : List UInt8) = ({ data := #[] } : ByteArray) := rfl
    rw [e0] at HU
    go_enter Tryd.func15, Tryd.ntmps15
    go_wp2_with fail
    refine HU.out.mono ?_
    rintro e w1 ⟨rfl, hb⟩
    have HB := Lib.hid hb
    clear hb
    go_wp2_with fail
    go_ret
    exact ⟨rfl, HB.out⟩
  | cons b r =>
    have hemp := str_ne (s := bs (b :: r)) (by simp)
    have h0 : 0 < (bs (b :: r)).size := by simp
    have hsz := bs_head b r
    have hb0 : (bs (b :: r))[0]'h0 = b := rfl
    by_cases hc : b = 58
    · have hq : ((((bs (b :: r))[0]'h0).toNat : Int) == 58) = true := by rw [hb0, hc]; rfl
      have hex : (bs (b :: r)).extract 1 (bs (b :: r)).size = bs r := ba_ext (by simp)
      have HE := Lib.hid (And.intro hc hex)
      have hbig : ¬ 9223372036854775807 < 1 + r.length := by simp only [List.length_cons] at hlen; omega
      clear hc hex hb0
      go_enter Tryd.func15, Tryd.ntmps15
      go_wp2_with fail
      refine HU.out.mono ?_
      rintro e w1 ⟨rfl, hb⟩
      have HB := Lib.hid hb
      clear hb
      go_wp2_with fail
      go_ret
      refine ⟨?_, HB.out⟩
      obtain ⟨h1, h2⟩ := HE.out
      rw [hsz] at h2
      rw [h2, show midU (b :: r) = 45 :: r from if_pos h1]
      congr 2
    · have hq : ((((bs (b :: r))[0]'h0).toNat : Int) == 58) = false := by
        rw [hb0, beq_eq_false_iff_ne]; intro e; exact hc (by apply UInt8.toNat_inj.1; show b.toNat = 58; omega)
      have HE := Lib.hid hc
      clear hc hb0
      go_enter Tryd.func15, Tryd.ntmps15
      go_wp2_with fail
      refine HU.out.mono ?_
      rintro e w1 ⟨rfl, hb⟩
      have HB := Lib.hid hb
      clear hb
      go_wp2_with fail
      go_ret
      have hm2 : midU (b :: r) = b :: r := if_neg HE.out
      rw [hm2]
      exact ⟨rfl, HB.out⟩
/-- whether a colon is wanted -/
theorem needC_nil : needC [] = true := rfl
set_option maxRecDepth 100000 in
set_option maxHeartbeats 8000000 in
theorem needM (l : List UInt8) (w : World) (hl : l.length ≤ 1000000) :
    Calls Tryd.prog 25 #[.string (bs l)] w fun e w' => e = .returned (.bool (needC l)) ∧ w' = w := by
  cases l with
  | nil =>
    have e0 : bs ([] : List UInt8) = ({ data := #[] } : ByteArray) := rfl
    rw [e0]
    go_enter Tryd.func25, Tryd.ntmps25
    go_wp2_with fail
    go_ret
    exact ⟨rfl, rfl⟩
  | cons b r =>
    have hemp := str_ne (s := bs (b :: r)) (by simp)
    have h0 : 0 < (bs (b :: r)).size := by simp
    have hsz := bs_head b r
    have hb0 : (bs (b :: r))[0]'h0 = b := rfl
    by_cases hc : b = 58
    · have hq : ((((bs (b :: r))[0]'h0).toNat : Int) == 58) = true := by rw [hb0, hc]; rfl
      have HN : Hid (needC (b :: r) = true) := by show needC (b :: r) = true; rw [hc]; simp [needC]
      clear hc hb0
      go_enter Tryd.func25, Tryd.ntmps25
      go_wp2_with fail
      go_ret
      exact ⟨ret_bool HN.out.symm, rfl⟩
    · have hq : ((((bs (b :: r))[0]'h0).toNat : Int) == 58) = false := by
        rw [hb0, beq_eq_false_iff_ne]; intro e; exact hc (by apply UInt8.toNat_inj.1; show b.toNat = 58; omega)
      have HN : Hid (needC (b :: r) = decide ((32 : UInt8) ∈ (b :: r))) := by show needC (b :: r) = _; simp [needC, hc]
      have hct := Tryd.strings_Contains_one (bs (b :: r)) 32 w
      have HCT := Lib.hid hct
      clear hc hb0 hct
      go_enter Tryd.func25, Tryd.ntmps25
      go_wp2_with fail
      refine HCT.out.mono ?_
      rintro e w1 ⟨rfl, rfl⟩
      go_wp2_with fail
      go_ret
      have hcb := Lib.contains_iff_indexByte (b :: r) 32
      refine ⟨ret_bool ?_, rfl⟩
      refine Eq.trans ?_ HN.out.symm
      refine (show decide (0 ≤ indexByte (bs (b :: r)).data.toList 32) = decide (0 ≤ indexByte (b :: r) 32) from ?_).trans ?_
      · congr 1
      · rw [← hcb, Bool.eq_iff_iff, decide_eq_true_eq, List.contains_iff_mem]
end Go.Proofs.YtmoioihclnpcbaaDoor
