/- Texts of this proof, one behind the other. -/
import Derived.Test.YtpbobonddocgkaaGreatDoorCoreOnceG13
import Derived.Test.YtpbobonddocgkaaGreatDoorCoreOnceG12
import Derived.Test.YtpbobonddocgkaaGreatDoorCoreOnceG2
import Derived.Shelf.Strings.Replace
import Derived.Shelf.Strings.Search3
import Derived.Test.YtpbobonddocgkaaGreatDoorCoreOnceG11
import Derived.Test.YtpbobonddocgkaaGreatDoorCoreOnceG4
import Derived.Shelf.Strings.Builder1
import Derived.Shelf.Strings.OnBuilder
import Derived.Test.YtpbobonddocgkaaGreatDoorCoreOnceG3
import Derived.Test.YtpbobonddocgkaaGreatDoorCoreOnceG1
import Derived.Shelf.Spec.SlicesGrow
set_option linter.unusedVariables false
set_option linter.unusedSimpArgs false
section
/- Layer 14: texts of a line: clean, unparted, middle, needsColon, isCommand. -/
namespace Go.Proofs.YtpbobonddocgkaaGreatDoor
open Go Go.RowKit Go.Lib

/-- some number in MaxLen -/
def Mx (w : World) : Prop := ∃ m : Int, w.cell? ⟨2, 0, none⟩ = some (.int .i64 m)
theorem mx_kept {w W : World} {B : Nat} (h : Mx w) (hb : Below B w W) (hB : w.heap.size ≤ B) : Mx W := by
  obtain ⟨m, hm⟩ := h
  exact ⟨m, (hb.cell (Nat.lt_of_lt_of_le (World.block_lt_of_cell? _ _ hm) hB)).trans hm⟩
theorem cleanV_all (l : List UInt8) : cleanV (bs l) ((bs l).size : Int) = bs (cleanL l) := by
  unfold cleanV
  rw [bs_toList]
  congr 1
  refine List.take_of_length_le ?_
  have := clean_len l
  simp; omega
set_option maxRecDepth 100000 in
set_option maxHeartbeats 4000000 in
theorem cleanM (l : List UInt8) (w : World) (hl : l.length ≤ 1000000) :
    Calls Tryz.prog 116 #[.string (bs l)] w fun e w' => e = .returned (.string (bs (cleanL l))) ∧ Below w.heap.size w w' := by
  have hc := clean_v (bs l) ((bs l).size : Int) w (by simpa using hl)
  rw [cleanV_all] at hc
  have HC := Lib.hid hc
  clear hc
  go_enter Tryz.func116, Tryz.ntmps116
  go_wp2_with (go_at_call 147; refine HC.out.mono ?_; rintro e w' ⟨rfl, hb⟩)
  go_ret
  exact ⟨rfl, hb⟩
theorem countB_blank (s : ByteArray) : Lib.countB s ⟨#[32]⟩ ≤ s.size + 1 := by
  have := Lib.count_le s.data.toList [32]
  have e : s.data.toList.length = s.size := by simp
  unfold Lib.countB
  rw [e] at this
  exact this
theorem replM (l : List UInt8) (w : World) (hl : l.length ≤ 1000000) (hm : Mx w) :
    Calls Tryz.prog 146 #[.string (bs l), .string ⟨#[32]⟩, .string ⟨#[45]⟩] w fun e w' => e = .returned (.string (bs (dashL l))) ∧ Below w.heap.size w w' := by
  obtain ⟨m, hm⟩ := hm
  have hs : (bs l).size = l.length := by simp
  have hc := countB_blank (bs l)
  refine (Tryz.strings_ReplaceAll (bs l) ⟨#[32]⟩ ⟨#[45]⟩ m w (by omega) hm (by decide) (by
    have h1 : (⟨#[45]⟩ : ByteArray).size = 1 := rfl
    rw [h1]; omega)).mono ?_
  rintro e w' ⟨rfl, hb⟩
  refine ⟨?_, hb⟩
  have : Lib.replaceAll (bs l).data.toList (⟨#[32]⟩ : ByteArray).data.toList (⟨#[45]⟩ : ByteArray).data.toList = dashL l := by
    rw [bs_toList]; exact replace_dash l
  rw [this]
  rfl
set_option maxRecDepth 100000 in
set_option maxHeartbeats 4000000 in
theorem unpM (l : List UInt8) (w : World) (hl : l.length ≤ 1000000) (hm : Mx w) :
    Calls Tryz.prog 114 #[.string (bs l)] w fun e w' => e = .returned (.string (bs (dashL (cleanL l)))) ∧ Below w.heap.size w w' := by
  have HC := Lib.hid (cleanM l w hl)
  have HR := Lib.hid (fun W h => replM (cleanL l) W (Nat.le_trans (clean_len l) hl) h)
  have HM := Lib.hid hm
  clear hm
  go_enter Tryz.func114, Tryz.ntmps114
  go_wp2_with fail
  refine HC.out.mono ?_
  rintro e w1 ⟨rfl, hb⟩
  have HB := Lib.hid hb
  have hR := HR.out w1 (mx_kept HM.out hb (Nat.le_refl _))
  have HR1 := Lib.hid hR
  clear hb hR
  go_wp2_with fail
  refine HR1.out.mono ?_
  rintro e w2 ⟨rfl, hb2⟩
  have HB2 := Lib.hid hb2
  clear hb2
  go_wp2_with fail
  go_ret
  exact ⟨rfl, HB.out.trans (HB2.out.mono HB.out.size)⟩
theorem bs_head (b : UInt8) (r : List UInt8) : (bs (b :: r)).size = r.length + 1 := by simp
set_option maxRecDepth 100000 in
set_option maxHeartbeats 8000000 in
theorem midM (l : List UInt8) (w : World) (hl : l.length ≤ 1000000) (hm : Mx w) :
    Calls Tryz.prog 115 #[.string (bs l)] w fun e w' => e = .returned (.string (bs (midL (cleanL l)))) ∧ Below w.heap.size w w' := by
  have HU := Lib.hid (unpM l w hl hm)
  obtain ⟨u, hu⟩ : ∃ u, dashL (cleanL l) = u := ⟨_, rfl⟩
  have hlen : u.length ≤ 1000000 := by rw [← hu]; unfold dashL; rw [List.length_map]; exact Nat.le_trans (clean_len l) hl
  have hmid : midL (cleanL l) = midU u := by unfold midL; rw [hu]
  rw [hu] at HU
  rw [hmid]
  clear hmid hu hm
  cases u with
  | nil =>
    have e0 : bs ([] : List UInt8) = ({ data := #[] } : ByteArray) := rfl
    rw [e0] at HU
    go_enter Tryz.func115, Tryz.ntmps115
    go_wp2_with fail
    refine HU.out.mono ?_
    rintro e w1 ⟨rfl, hb⟩
    have HB := Lib.hid hb
    clear hb
    go_wp2_with fail
    go_ret
    exact ⟨rfl, HB.out⟩
  | cons b r =>
    have hemp := str_ne (s := bs (b :: r)) (by simp)
    have h0 : 0 < (bs (b :: r)).size := by simp
    have hsz := bs_head b r
    have hb0 : (bs (b :: r))[0]'h0 = b := rfl
    by_cases hc : b = 58
    · have hq : ((((bs (b :: r))[0]'h0).toNat : Int) == 58) = true := by rw [hb0, hc]; rfl
      have hex : (bs (b :: r)).extract 1 (bs (b :: r)).size = bs r := ba_ext (by simp)
      have HE := Lib.hid (And.intro hc hex)
      have hbig : ¬ 9223372036854775807 < 1 + r.length := by simp only [List.length_cons] at hlen; omega
      clear hc hex hb0
      go_enter Tryz.func115, Tryz.ntmps115
      go_wp2_with fail
      refine HU.out.mono ?_
      rintro e w1 ⟨rfl, hb⟩
      have HB := Lib.hid hb
      clear hb
      go_wp2_with fail
      go_ret
      refine ⟨?_, HB.out⟩
      obtain ⟨h1, h2⟩ := HE.out
      rw [hsz] at h2
      rw [h2, show midU (b :: r) = 45 :: r from if_pos h1]
      congr 2
    · have hq : ((((bs (b :: r))[0]'h0).toNat : Int) == 58) = false := by
        rw [hb0, beq_eq_false_iff_ne]; intro e; exact hc (by apply UInt8.toNat_inj.1; show b.toNat = 58; omega)
      have HE := Lib.hid hc
      clear hc hb0
      go_enter Tryz.func115, Tryz.ntmps115
      go_wp2_with fail
      refine HU.out.mono ?_
      rintro e w1 ⟨rfl, hb⟩
      have HB := Lib.hid hb
      clear hb
      go_wp2_with fail
      go_ret
      have hm2 : midU (b :: r) = b :: r := if_neg HE.out
      rw [hm2]
      exact ⟨rfl, HB.out⟩
/-- whether a colon is wanted -/
theorem needC_nil : needC [] = true := rfl
set_option maxRecDepth 100000 in
set_option maxHeartbeats 8000000 in
theorem needM (l : List UInt8) (w : World) (hl : l.length ≤ 1000000) :
    Calls Tryz.prog 150 #[.string (bs l)] w fun e w' => e = .returned (.bool (needC l)) ∧ w' = w := by
  cases l with
  | nil =>
    have e0 : bs ([] : List UInt8) = ({ data := #[] } : ByteArray) := rfl
    rw [e0]
    go_enter Tryz.func150, Tryz.ntmps150
    go_wp2_with fail
    go_ret
    exact ⟨rfl, rfl⟩
  | cons b r =>
    have hemp := str_ne (s := bs (b :: r)) (by simp)
    have h0 : 0 < (bs (b :: r)).size := by simp
    have hsz := bs_head b r
    have hb0 : (bs (b :: r))[0]'h0 = b := rfl
    by_cases hc : b = 58
    · have hq : ((((bs (b :: r))[0]'h0).toNat : Int) == 58) = true := by rw [hb0, hc]; rfl
      have HN : Hid (needC (b :: r) = true) := by show needC (b :: r) = true; rw [hc]; simp [needC]
      clear hc hb0
      go_enter Tryz.func150, Tryz.ntmps150
      go_wp2_with fail
      go_ret
      exact ⟨ret_bool HN.out.symm, rfl⟩
    · have hq : ((((bs (b :: r))[0]'h0).toNat : Int) == 58) = false := by
        rw [hb0, beq_eq_false_iff_ne]; intro e; exact hc (by apply UInt8.toNat_inj.1; show b.toNat = 58; omega)
      have HN : Hid (needC (b :: r) = decide ((32 : UInt8) ∈ (b :: r))) := by show needC (b :: r) = _; simp [needC, hc]
      have hct := Tryz.strings_Contains_one (bs (b :: r)) 32 w
      have HCT := Lib.hid hct
      clear hc hb0 hct
      go_enter Tryz.func150, Tryz.ntmps150
      go_wp2_with fail
      refine HCT.out.mono ?_
      rintro e w1 ⟨rfl, rfl⟩
      go_wp2_with fail
      go_ret
      have hcb := Lib.contains_iff_indexByte (b :: r) 32
      refine ⟨ret_bool ?_, rfl⟩
      refine Eq.trans ?_ HN.out.symm
      refine (show decide (0 ≤ indexByte (bs (b :: r)).data.toList 32) = decide (0 ≤ indexByte (b :: r) 32) from ?_).trans ?_
      · congr 1
      · rw [← hcb, Bool.eq_iff_iff, decide_eq_true_eq, List.contains_iff_mem]
end Go.Proofs.YtpbobonddocgkaaGreatDoor
end
section
/- Layer 14: all, isCommand: whether a text may be a command. -/
namespace Go.Proofs.YtpbobonddocgkaaGreatDoor
open Go Go.RowKit

/-- is a byte from one to another? -/
def betw (lo hi : Int) (b : UInt8) : Bool := decide (lo ≤ b.toNat ∧ (b.toNat : Int) ≤ hi)
set_option maxHeartbeats 1000000 in
theorem allM (s : ByteArray) (lo hi : Int) (w : World) (hs : s.size ≤ 1000000) :
    Calls Tryz.prog 145 #[.string s, .int .u8 lo, .int .u8 hi] w fun e w' => e = .returned (.bool (allI s fun _ b => betw lo hi b)) ∧ w' = w := by
  go_enter Tryz.func145, Tryz.ntmps145
  go_wp2_with fail
  go_loopw [10] (fun i wr => ∃ k : Nat, k ≤ s.size ∧ i = .int .i64 k ∧ (∀ i, i < k → ∀ (hi' : i < s.size), (fun _ b => betw lo hi b) i s[i] = true) ∧ wr = w) (fun i _ => s.size - (Go.RowKit.intOf i).toNat)
  case atStart => exact ⟨0, Nat.zero_le _, rfl, fun _ h => absurd h (Nat.not_lt_zero _), rfl⟩
  case round =>
    obtain ⟨k, hk, rfl, hq, rfl⟩ := hrel
    have Hq := Lib.hid hq
    clear hq
    by_cases hlt : k < s.size
    · by_cases hb : (s[k].toNat : Int) < lo
      · go_wp2_with fail
        go_ret
        exact ⟨ret_bool (allI_no hlt (decide_eq_false fun h => by omega)), rfl⟩
      · by_cases hb2 : hi < (s[k].toNat : Int)
        · go_wp2_with fail
          go_ret
          exact ⟨ret_bool (allI_no hlt (decide_eq_false fun h => by omega)), rfl⟩
        · go_wp2_with fail
          exact ⟨⟨k + 1, by omega, by push_cast; rfl, all_step Hq.out hlt (decide_eq_true ⟨by omega, by omega⟩), by simp⟩, by simp only [Go.RowKit.intOf]; omega⟩
    · obtain rfl : k = s.size := by omega
      go_wp2_with fail
      go_ret
      exact ⟨ret_bool (allI_yes (Nat.le_refl _) Hq.out), rfl⟩
/-- a row of capitals -/
noncomputable def capsB (s : ByteArray) : Bool := allI s fun _ b => betw 65 90 b
noncomputable def digsB (s : ByteArray) : Bool := allI s fun _ b => betw 48 57 b
/-- may a text be a command? -/
noncomputable def cmdB (s : ByteArray) : Bool := if capsB s then decide (0 < s.size) else (decide (s.size = 3) && digsB s)
set_option maxHeartbeats 4000000 in
theorem cmdM (s : ByteArray) (w : World) (hs : s.size ≤ 1000000) :
    Calls Tryz.prog 113 #[.string s] w fun e w' => e = .returned (.bool (cmdB s)) ∧ w' = w := by
  have hA := Lib.hid (allM s 65 90 w hs)
  have hD := Lib.hid (allM s 48 57 w hs)
  cases hc : capsB s
  · have e1 : (allI s fun _ b => betw 65 90 b) = false := hc
    rw [e1] at hA
    by_cases h3 : s.size = 3
    · have h3' : (s.size : Int) = 3 := by omega
      have HD : Hid (cmdB s = digsB s) := by show cmdB s = digsB s; unfold cmdB; rw [hc, decide_eq_true h3]; simp
      clear hc e1
      go_enter Tryz.func113, Tryz.ntmps113
      go_wp2_with (first | (go_at_call 145; refine hA.out.mono ?_; rintro e w' ⟨rfl, rfl⟩; clear hA) | (go_at_call 145; refine hD.out.mono ?_; rintro e w' ⟨rfl, rfl⟩))
      go_ret
      exact ⟨ret_bool HD.out.symm, rfl⟩
    · have h3' : ¬ (s.size : Int) = 3 := by omega
      have HD : Hid (cmdB s = false) := by show cmdB s = false; unfold cmdB; rw [hc, decide_eq_false h3]; simp
      clear hc e1
      go_enter Tryz.func113, Tryz.ntmps113
      go_wp2_with (go_at_call 145; refine hA.out.mono ?_; rintro e w' ⟨rfl, rfl⟩)
      go_ret
      exact ⟨ret_bool HD.out.symm, rfl⟩
  · have e1 : (allI s fun _ b => betw 65 90 b) = true := hc
    rw [e1] at hA
    by_cases h0 : 0 < s.size
    · have hemp := str_ne h0
      have HD : Hid (cmdB s = true) := by show cmdB s = true; unfold cmdB; rw [hc, if_pos rfl, decide_eq_true h0]
      clear hc e1
      go_enter Tryz.func113, Tryz.ntmps113
      go_wp2_with (go_at_call 145; refine hA.out.mono ?_; rintro e w' ⟨rfl, rfl⟩)
      go_ret
      exact ⟨ret_bool HD.out.symm, rfl⟩
    · have h0' : s.size = 0 := by omega
      obtain rfl : s = ByteArray.empty := ByteArray.size_eq_zero_iff.1 h0'
      have HD : Hid (cmdB ByteArray.empty = false) := by show cmdB _ = false; unfold cmdB; rw [hc]; rfl
      clear hc e1
      go_enter Tryz.func113, Tryz.ntmps113
      go_wp2_with (go_at_call 145; refine hA.out.mono ?_; rintro e w' ⟨rfl, rfl⟩)
      go_ret
      exact ⟨ret_bool HD.out.symm, rfl⟩
end Go.Proofs.YtpbobonddocgkaaGreatDoor
end
section
/- Layer 14: write: a message's text through a builder. -/
namespace Go.Proofs.YtpbobonddocgkaaGreatDoor
open Go Go.RowKit

/-- what is written of a parameter -/
def piece (last : Bool) (p : List UInt8) : List UInt8 := 32 :: ((if last && needC p then [58] else []) ++ p)
/-- what is written of the first parameters -/
def accL (ps : List (List UInt8)) : Nat → List UInt8
  | 0 => []
  | k + 1 => accL ps k ++ piece (decide (k + 1 = ps.length)) (ps.getD k [])
theorem accL_cons (p q : List UInt8) (r : List (List UInt8)) : ∀ k, accL (p :: q :: r) (k + 1) = 32 :: p ++ accL (q :: r) k
  | 0 => by simp [accL, piece]
  | k + 1 => by
    rw [accL, accL_cons p q r k, accL]
    simp
theorem accL_all : ∀ ps : List (List UInt8), accL ps ps.length = tailL ps
  | [] => rfl
  | [p] => by simp [accL, piece, tailL]
  | p :: q :: r => by
    have := accL_all (q :: r)
    rw [show (p :: q :: r).length = (q :: r).length + 1 from rfl, accL_cons, this]
    rfl
theorem piece_len (last : Bool) (p : List UInt8) : (piece last p).length ≤ p.length + 2 := by
  unfold piece; split <;> simp <;> omega
theorem accL_len {ps : List (List UInt8)} (hp : ∀ p ∈ ps, p.length ≤ 100000) : ∀ k, (accL ps k).length ≤ k * 100002
  | 0 => Nat.le_refl _
  | k + 1 => by
    have h1 := accL_len hp k
    have h2 := piece_len (decide (k + 1 = ps.length)) (ps.getD k [])
    have h3 : (ps.getD k []).length ≤ 100000 := by
      by_cases h : k < ps.length
      · rw [List.getD_eq_getElem?_getD, List.getElem?_eq_getElem h]; exact hp _ (List.getElem_mem h)
      · rw [List.getD_eq_getElem?_getD, List.getElem?_eq_none (by omega)]; simp
    rw [accL, List.length_append]
    omega
theorem strCells_bs (l : List UInt8) : Lib.strCells (bs l) = Lib.byteCells l := by rw [Lib.strCells_eq, bs_toList]
/-- a text is written behind what a builder holds -/
def WrP (B b : Nat) (l x : List UInt8) (w : World) (e : Ending) (w' : World) : Prop :=
  (∃ v, e = .returned v) ∧ Lib.IsBuilder 217 5 B b (Lib.byteCells (l ++ x)) w' ∧ Below B w w'
theorem wrM (B b : Nat) (l x : List UInt8) (w : World) (h : Lib.IsBuilder 217 5 B b (Lib.byteCells l) w) (hl : l.length + x.length ≤ 100000000) (hB : B ≤ w.heap.size) :
    Calls Tryz.prog 148 #[.pointer (some ⟨b, 0, none⟩), .string (bs x)] w (WrP B b l x w) := by
  refine (Any.Builder_WriteString { Tryz.lays155 with } Tryz.Builder_Extra_155 B b (Lib.byteCells l) (bs x) w h (by rw [Lib.byteCells_length]; simp; omega) hB).mono ?_
  rintro e w' ⟨rfl, h1, h2⟩
  refine ⟨⟨_, rfl⟩, ?_, h2⟩
  rw [strCells_bs, ← Lib.byteCells_append] at h1
  exact .inr h1
/-- what write does -/
theorem bs_head3 (pre : List UInt8) : (({ data := #[58] } : ByteArray) ++ bs pre) ++ ({ data := #[32] } : ByteArray) = bs (58 :: (pre ++ [32])) := ba_ext (by simp)
set_option maxRecDepth 100000 in
set_option maxHeartbeats 16000000 in
theorem writeM (pre name : List UInt8) (A : Option Addr) (c : Nat) (ps : List (List UInt8)) (w : World) (hR : ReadsT w A ps) (h1 : pre.length ≤ 1000000) (h2 : name.length ≤ 1000000) (h3 : ps.length ≤ 100) (h4 : ∀ p ∈ ps, p.length ≤ 100000) :
    Calls Tryz.prog 117 #[.agg #[.slice none 0 0, .string (bs pre), .string (bs name), .slice A ps.length c]] w fun e w' => e = .returned (.string (bs (writeL pre name ps))) ∧ Below w.heap.size w w' := by
  have HR := Lib.hid hR
  clear hR
  obtain ⟨N0, hN0⟩ : ∃ n, w.heap.size = n := ⟨_, rfl⟩
  obtain ⟨N1, hN1⟩ : ∃ n, N0 + 1 = n := ⟨_, rfl⟩
  obtain ⟨W1, hW1⟩ : ∃ W, (w.alloc (.cells #[.slice none 0 0, .string (bs pre), .string (bs name), .slice A ps.length c] 185)).alloc (.cells #[.pointer none, .slice none 0 0] 217) = W := ⟨_, rfl⟩
  have hsz1 : (w.alloc (.cells #[.slice none 0 0, .string (bs pre), .string (bs name), .slice A ps.length c] 185)).heap.size = N1 := by rw [World.size_alloc, hN0, hN1]
  have hfr := Lib.fresh_isBuilder 217 5 (w.alloc (.cells #[.slice none 0 0, .string (bs pre), .string (bs name), .slice A ps.length c] 185))
  have hW1b : Below w.heap.size w W1 := by rw [← hW1]; exact ((Below.refl _ w).alloc (Nat.le_refl _) _).alloc (by simp) _
  have hS1 : N1 ≤ W1.heap.size := by rw [← hW1, World.size_alloc, hsz1]; omega
  have hbx : W1.heap[N0]? = some (.cells #[.slice none 0 0, .string (bs pre), .string (bs name), .slice A ps.length c] 185 (0, 0)) := by
    rw [← hW1]; exact blk_alloc (hN0 ▸ heap_alloc_new w _) _
  rw [hsz1, hW1] at hfr
  have HW1 := Lib.hid hW1b
  have HS := Lib.hid hS1
  have HX3 := Lib.hid (show W1.cell? ⟨N0, 3, none⟩ = some (.slice A ps.length c) from blk_cell hbx 3)
  have HX2 := Lib.hid (show W1.cell? ⟨N0, 2, none⟩ = some (.string (bs name)) from blk_cell hbx 2)
  have HF := Lib.hid hfr
  have HE1 := Lib.hid hW1
  have HN1 := Lib.hid hN1
  clear hW1b hS1 hbx hfr hsz1 hW1
  have HN := Lib.hid (fun (l : List UInt8) (h : l.length ≤ 1000000) W => needM l W h)
  cases pre with
  | nil =>
    have e0 : bs ([] : List UInt8) = ({ data := #[] } : ByteArray) := rfl
    rw [e0] at HE1 ⊢
    clear e0
    have HW := Lib.hid (wrM N1 N1 [] name W1 HF.out (by simp; omega) HS.out)
    obtain ⟨H0, hH0⟩ : ∃ h : List UInt8, [] = h := ⟨_, rfl⟩
    have hH1 : H0.length ≤ 1000010 := by rw [← hH0]; simp
    have HH0 := Lib.hid hH0
    clear hN1 hH0
    go_enter Tryz.func117, Tryz.ntmps117
    go_wp2_with fail
    rw [HN1.out, HE1.out]
    have hN1 := HN1.out
    refine HW.out.mono ?_
    rintro e w1 ⟨⟨v1, rfl⟩, hb1, hB1⟩
    have hx3 : w1.cell? ⟨N0, 3, none⟩ = some (.slice A ps.length c) := (hB1.cell (p := ⟨N0, 3, none⟩) (by show N0 < N1; omega)).trans HX3.out
    rw [List.nil_append, ← List.nil_append name, HH0.out] at hb1
    have Hb0 := Lib.hid hb1
    have HB0 := Lib.hid hB1
    clear hb1 hB1
    go_wp2_with fail
    have hW0 := Hb0.out
    have hS0 := HB0.out
    go_loopw [30] (fun i wr => ∃ k : Nat, k ≤ ps.length ∧ i = .int .i64 k ∧ Lib.IsBuilder 217 5 N1 N1 (Lib.byteCells (H0 ++ name ++ accL ps k)) wr ∧ Below N1 W1 wr) (fun i _ => ps.length - (RowKit.intOf i).toNat)
    case atStart => exact ⟨0, Nat.zero_le _, rfl, by rw [show accL ps 0 = [] from rfl, List.append_nil]; exact hW0, hS0⟩
    case round =>
      obtain ⟨k, hk, rfl, hb, hB⟩ := hrel
      clear hW0 hS0
      have Hb := Lib.hid hb
      have HB := Lib.hid hB
      clear hb hB
      have hacc := accL_len h4 k
      have hN1' : N1 ≤ wr.heap.size := Nat.le_trans HS.out HB.out.size
      have HL := Lib.hid (And.intro hacc hN1')
      clear hacc hN1'
      by_cases hlt : k < ps.length
      · obtain ⟨g, o, hA, hg, hc⟩ := HR.out (by omega)
        have hck := hc k hlt
        have hcell : wr.cell? ⟨g, o + k, none⟩ = some (.string (bs ps[k])) := (HB.out.cell (p := ⟨g, o + k, none⟩) (by show g < N1; omega)).trans ((HW1.out.cell (p := ⟨g, o + k, none⟩) hg).trans hck)
        have hbox : wr.cell? ⟨N0, 3, none⟩ = some (.slice (some ⟨g, o, none⟩) ps.length c) := by
          rw [← hA]; exact (HB.out.cell (p := ⟨N0, 3, none⟩) (by show N0 < N1; omega)).trans HX3.out
        have HG := Lib.hid hg
        have hpk := h4 ps[k] (List.getElem_mem hlt)
        have hget : ps.getD k [] = ps[k] := by rw [List.getD_eq_getElem?_getD, List.getElem?_eq_getElem hlt]; rfl
        obtain ⟨p, hp⟩ : ∃ p, ps[k] = p := ⟨_, rfl⟩
        rw [hp] at hcell hpk hget
        have H1 := Lib.hid (wrM N1 N1 (H0 ++ name ++ accL ps k) [32] wr Hb.out (by have := HL.out.1; simp only [List.length_append, List.length_cons, List.length_nil]; omega) HL.out.2)
        have HG2 := Lib.hid (And.intro hget hpk)
        clear hc hck hget hp hpk hg
        subst hA
        have HNp := Lib.hid (fun W => needM p W (by have := HG2.out.2; omega))
        by_cases hlast : (k : Int) = ps.length - 1
        · have hlast2 : (((k : Int)) == (ps.length : Int) - 1) = true := by rw [beq_iff_eq]; exact hlast
          have HLA := Lib.hid hlast
          clear hlast
          cases hnc : needC p
          · go_wp2_with fail
            refine H1.out.mono ?_
            rintro e w1 ⟨⟨v1, rfl⟩, hb1, hB1⟩
            have Hb1 := Lib.hid hb1
            have HB1 := Lib.hid (HB.out.trans hB1)
            have hbox1 : w1.cell? ⟨N0, 3, none⟩ = some (.slice (some ⟨g, o, none⟩) ps.length c) := (hB1.cell (p := ⟨N0, 3, none⟩) (by show N0 < N1; omega)).trans hbox
            clear hb1 hB1
            go_wp2_with (first | (go_at_call 150; refine (HNp.out _).mono ?_; rintro e w' ⟨rfl, rfl⟩; rw [hnc]) | fail)
            have H4 := Lib.hid (wrM N1 N1 _ p _ Hb1.out (by have := HL.out.1; have := HG2.out.2; simp only [List.length_append, List.length_cons, List.length_nil]; omega) (Nat.le_trans HS.out HB1.out.size))
            refine H4.out.mono ?_
            rintro e w3 ⟨⟨v3, rfl⟩, hb3, hB3⟩
            have Hb3 := Lib.hid hb3
            have HB3 := Lib.hid (HB1.out.trans hB3)
            clear hb3 hB3 Hb1 HB1
            go_wp2_with fail
            have hpc : piece true p = 32 :: p := by unfold piece; rw [hnc]; rfl
            refine ⟨⟨k + 1, by omega, by push_cast; rfl, ?_, HB3.out⟩, by simp only [RowKit.intOf]; omega⟩
            have h5 := Hb3.out
            have hd : decide (k + 1 = ps.length) = true := by have := HLA.out; simp; omega
            rw [accL, HG2.out.1, hd, hpc]
            simpa only [List.append_assoc, List.cons_append, List.nil_append] using h5
          · go_wp2_with fail
            refine H1.out.mono ?_
            rintro e w1 ⟨⟨v1, rfl⟩, hb1, hB1⟩
            have Hb1 := Lib.hid hb1
            have HB1 := Lib.hid (HB.out.trans hB1)
            have hbox1 : w1.cell? ⟨N0, 3, none⟩ = some (.slice (some ⟨g, o, none⟩) ps.length c) := (hB1.cell (p := ⟨N0, 3, none⟩) (by show N0 < N1; omega)).trans hbox
            clear hb1 hB1
            go_wp2_with (first | (go_at_call 150; refine (HNp.out _).mono ?_; rintro e w' ⟨rfl, rfl⟩; rw [hnc]) | fail)
            have H3 := Lib.hid (wrM N1 N1 (H0 ++ name ++ accL ps k ++ [32]) [58] _ Hb1.out (by have := HL.out.1; simp only [List.length_append, List.length_cons, List.length_nil]; omega) (Nat.le_trans HS.out HB1.out.size))
            refine H3.out.mono ?_
            rintro e w2 ⟨⟨v2, rfl⟩, hb2, hB2⟩
            have Hb2 := Lib.hid hb2
            have HB2 := Lib.hid (HB1.out.trans hB2)
            clear hb2 hB2 Hb1 HB1 hbox1
            have Hb1 := Hb2
            have HB1 := HB2
            clear Hb2 HB2
            go_wp2_with fail
            have H4 := Lib.hid (wrM N1 N1 _ p _ Hb1.out (by have := HL.out.1; have := HG2.out.2; simp only [List.length_append, List.length_cons, List.length_nil]; omega) (Nat.le_trans HS.out HB1.out.size))
            refine H4.out.mono ?_
            rintro e w3 ⟨⟨v3, rfl⟩, hb3, hB3⟩
            have Hb3 := Lib.hid hb3
            have HB3 := Lib.hid (HB1.out.trans hB3)
            clear hb3 hB3 Hb1 HB1
            go_wp2_with fail
            have hpc : piece true p = 32 :: 58 :: p := by unfold piece; rw [hnc]; rfl
            refine ⟨⟨k + 1, by omega, by push_cast; rfl, ?_, HB3.out⟩, by simp only [RowKit.intOf]; omega⟩
            have h5 := Hb3.out
            have hd : decide (k + 1 = ps.length) = true := by have := HLA.out; simp; omega
            rw [accL, HG2.out.1, hd, hpc]
            simpa only [List.append_assoc, List.cons_append, List.nil_append] using h5
        · have hlast2 : (((k : Int)) == (ps.length : Int) - 1) = false := by rw [beq_eq_false_iff_ne]; exact hlast
          have HLA := Lib.hid hlast
          clear hlast
          go_wp2_with fail
          refine H1.out.mono ?_
          rintro e w1 ⟨⟨v1, rfl⟩, hb1, hB1⟩
          have Hb1 := Lib.hid hb1
          have HB1 := Lib.hid (HB.out.trans hB1)
          have hbox1 : w1.cell? ⟨N0, 3, none⟩ = some (.slice (some ⟨g, o, none⟩) ps.length c) := (hB1.cell (p := ⟨N0, 3, none⟩) (by show N0 < N1; omega)).trans hbox
          clear hb1 hB1
          go_wp2_with fail
          have H4 := Lib.hid (wrM N1 N1 _ p _ Hb1.out (by have := HL.out.1; have := HG2.out.2; simp only [List.length_append, List.length_cons, List.length_nil]; omega) (Nat.le_trans HS.out HB1.out.size))
          refine H4.out.mono ?_
          rintro e w3 ⟨⟨v3, rfl⟩, hb3, hB3⟩
          have Hb3 := Lib.hid hb3
          have HB3 := Lib.hid (HB1.out.trans hB3)
          clear hb3 hB3 Hb1 HB1
          go_wp2_with fail
          have hpc : piece false p = 32 :: p := by unfold piece; rfl
          refine ⟨⟨k + 1, by omega, by push_cast; rfl, ?_, HB3.out⟩, by simp only [RowKit.intOf]; omega⟩
          have h5 := Hb3.out
          have hd : decide (k + 1 = ps.length) = false := by have := HLA.out; simp; omega
          rw [accL, HG2.out.1, hd, hpc]
          simpa only [List.append_assoc, List.cons_append, List.nil_append] using h5
      · obtain rfl : k = ps.length := by omega
        have HD := Lib.hid (Tryz.Builder_String_any N1 N1 (H0 ++ name ++ accL ps ps.length) wr Hb.out HL.out.2)
        go_wp2_with fail
        refine HD.out.mono ?_
        rintro e w2 ⟨rfl, hb2⟩
        go_wp2_with fail
        go_ret
        refine ⟨?_, ?_⟩
        · have e : H0 ++ name ++ accL ps ps.length = writeL [] name ps := by rw [accL_all, ← HH0.out]; rfl
          rw [← e, List.append_assoc]; rfl
        · exact HW1.out.trans ((HB.out.trans hb2).mono (by rw [hN0]; omega))
  | cons b0 r0 =>
    have hemp := str_ne (s := bs (b0 :: r0)) (by simp)
    have hg1 : ¬ 9223372036854775807 < 1 + (r0.length + 1) := by simp only [List.length_cons] at h1; omega
    have hg2 : ¬ 9223372036854775807 < 1 + (r0.length + 1) + 1 := by simp only [List.length_cons] at h1; omega
    have HW := Lib.hid (fun (l x : List UInt8) W h h2 h3 => wrM N1 N1 l x W h h2 h3)
    clear hN1
    go_enter Tryz.func117, Tryz.ntmps117
    go_wp2_with fail
    rw [bs_head3, HN1.out, HE1.out]
    have hN1 := HN1.out
    refine (HW.out [] (58 :: ((b0 :: r0) ++ [32])) W1 HF.out (by simp only [List.length_append, List.length_cons, List.length_nil] at *; omega) HS.out).mono ?_
    rintro e w0 ⟨⟨v0, rfl⟩, hb0, hB0⟩
    obtain ⟨H0, hH0⟩ : ∃ h : List UInt8, 58 :: ((b0 :: r0) ++ [32]) = h := ⟨_, rfl⟩
    have hH1 : H0.length ≤ 1000010 := by rw [← hH0]; simp only [List.length_append, List.length_cons, List.length_nil] at *; omega
    rw [List.nil_append, hH0] at hb0
    have hx2 : w0.cell? ⟨N0, 2, none⟩ = some (.string (bs name)) := (hB0.cell (p := ⟨N0, 2, none⟩) (by show N0 < N1; omega)).trans HX2.out
    have Hb' := Lib.hid hb0
    have HB' := Lib.hid hB0
    have HH0 := Lib.hid hH0
    clear hb0 hB0 hH0 hN1
    go_wp2_with fail
    have hN1 := HN1.out
    refine (HW.out H0 name w0 Hb'.out (by omega) (Nat.le_trans HS.out HB'.out.size)).mono ?_
    rintro e w1 ⟨⟨v1, rfl⟩, hb1, hB1⟩
    have hx3 : w1.cell? ⟨N0, 3, none⟩ = some (.slice A ps.length c) := ((HB'.out.trans hB1).cell (p := ⟨N0, 3, none⟩) (by show N0 < N1; omega)).trans HX3.out
    have Hb0 := Lib.hid hb1
    have HB0 := Lib.hid (HB'.out.trans hB1)
    clear hb1 hB1
    go_wp2_with fail
    have hW0 := Hb0.out
    have hS0 := HB0.out
    go_loopw [30] (fun i wr => ∃ k : Nat, k ≤ ps.length ∧ i = .int .i64 k ∧ Lib.IsBuilder 217 5 N1 N1 (Lib.byteCells (H0 ++ name ++ accL ps k)) wr ∧ Below N1 W1 wr) (fun i _ => ps.length - (RowKit.intOf i).toNat)
    case atStart => exact ⟨0, Nat.zero_le _, rfl, by rw [show accL ps 0 = [] from rfl, List.append_nil]; exact hW0, hS0⟩
    case round =>
      obtain ⟨k, hk, rfl, hb, hB⟩ := hrel
      clear hW0 hS0
      have Hb := Lib.hid hb
      have HB := Lib.hid hB
      clear hb hB
      have hacc := accL_len h4 k
      have hN1' : N1 ≤ wr.heap.size := Nat.le_trans HS.out HB.out.size
      have HL := Lib.hid (And.intro hacc hN1')
      clear hacc hN1'
      by_cases hlt : k < ps.length
      · obtain ⟨g, o, hA, hg, hc⟩ := HR.out (by omega)
        have hck := hc k hlt
        have hcell : wr.cell? ⟨g, o + k, none⟩ = some (.string (bs ps[k])) := (HB.out.cell (p := ⟨g, o + k, none⟩) (by show g < N1; omega)).trans ((HW1.out.cell (p := ⟨g, o + k, none⟩) hg).trans hck)
        have hbox : wr.cell? ⟨N0, 3, none⟩ = some (.slice (some ⟨g, o, none⟩) ps.length c) := by
          rw [← hA]; exact (HB.out.cell (p := ⟨N0, 3, none⟩) (by show N0 < N1; omega)).trans HX3.out
        have HG := Lib.hid hg
        have hpk := h4 ps[k] (List.getElem_mem hlt)
        have hget : ps.getD k [] = ps[k] := by rw [List.getD_eq_getElem?_getD, List.getElem?_eq_getElem hlt]; rfl
        obtain ⟨p, hp⟩ : ∃ p, ps[k] = p := ⟨_, rfl⟩
        rw [hp] at hcell hpk hget
        have H1 := Lib.hid (wrM N1 N1 (H0 ++ name ++ accL ps k) [32] wr Hb.out (by have := HL.out.1; simp only [List.length_append, List.length_cons, List.length_nil]; omega) HL.out.2)
        have HG2 := Lib.hid (And.intro hget hpk)
        clear hc hck hget hp hpk hg
        subst hA
        have HNp := Lib.hid (fun W => needM p W (by have := HG2.out.2; omega))
        by_cases hlast : (k : Int) = ps.length - 1
        · have hlast2 : (((k : Int)) == (ps.length : Int) - 1) = true := by rw [beq_iff_eq]; exact hlast
          have HLA := Lib.hid hlast
          clear hlast
          cases hnc : needC p
          · go_wp2_with fail
            refine H1.out.mono ?_
            rintro e w1 ⟨⟨v1, rfl⟩, hb1, hB1⟩
            have Hb1 := Lib.hid hb1
            have HB1 := Lib.hid (HB.out.trans hB1)
            have hbox1 : w1.cell? ⟨N0, 3, none⟩ = some (.slice (some ⟨g, o, none⟩) ps.length c) := (hB1.cell (p := ⟨N0, 3, none⟩) (by show N0 < N1; omega)).trans hbox
            clear hb1 hB1
            go_wp2_with (first | (go_at_call 150; refine (HNp.out _).mono ?_; rintro e w' ⟨rfl, rfl⟩; rw [hnc]) | fail)
            have H4 := Lib.hid (wrM N1 N1 _ p _ Hb1.out (by have := HL.out.1; have := HG2.out.2; simp only [List.length_append, List.length_cons, List.length_nil]; omega) (Nat.le_trans HS.out HB1.out.size))
            refine H4.out.mono ?_
            rintro e w3 ⟨⟨v3, rfl⟩, hb3, hB3⟩
            have Hb3 := Lib.hid hb3
            have HB3 := Lib.hid (HB1.out.trans hB3)
            clear hb3 hB3 Hb1 HB1
            go_wp2_with fail
            have hpc : piece true p = 32 :: p := by unfold piece; rw [hnc]; rfl
            refine ⟨⟨k + 1, by omega, by push_cast; rfl, ?_, HB3.out⟩, by simp only [RowKit.intOf]; omega⟩
            have h5 := Hb3.out
            have hd : decide (k + 1 = ps.length) = true := by have := HLA.out; simp; omega
            rw [accL, HG2.out.1, hd, hpc]
            simpa only [List.append_assoc, List.cons_append, List.nil_append] using h5
          · go_wp2_with fail
            refine H1.out.mono ?_
            rintro e w1 ⟨⟨v1, rfl⟩, hb1, hB1⟩
            have Hb1 := Lib.hid hb1
            have HB1 := Lib.hid (HB.out.trans hB1)
            have hbox1 : w1.cell? ⟨N0, 3, none⟩ = some (.slice (some ⟨g, o, none⟩) ps.length c) := (hB1.cell (p := ⟨N0, 3, none⟩) (by show N0 < N1; omega)).trans hbox
            clear hb1 hB1
            go_wp2_with (first | (go_at_call 150; refine (HNp.out _).mono ?_; rintro e w' ⟨rfl, rfl⟩; rw [hnc]) | fail)
            have H3 := Lib.hid (wrM N1 N1 (H0 ++ name ++ accL ps k ++ [32]) [58] _ Hb1.out (by have := HL.out.1; simp only [List.length_append, List.length_cons, List.length_nil]; omega) (Nat.le_trans HS.out HB1.out.size))
            refine H3.out.mono ?_
            rintro e w2 ⟨⟨v2, rfl⟩, hb2, hB2⟩
            have Hb2 := Lib.hid hb2
            have HB2 := Lib.hid (HB1.out.trans hB2)
            clear hb2 hB2 Hb1 HB1 hbox1
            have Hb1 := Hb2
            have HB1 := HB2
            clear Hb2 HB2
            go_wp2_with fail
            have H4 := Lib.hid (wrM N1 N1 _ p _ Hb1.out (by have := HL.out.1; have := HG2.out.2; simp only [List.length_append, List.length_cons, List.length_nil]; omega) (Nat.le_trans HS.out HB1.out.size))
            refine H4.out.mono ?_
            rintro e w3 ⟨⟨v3, rfl⟩, hb3, hB3⟩
            have Hb3 := Lib.hid hb3
            have HB3 := Lib.hid (HB1.out.trans hB3)
            clear hb3 hB3 Hb1 HB1
            go_wp2_with fail
            have hpc : piece true p = 32 :: 58 :: p := by unfold piece; rw [hnc]; rfl
            refine ⟨⟨k + 1, by omega, by push_cast; rfl, ?_, HB3.out⟩, by simp only [RowKit.intOf]; omega⟩
            have h5 := Hb3.out
            have hd : decide (k + 1 = ps.length) = true := by have := HLA.out; simp; omega
            rw [accL, HG2.out.1, hd, hpc]
            simpa only [List.append_assoc, List.cons_append, List.nil_append] using h5
        · have hlast2 : (((k : Int)) == (ps.length : Int) - 1) = false := by rw [beq_eq_false_iff_ne]; exact hlast
          have HLA := Lib.hid hlast
          clear hlast
          go_wp2_with fail
          refine H1.out.mono ?_
          rintro e w1 ⟨⟨v1, rfl⟩, hb1, hB1⟩
          have Hb1 := Lib.hid hb1
          have HB1 := Lib.hid (HB.out.trans hB1)
          have hbox1 : w1.cell? ⟨N0, 3, none⟩ = some (.slice (some ⟨g, o, none⟩) ps.length c) := (hB1.cell (p := ⟨N0, 3, none⟩) (by show N0 < N1; omega)).trans hbox
          clear hb1 hB1
          go_wp2_with fail
          have H4 := Lib.hid (wrM N1 N1 _ p _ Hb1.out (by have := HL.out.1; have := HG2.out.2; simp only [List.length_append, List.length_cons, List.length_nil]; omega) (Nat.le_trans HS.out HB1.out.size))
          refine H4.out.mono ?_
          rintro e w3 ⟨⟨v3, rfl⟩, hb3, hB3⟩
          have Hb3 := Lib.hid hb3
          have HB3 := Lib.hid (HB1.out.trans hB3)
          clear hb3 hB3 Hb1 HB1
          go_wp2_with fail
          have hpc : piece false p = 32 :: p := by unfold piece; rfl
          refine ⟨⟨k + 1, by omega, by push_cast; rfl, ?_, HB3.out⟩, by simp only [RowKit.intOf]; omega⟩
          have h5 := Hb3.out
          have hd : decide (k + 1 = ps.length) = false := by have := HLA.out; simp; omega
          rw [accL, HG2.out.1, hd, hpc]
          simpa only [List.append_assoc, List.cons_append, List.nil_append] using h5
      · obtain rfl : k = ps.length := by omega
        have HD := Lib.hid (Tryz.Builder_String_any N1 N1 (H0 ++ name ++ accL ps ps.length) wr Hb.out HL.out.2)
        go_wp2_with fail
        refine HD.out.mono ?_
        rintro e w2 ⟨rfl, hb2⟩
        go_wp2_with fail
        go_ret
        refine ⟨?_, ?_⟩
        · have e : H0 ++ name ++ accL ps ps.length = writeL (b0 :: r0) name ps := by rw [accL_all, ← HH0.out]; rfl
          rw [← e, List.append_assoc]; rfl
        · exact HW1.out.trans ((HB.out.trans hb2).mono (by rw [hN0]; omega))
end Go.Proofs.YtpbobonddocgkaaGreatDoor
end
section
/- Layer 14: Make: a line of a command and parameters. -/
namespace Go.Proofs.YtpbobonddocgkaaGreatDoor
open Go Go.RowKit

theorem parsL_len : ∀ qs : List (List UInt8), (parsL qs).length = qs.length
  | [] => rfl
  | [q] => rfl
  | p :: q :: r => by have := parsL_len (q :: r); simp only [parsL, List.length_cons] at *; omega
theorem parsL_get : ∀ (qs : List (List UInt8)) (k : Nat) (h : k < qs.length), (parsL qs)[k]? = some (if k + 1 < qs.length then midL qs[k] else qs[k])
  | [q], 0, _ => rfl
  | p :: q :: r, 0, _ => by simp [parsL]
  | p :: q :: r, k + 1, h => by
    have := parsL_get (q :: r) k (by simpa using h)
    simp only [parsL, List.getElem?_cons_succ, this]
    simp
theorem midU_len (l : List UInt8) : (midU l).length ≤ l.length + 1 := by
  cases l with
  | nil => simp [midU]
  | cons b r =>
    by_cases h : b = 58
    · rw [show midU (b :: r) = 45 :: r from if_pos h]; simp
    · rw [show midU (b :: r) = b :: r from if_neg h]; simp
theorem midL_len (l : List UInt8) : (midL l).length ≤ l.length + 1 := by
  unfold midL dashL
  have := midU_len (l.map fun b => if b = 32 then 45 else b)
  simpa using this
/-- the parameters of a line -/
def lineP (ps : List (List UInt8)) : List (List UInt8) := parsL (ps.map cleanL)
theorem lineP_len (ps : List (List UInt8)) : (lineP ps).length = ps.length := by unfold lineP; rw [parsL_len]; simp
theorem lineP_take {ps : List (List UInt8)} {k : Nat} (h : k < ps.length) : (lineP ps).take (k + 1) = (lineP ps).take k ++ [if k + 1 < ps.length then midL (cleanL ps[k]) else cleanL ps[k]] := by
  have h2 := parsL_get (ps.map cleanL) k (by simpa using h)
  rw [List.take_add_one]
  unfold lineP
  rw [h2]
  simp
/-- the line that Make makes -/
def makeL (pre name : List UInt8) (ps : List (List UInt8)) : List UInt8 := (writeL (dashL (cleanL pre)) name (lineP ps)).take 510
theorem lineP_mem {ps : List (List UInt8)} {B : Nat} (hp : ∀ p ∈ ps, p.length ≤ B) : ∀ p ∈ lineP ps, p.length ≤ B + 1 := by
  intro p hm
  obtain ⟨k, hk⟩ := List.getElem?_of_mem hm
  have hlt : k < ps.length := by have := (List.getElem?_eq_some_iff.1 hk).1; rwa [lineP_len] at this
  have h2 := parsL_get (ps.map cleanL) k (by simpa using hlt)
  unfold lineP at hk
  rw [hk] at h2
  have h3 := hp ps[k] (List.getElem_mem hlt)
  have h4 := clean_len ps[k]
  have h5 := midL_len (cleanL ps[k])
  cases h2
  simp only [List.getElem_map, List.length_map]
  split <;> omega
set_option maxRecDepth 100000 in
set_option maxHeartbeats 16000000 in
theorem makeM (pre name : List UInt8) (A : Option Addr) (c : Nat) (ps : List (List UInt8)) (w : World) (hR : ReadsT w A ps) (hm : Mx w) (hn : cmdB (bs name) = true) (h1 : pre.length ≤ 1000000) (h2 : name.length ≤ 1000000) (h3 : ps.length ≤ 15) (h4 : ∀ p ∈ ps, p.length ≤ 90000) :
    Calls Tryz.prog 98 #[.string (bs pre), .string (bs name), .slice A ps.length c] w fun e w' => e = .returned (.string (bs (makeL pre name ps))) ∧ Below w.heap.size w w' := by
  have HR := Lib.hid hR
  have HM := Lib.hid hm
  have HC := Lib.hid (cmdM (bs name) w (by simpa using h2))
  rw [hn] at HC
  have HU := Lib.hid (unpM pre w h1 hm)
  obtain ⟨up, hup⟩ : ∃ u, dashL (cleanL pre) = u := ⟨_, rfl⟩
  have hupl : up.length ≤ 1000000 := by rw [← hup]; unfold dashL; rw [List.length_map]; exact Nat.le_trans (clean_len pre) h1
  rw [hup] at HU
  have HUP := Lib.hid (And.intro hup hupl)
  clear hR hm hn hup hupl
  obtain ⟨i0, hi0, hz0, hz1, hz2⟩ := info_parts Tryz.infoT
  have hnl : ¬ (15 : Int) < ps.length := by omega
  go_enter Tryz.func98, Tryz.ntmps98
  go_wp2_with fail
  refine HC.out.mono ?_
  rintro e w' ⟨rfl, rfl⟩
  go_wp2_with fail
  refine HU.out.mono ?_
  rintro e w1 ⟨rfl, hb1⟩
  have HB1 := Lib.hid hb1
  clear hb1
  go_wp2_with fail
  obtain ⟨N2, hN2⟩ : ∃ n, w1.heap.size = n := ⟨_, rfl⟩
  have hw1 : w'.heap.size ≤ N2 := by rw [← hN2]; exact HB1.out.size
  have HN2 := Lib.hid hN2
  have hbx := heap_alloc_new w1 (.cells #[.slice none 0 0, .string (bs up), .string (bs name), .slice none 0 0] 185)
  have hsz : (w1.alloc (.cells #[.slice none 0 0, .string (bs up), .string (bs name), .slice none 0 0] 185)).heap.size = N2 + 1 := by rw [World.size_alloc, hN2]
  have hbl : Below N2 w1 (w1.alloc (.cells #[.slice none 0 0, .string (bs up), .string (bs name), .slice none 0 0] 185)) := (Below.refl _ w1).alloc (by omega) _
  rw [hN2]
  rw [hN2] at hbx
  obtain ⟨W1, hW1⟩ : ∃ W, (w1.alloc (.cells #[.slice none 0 0, .string (bs up), .string (bs name), .slice none 0 0] 185)) = W := ⟨_, rfl⟩
  rw [hW1] at hbx hsz hbl ⊢
  have HX := Lib.hid (And.intro hbx (And.intro hsz hbl))
  clear hbx hsz hbl hW1 hN2 hw1
  go_loopw [25] (fun i wr => ∃ (k : Nat) (v : Value), k ≤ ps.length ∧ i = .int .i64 k ∧ wr.heap[N2]? = some (.cells #[.slice none 0 0, .string (bs up), .string (bs name), v] 185 (0, 0)) ∧ OwnT (N2 + 1) wr v ((lineP ps).take k) ∧ Below N2 w1 wr ∧ N2 + 1 ≤ wr.heap.size) (fun i _ => ps.length - (Go.RowKit.intOf i).toNat)
  case atStart => exact ⟨0, _, Nat.zero_le _, rfl, HX.out.1, ownT_nil _ _, HX.out.2.2, by rw [HX.out.2.1]; exact Nat.le_refl _⟩
  case round =>
    obtain ⟨k, v, hk, rfl, hbox, hown, hB, hS⟩ := hrel
    have hv : wr.cell? ⟨N2, 3, none⟩ = some v := blk_cell hbox 3
    have HO := Lib.hid (And.intro hbox (And.intro hown (And.intro hB hS)))
    clear hbox hown hB hS
    by_cases hlt : k < ps.length
    · obtain ⟨g, o, hA, hg, hc⟩ := HR.out (by omega)
      have hcell : wr.cell? ⟨g, o + k, none⟩ = some (.string (bs ps[k])) := ((HB1.out.trans (HO.out.2.2.1.mono (by rw [← HN2.out]; exact HB1.out.size))).cell (p := ⟨g, o + k, none⟩) hg).trans (hc k hlt)
      have hmx : Mx wr := mx_kept HM.out (HB1.out.trans (HO.out.2.2.1.mono (by rw [← HN2.out]; exact HB1.out.size))) (Nat.le_refl _)
      have hpk := h4 ps[k] (List.getElem_mem hlt)
      have htk := lineP_take hlt
      obtain ⟨p, hp⟩ : ∃ p, ps[k] = p := ⟨_, rfl⟩
      rw [hp] at hcell hpk htk
      have HT := Lib.hid htk
      have HMM := Lib.hid (midM p wr (by omega) hmx)
      have HCM := Lib.hid (cleanM p wr (by omega))
      have HPK := Lib.hid hpk
      clear hc hmx htk hp hpk hg
      subst hA
      by_cases hlast : (k : Int) < ps.length - 1
      · go_wp2_with fail
        refine HMM.out.mono ?_
        rintro e w2 ⟨rfl, hb2⟩
        have hbox2 := (Fr.of_below (X := fun _ => False) hb2).blk HO.out.1 (fun h => h)
        have hown2 : OwnT (N2 + 1) w2 v ((lineP ps).take k) := ownT_kept HO.out.2.1 fun g' hg' => hb2.block g' (HO.out.2.1.lt g' hg').2
        have hv2 : w2.cell? ⟨N2, 3, none⟩ = some v := blk_cell hbox2 3
        have hS2 : N2 + 1 ≤ w2.heap.size := Nat.le_trans HO.out.2.2.2 hb2.size
        have hB2 : Below N2 w1 w2 := HO.out.2.2.1.trans (hb2.mono (by have := HO.out.2.2.2; omega))
        obtain ⟨D, hD⟩ : ∃ D, (lineP ps).take k = D := ⟨_, rfl⟩
        have hDl : D.length ≤ 15 := by rw [← hD, List.length_take]; omega
        rw [hD] at hown2
        have HD := Lib.hid hD
        have H2 := Lib.hid (And.intro hbox2 (And.intro hown2 (And.intro hB2 hS2)))
        clear hbox2 hown2 hS2 hB2 hb2 hD
        go_wp2_with (at_builtin; refine wpList_app_fr rfl _ _ 89 rfl (N2 + 1) 9 i0 (.string ByteArray.empty) 1 16 Tryz.underlying89 hi0 hz0 hz1 hz2 rfl (by decide) v _ _ rfl H2.out.2.1 #[.string (bs (midL (cleanL p)))] w2.heap.size rfl rfl rfl (by intro u hu; simp at hu; subst hu; rfl) (by omega) (by decide) H2.out.2.2.2 ?_)
        intro v1 w3 hown3 hfr3
        have hbox3 := hfr3.blk H2.out.1 (fun e => by have := (H2.out.2.1.lt _ e).1; omega)
        have hv3 : w3.cell? ⟨N2, 3, none⟩ = some v := blk_cell hbox3 3
        have hf3 : w3.frozen? ⟨N2, 3, none⟩ = false := blk_free hbox3 3
        have H3 := Lib.hid (And.intro hbox3 (And.intro (ownT_snoc hown3) hfr3))
        obtain ⟨A3, c3, hv4⟩ := row_slice hown3
        subst hv4
        clear hbox3 hown3 hfr3 hv2
        go_wp2_with fail
        refine ⟨⟨k + 1, .slice A3 (D.length + 1) c3, by omega, by push_cast; rfl, blk_set H3.out.1 3 _, ?_, ?_, ?_⟩, by simp only [Go.RowKit.intOf]; omega⟩
        · rw [HT.out, if_pos (by omega), HD.out]
          exact ownT_kept H3.out.2.1 fun g' hg' => heap_setCell_other w3 _ g' _ fun e => by have := (H3.out.2.1.lt g' hg').1; simp at e; omega
        · refine Below.setCell (H2.out.2.2.1.trans (H3.out.2.2.below (by have := H2.out.2.2.2; omega) fun g' _ hg' => ?_)) (Nat.le_refl _) _
          have := (H2.out.2.1.lt g' hg').1; omega
        · have := H3.out.2.2.size
          have := H2.out.2.2.2
          simp; omega
      · go_wp2_with fail
        refine HCM.out.mono ?_
        rintro e w2 ⟨rfl, hb2⟩
        have hbox2 := (Fr.of_below (X := fun _ => False) hb2).blk HO.out.1 (fun h => h)
        have hown2 : OwnT (N2 + 1) w2 v ((lineP ps).take k) := ownT_kept HO.out.2.1 fun g' hg' => hb2.block g' (HO.out.2.1.lt g' hg').2
        have hv2 : w2.cell? ⟨N2, 3, none⟩ = some v := blk_cell hbox2 3
        have hS2 : N2 + 1 ≤ w2.heap.size := Nat.le_trans HO.out.2.2.2 hb2.size
        have hB2 : Below N2 w1 w2 := HO.out.2.2.1.trans (hb2.mono (by have := HO.out.2.2.2; omega))
        obtain ⟨D, hD⟩ : ∃ D, (lineP ps).take k = D := ⟨_, rfl⟩
        have hDl : D.length ≤ 15 := by rw [← hD, List.length_take]; omega
        rw [hD] at hown2
        have HD := Lib.hid hD
        have H2 := Lib.hid (And.intro hbox2 (And.intro hown2 (And.intro hB2 hS2)))
        clear hbox2 hown2 hS2 hB2 hb2 hD
        go_wp2_with (at_builtin; refine wpList_app_fr rfl _ _ 89 rfl (N2 + 1) 9 i0 (.string ByteArray.empty) 1 16 Tryz.underlying89 hi0 hz0 hz1 hz2 rfl (by decide) v _ _ rfl H2.out.2.1 #[.string (bs (cleanL p))] w2.heap.size rfl rfl rfl (by intro u hu; simp at hu; subst hu; rfl) (by omega) (by decide) H2.out.2.2.2 ?_)
        intro v1 w3 hown3 hfr3
        have hbox3 := hfr3.blk H2.out.1 (fun e => by have := (H2.out.2.1.lt _ e).1; omega)
        have hv3 : w3.cell? ⟨N2, 3, none⟩ = some v := blk_cell hbox3 3
        have hf3 : w3.frozen? ⟨N2, 3, none⟩ = false := blk_free hbox3 3
        have H3 := Lib.hid (And.intro hbox3 (And.intro (ownT_snoc hown3) hfr3))
        obtain ⟨A3, c3, hv4⟩ := row_slice hown3
        subst hv4
        clear hbox3 hown3 hfr3 hv2
        go_wp2_with fail
        refine ⟨⟨k + 1, .slice A3 (D.length + 1) c3, by omega, by push_cast; rfl, blk_set H3.out.1 3 _, ?_, ?_, ?_⟩, by simp only [Go.RowKit.intOf]; omega⟩
        · rw [HT.out, if_neg (by omega), HD.out]
          exact ownT_kept H3.out.2.1 fun g' hg' => heap_setCell_other w3 _ g' _ fun e => by have := (H3.out.2.1.lt g' hg').1; simp at e; omega
        · refine Below.setCell (H2.out.2.2.1.trans (H3.out.2.2.below (by have := H2.out.2.2.2; omega) fun g' _ hg' => ?_)) (Nat.le_refl _) _
          have := (H2.out.2.1.lt g' hg').1; omega
        · have := H3.out.2.2.size
          have := H2.out.2.2.2
          simp; omega
    · obtain rfl : k = ps.length := by omega
      obtain ⟨D, hD⟩ : ∃ D, lineP ps = D := ⟨_, rfl⟩
      have hDl : D.length = ps.length := by rw [← hD, lineP_len]
      have hown : OwnT (N2 + 1) wr v D := by have := HO.out.2.1; rwa [List.take_of_length_le (by rw [lineP_len]; exact Nat.le_refl _), hD] at this
      obtain ⟨A2, c2, hv2⟩ := row_slice hown
      subst hv2
      have HW := Lib.hid (writeM up name A2 c2 D wr (reads_ownT hown) HUP.out.2 h2 (by omega) (fun q hq => by have := lineP_mem h4 q (hD ▸ hq); omega))
      rw [hDl] at HW
      have hbox := HO.out.1
      have hc0 : wr.cell? ⟨N2, 0, none⟩ = some (.slice none 0 0) := blk_cell hbox 0
      have hc1 : wr.cell? ⟨N2, 1, none⟩ = some (.string (bs up)) := blk_cell hbox 1
      have hc2 : wr.cell? ⟨N2, 2, none⟩ = some (.string (bs name)) := blk_cell hbox 2
      have HD := Lib.hid hD
      clear hown hbox hD
      go_wp2_with fail
      refine HW.out.mono ?_
      rintro e w2 ⟨rfl, hb2⟩
      obtain ⟨L, hL⟩ : ∃ L, writeL up name D = L := ⟨_, rfl⟩
      rw [hL]
      have hend : makeL pre name ps = L.take 510 := by unfold makeL; rw [HUP.out.1, HD.out, hL]
      have HE := Lib.hid hend
      have HB2 := Lib.hid hb2
      clear hb2 hL hend
      go_wp2_with fail
      go_ret
      refine ⟨?_, ?_⟩
      · have e : (bs L).extract 0 (min ((L.length : Nat) : Int) 510).toNat = bs (L.take 510) := by
          have e2 : (min ((L.length : Nat) : Int) 510).toNat = min L.length 510 := by omega
          rw [e2]
          refine ba_ext ?_
          by_cases h : L.length ≤ 510
          · rw [Nat.min_eq_left h, List.take_of_length_le h]; simp
          · rw [Nat.min_eq_right (by omega)]; simp
        rw [HE.out, ← e]; rfl
      · exact HB1.out.trans ((HO.out.2.2.1.trans (HB2.out.mono (by have := HO.out.2.2.2; omega))).mono (by rw [← HN2.out]; exact HB1.out.size))
end Go.Proofs.YtpbobonddocgkaaGreatDoor
end
section
/- Layer 14: digits, slices.Concat of two rows of texts, Numeric. -/
namespace Go.Proofs.YtpbobonddocgkaaGreatDoor
open Go Go.RowKit

/-- a row of texts as what is appended -/
theorem srcT {w : World} {A : Option Addr} {c : Nat} {xs : List (List UInt8)} (h : ReadsT w A xs) : Src Tryz.prog 1 89 (.slice A xs.length c) xs.length (xs.map encT) w := by
  cases A with
  | none =>
    have h0 : xs = [] := by
      rcases Nat.eq_zero_or_pos xs.length with h0 | h0
      · exact List.length_eq_zero_iff.1 h0
      · obtain ⟨_, _, e, _⟩ := h h0; cases e
    subst h0
    exact Src.ofNil w Tryz.underlying89 c
  | some a =>
    refine Src.ofSlice w Tryz.underlying89 a _ c _ (by simp) (fun j u hu => ?_) (fun u hu => ?_)
    · have hj : j < xs.length := by have := (List.getElem?_eq_some_iff.1 hu).1; simpa using this
      obtain ⟨g, o, e, hg, hc⟩ := h (by omega)
      cases e
      have hadd : (⟨g, o, none⟩ : Addr).add j = ⟨g, o + j, none⟩ := by unfold Addr.add; split <;> simp_all
      rw [hadd, hc j hj, ← hu]
      simp [hj, encT]
    · obtain ⟨b, _, rfl⟩ := List.mem_map.1 hu; rfl
theorem readsT_below {w W : World} {A : Option Addr} {xs : List (List UInt8)} (h : ReadsT w A xs) {B : Nat} (hb : Below B w W) (hB : w.heap.size ≤ B) : ReadsT W A xs := fun h0 => by
  obtain ⟨g, o, e, hg, hc⟩ := h h0
  exact ⟨g, o, e, Nat.lt_of_lt_of_le hg hb.size, fun j hj => (hb.cell (p := ⟨g, o + j, none⟩) (Nat.lt_of_lt_of_le hg hB)).trans (hc j hj)⟩
/-- room for rows -/
theorem growM (n : Nat) (w : World) (h0 : 0 < n) (hn : n ≤ 1000000) :
    Calls Tryz.prog 118 #[.slice none 0 0, .int .i64 n] w fun e w' => ∃ v, e = .returned v ∧ OwnT w.heap.size w' v [] ∧ Below w.heap.size w w' := by
  obtain ⟨i0, hi0, hz0, hz1, hz2⟩ := info_parts Tryz.infoT
  refine (Any8.slices_Grow_grow { Tryz.growS with } i0 _ hi0 hz0 (by omega) none 0 0 n [] w (Nat.le_refl _) (by omega) (by rw [hz2]; omega) (by omega) (by simp) (fun _ => rfl) (fun a e => by cases e)).mono ?_
  rintro e w' ⟨rfl, rfl⟩
  refine ⟨_, rfl, ?_, ?_⟩
  · have hG := Go.grownCap_ge w (0 + n) 0 9
    have hM := Go.grownCap_le_maxLen w (0 + n) 0 9 (by unfold maxLen; omega)
    refine ⟨rfl, .inr ⟨w.heap.size, _, _, rfl, Nat.le_refl _, heap_alloc_new _ _, Nat.zero_le _, hM, ?_, by simp⟩⟩
    have hzc : (Value.cells (Value.string ByteArray.empty)).size = 1 := rfl
    have hr : Tryz.growS_ren.t 25 = 9 := rfl
    simp only [Array.size_append, size_zeroCells, hzc, hr] at *
    have hu : (List.toArray ([] : List Value)).size = 0 := rfl
    omega
  · exact (Below.refl _ w).drew.alloc (Nat.le_refl _) _
set_option maxRecDepth 100000 in
set_option maxHeartbeats 16000000 in
theorem concatM (g2 c2 : Nat) (A B : Option Addr) (c d : Nat) (xs ys : List (List UInt8)) (w : World) (h1 : w.cell? ⟨g2, 0, none⟩ = some (.slice A xs.length c)) (h2 : w.cell? ⟨g2, 1, none⟩ = some (.slice B ys.length d)) (hA : ReadsT w A xs) (hB : ReadsT w B ys) (h0 : 0 < xs.length + ys.length) (hn : xs.length + ys.length ≤ 100000) (hg2 : g2 < w.heap.size) :
    Calls Tryz.prog 100 #[.slice (some ⟨g2, 0, none⟩) 2 c2] w fun e w' => ∃ v, e = .returned v ∧ OwnT w.heap.size w' v (xs ++ ys) ∧ Below w.heap.size w w' := by
  obtain ⟨i0, hi0, hz0, hz1, hz2⟩ := info_parts Tryz.infoT
  have HGr := Lib.hid (growM (xs.length + ys.length) w h0 (by omega))
  have HA := Lib.hid hA
  have HB := Lib.hid hB
  have H12 := Lib.hid (And.intro h1 h2)
  have hs1 : ¬ ((xs.length : Int) < 0) := by omega
  have hs2 : ¬ (((xs.length : Int) + ys.length) < 0) := by omega
  clear hA hB h0
  go_enter Tryz.func100, Tryz.ntmps100
  go_wp2_with fail
  go_loopw [11, 3] (fun i z wr => ∃ k : Nat, k ≤ 2 ∧ i = .int .i64 k ∧ z = .int .i64 (if k = 0 then 0 else if k = 1 then (xs.length : Int) else (xs.length : Int) + ys.length) ∧ w = wr) (fun i _ _ => 2 - (Go.RowKit.intOf i).toNat)
  case atStart => exact ⟨0, by omega, rfl, rfl, rfl⟩
  case round =>
    obtain ⟨k, hk, rfl, rfl, rfl⟩ := hrel
    have hc1 := H12.out.1
    have hc2 := H12.out.2
    obtain rfl | rfl | rfl : k = 0 ∨ k = 1 ∨ k = 2 := by omega
    · go_wp2_with fail
      exact ⟨⟨1, by omega, rfl, by simp, by simp⟩, by simp [Go.RowKit.intOf]⟩
    · go_wp2_with fail
      exact ⟨⟨2, by omega, rfl, by simp, by simp⟩, by simp [Go.RowKit.intOf]⟩
    · go_wp2_with fail
      refine HGr.out.mono ?_
      rintro e w1 ⟨v, rfl, ho, hb⟩
      have HO := Lib.hid ho
      have HW := Lib.hid hb
      clear ho hb
      go_wp2_with fail
      go_loopw [27, 6] (fun i v wr => ∃ k : Nat, k ≤ 2 ∧ i = .int .i64 k ∧ OwnT w.heap.size wr v (if k = 0 then [] else if k = 1 then xs else xs ++ ys) ∧ Below w.heap.size w wr) (fun i _ _ => 2 - (Go.RowKit.intOf i).toNat)
      case atStart => exact ⟨0, by omega, rfl, HO.out, HW.out⟩
      case round =>
        obtain ⟨k, hk, rfl, ho, hb⟩ := hrel
        have HO2 := Lib.hid ho
        have HW2 := Lib.hid hb
        have hd1 : wr.cell? ⟨g2, 0, none⟩ = some (.slice A xs.length c) := (hb.cell (p := ⟨g2, 0, none⟩) hg2).trans H12.out.1
        have hd2 : wr.cell? ⟨g2, 1, none⟩ = some (.slice B ys.length d) := (hb.cell (p := ⟨g2, 1, none⟩) hg2).trans H12.out.2
        clear ho hb
        obtain rfl | rfl | rfl : k = 0 ∨ k = 1 ∨ k = 2 := by omega
        · go_wp2_with (at_builtin; refine wpList_app_u rfl _ _ 89 89 rfl w.heap.size 9 i0 _ 1 16 Tryz.underlying89 hi0 hz0 hz1 hz2 rfl _ 0 [] rfl HO2.out (.slice A xs.length c) xs.length (xs.map encT) rfl (srcT (readsT_below HA.out HW2.out (Nat.le_refl _))) (by omega) (by decide) HW2.out.size ?_)
          intro v3 w3 r1 r2 r3
          have HR1 := Lib.hid (And.intro r1 r2)
          clear r1 r2 r3
          go_wp2_with fail
          refine ⟨⟨1, by omega, rfl, ?_, ?_⟩, by simp [Go.RowKit.intOf]⟩
          · have := HR1.out.1
            exact this
          · exact HW2.out.trans (HR1.out.2.below HW2.out.size fun k _ hk => (HO2.out.lt k hk).1)
        · go_wp2_with (at_builtin; refine wpList_app_u rfl _ _ 89 89 rfl w.heap.size 9 i0 _ 1 16 Tryz.underlying89 hi0 hz0 hz1 hz2 rfl _ xs.length (xs.map encT) rfl HO2.out (.slice B ys.length d) ys.length (ys.map encT) rfl (srcT (readsT_below HB.out HW2.out (Nat.le_refl _))) (by omega) (by decide) HW2.out.size ?_)
          intro v3 w3 r1 r2 r3
          have HR1 := Lib.hid (And.intro r1 r2)
          clear r1 r2 r3
          go_wp2_with fail
          refine ⟨⟨2, by omega, rfl, ?_, ?_⟩, by simp [Go.RowKit.intOf]⟩
          · have := HR1.out.1
            rw [← List.map_append, ← List.length_append] at this
            exact this
          · exact HW2.out.trans (HR1.out.2.below HW2.out.size fun k _ hk => (HO2.out.lt k hk).1)
        · go_wp2_with fail
          go_ret
          exact ⟨_, rfl, HO2.out, HW2.out⟩
/-- a numeric's three digits -/
def d14 (n : Nat) : UInt8 := UInt8.ofNat (48 + n % 10)
def codeL (n : Nat) : List UInt8 := [d14 (n / 100), d14 (n / 10), d14 n]
theorem itoa_code (n : Nat) (h : n ≤ 999) : Lib.itoa (1000 + (n : Int)) = 49 :: codeL n := by
  unfold Lib.itoa
  rw [if_neg (by omega), show (1000 + (n : Int)).toNat = 1000 + n by omega]
  rw [Lib.decDigits, dif_neg (by omega), Lib.decDigits, dif_neg (by omega), Lib.decDigits, dif_neg (by omega), Lib.decDigits, dif_pos (by omega)]
  rw [show (1000 + n) % 10 = n % 10 by omega, show (1000 + n) / 10 % 10 = n / 10 % 10 by omega, show (1000 + n) / 10 / 10 % 10 = n / 100 % 10 by omega, show (1000 + n) / 10 / 10 / 10 = 1 by omega]
  rfl
/-- the table of powers -/
def PowW (W : World) : Prop := Lib.TabIs Tryz.prog W "internal/strconv.uint64pow10" .u64 Lib.pow10Tab
theorem powG14 : Tryz.prog.globalNamed "internal/strconv.uint64pow10" = some 1 := by kernel_rfl
theorem PowW.below {w W : World} (h : PowW w) (hb : Below w.heap.size w W) : PowW W := by
  have hlt : 1 < w.heap.size := by
    unfold PowW Lib.TabIs World.var? at h
    rw [powG14] at h
    simp only [Option.bind_some] at h
    split at h
    · rename_i cs t i hx
      exact (Array.getElem?_eq_some_iff.1 hx).1
    · cases h
  unfold PowW Lib.TabIs World.var? at h ⊢
  rw [powG14] at h ⊢
  simp only [Option.bind_some] at h ⊢
  rw [hb.block _ hlt]
  exact h
theorem itoaM (n : Int) (h0 : -9223372036854775808 ≤ n) (h1 : n ≤ 9223372036854775807) (w : World) (hp : PowW w) : Calls Tryz.prog 60 #[.int .i64 n] w fun e w' => e = .returned (.string (bs (Lib.itoa n))) ∧ Below w.heap.size w w' := by
  refine (Tryz.strconv_Itoa n h0 h1 w hp).mono ?_
  rintro e w' ⟨rfl, k, os, rfl⟩
  refine ⟨rfl, ?_⟩
  have key : Fr (fun _ => False) (w.drewN k) (Go.Sort.grow (w.drewN k) os) := ⟨rfl, rfl, rfl, by simp [Go.Sort.grow], fun j hj _ => by
    show (((w.drewN k).heap ++ os)[j]?) = _
    exact Array.getElem?_append_left hj⟩
  exact (((Fr.refl (fun _ => False) w).drewN k).trans key).below (Nat.le_refl _) fun _ _ h => h.elim
set_option maxRecDepth 100000 in
set_option maxHeartbeats 4000000 in
theorem digitsM (n : Nat) (h0 : 1 ≤ n) (h1 : n ≤ 999) (w : World) (hp : PowW w) :
    Calls Tryz.prog 99 #[.int .i64 n] w fun e w' => e = .returned (.string (bs (codeL n))) ∧ Below w.heap.size w w' := by
  have HI := Lib.hid (itoaM (1000 + (n : Int)) (by omega) (by omega) w hp)
  rw [itoa_code n h1] at HI
  have hw : wrap64 (1000 + (n : Int)) = 1000 + (n : Int) := by unfold wrap64; omega
  have hn1 : ¬ ((n : Int) < 1) := by omega
  have hn2 : ¬ ((999 : Int) < n) := by omega
  clear hp
  go_enter Tryz.func99, Tryz.ntmps99
  go_wp2_with fail
  refine HI.out.mono ?_
  rintro e w1 ⟨rfl, hb⟩
  have HB := Lib.hid hb
  clear hb
  go_wp2_with fail
  go_ret
  have e1 : (bs (49 :: codeL n)).extract 1 (bs (49 :: codeL n)).size = bs (codeL n) := ba_ext (by simp)
  exact ⟨congrArg Ending.returned (congrArg Value.string e1), HB.out⟩
end Go.Proofs.YtpbobonddocgkaaGreatDoor
end
section
/- Layer 14: Numeric. -/
namespace Go.Proofs.YtpbobonddocgkaaGreatDoor
open Go Go.RowKit

theorem d14_nat (n : Nat) : (d14 n).toNat = 48 + n % 10 := by simp [d14]; omega
theorem code_cmd (n : Nat) : cmdB (bs (codeL n)) = true := by
  have h1 : capsB (bs (codeL n)) = false := (allI_no (s := bs (codeL n)) (p := fun _ b => betw 65 90 b) (k := 0) (by simp [codeL]) (by
    show betw 65 90 (d14 (n / 100)) = false
    unfold betw
    rw [d14_nat]
    exact decide_eq_false fun h => by omega)).symm
  have h2 : digsB (bs (codeL n)) = true := allI_iff.2 fun i hi => by
    have h3 : i < 3 := by simpa [codeL] using hi
    obtain rfl | rfl | rfl : i = 0 ∨ i = 1 ∨ i = 2 := by omega
    · show betw 48 57 (d14 (n / 100)) = true
      unfold betw; rw [d14_nat]; exact decide_eq_true ⟨by omega, by omega⟩
    · show betw 48 57 (d14 (n / 10)) = true
      unfold betw; rw [d14_nat]; exact decide_eq_true ⟨by omega, by omega⟩
    · show betw 48 57 (d14 n) = true
      unfold betw; rw [d14_nat]; exact decide_eq_true ⟨by omega, by omega⟩
  unfold cmdB
  rw [h1, h2]
  simp [codeL]
/-- whom a numeric is told -/
def toL (whom : List UInt8) : List UInt8 := if whom = [] then [42] else whom
/-- the line of a numeric -/
def numL (server whom : List UInt8) (n : Nat) (ps : List (List UInt8)) : List UInt8 := makeL server (codeL n) (toL whom :: ps)
/-- the rows that are put together -/
theorem two_rows (w : World) (whom : List UInt8) (v : Value) (N : Nat) (hN : w.heap.size = N) :
    ((w.alloc (.cells #[.string (bs whom)] 9)).alloc (.cells #[.slice (some ⟨N, 0, none⟩) 1 1, v] 89)).cell? ⟨N + 1, 0, none⟩ = some (.slice (some ⟨N, 0, none⟩) 1 1) ∧
    ((w.alloc (.cells #[.string (bs whom)] 9)).alloc (.cells #[.slice (some ⟨N, 0, none⟩) 1 1, v] 89)).cell? ⟨N + 1, 1, none⟩ = some v ∧
    ((w.alloc (.cells #[.string (bs whom)] 9)).alloc (.cells #[.slice (some ⟨N, 0, none⟩) 1 1, v] 89)).cell? ⟨N, 0, none⟩ = some (.string (bs whom)) := by
  have h1 := heap_alloc_new (w.alloc (.cells #[.string (bs whom)] 9)) (.cells #[.slice (some ⟨N, 0, none⟩) 1 1, v] 89)
  rw [World.size_alloc, hN] at h1
  have h2 := blk_alloc (heap_alloc_new w (.cells #[.string (bs whom)] 9)) (.cells #[.slice (some ⟨N, 0, none⟩) 1 1, v] 89)
  rw [hN] at h2
  exact ⟨blk_cell h1 0, blk_cell h1 1, blk_cell h2 0⟩
theorem conc_rows (w1 : World) (whom : List UInt8) (A : Option Addr) (c : Nat) (ps : List (List UInt8)) (hR : ReadsT w1 A ps) (hl : ps.length ≤ 14) :
    Calls Tryz.prog 100 #[.slice (some ⟨w1.heap.size + 1, 0, none⟩) 2 2] ((w1.alloc (.cells #[.string (bs whom)] 9)).alloc (.cells #[.slice (some ⟨w1.heap.size, 0, none⟩) 1 1, .slice A ps.length c] 89)) fun e w' => ∃ A2 c2, e = .returned (.slice A2 (whom :: ps).length c2) ∧ ReadsT w' A2 (whom :: ps) ∧ Below w1.heap.size w1 w' := by
  obtain ⟨h1, h2, h3⟩ := two_rows w1 whom (.slice A ps.length c) w1.heap.size rfl
  obtain ⟨W, hW⟩ : ∃ W, ((w1.alloc (.cells #[.string (bs whom)] 9)).alloc (.cells #[.slice (some ⟨w1.heap.size, 0, none⟩) 1 1, .slice A ps.length c] 89)) = W := ⟨_, rfl⟩
  have hs : W.heap.size = w1.heap.size + 2 := by rw [← hW]; simp
  have hb : Below w1.heap.size w1 W := by rw [← hW]; exact ((Below.refl _ w1).alloc (Nat.le_refl _) _).alloc (by simp) _
  rw [hW] at h1 h2 h3 ⊢
  have hr1 : ReadsT W (some ⟨w1.heap.size, 0, none⟩) [whom] := fun _ => ⟨_, _, rfl, by omega, fun j hj => by
    obtain rfl : j = 0 := by simpa using hj
    exact h3⟩
  refine (concatM (w1.heap.size + 1) 2 (some ⟨w1.heap.size, 0, none⟩) A 1 c [whom] ps W h1 h2 hr1 (readsT_below hR hb (Nat.le_refl _)) (by simp only [List.length_cons, List.length_nil]; omega) (by simp; omega) (by omega)).mono ?_
  rintro e w' ⟨v, rfl, ho, hb2⟩
  obtain ⟨A2, c2, rfl⟩ := row_slice ho
  exact ⟨A2, c2, rfl, reads_ownT ho, hb.trans (hb2.mono (by omega))⟩
set_option maxRecDepth 100000 in
set_option maxHeartbeats 8000000 in
theorem numericM (server whom : List UInt8) (n : Nat) (A : Option Addr) (c : Nat) (ps : List (List UInt8)) (w : World) (hR : ReadsT w A ps) (hm : Mx w) (hp : PowW w) (h0 : 1 ≤ n) (h1 : n ≤ 999) (h2 : ps.length ≤ 14) (h3 : server.length ≤ 1000000) (h4 : whom.length ≤ 90000) (h5 : ∀ p ∈ ps, p.length ≤ 90000) :
    Calls Tryz.prog 78 #[.string (bs server), .int .i64 n, .string (bs whom), .slice A ps.length c] w fun e w' => e = .returned (.string (bs (numL server whom n ps))) ∧ Below w.heap.size w w' := by
  have HR := Lib.hid hR
  have HM := Lib.hid hm
  have HD := Lib.hid (digitsM n h0 h1 w hp)
  clear hR hm hp
  unfold numL
  cases whom with
  | nil =>
    have e0 : bs ([] : List UInt8) = ({ data := #[] } : ByteArray) := rfl
    rw [e0, show toL [] = [42] from rfl]
    clear e0
    go_enter Tryz.func78, Tryz.ntmps78
    go_wp2_with fail
    refine HD.out.mono ?_
    rintro e w1 ⟨rfl, hb1⟩
    have hs1 := hb1.size
    have HC := Lib.hid (conc_rows w1 ([42]) A c ps (readsT_below HR.out hb1 (Nat.le_refl _)) h2)
    have HB1 := Lib.hid hb1
    have HS1 := Lib.hid hs1
    clear hb1 hs1
    go_wp2_with fail
    refine HC.out.mono ?_
    rintro e w2 ⟨A2, c2, rfl, hr2, hb2⟩
    have HW := Lib.hid (HB1.out.trans (hb2.mono HS1.out))
    have HMK := Lib.hid (makeM server (codeL n) A2 c2 (([42]) :: ps) w2 hr2 (mx_kept HM.out HW.out (Nat.le_refl _)) (code_cmd n) h3 (by simp [codeL]) (by simp; omega) (by
      intro p hp
      rcases List.mem_cons.1 hp with rfl | hp
      · first | exact h4 | simp
      · exact h5 p hp))
    clear hr2 hb2 HC
    go_wp2_with fail
    refine HMK.out.mono ?_
    rintro e w3 ⟨rfl, hb3⟩
    have HB3 := Lib.hid hb3
    clear hb3
    go_wp2_with fail
    go_ret
    exact ⟨rfl, HW.out.trans (HB3.out.mono HW.out.size)⟩
  | cons b0 r0 =>
    have hemp := str_ne (s := bs (b0 :: r0)) (by simp)
    rw [show toL (b0 :: r0) = b0 :: r0 from rfl]
    go_enter Tryz.func78, Tryz.ntmps78
    go_wp2_with fail
    refine HD.out.mono ?_
    rintro e w1 ⟨rfl, hb1⟩
    have hs1 := hb1.size
    have HC := Lib.hid (conc_rows w1 (b0 :: r0) A c ps (readsT_below HR.out hb1 (Nat.le_refl _)) h2)
    have HB1 := Lib.hid hb1
    have HS1 := Lib.hid hs1
    clear hb1 hs1
    go_wp2_with fail
    refine HC.out.mono ?_
    rintro e w2 ⟨A2, c2, rfl, hr2, hb2⟩
    have HW := Lib.hid (HB1.out.trans (hb2.mono HS1.out))
    have HMK := Lib.hid (makeM server (codeL n) A2 c2 ((b0 :: r0) :: ps) w2 hr2 (mx_kept HM.out HW.out (Nat.le_refl _)) (code_cmd n) h3 (by simp [codeL]) (by simp; omega) (by
      intro p hp
      rcases List.mem_cons.1 hp with rfl | hp
      · first | exact h4 | simp
      · exact h5 p hp))
    clear hr2 hb2 HC
    go_wp2_with fail
    refine HMK.out.mono ?_
    rintro e w3 ⟨rfl, hb3⟩
    have HB3 := Lib.hid hb3
    clear hb3
    go_wp2_with fail
    go_ret
    exact ⟨rfl, HW.out.trans (HB3.out.mono HW.out.size)⟩
end Go.Proofs.YtpbobonddocgkaaGreatDoor
end
section
/- Layer 23: Tell, of one line for which there is room. -/
namespace Go.Proofs.YtpbobonddocgkaaGreatDoor
open Go Go.RowKit Go.Maps Go.Lib

/-- a connection for which one line more waits -/
def pushed (e : CE) (line : List UInt8) (ob : Option Nat) : CE := { e with ob := ob, s := { e.s with ws := e.s.ws ++ line ++ [13, 10] } }
theorem pushS_fit {s : QS} {l : List UInt8} (h1 : fitQ s l = true) (h2 : roomQ s l = true) : pushS s l = { s with ws := s.ws ++ l ++ [13, 10] } := by
  unfold pushS; rw [h1, h2]; rfl
theorem fit_open {s : QS} {l : List UInt8} (h1 : fitQ s l = true) : s.over = false := by
  unfold fitQ at h1
  simp only [Bool.and_eq_true, Bool.not_eq_true'] at h1
  exact h1.1.1
/-- a queue that takes a line -/
structure Takes (s : QS) (l : List UInt8) : Prop where
  fit : fitQ s l = true
  room : roomQ s l = true
  m0 : 0 ≤ s.most
  m1 : s.most ≤ 65536
  ws : s.ws.length ≤ 100000
  ll : l.length ≤ 1000000
section
variable {base : Nat} {w w' : World} {G : CoG} {C : Nat → CTag} {K : List (Int × CE)} {T : List (KeyB × Ent VI)} {n : Nat}
set_option maxRecDepth 100000 in
set_option maxHeartbeats 4000000 in
theorem tell_one (h : CoAt base G C K T n w) {id : Int} {e : CE} (hl : lookM K id = some e) {line : List UInt8} {A : Option Addr} {cc : Nat} (hR : ReadsT w A [line]) (ht : Takes e.s line) :
    Calls Tryz.prog 15 #[.pointer (some ⟨G.c, 0, none⟩), .int .i64 id, .slice A 1 cc] w fun r w' => r = .returned (.tuple #[]) ∧ ∃ ob, CoTo base G C (updM K id (pushed e line ob)) T n w w' := by
  obtain ⟨g, o, rfl, hg, hat⟩ := hR (by simp)
  have a0 : w.cell? ⟨g, o, none⟩ = some (.string (bs line)) := hat 0 (by simp)
  have HL := Lib.hid (live_some h hl)
  have c14 : w.cell? ⟨e.B, 14, none⟩ = some (.pointer (some ⟨e.q, 0, none⟩)) := h.cellC hl 14
  have hq := h.queue _ (lookM_memP hl)
  have HO := q_over hq
  rw [fit_open ht.fit] at HO
  have HO := Lib.hid HO
  have hpush := q_push hq h.base_le ht.m0 ht.m1 ht.ws (bs line) (by simpa using ht.ll)
  have hdl : (bs line).data.toList = line := by simp
  rw [hdl] at hpush
  have HP := Lib.hid hpush
  have H := Lib.hid (And.intro h (And.intro hl ht))
  clear hR hat hq h hl ht hpush hdl hg
  go_enter Tryz.func15, Tryz.ntmps15
  go_wp2_with fail
  refine HL.out.mono ?_
  rintro r w1 ⟨rfl, rfl⟩
  clear HL
  go_wp2_with fail
  go_loopw [16] (fun i wr => ∃ k : Nat, i = .int .i64 k ∧ k ≤ 1 ∧ Hid ((k = 0 → wr = w1) ∧ (k = 1 → ∃ ob, CoTo base G C (updM K id (pushed e line ob)) T n w1 wr))) (fun i _ => 1 - (RowKit.intOf i).toNat)
  case atStart => exact ⟨0, rfl, by omega, ⟨fun _ => rfl, fun e => by omega⟩⟩
  case round =>
    obtain ⟨k, rfl, hk, HI⟩ := hrel
    by_cases hk0 : k = 0
    · subst hk0
      obtain rfl := HI.out.1 rfl
      clear HI
      go_wp2_with fail
      refine HO.out.mono ?_
      rintro r w2 ⟨rfl, rfl⟩
      clear HO
      go_wp2_with fail
      refine HP.out.mono ?_
      rintro r w3 ⟨rfl, ob, hq3, ho3, hf3⟩
      clear HP
      obtain ⟨h, hl, ht⟩ := H.out
      rw [pushS_fit ht.fit ht.room] at hq3
      have hto := h.qTo hl hq3 ho3 hf3
      have d14 : w3.cell? ⟨e.B, 14, none⟩ = some (.pointer (some ⟨e.q, 0, none⟩)) := by
        obtain ⟨C1, hC, _⟩ := hto
        have hl2 := look_updM (e' := { e with ob := ob, s := { e.s with ws := e.s.ws ++ line ++ [13, 10] } }) hl id
        rw [if_pos rfl] at hl2
        exact hC.cellC hl2 14
      have HO2 := q_over hq3
      dsimp only at HO2
      rw [fit_open ht.fit] at HO2
      have HO2 := Lib.hid HO2
      have HT := Lib.hid hto
      clear h hl ht hq3 ho3 hf3 hto
      go_wp2_with fail
      refine HO2.out.mono ?_
      rintro r w4 ⟨rfl, rfl⟩
      clear HO2
      go_wp2_with fail
      go_roundw
      case rel => exact ⟨1, by go_num, by omega, ⟨fun e => by omega, fun _ => ⟨ob, HT.out⟩⟩⟩
      case measure => simp [RowKit.intOf]
    · obtain rfl : k = 1 := by omega
      have HF := Lib.hid (HI.out.2 rfl)
      clear HI HO HP
      go_wp2_with fail
      first | go_end0 | refine bodyPost_ret (results_none rfl _ _ _) rfl ?_
      exact ⟨rfl, HF.out⟩
end
end Go.Proofs.YtpbobonddocgkaaGreatDoor
end
