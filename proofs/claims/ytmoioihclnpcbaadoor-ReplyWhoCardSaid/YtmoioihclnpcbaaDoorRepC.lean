/- Layer 14: write: a message's text through a builder. -/
import Derived.Test.YtmoioihclnpcbaaDoorRepB
import Derived.Test.YtmoioihclnpcbaaDoorRowT
import Derived.Shelf.Strings.Builder1
import Derived.Shelf.Strings.OnBuilder
namespace Go.Proofs.YtmoioihclnpcbaaDoor
set_option linter.unusedVariables false
set_option linter.unusedSimpArgs false
open Go Go.RowKit

/-- what is written of a parameter -/
def piece (last : Bool) (p : List UInt8) : List UInt8 := 32 :: ((if last && needC p then [58] else []) ++ p)
/-- what is written of the first parameters -/
def accL (ps : List (List UInt8)) : Nat → List UInt8
  | 0 => []
  | k + 1 => accL ps k ++ piece (decide (k + 1 = ps.length)) (ps.getD k [])
theorem accL_cons (p q : List UInt8) (r : List (List UInt8)) : ∀ k, accL (p :: q :: r) (k + 1) = 32 :: p ++ accL (q :: r) k
  | 0 => by simp [accL, piece]
  | k + 1 => by
    rw [accL, accL_cons p q r k, accL]
    simp
theorem accL_all : ∀ ps : List (List UInt8), accL ps ps.length = tailL ps
  | [] => rfl
  | [p] => by simp [accL, piece, tailL]
  | p :: q :: r => by
    have := accL_all (q :: r)
    rw [show (p :: q :: r).length = (q :: r).length + 1 from rfl, accL_cons, this]
    rfl
theorem piece_len (last : Bool) (p : List UInt8) : (piece last p).length ≤ p.length + 2 := by
  unfold piece; split <;> simp <;> omega
theorem accL_len {ps : List (List UInt8)} (hp : ∀ p ∈ ps, p.length ≤ 100000) : ∀ k, (accL ps k).length ≤ k * 100002
  | 0 => Nat.le_refl _
  | k + 1 => by
    have h1 := accL_len hp k
    have h2 := piece_len (decide (k + 1 = ps.length)) (ps.getD k [])
    have h3 : (ps.getD k []).length ≤ 100000 := by
      by_cases h : k < ps.length
      · rw [List.getD_eq_getElem?_getD, List.getElem?_eq_getElem h]; exact hp _ (List.getElem_mem h)
      · rw [List.getD_eq_getElem?_getD, List.getElem?_eq_none (by omega)]; simp
    rw [accL, List.length_append]
    omega
theorem strCells_bs (l : List UInt8) : Lib.strCells (bs l) = Lib.byteCells l := by rw [Lib.strCells_eq, bs_toList]
/-- a text is written behind what a builder holds -/
def WrP (B b : Nat) (l x : List UInt8) (w : World) (e : Ending) (w' : World) : Prop :=
  (∃ v, e = .returned v) ∧ Lib.IsBuilder 45 5 B b (Lib.byteCells (l ++ x)) w' ∧ Below B w w'
theorem wrM (B b : Nat) (l x : List UInt8) (w : World) (h : Lib.IsBuilder 45 5 B b (Lib.byteCells l) w) (hl : l.length + x.length ≤ 100000000) (hB : B ≤ w.heap.size) :
    Calls Tryd.prog 23 #[.pointer (some ⟨b, 0, none⟩), .string (bs x)] w (WrP B b l x w) := by
  refine (Any.Builder_WriteString { Tryd.lays155 with } Tryd.Builder_Extra_155 B b (Lib.byteCells l) (bs x) w h (by rw [Lib.byteCells_length]; simp; omega) hB).mono ?_
  rintro e w' ⟨rfl, h1, h2⟩
  refine ⟨⟨_, rfl⟩, ?_, h2⟩
  rw [strCells_bs, ← Lib.byteCells_append] at h1
  exact .inr h1
/-- what write does -/
theorem bs_head3 (pre : List UInt8) : (({ data := #[58] } : ByteArray) ++ bs pre) ++ ({ data := #[32] } : ByteArray) = bs (58 :: (pre ++ [32])) := ba_ext (by simp)
set_option maxRecDepth 100000 in
set_option maxHeartbeats 16000000 in
theorem writeM (pre name : List UInt8) (A : Option Addr) (c : Nat) (ps : List (List UInt8)) (w : World) (hR : ReadsT w A ps) (h1 : pre.length ≤ 1000000) (h2 : name.length ≤ 1000000) (h3 : ps.length ≤ 100) (h4 : ∀ p ∈ ps, p.length ≤ 100000) :
    Calls Tryd.prog 17 #[.agg #[.slice none 0 0, .string (bs pre), .string (bs name), .slice A ps.length c]] w fun e w' => e = .returned (.string (bs (writeL pre name ps))) ∧ Below w.heap.size w w' := by
  have HR := Lib.hid hR
  clear hR
  obtain ⟨N0, hN0⟩ : ∃ n, w.heap.size = n := ⟨_, rfl⟩
  obtain ⟨N1, hN1⟩ : ∃ n, N0 + 1 = n := ⟨_, rfl⟩
  obtain ⟨W1, hW1⟩ : ∃ W, (w.alloc (.cells #[.slice none 0 0, .string (bs pre), .string (bs name), .slice A ps.length c] 37)).alloc (.cells #[.pointer none, .slice none 0 0] 45) = W := ⟨_, rfl⟩
  have hsz1 : (w.alloc (.cells #[.slice none 0 0, .string (bs pre), .string (bs name), .slice A ps.length c] 37)).heap.size = N1 := by rw [World.size_alloc, hN0, hN1]
  have hfr := Lib.fresh_isBuilder 45 5 (w.alloc (.cells #[.slice none 0 0, .string (bs pre), .string (bs name), .slice A ps.length c] 37))
  have hW1b : Below w.heap.size w W1 := by rw [← hW1]; exact ((Below.refl _ w).alloc (Nat.le_refl _) _).alloc (by simp) _
  have hS1 : N1 ≤ W1.heap.size := by rw [← hW1, World.size_alloc, hsz1]; omega
  have hbx : W1.heap[N0]? = some (.cells #[.slice none 0 0, .string (bs pre), .string (bs name), .slice A ps.length c] 37 (0, 0)) := by
    rw [← hW1]; exact blk_alloc (hN0 ▸ heap_alloc_new w _) _
  rw [hsz1, hW1] at hfr
  have HW1 := Lib.hid hW1b
  have HS := Lib.hid hS1
  have HX3 := Lib.hid (show W1.cell? ⟨N0, 3, none⟩ = some (.slice A ps.length c) from blk_cell hbx 3)
  have HX2 := Lib.hid (show W1.cell? ⟨N0, 2, none⟩ = some (.string (bs name)) from blk_cell hbx 2)
  have HF := Lib.hid hfr
  have HE1 := Lib.hid hW1
  have HN1 := Lib.hid hN1
  clear hW1b hS1 hbx hfr hsz1 hW1
  have HN := Lib.hid (fun (l : List UInt8) (h : l.length ≤ 1000000) W => needM l W h)
  cases pre with
  | nil =>
    have e0 : bs ([] : List UInt8) = ({ data := #[] } : ByteArray) := rfl
    rw [e0] at HE1 ⊢
    clear e0
    have HW := Lib.hid (wrM N1 N1 [] name W1 HF.out (by simp; omega) HS.out)
    obtain ⟨H0, hH0⟩ : ∃ h : List UInt8, [] = h := ⟨_, rfl⟩
    have hH1 : H0.length ≤ 1000010 := by rw [← hH0]; simp
    have HH0 := Lib.hid hH0
    clear hN1 hH0
    go_enter Tryd.func17, Tryd.ntmps17
    go_wp2_with fail
    rw [HN1.out, HE1.out]
    have hN1 := HN1.out
    refine HW.out.mono ?_
    rintro e w1 ⟨⟨v1, rfl⟩, hb1, hB1⟩
    have hx3 : w1.cell? ⟨N0, 3, none⟩ = some (.slice A ps.length c) := (hB1.cell (p := ⟨N0, 3, none⟩) (by show N0 < N1; omega)).trans HX3.out
    rw [List.nil_append, ← List.nil_append name, HH0.out] at hb1
    have Hb0 := Lib.hid hb1
    have HB0 := Lib.hid hB1
    clear hb1 hB1
    go_wp2_with fail
    have hW0 := Hb0.out
    have hS0 := HB0.out
    go_loopw [30] (fun i wr => ∃ k : Nat, k ≤ ps.length ∧ i = .int .i64 k ∧ Lib.IsBuilder 45 5 N1 N1 (Lib.byteCells (H0 ++ name ++ accL ps k)) wr ∧ Below N1 W1 wr) (fun i _ => ps.length - (RowKit.intOf i).toNat)
    case atStart => exact ⟨0, Nat.zero_le _, rfl, by rw [show accL ps 0 = [] from rfl, List.append_nil]; exact hW0, hS0⟩
    case round =>
      obtain ⟨k, hk, rfl, hb, hB⟩ := hrel
      clear hW0 hS0
      have Hb := Lib.hid hb
      have HB := Lib.hid hB
      clear hb hB
      have hacc := accL_len h4 k
      have hN1' : N1 ≤ wr.heap.size := Nat.le_trans HS.out HB.out.size
      have HL := Lib.hid (And.intro hacc hN1')
      clear hacc hN1'
      by_cases hlt : k < ps.length
      · obtain ⟨g, o, hA, hg, hc⟩ := HR.out (by omega)
        have hck := hc k hlt
        have hcell : wr.cell? ⟨g, o + k, none⟩ = some (.string (bs ps[k])) := (HB.out.cell (p := ⟨g, o + k, none⟩) (by show g < N1; omega)).trans ((HW1.out.cell (p := ⟨g, o + k, none⟩) hg).trans hck)
        have hbox : wr.cell? ⟨N0, 3, none⟩ = some (.slice (some ⟨g, o, none⟩) ps.length c) := by
          rw [← hA]; exact (HB.out.cell (p := ⟨N0, 3, none⟩) (by show N0 < N1; omega)).trans HX3.out
        have HG := Lib.hid hg
        have hpk := h4 ps[k] (List.getElem_mem hlt)
        have hget : ps.getD k [] = ps[k] := by rw [List.getD_eq_getElem?_getD, List.getElem?_eq_getElem hlt]; rfl
        obtain ⟨p, hp⟩ : ∃ p, ps[k] = p := ⟨_, rfl⟩
        rw [hp] at hcell hpk hget
        have H1 := Lib.hid (wrM N1 N1 (H0 ++ name ++ accL ps k) [32] wr Hb.out (by have := HL.out.1; simp only [List.length_append, List.length_cons, List.length_nil]; omega) HL.out.2)
        have HG2 := Lib.hid (And.intro hget hpk)
        clear hc hck hget hp hpk hg
        subst hA
        have HNp := Lib.hid (fun W => needM p W (by have := HG2.out.2; omega))
        by_cases hlast : (k : Int) = ps.length - 1
        · have hlast2 : (((k : Int)) == (ps.length : Int) - 1) = true := by rw [beq_iff_eq]; exact hlast
          have HLA := Lib.hid hlast
          clear hlast
          cases hnc : needC p
          · go_wp2_with fail
            refine H1.out.mono ?_
            rintro e w1 ⟨⟨v1, rfl⟩, hb1, hB1⟩
            have Hb1 := Lib.hid hb1
            have HB1 := Lib.hid (HB.out.trans hB1)
            have hbox1 : w1.cell? ⟨N0, 3, none⟩ = some (.slice (some ⟨g, o, none⟩) ps.length c) := (hB1.cell (p := ⟨N0, 3, none⟩) (by show N0 < N1; omega)).trans hbox
            clear hb1 hB1
            go_wp2_with (first | (go_at_call 25; refine (HNp.out _).mono ?_; rintro e w' ⟨rfl, rfl⟩; rw [hnc]) | fail)
            have H4 := Lib.hid (wrM N1 N1 _ p _ Hb1.out (by have := HL.out.1; have := HG2.out.2; simp only [List.length_append, List.length_cons, List.length_nil]; omega) (Nat.le_trans HS.out HB1.out.size))
            refine H4.out.mono ?_
            rintro e w3 ⟨⟨v3, rfl⟩, hb3, hB3⟩
            have Hb3 := Lib.hid hb3
            have HB3 := Lib.hid (HB1.out.trans hB3)
            clear hb3 hB3 Hb1 HB1
            go_wp2_with fail
            have hpc : piece true p = 32 :: p := by unfold piece; rw [hnc]; rfl
            refine ⟨⟨k + 1, by omega, by push_cast; rfl, ?_, HB3.out⟩, by simp only [RowKit.intOf]; omega⟩
            have h5 := Hb3.out
            have hd : decide (k + 1 = ps.length) = true := by have := HLA.out; simp; omega
            rw [accL, HG2.out.1, hd, hpc]
            simpa only [List.append_assoc, List.cons_append, List.nil_append] using h5
          · go_wp2_with fail
            refine H1.out.mono ?_
            rintro e w1 ⟨⟨v1, rfl⟩, hb1, hB1⟩
            have Hb1 := Lib.hid hb1
            have HB1 := Lib.hid (HB.out.trans hB1)
            have hbox1 : w1.cell? ⟨N0, 3, none⟩ = some (.slice (some ⟨g, o, none⟩) ps.length c) := (hB1.cell (p := ⟨N0, 3, none⟩) (by show N0 < N1; omega)).trans hbox
            clear hb1 hB1
            go_wp2_with (first | (go_at_call 25; refine (HNp.out _).mono ?_; rintro e w' ⟨rfl, rfl⟩; rw [hnc]) | fail)
            have H3 := Lib.hid (wrM N1 N1 (H0 ++ name ++ accL ps k ++ [32]) [58] _ Hb1.out (by have := HL.out.1; simp only [List.length_append, List.length_cons, List.length_nil]; omega) (Nat.le_trans HS.out HB1.out.size))
            refine H3.out.mono ?_
            rintro e w2 ⟨⟨v2, rfl⟩, hb2, hB2⟩
            have Hb2 := Lib.hid hb2
            have HB2 := Lib.hid (HB1.out.trans hB2)
            clear hb2 hB2 Hb1 HB1 hbox1
            have Hb1 := Hb2
            have HB1 := HB2
            clear Hb2 HB2
            go_wp2_with fail
            have H4 := Lib.hid (wrM N1 N1 _ p _ Hb1.out (by have := HL.out.1; have := HG2.out.2; simp only [List.length_append, List.length_cons, List.length_nil]; omega) (Nat.le_trans HS.out HB1.out.size))
            refine H4.out.mono ?_
            rintro e w3 ⟨⟨v3, rfl⟩, hb3, hB3⟩
            have Hb3 := Lib.hid hb3
            have HB3 := Lib.hid (HB1.out.trans hB3)
            clear hb3 hB3 Hb1 HB1
            go_wp2_with fail
            have hpc : piece true p = 32 :: 58 :: p := by unfold piece; rw [hnc]; rfl
            refine ⟨⟨k + 1, by omega, by push_cast; rfl, ?_, HB3.out⟩, by simp only [RowKit.intOf]; omega⟩
            have h5 := Hb3.out
            have hd : decide (k + 1 = ps.length) = true := by have := HLA.out; simp; omega
            rw [accL, HG2.out.1, hd, hpc]
            simpa only [List.append_assoc, List.cons_append, List.nil_append] using h5
        · have hlast2 : (((k : Int)) == (ps.length : Int) - 1) = false := by rw [beq_eq_false_iff_ne]; exact hlast
          have HLA := Lib.hid hlast
          clear hlast
          go_wp2_with fail
          refine H1.out.mono ?_
          rintro e w1 ⟨⟨v1, rfl⟩, hb1, hB1⟩
          have Hb1 := Lib.hid hb1
          have HB1 := Lib.hid (HB.out.trans hB1)
          have hbox1 : w1.cell? ⟨N0, 3, none⟩ = some (.slice (some ⟨g, o, none⟩) ps.length c) := (hB1.cell (p := ⟨N0, 3, none⟩) (by show N0 < N1; omega)).trans hbox
          clear hb1 hB1
          go_wp2_with fail
          have H4 := Lib.hid (wrM N1 N1 _ p _ Hb1.out (by have := HL.out.1; have := HG2.out.2; simp only [List.length_append, List.length_cons, List.length_nil]; omega) (Nat.le_trans HS.out HB1.out.size))
          refine H4.out.mono ?_
          rintro e w3 ⟨⟨v3, rfl⟩, hb3, hB3⟩
          have Hb3 := Lib.hid hb3
          have HB3 := Lib.hid (HB1.out.trans hB3)
          clear hb3 hB3 Hb1 HB1
          go_wp2_with fail
          have hpc : piece false p = 32 :: p := by unfold piece; rfl
          refine ⟨⟨k + 1, by omega, by push_cast; rfl, ?_, HB3.out⟩, by simp only [RowKit.intOf]; omega⟩
          have h5 := Hb3.out
          have hd : decide (k + 1 = ps.length) = false := by have := HLA.out; simp; omega
          rw [accL, HG2.out.1, hd, hpc]
          simpa only [List.append_assoc, List.cons_append, List.nil_append] using h5
      · obtain rfl : k = ps.length := by omega
        have HD := Lib.hid (Tryd.Builder_String_any N1 N1 (H0 ++ name ++ accL ps ps.length) wr Hb.out HL.out.2)
        go_wp2_with fail
        refine HD.out.mono ?_
        rintro e w2 ⟨rfl, hb2⟩
        go_wp2_with fail
        go_ret
        refine ⟨?_, ?_⟩
        · have e : H0 ++ name ++ accL ps ps.length = writeL [] name ps := by rw [accL_all, ← HH0.out]; rfl
          rw [← e, List.append_assoc]; rfl
        · exact HW1.out.trans ((HB.out.trans hb2).mono (by rw [hN0]; omega))
  | cons b0 r0 =>
    have hemp := str_ne (s := bs (b0 :: r0)) (by simp)
    have hg1 : ¬ 9223372036854775807 < 1 + (r0.length + 1) := by simp only [List.length_cons] at h1; omega
    have hg2 : ¬ 9223372036854775807 < 1 + (r0.length + 1) + 1 := by simp only [List.length_cons] at h1; omega
    have HW := Lib.hid (fun (l x : List UInt8) W h h2 h3 => wrM N1 N1 l x W h h2 h3)
    clear hN1
    go_enter Tryd.func17, Tryd.ntmps17
    go_wp2_with fail
    rw [bs_head3, HN1.out, HE1.out]
    have hN1 := HN1.out
    refine (HW.out [] (58 :: ((b0 :: r0) ++ [32])) W1 HF.out (by simp only [List.length_append, List.length_cons, List.length_nil] at *; omega) HS.out).mono ?_
    rintro e w0 ⟨⟨v0, rfl⟩, hb0, hB0⟩
    obtain ⟨H0, hH0⟩ : ∃ h : List UInt8, 58 :: ((b0 :: r0) ++ [32]) = h := ⟨_, rfl⟩
    have hH1 : H0.length ≤ 1000010 := by rw [← hH0]; simp only [List.length_append, List.length_cons, List.length_nil] at *; omega
    rw [List.nil_append, hH0] at hb0
    have hx2 : w0.cell? ⟨N0, 2, none⟩ = some (.string (bs name)) := (hB0.cell (p := ⟨N0, 2, none⟩) (by show N0 < N1; omega)).trans HX2.out
    have Hb' := Lib.hid hb0
    have HB' := Lib.hid hB0
    have HH0 := Lib.hid hH0
    clear hb0 hB0 hH0 hN1
    go_wp2_with fail
    have hN1 := HN1.out
    refine (HW.out H0 name w0 Hb'.out (by omega) (Nat.le_trans HS.out HB'.out.size)).mono ?_
    rintro e w1 ⟨⟨v1, rfl⟩, hb1, hB1⟩
    have hx3 : w1.cell? ⟨N0, 3, none⟩ = some (.slice A ps.length c) := ((HB'.out.trans hB1).cell (p := ⟨N0, 3, none⟩) (by show N0 < N1; omega)).trans HX3.out
    have Hb0 := Lib.hid hb1
    have HB0 := Lib.hid (HB'.out.trans hB1)
    clear hb1 hB1
    go_wp2_with fail
    have hW0 := Hb0.out
    have hS0 := HB0.out
    go_loopw [30] (fun i wr => ∃ k : Nat, k ≤ ps.length ∧ i = .int .i64 k ∧ Lib.IsBuilder 45 5 N1 N1 (Lib.byteCells (H0 ++ name ++ accL ps k)) wr ∧ Below N1 W1 wr) (fun i _ => ps.length - (RowKit.intOf i).toNat)
    case atStart => exact ⟨0, Nat.zero_le _, rfl, by rw [show accL ps 0 = [] from rfl, List.append_nil]; exact hW0, hS0⟩
    case round =>
      obtain ⟨k, hk, rfl, hb, hB⟩ := hrel
      clear hW0 hS0
      have Hb := Lib.hid hb
      have HB := Lib.hid hB
      clear hb hB
      have hacc := accL_len h4 k
      have hN1' : N1 ≤ wr.heap.size := Nat.le_trans HS.out HB.out.size
      have HL := Lib.hid (And.intro hacc hN1')
      clear hacc hN1'
      by_cases hlt : k < ps.length
      · obtain ⟨g, o, hA, hg, hc⟩ := HR.out (by omega)
        have hck := hc k hlt
        have hcell : wr.cell? ⟨g, o + k, none⟩ = some (.string (bs ps[k])) := (HB.out.cell (p := ⟨g, o + k, none⟩) (by show g < N1; omega)).trans ((HW1.out.cell (p := ⟨g, o + k, none⟩) hg).trans hck)
        have hbox : wr.cell? ⟨N0, 3, none⟩ = some (.slice (some ⟨g, o, none⟩) ps.length c) := by
          rw [← hA]; exact (HB.out.cell (p := ⟨N0, 3, none⟩) (by show N0 < N1; omega)).trans HX3.out
        have HG := Lib.hid hg
        have hpk := h4 ps[k] (List.getElem_mem hlt)
        have hget : ps.getD k [] = ps[k] := by rw [List.getD_eq_getElem?_getD, List.getElem?_eq_getElem hlt]; rfl
        obtain ⟨p, hp⟩ : ∃ p, ps[k] = p := ⟨_, rfl⟩
        rw [hp] at hcell hpk hget
        have H1 := Lib.hid (wrM N1 N1 (H0 ++ name ++ accL ps k) [32] wr Hb.out (by have := HL.out.1; simp only [List.length_append, List.length_cons, List.length_nil]; omega) HL.out.2)
        have HG2 := Lib.hid (And.intro hget hpk)
        clear hc hck hget hp hpk hg
        subst hA
        have HNp := Lib.hid (fun W => needM p W (by have := HG2.out.2; omega))
        by_cases hlast : (k : Int) = ps.length - 1
        · have hlast2 : (((k : Int)) == (ps.length : Int) - 1) = true := by rw [beq_iff_eq]; exact hlast
          have HLA := Lib.hid hlast
          clear hlast
          cases hnc : needC p
          · go_wp2_with fail
            refine H1.out.mono ?_
            rintro e w1 ⟨⟨v1, rfl⟩, hb1, hB1⟩
            have Hb1 := Lib.hid hb1
            have HB1 := Lib.hid (HB.out.trans hB1)
            have hbox1 : w1.cell? ⟨N0, 3, none⟩ = some (.slice (some ⟨g, o, none⟩) ps.length c) := (hB1.cell (p := ⟨N0, 3, none⟩) (by show N0 < N1; omega)).trans hbox
            clear hb1 hB1
            go_wp2_with (first | (go_at_call 25; refine (HNp.out _).mono ?_; rintro e w' ⟨rfl, rfl⟩; rw [hnc]) | fail)
            have H4 := Lib.hid (wrM N1 N1 _ p _ Hb1.out (by have := HL.out.1; have := HG2.out.2; simp only [List.length_append, List.length_cons, List.length_nil]; omega) (Nat.le_trans HS.out HB1.out.size))
            refine H4.out.mono ?_
            rintro e w3 ⟨⟨v3, rfl⟩, hb3, hB3⟩
            have Hb3 := Lib.hid hb3
            have HB3 := Lib.hid (HB1.out.trans hB3)
            clear hb3 hB3 Hb1 HB1
            go_wp2_with fail
            have hpc : piece true p = 32 :: p := by unfold piece; rw [hnc]; rfl
            refine ⟨⟨k + 1, by omega, by push_cast; rfl, ?_, HB3.out⟩, by simp only [RowKit.intOf]; omega⟩
            have h5 := Hb3.out
            have hd : decide (k + 1 = ps.length) = true := by have := HLA.out; simp; omega
            rw [accL, HG2.out.1, hd, hpc]
            simpa only [List.append_assoc, List.cons_append, List.nil_append] using h5
          · go_wp2_with fail
            refine H1.out.mono ?_
            rintro e w1 ⟨⟨v1, rfl⟩, hb1, hB1⟩
            have Hb1 := Lib.hid hb1
            have HB1 := Lib.hid (HB.out.trans hB1)
            have hbox1 : w1.cell? ⟨N0, 3, none⟩ = some (.slice (some ⟨g, o, none⟩) ps.length c) := (hB1.cell (p := ⟨N0, 3, none⟩) (by show N0 < N1; omega)).trans hbox
            clear hb1 hB1
            go_wp2_with (first | (go_at_call 25; refine (HNp.out _).mono ?_; rintro e w' ⟨rfl, rfl⟩; rw [hnc]) | fail)
            have H3 := Lib.hid (wrM N1 N1 (H0 ++ name ++ accL ps k ++ [32]) [58] _ Hb1.out (by have := HL.out.1; simp only [List.length_append, List.length_cons, List.length_nil]; omega) (Nat.le_trans HS.out HB1.out.size))
            refine H3.out.mono ?_
            rintro e w2 ⟨⟨v2, rfl⟩, hb2, hB2⟩
            have Hb2 := Lib.hid hb2
            have HB2 := Lib.hid (HB1.out.trans hB2)
            clear hb2 hB2 Hb1 HB1 hbox1
            have Hb1 := Hb2
            have HB1 := HB2
            clear Hb2 HB2
            go_wp2_with fail
            have H4 := Lib.hid (wrM N1 N1 _ p _ Hb1.out (by have := HL.out.1; have := HG2.out.2; simp only [List.length_append, List.length_cons, List.length_nil]; omega) (Nat.le_trans HS.out HB1.out.size))
            refine H4.out.mono ?_
            rintro e w3 ⟨⟨v3, rfl⟩, hb3, hB3⟩
            have Hb3 := Lib.hid hb3
            have HB3 := Lib.hid (HB1.out.trans hB3)
            clear hb3 hB3 Hb1 HB1
            go_wp2_with fail
            have hpc : piece true p = 32 :: 58 :: p := by unfold piece; rw [hnc]; rfl
            refine ⟨⟨k + 1, by omega, by push_cast; rfl, ?_, HB3.out⟩, by simp only [RowKit.intOf]; omega⟩
            have h5 := Hb3.out
            have hd : decide (k + 1 = ps.length) = true := by have := HLA.out; simp; omega
            rw [accL, HG2.out.1, hd, hpc]
            simpa only [List.append_assoc, List.cons_append, List.nil_append] using h5
        · have hlast2 : (((k : Int)) == (ps.length : Int) - 1) = false := by rw [beq_eq_false_iff_ne]; exact hlast
          have HLA := Lib.hid hlast
          clear hlast
          go_wp2_with fail
          refine H1.out.mono ?_
          rintro e w1 ⟨⟨v1, rfl⟩, hb1, hB1⟩
          have Hb1 := Lib.hid hb1
          have HB1 := Lib.hid (HB.out.trans hB1)
          have hbox1 : w1.cell? ⟨N0, 3, none⟩ = some (.slice (some ⟨g, o, none⟩) ps.length c) := (hB1.cell (p := ⟨N0, 3, none⟩) (by show N0 < N1; omega)).trans hbox
          clear hb1 hB1
          go_wp2_with fail
          have H4 := Lib.hid (wrM N1 N1 _ p _ Hb1.out (by have := HL.out.1; have := HG2.out.2; simp only [List.length_append, List.length_cons, List.length_nil]; omega) (Nat.le_trans HS.out HB1.out.size))
          refine H4.out.mono ?_
          rintro e w3 ⟨⟨v3, rfl⟩, hb3, hB3⟩
          have Hb3 := Lib.hid hb3
          have HB3 := Lib.hid (HB1.out.trans hB3)
          clear hb3 hB3 Hb1 HB1
          go_wp2_with fail
          have hpc : piece false p = 32 :: p := by unfold piece; rfl
          refine ⟨⟨k + 1, by omega, by push_cast; rfl, ?_, HB3.out⟩, by simp only [RowKit.intOf]; omega⟩
          have h5 := Hb3.out
          have hd : decide (k + 1 = ps.length) = false := by have := HLA.out; simp; omega
          rw [accL, HG2.out.1, hd, hpc]
          simpa only [List.append_assoc, List.cons_append, List.nil_append] using h5
      · obtain rfl : k = ps.length := by omega
        have HD := Lib.hid (Tryd.Builder_String_any N1 N1 (H0 ++ name ++ accL ps ps.length) wr Hb.out HL.out.2)
        go_wp2_with fail
        refine HD.out.mono ?_
        rintro e w2 ⟨rfl, hb2⟩
        go_wp2_with fail
        go_ret
        refine ⟨?_, ?_⟩
        · have e : H0 ++ name ++ accL ps ps.length = writeL (b0 :: r0) name ps := by rw [accL_all, ← HH0.out]; rfl
          rw [← e, List.append_assoc]; rfl
        · exact HW1.out.trans ((HB.out.trans hb2).mono (by rw [hN0]; omega))
end Go.Proofs.YtmoioihclnpcbaaDoor
