/- Texts of this proof, one behind the other. -/
import Derived.Test.YtlkeomcillencaaGreatRoomsPlayG22
import Derived.Deep.CutRange
import Derived.Deep.CutBlock
import Derived.OpenShut
set_option linter.unusedVariables false
set_option linter.unusedSimpArgs false
section
/- Layer 20: RoomsPlay. -/
namespace Go.Proofs.YtlkeomcillencaaGreat
open Go Go.RowKit Go.Maps Go.Sort Go.Shelf Go.Lib

set_option maxRecDepth 100000 in
set_option maxHeartbeats 32000000 in
theorem roomsPlay_main (mo jo : Int) (A : Option Addr) (l : List zraT) (cc : Nat) (w : World) (hA : ActRs w A l) :
    Calls Tryz.prog 3 #[.int .i64 mo, .int .i64 jo, .slice A l.length cc] w fun e w' => e = .returned (.bool true) ∧ RowKit.Below w.heap.size w w' := by
  have HA := Lib.hid hA
  clear hA
  go_enter Tryz.func3, Tryz.ntmps3
  go_wp2_with fail
  refine (awake20 w).mono ?_
  rintro e w1 ⟨rfl, b1⟩
  have H1 := Lib.hid b1
  clear b1
  go_wp2_with fail
  refine (great20 HA.out w1 H1.out).mono ?_
  rintro e w1 ⟨rfl, rfl⟩
  obtain ⟨gr, hgr⟩ : ∃ gr, greatRs l = gr := ⟨_, rfl⟩
  rw [hgr]
  have HGR := Lib.hid hgr
  clear hgr
  cases gr with
  | true =>
    go_wp2_with fail
    go_ret
    exact ⟨rfl, H1.out⟩
  | false =>
  by_cases g1 : mo < 0
  · go_wp2_with fail
    go_ret
    exact ⟨rfl, H1.out⟩
  by_cases g2 : jo < 0
  · go_wp2_with fail
    go_ret
    exact ⟨rfl, H1.out⟩
  by_cases g3 : mo > 1000
  · go_wp2_with fail
    go_ret
    exact ⟨rfl, H1.out⟩
  by_cases g4 : jo > 1000
  · go_wp2_with fail
    go_ret
    exact ⟨rfl, H1.out⟩
  have hlim := greatRs_no HGR.out
  have HN := Lib.hid (new_on (mr := mo) (mj := jo) ⟨by omega, by omega⟩ ⟨by omega, by omega⟩ 3 w1)
  unfold cfgV at HN
  have HLim := Lib.hid hlim
  have hl40 := hlim.1
  clear hlim
  go_wp2_with fail
  refine HN.out.mono ?_
  rintro e w2 ⟨R, rfl, h2⟩
  obtain ⟨P, hP⟩ : ∃ P, w2.heap.size = P := ⟨_, rfl⟩
  obtain ⟨w3, hw3⟩ : ∃ w3, w2.alloc (rdO mo jo 3 (.slice none 0 0)) = w3 := ⟨_, rfl⟩
  have G0 : Hid (∃ A2 Xs, Two20 0 0 w1.heap.size mo jo 3 R P A2 Xs w1 w3 ∧ RelL A2 Xs) := Lib.hid ⟨[], [], by rw [← hw3, ← hP]; exact two_new h2 rfl h2.up.size, trivial⟩
  have HW := Lib.hid (And.intro hP hw3)
  unfold rdO at HW
  clear h2 HN hP hw3 g1 g2 g3 g4
  go_wp2_with fail
  rw [HW.out.1]
  rw [HW.out.2]
  clear HW
  go_loopw [9, 10, 11, 12, 13, 14, 15, 16, 17] (fun ti _ _ _ _ _ _ _ _ wr => ∃ i : Nat, ti = .int .i64 i ∧ i ≤ l.length ∧ Hid (∃ A2 Xs, Two20 i i w1.heap.size mo jo 3 R P A2 Xs w1 wr ∧ RelL A2 Xs)) (fun ti _ _ _ _ _ _ _ _ _ => l.length - (RowKit.intOf ti).toNat)
  case atStart => exact ⟨0, rfl, Nat.zero_le _, G0⟩
  case round =>
    obtain ⟨i, rfl, hi, HB⟩ := hrel
    clear G0
    have HG : Hid ((∃ A2 Xs, Two20 i i w1.heap.size mo jo 3 R P A2 Xs w1 wr ∧ RelL A2 Xs) ∧ RowKit.Below w.heap.size w wr) := Lib.hid ⟨HB.out, by
      obtain ⟨A2, Xs, h, _⟩ := HB.out
      exact H1.out.trans (h.up.mono H1.out.size)⟩
    clear HB
    by_cases hlt : i < l.length
    · obtain ⟨ga, o, rfl, hat⟩ := actRs_at HA.out (by omega)
      obtain ⟨s0, hs0⟩ : ∃ s0, l[i].1 = s0 := ⟨_, rfl⟩
      obtain ⟨s1, hs1⟩ : ∃ s1, l[i].2.1 = s1 := ⟨_, rfl⟩
      obtain ⟨s2, hs2⟩ : ∃ s2, l[i].2.2 = s2 := ⟨_, rfl⟩
      obtain ⟨cK, cI, cN⟩ := hat wr HG.out.2 i hlt
      rw [hs0] at cK; rw [hs1] at cI; rw [hs2] at cN
      have hok : OkKIS s1 := by rw [← hs1]; exact (HA.out.1 _ (List.getElem_mem hlt)).2.1
      have hnm : s2.data.toList.length ≤ 1000 := by have := HLim.out.2 _ (List.getElem_mem hlt); rw [hs2] at this; rw [Array.length_toList]; show s2.size ≤ 1000; omega
      have n1 : (i : Int) < (l.length : Int) := by omega
      have n2 : decide ((i : Int) < (l.length : Int)) = true := by simp; omega
      have n3 : ¬ (l.length : Int) ≤ (i : Int) := by omega
      have HOK := Lib.hid (And.intro hok hnm)
      obtain ⟨A2, Xs, htw, hre⟩ := HG.out.1
      obtain ⟨Ba, hBa⟩ : ∃ Ba, wr.heap.size = Ba := ⟨_, rfl⟩
      obtain ⟨w4, hw4⟩ : ∃ w4, wr.alloc (.cells #[.int .i64 s0, .int .i64 s1, .string s2] 34) = w4 := ⟨_, rfl⟩
      have HT1 := Lib.hid (htw.boxed (.cells #[.int .i64 s0, .int .i64 s1, .string s2] 34 (0, 0)))
      rw [hBa, hw4] at HT1
      have HW4 := Lib.hid (And.intro hw4 hBa)
      have HRE := Lib.hid hre
      have k0 := blk_cell HT1.out.box 0
      have HSB : Hid (w4.drew.cell? ⟨Ba, 1, none⟩ = some (.int .i64 s1) ∧ w4.drew.cell? ⟨Ba, 2, none⟩ = some (.string s2)) := Lib.hid ⟨blk_cell HT1.out.box 1, blk_cell HT1.out.box 2⟩
      clear hat hok hnm hs1 hs2 hs0 htw hre hBa hw4
      go_upto_block 2 with fail
      rw [HW4.out.1]
      rw [HW4.out.2]
      clear HW4 cK cI cN
      go_cut [11, 12, 13, 14] from 46 to 182 (fun _ _ _ _ wc => Hid (∃ A2 Xs, TwoF NoF Ba (.cells #[.int .i64 s0, .int .i64 s1, .string s2] 34 (0, 0)) (i + 1) (i + 1) w1.heap.size mo jo 3 R P A2 Xs w1 wc ∧ RelL A2 Xs))
      case first =>
        have HI := Lib.hid (show i ≤ 40 by omega)
        by_cases hk1 : s0 = 1
        · subst hk1
          go_wp2_with fail
          refine wp_region_held_drew (S := fun W => W.cell? ⟨Ba, 1, none⟩ = some (.int .i64 s1) ∧ W.cell? ⟨Ba, 2, none⟩ = some (.string s2)) (by kernel_rfl) (by exact HSB.out) (fun hHeld => ?_)
          refine wpAnyH_read (i := 0) (oi := { dst := some 95, op := Go.Op.move (Go.Operand.tmp 7), type := 25, pos := "law.go:97", after := #[], guard := none }) ?_ rfl (by kernel_rfl) (by kernel_rfl) (by kernel_rfl) (fun _ _ _ h => h) (by rfl) (by assumption) ?_ ?_
          rotate_left
          · (intro w0 hS0; go_simp <;> (try with_reducible rfl))
          try simp only [Act.put, List.setIfInBounds_toArray, List.set_cons_zero, List.set_cons_succ]
          refine wpAnyH_read (i := 1) (oi := { dst := some 96, op := Go.Op.fieldAddr 34 (Go.Operand.tmp 10) 1, type := 0, pos := "law.go:97", after := #[], guard := none }) ?_ rfl (by kernel_rfl) (by kernel_rfl) (by kernel_rfl) (fun _ _ _ h => h) (by rfl) (by assumption) ?_ ?_
          rotate_left
          · (intro w0 hS0; go_simp <;> (try with_reducible rfl))
          try simp only [Act.put, List.setIfInBounds_toArray, List.set_cons_zero, List.set_cons_succ]
          refine wpAnyH_read (i := 3) (oi := { dst := some 98, op := Go.Op.fieldAddr 34 (Go.Operand.tmp 10) 2, type := 0, pos := "law.go:97", after := #[], guard := none }) ?_ rfl (by kernel_rfl) (by kernel_rfl) (by kernel_rfl) (fun _ _ _ h => h) (by rfl) (by assumption) ?_ ?_
          rotate_left
          · (intro w0 hS0; go_simp <;> (try with_reducible rfl))
          try simp only [Act.put, List.setIfInBounds_toArray, List.set_cons_zero, List.set_cons_succ]
          refine wpAnyH_read (i := 6) (oi := { dst := some 101, op := Go.Op.move (Go.Operand.tmp 8), type := 29, pos := "law.go:97", after := #[], guard := none }) ?_ rfl (by kernel_rfl) (by kernel_rfl) (by kernel_rfl) (fun _ _ _ h => h) (by rfl) (by assumption) ?_ ?_
          rotate_left
          · (intro w0 hS0; go_simp <;> (try with_reducible rfl))
          try simp only [Act.put, List.setIfInBounds_toArray, List.set_cons_zero, List.set_cons_succ]
          refine wpAnyH_read (i := 7) (oi := { dst := some 102, op := Go.Op.fieldAddr 34 (Go.Operand.tmp 10) 1, type := 0, pos := "law.go:97", after := #[], guard := none }) ?_ rfl (by kernel_rfl) (by kernel_rfl) (by kernel_rfl) (fun _ _ _ h => h) (by rfl) (by assumption) ?_ ?_
          rotate_left
          · (intro w0 hS0; go_simp <;> (try with_reducible rfl))
          try simp only [Act.put, List.setIfInBounds_toArray, List.set_cons_zero, List.set_cons_succ]
          refine wpAnyH_read (i := 9) (oi := { dst := some 104, op := Go.Op.fieldAddr 34 (Go.Operand.tmp 10) 2, type := 0, pos := "law.go:97", after := #[], guard := none }) ?_ rfl (by kernel_rfl) (by kernel_rfl) (by kernel_rfl) (fun _ _ _ h => h) (by rfl) (by assumption) ?_ ?_
          rotate_left
          · (intro w0 hS0; go_simp <;> (try with_reducible rfl))
          try simp only [Act.put, List.setIfInBounds_toArray, List.set_cons_zero, List.set_cons_succ]
          refine wpAnyH_read (i := 2) (oi := { dst := some 97, op := Go.Op.load 3 (Go.Operand.tmp 96), type := 3, pos := "law.go:97", after := #[{ on := 1, ground := Go.Ground.data }], guard := none }) ?_ rfl (by kernel_rfl) (by kernel_rfl) (by kernel_rfl) (fun _ _ _ h => h) (by rfl) (by assumption) ?_ ?_
          rotate_left
          · (intro w0 hS0; obtain ⟨q1, q2⟩ := hS0; go_simp <;> (try with_reducible rfl))
          try simp only [Act.put, List.setIfInBounds_toArray, List.set_cons_zero, List.set_cons_succ]
          refine wpAnyH_read (i := 4) (oi := { dst := some 99, op := Go.Op.load 9 (Go.Operand.tmp 98), type := 9, pos := "law.go:97", after := #[{ on := 3, ground := Go.Ground.data }], guard := none }) ?_ rfl (by kernel_rfl) (by kernel_rfl) (by kernel_rfl) (fun _ _ _ h => h) (by rfl) (by assumption) ?_ ?_
          rotate_left
          · (intro w0 hS0; obtain ⟨q1, q2⟩ := hS0; go_simp <;> (try with_reducible rfl))
          try simp only [Act.put, List.setIfInBounds_toArray, List.set_cons_zero, List.set_cons_succ]
          refine wpAnyH_read (i := 8) (oi := { dst := some 103, op := Go.Op.load 3 (Go.Operand.tmp 102), type := 3, pos := "law.go:97", after := #[{ on := 7, ground := Go.Ground.data }], guard := none }) ?_ rfl (by kernel_rfl) (by kernel_rfl) (by kernel_rfl) (fun _ _ _ h => h) (by rfl) (by assumption) ?_ ?_
          rotate_left
          · (intro w0 hS0; obtain ⟨q1, q2⟩ := hS0; go_simp <;> (try with_reducible rfl))
          try simp only [Act.put, List.setIfInBounds_toArray, List.set_cons_zero, List.set_cons_succ]
          refine wpAnyH_read (i := 10) (oi := { dst := some 105, op := Go.Op.load 9 (Go.Operand.tmp 104), type := 9, pos := "law.go:97", after := #[{ on := 9, ground := Go.Ground.data }], guard := none }) ?_ rfl (by kernel_rfl) (by kernel_rfl) (by kernel_rfl) (fun _ _ _ h => h) (by rfl) (by assumption) ?_ ?_
          rotate_left
          · (intro w0 hS0; obtain ⟨q1, q2⟩ := hS0; go_simp <;> (try with_reducible rfl))
          try simp only [Act.put, List.setIfInBounds_toArray, List.set_cons_zero, List.set_cons_succ]
          refine wpAnyH_one (i := 5) (o := { dst := some 100, op := Go.Op.call { callee := Go.Callee.value (Go.Operand.func 10), args := #[Go.Operand.tmp 95, Go.Operand.tmp 97, Go.Operand.tmp 99], argTypes := #[25, 3, 9] }, type := 4, pos := "law.go:97", after := #[{ on := 0, ground := Go.Ground.data }, { on := 2, ground := Go.Ground.data }, { on := 4, ground := Go.Ground.data }], guard := none }) (by kernel_rfl) rfl (by rfl) (fun K hK => ?_)
          go_simp
          refine (two_part_pv (HT1.out.below ((Below.refl _ _).drew)) (Nat.le_refl _) (by omega) HOK.out.1 HOK.out.2).mono ?_
          rintro e w5 ⟨rfl, ht2⟩
          have HT2 := Lib.hid ht2
          clear ht2
          go_wp2_with fail
          refine hK.out _ _ ?_ (fun hHeld => ?_)
          · exact ⟨blk_cell (HT2.out.box) 1, blk_cell (HT2.out.box) 2⟩
          clear hK K
          try simp only [Act.put, List.setIfInBounds_toArray, List.set_cons_zero, List.set_cons_succ]
          refine wpAnyH_one (i := 11) (o := { dst := some 106, op := Go.Op.call { callee := Go.Callee.value (Go.Operand.func 11), args := #[Go.Operand.tmp 101, Go.Operand.tmp 103, Go.Operand.tmp 105], argTypes := #[29, 3, 9] }, type := 4, pos := "law.go:97", after := #[{ on := 6, ground := Go.Ground.data }, { on := 8, ground := Go.Ground.data }, { on := 10, ground := Go.Ground.data }, { on := 5, ground := Go.Ground.chain }], guard := none }) (by kernel_rfl) rfl (by rfl) (fun K hK => ?_)
          go_simp
          refine (two_part_dv HT2.out (Nat.le_refl _) (by omega) s1 HOK.out.2).mono ?_
          rintro e w6 ⟨rfl, ht3⟩
          rw [← HRE.out.onK]
          have HT3 := Lib.hid ht3
          clear ht3
          go_wp2_with fail
          refine hK.out _ _ ?_ (fun hHeld => ?_)
          · exact ⟨blk_cell (HT3.out.box) 1, blk_cell (HT3.out.box) 2⟩
          clear hK K
          try simp only [Act.put, List.setIfInBounds_toArray, List.set_cons_zero, List.set_cons_succ]
          refine wpAnyH_read (i := 12) (oi := { dst := some 107, op := Go.Op.binOp Go.BinOp.neq 4 (Go.Operand.tmp 100) (Go.Operand.tmp 106) 4, type := 4, pos := "law.go:97", after := #[{ on := 5, ground := Go.Ground.data }, { on := 11, ground := Go.Ground.data }], guard := none }) ?_ rfl (by kernel_rfl) (by kernel_rfl) (by kernel_rfl) (fun _ _ _ h => h) (by rfl) (by assumption) ?_ ?_
          rotate_left
          · (intro w0 hS0; go_simp <;> (try with_reducible rfl))
          try simp only [Act.put, List.setIfInBounds_toArray, List.set_cons_zero, List.set_cons_succ]
          refine wpAnyH_done (by kernel_rfl) ?_ _
          go_wp2_with fail
          go_meet
          case rel => exact Lib.hid ⟨_, _, HT3.out.more, HRE.out.part s1 _⟩
        · have hk1b : (s0 == 1) = false := by simpa using hk1
          by_cases hk2 : s0 = 2
          · subst hk2
            go_wp2_with fail
            refine wp_region_held_drew (S := fun W => W.cell? ⟨Ba, 1, none⟩ = some (.int .i64 s1) ∧ W.cell? ⟨Ba, 2, none⟩ = some (.string s2)) (by kernel_rfl) (by exact HSB.out) (fun hHeld => ?_)
            refine wpAnyH_read (i := 0) (oi := { dst := some 110, op := Go.Op.move (Go.Operand.tmp 7), type := 25, pos := "law.go:101", after := #[], guard := none }) ?_ rfl (by kernel_rfl) (by kernel_rfl) (by kernel_rfl) (fun _ _ _ h => h) (by rfl) (by assumption) ?_ ?_
            rotate_left
            · (intro w0 hS0; go_simp <;> (try with_reducible rfl))
            try simp only [Act.put, List.setIfInBounds_toArray, List.set_cons_zero, List.set_cons_succ]
            refine wpAnyH_read (i := 1) (oi := { dst := some 111, op := Go.Op.fieldAddr 34 (Go.Operand.tmp 10) 1, type := 0, pos := "law.go:101", after := #[], guard := none }) ?_ rfl (by kernel_rfl) (by kernel_rfl) (by kernel_rfl) (fun _ _ _ h => h) (by rfl) (by assumption) ?_ ?_
            rotate_left
            · (intro w0 hS0; go_simp <;> (try with_reducible rfl))
            try simp only [Act.put, List.setIfInBounds_toArray, List.set_cons_zero, List.set_cons_succ]
            refine wpAnyH_read (i := 4) (oi := { dst := some 114, op := Go.Op.move (Go.Operand.tmp 8), type := 29, pos := "law.go:101", after := #[], guard := none }) ?_ rfl (by kernel_rfl) (by kernel_rfl) (by kernel_rfl) (fun _ _ _ h => h) (by rfl) (by assumption) ?_ ?_
            rotate_left
            · (intro w0 hS0; go_simp <;> (try with_reducible rfl))
            try simp only [Act.put, List.setIfInBounds_toArray, List.set_cons_zero, List.set_cons_succ]
            refine wpAnyH_read (i := 5) (oi := { dst := some 115, op := Go.Op.fieldAddr 34 (Go.Operand.tmp 10) 1, type := 0, pos := "law.go:101", after := #[], guard := none }) ?_ rfl (by kernel_rfl) (by kernel_rfl) (by kernel_rfl) (fun _ _ _ h => h) (by rfl) (by assumption) ?_ ?_
            rotate_left
            · (intro w0 hS0; go_simp <;> (try with_reducible rfl))
            try simp only [Act.put, List.setIfInBounds_toArray, List.set_cons_zero, List.set_cons_succ]
            refine wpAnyH_read (i := 2) (oi := { dst := some 112, op := Go.Op.load 3 (Go.Operand.tmp 111), type := 3, pos := "law.go:101", after := #[{ on := 1, ground := Go.Ground.data }], guard := none }) ?_ rfl (by kernel_rfl) (by kernel_rfl) (by kernel_rfl) (fun _ _ _ h => h) (by rfl) (by assumption) ?_ ?_
            rotate_left
            · (intro w0 hS0; obtain ⟨q1, q2⟩ := hS0; go_simp <;> (try with_reducible rfl))
            try simp only [Act.put, List.setIfInBounds_toArray, List.set_cons_zero, List.set_cons_succ]
            refine wpAnyH_read (i := 6) (oi := { dst := some 116, op := Go.Op.load 3 (Go.Operand.tmp 115), type := 3, pos := "law.go:101", after := #[{ on := 5, ground := Go.Ground.data }], guard := none }) ?_ rfl (by kernel_rfl) (by kernel_rfl) (by kernel_rfl) (fun _ _ _ h => h) (by rfl) (by assumption) ?_ ?_
            rotate_left
            · (intro w0 hS0; obtain ⟨q1, q2⟩ := hS0; go_simp <;> (try with_reducible rfl))
            try simp only [Act.put, List.setIfInBounds_toArray, List.set_cons_zero, List.set_cons_succ]
            refine wpAnyH_one (i := 3) (o := { dst := some 113, op := Go.Op.call { callee := Go.Callee.value (Go.Operand.func 12), args := #[Go.Operand.tmp 110, Go.Operand.tmp 112], argTypes := #[25, 3] }, type := 3, pos := "law.go:101", after := #[{ on := 0, ground := Go.Ground.data }, { on := 2, ground := Go.Ground.data }], guard := none }) (by kernel_rfl) rfl (by rfl) (fun K hK => ?_)
            go_simp
            refine (two_leave_p (HT1.out.below ((Below.refl _ _).drew)) (Nat.le_refl _) (by omega) HOK.out.1).mono ?_
            rintro e w5 ⟨xs, x1, x2, rfl, ht2⟩
            have HT2 := Lib.hid ht2
            have HX1 := Lib.hid (And.intro x1 x2)
            clear ht2 x1 x2
            go_wp2_with fail
            refine hK.out _ _ ?_ (fun hHeld => ?_)
            · exact ⟨blk_cell (HT2.out.box) 1, blk_cell (HT2.out.box) 2⟩
            clear hK K
            try simp only [Act.put, List.setIfInBounds_toArray, List.set_cons_zero, List.set_cons_succ]
            refine wpAnyH_one (i := 7) (o := { dst := some 117, op := Go.Op.call { callee := Go.Callee.value (Go.Operand.func 13), args := #[Go.Operand.tmp 114, Go.Operand.tmp 116], argTypes := #[29, 3] }, type := 3, pos := "law.go:101", after := #[{ on := 4, ground := Go.Ground.data }, { on := 6, ground := Go.Ground.data }, { on := 3, ground := Go.Ground.chain }], guard := none }) (by kernel_rfl) rfl (by rfl) (fun K hK => ?_)
            go_simp
            refine (two_leave_d HT2.out (Nat.le_refl _) (by omega) s1).mono ?_
            rintro e w6 ⟨ys, y1, y2, rfl, ht3⟩
            obtain rfl : xs = ys := up_extS HX1.out.1 y1 fun k => by rw [HX1.out.2, y2, HRE.out.onK]
            have HT3 := Lib.hid ht3
            clear ht3 y1 y2
            go_wp2_with fail
            refine hK.out _ _ ?_ (fun hHeld => ?_)
            · exact ⟨blk_cell (HT3.out.box) 1, blk_cell (HT3.out.box) 2⟩
            clear hK K
            try simp only [Act.put, List.setIfInBounds_toArray, List.set_cons_zero, List.set_cons_succ]
            refine wpAnyH_read (i := 8) (oi := { dst := some 118, op := Go.Op.binOp Go.BinOp.neq 3 (Go.Operand.tmp 113) (Go.Operand.tmp 117) 3, type := 4, pos := "law.go:101", after := #[{ on := 3, ground := Go.Ground.data }, { on := 7, ground := Go.Ground.data }], guard := none }) ?_ rfl (by kernel_rfl) (by kernel_rfl) (by kernel_rfl) (fun _ _ _ h => h) (by rfl) (by assumption) ?_ ?_
            rotate_left
            · (intro w0 hS0; go_simp <;> (try with_reducible rfl))
            try simp only [Act.put, List.setIfInBounds_toArray, List.set_cons_zero, List.set_cons_succ]
            refine wpAnyH_done (by kernel_rfl) ?_ _
            go_wp2_with fail
            go_meet
            case rel => exact Lib.hid ⟨_, _, HT3.out.more, RelL.leave (A := A2) (X := Xs) s1 xs HRE.out⟩
          · have hk2b : (s0 == 2) = false := by simpa using hk2
            have q1 := blk_cell HT1.out.box 1
            have q2 := blk_cell HT1.out.box 2
            obtain ⟨hj1, hj2⟩ := HRE.out.join mo jo 3 s1 s2.data.toList
            have HJ1 := Lib.hid hj1
            clear hj1
            rcases hj2 with ⟨j1, j2⟩ | ⟨r, x, j1, j2, j3⟩
            · have HP := Lib.hid (two_join_pn HT1.out (Nat.le_refl _) (by omega) HOK.out.1 HOK.out.2 j1)
              rw [show bs s2.data.toList = s2 from rfl] at HP
              have HJ := Lib.hid j2
              clear j1 j2
              go_wp2_with fail
              refine HP.out.mono ?_
              rintro e w5 ⟨rfl, ht2⟩
              have HT2 := Lib.hid ht2
              have q1 := blk_cell HT2.out.box 1
              have q2 := blk_cell HT2.out.box 2
              have HQ := Lib.hid (two_join_dn HT2.out (Nat.le_refl _) (by omega) s1 HOK.out.2 HJ.out)
              rw [show bs s2.data.toList = s2 from rfl] at HQ
              clear ht2 HP
              go_wp2_with fail
              refine HQ.out.mono ?_
              rintro e w6 ⟨rfl, ht3⟩
              have HT3 := Lib.hid ht3
              clear ht3 HQ
              go_wp2_with fail
              refine (name_nil w6).mono ?_
              rintro e w6 ⟨rfl, rfl⟩
              go_wp2_with fail
              refine (named_nil w6).mono ?_
              rintro e w6 ⟨rfl, rfl⟩
              go_wp2_with fail
              go_meet
              case rel => exact Lib.hid ⟨_, _, HT3.out, HJ1.out⟩
            · have HP := Lib.hid (two_join_pv HT1.out (Nat.le_refl _) (by omega) HOK.out.1 HOK.out.2 j1)
              rw [show bs s2.data.toList = s2 from rfl] at HP
              have HJ := Lib.hid (And.intro j2 j3)
              clear j1 j2 j3
              go_wp2_with fail
              refine HP.out.mono ?_
              rintro e w5 ⟨B5, rfl, ht2⟩
              have HT2 := Lib.hid ht2
              have q1 := blk_cell HT2.out.box 1
              have q2 := blk_cell HT2.out.box 2
              have HQ := Lib.hid (two_join_dv HT2.out (Nat.le_refl _) (by omega) s1 HOK.out.2 HJ.out.1)
              rw [show bs s2.data.toList = s2 from rfl] at HQ
              clear ht2 HP
              go_wp2_with fail
              refine HQ.out.mono ?_
              rintro e w6 ⟨B6, rfl, ht3⟩
              have HT3 := Lib.hid ht3
              have HNa := Lib.hid (name_of ht3)
              have HNb := Lib.hid (named_of ht3)
              rw [HJ.out.2.1] at HNa
              clear ht3 HQ
              go_wp2_with fail
              refine HNa.out.mono ?_
              rintro e w6 ⟨rfl, rfl⟩
              go_wp2_with fail
              refine HNb.out.mono ?_
              rintro e w6 ⟨rfl, rfl⟩
              go_wp2_with fail
              go_meet
              case rel => exact Lib.hid ⟨_, _, HT3.out.no, HJ1.out⟩
      case rest =>
        obtain ⟨A3, Xs3, ht, hre3⟩ := hcut.out
        have HT := Lib.hid ht
        have HR3 := Lib.hid hre3
        obtain ⟨⟨t, b, tr, X, C, Q, L, v, D, E, h1, h2, hQA, h4, h5, hEX, h7, ⟨kb, _, _⟩, _⟩, hup⟩ := ht
        rw [← hQA, ← hEX] at hre3
        have hi1 : i + 1 ≤ 900 := by omega
        obtain ⟨A9, c9, hv9⟩ := row_slice h4.row
        rw [List.length_map] at hv9
        have hQE : Q.length = E.length := by have := hre3.len; rwa [List.length_map, List.length_map] at this
        obtain ⟨nE, hnE⟩ : ∃ nE, E.length = nE := ⟨_, rfl⟩
        rw [hnE] at hQE hv9
        obtain ⟨nO, hnO⟩ : ∃ nO, (ofQ Q s1).length = nO := ⟨_, rfl⟩
        have hnOE : (E.filter (onD s1)).length = nO := by
          have h9 := hre3.ofLen s1
          rw [ofXs_map, List.length_map] at h9
          have h8 : (ofA (Q.map (·.r)) s1).length = (ofQ Q s1).length := by unfold ofA ofQ; rw [List.filter_map, List.length_map]; rfl
          rw [← h9, h8, hnO]
        have HBX := Lib.hid (fun W (hW : Fr (fun _ => False) wc W) => (And.intro (blk_cell (hW.blk kb fun e => e) 1) (And.intro (blk_cell (hW.blk kb fun e => e) 2) (blk_cell (hW.blk h4.self fun e => e) 3))))
        rw [hv9] at HBX
        have HGp := Lib.hid (get_any h1 s2.data.toList (by have := HOK.out.2; omega))
        have HGd := Lib.hid (fun W (hW : Fr (fun _ => False) wc W) => refGet_any (h4.fr hW fun _ _ e => e) h5 (by omega) s2.data.toList HOK.out.2)
        rw [show bs s2.data.toList = s2 from rfl] at HGp HGd
        have HLn := Lib.hid (fun W (hW : Fr (fun _ => False) wc W) => len_any (h1.fr hW fun _ _ e => e))
        rw [hQE] at HLn
        have HCt := Lib.hid (fun W (hW : Fr (fun _ => False) wc W) => count_any (h1.fr hW fun _ _ e => e) h2 HOK.out.1 (by omega))
        rw [hnO] at HCt
        have HOd := Lib.hid (fun W (hW : Fr (fun _ => False) wc W) => refOf_id (h4.fr hW fun _ _ e => e) h5 (by omega) s1)
        have HOa := Lib.hid (fun W (hW : Fr (fun _ => False) wc W) => refOf_all (h4.fr hW fun _ _ e => e) h5 (by omega) 0)
        have HAl := Lib.hid (fun W (hW : Fr (fun _ => False) wc W) => all_any (h1.fr hW fun _ _ e => e) (by have := h2.qlen; omega))
        have HOf := Lib.hid (fun W (hW : Fr (fun _ => False) wc W) => of_any (h1.fr hW fun _ _ e => e) h2 (by omega) HOK.out.1)
        have HSa := Lib.hid (fun W (hW : Fr (fun _ => False) wc W) (bb bc : Nat) (F : Value) (S1 : List RmE) (S2 : List RdE) (Ad : Option Addr) (cd nn : Nat) (a1 : TalePr bb W F (S1.map (·.B))) (a2 : ∀ e ∈ S1, e ∈ Q) (a3 : ∀ e ∈ S2, e ∈ E) (a4 : S1.map keyE = S2.map keyD) (a5 : S2.length = nn) (a6 : OwnPd bc W (.slice Ad nn cd) (S2.map (·.B))) (a7 : (S2.map keyD).Nodup) => (by
          obtain ⟨g1, g2⟩ := rel_row hre3 h1.keys h4.keys a2 a3 a4
          have g3 : S2.length ≤ 1000 := by
            have q := nodup_len (A := S2.map keyD) (B := E.map keyD) a7 fun x hx => by
              obtain ⟨e, he, rfl⟩ := List.mem_map.1 hx
              exact List.mem_map_of_mem (a3 e he)
            rw [List.length_map, List.length_map] at q
            have := h5.elen; omega
          exact same_any (b2 := w1.heap.size) (b4 := w1.heap.size) a1 (g1.trans a5) a5 (by omega) (fun e he => ⟨(h1.each e (a2 e he)).fr hW fun _ _ e => e, by have := h2.mlen e (a2 e he); omega⟩) a6 (fun e he => (h4.each e (a3 e he)).fr hW fun _ _ e => e) g2 : Calls Tryz.prog 23 #[F, .slice Ad nn cd] W fun e w' => e = .returned (.bool true) ∧ RowKit.Below W.heap.size W w'))
        have HKy := Lib.hid (And.intro hre3 (And.intro hnE (And.intro hnOE trivial)))
        have hgA : getA (Q.map (·.r)) (foldL s2.data.toList) = (getE Q (foldL s2.data.toList)).map (·.r) := by unfold getA getE; rw [List.find?_map]; rfl
        have hgX := getXs_map E (foldL s2.data.toList)
        have hgg := hre3.get (foldL s2.data.toList)
        rw [hgA, hgX] at hgg
        unfold GetP at HGp
        obtain ⟨q1, q2, q3⟩ := HBX.out wc (Fr.refl _ _)
        cases hgE : getE Q (foldL s2.data.toList) with
        | none =>
          cases hgD : getD E (foldL s2.data.toList) with
          | some d => rw [hgE, hgD] at hgg; simp at hgg
          | none =>
            rw [hgE] at HGp
            rw [hgD] at HGd
            have HNg := Lib.hid (fun W (hW : Fr (fun _ => False) wc W) => name_nil W)
            have HNd := Lib.hid (fun W (hW : Fr (fun _ => False) wc W) => named_nil W)
            simp only [ptE, ptD, Option.map_none, Option.isSome_none] at HGp HGd
            clear h1 h2 h4 h5 h7 kb hup hre3 hgA hgX hgg hgE hgD hQA hEX hQE hnE hnO hnOE hv9 hcut
            go_wp2_with fail
            refine HGp.out.mono ?_
            rintro e w6 ⟨rfl, b6⟩
            have HF6 := Lib.hid (Fr.of_below (X := fun _ => False) b6)
            obtain ⟨q1, q2, q3⟩ := HBX.out w6 HF6.out
            clear b6
            go_wp2_with fail
            refine (HGd.out w6 HF6.out).mono ?_
            rintro e w7 ⟨rfl, b7⟩
            have HF7 := Lib.hid (HF6.out.trans (Fr.of_below b7))
            clear b7 q1 q2 q3
            go_wp2_with fail
            refine wp_region_held_drew (S := fun W => Fr (fun _ => False) wc W) (by kernel_rfl) (by exact HF7.out.drew) (fun hHeld => ?_)
            refine wpAnyH_read (i := 0) (oi := { dst := some 130, op := Go.Op.move (Go.Operand.tmp 16), type := 4, pos := "law.go:113", after := #[], guard := none }) ?_ rfl (by kernel_rfl) (by kernel_rfl) (by kernel_rfl) (fun _ _ _ h => h) (by rfl) (by assumption) ?_ ?_
            rotate_left
            · (intro w0 hS0; go_simp <;> (try with_reducible rfl))
            try simp only [Act.put, List.setIfInBounds_toArray, List.set_cons_zero, List.set_cons_succ]
            refine wpAnyH_read (i := 1) (oi := { dst := some 131, op := Go.Op.move (Go.Operand.tmp 17), type := 40, pos := "law.go:113", after := #[], guard := none }) ?_ rfl (by kernel_rfl) (by kernel_rfl) (by kernel_rfl) (fun _ _ _ h => h) (by rfl) (by assumption) ?_ ?_
            rotate_left
            · (intro w0 hS0; go_simp <;> (try with_reducible rfl))
            try simp only [Act.put, List.setIfInBounds_toArray, List.set_cons_zero, List.set_cons_succ]
            refine wpAnyH_read (i := 2) (oi := { dst := some 132, op := Go.Op.binOp Go.BinOp.neq 40 (Go.Operand.tmp 131) (Go.Operand.const (Go.Value.pointer none)) 40, type := 4, pos := "law.go:113", after := #[{ on := 1, ground := Go.Ground.data }], guard := none }) ?_ rfl (by kernel_rfl) (by kernel_rfl) (by kernel_rfl) (fun _ _ _ h => h) (by rfl) (by assumption) ?_ ?_
            rotate_left
            · (intro w0 hS0; go_simp <;> (try with_reducible rfl))
            try simp only [Act.put, List.setIfInBounds_toArray, List.set_cons_zero, List.set_cons_succ]
            refine wpAnyH_read (i := 3) (oi := { dst := some 133, op := Go.Op.binOp Go.BinOp.neq 4 (Go.Operand.tmp 130) (Go.Operand.tmp 132) 4, type := 4, pos := "law.go:113", after := #[{ on := 0, ground := Go.Ground.data }, { on := 2, ground := Go.Ground.data }], guard := none }) ?_ rfl (by kernel_rfl) (by kernel_rfl) (by kernel_rfl) (fun _ _ _ h => h) (by rfl) (by assumption) ?_ ?_
            rotate_left
            · (intro w0 hS0; go_simp <;> (try with_reducible rfl))
            try simp only [Act.put, List.setIfInBounds_toArray, List.set_cons_zero, List.set_cons_succ]
            refine wpAnyH_read (i := 4) (oi := { dst := some 134, op := Go.Op.move (Go.Operand.tmp 133), type := 4, pos := "law.go:113", after := #[{ on := 3, ground := Go.Ground.data }], guard := none }) ?_ rfl (by kernel_rfl) (by kernel_rfl) (by kernel_rfl) (fun _ _ _ h => h) (by rfl) (by assumption) ?_ ?_
            rotate_left
            · (intro w0 hS0; go_simp <;> (try with_reducible rfl))
            try simp only [Act.put, List.setIfInBounds_toArray, List.set_cons_zero, List.set_cons_succ]
            refine wpAnyH_read (i := 5) (oi := { dst := some 135, op := Go.Op.move (Go.Operand.tmp 15), type := 37, pos := "law.go:113", after := #[{ on := 4, ground := Go.Ground.guard }], guard := some (4, false) }) ?_ rfl (by kernel_rfl) (by kernel_rfl) (by kernel_rfl) (fun _ _ _ h => h) (by rfl) (by assumption) ?_ ?_
            rotate_left
            · (intro w0 hS0; go_simp <;> (try with_reducible rfl))
            try simp only [Act.put, List.setIfInBounds_toArray, List.set_cons_zero, List.set_cons_succ]
            refine wpAnyH_read (i := 7) (oi := { dst := some 137, op := Go.Op.move (Go.Operand.tmp 17), type := 40, pos := "law.go:113", after := #[{ on := 4, ground := Go.Ground.guard }], guard := some (4, false) }) ?_ rfl (by kernel_rfl) (by kernel_rfl) (by kernel_rfl) (fun _ _ _ h => h) (by rfl) (by assumption) ?_ ?_
            rotate_left
            · (intro w0 hS0; go_simp <;> (try with_reducible rfl))
            try simp only [Act.put, List.setIfInBounds_toArray, List.set_cons_zero, List.set_cons_succ]
            refine wpAnyH_one (i := 6) (o := { dst := some 136, op := Go.Op.call { callee := Go.Callee.value (Go.Operand.func 16), args := #[Go.Operand.tmp 135], argTypes := #[37] }, type := 9, pos := "law.go:113", after := #[{ on := 5, ground := Go.Ground.data }, { on := 4, ground := Go.Ground.chain }, { on := 4, ground := Go.Ground.guard }], guard := some (4, false) }) (by kernel_rfl) rfl (by rfl) (fun K hK => ?_)
            go_simp
            refine (HNg.out _ hHeld).mono ?_
            rintro e w8 ⟨rfl, rfl⟩
            go_wp2_with fail
            refine hK.out _ _ ?_ (fun hHeld => ?_)
            · exact hHeld
            clear hK K
            try simp only [Act.put, List.setIfInBounds_toArray, List.set_cons_zero, List.set_cons_succ]
            refine wpAnyH_one (i := 8) (o := { dst := some 138, op := Go.Op.call { callee := Go.Callee.value (Go.Operand.func 17), args := #[Go.Operand.tmp 137], argTypes := #[40] }, type := 9, pos := "law.go:113", after := #[{ on := 7, ground := Go.Ground.data }, { on := 6, ground := Go.Ground.chain }, { on := 4, ground := Go.Ground.guard }], guard := some (4, false) }) (by kernel_rfl) rfl (by rfl) (fun K hK => ?_)
            go_simp
            refine (HNd.out _ hHeld).mono ?_
            rintro e w8 ⟨rfl, rfl⟩
            go_wp2_with fail
            refine hK.out _ _ ?_ (fun hHeld => ?_)
            · exact hHeld
            clear hK K
            try simp only [Act.put, List.setIfInBounds_toArray, List.set_cons_zero, List.set_cons_succ]
            refine wpAnyH_read (i := 9) (oi := { dst := some 139, op := Go.Op.binOp Go.BinOp.neq 9 (Go.Operand.tmp 136) (Go.Operand.tmp 138) 9, type := 4, pos := "law.go:113", after := #[{ on := 6, ground := Go.Ground.data }, { on := 8, ground := Go.Ground.data }, { on := 4, ground := Go.Ground.guard }], guard := some (4, false) }) ?_ rfl (by kernel_rfl) (by kernel_rfl) (by kernel_rfl) (fun _ _ _ h => h) (by rfl) (by assumption) ?_ ?_
            rotate_left
            · (intro w0 hS0; go_simp <;> (try with_reducible rfl))
            try simp only [Act.put, List.setIfInBounds_toArray, List.set_cons_zero, List.set_cons_succ]
            refine wpAnyH_read (i := 10) (oi := { dst := some 140, op := Go.Op.pick (Go.Operand.tmp 134) (Go.Operand.const (Go.Value.bool true)) (Go.Operand.tmp 139), type := 4, pos := "law.go:113", after := #[{ on := 4, ground := Go.Ground.data }, { on := 9, ground := Go.Ground.data }], guard := none }) ?_ rfl (by kernel_rfl) (by kernel_rfl) (by kernel_rfl) (fun _ _ _ h => h) (by rfl) (by assumption) ?_ ?_
            rotate_left
            · (intro w0 hS0; go_simp <;> (try with_reducible rfl))
            try simp only [Act.put, List.setIfInBounds_toArray, List.set_cons_zero, List.set_cons_succ]
            refine wpAnyH_read (i := 11) (oi := { dst := some 141, op := Go.Op.move (Go.Operand.tmp 140), type := 4, pos := "law.go:113", after := #[{ on := 10, ground := Go.Ground.data }, { on := 8, ground := Go.Ground.chain }], guard := none }) ?_ rfl (by kernel_rfl) (by kernel_rfl) (by kernel_rfl) (fun _ _ _ h => h) (by rfl) (by assumption) ?_ ?_
            rotate_left
            · (intro w0 hS0; go_simp <;> (try with_reducible rfl))
            try simp only [Act.put, List.setIfInBounds_toArray, List.set_cons_zero, List.set_cons_succ]
            refine wpAnyH_read (i := 12) (oi := { dst := some 142, op := Go.Op.move (Go.Operand.tmp 7), type := 25, pos := "law.go:113", after := #[{ on := 11, ground := Go.Ground.guard }], guard := some (11, false) }) ?_ rfl (by kernel_rfl) (by kernel_rfl) (by kernel_rfl) (fun _ _ _ h => h) (by rfl) (by assumption) ?_ ?_
            rotate_left
            · (intro w0 hS0; go_simp <;> (try with_reducible rfl))
            try simp only [Act.put, List.setIfInBounds_toArray, List.set_cons_zero, List.set_cons_succ]
            refine wpAnyH_read (i := 14) (oi := { dst := some 144, op := Go.Op.move (Go.Operand.tmp 8), type := 29, pos := "law.go:113", after := #[{ on := 11, ground := Go.Ground.guard }], guard := some (11, false) }) ?_ rfl (by kernel_rfl) (by kernel_rfl) (by kernel_rfl) (fun _ _ _ h => h) (by rfl) (by assumption) ?_ ?_
            rotate_left
            · (intro w0 hS0; go_simp <;> (try with_reducible rfl))
            try simp only [Act.put, List.setIfInBounds_toArray, List.set_cons_zero, List.set_cons_succ]
            refine wpAnyH_read (i := 15) (oi := { dst := some 145, op := Go.Op.nilCheck (Go.Operand.tmp 144), type := 0, pos := "law.go:113", after := #[{ on := 14, ground := Go.Ground.data }, { on := 11, ground := Go.Ground.guard }], guard := some (11, false) }) ?_ rfl (by kernel_rfl) (by kernel_rfl) (by kernel_rfl) (fun _ _ _ h => h) (by rfl) (by assumption) ?_ ?_
            rotate_left
            · (intro w0 hS0; go_simp <;> (try with_reducible rfl))
            try simp only [Act.put, List.setIfInBounds_toArray, List.set_cons_zero, List.set_cons_succ]
            refine wpAnyH_read (i := 16) (oi := { dst := some 146, op := Go.Op.fieldAddr 32 (Go.Operand.tmp 145) 3, type := 0, pos := "law.go:113", after := #[{ on := 15, ground := Go.Ground.data }, { on := 11, ground := Go.Ground.guard }], guard := some (11, false) }) ?_ rfl (by kernel_rfl) (by kernel_rfl) (by kernel_rfl) (fun _ _ _ h => h) (by rfl) (by assumption) ?_ ?_
            rotate_left
            · (intro w0 hS0; go_simp <;> (try with_reducible rfl))
            try simp only [Act.put, List.setIfInBounds_toArray, List.set_cons_zero, List.set_cons_succ]
            refine wpAnyH_read (i := 17) (oi := { dst := some 147, op := Go.Op.load 30 (Go.Operand.tmp 146), type := 30, pos := "law.go:113", after := #[{ on := 16, ground := Go.Ground.data }, { on := 11, ground := Go.Ground.guard }], guard := some (11, false) }) ?_ rfl (by kernel_rfl) (by kernel_rfl) (by kernel_rfl) (fun _ _ _ h => h) (by rfl) (by assumption) ?_ ?_
            rotate_left
            · (intro w0 hS0; obtain ⟨q1, q2, q3⟩ := HBX.out w0 hS0; go_simp <;> (try with_reducible rfl))
            try simp only [Act.put, List.setIfInBounds_toArray, List.set_cons_zero, List.set_cons_succ]
            refine wpAnyH_read (i := 18) (oi := { dst := some 148, op := Go.Op.call { callee := Go.Callee.builtin Go.Builtin.len, args := #[Go.Operand.tmp 147], argTypes := #[30] }, type := 3, pos := "law.go:113", after := #[{ on := 17, ground := Go.Ground.data }, { on := 11, ground := Go.Ground.guard }], guard := some (11, false) }) ?_ rfl (by kernel_rfl) (by kernel_rfl) (by kernel_rfl) (fun _ _ _ h => h) (by rfl) (by assumption) ?_ ?_
            rotate_left
            · (intro w0 hS0; go_simp <;> (try with_reducible rfl))
            try simp only [Act.put, List.setIfInBounds_toArray, List.set_cons_zero, List.set_cons_succ]
            refine wpAnyH_one (i := 13) (o := { dst := some 143, op := Go.Op.call { callee := Go.Callee.value (Go.Operand.func 20), args := #[Go.Operand.tmp 142], argTypes := #[25] }, type := 3, pos := "law.go:113", after := #[{ on := 12, ground := Go.Ground.data }, { on := 11, ground := Go.Ground.chain }, { on := 11, ground := Go.Ground.guard }], guard := some (11, false) }) (by kernel_rfl) rfl (by rfl) (fun K hK => ?_)
            go_simp
            refine (HLn.out _ hHeld).mono ?_
            rintro e w8 ⟨rfl, rfl⟩
            go_wp2_with fail
            refine hK.out _ _ ?_ (fun hHeld => ?_)
            · exact hHeld
            clear hK K
            try simp only [Act.put, List.setIfInBounds_toArray, List.set_cons_zero, List.set_cons_succ]
            refine wpAnyH_read (i := 19) (oi := { dst := some 149, op := Go.Op.binOp Go.BinOp.neq 3 (Go.Operand.tmp 143) (Go.Operand.tmp 148) 3, type := 4, pos := "law.go:113", after := #[{ on := 13, ground := Go.Ground.data }, { on := 18, ground := Go.Ground.data }, { on := 11, ground := Go.Ground.guard }], guard := some (11, false) }) ?_ rfl (by kernel_rfl) (by kernel_rfl) (by kernel_rfl) (fun _ _ _ h => h) (by rfl) (by assumption) ?_ ?_
            rotate_left
            · (intro w0 hS0; go_simp <;> (try with_reducible rfl))
            try simp only [Act.put, List.setIfInBounds_toArray, List.set_cons_zero, List.set_cons_succ]
            refine wpAnyH_read (i := 20) (oi := { dst := some 150, op := Go.Op.pick (Go.Operand.tmp 141) (Go.Operand.const (Go.Value.bool true)) (Go.Operand.tmp 149), type := 4, pos := "law.go:113", after := #[{ on := 11, ground := Go.Ground.data }, { on := 19, ground := Go.Ground.data }], guard := none }) ?_ rfl (by kernel_rfl) (by kernel_rfl) (by kernel_rfl) (fun _ _ _ h => h) (by rfl) (by assumption) ?_ ?_
            rotate_left
            · (intro w0 hS0; go_simp <;> (try with_reducible rfl))
            try simp only [Act.put, List.setIfInBounds_toArray, List.set_cons_zero, List.set_cons_succ]
            refine wpAnyH_read (i := 21) (oi := { dst := some 151, op := Go.Op.move (Go.Operand.tmp 150), type := 4, pos := "law.go:113", after := #[{ on := 20, ground := Go.Ground.data }, { on := 13, ground := Go.Ground.chain }], guard := none }) ?_ rfl (by kernel_rfl) (by kernel_rfl) (by kernel_rfl) (fun _ _ _ h => h) (by rfl) (by assumption) ?_ ?_
            rotate_left
            · (intro w0 hS0; go_simp <;> (try with_reducible rfl))
            try simp only [Act.put, List.setIfInBounds_toArray, List.set_cons_zero, List.set_cons_succ]
            refine wpAnyH_read (i := 22) (oi := { dst := some 152, op := Go.Op.move (Go.Operand.tmp 7), type := 25, pos := "law.go:113", after := #[{ on := 21, ground := Go.Ground.guard }], guard := some (21, false) }) ?_ rfl (by kernel_rfl) (by kernel_rfl) (by kernel_rfl) (fun _ _ _ h => h) (by rfl) (by assumption) ?_ ?_
            rotate_left
            · (intro w0 hS0; go_simp <;> (try with_reducible rfl))
            try simp only [Act.put, List.setIfInBounds_toArray, List.set_cons_zero, List.set_cons_succ]
            refine wpAnyH_read (i := 23) (oi := { dst := some 153, op := Go.Op.fieldAddr 34 (Go.Operand.tmp 10) 1, type := 0, pos := "law.go:113", after := #[{ on := 21, ground := Go.Ground.guard }], guard := some (21, false) }) ?_ rfl (by kernel_rfl) (by kernel_rfl) (by kernel_rfl) (fun _ _ _ h => h) (by rfl) (by assumption) ?_ ?_
            rotate_left
            · (intro w0 hS0; go_simp <;> (try with_reducible rfl))
            try simp only [Act.put, List.setIfInBounds_toArray, List.set_cons_zero, List.set_cons_succ]
            refine wpAnyH_read (i := 26) (oi := { dst := some 156, op := Go.Op.move (Go.Operand.tmp 8), type := 29, pos := "law.go:113", after := #[{ on := 21, ground := Go.Ground.guard }], guard := some (21, false) }) ?_ rfl (by kernel_rfl) (by kernel_rfl) (by kernel_rfl) (fun _ _ _ h => h) (by rfl) (by assumption) ?_ ?_
            rotate_left
            · (intro w0 hS0; go_simp <;> (try with_reducible rfl))
            try simp only [Act.put, List.setIfInBounds_toArray, List.set_cons_zero, List.set_cons_succ]
            refine wpAnyH_read (i := 27) (oi := { dst := some 157, op := Go.Op.fieldAddr 34 (Go.Operand.tmp 10) 1, type := 0, pos := "law.go:113", after := #[{ on := 21, ground := Go.Ground.guard }], guard := some (21, false) }) ?_ rfl (by kernel_rfl) (by kernel_rfl) (by kernel_rfl) (fun _ _ _ h => h) (by rfl) (by assumption) ?_ ?_
            rotate_left
            · (intro w0 hS0; go_simp <;> (try with_reducible rfl))
            try simp only [Act.put, List.setIfInBounds_toArray, List.set_cons_zero, List.set_cons_succ]
            refine wpAnyH_read (i := 24) (oi := { dst := some 154, op := Go.Op.load 3 (Go.Operand.tmp 153), type := 3, pos := "law.go:113", after := #[{ on := 23, ground := Go.Ground.data }, { on := 21, ground := Go.Ground.guard }], guard := some (21, false) }) ?_ rfl (by kernel_rfl) (by kernel_rfl) (by kernel_rfl) (fun _ _ _ h => h) (by rfl) (by assumption) ?_ ?_
            rotate_left
            · (intro w0 hS0; obtain ⟨q1, q2, q3⟩ := HBX.out w0 hS0; go_simp <;> (try with_reducible rfl))
            try simp only [Act.put, List.setIfInBounds_toArray, List.set_cons_zero, List.set_cons_succ]
            refine wpAnyH_read (i := 28) (oi := { dst := some 158, op := Go.Op.load 3 (Go.Operand.tmp 157), type := 3, pos := "law.go:113", after := #[{ on := 27, ground := Go.Ground.data }, { on := 21, ground := Go.Ground.guard }], guard := some (21, false) }) ?_ rfl (by kernel_rfl) (by kernel_rfl) (by kernel_rfl) (fun _ _ _ h => h) (by rfl) (by assumption) ?_ ?_
            rotate_left
            · (intro w0 hS0; obtain ⟨q1, q2, q3⟩ := HBX.out w0 hS0; go_simp <;> (try with_reducible rfl))
            try simp only [Act.put, List.setIfInBounds_toArray, List.set_cons_zero, List.set_cons_succ]
            refine wpAnyH_one (i := 25) (o := { dst := some 155, op := Go.Op.call { callee := Go.Callee.value (Go.Operand.func 21), args := #[Go.Operand.tmp 152, Go.Operand.tmp 154], argTypes := #[25, 3] }, type := 3, pos := "law.go:113", after := #[{ on := 22, ground := Go.Ground.data }, { on := 24, ground := Go.Ground.data }, { on := 21, ground := Go.Ground.chain }, { on := 21, ground := Go.Ground.guard }], guard := some (21, false) }) (by kernel_rfl) rfl (by rfl) (fun K hK => ?_)
            go_simp
            refine (HCt.out _ hHeld).mono ?_
            rintro e w8 ⟨rfl, rfl⟩
            go_wp2_with fail
            refine hK.out _ _ ?_ (fun hHeld => ?_)
            · exact hHeld
            clear hK K
            try simp only [Act.put, List.setIfInBounds_toArray, List.set_cons_zero, List.set_cons_succ]
            refine wpAnyH_one (i := 29) (o := { dst := some 159, op := Go.Op.call { callee := Go.Callee.value (Go.Operand.func 22), args := #[Go.Operand.tmp 156, Go.Operand.tmp 158, Go.Operand.const (Go.Value.bool false)], argTypes := #[29, 3, 4] }, type := 30, pos := "law.go:113", after := #[{ on := 26, ground := Go.Ground.data }, { on := 28, ground := Go.Ground.data }, { on := 25, ground := Go.Ground.chain }, { on := 21, ground := Go.Ground.guard }], guard := some (21, false) }) (by kernel_rfl) rfl (by rfl) (fun K hK => ?_)
            go_simp
            refine (HOd.out _ hHeld).mono ?_
            rintro e wa ⟨⟨vO, SO, rfl, oO, pO, uO⟩, bO⟩
            obtain ⟨AO, cO, rfl⟩ := row_slice oO
            rw [List.length_map, pO.length_eq, HKy.out.2.2.1]
            have HFa := Lib.hid ((show Fr (fun _ => False) wc _ from hHeld).trans (Fr.of_below bO))
            clear oO pO uO bO
            go_wp2_with fail
            refine hK.out _ _ ?_ (fun hHeld => ?_)
            · exact HFa.out
            clear hK K
            try simp only [Act.put, List.setIfInBounds_toArray, List.set_cons_zero, List.set_cons_succ]
            refine wpAnyH_read (i := 30) (oi := { dst := some 160, op := Go.Op.call { callee := Go.Callee.builtin Go.Builtin.len, args := #[Go.Operand.tmp 159], argTypes := #[30] }, type := 3, pos := "law.go:113", after := #[{ on := 29, ground := Go.Ground.data }, { on := 21, ground := Go.Ground.guard }], guard := some (21, false) }) ?_ rfl (by kernel_rfl) (by kernel_rfl) (by kernel_rfl) (fun _ _ _ h => h) (by rfl) (by assumption) ?_ ?_
            rotate_left
            · (intro w0 hS0; go_simp <;> (try with_reducible rfl))
            try simp only [Act.put, List.setIfInBounds_toArray, List.set_cons_zero, List.set_cons_succ]
            refine wpAnyH_read (i := 31) (oi := { dst := some 161, op := Go.Op.binOp Go.BinOp.neq 3 (Go.Operand.tmp 155) (Go.Operand.tmp 160) 3, type := 4, pos := "law.go:113", after := #[{ on := 25, ground := Go.Ground.data }, { on := 30, ground := Go.Ground.data }, { on := 21, ground := Go.Ground.guard }], guard := some (21, false) }) ?_ rfl (by kernel_rfl) (by kernel_rfl) (by kernel_rfl) (fun _ _ _ h => h) (by rfl) (by assumption) ?_ ?_
            rotate_left
            · (intro w0 hS0; go_simp <;> (try with_reducible rfl))
            try simp only [Act.put, List.setIfInBounds_toArray, List.set_cons_zero, List.set_cons_succ]
            refine wpAnyH_read (i := 32) (oi := { dst := some 162, op := Go.Op.pick (Go.Operand.tmp 151) (Go.Operand.const (Go.Value.bool true)) (Go.Operand.tmp 161), type := 4, pos := "law.go:113", after := #[{ on := 21, ground := Go.Ground.data }, { on := 31, ground := Go.Ground.data }], guard := none }) ?_ rfl (by kernel_rfl) (by kernel_rfl) (by kernel_rfl) (fun _ _ _ h => h) (by rfl) (by assumption) ?_ ?_
            rotate_left
            · (intro w0 hS0; go_simp <;> (try with_reducible rfl))
            try simp only [Act.put, List.setIfInBounds_toArray, List.set_cons_zero, List.set_cons_succ]
            refine wpAnyH_read (i := 33) (oi := { dst := some 163, op := Go.Op.move (Go.Operand.tmp 162), type := 4, pos := "law.go:113", after := #[{ on := 32, ground := Go.Ground.data }, { on := 29, ground := Go.Ground.chain }], guard := none }) ?_ rfl (by kernel_rfl) (by kernel_rfl) (by kernel_rfl) (fun _ _ _ h => h) (by rfl) (by assumption) ?_ ?_
            rotate_left
            · (intro w0 hS0; go_simp <;> (try with_reducible rfl))
            try simp only [Act.put, List.setIfInBounds_toArray, List.set_cons_zero, List.set_cons_succ]
            refine wpAnyH_read (i := 34) (oi := { dst := some 164, op := Go.Op.move (Go.Operand.tmp 7), type := 25, pos := "law.go:113", after := #[{ on := 33, ground := Go.Ground.guard }], guard := some (33, false) }) ?_ rfl (by kernel_rfl) (by kernel_rfl) (by kernel_rfl) (fun _ _ _ h => h) (by rfl) (by assumption) ?_ ?_
            rotate_left
            · (intro w0 hS0; go_simp <;> (try with_reducible rfl))
            try simp only [Act.put, List.setIfInBounds_toArray, List.set_cons_zero, List.set_cons_succ]
            refine wpAnyH_read (i := 36) (oi := { dst := some 166, op := Go.Op.move (Go.Operand.tmp 8), type := 29, pos := "law.go:113", after := #[{ on := 33, ground := Go.Ground.guard }], guard := some (33, false) }) ?_ rfl (by kernel_rfl) (by kernel_rfl) (by kernel_rfl) (fun _ _ _ h => h) (by rfl) (by assumption) ?_ ?_
            rotate_left
            · (intro w0 hS0; go_simp <;> (try with_reducible rfl))
            try simp only [Act.put, List.setIfInBounds_toArray, List.set_cons_zero, List.set_cons_succ]
            refine wpAnyH_one (i := 35) (o := { dst := some 165, op := Go.Op.call { callee := Go.Callee.value (Go.Operand.func 24), args := #[Go.Operand.tmp 164], argTypes := #[25] }, type := 52, pos := "law.go:113", after := #[{ on := 34, ground := Go.Ground.data }, { on := 33, ground := Go.Ground.chain }, { on := 33, ground := Go.Ground.guard }], guard := some (33, false) }) (by kernel_rfl) rfl (by rfl) (fun K hK => ?_)
            go_simp
            refine (HAl.out _ hHeld).mono ?_
            rintro e wb ⟨⟨F1, S1, rfl, t1, u1, p1⟩, b9⟩
            have HFb := Lib.hid ((show Fr (fun _ => False) wc _ from hHeld).trans (Fr.of_below b9))
            have HS1 := Lib.hid (And.intro t1 (And.intro u1 p1))
            clear t1 u1 p1 b9
            go_wp2_with fail
            refine hK.out _ _ ?_ (fun hHeld => ?_)
            · exact HFb.out
            clear hK K
            try simp only [Act.put, List.setIfInBounds_toArray, List.set_cons_zero, List.set_cons_succ]
            refine wpAnyH_one (i := 37) (o := { dst := some 167, op := Go.Op.call { callee := Go.Callee.value (Go.Operand.func 22), args := #[Go.Operand.tmp 166, Go.Operand.const (Go.Value.int Go.IntKind.i64 0), Go.Operand.const (Go.Value.bool true)], argTypes := #[29, 3, 4] }, type := 30, pos := "law.go:113", after := #[{ on := 36, ground := Go.Ground.data }, { on := 35, ground := Go.Ground.chain }, { on := 33, ground := Go.Ground.guard }], guard := some (33, false) }) (by kernel_rfl) rfl (by rfl) (fun K hK => ?_)
            go_simp
            refine (HOa.out _ hHeld).mono ?_
            rintro e wd ⟨⟨v2, S2, rfl, o2, p2, u2⟩, b10⟩
            rw [show E.filter allD = E from List.filter_eq_self.2 fun _ _ => rfl] at p2
            obtain ⟨A10, c10, rfl⟩ := row_slice o2
            have hl2 : S2.length = nE := p2.length_eq.trans HKy.out.2.1
            rw [List.length_map, hl2] at o2 ⊢
            have HFd := Lib.hid ((show Fr (fun _ => False) wc _ from hHeld).trans (Fr.of_below b10))
            have HSm := Lib.hid (HSa.out wd HFd.out _ _ F1 S1 S2 A10 c10 nE (HS1.out.1.below b10) (fun e he => HS1.out.2.2.mem_iff.1 he) (fun e he => p2.mem_iff.1 he) (all_keys HKy.out.1 HS1.out.2.1 HS1.out.2.2 u2 p2) hl2 o2 (up_nodupS (List.pairwise_map.2 u2)))
            clear o2 p2 u2 b10 hl2
            go_wp2_with fail
            refine hK.out _ _ ?_ (fun hHeld => ?_)
            · exact HFd.out
            clear hK K
            try simp only [Act.put, List.setIfInBounds_toArray, List.set_cons_zero, List.set_cons_succ]
            refine wpAnyH_one (i := 38) (o := { dst := some 168, op := Go.Op.call { callee := Go.Callee.value (Go.Operand.func 23), args := #[Go.Operand.tmp 165, Go.Operand.tmp 167], argTypes := #[52, 30] }, type := 4, pos := "law.go:113", after := #[{ on := 35, ground := Go.Ground.data }, { on := 37, ground := Go.Ground.data }, { on := 37, ground := Go.Ground.chain }, { on := 33, ground := Go.Ground.guard }], guard := some (33, false) }) (by kernel_rfl) rfl (by rfl) (fun K hK => ?_)
            go_simp
            refine HSm.out.mono ?_
            rintro e we ⟨rfl, b11⟩
            have HFe := Lib.hid ((show Fr (fun _ => False) wc _ from hHeld).trans (Fr.of_below b11))
            clear b11 HSm HS1
            go_wp2_with fail
            refine hK.out _ _ ?_ (fun hHeld => ?_)
            · exact HFe.out
            clear hK K
            try simp only [Act.put, List.setIfInBounds_toArray, List.set_cons_zero, List.set_cons_succ]
            refine wpAnyH_read (i := 39) (oi := { dst := some 169, op := Go.Op.unOp Go.UnOp.not 4 (Go.Operand.tmp 168), type := 4, pos := "law.go:113", after := #[{ on := 38, ground := Go.Ground.data }, { on := 33, ground := Go.Ground.guard }], guard := some (33, false) }) ?_ rfl (by kernel_rfl) (by kernel_rfl) (by kernel_rfl) (fun _ _ _ h => h) (by rfl) (by assumption) ?_ ?_
            rotate_left
            · (intro w0 hS0; go_simp <;> (try with_reducible rfl))
            try simp only [Act.put, List.setIfInBounds_toArray, List.set_cons_zero, List.set_cons_succ]
            refine wpAnyH_read (i := 40) (oi := { dst := some 170, op := Go.Op.pick (Go.Operand.tmp 163) (Go.Operand.const (Go.Value.bool true)) (Go.Operand.tmp 169), type := 4, pos := "law.go:113", after := #[{ on := 33, ground := Go.Ground.data }, { on := 39, ground := Go.Ground.data }], guard := none }) ?_ rfl (by kernel_rfl) (by kernel_rfl) (by kernel_rfl) (fun _ _ _ h => h) (by rfl) (by assumption) ?_ ?_
            rotate_left
            · (intro w0 hS0; go_simp <;> (try with_reducible rfl))
            try simp only [Act.put, List.setIfInBounds_toArray, List.set_cons_zero, List.set_cons_succ]
            refine wpAnyH_read (i := 41) (oi := { dst := some 171, op := Go.Op.move (Go.Operand.tmp 170), type := 4, pos := "law.go:113", after := #[{ on := 40, ground := Go.Ground.data }, { on := 38, ground := Go.Ground.chain }], guard := none }) ?_ rfl (by kernel_rfl) (by kernel_rfl) (by kernel_rfl) (fun _ _ _ h => h) (by rfl) (by assumption) ?_ ?_
            rotate_left
            · (intro w0 hS0; go_simp <;> (try with_reducible rfl))
            try simp only [Act.put, List.setIfInBounds_toArray, List.set_cons_zero, List.set_cons_succ]
            refine wpAnyH_read (i := 42) (oi := { dst := some 172, op := Go.Op.move (Go.Operand.tmp 7), type := 25, pos := "law.go:113", after := #[{ on := 41, ground := Go.Ground.guard }], guard := some (41, false) }) ?_ rfl (by kernel_rfl) (by kernel_rfl) (by kernel_rfl) (fun _ _ _ h => h) (by rfl) (by assumption) ?_ ?_
            rotate_left
            · (intro w0 hS0; go_simp <;> (try with_reducible rfl))
            try simp only [Act.put, List.setIfInBounds_toArray, List.set_cons_zero, List.set_cons_succ]
            refine wpAnyH_read (i := 43) (oi := { dst := some 173, op := Go.Op.fieldAddr 34 (Go.Operand.tmp 10) 1, type := 0, pos := "law.go:113", after := #[{ on := 41, ground := Go.Ground.guard }], guard := some (41, false) }) ?_ rfl (by kernel_rfl) (by kernel_rfl) (by kernel_rfl) (fun _ _ _ h => h) (by rfl) (by assumption) ?_ ?_
            rotate_left
            · (intro w0 hS0; go_simp <;> (try with_reducible rfl))
            try simp only [Act.put, List.setIfInBounds_toArray, List.set_cons_zero, List.set_cons_succ]
            refine wpAnyH_read (i := 46) (oi := { dst := some 176, op := Go.Op.move (Go.Operand.tmp 8), type := 29, pos := "law.go:113", after := #[{ on := 41, ground := Go.Ground.guard }], guard := some (41, false) }) ?_ rfl (by kernel_rfl) (by kernel_rfl) (by kernel_rfl) (fun _ _ _ h => h) (by rfl) (by assumption) ?_ ?_
            rotate_left
            · (intro w0 hS0; go_simp <;> (try with_reducible rfl))
            try simp only [Act.put, List.setIfInBounds_toArray, List.set_cons_zero, List.set_cons_succ]
            refine wpAnyH_read (i := 47) (oi := { dst := some 177, op := Go.Op.fieldAddr 34 (Go.Operand.tmp 10) 1, type := 0, pos := "law.go:113", after := #[{ on := 41, ground := Go.Ground.guard }], guard := some (41, false) }) ?_ rfl (by kernel_rfl) (by kernel_rfl) (by kernel_rfl) (fun _ _ _ h => h) (by rfl) (by assumption) ?_ ?_
            rotate_left
            · (intro w0 hS0; go_simp <;> (try with_reducible rfl))
            try simp only [Act.put, List.setIfInBounds_toArray, List.set_cons_zero, List.set_cons_succ]
            refine wpAnyH_read (i := 44) (oi := { dst := some 174, op := Go.Op.load 3 (Go.Operand.tmp 173), type := 3, pos := "law.go:113", after := #[{ on := 43, ground := Go.Ground.data }, { on := 41, ground := Go.Ground.guard }], guard := some (41, false) }) ?_ rfl (by kernel_rfl) (by kernel_rfl) (by kernel_rfl) (fun _ _ _ h => h) (by rfl) (by assumption) ?_ ?_
            rotate_left
            · (intro w0 hS0; obtain ⟨q1, q2, q3⟩ := HBX.out w0 hS0; go_simp <;> (try with_reducible rfl))
            try simp only [Act.put, List.setIfInBounds_toArray, List.set_cons_zero, List.set_cons_succ]
            refine wpAnyH_read (i := 48) (oi := { dst := some 178, op := Go.Op.load 3 (Go.Operand.tmp 177), type := 3, pos := "law.go:113", after := #[{ on := 47, ground := Go.Ground.data }, { on := 41, ground := Go.Ground.guard }], guard := some (41, false) }) ?_ rfl (by kernel_rfl) (by kernel_rfl) (by kernel_rfl) (fun _ _ _ h => h) (by rfl) (by assumption) ?_ ?_
            rotate_left
            · (intro w0 hS0; obtain ⟨q1, q2, q3⟩ := HBX.out w0 hS0; go_simp <;> (try with_reducible rfl))
            try simp only [Act.put, List.setIfInBounds_toArray, List.set_cons_zero, List.set_cons_succ]
            refine wpAnyH_one (i := 45) (o := { dst := some 175, op := Go.Op.call { callee := Go.Callee.value (Go.Operand.func 25), args := #[Go.Operand.tmp 172, Go.Operand.tmp 174], argTypes := #[25, 3] }, type := 52, pos := "law.go:113", after := #[{ on := 42, ground := Go.Ground.data }, { on := 44, ground := Go.Ground.data }, { on := 41, ground := Go.Ground.chain }, { on := 41, ground := Go.Ground.guard }], guard := some (41, false) }) (by kernel_rfl) rfl (by rfl) (fun K hK => ?_)
            go_simp
            refine (HOf.out _ hHeld).mono ?_
            rintro e wf ⟨⟨F3, S3, rfl, t3, u3, p3⟩, b12⟩
            have HFf := Lib.hid ((show Fr (fun _ => False) wc _ from hHeld).trans (Fr.of_below b12))
            have HS3 := Lib.hid (And.intro t3 (And.intro u3 p3))
            clear t3 u3 p3 b12
            go_wp2_with fail
            refine hK.out _ _ ?_ (fun hHeld => ?_)
            · exact HFf.out
            clear hK K
            try simp only [Act.put, List.setIfInBounds_toArray, List.set_cons_zero, List.set_cons_succ]
            refine wpAnyH_one (i := 49) (o := { dst := some 179, op := Go.Op.call { callee := Go.Callee.value (Go.Operand.func 22), args := #[Go.Operand.tmp 176, Go.Operand.tmp 178, Go.Operand.const (Go.Value.bool false)], argTypes := #[29, 3, 4] }, type := 30, pos := "law.go:113", after := #[{ on := 46, ground := Go.Ground.data }, { on := 48, ground := Go.Ground.data }, { on := 45, ground := Go.Ground.chain }, { on := 41, ground := Go.Ground.guard }], guard := some (41, false) }) (by kernel_rfl) rfl (by rfl) (fun K hK => ?_)
            go_simp
            refine (HOd.out _ hHeld).mono ?_
            rintro e wg ⟨⟨v4, S4, rfl, o4, p4, u4⟩, b13⟩
            obtain ⟨A13, c13, rfl⟩ := row_slice o4
            have hl4 : S4.length = nO := p4.length_eq.trans HKy.out.2.2.1
            rw [List.length_map, hl4] at o4 ⊢
            have HFg := Lib.hid ((show Fr (fun _ => False) wc _ from hHeld).trans (Fr.of_below b13))
            have HSm := Lib.hid (HSa.out wg HFg.out _ _ F3 S3 S4 A13 c13 nO (HS3.out.1.below b13) (fun e he => (List.mem_filter.1 (HS3.out.2.2.mem_iff.1 he)).1) (fun e he => (List.mem_filter.1 (p4.mem_iff.1 he)).1) (own_keys HKy.out.1 HS3.out.2.1 HS3.out.2.2 u4 p4) hl4 o4 (up_nodupS (List.pairwise_map.2 u4)))
            clear o4 p4 u4 b13 hl4
            go_wp2_with fail
            refine hK.out _ _ ?_ (fun hHeld => ?_)
            · exact HFg.out
            clear hK K
            try simp only [Act.put, List.setIfInBounds_toArray, List.set_cons_zero, List.set_cons_succ]
            refine wpAnyH_one (i := 50) (o := { dst := some 180, op := Go.Op.call { callee := Go.Callee.value (Go.Operand.func 23), args := #[Go.Operand.tmp 175, Go.Operand.tmp 179], argTypes := #[52, 30] }, type := 4, pos := "law.go:113", after := #[{ on := 45, ground := Go.Ground.data }, { on := 49, ground := Go.Ground.data }, { on := 49, ground := Go.Ground.chain }, { on := 41, ground := Go.Ground.guard }], guard := some (41, false) }) (by kernel_rfl) rfl (by rfl) (fun K hK => ?_)
            go_simp
            refine HSm.out.mono ?_
            rintro e wh ⟨rfl, b14⟩
            have HFh := Lib.hid ((show Fr (fun _ => False) wc _ from hHeld).trans (Fr.of_below b14))
            clear b14 HSm HS3
            go_wp2_with fail
            refine hK.out _ _ ?_ (fun hHeld => ?_)
            · exact HFh.out
            clear hK K
            try simp only [Act.put, List.setIfInBounds_toArray, List.set_cons_zero, List.set_cons_succ]
            refine wpAnyH_read (i := 51) (oi := { dst := some 181, op := Go.Op.unOp Go.UnOp.not 4 (Go.Operand.tmp 180), type := 4, pos := "law.go:113", after := #[{ on := 50, ground := Go.Ground.data }, { on := 41, ground := Go.Ground.guard }], guard := some (41, false) }) ?_ rfl (by kernel_rfl) (by kernel_rfl) (by kernel_rfl) (fun _ _ _ h => h) (by rfl) (by assumption) ?_ ?_
            rotate_left
            · (intro w0 hS0; go_simp <;> (try with_reducible rfl))
            try simp only [Act.put, List.setIfInBounds_toArray, List.set_cons_zero, List.set_cons_succ]
            refine wpAnyH_read (i := 52) (oi := { dst := some 182, op := Go.Op.pick (Go.Operand.tmp 171) (Go.Operand.const (Go.Value.bool true)) (Go.Operand.tmp 181), type := 4, pos := "law.go:113", after := #[{ on := 41, ground := Go.Ground.data }, { on := 51, ground := Go.Ground.data }], guard := none }) ?_ rfl (by kernel_rfl) (by kernel_rfl) (by kernel_rfl) (fun _ _ _ h => h) (by rfl) (by assumption) ?_ ?_
            rotate_left
            · (intro w0 hS0; go_simp <;> (try with_reducible rfl))
            try simp only [Act.put, List.setIfInBounds_toArray, List.set_cons_zero, List.set_cons_succ]
            refine wpAnyH_done (by kernel_rfl) ?_ _
            go_wp2_with fail
            go_roundw
            case rel => exact ⟨i + 1, by go_num, by omega, Lib.hid ⟨_, _, HT.out.two.below (HFh.out.below (Nat.le_refl _) fun _ _ e => e.elim), HR3.out⟩⟩
            case measure => simp [RowKit.intOf]; omega
        | some e0 =>
          cases hgD : getD E (foldL s2.data.toList) with
          | none => rw [hgE, hgD] at hgg; simp at hgg
          | some d0 =>
            have hr1 : R1 e0.r d0.x := by
              rw [hgE, hgD] at hgg
              rcases hgg with ⟨a, _⟩ | ⟨r, x, a, b, c⟩
              · cases a
              · cases a; cases b; exact c
            rw [hgE] at HGp
            rw [hgD] at HGd
            have he0 := (getE_mem hgE).1
            have hd0 := (getD_mem hgD).1
            have HNg := Lib.hid (fun W (hW : Fr (fun _ => False) wc W) => name_any ((h1.each e0 he0).fr hW fun _ _ e => e).1)
            have HNd := Lib.hid (fun W (hW : Fr (fun _ => False) wc W) => named_at ((h4.each d0 hd0).fr hW fun _ _ e => e).1)
            rw [hr1.1] at HNg
            simp only [ptE, ptD, Option.map_some, Option.isSome_some] at HGp HGd
            clear h1 h2 h4 h5 h7 kb hup hre3 hgA hgX hgg hgE hgD hQA hEX hQE hnE hnO hnOE hv9 hcut hr1 he0 hd0
            go_wp2_with fail
            refine HGp.out.mono ?_
            rintro e w6 ⟨rfl, b6⟩
            have HF6 := Lib.hid (Fr.of_below (X := fun _ => False) b6)
            obtain ⟨q1, q2, q3⟩ := HBX.out w6 HF6.out
            clear b6
            go_wp2_with fail
            refine (HGd.out w6 HF6.out).mono ?_
            rintro e w7 ⟨rfl, b7⟩
            have HF7 := Lib.hid (HF6.out.trans (Fr.of_below b7))
            clear b7 q1 q2 q3
            go_wp2_with fail
            refine wp_region_held_drew (S := fun W => Fr (fun _ => False) wc W) (by kernel_rfl) (by exact HF7.out.drew) (fun hHeld => ?_)
            refine wpAnyH_read (i := 0) (oi := { dst := some 130, op := Go.Op.move (Go.Operand.tmp 16), type := 4, pos := "law.go:113", after := #[], guard := none }) ?_ rfl (by kernel_rfl) (by kernel_rfl) (by kernel_rfl) (fun _ _ _ h => h) (by rfl) (by assumption) ?_ ?_
            rotate_left
            · (intro w0 hS0; go_simp <;> (try with_reducible rfl))
            try simp only [Act.put, List.setIfInBounds_toArray, List.set_cons_zero, List.set_cons_succ]
            refine wpAnyH_read (i := 1) (oi := { dst := some 131, op := Go.Op.move (Go.Operand.tmp 17), type := 40, pos := "law.go:113", after := #[], guard := none }) ?_ rfl (by kernel_rfl) (by kernel_rfl) (by kernel_rfl) (fun _ _ _ h => h) (by rfl) (by assumption) ?_ ?_
            rotate_left
            · (intro w0 hS0; go_simp <;> (try with_reducible rfl))
            try simp only [Act.put, List.setIfInBounds_toArray, List.set_cons_zero, List.set_cons_succ]
            refine wpAnyH_read (i := 2) (oi := { dst := some 132, op := Go.Op.binOp Go.BinOp.neq 40 (Go.Operand.tmp 131) (Go.Operand.const (Go.Value.pointer none)) 40, type := 4, pos := "law.go:113", after := #[{ on := 1, ground := Go.Ground.data }], guard := none }) ?_ rfl (by kernel_rfl) (by kernel_rfl) (by kernel_rfl) (fun _ _ _ h => h) (by rfl) (by assumption) ?_ ?_
            rotate_left
            · (intro w0 hS0; go_simp <;> (try with_reducible rfl))
            try simp only [Act.put, List.setIfInBounds_toArray, List.set_cons_zero, List.set_cons_succ]
            refine wpAnyH_read (i := 3) (oi := { dst := some 133, op := Go.Op.binOp Go.BinOp.neq 4 (Go.Operand.tmp 130) (Go.Operand.tmp 132) 4, type := 4, pos := "law.go:113", after := #[{ on := 0, ground := Go.Ground.data }, { on := 2, ground := Go.Ground.data }], guard := none }) ?_ rfl (by kernel_rfl) (by kernel_rfl) (by kernel_rfl) (fun _ _ _ h => h) (by rfl) (by assumption) ?_ ?_
            rotate_left
            · (intro w0 hS0; go_simp <;> (try with_reducible rfl))
            try simp only [Act.put, List.setIfInBounds_toArray, List.set_cons_zero, List.set_cons_succ]
            refine wpAnyH_read (i := 4) (oi := { dst := some 134, op := Go.Op.move (Go.Operand.tmp 133), type := 4, pos := "law.go:113", after := #[{ on := 3, ground := Go.Ground.data }], guard := none }) ?_ rfl (by kernel_rfl) (by kernel_rfl) (by kernel_rfl) (fun _ _ _ h => h) (by rfl) (by assumption) ?_ ?_
            rotate_left
            · (intro w0 hS0; go_simp <;> (try with_reducible rfl))
            try simp only [Act.put, List.setIfInBounds_toArray, List.set_cons_zero, List.set_cons_succ]
            refine wpAnyH_read (i := 5) (oi := { dst := some 135, op := Go.Op.move (Go.Operand.tmp 15), type := 37, pos := "law.go:113", after := #[{ on := 4, ground := Go.Ground.guard }], guard := some (4, false) }) ?_ rfl (by kernel_rfl) (by kernel_rfl) (by kernel_rfl) (fun _ _ _ h => h) (by rfl) (by assumption) ?_ ?_
            rotate_left
            · (intro w0 hS0; go_simp <;> (try with_reducible rfl))
            try simp only [Act.put, List.setIfInBounds_toArray, List.set_cons_zero, List.set_cons_succ]
            refine wpAnyH_read (i := 7) (oi := { dst := some 137, op := Go.Op.move (Go.Operand.tmp 17), type := 40, pos := "law.go:113", after := #[{ on := 4, ground := Go.Ground.guard }], guard := some (4, false) }) ?_ rfl (by kernel_rfl) (by kernel_rfl) (by kernel_rfl) (fun _ _ _ h => h) (by rfl) (by assumption) ?_ ?_
            rotate_left
            · (intro w0 hS0; go_simp <;> (try with_reducible rfl))
            try simp only [Act.put, List.setIfInBounds_toArray, List.set_cons_zero, List.set_cons_succ]
            refine wpAnyH_one (i := 6) (o := { dst := some 136, op := Go.Op.call { callee := Go.Callee.value (Go.Operand.func 16), args := #[Go.Operand.tmp 135], argTypes := #[37] }, type := 9, pos := "law.go:113", after := #[{ on := 5, ground := Go.Ground.data }, { on := 4, ground := Go.Ground.chain }, { on := 4, ground := Go.Ground.guard }], guard := some (4, false) }) (by kernel_rfl) rfl (by rfl) (fun K hK => ?_)
            go_simp
            refine (HNg.out _ hHeld).mono ?_
            rintro e w8 ⟨rfl, rfl⟩
            go_wp2_with fail
            refine hK.out _ _ ?_ (fun hHeld => ?_)
            · exact hHeld
            clear hK K
            try simp only [Act.put, List.setIfInBounds_toArray, List.set_cons_zero, List.set_cons_succ]
            refine wpAnyH_one (i := 8) (o := { dst := some 138, op := Go.Op.call { callee := Go.Callee.value (Go.Operand.func 17), args := #[Go.Operand.tmp 137], argTypes := #[40] }, type := 9, pos := "law.go:113", after := #[{ on := 7, ground := Go.Ground.data }, { on := 6, ground := Go.Ground.chain }, { on := 4, ground := Go.Ground.guard }], guard := some (4, false) }) (by kernel_rfl) rfl (by rfl) (fun K hK => ?_)
            go_simp
            refine (HNd.out _ hHeld).mono ?_
            rintro e w8 ⟨rfl, rfl⟩
            go_wp2_with fail
            refine hK.out _ _ ?_ (fun hHeld => ?_)
            · exact hHeld
            clear hK K
            try simp only [Act.put, List.setIfInBounds_toArray, List.set_cons_zero, List.set_cons_succ]
            refine wpAnyH_read (i := 9) (oi := { dst := some 139, op := Go.Op.binOp Go.BinOp.neq 9 (Go.Operand.tmp 136) (Go.Operand.tmp 138) 9, type := 4, pos := "law.go:113", after := #[{ on := 6, ground := Go.Ground.data }, { on := 8, ground := Go.Ground.data }, { on := 4, ground := Go.Ground.guard }], guard := some (4, false) }) ?_ rfl (by kernel_rfl) (by kernel_rfl) (by kernel_rfl) (fun _ _ _ h => h) (by rfl) (by assumption) ?_ ?_
            rotate_left
            · (intro w0 hS0; go_simp <;> (try with_reducible rfl))
            try simp only [Act.put, List.setIfInBounds_toArray, List.set_cons_zero, List.set_cons_succ]
            refine wpAnyH_read (i := 10) (oi := { dst := some 140, op := Go.Op.pick (Go.Operand.tmp 134) (Go.Operand.const (Go.Value.bool true)) (Go.Operand.tmp 139), type := 4, pos := "law.go:113", after := #[{ on := 4, ground := Go.Ground.data }, { on := 9, ground := Go.Ground.data }], guard := none }) ?_ rfl (by kernel_rfl) (by kernel_rfl) (by kernel_rfl) (fun _ _ _ h => h) (by rfl) (by assumption) ?_ ?_
            rotate_left
            · (intro w0 hS0; go_simp <;> (try with_reducible rfl))
            try simp only [Act.put, List.setIfInBounds_toArray, List.set_cons_zero, List.set_cons_succ]
            refine wpAnyH_read (i := 11) (oi := { dst := some 141, op := Go.Op.move (Go.Operand.tmp 140), type := 4, pos := "law.go:113", after := #[{ on := 10, ground := Go.Ground.data }, { on := 8, ground := Go.Ground.chain }], guard := none }) ?_ rfl (by kernel_rfl) (by kernel_rfl) (by kernel_rfl) (fun _ _ _ h => h) (by rfl) (by assumption) ?_ ?_
            rotate_left
            · (intro w0 hS0; go_simp <;> (try with_reducible rfl))
            try simp only [Act.put, List.setIfInBounds_toArray, List.set_cons_zero, List.set_cons_succ]
            refine wpAnyH_read (i := 12) (oi := { dst := some 142, op := Go.Op.move (Go.Operand.tmp 7), type := 25, pos := "law.go:113", after := #[{ on := 11, ground := Go.Ground.guard }], guard := some (11, false) }) ?_ rfl (by kernel_rfl) (by kernel_rfl) (by kernel_rfl) (fun _ _ _ h => h) (by rfl) (by assumption) ?_ ?_
            rotate_left
            · (intro w0 hS0; go_simp <;> (try with_reducible rfl))
            try simp only [Act.put, List.setIfInBounds_toArray, List.set_cons_zero, List.set_cons_succ]
            refine wpAnyH_read (i := 14) (oi := { dst := some 144, op := Go.Op.move (Go.Operand.tmp 8), type := 29, pos := "law.go:113", after := #[{ on := 11, ground := Go.Ground.guard }], guard := some (11, false) }) ?_ rfl (by kernel_rfl) (by kernel_rfl) (by kernel_rfl) (fun _ _ _ h => h) (by rfl) (by assumption) ?_ ?_
            rotate_left
            · (intro w0 hS0; go_simp <;> (try with_reducible rfl))
            try simp only [Act.put, List.setIfInBounds_toArray, List.set_cons_zero, List.set_cons_succ]
            refine wpAnyH_read (i := 15) (oi := { dst := some 145, op := Go.Op.nilCheck (Go.Operand.tmp 144), type := 0, pos := "law.go:113", after := #[{ on := 14, ground := Go.Ground.data }, { on := 11, ground := Go.Ground.guard }], guard := some (11, false) }) ?_ rfl (by kernel_rfl) (by kernel_rfl) (by kernel_rfl) (fun _ _ _ h => h) (by rfl) (by assumption) ?_ ?_
            rotate_left
            · (intro w0 hS0; go_simp <;> (try with_reducible rfl))
            try simp only [Act.put, List.setIfInBounds_toArray, List.set_cons_zero, List.set_cons_succ]
            refine wpAnyH_read (i := 16) (oi := { dst := some 146, op := Go.Op.fieldAddr 32 (Go.Operand.tmp 145) 3, type := 0, pos := "law.go:113", after := #[{ on := 15, ground := Go.Ground.data }, { on := 11, ground := Go.Ground.guard }], guard := some (11, false) }) ?_ rfl (by kernel_rfl) (by kernel_rfl) (by kernel_rfl) (fun _ _ _ h => h) (by rfl) (by assumption) ?_ ?_
            rotate_left
            · (intro w0 hS0; go_simp <;> (try with_reducible rfl))
            try simp only [Act.put, List.setIfInBounds_toArray, List.set_cons_zero, List.set_cons_succ]
            refine wpAnyH_read (i := 17) (oi := { dst := some 147, op := Go.Op.load 30 (Go.Operand.tmp 146), type := 30, pos := "law.go:113", after := #[{ on := 16, ground := Go.Ground.data }, { on := 11, ground := Go.Ground.guard }], guard := some (11, false) }) ?_ rfl (by kernel_rfl) (by kernel_rfl) (by kernel_rfl) (fun _ _ _ h => h) (by rfl) (by assumption) ?_ ?_
            rotate_left
            · (intro w0 hS0; obtain ⟨q1, q2, q3⟩ := HBX.out w0 hS0; go_simp <;> (try with_reducible rfl))
            try simp only [Act.put, List.setIfInBounds_toArray, List.set_cons_zero, List.set_cons_succ]
            refine wpAnyH_read (i := 18) (oi := { dst := some 148, op := Go.Op.call { callee := Go.Callee.builtin Go.Builtin.len, args := #[Go.Operand.tmp 147], argTypes := #[30] }, type := 3, pos := "law.go:113", after := #[{ on := 17, ground := Go.Ground.data }, { on := 11, ground := Go.Ground.guard }], guard := some (11, false) }) ?_ rfl (by kernel_rfl) (by kernel_rfl) (by kernel_rfl) (fun _ _ _ h => h) (by rfl) (by assumption) ?_ ?_
            rotate_left
            · (intro w0 hS0; go_simp <;> (try with_reducible rfl))
            try simp only [Act.put, List.setIfInBounds_toArray, List.set_cons_zero, List.set_cons_succ]
            refine wpAnyH_one (i := 13) (o := { dst := some 143, op := Go.Op.call { callee := Go.Callee.value (Go.Operand.func 20), args := #[Go.Operand.tmp 142], argTypes := #[25] }, type := 3, pos := "law.go:113", after := #[{ on := 12, ground := Go.Ground.data }, { on := 11, ground := Go.Ground.chain }, { on := 11, ground := Go.Ground.guard }], guard := some (11, false) }) (by kernel_rfl) rfl (by rfl) (fun K hK => ?_)
            go_simp
            refine (HLn.out _ hHeld).mono ?_
            rintro e w8 ⟨rfl, rfl⟩
            go_wp2_with fail
            refine hK.out _ _ ?_ (fun hHeld => ?_)
            · exact hHeld
            clear hK K
            try simp only [Act.put, List.setIfInBounds_toArray, List.set_cons_zero, List.set_cons_succ]
            refine wpAnyH_read (i := 19) (oi := { dst := some 149, op := Go.Op.binOp Go.BinOp.neq 3 (Go.Operand.tmp 143) (Go.Operand.tmp 148) 3, type := 4, pos := "law.go:113", after := #[{ on := 13, ground := Go.Ground.data }, { on := 18, ground := Go.Ground.data }, { on := 11, ground := Go.Ground.guard }], guard := some (11, false) }) ?_ rfl (by kernel_rfl) (by kernel_rfl) (by kernel_rfl) (fun _ _ _ h => h) (by rfl) (by assumption) ?_ ?_
            rotate_left
            · (intro w0 hS0; go_simp <;> (try with_reducible rfl))
            try simp only [Act.put, List.setIfInBounds_toArray, List.set_cons_zero, List.set_cons_succ]
            refine wpAnyH_read (i := 20) (oi := { dst := some 150, op := Go.Op.pick (Go.Operand.tmp 141) (Go.Operand.const (Go.Value.bool true)) (Go.Operand.tmp 149), type := 4, pos := "law.go:113", after := #[{ on := 11, ground := Go.Ground.data }, { on := 19, ground := Go.Ground.data }], guard := none }) ?_ rfl (by kernel_rfl) (by kernel_rfl) (by kernel_rfl) (fun _ _ _ h => h) (by rfl) (by assumption) ?_ ?_
            rotate_left
            · (intro w0 hS0; go_simp <;> (try with_reducible rfl))
            try simp only [Act.put, List.setIfInBounds_toArray, List.set_cons_zero, List.set_cons_succ]
            refine wpAnyH_read (i := 21) (oi := { dst := some 151, op := Go.Op.move (Go.Operand.tmp 150), type := 4, pos := "law.go:113", after := #[{ on := 20, ground := Go.Ground.data }, { on := 13, ground := Go.Ground.chain }], guard := none }) ?_ rfl (by kernel_rfl) (by kernel_rfl) (by kernel_rfl) (fun _ _ _ h => h) (by rfl) (by assumption) ?_ ?_
            rotate_left
            · (intro w0 hS0; go_simp <;> (try with_reducible rfl))
            try simp only [Act.put, List.setIfInBounds_toArray, List.set_cons_zero, List.set_cons_succ]
            refine wpAnyH_read (i := 22) (oi := { dst := some 152, op := Go.Op.move (Go.Operand.tmp 7), type := 25, pos := "law.go:113", after := #[{ on := 21, ground := Go.Ground.guard }], guard := some (21, false) }) ?_ rfl (by kernel_rfl) (by kernel_rfl) (by kernel_rfl) (fun _ _ _ h => h) (by rfl) (by assumption) ?_ ?_
            rotate_left
            · (intro w0 hS0; go_simp <;> (try with_reducible rfl))
            try simp only [Act.put, List.setIfInBounds_toArray, List.set_cons_zero, List.set_cons_succ]
            refine wpAnyH_read (i := 23) (oi := { dst := some 153, op := Go.Op.fieldAddr 34 (Go.Operand.tmp 10) 1, type := 0, pos := "law.go:113", after := #[{ on := 21, ground := Go.Ground.guard }], guard := some (21, false) }) ?_ rfl (by kernel_rfl) (by kernel_rfl) (by kernel_rfl) (fun _ _ _ h => h) (by rfl) (by assumption) ?_ ?_
            rotate_left
            · (intro w0 hS0; go_simp <;> (try with_reducible rfl))
            try simp only [Act.put, List.setIfInBounds_toArray, List.set_cons_zero, List.set_cons_succ]
            refine wpAnyH_read (i := 26) (oi := { dst := some 156, op := Go.Op.move (Go.Operand.tmp 8), type := 29, pos := "law.go:113", after := #[{ on := 21, ground := Go.Ground.guard }], guard := some (21, false) }) ?_ rfl (by kernel_rfl) (by kernel_rfl) (by kernel_rfl) (fun _ _ _ h => h) (by rfl) (by assumption) ?_ ?_
            rotate_left
            · (intro w0 hS0; go_simp <;> (try with_reducible rfl))
            try simp only [Act.put, List.setIfInBounds_toArray, List.set_cons_zero, List.set_cons_succ]
            refine wpAnyH_read (i := 27) (oi := { dst := some 157, op := Go.Op.fieldAddr 34 (Go.Operand.tmp 10) 1, type := 0, pos := "law.go:113", after := #[{ on := 21, ground := Go.Ground.guard }], guard := some (21, false) }) ?_ rfl (by kernel_rfl) (by kernel_rfl) (by kernel_rfl) (fun _ _ _ h => h) (by rfl) (by assumption) ?_ ?_
            rotate_left
            · (intro w0 hS0; go_simp <;> (try with_reducible rfl))
            try simp only [Act.put, List.setIfInBounds_toArray, List.set_cons_zero, List.set_cons_succ]
            refine wpAnyH_read (i := 24) (oi := { dst := some 154, op := Go.Op.load 3 (Go.Operand.tmp 153), type := 3, pos := "law.go:113", after := #[{ on := 23, ground := Go.Ground.data }, { on := 21, ground := Go.Ground.guard }], guard := some (21, false) }) ?_ rfl (by kernel_rfl) (by kernel_rfl) (by kernel_rfl) (fun _ _ _ h => h) (by rfl) (by assumption) ?_ ?_
            rotate_left
            · (intro w0 hS0; obtain ⟨q1, q2, q3⟩ := HBX.out w0 hS0; go_simp <;> (try with_reducible rfl))
            try simp only [Act.put, List.setIfInBounds_toArray, List.set_cons_zero, List.set_cons_succ]
            refine wpAnyH_read (i := 28) (oi := { dst := some 158, op := Go.Op.load 3 (Go.Operand.tmp 157), type := 3, pos := "law.go:113", after := #[{ on := 27, ground := Go.Ground.data }, { on := 21, ground := Go.Ground.guard }], guard := some (21, false) }) ?_ rfl (by kernel_rfl) (by kernel_rfl) (by kernel_rfl) (fun _ _ _ h => h) (by rfl) (by assumption) ?_ ?_
            rotate_left
            · (intro w0 hS0; obtain ⟨q1, q2, q3⟩ := HBX.out w0 hS0; go_simp <;> (try with_reducible rfl))
            try simp only [Act.put, List.setIfInBounds_toArray, List.set_cons_zero, List.set_cons_succ]
            refine wpAnyH_one (i := 25) (o := { dst := some 155, op := Go.Op.call { callee := Go.Callee.value (Go.Operand.func 21), args := #[Go.Operand.tmp 152, Go.Operand.tmp 154], argTypes := #[25, 3] }, type := 3, pos := "law.go:113", after := #[{ on := 22, ground := Go.Ground.data }, { on := 24, ground := Go.Ground.data }, { on := 21, ground := Go.Ground.chain }, { on := 21, ground := Go.Ground.guard }], guard := some (21, false) }) (by kernel_rfl) rfl (by rfl) (fun K hK => ?_)
            go_simp
            refine (HCt.out _ hHeld).mono ?_
            rintro e w8 ⟨rfl, rfl⟩
            go_wp2_with fail
            refine hK.out _ _ ?_ (fun hHeld => ?_)
            · exact hHeld
            clear hK K
            try simp only [Act.put, List.setIfInBounds_toArray, List.set_cons_zero, List.set_cons_succ]
            refine wpAnyH_one (i := 29) (o := { dst := some 159, op := Go.Op.call { callee := Go.Callee.value (Go.Operand.func 22), args := #[Go.Operand.tmp 156, Go.Operand.tmp 158, Go.Operand.const (Go.Value.bool false)], argTypes := #[29, 3, 4] }, type := 30, pos := "law.go:113", after := #[{ on := 26, ground := Go.Ground.data }, { on := 28, ground := Go.Ground.data }, { on := 25, ground := Go.Ground.chain }, { on := 21, ground := Go.Ground.guard }], guard := some (21, false) }) (by kernel_rfl) rfl (by rfl) (fun K hK => ?_)
            go_simp
            refine (HOd.out _ hHeld).mono ?_
            rintro e wa ⟨⟨vO, SO, rfl, oO, pO, uO⟩, bO⟩
            obtain ⟨AO, cO, rfl⟩ := row_slice oO
            rw [List.length_map, pO.length_eq, HKy.out.2.2.1]
            have HFa := Lib.hid ((show Fr (fun _ => False) wc _ from hHeld).trans (Fr.of_below bO))
            clear oO pO uO bO
            go_wp2_with fail
            refine hK.out _ _ ?_ (fun hHeld => ?_)
            · exact HFa.out
            clear hK K
            try simp only [Act.put, List.setIfInBounds_toArray, List.set_cons_zero, List.set_cons_succ]
            refine wpAnyH_read (i := 30) (oi := { dst := some 160, op := Go.Op.call { callee := Go.Callee.builtin Go.Builtin.len, args := #[Go.Operand.tmp 159], argTypes := #[30] }, type := 3, pos := "law.go:113", after := #[{ on := 29, ground := Go.Ground.data }, { on := 21, ground := Go.Ground.guard }], guard := some (21, false) }) ?_ rfl (by kernel_rfl) (by kernel_rfl) (by kernel_rfl) (fun _ _ _ h => h) (by rfl) (by assumption) ?_ ?_
            rotate_left
            · (intro w0 hS0; go_simp <;> (try with_reducible rfl))
            try simp only [Act.put, List.setIfInBounds_toArray, List.set_cons_zero, List.set_cons_succ]
            refine wpAnyH_read (i := 31) (oi := { dst := some 161, op := Go.Op.binOp Go.BinOp.neq 3 (Go.Operand.tmp 155) (Go.Operand.tmp 160) 3, type := 4, pos := "law.go:113", after := #[{ on := 25, ground := Go.Ground.data }, { on := 30, ground := Go.Ground.data }, { on := 21, ground := Go.Ground.guard }], guard := some (21, false) }) ?_ rfl (by kernel_rfl) (by kernel_rfl) (by kernel_rfl) (fun _ _ _ h => h) (by rfl) (by assumption) ?_ ?_
            rotate_left
            · (intro w0 hS0; go_simp <;> (try with_reducible rfl))
            try simp only [Act.put, List.setIfInBounds_toArray, List.set_cons_zero, List.set_cons_succ]
            refine wpAnyH_read (i := 32) (oi := { dst := some 162, op := Go.Op.pick (Go.Operand.tmp 151) (Go.Operand.const (Go.Value.bool true)) (Go.Operand.tmp 161), type := 4, pos := "law.go:113", after := #[{ on := 21, ground := Go.Ground.data }, { on := 31, ground := Go.Ground.data }], guard := none }) ?_ rfl (by kernel_rfl) (by kernel_rfl) (by kernel_rfl) (fun _ _ _ h => h) (by rfl) (by assumption) ?_ ?_
            rotate_left
            · (intro w0 hS0; go_simp <;> (try with_reducible rfl))
            try simp only [Act.put, List.setIfInBounds_toArray, List.set_cons_zero, List.set_cons_succ]
            refine wpAnyH_read (i := 33) (oi := { dst := some 163, op := Go.Op.move (Go.Operand.tmp 162), type := 4, pos := "law.go:113", after := #[{ on := 32, ground := Go.Ground.data }, { on := 29, ground := Go.Ground.chain }], guard := none }) ?_ rfl (by kernel_rfl) (by kernel_rfl) (by kernel_rfl) (fun _ _ _ h => h) (by rfl) (by assumption) ?_ ?_
            rotate_left
            · (intro w0 hS0; go_simp <;> (try with_reducible rfl))
            try simp only [Act.put, List.setIfInBounds_toArray, List.set_cons_zero, List.set_cons_succ]
            refine wpAnyH_read (i := 34) (oi := { dst := some 164, op := Go.Op.move (Go.Operand.tmp 7), type := 25, pos := "law.go:113", after := #[{ on := 33, ground := Go.Ground.guard }], guard := some (33, false) }) ?_ rfl (by kernel_rfl) (by kernel_rfl) (by kernel_rfl) (fun _ _ _ h => h) (by rfl) (by assumption) ?_ ?_
            rotate_left
            · (intro w0 hS0; go_simp <;> (try with_reducible rfl))
            try simp only [Act.put, List.setIfInBounds_toArray, List.set_cons_zero, List.set_cons_succ]
            refine wpAnyH_read (i := 36) (oi := { dst := some 166, op := Go.Op.move (Go.Operand.tmp 8), type := 29, pos := "law.go:113", after := #[{ on := 33, ground := Go.Ground.guard }], guard := some (33, false) }) ?_ rfl (by kernel_rfl) (by kernel_rfl) (by kernel_rfl) (fun _ _ _ h => h) (by rfl) (by assumption) ?_ ?_
            rotate_left
            · (intro w0 hS0; go_simp <;> (try with_reducible rfl))
            try simp only [Act.put, List.setIfInBounds_toArray, List.set_cons_zero, List.set_cons_succ]
            refine wpAnyH_one (i := 35) (o := { dst := some 165, op := Go.Op.call { callee := Go.Callee.value (Go.Operand.func 24), args := #[Go.Operand.tmp 164], argTypes := #[25] }, type := 52, pos := "law.go:113", after := #[{ on := 34, ground := Go.Ground.data }, { on := 33, ground := Go.Ground.chain }, { on := 33, ground := Go.Ground.guard }], guard := some (33, false) }) (by kernel_rfl) rfl (by rfl) (fun K hK => ?_)
            go_simp
            refine (HAl.out _ hHeld).mono ?_
            rintro e wb ⟨⟨F1, S1, rfl, t1, u1, p1⟩, b9⟩
            have HFb := Lib.hid ((show Fr (fun _ => False) wc _ from hHeld).trans (Fr.of_below b9))
            have HS1 := Lib.hid (And.intro t1 (And.intro u1 p1))
            clear t1 u1 p1 b9
            go_wp2_with fail
            refine hK.out _ _ ?_ (fun hHeld => ?_)
            · exact HFb.out
            clear hK K
            try simp only [Act.put, List.setIfInBounds_toArray, List.set_cons_zero, List.set_cons_succ]
            refine wpAnyH_one (i := 37) (o := { dst := some 167, op := Go.Op.call { callee := Go.Callee.value (Go.Operand.func 22), args := #[Go.Operand.tmp 166, Go.Operand.const (Go.Value.int Go.IntKind.i64 0), Go.Operand.const (Go.Value.bool true)], argTypes := #[29, 3, 4] }, type := 30, pos := "law.go:113", after := #[{ on := 36, ground := Go.Ground.data }, { on := 35, ground := Go.Ground.chain }, { on := 33, ground := Go.Ground.guard }], guard := some (33, false) }) (by kernel_rfl) rfl (by rfl) (fun K hK => ?_)
            go_simp
            refine (HOa.out _ hHeld).mono ?_
            rintro e wd ⟨⟨v2, S2, rfl, o2, p2, u2⟩, b10⟩
            rw [show E.filter allD = E from List.filter_eq_self.2 fun _ _ => rfl] at p2
            obtain ⟨A10, c10, rfl⟩ := row_slice o2
            have hl2 : S2.length = nE := p2.length_eq.trans HKy.out.2.1
            rw [List.length_map, hl2] at o2 ⊢
            have HFd := Lib.hid ((show Fr (fun _ => False) wc _ from hHeld).trans (Fr.of_below b10))
            have HSm := Lib.hid (HSa.out wd HFd.out _ _ F1 S1 S2 A10 c10 nE (HS1.out.1.below b10) (fun e he => HS1.out.2.2.mem_iff.1 he) (fun e he => p2.mem_iff.1 he) (all_keys HKy.out.1 HS1.out.2.1 HS1.out.2.2 u2 p2) hl2 o2 (up_nodupS (List.pairwise_map.2 u2)))
            clear o2 p2 u2 b10 hl2
            go_wp2_with fail
            refine hK.out _ _ ?_ (fun hHeld => ?_)
            · exact HFd.out
            clear hK K
            try simp only [Act.put, List.setIfInBounds_toArray, List.set_cons_zero, List.set_cons_succ]
            refine wpAnyH_one (i := 38) (o := { dst := some 168, op := Go.Op.call { callee := Go.Callee.value (Go.Operand.func 23), args := #[Go.Operand.tmp 165, Go.Operand.tmp 167], argTypes := #[52, 30] }, type := 4, pos := "law.go:113", after := #[{ on := 35, ground := Go.Ground.data }, { on := 37, ground := Go.Ground.data }, { on := 37, ground := Go.Ground.chain }, { on := 33, ground := Go.Ground.guard }], guard := some (33, false) }) (by kernel_rfl) rfl (by rfl) (fun K hK => ?_)
            go_simp
            refine HSm.out.mono ?_
            rintro e we ⟨rfl, b11⟩
            have HFe := Lib.hid ((show Fr (fun _ => False) wc _ from hHeld).trans (Fr.of_below b11))
            clear b11 HSm HS1
            go_wp2_with fail
            refine hK.out _ _ ?_ (fun hHeld => ?_)
            · exact HFe.out
            clear hK K
            try simp only [Act.put, List.setIfInBounds_toArray, List.set_cons_zero, List.set_cons_succ]
            refine wpAnyH_read (i := 39) (oi := { dst := some 169, op := Go.Op.unOp Go.UnOp.not 4 (Go.Operand.tmp 168), type := 4, pos := "law.go:113", after := #[{ on := 38, ground := Go.Ground.data }, { on := 33, ground := Go.Ground.guard }], guard := some (33, false) }) ?_ rfl (by kernel_rfl) (by kernel_rfl) (by kernel_rfl) (fun _ _ _ h => h) (by rfl) (by assumption) ?_ ?_
            rotate_left
            · (intro w0 hS0; go_simp <;> (try with_reducible rfl))
            try simp only [Act.put, List.setIfInBounds_toArray, List.set_cons_zero, List.set_cons_succ]
            refine wpAnyH_read (i := 40) (oi := { dst := some 170, op := Go.Op.pick (Go.Operand.tmp 163) (Go.Operand.const (Go.Value.bool true)) (Go.Operand.tmp 169), type := 4, pos := "law.go:113", after := #[{ on := 33, ground := Go.Ground.data }, { on := 39, ground := Go.Ground.data }], guard := none }) ?_ rfl (by kernel_rfl) (by kernel_rfl) (by kernel_rfl) (fun _ _ _ h => h) (by rfl) (by assumption) ?_ ?_
            rotate_left
            · (intro w0 hS0; go_simp <;> (try with_reducible rfl))
            try simp only [Act.put, List.setIfInBounds_toArray, List.set_cons_zero, List.set_cons_succ]
            refine wpAnyH_read (i := 41) (oi := { dst := some 171, op := Go.Op.move (Go.Operand.tmp 170), type := 4, pos := "law.go:113", after := #[{ on := 40, ground := Go.Ground.data }, { on := 38, ground := Go.Ground.chain }], guard := none }) ?_ rfl (by kernel_rfl) (by kernel_rfl) (by kernel_rfl) (fun _ _ _ h => h) (by rfl) (by assumption) ?_ ?_
            rotate_left
            · (intro w0 hS0; go_simp <;> (try with_reducible rfl))
            try simp only [Act.put, List.setIfInBounds_toArray, List.set_cons_zero, List.set_cons_succ]
            refine wpAnyH_read (i := 42) (oi := { dst := some 172, op := Go.Op.move (Go.Operand.tmp 7), type := 25, pos := "law.go:113", after := #[{ on := 41, ground := Go.Ground.guard }], guard := some (41, false) }) ?_ rfl (by kernel_rfl) (by kernel_rfl) (by kernel_rfl) (fun _ _ _ h => h) (by rfl) (by assumption) ?_ ?_
            rotate_left
            · (intro w0 hS0; go_simp <;> (try with_reducible rfl))
            try simp only [Act.put, List.setIfInBounds_toArray, List.set_cons_zero, List.set_cons_succ]
            refine wpAnyH_read (i := 43) (oi := { dst := some 173, op := Go.Op.fieldAddr 34 (Go.Operand.tmp 10) 1, type := 0, pos := "law.go:113", after := #[{ on := 41, ground := Go.Ground.guard }], guard := some (41, false) }) ?_ rfl (by kernel_rfl) (by kernel_rfl) (by kernel_rfl) (fun _ _ _ h => h) (by rfl) (by assumption) ?_ ?_
            rotate_left
            · (intro w0 hS0; go_simp <;> (try with_reducible rfl))
            try simp only [Act.put, List.setIfInBounds_toArray, List.set_cons_zero, List.set_cons_succ]
            refine wpAnyH_read (i := 46) (oi := { dst := some 176, op := Go.Op.move (Go.Operand.tmp 8), type := 29, pos := "law.go:113", after := #[{ on := 41, ground := Go.Ground.guard }], guard := some (41, false) }) ?_ rfl (by kernel_rfl) (by kernel_rfl) (by kernel_rfl) (fun _ _ _ h => h) (by rfl) (by assumption) ?_ ?_
            rotate_left
            · (intro w0 hS0; go_simp <;> (try with_reducible rfl))
            try simp only [Act.put, List.setIfInBounds_toArray, List.set_cons_zero, List.set_cons_succ]
            refine wpAnyH_read (i := 47) (oi := { dst := some 177, op := Go.Op.fieldAddr 34 (Go.Operand.tmp 10) 1, type := 0, pos := "law.go:113", after := #[{ on := 41, ground := Go.Ground.guard }], guard := some (41, false) }) ?_ rfl (by kernel_rfl) (by kernel_rfl) (by kernel_rfl) (fun _ _ _ h => h) (by rfl) (by assumption) ?_ ?_
            rotate_left
            · (intro w0 hS0; go_simp <;> (try with_reducible rfl))
            try simp only [Act.put, List.setIfInBounds_toArray, List.set_cons_zero, List.set_cons_succ]
            refine wpAnyH_read (i := 44) (oi := { dst := some 174, op := Go.Op.load 3 (Go.Operand.tmp 173), type := 3, pos := "law.go:113", after := #[{ on := 43, ground := Go.Ground.data }, { on := 41, ground := Go.Ground.guard }], guard := some (41, false) }) ?_ rfl (by kernel_rfl) (by kernel_rfl) (by kernel_rfl) (fun _ _ _ h => h) (by rfl) (by assumption) ?_ ?_
            rotate_left
            · (intro w0 hS0; obtain ⟨q1, q2, q3⟩ := HBX.out w0 hS0; go_simp <;> (try with_reducible rfl))
            try simp only [Act.put, List.setIfInBounds_toArray, List.set_cons_zero, List.set_cons_succ]
            refine wpAnyH_read (i := 48) (oi := { dst := some 178, op := Go.Op.load 3 (Go.Operand.tmp 177), type := 3, pos := "law.go:113", after := #[{ on := 47, ground := Go.Ground.data }, { on := 41, ground := Go.Ground.guard }], guard := some (41, false) }) ?_ rfl (by kernel_rfl) (by kernel_rfl) (by kernel_rfl) (fun _ _ _ h => h) (by rfl) (by assumption) ?_ ?_
            rotate_left
            · (intro w0 hS0; obtain ⟨q1, q2, q3⟩ := HBX.out w0 hS0; go_simp <;> (try with_reducible rfl))
            try simp only [Act.put, List.setIfInBounds_toArray, List.set_cons_zero, List.set_cons_succ]
            refine wpAnyH_one (i := 45) (o := { dst := some 175, op := Go.Op.call { callee := Go.Callee.value (Go.Operand.func 25), args := #[Go.Operand.tmp 172, Go.Operand.tmp 174], argTypes := #[25, 3] }, type := 52, pos := "law.go:113", after := #[{ on := 42, ground := Go.Ground.data }, { on := 44, ground := Go.Ground.data }, { on := 41, ground := Go.Ground.chain }, { on := 41, ground := Go.Ground.guard }], guard := some (41, false) }) (by kernel_rfl) rfl (by rfl) (fun K hK => ?_)
            go_simp
            refine (HOf.out _ hHeld).mono ?_
            rintro e wf ⟨⟨F3, S3, rfl, t3, u3, p3⟩, b12⟩
            have HFf := Lib.hid ((show Fr (fun _ => False) wc _ from hHeld).trans (Fr.of_below b12))
            have HS3 := Lib.hid (And.intro t3 (And.intro u3 p3))
            clear t3 u3 p3 b12
            go_wp2_with fail
            refine hK.out _ _ ?_ (fun hHeld => ?_)
            · exact HFf.out
            clear hK K
            try simp only [Act.put, List.setIfInBounds_toArray, List.set_cons_zero, List.set_cons_succ]
            refine wpAnyH_one (i := 49) (o := { dst := some 179, op := Go.Op.call { callee := Go.Callee.value (Go.Operand.func 22), args := #[Go.Operand.tmp 176, Go.Operand.tmp 178, Go.Operand.const (Go.Value.bool false)], argTypes := #[29, 3, 4] }, type := 30, pos := "law.go:113", after := #[{ on := 46, ground := Go.Ground.data }, { on := 48, ground := Go.Ground.data }, { on := 45, ground := Go.Ground.chain }, { on := 41, ground := Go.Ground.guard }], guard := some (41, false) }) (by kernel_rfl) rfl (by rfl) (fun K hK => ?_)
            go_simp
            refine (HOd.out _ hHeld).mono ?_
            rintro e wg ⟨⟨v4, S4, rfl, o4, p4, u4⟩, b13⟩
            obtain ⟨A13, c13, rfl⟩ := row_slice o4
            have hl4 : S4.length = nO := p4.length_eq.trans HKy.out.2.2.1
            rw [List.length_map, hl4] at o4 ⊢
            have HFg := Lib.hid ((show Fr (fun _ => False) wc _ from hHeld).trans (Fr.of_below b13))
            have HSm := Lib.hid (HSa.out wg HFg.out _ _ F3 S3 S4 A13 c13 nO (HS3.out.1.below b13) (fun e he => (List.mem_filter.1 (HS3.out.2.2.mem_iff.1 he)).1) (fun e he => (List.mem_filter.1 (p4.mem_iff.1 he)).1) (own_keys HKy.out.1 HS3.out.2.1 HS3.out.2.2 u4 p4) hl4 o4 (up_nodupS (List.pairwise_map.2 u4)))
            clear o4 p4 u4 b13 hl4
            go_wp2_with fail
            refine hK.out _ _ ?_ (fun hHeld => ?_)
            · exact HFg.out
            clear hK K
            try simp only [Act.put, List.setIfInBounds_toArray, List.set_cons_zero, List.set_cons_succ]
            refine wpAnyH_one (i := 50) (o := { dst := some 180, op := Go.Op.call { callee := Go.Callee.value (Go.Operand.func 23), args := #[Go.Operand.tmp 175, Go.Operand.tmp 179], argTypes := #[52, 30] }, type := 4, pos := "law.go:113", after := #[{ on := 45, ground := Go.Ground.data }, { on := 49, ground := Go.Ground.data }, { on := 49, ground := Go.Ground.chain }, { on := 41, ground := Go.Ground.guard }], guard := some (41, false) }) (by kernel_rfl) rfl (by rfl) (fun K hK => ?_)
            go_simp
            refine HSm.out.mono ?_
            rintro e wh ⟨rfl, b14⟩
            have HFh := Lib.hid ((show Fr (fun _ => False) wc _ from hHeld).trans (Fr.of_below b14))
            clear b14 HSm HS3
            go_wp2_with fail
            refine hK.out _ _ ?_ (fun hHeld => ?_)
            · exact HFh.out
            clear hK K
            try simp only [Act.put, List.setIfInBounds_toArray, List.set_cons_zero, List.set_cons_succ]
            refine wpAnyH_read (i := 51) (oi := { dst := some 181, op := Go.Op.unOp Go.UnOp.not 4 (Go.Operand.tmp 180), type := 4, pos := "law.go:113", after := #[{ on := 50, ground := Go.Ground.data }, { on := 41, ground := Go.Ground.guard }], guard := some (41, false) }) ?_ rfl (by kernel_rfl) (by kernel_rfl) (by kernel_rfl) (fun _ _ _ h => h) (by rfl) (by assumption) ?_ ?_
            rotate_left
            · (intro w0 hS0; go_simp <;> (try with_reducible rfl))
            try simp only [Act.put, List.setIfInBounds_toArray, List.set_cons_zero, List.set_cons_succ]
            refine wpAnyH_read (i := 52) (oi := { dst := some 182, op := Go.Op.pick (Go.Operand.tmp 171) (Go.Operand.const (Go.Value.bool true)) (Go.Operand.tmp 181), type := 4, pos := "law.go:113", after := #[{ on := 41, ground := Go.Ground.data }, { on := 51, ground := Go.Ground.data }], guard := none }) ?_ rfl (by kernel_rfl) (by kernel_rfl) (by kernel_rfl) (fun _ _ _ h => h) (by rfl) (by assumption) ?_ ?_
            rotate_left
            · (intro w0 hS0; go_simp <;> (try with_reducible rfl))
            try simp only [Act.put, List.setIfInBounds_toArray, List.set_cons_zero, List.set_cons_succ]
            refine wpAnyH_done (by kernel_rfl) ?_ _
            go_wp2_with fail
            go_roundw
            case rel => exact ⟨i + 1, by go_num, by omega, Lib.hid ⟨_, _, HT.out.two.below (HFh.out.below (Nat.le_refl _) fun _ _ e => e.elim), HR3.out⟩⟩
            case measure => simp [RowKit.intOf]; omega
    · have n1 : ¬ (i : Int) < (l.length : Int) := by omega
      have n2 : decide ((i : Int) < (l.length : Int)) = false := by simp; omega
      go_wp2_with fail
      go_ret
      exact ⟨rfl, HG.out.2⟩
end Go.Proofs.YtlkeomcillencaaGreat
end
