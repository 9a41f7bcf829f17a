/- Texts of this proof, one behind the other. -/
import Derived.Test.YtnoeblnljfnecaaGreatDoorWishBothG15
import Derived.Test.YtnoeblnljfnecaaGreatDoorWishBothG8
import Derived.Deep.CutRange
import Derived.Deep.CutBlock
import Derived.OpenShut
section
/- Layer 21: WishPlays: the main walk. -/
namespace Go.Proofs.YtnoeblnljfnecaaGreatDoor
set_option linter.unusedVariables false
set_option linter.unusedSimpArgs false
open Go Go.RowKit Go.Maps Go.Sort Go.Shelf Go.Lib

theorem WisAt.low {base base' : Nat} {w : World} {l : Nat} {Y : Nat → Prop} {most : Int} {U : List WEnt} (h : WisAt base w l Y most U) (hz : base' ≤ base) : WisAt base' w l Y most U := by
  obtain ⟨t, b, X, T, h1, h2, h3, h4, h5, h6⟩ := h
  obtain ⟨b1', b2', T1, T2, hst, hx⟩ := h5
  exact ⟨t, b, X, T, Nat.le_trans hz h1, Nat.le_trans hz h2, h3, h4, ⟨b1', b2', T1, T2, ⟨Nat.le_trans hz hst.le, hst.blk, mapSt_baseIS hst.m1 hz, mapSt_baseSI hst.m2 hz, hst.n1, hst.n2, hst.ap, hst.t1, hst.t2, hst.h1, hst.h2, hst.nd⟩, hx⟩, h6⟩
theorem okW_add {L : List WEnt} (h : OkW L) {a : Int} {n : List UInt8} (ha : OkKIS a) (hn : n.length ≤ 1000) : OkW (L ++ [(a, n)]) := fun u hu => by
  rcases List.mem_append.1 hu with e | e
  · exact h u e
  · rw [List.mem_singleton.1 e]; exact ⟨ha, hn⟩
set_option maxRecDepth 100000 in
set_option maxHeartbeats 16000000 in
theorem wishPlays_main (most : Int) (A : Option Addr) (l : List zwaT) (cc : Nat) (nm : List UInt8) (w : World) (hg : greatWR l = false) (hn : nm.length ≤ 30) (hm : 0 ≤ most ∧ most ≤ 1000) (hA : ActWR w A l) (hR : Rowed w) :
    Calls Tryz.prog 3 #[.int .i64 most, .slice A l.length cc, .string (bs nm)] w fun e w' => e = .returned (.bool true) ∧ RowKit.Below w.heap.size w w' := by
  have mixed : (Tryz.prog).follows Departure.mixedOrders = true := by kernel_rfl
  have hl : l.length ≤ 40 ∧ ∀ x ∈ l, x.2.2.size ≤ 30 := by
    unfold greatWR at hg
    simp only [Bool.or_eq_false_iff, decide_eq_false_iff_not, List.any_eq_false, decide_eq_true_eq] at hg
    exact ⟨by omega, fun x hx => by have := hg.2 x hx; omega⟩
  have HA := Lib.hid hA
  have HG := Lib.hid hg
  have HLL := Lib.hid hl.2
  have HAw := Lib.hid (awake21 w hR)
  replace hl := hl.1
  have q1 : ¬ (30 : Int) < ((bs nm).size : Int) := by simp; omega
  have q2 : ¬ most < 0 := by omega
  have q3 : ¬ (1000 : Int) < most := by omega
  have hn1 : nm.length ≤ 1000 := by omega
  clear hA hg hR
  go_enter Tryz.func3, Tryz.ntmps3
  go_wp2_with fail
  refine HAw.out.mono ?_
  rintro e w1 ⟨rfl, b1⟩
  have B1 := Lib.hid b1
  clear b1
  go_wp2_with fail
  refine (great21 HA.out w1 B1.out).mono ?_
  rintro e w2 ⟨rfl, rfl⟩
  rw [HG.out]
  go_wp2_with fail
  refine (wisNew (most := most) (by omega) _).mono ?_
  rintro e W1 ⟨t, X1, rfl, h1, x1, b1⟩
  obtain ⟨W2, hW2⟩ : ∃ W2, W1.alloc (.cells #[.int .i64 most, .slice none 0 0] 30) = W2 := ⟨_, rfl⟩
  have hz : w.heap.size ≤ w2.heap.size := B1.out.size
  have fW : Fr (fun _ => False) W1 W2 := by rw [← hW2]; exact (Fr.refl _ W1).alloc _
  have H0 : Hid (PlayW w t X1 most [] W1.heap.size (fun j => j = W1.heap.size) [] W2) := by
    refine ⟨(B1.out.trans (b1.mono hz)).trans (fW.below (Nat.le_trans hz b1.size) fun _ _ e => e.elim), (h1.fr fW fun _ _ e => e).low hz, ⟨none, 0, by rw [← hW2]; exact heap_alloc_new W1 _, ownWR_nil _ _, by simp [Value.ownBlock], fun j => by simp [Value.ownBlock]⟩, fun j hj e => by have := (h1.lt hj).2; omega, Nat.le_trans hz b1.size⟩
  obtain ⟨B, hB⟩ : ∃ B, W1.heap.size = B := ⟨_, rfl⟩
  rw [hB] at H0
  have HW2 := Lib.hid (And.intro hW2 hB)
  clear hW2 hB h1 x1 b1 fW
  go_wp2_with fail
  rw [HW2.out.1, HW2.out.2]
  clear HW2
  go_loopw [9] (fun i wr => ∃ (j : Nat), i = .int .i64 j ∧ j ≤ l.length ∧ Hid (∃ X Z L, L.length ≤ j ∧ PlayW w t X most L B Z L wr)) (fun i _ => l.length - (RowKit.intOf i).toNat)
  case atStart => exact ⟨0, rfl, Nat.zero_le _, X1, _, [], Nat.le_refl _, H0.out⟩
  case round =>
    obtain ⟨j, rfl, hj, HP0⟩ := hrel
    clear H0
    obtain ⟨X, Z, L, hLj, hP⟩ := HP0.out
    have HP := Lib.hid (And.intro hLj hP)
    clear HP0 hP hLj
    by_cases hlt : j < l.length
    · obtain ⟨g, o, rfl, hat⟩ := actWR_at HA.out (by omega)
      obtain ⟨c1, c2, c3⟩ := hat wr HP.out.2.below j hlt
      have p0 : (j : Int) < (l.length : Int) := by omega
      have r0 : (0 : Int) ≤ (j : Int) := by omega
      obtain ⟨⟨kd, ac, sc⟩, hlj⟩ : ∃ p, l[j] = p := ⟨_, rfl⟩
      rw [hlj] at c1 c2 c3
      have hzg := HA.out.1 _ (List.getElem_mem hlt)
      have hzs := HLL.out _ (List.getElem_mem hlt)
      rw [hlj] at hzg hzs
      clear hat hlj
      dsimp only at c1 c2 c3 hzs
      obtain ⟨bc, rfl⟩ : ∃ bc, sc = bs bc := ⟨sc.data.toList, rfl⟩
      have hokA : OkKIS ac := hzg.2.1
      have hbc : bc.length ≤ 1000 := by simp at hzs; omega
      have HOK := Lib.hid (And.intro hokA hbc)
      clear hzg hzs hokA hbc
      go_upto_block 2 with fail
      obtain ⟨ab, hab⟩ : ∃ ab, wr.heap.size = ab := ⟨_, rfl⟩
      obtain ⟨Wa, hWa⟩ : ∃ Wa, wr.alloc (Obj.cells #[Value.int IntKind.i64 kd, Value.int IntKind.i64 ac, Value.string (bs bc)] 32) = Wa := ⟨_, rfl⟩
      have ha : Wa.heap[ab]? = some (.cells #[Value.int IntKind.i64 kd, Value.int IntKind.i64 ac, Value.string (bs bc)] 32 (0, 0)) := by rw [← hWa, ← hab]; exact heap_alloc_new wr _
      have hPa : PlayW w t X most L B Z L Wa := HP.out.2.rest (by rw [← hWa]; exact (Fr.refl _ wr).alloc _)
      have hab1 : ¬ X ab ∧ ¬ ab = B := by
        rw [← hab]
        exact ⟨fun e => by have := (HP.out.2.rel.lt e).2; omega, fun e => by have := HP.out.2.ref.lt HP.out.2.ref.own; omega⟩
      have hLl : L.length ≤ 40 := by have := HP.out.1; omega
      rw [hWa, hab]
      have HW := Lib.hid (And.intro ha (And.intro hPa (And.intro hab1 HP.out.1)))
      clear ha hPa hab1 hab hWa c1 c2 c3
      go_cut [11] from 38 to 151 (fun k wc => k = .bool true ∧ Hid (∃ X2 Z2 L2, L2.length ≤ j + 1 ∧ PlayW w t X2 most L2 B Z2 L2 wc ∧ wc.heap[ab]? = some (.cells #[Value.int IntKind.i64 kd, Value.int IntKind.i64 ac, Value.string (bs bc)] 32 (0, 0))))
      case first =>
        obtain ⟨ha, hPa, hab1, hLj⟩ := HW.out
        have hPD := hPa.rest ((Fr.refl (fun _ => False) Wa).drew)
        have hza := blk_lt ha
        have hbw : w.heap.size ≤ Wa.drew.heap.size := hPD.below.size
        by_cases hk1 : kd = 1
        · subst hk1
          have HS := wisRem hPD.rel hbw (by omega) HOK.out.1 HOK.out.2
          unfold RemWs at HS
          obtain ⟨d, hd⟩ : ∃ d, decide ((ac, foldL bc) ∈ L.map fkW) = d := ⟨_, rfl⟩
          rw [hd] at HS
          have HS := Lib.hid HS
          have HPD := Lib.hid (And.intro hPD (And.intro hd hLj))
          have HAB : Hid (ab < Wa.drew.heap.size ∧ ¬ X ab ∧ ¬ ab = B) := ⟨hza, hab1⟩
          have ha1 := blk_cell ha 1
          have ha2 := blk_cell ha 2
          have HAA := Lib.hid ha
          clear hPa hPD hza hab1 hbw hd hLj ha
          go_wp2_with fail
          refine wp_region_held_drew (S := fun V => V.cell? ⟨ab, 1, none⟩ = some (.int .i64 ac) ∧ V.cell? ⟨ab, 2, none⟩ = some (.string (bs bc))) (by kernel_rfl) (by exact ⟨ha1, ha2⟩) (fun hHeld => ?_)
          refine wpAnyH_read (i := 0) (oi := { dst := some 65, op := Go.Op.move (Go.Operand.tmp 7), type := 25, pos := "law.go:85", after := #[], guard := none }) ?_ rfl (by kernel_rfl) (by kernel_rfl) (by kernel_rfl) (fun _ _ _ h => h) (by rfl) (by assumption) ?_ ?_
          rotate_left
          · (intro w0 hS0; go_simp <;> (try with_reducible rfl))
          try simp only [Act.put, List.setIfInBounds_toArray, List.set_cons_zero, List.set_cons_succ]
          refine wpAnyH_read (i := 1) (oi := { dst := some 66, op := Go.Op.fieldAddr 32 (Go.Operand.tmp 10) 1, type := 0, pos := "law.go:85", after := #[], guard := none }) ?_ rfl (by kernel_rfl) (by kernel_rfl) (by kernel_rfl) (fun _ _ _ h => h) (by rfl) (by assumption) ?_ ?_
          rotate_left
          · (intro w0 hS0; go_simp <;> (try with_reducible rfl))
          try simp only [Act.put, List.setIfInBounds_toArray, List.set_cons_zero, List.set_cons_succ]
          refine wpAnyH_read (i := 3) (oi := { dst := some 68, op := Go.Op.fieldAddr 32 (Go.Operand.tmp 10) 2, type := 0, pos := "law.go:85", after := #[], guard := none }) ?_ rfl (by kernel_rfl) (by kernel_rfl) (by kernel_rfl) (fun _ _ _ h => h) (by rfl) (by assumption) ?_ ?_
          rotate_left
          · (intro w0 hS0; go_simp <;> (try with_reducible rfl))
          try simp only [Act.put, List.setIfInBounds_toArray, List.set_cons_zero, List.set_cons_succ]
          refine wpAnyH_read (i := 6) (oi := { dst := some 71, op := Go.Op.move (Go.Operand.tmp 8), type := 27, pos := "law.go:85", after := #[], guard := none }) ?_ rfl (by kernel_rfl) (by kernel_rfl) (by kernel_rfl) (fun _ _ _ h => h) (by rfl) (by assumption) ?_ ?_
          rotate_left
          · (intro w0 hS0; go_simp <;> (try with_reducible rfl))
          try simp only [Act.put, List.setIfInBounds_toArray, List.set_cons_zero, List.set_cons_succ]
          refine wpAnyH_read (i := 7) (oi := { dst := some 72, op := Go.Op.fieldAddr 32 (Go.Operand.tmp 10) 1, type := 0, pos := "law.go:85", after := #[], guard := none }) ?_ rfl (by kernel_rfl) (by kernel_rfl) (by kernel_rfl) (fun _ _ _ h => h) (by rfl) (by assumption) ?_ ?_
          rotate_left
          · (intro w0 hS0; go_simp <;> (try with_reducible rfl))
          try simp only [Act.put, List.setIfInBounds_toArray, List.set_cons_zero, List.set_cons_succ]
          refine wpAnyH_read (i := 9) (oi := { dst := some 74, op := Go.Op.fieldAddr 32 (Go.Operand.tmp 10) 2, type := 0, pos := "law.go:85", after := #[], guard := none }) ?_ rfl (by kernel_rfl) (by kernel_rfl) (by kernel_rfl) (fun _ _ _ h => h) (by rfl) (by assumption) ?_ ?_
          rotate_left
          · (intro w0 hS0; go_simp <;> (try with_reducible rfl))
          try simp only [Act.put, List.setIfInBounds_toArray, List.set_cons_zero, List.set_cons_succ]
          refine wpAnyH_read (i := 2) (oi := { dst := some 67, op := Go.Op.load 3 (Go.Operand.tmp 66), type := 3, pos := "law.go:85", after := #[{ on := 1, ground := Go.Ground.data }], guard := none }) ?_ rfl (by kernel_rfl) (by kernel_rfl) (by kernel_rfl) (fun _ _ _ h => h) (by rfl) (by assumption) ?_ ?_
          rotate_left
          · (intro w0 hS0; obtain ⟨s1, s2⟩ := hS0; go_simp <;> (try with_reducible rfl))
          try simp only [Act.put, List.setIfInBounds_toArray, List.set_cons_zero, List.set_cons_succ]
          refine wpAnyH_read (i := 4) (oi := { dst := some 69, op := Go.Op.load 9 (Go.Operand.tmp 68), type := 9, pos := "law.go:85", after := #[{ on := 3, ground := Go.Ground.data }], guard := none }) ?_ rfl (by kernel_rfl) (by kernel_rfl) (by kernel_rfl) (fun _ _ _ h => h) (by rfl) (by assumption) ?_ ?_
          rotate_left
          · (intro w0 hS0; obtain ⟨s1, s2⟩ := hS0; go_simp <;> (try with_reducible rfl))
          try simp only [Act.put, List.setIfInBounds_toArray, List.set_cons_zero, List.set_cons_succ]
          refine wpAnyH_read (i := 8) (oi := { dst := some 73, op := Go.Op.load 3 (Go.Operand.tmp 72), type := 3, pos := "law.go:85", after := #[{ on := 7, ground := Go.Ground.data }], guard := none }) ?_ rfl (by kernel_rfl) (by kernel_rfl) (by kernel_rfl) (fun _ _ _ h => h) (by rfl) (by assumption) ?_ ?_
          rotate_left
          · (intro w0 hS0; obtain ⟨s1, s2⟩ := hS0; go_simp <;> (try with_reducible rfl))
          try simp only [Act.put, List.setIfInBounds_toArray, List.set_cons_zero, List.set_cons_succ]
          refine wpAnyH_read (i := 10) (oi := { dst := some 75, op := Go.Op.load 9 (Go.Operand.tmp 74), type := 9, pos := "law.go:85", after := #[{ on := 9, ground := Go.Ground.data }], guard := none }) ?_ rfl (by kernel_rfl) (by kernel_rfl) (by kernel_rfl) (fun _ _ _ h => h) (by rfl) (by assumption) ?_ ?_
          rotate_left
          · (intro w0 hS0; obtain ⟨s1, s2⟩ := hS0; go_simp <;> (try with_reducible rfl))
          try simp only [Act.put, List.setIfInBounds_toArray, List.set_cons_zero, List.set_cons_succ]
          refine wpAnyH_one (i := 5) (o := { dst := some 70, op := Go.Op.call { callee := Go.Callee.value (Go.Operand.func 9), args := #[Go.Operand.tmp 65, Go.Operand.tmp 67, Go.Operand.tmp 69], argTypes := #[25, 3, 9] }, type := 4, pos := "law.go:85", after := #[{ on := 0, ground := Go.Ground.data }, { on := 2, ground := Go.Ground.data }, { on := 4, ground := Go.Ground.data }], guard := none }) (by kernel_rfl) rfl (by rfl) (fun K hK => ?_)
          go_simp
          refine HS.out.mono ?_
          rintro e w5 ⟨rfl, X5, x5, f5, h5⟩
          have P5 := Lib.hid (HPD.out.1.relStep h5 x5 f5)
          clear x5 h5
          have s5 : (∀ p, p = 1 ∨ p = 2 → w5.cell? ⟨ab, p, none⟩ = Wa.drew.cell? ⟨ab, p, none⟩) := fun p _ => f5.cell (p := ⟨ab, p, none⟩) HAB.out.1 HAB.out.2.1
          have HS5 := Lib.hid s5
          have F5 := Lib.hid f5
          clear s5 f5
          go_wp2_with fail
          refine hK.out _ _ ?_ (fun hHeld => ?_)
          · exact ⟨(HS5.out 1 (.inl rfl)).trans ha1, (HS5.out 2 (.inr rfl)).trans ha2⟩
          clear hK K
          try simp only [Act.put, List.setIfInBounds_toArray, List.set_cons_zero, List.set_cons_succ]
          refine wpAnyH_one (i := 11) (o := { dst := some 76, op := Go.Op.call { callee := Go.Callee.value (Go.Operand.func 10), args := #[Go.Operand.tmp 71, Go.Operand.tmp 73, Go.Operand.tmp 75], argTypes := #[27, 3, 9] }, type := 4, pos := "law.go:85", after := #[{ on := 6, ground := Go.Ground.data }, { on := 8, ground := Go.Ground.data }, { on := 10, ground := Go.Ground.data }, { on := 5, ground := Go.Ground.chain }], guard := none }) (by kernel_rfl) rfl (by rfl) (fun K hK => ?_)
          go_simp
          refine (rem_syncW P5.out (by omega) HPD.out.1.rel.ok HPD.out.1.rel.nodup HOK.out.2 rfl).mono ?_
          rintro e w6 ⟨rfl, h6, f6⟩
          rw [HPD.out.2.1]
          have F6 := Lib.hid (And.intro h6 f6)
          clear h6 f6
          have HS6 : Hid (∀ p, p = 1 ∨ p = 2 → w6.cell? ⟨ab, p, none⟩ = w5.cell? ⟨ab, p, none⟩) := fun p _ => F6.out.2.cell (p := ⟨ab, p, none⟩) (Nat.lt_of_lt_of_le HAB.out.1 F5.out.size) HAB.out.2.2
          go_wp2_with fail
          refine hK.out _ _ ?_ (fun hHeld => ?_)
          · exact ⟨(HS6.out 1 (.inl rfl)).trans ((HS5.out 1 (.inl rfl)).trans ha1), (HS6.out 2 (.inr rfl)).trans ((HS5.out 2 (.inr rfl)).trans ha2)⟩
          clear hK K
          try simp only [Act.put, List.setIfInBounds_toArray, List.set_cons_zero, List.set_cons_succ]
          refine wpAnyH_read (i := 12) (oi := { dst := some 77, op := Go.Op.binOp Go.BinOp.eql 4 (Go.Operand.tmp 70) (Go.Operand.tmp 76) 4, type := 4, pos := "law.go:85", after := #[{ on := 5, ground := Go.Ground.data }, { on := 11, ground := Go.Ground.data }], guard := none }) ?_ rfl (by kernel_rfl) (by kernel_rfl) (by kernel_rfl) (fun _ _ _ h => h) (by rfl) (by assumption) ?_ ?_
          rotate_left
          · (intro w0 hS0; go_simp <;> (try with_reducible rfl))
          try simp only [Act.put, List.setIfInBounds_toArray, List.set_cons_zero, List.set_cons_succ]
          refine wpAnyH_read (i := 13) (oi := { dst := some 11, op := Go.Op.assign (Go.Operand.tmp 77), type := 4, pos := "law.go:85", after := #[{ on := 12, ground := Go.Ground.data }, { on := 11, ground := Go.Ground.chain }, { on := 0, ground := Go.Ground.phase }, { on := 1, ground := Go.Ground.phase }, { on := 2, ground := Go.Ground.phase }, { on := 3, ground := Go.Ground.phase }, { on := 4, ground := Go.Ground.phase }, { on := 5, ground := Go.Ground.phase }, { on := 6, ground := Go.Ground.phase }, { on := 7, ground := Go.Ground.phase }, { on := 8, ground := Go.Ground.phase }, { on := 9, ground := Go.Ground.phase }, { on := 10, ground := Go.Ground.phase }, { on := 11, ground := Go.Ground.phase }, { on := 12, ground := Go.Ground.phase }], guard := none }) ?_ rfl (by kernel_rfl) (by kernel_rfl) (by kernel_rfl) (fun _ _ _ h => h) (by rfl) (by assumption) ?_ ?_
          rotate_left
          · (intro w0 hS0; go_simp <;> (try with_reducible rfl))
          try simp only [Act.put, List.setIfInBounds_toArray, List.set_cons_zero, List.set_cons_succ]
          refine wpAnyH_done (by kernel_rfl) ?_ _
          go_wp2_with fail
          go_meet
          case rel =>
            refine ⟨by first | rfl | simp, ?_⟩
            obtain ⟨Z6, P6⟩ := F6.out.1
            exact ⟨_, Z6, _, Nat.le_trans (List.length_filter_le _ _) (by have := HPD.out.2.2; omega), P6, F6.out.2.blk (F5.out.blk (blk_drew HAA.out) HAB.out.2.1) HAB.out.2.2⟩
        · have k1 : (kd == 1) = false := by simpa using hk1
          by_cases hk2 : kd = 2
          · subst hk2
            have HS := Lib.hid (wisClear hPD.rel hbw (by omega) HOK.out.1)
            have HPD := Lib.hid (And.intro hPD hLj)
            have HAB : Hid (ab < Wa.drew.heap.size ∧ ¬ X ab ∧ ¬ ab = B) := ⟨hza, hab1⟩
            have ha1 := blk_cell ha 1
            have ha2 := blk_cell ha 2
            have HAA := Lib.hid ha
            clear hPa hPD hza hab1 hbw hLj ha
            go_wp2_with fail
            refine wp_region_held_drew (S := fun V => V.cell? ⟨ab, 1, none⟩ = some (.int .i64 ac) ∧ V.cell? ⟨ab, 2, none⟩ = some (.string (bs bc))) (by kernel_rfl) (by exact ⟨ha1, ha2⟩) (fun hHeld => ?_)
            refine wpAnyH_read (i := 0) (oi := { dst := some 80, op := Go.Op.move (Go.Operand.tmp 7), type := 25, pos := "law.go:87", after := #[], guard := none }) ?_ rfl (by kernel_rfl) (by kernel_rfl) (by kernel_rfl) (fun _ _ _ h => h) (by rfl) (by assumption) ?_ ?_
            rotate_left
            · (intro w0 hS0; go_simp <;> (try with_reducible rfl))
            try simp only [Act.put, List.setIfInBounds_toArray, List.set_cons_zero, List.set_cons_succ]
            refine wpAnyH_read (i := 1) (oi := { dst := some 81, op := Go.Op.fieldAddr 32 (Go.Operand.tmp 10) 1, type := 0, pos := "law.go:87", after := #[], guard := none }) ?_ rfl (by kernel_rfl) (by kernel_rfl) (by kernel_rfl) (fun _ _ _ h => h) (by rfl) (by assumption) ?_ ?_
            rotate_left
            · (intro w0 hS0; go_simp <;> (try with_reducible rfl))
            try simp only [Act.put, List.setIfInBounds_toArray, List.set_cons_zero, List.set_cons_succ]
            refine wpAnyH_read (i := 4) (oi := { dst := some 84, op := Go.Op.move (Go.Operand.tmp 8), type := 27, pos := "law.go:87", after := #[], guard := none }) ?_ rfl (by kernel_rfl) (by kernel_rfl) (by kernel_rfl) (fun _ _ _ h => h) (by rfl) (by assumption) ?_ ?_
            rotate_left
            · (intro w0 hS0; go_simp <;> (try with_reducible rfl))
            try simp only [Act.put, List.setIfInBounds_toArray, List.set_cons_zero, List.set_cons_succ]
            refine wpAnyH_read (i := 5) (oi := { dst := some 85, op := Go.Op.fieldAddr 32 (Go.Operand.tmp 10) 1, type := 0, pos := "law.go:87", after := #[], guard := none }) ?_ rfl (by kernel_rfl) (by kernel_rfl) (by kernel_rfl) (fun _ _ _ h => h) (by rfl) (by assumption) ?_ ?_
            rotate_left
            · (intro w0 hS0; go_simp <;> (try with_reducible rfl))
            try simp only [Act.put, List.setIfInBounds_toArray, List.set_cons_zero, List.set_cons_succ]
            refine wpAnyH_read (i := 2) (oi := { dst := some 82, op := Go.Op.load 3 (Go.Operand.tmp 81), type := 3, pos := "law.go:87", after := #[{ on := 1, ground := Go.Ground.data }], guard := none }) ?_ rfl (by kernel_rfl) (by kernel_rfl) (by kernel_rfl) (fun _ _ _ h => h) (by rfl) (by assumption) ?_ ?_
            rotate_left
            · (intro w0 hS0; obtain ⟨s1, s2⟩ := hS0; go_simp <;> (try with_reducible rfl))
            try simp only [Act.put, List.setIfInBounds_toArray, List.set_cons_zero, List.set_cons_succ]
            refine wpAnyH_read (i := 6) (oi := { dst := some 86, op := Go.Op.load 3 (Go.Operand.tmp 85), type := 3, pos := "law.go:87", after := #[{ on := 5, ground := Go.Ground.data }], guard := none }) ?_ rfl (by kernel_rfl) (by kernel_rfl) (by kernel_rfl) (fun _ _ _ h => h) (by rfl) (by assumption) ?_ ?_
            rotate_left
            · (intro w0 hS0; obtain ⟨s1, s2⟩ := hS0; go_simp <;> (try with_reducible rfl))
            try simp only [Act.put, List.setIfInBounds_toArray, List.set_cons_zero, List.set_cons_succ]
            refine wpAnyH_one (i := 3) (o := { dst := some 83, op := Go.Op.call { callee := Go.Callee.value (Go.Operand.func 11), args := #[Go.Operand.tmp 80, Go.Operand.tmp 82], argTypes := #[25, 3] }, type := 3, pos := "law.go:87", after := #[{ on := 0, ground := Go.Ground.data }, { on := 2, ground := Go.Ground.data }], guard := none }) (by kernel_rfl) rfl (by rfl) (fun K hK => ?_)
            go_simp
            refine HS.out.mono ?_
            rintro e w5 ⟨X5, D5, y1, y2, rfl, x5, f5, h5⟩
            have P5 := Lib.hid (HPD.out.1.relStep h5 x5 f5)
            have HY := Lib.hid (And.intro y1 y2)
            clear x5 h5 y1 y2
            have s5 : (∀ p, p = 1 ∨ p = 2 → w5.cell? ⟨ab, p, none⟩ = Wa.drew.cell? ⟨ab, p, none⟩) := fun p _ => f5.cell (p := ⟨ab, p, none⟩) HAB.out.1 HAB.out.2.1
            have HS5 := Lib.hid s5
            have F5 := Lib.hid f5
            clear s5 f5
            go_wp2_with fail
            refine hK.out _ _ ?_ (fun hHeld => ?_)
            · exact ⟨(HS5.out 1 (.inl rfl)).trans ha1, (HS5.out 2 (.inr rfl)).trans ha2⟩
            clear hK K
            try simp only [Act.put, List.setIfInBounds_toArray, List.set_cons_zero, List.set_cons_succ]
            refine wpAnyH_one (i := 7) (o := { dst := some 87, op := Go.Op.call { callee := Go.Callee.value (Go.Operand.func 12), args := #[Go.Operand.tmp 84, Go.Operand.tmp 86], argTypes := #[27, 3] }, type := 3, pos := "law.go:87", after := #[{ on := 4, ground := Go.Ground.data }, { on := 6, ground := Go.Ground.data }, { on := 3, ground := Go.Ground.chain }], guard := none }) (by kernel_rfl) rfl (by rfl) (fun K hK => ?_)
            go_simp
            refine (clear_syncW P5.out (by omega) HPD.out.1.rel.ok HPD.out.1.rel.nodup HY.out.1 HY.out.2 rfl).mono ?_
            rintro e w6 ⟨rfl, h6, f6⟩
            have F6 := Lib.hid (And.intro h6 f6)
            clear h6 f6
            have HS6 : Hid (∀ p, p = 1 ∨ p = 2 → w6.cell? ⟨ab, p, none⟩ = w5.cell? ⟨ab, p, none⟩) := fun p _ => F6.out.2.cell (p := ⟨ab, p, none⟩) (Nat.lt_of_lt_of_le HAB.out.1 F5.out.size) HAB.out.2.2
            go_wp2_with fail
            refine hK.out _ _ ?_ (fun hHeld => ?_)
            · exact ⟨(HS6.out 1 (.inl rfl)).trans ((HS5.out 1 (.inl rfl)).trans ha1), (HS6.out 2 (.inr rfl)).trans ((HS5.out 2 (.inr rfl)).trans ha2)⟩
            clear hK K
            try simp only [Act.put, List.setIfInBounds_toArray, List.set_cons_zero, List.set_cons_succ]
            refine wpAnyH_read (i := 8) (oi := { dst := some 88, op := Go.Op.binOp Go.BinOp.eql 3 (Go.Operand.tmp 83) (Go.Operand.tmp 87) 3, type := 4, pos := "law.go:87", after := #[{ on := 3, ground := Go.Ground.data }, { on := 7, ground := Go.Ground.data }], guard := none }) ?_ rfl (by kernel_rfl) (by kernel_rfl) (by kernel_rfl) (fun _ _ _ h => h) (by rfl) (by assumption) ?_ ?_
            rotate_left
            · (intro w0 hS0; go_simp <;> (try with_reducible rfl))
            try simp only [Act.put, List.setIfInBounds_toArray, List.set_cons_zero, List.set_cons_succ]
            refine wpAnyH_read (i := 9) (oi := { dst := some 11, op := Go.Op.assign (Go.Operand.tmp 88), type := 4, pos := "law.go:87", after := #[{ on := 8, ground := Go.Ground.data }, { on := 7, ground := Go.Ground.chain }, { on := 0, ground := Go.Ground.phase }, { on := 1, ground := Go.Ground.phase }, { on := 2, ground := Go.Ground.phase }, { on := 3, ground := Go.Ground.phase }, { on := 4, ground := Go.Ground.phase }, { on := 5, ground := Go.Ground.phase }, { on := 6, ground := Go.Ground.phase }, { on := 7, ground := Go.Ground.phase }, { on := 8, ground := Go.Ground.phase }], guard := none }) ?_ rfl (by kernel_rfl) (by kernel_rfl) (by kernel_rfl) (fun _ _ _ h => h) (by rfl) (by assumption) ?_ ?_
            rotate_left
            · (intro w0 hS0; go_simp <;> (try with_reducible rfl))
            try simp only [Act.put, List.setIfInBounds_toArray, List.set_cons_zero, List.set_cons_succ]
            refine wpAnyH_done (by kernel_rfl) ?_ _
            go_wp2_with fail
            go_meet
            case rel =>
              refine ⟨by simp, ?_⟩
              obtain ⟨Z6, P6⟩ := F6.out.1
              exact ⟨_, Z6, _, Nat.le_trans (List.length_filter_le _ _) (by have := HPD.out.2; omega), P6, F6.out.2.blk (F5.out.blk (blk_drew HAA.out) HAB.out.2.1) HAB.out.2.2⟩
          · have k2 : (kd == 2) = false := by simpa using hk2
            have HS := Lib.hid (wisAdd hPD.rel hbw (by omega) HOK.out.1 HOK.out.2)
            have HPD := Lib.hid (And.intro hPD hLj)
            have HAB : Hid (ab < Wa.drew.heap.size ∧ ¬ X ab ∧ ¬ ab = B) := ⟨hza, hab1⟩
            have ha1 := blk_cell ha 1
            have ha2 := blk_cell ha 2
            have HAA := Lib.hid ha
            clear hPa hPD hza hab1 hbw hLj ha
            go_wp2_with fail
            refine wp_region_held_drew (S := fun V => V.cell? ⟨ab, 1, none⟩ = some (.int .i64 ac) ∧ V.cell? ⟨ab, 2, none⟩ = some (.string (bs bc))) (by kernel_rfl) (by exact ⟨ha1, ha2⟩) (fun hHeld => ?_)
            refine wpAnyH_read (i := 0) (oi := { dst := some 50, op := Go.Op.move (Go.Operand.tmp 7), type := 25, pos := "law.go:89", after := #[], guard := none }) ?_ rfl (by kernel_rfl) (by kernel_rfl) (by kernel_rfl) (fun _ _ _ h => h) (by rfl) (by assumption) ?_ ?_
            rotate_left
            · (intro w0 hS0; go_simp <;> (try with_reducible rfl))
            try simp only [Act.put, List.setIfInBounds_toArray, List.set_cons_zero, List.set_cons_succ]
            refine wpAnyH_read (i := 1) (oi := { dst := some 51, op := Go.Op.fieldAddr 32 (Go.Operand.tmp 10) 1, type := 0, pos := "law.go:89", after := #[], guard := none }) ?_ rfl (by kernel_rfl) (by kernel_rfl) (by kernel_rfl) (fun _ _ _ h => h) (by rfl) (by assumption) ?_ ?_
            rotate_left
            · (intro w0 hS0; go_simp <;> (try with_reducible rfl))
            try simp only [Act.put, List.setIfInBounds_toArray, List.set_cons_zero, List.set_cons_succ]
            refine wpAnyH_read (i := 3) (oi := { dst := some 53, op := Go.Op.fieldAddr 32 (Go.Operand.tmp 10) 2, type := 0, pos := "law.go:89", after := #[], guard := none }) ?_ rfl (by kernel_rfl) (by kernel_rfl) (by kernel_rfl) (fun _ _ _ h => h) (by rfl) (by assumption) ?_ ?_
            rotate_left
            · (intro w0 hS0; go_simp <;> (try with_reducible rfl))
            try simp only [Act.put, List.setIfInBounds_toArray, List.set_cons_zero, List.set_cons_succ]
            refine wpAnyH_read (i := 6) (oi := { dst := some 56, op := Go.Op.move (Go.Operand.tmp 8), type := 27, pos := "law.go:89", after := #[], guard := none }) ?_ rfl (by kernel_rfl) (by kernel_rfl) (by kernel_rfl) (fun _ _ _ h => h) (by rfl) (by assumption) ?_ ?_
            rotate_left
            · (intro w0 hS0; go_simp <;> (try with_reducible rfl))
            try simp only [Act.put, List.setIfInBounds_toArray, List.set_cons_zero, List.set_cons_succ]
            refine wpAnyH_read (i := 7) (oi := { dst := some 57, op := Go.Op.fieldAddr 32 (Go.Operand.tmp 10) 1, type := 0, pos := "law.go:89", after := #[], guard := none }) ?_ rfl (by kernel_rfl) (by kernel_rfl) (by kernel_rfl) (fun _ _ _ h => h) (by rfl) (by assumption) ?_ ?_
            rotate_left
            · (intro w0 hS0; go_simp <;> (try with_reducible rfl))
            try simp only [Act.put, List.setIfInBounds_toArray, List.set_cons_zero, List.set_cons_succ]
            refine wpAnyH_read (i := 9) (oi := { dst := some 59, op := Go.Op.fieldAddr 32 (Go.Operand.tmp 10) 2, type := 0, pos := "law.go:89", after := #[], guard := none }) ?_ rfl (by kernel_rfl) (by kernel_rfl) (by kernel_rfl) (fun _ _ _ h => h) (by rfl) (by assumption) ?_ ?_
            rotate_left
            · (intro w0 hS0; go_simp <;> (try with_reducible rfl))
            try simp only [Act.put, List.setIfInBounds_toArray, List.set_cons_zero, List.set_cons_succ]
            refine wpAnyH_read (i := 2) (oi := { dst := some 52, op := Go.Op.load 3 (Go.Operand.tmp 51), type := 3, pos := "law.go:89", after := #[{ on := 1, ground := Go.Ground.data }], guard := none }) ?_ rfl (by kernel_rfl) (by kernel_rfl) (by kernel_rfl) (fun _ _ _ h => h) (by rfl) (by assumption) ?_ ?_
            rotate_left
            · (intro w0 hS0; obtain ⟨s1, s2⟩ := hS0; go_simp <;> (try with_reducible rfl))
            try simp only [Act.put, List.setIfInBounds_toArray, List.set_cons_zero, List.set_cons_succ]
            refine wpAnyH_read (i := 4) (oi := { dst := some 54, op := Go.Op.load 9 (Go.Operand.tmp 53), type := 9, pos := "law.go:89", after := #[{ on := 3, ground := Go.Ground.data }], guard := none }) ?_ rfl (by kernel_rfl) (by kernel_rfl) (by kernel_rfl) (fun _ _ _ h => h) (by rfl) (by assumption) ?_ ?_
            rotate_left
            · (intro w0 hS0; obtain ⟨s1, s2⟩ := hS0; go_simp <;> (try with_reducible rfl))
            try simp only [Act.put, List.setIfInBounds_toArray, List.set_cons_zero, List.set_cons_succ]
            refine wpAnyH_read (i := 8) (oi := { dst := some 58, op := Go.Op.load 3 (Go.Operand.tmp 57), type := 3, pos := "law.go:89", after := #[{ on := 7, ground := Go.Ground.data }], guard := none }) ?_ rfl (by kernel_rfl) (by kernel_rfl) (by kernel_rfl) (fun _ _ _ h => h) (by rfl) (by assumption) ?_ ?_
            rotate_left
            · (intro w0 hS0; obtain ⟨s1, s2⟩ := hS0; go_simp <;> (try with_reducible rfl))
            try simp only [Act.put, List.setIfInBounds_toArray, List.set_cons_zero, List.set_cons_succ]
            refine wpAnyH_read (i := 10) (oi := { dst := some 60, op := Go.Op.load 9 (Go.Operand.tmp 59), type := 9, pos := "law.go:89", after := #[{ on := 9, ground := Go.Ground.data }], guard := none }) ?_ rfl (by kernel_rfl) (by kernel_rfl) (by kernel_rfl) (fun _ _ _ h => h) (by rfl) (by assumption) ?_ ?_
            rotate_left
            · (intro w0 hS0; obtain ⟨s1, s2⟩ := hS0; go_simp <;> (try with_reducible rfl))
            try simp only [Act.put, List.setIfInBounds_toArray, List.set_cons_zero, List.set_cons_succ]
            refine wpAnyH_one (i := 5) (o := { dst := some 55, op := Go.Op.call { callee := Go.Callee.value (Go.Operand.func 13), args := #[Go.Operand.tmp 50, Go.Operand.tmp 52, Go.Operand.tmp 54], argTypes := #[25, 3, 9] }, type := 35, pos := "law.go:89", after := #[{ on := 0, ground := Go.Ground.data }, { on := 2, ground := Go.Ground.data }, { on := 4, ground := Go.Ground.data }], guard := none }) (by kernel_rfl) rfl (by rfl) (fun K hK => ?_)
            go_simp
            refine HS.out.mono ?_
            rintro e w5 ⟨X5, c5, L5, rfl, x5, f5, h5, q5⟩
            have P5 := Lib.hid (HPD.out.1.relStep h5 x5 f5)
            have HQ5 : Hid (_ ∧ L5.length ≤ j + 1) := ⟨q5, by rcases q5 with ⟨rfl, _⟩ | ⟨rfl, _⟩; (have := HPD.out.2; omega); (rw [List.length_append, List.length_singleton]; have := HPD.out.2; omega)⟩
            clear x5 h5 q5
            have s5 : (∀ p, p = 1 ∨ p = 2 → w5.cell? ⟨ab, p, none⟩ = Wa.drew.cell? ⟨ab, p, none⟩) := fun p _ => f5.cell (p := ⟨ab, p, none⟩) HAB.out.1 HAB.out.2.1
            have HS5 := Lib.hid s5
            have F5 := Lib.hid f5
            clear s5 f5
            go_wp2_with fail
            refine hK.out _ _ ?_ (fun hHeld => ?_)
            · exact ⟨(HS5.out 1 (.inl rfl)).trans ha1, (HS5.out 2 (.inr rfl)).trans ha2⟩
            clear hK K
            try simp only [Act.put, List.setIfInBounds_toArray, List.set_cons_zero, List.set_cons_succ]
            refine wpAnyH_one (i := 11) (o := { dst := some 61, op := Go.Op.call { callee := Go.Callee.value (Go.Operand.func 14), args := #[Go.Operand.tmp 56, Go.Operand.tmp 58, Go.Operand.tmp 60], argTypes := #[27, 3, 9] }, type := 3, pos := "law.go:89", after := #[{ on := 6, ground := Go.Ground.data }, { on := 8, ground := Go.Ground.data }, { on := 10, ground := Go.Ground.data }, { on := 5, ground := Go.Ground.chain }], guard := none }) (by kernel_rfl) rfl (by rfl) (fun K hK => ?_)
            go_simp
            refine (add_syncW P5.out (by omega) HPD.out.1.rel.ok HPD.out.1.rel.nodup HOK.out.2 HQ5.out.1).mono ?_
            rintro e w6 ⟨rfl, h6, f6⟩
            have F6 := Lib.hid (And.intro h6 f6)
            clear h6 f6
            have HS6 : Hid (∀ p, p = 1 ∨ p = 2 → w6.cell? ⟨ab, p, none⟩ = w5.cell? ⟨ab, p, none⟩) := fun p _ => F6.out.2.cell (p := ⟨ab, p, none⟩) (Nat.lt_of_lt_of_le HAB.out.1 F5.out.size) HAB.out.2.2
            go_wp2_with fail
            refine hK.out _ _ ?_ (fun hHeld => ?_)
            · exact ⟨(HS6.out 1 (.inl rfl)).trans ((HS5.out 1 (.inl rfl)).trans ha1), (HS6.out 2 (.inr rfl)).trans ((HS5.out 2 (.inr rfl)).trans ha2)⟩
            clear hK K
            try simp only [Act.put, List.setIfInBounds_toArray, List.set_cons_zero, List.set_cons_succ]
            refine wpAnyH_read (i := 12) (oi := { dst := some 62, op := Go.Op.binOp Go.BinOp.eql 3 (Go.Operand.tmp 55) (Go.Operand.tmp 61) 3, type := 4, pos := "law.go:89", after := #[{ on := 5, ground := Go.Ground.data }, { on := 11, ground := Go.Ground.data }], guard := none }) ?_ rfl (by kernel_rfl) (by kernel_rfl) (by kernel_rfl) (fun _ _ _ h => h) (by rfl) (by assumption) ?_ ?_
            rotate_left
            · (intro w0 hS0; go_simp <;> (try with_reducible rfl))
            try simp only [Act.put, List.setIfInBounds_toArray, List.set_cons_zero, List.set_cons_succ]
            refine wpAnyH_read (i := 13) (oi := { dst := some 11, op := Go.Op.assign (Go.Operand.tmp 62), type := 4, pos := "law.go:89", after := #[{ on := 12, ground := Go.Ground.data }, { on := 11, ground := Go.Ground.chain }, { on := 0, ground := Go.Ground.phase }, { on := 1, ground := Go.Ground.phase }, { on := 2, ground := Go.Ground.phase }, { on := 3, ground := Go.Ground.phase }, { on := 4, ground := Go.Ground.phase }, { on := 5, ground := Go.Ground.phase }, { on := 6, ground := Go.Ground.phase }, { on := 7, ground := Go.Ground.phase }, { on := 8, ground := Go.Ground.phase }, { on := 9, ground := Go.Ground.phase }, { on := 10, ground := Go.Ground.phase }, { on := 11, ground := Go.Ground.phase }, { on := 12, ground := Go.Ground.phase }], guard := none }) ?_ rfl (by kernel_rfl) (by kernel_rfl) (by kernel_rfl) (fun _ _ _ h => h) (by rfl) (by assumption) ?_ ?_
            rotate_left
            · (intro w0 hS0; go_simp <;> (try with_reducible rfl))
            try simp only [Act.put, List.setIfInBounds_toArray, List.set_cons_zero, List.set_cons_succ]
            refine wpAnyH_done (by kernel_rfl) ?_ _
            go_wp2_with fail
            go_meet
            case rel =>
              refine ⟨by simp, ?_⟩
              obtain ⟨Z6, P6⟩ := F6.out.1
              exact ⟨_, Z6, _, HQ5.out.2, P6, F6.out.2.blk (F5.out.blk (blk_drew HAA.out) HAB.out.2.1) HAB.out.2.2⟩
      case rest =>
        obtain ⟨rfl, hcut2⟩ := hcut
        obtain ⟨X2, Z2, L2, hL2, hP2, ha⟩ := hcut2.out
        have hL2l : L2.length ≤ 41 := by omega
        have hnd := hP2.rel.nodup
        have hok := hP2.rel.ok
        obtain ⟨D, hD⟩ := namesW_ex hnd ac
        have d3 := namesW_len hD
        obtain ⟨E, hE⟩ : ∃ E, byW L2 (foldL nm) = E := ⟨_, rfl⟩
        have e1 : E.Pairwise (· < ·) := by rw [← hE]; exact byW_up _ _
        have e2 : ∀ a, a ∈ E ↔ (a, foldL nm) ∈ L2.map fkW := fun a => by rw [← hE]; exact byW_mem _ _ _
        have e3 : E.length ≤ L2.length := by rw [← hE]; exact byW_len _ _
        have HPP : Hid (∀ V, Fr (fun _ => False) wc V → PlayW w t X2 most L2 B Z2 L2 V) := fun V hV => hP2.rest hV
        have HR := Lib.hid (names21 (w := wc) (a := ac) (xs := D) (fun V hV => wisOf (HPP.out V hV).rel (by omega) HOK.out.1 hD) (by omega))
        have HLf : Hid (∀ W, Fr (fun _ => False) wc W → Calls Tryz.prog 16 #[.pointer (some ⟨t, 0, none⟩), .string (bs nm)] W (Told21L E W)) := fun W hW => clients21 (fun V hV => wisBy (HPP.out V (hW.trans hV)).rel (by omega) hn1 e1 e2) (by omega)
        have HSa : Hid (∀ V, Fr (fun _ => False) wc V → V.cell? ⟨ab, 1, none⟩ = some (.int .i64 ac)) := fun V hV => (blk_cell (hV.blk ha fun e => e) 1).trans rfl
        have HD := Lib.hid (And.intro hD (And.intro d3 (And.intro hE (And.intro e3 (And.intro hnd (And.intro hok (And.intro e1 e2)))))))
        have a1 := HSa.out wc (Fr.refl _ _)
        have HCC := Lib.hid hL2
        clear hcut2 hP2 ha hD d3 e1 e2 e3 hE hL2 HW HP HA hnd hok
        go_wp2_with fail
        refine HR.out.mono ?_
        rintro e w5 ⟨⟨v5, rfl, o5⟩, b5⟩
        obtain ⟨A5, c5, rfl⟩ := row_slice o5
        have f5 : Fr (fun _ => False) wc w5 := Fr.of_below b5
        have F5 := Lib.hid (And.intro f5 o5)
        have a3 := HSa.out w5 f5
        clear f5 o5 b5
        go_wp2_with fail
        refine (HLf.out w5 F5.out.1).mono ?_
        rintro e w6 ⟨⟨v6, rfl, o6⟩, b6⟩
        obtain ⟨A6, c6, rfl⟩ := row_slice o6
        have f6 : Fr (fun _ => False) wc w6 := F5.out.1.trans (Fr.of_below b6)
        have hr5 : ReadsT w6 A5 D := (reads_ownT F5.out.2).below b6
        have hr6 : ReadsI w6 A6 E := reads_ownI o6
        have F6 := Lib.hid (And.intro f6 (And.intro hr5 hr6))
        clear f6 o6 b6 hr5 hr6 a1 a3
        have HS : Hid (∀ V, Fr (fun _ => False) w6 V → V.cell? ⟨ab, 1, none⟩ = some (.int .i64 ac)) := fun V hV => HSa.out V (F6.out.1.trans hV)
        obtain ⟨d, hd⟩ : ∃ d, decide ((ac, foldL nm) ∈ L2.map fkW) = d := ⟨_, rfl⟩
        have H14 : Hid (∀ V, Fr (fun _ => False) w6 V → Calls Tryz.prog 17 #[.pointer (some ⟨t, 0, none⟩), .int .i64 ac] V fun e V' => e = .returned (.int .i64 D.length) ∧ Fr (fun _ => False) V V') := fun V hV => (wisCount (HPP.out V (F6.out.1.trans hV)).rel HOK.out.1 HD.out.1).mono fun e V' ⟨h1, h2⟩ => ⟨h1, by rw [h2]; exact Fr.refl _ _⟩
        have H24 : Hid (∀ V, Fr (fun _ => False) w6 V → Calls Tryz.prog 18 #[.pointer (some ⟨t, 0, none⟩), .int .i64 ac, .string (bs nm)] V fun e V' => e = .returned (.bool d) ∧ Fr (fun _ => False) V V') := fun V hV => (wisHas (HPP.out V (F6.out.1.trans hV)).rel (by omega) HOK.out.1 hn1).mono fun e V' ⟨h1, h2⟩ => ⟨by rw [← hd]; exact h1, Fr.of_below h2⟩
        have H29 : Hid (∀ V, Fr (fun _ => False) w6 V → Calls Tryz.prog 19 #[.pointer (some ⟨B, 0, none⟩), .int .i64 ac, .string (bs nm)] V fun e V' => (∃ k : Int, e = .returned (.int .i64 k) ∧ decide (0 ≤ k) = d) ∧ Fr (fun _ => False) V V') := fun V hV => (refw_at (HPP.out V (F6.out.1.trans hV)).ref.wr (by omega) HD.out.2.2.2.2.2.1 ac hn1).mono fun e V' ⟨⟨k, h1, h2⟩, h3⟩ => ⟨⟨k, h1, by
          rw [← hd]
          rcases h2 with ⟨i, hi, rfl, e1, _⟩ | ⟨rfl, hno⟩
          · rw [decide_eq_true (by omega), decide_eq_true (by rw [← e1]; exact List.mem_map_of_mem (List.getElem_mem hi))]
          · rw [decide_eq_false (by omega), decide_eq_false hno]⟩, Fr.of_below h3⟩
        have H38 : Hid (∀ V, Fr (fun _ => False) w6 V → Calls Tryz.prog 21 #[.pointer (some ⟨B, 0, none⟩), .int .i64 ac] V fun e V' => (∃ A c, e = .returned (.slice A D.length c) ∧ ReadsT V' A D) ∧ Fr (fun _ => False) V V') := fun V hV => (refw_ofD (HPP.out V (F6.out.1.trans hV)).ref.wr (by omega) HD.out.2.2.2.2.2.1 HD.out.2.2.2.2.1 HD.out.1).mono fun e V' ⟨⟨A, c, h1, h2⟩, h3⟩ => ⟨⟨A, c, h1, reads_ownT h2⟩, Fr.of_below h3⟩
        have H39 : Hid (∀ V A c1 c2, Fr (fun _ => False) w6 V → ReadsT V A D → Calls Tryz.prog 20 #[.slice A5 D.length c1, .slice A D.length c2] V fun e V' => e = .returned (.bool true) ∧ Fr (fun _ => False) V V') := fun V A c1 c2 hV hr => (texts_is c1 c2 (by have := HD.out.2.1; omega) (readsT_fr F6.out.2.1 hV fun _ _ _ e => e) hr).mono fun e V' ⟨h1, q, h2⟩ => ⟨h1, by rw [h2]; exact (Fr.refl _ _).drewN q⟩
        have H46 : Hid (∀ V, Fr (fun _ => False) w6 V → Calls Tryz.prog 23 #[.pointer (some ⟨B, 0, none⟩), .string (bs nm)] V fun e V' => (∃ A c, e = .returned (.slice A E.length c) ∧ ReadsI V' A E) ∧ Fr (fun _ => False) V V') := fun V hV => (refw_by (HPP.out V (F6.out.1.trans hV)).ref.wr (by omega) HD.out.2.2.2.2.2.1 hn1).mono fun e V' ⟨⟨v, h1, h2⟩, h3⟩ => by
          rw [HD.out.2.2.1] at h2
          obtain ⟨A, c, rfl⟩ := row_slice h2
          exact ⟨⟨A, c, h1, reads_ownI h2⟩, Fr.of_below h3⟩
        have H47 : Hid (∀ V A c1 c2, Fr (fun _ => False) w6 V → ReadsI V A E → Calls Tryz.prog 22 #[.slice A6 E.length c1, .slice A E.length c2] V fun e V' => e = .returned (.bool true) ∧ Fr (fun _ => False) V V') := fun V A c1 c2 hV hr => (same10_eq A6 A E E c1 c2 rfl (by have := HD.out.2.2.2.1; omega) (readsI_frW F6.out.2.2 hV) hr).mono fun e V' ⟨h1, q, h2⟩ => ⟨by rw [h1]; simp, by rw [h2]; exact (Fr.refl _ _).drewN q⟩
        clear hd
        have a1 := HS.out w6 (Fr.refl _ _)
        go_wp2_with fail
        have G0 : Hid (Fr (fun _ => False) w6 w6.drew) := (Fr.refl (fun _ => False) w6).drew
        refine wp_region_held_drew (S := fun V => V.cell? ⟨ab, 1, none⟩ = some (.int .i64 ac)) (by kernel_rfl) (by exact a1) (fun hHeld => ?_)
        refine wpAnyH_read (i := 0) (oi := { dst := some 102, op := Go.Op.move (Go.Operand.tmp 11), type := 4, pos := "law.go:93", after := #[], guard := none }) ?_ rfl (by kernel_rfl) (by kernel_rfl) (by kernel_rfl) (fun _ _ _ h => h) (by rfl) (by assumption) ?_ ?_
        rotate_left
        · (intro w0 hS0; go_simp <;> (try with_reducible rfl))
        try simp only [Act.put, List.setIfInBounds_toArray, List.set_cons_zero, List.set_cons_succ]
        refine wpAnyH_read (i := 1) (oi := { dst := some 103, op := Go.Op.unOp Go.UnOp.not 4 (Go.Operand.tmp 102), type := 4, pos := "law.go:93", after := #[{ on := 0, ground := Go.Ground.data }], guard := none }) ?_ rfl (by kernel_rfl) (by kernel_rfl) (by kernel_rfl) (fun _ _ _ h => h) (by rfl) (by assumption) ?_ ?_
        rotate_left
        · (intro w0 hS0; go_simp <;> (try with_reducible rfl))
        try simp only [Act.put, List.setIfInBounds_toArray, List.set_cons_zero, List.set_cons_succ]
        refine wpAnyH_read (i := 2) (oi := { dst := some 104, op := Go.Op.move (Go.Operand.tmp 103), type := 4, pos := "law.go:93", after := #[{ on := 1, ground := Go.Ground.data }], guard := none }) ?_ rfl (by kernel_rfl) (by kernel_rfl) (by kernel_rfl) (fun _ _ _ h => h) (by rfl) (by assumption) ?_ ?_
        rotate_left
        · (intro w0 hS0; go_simp <;> (try with_reducible rfl))
        try simp only [Act.put, List.setIfInBounds_toArray, List.set_cons_zero, List.set_cons_succ]
        refine wpAnyH_read (i := 3) (oi := { dst := some 105, op := Go.Op.move (Go.Operand.tmp 13), type := 4, pos := "law.go:93", after := #[{ on := 2, ground := Go.Ground.guard }], guard := some (2, false) }) ?_ rfl (by kernel_rfl) (by kernel_rfl) (by kernel_rfl) (fun _ _ _ h => h) (by rfl) (by assumption) ?_ ?_
        rotate_left
        · (intro w0 hS0; go_simp <;> (try with_reducible rfl))
        try simp only [Act.put, List.setIfInBounds_toArray, List.set_cons_zero, List.set_cons_succ]
        refine wpAnyH_read (i := 4) (oi := { dst := some 106, op := Go.Op.unOp Go.UnOp.not 4 (Go.Operand.tmp 105), type := 4, pos := "law.go:93", after := #[{ on := 3, ground := Go.Ground.data }, { on := 2, ground := Go.Ground.guard }], guard := some (2, false) }) ?_ rfl (by kernel_rfl) (by kernel_rfl) (by kernel_rfl) (fun _ _ _ h => h) (by rfl) (by assumption) ?_ ?_
        rotate_left
        · (intro w0 hS0; go_simp <;> (try with_reducible rfl))
        try simp only [Act.put, List.setIfInBounds_toArray, List.set_cons_zero, List.set_cons_succ]
        refine wpAnyH_read (i := 5) (oi := { dst := some 107, op := Go.Op.pick (Go.Operand.tmp 104) (Go.Operand.const (Go.Value.bool true)) (Go.Operand.tmp 106), type := 4, pos := "law.go:93", after := #[{ on := 2, ground := Go.Ground.data }, { on := 4, ground := Go.Ground.data }], guard := none }) ?_ rfl (by kernel_rfl) (by kernel_rfl) (by kernel_rfl) (fun _ _ _ h => h) (by rfl) (by assumption) ?_ ?_
        rotate_left
        · (intro w0 hS0; go_simp <;> (try with_reducible rfl))
        try simp only [Act.put, List.setIfInBounds_toArray, List.set_cons_zero, List.set_cons_succ]
        refine wpAnyH_read (i := 6) (oi := { dst := some 108, op := Go.Op.move (Go.Operand.tmp 107), type := 4, pos := "law.go:93", after := #[{ on := 5, ground := Go.Ground.data }, { on := 2, ground := Go.Ground.chain }], guard := none }) ?_ rfl (by kernel_rfl) (by kernel_rfl) (by kernel_rfl) (fun _ _ _ h => h) (by rfl) (by assumption) ?_ ?_
        rotate_left
        · (intro w0 hS0; go_simp <;> (try with_reducible rfl))
        try simp only [Act.put, List.setIfInBounds_toArray, List.set_cons_zero, List.set_cons_succ]
        refine wpAnyH_read (i := 7) (oi := { dst := some 109, op := Go.Op.move (Go.Operand.tmp 15), type := 4, pos := "law.go:93", after := #[{ on := 6, ground := Go.Ground.guard }], guard := some (6, false) }) ?_ rfl (by kernel_rfl) (by kernel_rfl) (by kernel_rfl) (fun _ _ _ h => h) (by rfl) (by assumption) ?_ ?_
        rotate_left
        · (intro w0 hS0; go_simp <;> (try with_reducible rfl))
        try simp only [Act.put, List.setIfInBounds_toArray, List.set_cons_zero, List.set_cons_succ]
        refine wpAnyH_read (i := 8) (oi := { dst := some 110, op := Go.Op.unOp Go.UnOp.not 4 (Go.Operand.tmp 109), type := 4, pos := "law.go:93", after := #[{ on := 7, ground := Go.Ground.data }, { on := 6, ground := Go.Ground.guard }], guard := some (6, false) }) ?_ rfl (by kernel_rfl) (by kernel_rfl) (by kernel_rfl) (fun _ _ _ h => h) (by rfl) (by assumption) ?_ ?_
        rotate_left
        · (intro w0 hS0; go_simp <;> (try with_reducible rfl))
        try simp only [Act.put, List.setIfInBounds_toArray, List.set_cons_zero, List.set_cons_succ]
        refine wpAnyH_read (i := 9) (oi := { dst := some 111, op := Go.Op.pick (Go.Operand.tmp 108) (Go.Operand.const (Go.Value.bool true)) (Go.Operand.tmp 110), type := 4, pos := "law.go:93", after := #[{ on := 6, ground := Go.Ground.data }, { on := 8, ground := Go.Ground.data }], guard := none }) ?_ rfl (by kernel_rfl) (by kernel_rfl) (by kernel_rfl) (fun _ _ _ h => h) (by rfl) (by assumption) ?_ ?_
        rotate_left
        · (intro w0 hS0; go_simp <;> (try with_reducible rfl))
        try simp only [Act.put, List.setIfInBounds_toArray, List.set_cons_zero, List.set_cons_succ]
        refine wpAnyH_read (i := 10) (oi := { dst := some 112, op := Go.Op.move (Go.Operand.tmp 111), type := 4, pos := "law.go:93", after := #[{ on := 9, ground := Go.Ground.data }, { on := 6, ground := Go.Ground.chain }], guard := none }) ?_ rfl (by kernel_rfl) (by kernel_rfl) (by kernel_rfl) (fun _ _ _ h => h) (by rfl) (by assumption) ?_ ?_
        rotate_left
        · (intro w0 hS0; go_simp <;> (try with_reducible rfl))
        try simp only [Act.put, List.setIfInBounds_toArray, List.set_cons_zero, List.set_cons_succ]
        refine wpAnyH_read (i := 11) (oi := { dst := some 113, op := Go.Op.move (Go.Operand.tmp 7), type := 25, pos := "law.go:93", after := #[{ on := 10, ground := Go.Ground.guard }], guard := some (10, false) }) ?_ rfl (by kernel_rfl) (by kernel_rfl) (by kernel_rfl) (fun _ _ _ h => h) (by rfl) (by assumption) ?_ ?_
        rotate_left
        · (intro w0 hS0; go_simp <;> (try with_reducible rfl))
        try simp only [Act.put, List.setIfInBounds_toArray, List.set_cons_zero, List.set_cons_succ]
        refine wpAnyH_read (i := 12) (oi := { dst := some 114, op := Go.Op.fieldAddr 32 (Go.Operand.tmp 10) 1, type := 0, pos := "law.go:93", after := #[{ on := 10, ground := Go.Ground.guard }], guard := some (10, false) }) ?_ rfl (by kernel_rfl) (by kernel_rfl) (by kernel_rfl) (fun _ _ _ h => h) (by rfl) (by assumption) ?_ ?_
        rotate_left
        · (intro w0 hS0; go_simp <;> (try with_reducible rfl))
        try simp only [Act.put, List.setIfInBounds_toArray, List.set_cons_zero, List.set_cons_succ]
        refine wpAnyH_read (i := 15) (oi := { dst := some 117, op := Go.Op.move (Go.Operand.tmp 12), type := 38, pos := "law.go:93", after := #[{ on := 10, ground := Go.Ground.guard }], guard := some (10, false) }) ?_ rfl (by kernel_rfl) (by kernel_rfl) (by kernel_rfl) (fun _ _ _ h => h) (by rfl) (by assumption) ?_ ?_
        rotate_left
        · (intro w0 hS0; go_simp <;> (try with_reducible rfl))
        try simp only [Act.put, List.setIfInBounds_toArray, List.set_cons_zero, List.set_cons_succ]
        refine wpAnyH_read (i := 16) (oi := { dst := some 118, op := Go.Op.call { callee := Go.Callee.builtin Go.Builtin.len, args := #[Go.Operand.tmp 117], argTypes := #[38] }, type := 3, pos := "law.go:93", after := #[{ on := 15, ground := Go.Ground.data }, { on := 10, ground := Go.Ground.guard }], guard := some (10, false) }) ?_ rfl (by kernel_rfl) (by kernel_rfl) (by kernel_rfl) (fun _ _ _ h => h) (by rfl) (by assumption) ?_ ?_
        rotate_left
        · (intro w0 hS0; go_simp <;> (try with_reducible rfl))
        try simp only [Act.put, List.setIfInBounds_toArray, List.set_cons_zero, List.set_cons_succ]
        refine wpAnyH_read (i := 13) (oi := { dst := some 115, op := Go.Op.load 3 (Go.Operand.tmp 114), type := 3, pos := "law.go:93", after := #[{ on := 12, ground := Go.Ground.data }, { on := 10, ground := Go.Ground.guard }], guard := some (10, false) }) ?_ rfl (by kernel_rfl) (by kernel_rfl) (by kernel_rfl) (fun _ _ _ h => h) (by rfl) (by assumption) ?_ ?_
        rotate_left
        · (intro w0 hS0; have s1 := hS0; go_simp <;> (try with_reducible rfl))
        try simp only [Act.put, List.setIfInBounds_toArray, List.set_cons_zero, List.set_cons_succ]
        refine wpAnyH_one (i := 14) (o := { dst := some 116, op := Go.Op.call { callee := Go.Callee.value (Go.Operand.func 17), args := #[Go.Operand.tmp 113, Go.Operand.tmp 115], argTypes := #[25, 3] }, type := 3, pos := "law.go:93", after := #[{ on := 11, ground := Go.Ground.data }, { on := 13, ground := Go.Ground.data }, { on := 10, ground := Go.Ground.chain }, { on := 10, ground := Go.Ground.guard }], guard := some (10, false) }) (by kernel_rfl) rfl (by rfl) (fun K hK => ?_)
        go_simp
        refine (H14.out _ G0.out).mono ?_
        rintro e v14 ⟨rfl, f14⟩
        have G14 := Lib.hid (G0.out.trans f14)
        clear f14
        go_wp2_with fail
        refine hK.out _ _ ?_ (fun hHeld => ?_)
        · exact HS.out _ G14.out
        clear hK K
        try simp only [Act.put, List.setIfInBounds_toArray, List.set_cons_zero, List.set_cons_succ]
        refine wpAnyH_read (i := 17) (oi := { dst := some 119, op := Go.Op.binOp Go.BinOp.neq 3 (Go.Operand.tmp 116) (Go.Operand.tmp 118) 3, type := 4, pos := "law.go:93", after := #[{ on := 14, ground := Go.Ground.data }, { on := 16, ground := Go.Ground.data }, { on := 10, ground := Go.Ground.guard }], guard := some (10, false) }) ?_ rfl (by kernel_rfl) (by kernel_rfl) (by kernel_rfl) (fun _ _ _ h => h) (by rfl) (by assumption) ?_ ?_
        rotate_left
        · (intro w0 hS0; go_simp <;> (try with_reducible rfl))
        try simp only [Act.put, List.setIfInBounds_toArray, List.set_cons_zero, List.set_cons_succ]
        refine wpAnyH_read (i := 18) (oi := { dst := some 120, op := Go.Op.pick (Go.Operand.tmp 112) (Go.Operand.const (Go.Value.bool true)) (Go.Operand.tmp 119), type := 4, pos := "law.go:93", after := #[{ on := 10, ground := Go.Ground.data }, { on := 17, ground := Go.Ground.data }], guard := none }) ?_ rfl (by kernel_rfl) (by kernel_rfl) (by kernel_rfl) (fun _ _ _ h => h) (by rfl) (by assumption) ?_ ?_
        rotate_left
        · (intro w0 hS0; go_simp <;> (try with_reducible rfl))
        try simp only [Act.put, List.setIfInBounds_toArray, List.set_cons_zero, List.set_cons_succ]
        refine wpAnyH_read (i := 19) (oi := { dst := some 121, op := Go.Op.move (Go.Operand.tmp 120), type := 4, pos := "law.go:93", after := #[{ on := 18, ground := Go.Ground.data }, { on := 14, ground := Go.Ground.chain }], guard := none }) ?_ rfl (by kernel_rfl) (by kernel_rfl) (by kernel_rfl) (fun _ _ _ h => h) (by rfl) (by assumption) ?_ ?_
        rotate_left
        · (intro w0 hS0; go_simp <;> (try with_reducible rfl))
        try simp only [Act.put, List.setIfInBounds_toArray, List.set_cons_zero, List.set_cons_succ]
        refine wpAnyH_read (i := 20) (oi := { dst := some 122, op := Go.Op.move (Go.Operand.tmp 7), type := 25, pos := "law.go:93", after := #[{ on := 19, ground := Go.Ground.guard }], guard := some (19, false) }) ?_ rfl (by kernel_rfl) (by kernel_rfl) (by kernel_rfl) (fun _ _ _ h => h) (by rfl) (by assumption) ?_ ?_
        rotate_left
        · (intro w0 hS0; go_simp <;> (try with_reducible rfl))
        try simp only [Act.put, List.setIfInBounds_toArray, List.set_cons_zero, List.set_cons_succ]
        refine wpAnyH_read (i := 21) (oi := { dst := some 123, op := Go.Op.fieldAddr 32 (Go.Operand.tmp 10) 1, type := 0, pos := "law.go:93", after := #[{ on := 19, ground := Go.Ground.guard }], guard := some (19, false) }) ?_ rfl (by kernel_rfl) (by kernel_rfl) (by kernel_rfl) (fun _ _ _ h => h) (by rfl) (by assumption) ?_ ?_
        rotate_left
        · (intro w0 hS0; go_simp <;> (try with_reducible rfl))
        try simp only [Act.put, List.setIfInBounds_toArray, List.set_cons_zero, List.set_cons_succ]
        refine wpAnyH_read (i := 23) (oi := { dst := some 125, op := Go.Op.move (Go.Operand.tmp 2), type := 9, pos := "law.go:93", after := #[{ on := 19, ground := Go.Ground.guard }], guard := some (19, false) }) ?_ rfl (by kernel_rfl) (by kernel_rfl) (by kernel_rfl) (fun _ _ _ h => h) (by rfl) (by assumption) ?_ ?_
        rotate_left
        · (intro w0 hS0; go_simp <;> (try with_reducible rfl))
        try simp only [Act.put, List.setIfInBounds_toArray, List.set_cons_zero, List.set_cons_succ]
        refine wpAnyH_read (i := 25) (oi := { dst := some 127, op := Go.Op.move (Go.Operand.tmp 8), type := 27, pos := "law.go:93", after := #[{ on := 19, ground := Go.Ground.guard }], guard := some (19, false) }) ?_ rfl (by kernel_rfl) (by kernel_rfl) (by kernel_rfl) (fun _ _ _ h => h) (by rfl) (by assumption) ?_ ?_
        rotate_left
        · (intro w0 hS0; go_simp <;> (try with_reducible rfl))
        try simp only [Act.put, List.setIfInBounds_toArray, List.set_cons_zero, List.set_cons_succ]
        refine wpAnyH_read (i := 26) (oi := { dst := some 128, op := Go.Op.fieldAddr 32 (Go.Operand.tmp 10) 1, type := 0, pos := "law.go:93", after := #[{ on := 19, ground := Go.Ground.guard }], guard := some (19, false) }) ?_ rfl (by kernel_rfl) (by kernel_rfl) (by kernel_rfl) (fun _ _ _ h => h) (by rfl) (by assumption) ?_ ?_
        rotate_left
        · (intro w0 hS0; go_simp <;> (try with_reducible rfl))
        try simp only [Act.put, List.setIfInBounds_toArray, List.set_cons_zero, List.set_cons_succ]
        refine wpAnyH_read (i := 28) (oi := { dst := some 130, op := Go.Op.move (Go.Operand.tmp 2), type := 9, pos := "law.go:93", after := #[{ on := 19, ground := Go.Ground.guard }], guard := some (19, false) }) ?_ rfl (by kernel_rfl) (by kernel_rfl) (by kernel_rfl) (fun _ _ _ h => h) (by rfl) (by assumption) ?_ ?_
        rotate_left
        · (intro w0 hS0; go_simp <;> (try with_reducible rfl))
        try simp only [Act.put, List.setIfInBounds_toArray, List.set_cons_zero, List.set_cons_succ]
        refine wpAnyH_read (i := 22) (oi := { dst := some 124, op := Go.Op.load 3 (Go.Operand.tmp 123), type := 3, pos := "law.go:93", after := #[{ on := 21, ground := Go.Ground.data }, { on := 19, ground := Go.Ground.guard }], guard := some (19, false) }) ?_ rfl (by kernel_rfl) (by kernel_rfl) (by kernel_rfl) (fun _ _ _ h => h) (by rfl) (by assumption) ?_ ?_
        rotate_left
        · (intro w0 hS0; have s1 := hS0; go_simp <;> (try with_reducible rfl))
        try simp only [Act.put, List.setIfInBounds_toArray, List.set_cons_zero, List.set_cons_succ]
        refine wpAnyH_read (i := 27) (oi := { dst := some 129, op := Go.Op.load 3 (Go.Operand.tmp 128), type := 3, pos := "law.go:93", after := #[{ on := 26, ground := Go.Ground.data }, { on := 19, ground := Go.Ground.guard }], guard := some (19, false) }) ?_ rfl (by kernel_rfl) (by kernel_rfl) (by kernel_rfl) (fun _ _ _ h => h) (by rfl) (by assumption) ?_ ?_
        rotate_left
        · (intro w0 hS0; have s1 := hS0; go_simp <;> (try with_reducible rfl))
        try simp only [Act.put, List.setIfInBounds_toArray, List.set_cons_zero, List.set_cons_succ]
        refine wpAnyH_one (i := 24) (o := { dst := some 126, op := Go.Op.call { callee := Go.Callee.value (Go.Operand.func 18), args := #[Go.Operand.tmp 122, Go.Operand.tmp 124, Go.Operand.tmp 125], argTypes := #[25, 3, 9] }, type := 4, pos := "law.go:93", after := #[{ on := 20, ground := Go.Ground.data }, { on := 22, ground := Go.Ground.data }, { on := 23, ground := Go.Ground.data }, { on := 19, ground := Go.Ground.chain }, { on := 19, ground := Go.Ground.guard }], guard := some (19, false) }) (by kernel_rfl) rfl (by rfl) (fun K hK => ?_)
        go_simp
        refine (H24.out _ G14.out).mono ?_
        rintro e v24 ⟨rfl, f24⟩
        have G24 := Lib.hid (G14.out.trans f24)
        clear f24
        go_wp2_with fail
        refine hK.out _ _ ?_ (fun hHeld => ?_)
        · exact HS.out _ G24.out
        clear hK K
        try simp only [Act.put, List.setIfInBounds_toArray, List.set_cons_zero, List.set_cons_succ]
        refine wpAnyH_one (i := 29) (o := { dst := some 131, op := Go.Op.call { callee := Go.Callee.value (Go.Operand.func 19), args := #[Go.Operand.tmp 127, Go.Operand.tmp 129, Go.Operand.tmp 130], argTypes := #[27, 3, 9] }, type := 3, pos := "law.go:93", after := #[{ on := 25, ground := Go.Ground.data }, { on := 27, ground := Go.Ground.data }, { on := 28, ground := Go.Ground.data }, { on := 24, ground := Go.Ground.chain }, { on := 19, ground := Go.Ground.guard }], guard := some (19, false) }) (by kernel_rfl) rfl (by rfl) (fun K hK => ?_)
        go_simp
        refine (H29.out _ G24.out).mono ?_
        rintro e v29 ⟨⟨kk, rfl, hkk⟩, f29⟩
        have G29 := Lib.hid (G24.out.trans f29)
        have hkk2 : decide (kk ≥ 0) = d := hkk
        clear f29
        go_wp2_with fail
        refine hK.out _ _ ?_ (fun hHeld => ?_)
        · exact HS.out _ G29.out
        clear hK K
        try simp only [Act.put, List.setIfInBounds_toArray, List.set_cons_zero, List.set_cons_succ]
        refine wpAnyH_read (i := 30) (oi := { dst := some 132, op := Go.Op.binOp Go.BinOp.geq 3 (Go.Operand.tmp 131) (Go.Operand.const (Go.Value.int Go.IntKind.i64 0)) 3, type := 4, pos := "law.go:93", after := #[{ on := 29, ground := Go.Ground.data }, { on := 19, ground := Go.Ground.guard }], guard := some (19, false) }) ?_ rfl (by kernel_rfl) (by kernel_rfl) (by kernel_rfl) (fun _ _ _ h => h) (by rfl) (by assumption) ?_ ?_
        rotate_left
        · (intro w0 hS0; go_simp <;> (try with_reducible rfl))
        try simp only [Act.put, List.setIfInBounds_toArray, List.set_cons_zero, List.set_cons_succ]
        refine wpAnyH_read (i := 31) (oi := { dst := some 133, op := Go.Op.binOp Go.BinOp.neq 4 (Go.Operand.tmp 126) (Go.Operand.tmp 132) 4, type := 4, pos := "law.go:93", after := #[{ on := 24, ground := Go.Ground.data }, { on := 30, ground := Go.Ground.data }, { on := 19, ground := Go.Ground.guard }], guard := some (19, false) }) ?_ rfl (by kernel_rfl) (by kernel_rfl) (by kernel_rfl) (fun _ _ _ h => h) (by rfl) (by assumption) ?_ ?_
        rotate_left
        · (intro w0 hS0; go_simp <;> (try with_reducible rfl))
        try simp only [Act.put, List.setIfInBounds_toArray, List.set_cons_zero, List.set_cons_succ]
        refine wpAnyH_read (i := 32) (oi := { dst := some 134, op := Go.Op.pick (Go.Operand.tmp 121) (Go.Operand.const (Go.Value.bool true)) (Go.Operand.tmp 133), type := 4, pos := "law.go:93", after := #[{ on := 19, ground := Go.Ground.data }, { on := 31, ground := Go.Ground.data }], guard := none }) ?_ rfl (by kernel_rfl) (by kernel_rfl) (by kernel_rfl) (fun _ _ _ h => h) (by rfl) (by assumption) ?_ ?_
        rotate_left
        · (intro w0 hS0; go_simp <;> (try with_reducible rfl))
        try simp only [Act.put, List.setIfInBounds_toArray, List.set_cons_zero, List.set_cons_succ]
        refine wpAnyH_read (i := 33) (oi := { dst := some 135, op := Go.Op.move (Go.Operand.tmp 134), type := 4, pos := "law.go:93", after := #[{ on := 32, ground := Go.Ground.data }, { on := 29, ground := Go.Ground.chain }], guard := none }) ?_ rfl (by kernel_rfl) (by kernel_rfl) (by kernel_rfl) (fun _ _ _ h => h) (by rfl) (by assumption) ?_ ?_
        rotate_left
        · (intro w0 hS0; go_simp <;> (try with_reducible rfl))
        try simp only [Act.put, List.setIfInBounds_toArray, List.set_cons_zero, List.set_cons_succ]
        refine wpAnyH_read (i := 34) (oi := { dst := some 136, op := Go.Op.move (Go.Operand.tmp 12), type := 38, pos := "law.go:93", after := #[{ on := 33, ground := Go.Ground.guard }], guard := some (33, false) }) ?_ rfl (by kernel_rfl) (by kernel_rfl) (by kernel_rfl) (fun _ _ _ h => h) (by rfl) (by assumption) ?_ ?_
        rotate_left
        · (intro w0 hS0; go_simp <;> (try with_reducible rfl))
        try simp only [Act.put, List.setIfInBounds_toArray, List.set_cons_zero, List.set_cons_succ]
        refine wpAnyH_read (i := 35) (oi := { dst := some 137, op := Go.Op.move (Go.Operand.tmp 8), type := 27, pos := "law.go:93", after := #[{ on := 33, ground := Go.Ground.guard }], guard := some (33, false) }) ?_ rfl (by kernel_rfl) (by kernel_rfl) (by kernel_rfl) (fun _ _ _ h => h) (by rfl) (by assumption) ?_ ?_
        rotate_left
        · (intro w0 hS0; go_simp <;> (try with_reducible rfl))
        try simp only [Act.put, List.setIfInBounds_toArray, List.set_cons_zero, List.set_cons_succ]
        refine wpAnyH_read (i := 36) (oi := { dst := some 138, op := Go.Op.fieldAddr 32 (Go.Operand.tmp 10) 1, type := 0, pos := "law.go:93", after := #[{ on := 33, ground := Go.Ground.guard }], guard := some (33, false) }) ?_ rfl (by kernel_rfl) (by kernel_rfl) (by kernel_rfl) (fun _ _ _ h => h) (by rfl) (by assumption) ?_ ?_
        rotate_left
        · (intro w0 hS0; go_simp <;> (try with_reducible rfl))
        try simp only [Act.put, List.setIfInBounds_toArray, List.set_cons_zero, List.set_cons_succ]
        refine wpAnyH_read (i := 37) (oi := { dst := some 139, op := Go.Op.load 3 (Go.Operand.tmp 138), type := 3, pos := "law.go:93", after := #[{ on := 36, ground := Go.Ground.data }, { on := 33, ground := Go.Ground.guard }], guard := some (33, false) }) ?_ rfl (by kernel_rfl) (by kernel_rfl) (by kernel_rfl) (fun _ _ _ h => h) (by rfl) (by assumption) ?_ ?_
        rotate_left
        · (intro w0 hS0; have s1 := hS0; go_simp <;> (try with_reducible rfl))
        try simp only [Act.put, List.setIfInBounds_toArray, List.set_cons_zero, List.set_cons_succ]
        refine wpAnyH_one (i := 38) (o := { dst := some 140, op := Go.Op.call { callee := Go.Callee.value (Go.Operand.func 21), args := #[Go.Operand.tmp 137, Go.Operand.tmp 139], argTypes := #[27, 3] }, type := 38, pos := "law.go:93", after := #[{ on := 35, ground := Go.Ground.data }, { on := 37, ground := Go.Ground.data }, { on := 33, ground := Go.Ground.chain }, { on := 33, ground := Go.Ground.guard }], guard := some (33, false) }) (by kernel_rfl) rfl (by rfl) (fun K hK => ?_)
        go_simp
        refine (H38.out _ G29.out).mono ?_
        rintro e v38 ⟨⟨A38, c38, rfl, r38⟩, f38⟩
        have G38 := Lib.hid (G29.out.trans f38)
        have R38 := Lib.hid r38
        clear f38 r38
        go_wp2_with fail
        refine hK.out _ _ ?_ (fun hHeld => ?_)
        · exact HS.out _ G38.out
        clear hK K
        try simp only [Act.put, List.setIfInBounds_toArray, List.set_cons_zero, List.set_cons_succ]
        refine wpAnyH_one (i := 39) (o := { dst := some 141, op := Go.Op.call { callee := Go.Callee.value (Go.Operand.func 20), args := #[Go.Operand.tmp 136, Go.Operand.tmp 140], argTypes := #[38, 38] }, type := 4, pos := "law.go:93", after := #[{ on := 34, ground := Go.Ground.data }, { on := 38, ground := Go.Ground.data }, { on := 38, ground := Go.Ground.chain }, { on := 33, ground := Go.Ground.guard }], guard := some (33, false) }) (by kernel_rfl) rfl (by rfl) (fun K hK => ?_)
        go_simp
        refine (H39.out _ _ _ _ G38.out R38.out).mono ?_
        rintro e v39 ⟨rfl, f39⟩
        have G39 := Lib.hid (G38.out.trans f39)
        clear f39
        go_wp2_with fail
        refine hK.out _ _ ?_ (fun hHeld => ?_)
        · exact HS.out _ G39.out
        clear hK K
        try simp only [Act.put, List.setIfInBounds_toArray, List.set_cons_zero, List.set_cons_succ]
        refine wpAnyH_read (i := 40) (oi := { dst := some 142, op := Go.Op.unOp Go.UnOp.not 4 (Go.Operand.tmp 141), type := 4, pos := "law.go:93", after := #[{ on := 39, ground := Go.Ground.data }, { on := 33, ground := Go.Ground.guard }], guard := some (33, false) }) ?_ rfl (by kernel_rfl) (by kernel_rfl) (by kernel_rfl) (fun _ _ _ h => h) (by rfl) (by assumption) ?_ ?_
        rotate_left
        · (intro w0 hS0; go_simp <;> (try with_reducible rfl))
        try simp only [Act.put, List.setIfInBounds_toArray, List.set_cons_zero, List.set_cons_succ]
        refine wpAnyH_read (i := 41) (oi := { dst := some 143, op := Go.Op.pick (Go.Operand.tmp 135) (Go.Operand.const (Go.Value.bool true)) (Go.Operand.tmp 142), type := 4, pos := "law.go:93", after := #[{ on := 33, ground := Go.Ground.data }, { on := 40, ground := Go.Ground.data }], guard := none }) ?_ rfl (by kernel_rfl) (by kernel_rfl) (by kernel_rfl) (fun _ _ _ h => h) (by rfl) (by assumption) ?_ ?_
        rotate_left
        · (intro w0 hS0; go_simp <;> (try with_reducible rfl))
        try simp only [Act.put, List.setIfInBounds_toArray, List.set_cons_zero, List.set_cons_succ]
        refine wpAnyH_read (i := 42) (oi := { dst := some 144, op := Go.Op.move (Go.Operand.tmp 143), type := 4, pos := "law.go:93", after := #[{ on := 41, ground := Go.Ground.data }, { on := 39, ground := Go.Ground.chain }], guard := none }) ?_ rfl (by kernel_rfl) (by kernel_rfl) (by kernel_rfl) (fun _ _ _ h => h) (by rfl) (by assumption) ?_ ?_
        rotate_left
        · (intro w0 hS0; go_simp <;> (try with_reducible rfl))
        try simp only [Act.put, List.setIfInBounds_toArray, List.set_cons_zero, List.set_cons_succ]
        refine wpAnyH_read (i := 43) (oi := { dst := some 145, op := Go.Op.move (Go.Operand.tmp 14), type := 41, pos := "law.go:93", after := #[{ on := 42, ground := Go.Ground.guard }], guard := some (42, false) }) ?_ rfl (by kernel_rfl) (by kernel_rfl) (by kernel_rfl) (fun _ _ _ h => h) (by rfl) (by assumption) ?_ ?_
        rotate_left
        · (intro w0 hS0; go_simp <;> (try with_reducible rfl))
        try simp only [Act.put, List.setIfInBounds_toArray, List.set_cons_zero, List.set_cons_succ]
        refine wpAnyH_read (i := 44) (oi := { dst := some 146, op := Go.Op.move (Go.Operand.tmp 8), type := 27, pos := "law.go:93", after := #[{ on := 42, ground := Go.Ground.guard }], guard := some (42, false) }) ?_ rfl (by kernel_rfl) (by kernel_rfl) (by kernel_rfl) (fun _ _ _ h => h) (by rfl) (by assumption) ?_ ?_
        rotate_left
        · (intro w0 hS0; go_simp <;> (try with_reducible rfl))
        try simp only [Act.put, List.setIfInBounds_toArray, List.set_cons_zero, List.set_cons_succ]
        refine wpAnyH_read (i := 45) (oi := { dst := some 147, op := Go.Op.move (Go.Operand.tmp 2), type := 9, pos := "law.go:93", after := #[{ on := 42, ground := Go.Ground.guard }], guard := some (42, false) }) ?_ rfl (by kernel_rfl) (by kernel_rfl) (by kernel_rfl) (fun _ _ _ h => h) (by rfl) (by assumption) ?_ ?_
        rotate_left
        · (intro w0 hS0; go_simp <;> (try with_reducible rfl))
        try simp only [Act.put, List.setIfInBounds_toArray, List.set_cons_zero, List.set_cons_succ]
        refine wpAnyH_one (i := 46) (o := { dst := some 148, op := Go.Op.call { callee := Go.Callee.value (Go.Operand.func 23), args := #[Go.Operand.tmp 146, Go.Operand.tmp 147], argTypes := #[27, 9] }, type := 41, pos := "law.go:93", after := #[{ on := 44, ground := Go.Ground.data }, { on := 45, ground := Go.Ground.data }, { on := 42, ground := Go.Ground.chain }, { on := 42, ground := Go.Ground.guard }], guard := some (42, false) }) (by kernel_rfl) rfl (by rfl) (fun K hK => ?_)
        go_simp
        refine (H46.out _ G39.out).mono ?_
        rintro e v46 ⟨⟨A46, c46, rfl, r46⟩, f46⟩
        have G46 := Lib.hid (G39.out.trans f46)
        have R46 := Lib.hid r46
        clear f46 r46
        go_wp2_with fail
        refine hK.out _ _ ?_ (fun hHeld => ?_)
        · exact HS.out _ G46.out
        clear hK K
        try simp only [Act.put, List.setIfInBounds_toArray, List.set_cons_zero, List.set_cons_succ]
        refine wpAnyH_one (i := 47) (o := { dst := some 149, op := Go.Op.call { callee := Go.Callee.value (Go.Operand.func 22), args := #[Go.Operand.tmp 145, Go.Operand.tmp 148], argTypes := #[41, 41] }, type := 4, pos := "law.go:93", after := #[{ on := 43, ground := Go.Ground.data }, { on := 46, ground := Go.Ground.data }, { on := 46, ground := Go.Ground.chain }, { on := 42, ground := Go.Ground.guard }], guard := some (42, false) }) (by kernel_rfl) rfl (by rfl) (fun K hK => ?_)
        go_simp
        refine (H47.out _ _ _ _ G46.out R46.out).mono ?_
        rintro e v47 ⟨rfl, f47⟩
        have G47 := Lib.hid (G46.out.trans f47)
        clear f47
        go_wp2_with fail
        refine hK.out _ _ ?_ (fun hHeld => ?_)
        · exact HS.out _ G47.out
        clear hK K
        try simp only [Act.put, List.setIfInBounds_toArray, List.set_cons_zero, List.set_cons_succ]
        refine wpAnyH_read (i := 48) (oi := { dst := some 150, op := Go.Op.unOp Go.UnOp.not 4 (Go.Operand.tmp 149), type := 4, pos := "law.go:93", after := #[{ on := 47, ground := Go.Ground.data }, { on := 42, ground := Go.Ground.guard }], guard := some (42, false) }) ?_ rfl (by kernel_rfl) (by kernel_rfl) (by kernel_rfl) (fun _ _ _ h => h) (by rfl) (by assumption) ?_ ?_
        rotate_left
        · (intro w0 hS0; go_simp <;> (try with_reducible rfl))
        try simp only [Act.put, List.setIfInBounds_toArray, List.set_cons_zero, List.set_cons_succ]
        refine wpAnyH_read (i := 49) (oi := { dst := some 151, op := Go.Op.pick (Go.Operand.tmp 144) (Go.Operand.const (Go.Value.bool true)) (Go.Operand.tmp 150), type := 4, pos := "law.go:93", after := #[{ on := 42, ground := Go.Ground.data }, { on := 48, ground := Go.Ground.data }], guard := none }) ?_ rfl (by kernel_rfl) (by kernel_rfl) (by kernel_rfl) (fun _ _ _ h => h) (by rfl) (by assumption) ?_ ?_
        rotate_left
        · (intro w0 hS0; go_simp <;> (try with_reducible rfl))
        try simp only [Act.put, List.setIfInBounds_toArray, List.set_cons_zero, List.set_cons_succ]
        refine wpAnyH_done (by kernel_rfl) ?_ _
        go_wp2_with fail
        go_roundw
        case rel => exact ⟨j + 1, by go_num, by omega, X2, Z2, L2, HCC.out, HPP.out _ (F6.out.1.trans G47.out)⟩
        case measure => simp [RowKit.intOf]; omega
    · obtain rfl : j = l.length := by omega
      have p1 : ¬ ((l.length : Int) < (l.length : Int)) := by omega
      go_wp2_with fail
      go_ret
      exact ⟨rfl, HP.out.2.below⟩
end Go.Proofs.YtnoeblnljfnecaaGreatDoor
end
