/- Texts of this proof, one behind the other. -/
import Derived.Test.YteiiaocohpbanaaGreatPairPlaysG10
import Derived.Deep.CutRange
import Derived.Deep.CutBlock
import Derived.OpenShut
section
/- Layer 11: PairPlays: the main walk. -/
namespace Go.Proofs.YteiiaocohpbanaaGreat
set_option linter.unusedVariables false
set_option linter.unusedSimpArgs false
open Go Go.RowKit Go.Maps Go.Sort Go.Shelf Go.Lib

theorem undrewP {W W' : World} (h : RowKit.Below W.drew.heap.size W.drew W') : RowKit.Below W.heap.size W W' := ⟨h.os, h.tape, h.output, h.size, h.block⟩
set_option maxRecDepth 100000 in
set_option maxHeartbeats 16000000 in
theorem pairPlays_main (most : Int) (A : Option Addr) (l : List zprT) (cc : Nat) (w : World) (hg : greatPR l = false) (hA : ActPR w A l) :
    Calls Tryz.prog 3 #[.int .i64 most, .slice A l.length cc] w fun e w' => e = .returned (.bool true) ∧ RowKit.Below w.heap.size w w' := by
  have mixed : (Tryz.prog).follows Departure.mixedOrders = true := by kernel_rfl
  have hl : l.length ≤ 40 ∧ ∀ x ∈ l, x.2.2.size ≤ 20 := by
    unfold greatPR at hg
    simp only [Bool.or_eq_false_iff, decide_eq_false_iff_not, List.any_eq_false, decide_eq_true_eq] at hg
    exact ⟨by omega, fun x hx => by have := hg.2 x hx; omega⟩
  have HA := Lib.hid hA
  have HG := Lib.hid hg
  have HLL := Lib.hid hl.2
  replace hl := hl.1
  clear hA hg
  go_enter Tryz.func3, Tryz.ntmps3
  go_wp2_with fail
  refine (awake11 w).mono ?_
  rintro e w1 ⟨rfl, b1⟩
  have B1 := Lib.hid b1
  clear b1
  go_wp2_with fail
  refine (great11 HA.out w1 B1.out).mono ?_
  rintro e w2 ⟨rfl, rfl⟩
  rw [HG.out]
  go_wp2_with fail
  by_cases hr : 0 ≤ most ∧ most ≤ 100000
  case neg =>
    refine (relNewBadIS (by omega) _).mono ?_
    rintro e w3 ⟨rfl, rfl⟩
    by_cases h0 : most < 0
    · have q1 : decide (most < 0) = true := by simp; omega
      go_wp2_with fail
      go_ret
      exact ⟨rfl, B1.out⟩
    · have q1 : decide (most < 0) = false := by simp; omega
      have q2 : decide (100000 < most) = true := by simp; omega
      go_wp2_with fail
      go_ret
      exact ⟨rfl, B1.out⟩
  case pos =>
  have q1 : decide (most < 0) = false := by simp; omega
  have q2 : decide (100000 < most) = false := by simp; omega
  refine (relNewIS hr _).mono ?_
  rintro e W1 ⟨t, X1, rfl, h1, x1, b1⟩
  obtain ⟨W2, hW2⟩ : ∃ W2, W1.alloc (.cells #[.int .i64 most, .slice none 0 0] 32) = W2 := ⟨_, rfl⟩
  have hz : w.heap.size ≤ w2.heap.size := B1.out.size
  have fW : Fr (fun _ => False) W1 W2 := by rw [← hW2]; exact (Fr.refl _ W1).alloc _
  have H0 : Hid (PlayR w t X1 most [] W1.heap.size (fun j => j = W1.heap.size) [] W2) := by
    refine ⟨(B1.out.trans (b1.mono hz)).trans (fW.below (Nat.le_trans hz b1.size) fun _ _ e => e.elim), ?_, ⟨none, 0, by rw [← hW2]; exact heap_alloc_new W1 _, ownPR_nil _ _, by simp [Value.ownBlock], fun j => by simp [Value.ownBlock]⟩, fun j hj e => by have := (h1.lt hj).2; omega, Nat.le_trans hz b1.size, fun p hp => by cases hp⟩
    obtain ⟨b1', b2', T1, T2, hst, hx⟩ := h1.fr fW fun _ _ e => e
    refine ⟨b1', b2', T1, T2, ⟨Nat.le_trans hz hst.le, hst.blk, ?_, ?_, hst.n1, hst.n2, hst.ap, hst.t1, hst.t2, hst.h1, hst.h2, hst.nd⟩, hx⟩
    · exact mapSt_baseIS hst.m1 hz
    · exact mapSt_baseSI hst.m2 hz
  obtain ⟨B, hB⟩ : ∃ B, W1.heap.size = B := ⟨_, rfl⟩
  rw [hB] at H0
  have HW2 := Lib.hid (And.intro hW2 hB)
  clear hW2 hB h1 x1 b1 fW
  go_wp2_with fail
  rw [HW2.out.1, HW2.out.2]
  clear HW2
  go_loopw [8] (fun i wr => ∃ (j : Nat), i = .int .i64 j ∧ j ≤ l.length ∧ Hid (∃ X Z L, L.length ≤ j ∧ PlayR w t X most L B Z L wr)) (fun i _ => l.length - (RowKit.intOf i).toNat)
  case atStart => exact ⟨0, rfl, Nat.zero_le _, X1, _, [], Nat.le_refl _, H0.out⟩
  case round =>
    obtain ⟨j, rfl, hj, HP0⟩ := hrel
    clear H0
    obtain ⟨X, Z, L, hLj, hP⟩ := HP0.out
    have HP := Lib.hid (And.intro hLj hP)
    clear HP0 hP hLj
    by_cases hlt : j < l.length
    · obtain ⟨g, o, rfl, hat⟩ := actPR_at HA.out (by omega)
      obtain ⟨c1, c2, c3⟩ := hat wr HP.out.2.below j hlt
      have p0 : (j : Int) < (l.length : Int) := by omega
      have r0 : (0 : Int) ≤ (j : Int) := by omega
      obtain ⟨⟨kd, ac, sc⟩, hlj⟩ : ∃ p, l[j] = p := ⟨_, rfl⟩
      rw [hlj] at c1 c2 c3
      have hzg := HA.out.1 _ (List.getElem_mem hlt)
      have hzs := HLL.out _ (List.getElem_mem hlt)
      rw [hlj] at hzg hzs
      clear hat hlj
      dsimp only at c1 c2 c3 hzs
      obtain ⟨bc, rfl⟩ : ∃ bc, sc = bs bc := ⟨sc.data.toList, rfl⟩
      have hokA : OkKIS ac := hzg.2.1
      have hokB : OkKSI bc := by unfold OkKSI maxLen; simp at hzs; omega
      have HOK := Lib.hid (And.intro hokA hokB)
      clear hzg hzs hokA hokB
      go_upto_block 2 with fail
      obtain ⟨ab, hab⟩ : ∃ ab, wr.heap.size = ab := ⟨_, rfl⟩
      obtain ⟨Wa, hWa⟩ : ∃ Wa, wr.alloc (Obj.cells #[Value.int IntKind.i64 kd, Value.int IntKind.i64 ac, Value.string (bs bc)] 34) = Wa := ⟨_, rfl⟩
      have ha : Wa.heap[ab]? = some (.cells #[Value.int IntKind.i64 kd, Value.int IntKind.i64 ac, Value.string (bs bc)] 34 (0, 0)) := by rw [← hWa, ← hab]; exact heap_alloc_new wr _
      have hPa : PlayR w t X most L B Z L Wa := HP.out.2.rest (by rw [← hWa]; exact (Fr.refl _ wr).alloc _)
      have hab1 : ¬ X ab ∧ ¬ ab = B := by
        rw [← hab]
        exact ⟨fun e => by have := (HP.out.2.rel.lt e).2; omega, fun e => by have := HP.out.2.ref.lt HP.out.2.ref.own; omega⟩
      have hLl : L.length ≤ 40 := by have := HP.out.1; omega
      rw [hWa, hab]
      have HW := Lib.hid (And.intro ha (And.intro hPa (And.intro hab1 HP.out.1)))
      clear ha hPa hab1 hab hWa c1 c2 c3
      go_cut [10] from 41 to 171 (fun k wc => k = .bool true ∧ Hid (∃ X2 Z2 L2, L2.length ≤ j + 1 ∧ PlayR w t X2 most L2 B Z2 L2 wc ∧ wc.heap[ab]? = some (.cells #[Value.int IntKind.i64 kd, Value.int IntKind.i64 ac, Value.string (bs bc)] 34 (0, 0))))
      case first =>
        obtain ⟨ha, hPa, hab1, hLj⟩ := HW.out
        have hPD := hPa.rest ((Fr.refl (fun _ => False) Wa).drew)
        have hza := blk_lt ha
        have hbw : w.heap.size ≤ Wa.drew.heap.size := hPD.below.size
        by_cases hk1 : kd = 1
        · subst hk1
          have HS := relRemIS hPD.rel hbw (by omega) HOK.out.1 HOK.out.2
          unfold RemRIS at HS
          obtain ⟨d, hd⟩ : ∃ d, decide ((ac, bc) ∈ L) = d := ⟨_, rfl⟩
          rw [hd] at HS
          have HS := Lib.hid HS
          have hkl : keepL L ac bc false = lessLIS L ac bc := keep_less L ac bc
          obtain ⟨n, hn⟩ : ∃ n : Int, (L.length : Int) - (lessLIS L ac bc).length = n := ⟨_, rfl⟩
          have hnd : (n == 1) = d := by
            rw [← hd, ← hn]
            by_cases hm : (ac, bc) ∈ L
            · have := lessLenIS hPa.rel.nodup hm
              rw [decide_eq_true hm, beq_iff_eq]; omega
            · rw [lessNotIS hm, decide_eq_false hm, beq_eq_false_iff_ne]; omega
          have HPD := Lib.hid (And.intro hPD (And.intro hkl (And.intro hn hLj)))
          have HAB : Hid (ab < Wa.drew.heap.size ∧ ¬ X ab ∧ ¬ ab = B) := ⟨hza, hab1⟩
          have ha1 := blk_cell ha 1
          have ha2 := blk_cell ha 2
          have HAA := Lib.hid ha
          clear hPa hPD hza hab1 hbw hkl hn hd hLj ha
          go_wp2_with fail
          refine wp_region_held_drew (S := fun V => V.cell? ⟨ab, 1, none⟩ = some (.int .i64 ac) ∧ V.cell? ⟨ab, 2, none⟩ = some (.string (bs bc))) (by kernel_rfl) (by exact ⟨ha1, ha2⟩) (fun hHeld => ?_)
          refine wpAnyH_read (i := 0) (oi := { dst := some 68, op := Go.Op.move (Go.Operand.tmp 5), type := 25, pos := "law.go:95", after := #[], guard := none }) ?_ rfl (by kernel_rfl) (by kernel_rfl) (by kernel_rfl) (fun _ _ _ h => h) (by rfl) (by assumption) ?_ ?_
          rotate_left
          · (intro w0 hS0; go_simp <;> (try with_reducible rfl))
          try simp only [Act.put, List.setIfInBounds_toArray, List.set_cons_zero, List.set_cons_succ]
          refine wpAnyH_read (i := 1) (oi := { dst := some 69, op := Go.Op.fieldAddr 34 (Go.Operand.tmp 9) 1, type := 0, pos := "law.go:95", after := #[], guard := none }) ?_ rfl (by kernel_rfl) (by kernel_rfl) (by kernel_rfl) (fun _ _ _ h => h) (by rfl) (by assumption) ?_ ?_
          rotate_left
          · (intro w0 hS0; go_simp <;> (try with_reducible rfl))
          try simp only [Act.put, List.setIfInBounds_toArray, List.set_cons_zero, List.set_cons_succ]
          refine wpAnyH_read (i := 3) (oi := { dst := some 71, op := Go.Op.fieldAddr 34 (Go.Operand.tmp 9) 2, type := 0, pos := "law.go:95", after := #[], guard := none }) ?_ rfl (by kernel_rfl) (by kernel_rfl) (by kernel_rfl) (fun _ _ _ h => h) (by rfl) (by assumption) ?_ ?_
          rotate_left
          · (intro w0 hS0; go_simp <;> (try with_reducible rfl))
          try simp only [Act.put, List.setIfInBounds_toArray, List.set_cons_zero, List.set_cons_succ]
          refine wpAnyH_read (i := 6) (oi := { dst := some 74, op := Go.Op.move (Go.Operand.tmp 7), type := 29, pos := "law.go:95", after := #[], guard := none }) ?_ rfl (by kernel_rfl) (by kernel_rfl) (by kernel_rfl) (fun _ _ _ h => h) (by rfl) (by assumption) ?_ ?_
          rotate_left
          · (intro w0 hS0; go_simp <;> (try with_reducible rfl))
          try simp only [Act.put, List.setIfInBounds_toArray, List.set_cons_zero, List.set_cons_succ]
          refine wpAnyH_read (i := 7) (oi := { dst := some 75, op := Go.Op.fieldAddr 34 (Go.Operand.tmp 9) 1, type := 0, pos := "law.go:95", after := #[], guard := none }) ?_ rfl (by kernel_rfl) (by kernel_rfl) (by kernel_rfl) (fun _ _ _ h => h) (by rfl) (by assumption) ?_ ?_
          rotate_left
          · (intro w0 hS0; go_simp <;> (try with_reducible rfl))
          try simp only [Act.put, List.setIfInBounds_toArray, List.set_cons_zero, List.set_cons_succ]
          refine wpAnyH_read (i := 9) (oi := { dst := some 77, op := Go.Op.fieldAddr 34 (Go.Operand.tmp 9) 2, type := 0, pos := "law.go:95", after := #[], guard := none }) ?_ rfl (by kernel_rfl) (by kernel_rfl) (by kernel_rfl) (fun _ _ _ h => h) (by rfl) (by assumption) ?_ ?_
          rotate_left
          · (intro w0 hS0; go_simp <;> (try with_reducible rfl))
          try simp only [Act.put, List.setIfInBounds_toArray, List.set_cons_zero, List.set_cons_succ]
          refine wpAnyH_read (i := 2) (oi := { dst := some 70, op := Go.Op.load 3 (Go.Operand.tmp 69), type := 3, pos := "law.go:95", after := #[{ on := 1, ground := Go.Ground.data }], guard := none }) ?_ rfl (by kernel_rfl) (by kernel_rfl) (by kernel_rfl) (fun _ _ _ h => h) (by rfl) (by assumption) ?_ ?_
          rotate_left
          · (intro w0 hS0; obtain ⟨s1, s2⟩ := hS0; go_simp <;> (try with_reducible rfl))
          try simp only [Act.put, List.setIfInBounds_toArray, List.set_cons_zero, List.set_cons_succ]
          refine wpAnyH_read (i := 4) (oi := { dst := some 72, op := Go.Op.load 9 (Go.Operand.tmp 71), type := 9, pos := "law.go:95", after := #[{ on := 3, ground := Go.Ground.data }], guard := none }) ?_ rfl (by kernel_rfl) (by kernel_rfl) (by kernel_rfl) (fun _ _ _ h => h) (by rfl) (by assumption) ?_ ?_
          rotate_left
          · (intro w0 hS0; obtain ⟨s1, s2⟩ := hS0; go_simp <;> (try with_reducible rfl))
          try simp only [Act.put, List.setIfInBounds_toArray, List.set_cons_zero, List.set_cons_succ]
          refine wpAnyH_read (i := 8) (oi := { dst := some 76, op := Go.Op.load 3 (Go.Operand.tmp 75), type := 3, pos := "law.go:95", after := #[{ on := 7, ground := Go.Ground.data }], guard := none }) ?_ rfl (by kernel_rfl) (by kernel_rfl) (by kernel_rfl) (fun _ _ _ h => h) (by rfl) (by assumption) ?_ ?_
          rotate_left
          · (intro w0 hS0; obtain ⟨s1, s2⟩ := hS0; go_simp <;> (try with_reducible rfl))
          try simp only [Act.put, List.setIfInBounds_toArray, List.set_cons_zero, List.set_cons_succ]
          refine wpAnyH_read (i := 10) (oi := { dst := some 78, op := Go.Op.load 9 (Go.Operand.tmp 77), type := 9, pos := "law.go:95", after := #[{ on := 9, ground := Go.Ground.data }], guard := none }) ?_ rfl (by kernel_rfl) (by kernel_rfl) (by kernel_rfl) (fun _ _ _ h => h) (by rfl) (by assumption) ?_ ?_
          rotate_left
          · (intro w0 hS0; obtain ⟨s1, s2⟩ := hS0; go_simp <;> (try with_reducible rfl))
          try simp only [Act.put, List.setIfInBounds_toArray, List.set_cons_zero, List.set_cons_succ]
          refine wpAnyH_one (i := 5) (o := { dst := some 73, op := Go.Op.call { callee := Go.Callee.value (Go.Operand.func 9), args := #[Go.Operand.tmp 68, Go.Operand.tmp 70, Go.Operand.tmp 72], argTypes := #[25, 3, 9] }, type := 4, pos := "law.go:95", after := #[{ on := 0, ground := Go.Ground.data }, { on := 2, ground := Go.Ground.data }, { on := 4, ground := Go.Ground.data }], guard := none }) (by kernel_rfl) rfl (by rfl) (fun K hK => ?_)
          go_simp
          refine HS.out.mono ?_
          rintro e w5 ⟨rfl, X5, x5, f5, h5⟩
          have P5 := Lib.hid (HPD.out.1.relStep h5 x5 f5 fun p hp => HPD.out.1.ok p (lessMemIS.1 hp).1)
          clear x5 h5
          have s5 : (∀ p, p = 1 ∨ p = 2 → w5.cell? ⟨ab, p, none⟩ = Wa.drew.cell? ⟨ab, p, none⟩) := fun p _ => f5.cell (p := ⟨ab, p, none⟩) HAB.out.1 HAB.out.2.1
          have HS5 := Lib.hid s5
          have F5 := Lib.hid f5
          clear s5 f5
          go_wp2_with fail
          refine hK.out _ _ ?_ (fun hHeld => ?_)
          · exact ⟨(HS5.out 1 (.inl rfl)).trans ha1, (HS5.out 2 (.inr rfl)).trans ha2⟩
          clear hK K
          try simp only [Act.put, List.setIfInBounds_toArray, List.set_cons_zero, List.set_cons_succ]
          refine wpAnyH_one (i := 11) (o := { dst := some 79, op := Go.Op.call { callee := Go.Callee.value (Go.Operand.func 10), args := #[Go.Operand.tmp 74, Go.Operand.tmp 76, Go.Operand.tmp 78, Go.Operand.const (Go.Value.bool false)], argTypes := #[29, 3, 9, 4] }, type := 3, pos := "law.go:95", after := #[{ on := 6, ground := Go.Ground.data }, { on := 8, ground := Go.Ground.data }, { on := 10, ground := Go.Ground.data }, { on := 5, ground := Go.Ground.chain }], guard := none }) (by kernel_rfl) rfl (by rfl) (fun K hK => ?_)
          go_simp
          refine (keep_sync false P5.out (by omega) HPD.out.2.1).mono ?_
          rintro e w6 ⟨rfl, h6, f6⟩
          rw [HPD.out.2.2.1]
          have F6 := Lib.hid (And.intro h6 f6)
          clear h6 f6
          have HS6 : Hid (∀ p, p = 1 ∨ p = 2 → w6.cell? ⟨ab, p, none⟩ = w5.cell? ⟨ab, p, none⟩) := fun p _ => F6.out.2.cell (p := ⟨ab, p, none⟩) (Nat.lt_of_lt_of_le HAB.out.1 F5.out.size) HAB.out.2.2
          go_wp2_with fail
          refine hK.out _ _ ?_ (fun hHeld => ?_)
          · exact ⟨(HS6.out 1 (.inl rfl)).trans ((HS5.out 1 (.inl rfl)).trans ha1), (HS6.out 2 (.inr rfl)).trans ((HS5.out 2 (.inr rfl)).trans ha2)⟩
          clear hK K
          try simp only [Act.put, List.setIfInBounds_toArray, List.set_cons_zero, List.set_cons_succ]
          refine wpAnyH_read (i := 12) (oi := { dst := some 80, op := Go.Op.binOp Go.BinOp.eql 3 (Go.Operand.tmp 79) (Go.Operand.const (Go.Value.int Go.IntKind.i64 1)) 3, type := 4, pos := "law.go:95", after := #[{ on := 11, ground := Go.Ground.data }], guard := none }) ?_ rfl (by kernel_rfl) (by kernel_rfl) (by kernel_rfl) (fun _ _ _ h => h) (by rfl) (by assumption) ?_ ?_
          rotate_left
          · (intro w0 hS0; go_simp <;> (try with_reducible rfl))
          try simp only [Act.put, List.setIfInBounds_toArray, List.set_cons_zero, List.set_cons_succ]
          refine wpAnyH_read (i := 13) (oi := { dst := some 81, op := Go.Op.binOp Go.BinOp.eql 4 (Go.Operand.tmp 73) (Go.Operand.tmp 80) 4, type := 4, pos := "law.go:95", after := #[{ on := 5, ground := Go.Ground.data }, { on := 12, ground := Go.Ground.data }], guard := none }) ?_ rfl (by kernel_rfl) (by kernel_rfl) (by kernel_rfl) (fun _ _ _ h => h) (by rfl) (by assumption) ?_ ?_
          rotate_left
          · (intro w0 hS0; go_simp <;> (try with_reducible rfl))
          try simp only [Act.put, List.setIfInBounds_toArray, List.set_cons_zero, List.set_cons_succ]
          refine wpAnyH_read (i := 14) (oi := { dst := some 10, op := Go.Op.assign (Go.Operand.tmp 81), type := 4, pos := "law.go:95", after := #[{ on := 13, ground := Go.Ground.data }, { on := 11, ground := Go.Ground.chain }, { on := 0, ground := Go.Ground.phase }, { on := 1, ground := Go.Ground.phase }, { on := 2, ground := Go.Ground.phase }, { on := 3, ground := Go.Ground.phase }, { on := 4, ground := Go.Ground.phase }, { on := 5, ground := Go.Ground.phase }, { on := 6, ground := Go.Ground.phase }, { on := 7, ground := Go.Ground.phase }, { on := 8, ground := Go.Ground.phase }, { on := 9, ground := Go.Ground.phase }, { on := 10, ground := Go.Ground.phase }, { on := 11, ground := Go.Ground.phase }, { on := 12, ground := Go.Ground.phase }, { on := 13, ground := Go.Ground.phase }], guard := none }) ?_ rfl (by kernel_rfl) (by kernel_rfl) (by kernel_rfl) (fun _ _ _ h => h) (by rfl) (by assumption) ?_ ?_
          rotate_left
          · (intro w0 hS0; go_simp <;> (try with_reducible rfl))
          try simp only [Act.put, List.setIfInBounds_toArray, List.set_cons_zero, List.set_cons_succ]
          refine wpAnyH_done (by kernel_rfl) ?_ _
          go_wp2_with fail
          go_meet
          case rel =>
            refine ⟨by first | rfl | simp, ?_⟩
            obtain ⟨Z6, P6⟩ := F6.out.1
            exact ⟨_, Z6, _, Nat.le_trans (List.length_filter_le _ _) (by have := HPD.out.2.2.2; omega), P6, F6.out.2.blk (F5.out.blk (blk_drew HAA.out) HAB.out.2.1) HAB.out.2.2⟩
        · have k1 : (kd == 1) = false := by simpa using hk1
          by_cases hk2 : kd = 2
          · subst hk2
            have HS := Lib.hid (relDrop hPD.rel hbw (by omega) HOK.out.1 hPD.ok)
            have HPD := Lib.hid (And.intro hPD hLj)
            have HAB : Hid (ab < Wa.drew.heap.size ∧ ¬ X ab ∧ ¬ ab = B) := ⟨hza, hab1⟩
            have ha1 := blk_cell ha 1
            have ha2 := blk_cell ha 2
            have HAA := Lib.hid ha
            clear hPa hPD hza hab1 hbw hLj ha
            go_wp2_with fail
            refine wp_region_held_drew (S := fun V => V.cell? ⟨ab, 1, none⟩ = some (.int .i64 ac) ∧ V.cell? ⟨ab, 2, none⟩ = some (.string (bs bc))) (by kernel_rfl) (by exact ⟨ha1, ha2⟩) (fun hHeld => ?_)
            refine wpAnyH_read (i := 0) (oi := { dst := some 84, op := Go.Op.move (Go.Operand.tmp 5), type := 25, pos := "law.go:97", after := #[], guard := none }) ?_ rfl (by kernel_rfl) (by kernel_rfl) (by kernel_rfl) (fun _ _ _ h => h) (by rfl) (by assumption) ?_ ?_
            rotate_left
            · (intro w0 hS0; go_simp <;> (try with_reducible rfl))
            try simp only [Act.put, List.setIfInBounds_toArray, List.set_cons_zero, List.set_cons_succ]
            refine wpAnyH_read (i := 1) (oi := { dst := some 85, op := Go.Op.fieldAddr 34 (Go.Operand.tmp 9) 1, type := 0, pos := "law.go:97", after := #[], guard := none }) ?_ rfl (by kernel_rfl) (by kernel_rfl) (by kernel_rfl) (fun _ _ _ h => h) (by rfl) (by assumption) ?_ ?_
            rotate_left
            · (intro w0 hS0; go_simp <;> (try with_reducible rfl))
            try simp only [Act.put, List.setIfInBounds_toArray, List.set_cons_zero, List.set_cons_succ]
            refine wpAnyH_read (i := 4) (oi := { dst := some 88, op := Go.Op.move (Go.Operand.tmp 7), type := 29, pos := "law.go:97", after := #[], guard := none }) ?_ rfl (by kernel_rfl) (by kernel_rfl) (by kernel_rfl) (fun _ _ _ h => h) (by rfl) (by assumption) ?_ ?_
            rotate_left
            · (intro w0 hS0; go_simp <;> (try with_reducible rfl))
            try simp only [Act.put, List.setIfInBounds_toArray, List.set_cons_zero, List.set_cons_succ]
            refine wpAnyH_read (i := 5) (oi := { dst := some 89, op := Go.Op.fieldAddr 34 (Go.Operand.tmp 9) 1, type := 0, pos := "law.go:97", after := #[], guard := none }) ?_ rfl (by kernel_rfl) (by kernel_rfl) (by kernel_rfl) (fun _ _ _ h => h) (by rfl) (by assumption) ?_ ?_
            rotate_left
            · (intro w0 hS0; go_simp <;> (try with_reducible rfl))
            try simp only [Act.put, List.setIfInBounds_toArray, List.set_cons_zero, List.set_cons_succ]
            refine wpAnyH_read (i := 2) (oi := { dst := some 86, op := Go.Op.load 3 (Go.Operand.tmp 85), type := 3, pos := "law.go:97", after := #[{ on := 1, ground := Go.Ground.data }], guard := none }) ?_ rfl (by kernel_rfl) (by kernel_rfl) (by kernel_rfl) (fun _ _ _ h => h) (by rfl) (by assumption) ?_ ?_
            rotate_left
            · (intro w0 hS0; obtain ⟨s1, s2⟩ := hS0; go_simp <;> (try with_reducible rfl))
            try simp only [Act.put, List.setIfInBounds_toArray, List.set_cons_zero, List.set_cons_succ]
            refine wpAnyH_read (i := 6) (oi := { dst := some 90, op := Go.Op.load 3 (Go.Operand.tmp 89), type := 3, pos := "law.go:97", after := #[{ on := 5, ground := Go.Ground.data }], guard := none }) ?_ rfl (by kernel_rfl) (by kernel_rfl) (by kernel_rfl) (fun _ _ _ h => h) (by rfl) (by assumption) ?_ ?_
            rotate_left
            · (intro w0 hS0; obtain ⟨s1, s2⟩ := hS0; go_simp <;> (try with_reducible rfl))
            try simp only [Act.put, List.setIfInBounds_toArray, List.set_cons_zero, List.set_cons_succ]
            refine wpAnyH_one (i := 3) (o := { dst := some 87, op := Go.Op.call { callee := Go.Callee.value (Go.Operand.func 11), args := #[Go.Operand.tmp 84, Go.Operand.tmp 86], argTypes := #[25, 3] }, type := 3, pos := "law.go:97", after := #[{ on := 0, ground := Go.Ground.data }, { on := 2, ground := Go.Ground.data }], guard := none }) (by kernel_rfl) rfl (by rfl) (fun K hK => ?_)
            go_simp
            refine HS.out.mono ?_
            rintro e w5 ⟨X5, D5, y1, y2, rfl, x5, f5, h5⟩
            have P5 := Lib.hid (HPD.out.1.relStep h5 x5 f5 fun p hp => HPD.out.1.ok p (List.mem_filter.1 hp).1)
            have HN5 : Hid ((L.length : Int) - ((L.filter fun p => decide (p.1 ≠ ac)).length : Nat) = (D5.length : Nat)) := by have := drop_count HPD.out.1.rel.nodup (OfIs.mk y1 y2); unfold Hid; omega
            clear x5 h5 y1 y2
            have s5 : (∀ p, p = 1 ∨ p = 2 → w5.cell? ⟨ab, p, none⟩ = Wa.drew.cell? ⟨ab, p, none⟩) := fun p _ => f5.cell (p := ⟨ab, p, none⟩) HAB.out.1 HAB.out.2.1
            have HS5 := Lib.hid s5
            have F5 := Lib.hid f5
            clear s5 f5
            go_wp2_with fail
            refine hK.out _ _ ?_ (fun hHeld => ?_)
            · exact ⟨(HS5.out 1 (.inl rfl)).trans ha1, (HS5.out 2 (.inr rfl)).trans ha2⟩
            clear hK K
            try simp only [Act.put, List.setIfInBounds_toArray, List.set_cons_zero, List.set_cons_succ]
            refine wpAnyH_one (i := 7) (o := { dst := some 91, op := Go.Op.call { callee := Go.Callee.value (Go.Operand.func 10), args := #[Go.Operand.tmp 88, Go.Operand.tmp 90, Go.Operand.const (Go.Value.string { data := #[] }), Go.Operand.const (Go.Value.bool true)], argTypes := #[29, 3, 9, 4] }, type := 3, pos := "law.go:97", after := #[{ on := 4, ground := Go.Ground.data }, { on := 6, ground := Go.Ground.data }, { on := 3, ground := Go.Ground.chain }], guard := none }) (by kernel_rfl) rfl (by rfl) (fun K hK => ?_)
            go_simp
            refine (keep_sync true P5.out (by omega) (b := []) (keep_all L ac [])).mono ?_
            rintro e w6 ⟨rfl, h6, f6⟩
            rw [HN5.out]
            have F6 := Lib.hid (And.intro h6 f6)
            clear h6 f6
            have HS6 : Hid (∀ p, p = 1 ∨ p = 2 → w6.cell? ⟨ab, p, none⟩ = w5.cell? ⟨ab, p, none⟩) := fun p _ => F6.out.2.cell (p := ⟨ab, p, none⟩) (Nat.lt_of_lt_of_le HAB.out.1 F5.out.size) HAB.out.2.2
            go_wp2_with fail
            refine hK.out _ _ ?_ (fun hHeld => ?_)
            · exact ⟨(HS6.out 1 (.inl rfl)).trans ((HS5.out 1 (.inl rfl)).trans ha1), (HS6.out 2 (.inr rfl)).trans ((HS5.out 2 (.inr rfl)).trans ha2)⟩
            clear hK K
            try simp only [Act.put, List.setIfInBounds_toArray, List.set_cons_zero, List.set_cons_succ]
            refine wpAnyH_read (i := 8) (oi := { dst := some 92, op := Go.Op.binOp Go.BinOp.eql 3 (Go.Operand.tmp 87) (Go.Operand.tmp 91) 3, type := 4, pos := "law.go:97", after := #[{ on := 3, ground := Go.Ground.data }, { on := 7, ground := Go.Ground.data }], guard := none }) ?_ rfl (by kernel_rfl) (by kernel_rfl) (by kernel_rfl) (fun _ _ _ h => h) (by rfl) (by assumption) ?_ ?_
            rotate_left
            · (intro w0 hS0; go_simp <;> (try with_reducible rfl))
            try simp only [Act.put, List.setIfInBounds_toArray, List.set_cons_zero, List.set_cons_succ]
            refine wpAnyH_read (i := 9) (oi := { dst := some 10, op := Go.Op.assign (Go.Operand.tmp 92), type := 4, pos := "law.go:97", after := #[{ on := 8, ground := Go.Ground.data }, { on := 7, ground := Go.Ground.chain }, { on := 0, ground := Go.Ground.phase }, { on := 1, ground := Go.Ground.phase }, { on := 2, ground := Go.Ground.phase }, { on := 3, ground := Go.Ground.phase }, { on := 4, ground := Go.Ground.phase }, { on := 5, ground := Go.Ground.phase }, { on := 6, ground := Go.Ground.phase }, { on := 7, ground := Go.Ground.phase }, { on := 8, ground := Go.Ground.phase }], guard := none }) ?_ rfl (by kernel_rfl) (by kernel_rfl) (by kernel_rfl) (fun _ _ _ h => h) (by rfl) (by assumption) ?_ ?_
            rotate_left
            · (intro w0 hS0; go_simp <;> (try with_reducible rfl))
            try simp only [Act.put, List.setIfInBounds_toArray, List.set_cons_zero, List.set_cons_succ]
            refine wpAnyH_done (by kernel_rfl) ?_ _
            go_wp2_with fail
            go_meet
            case rel =>
              refine ⟨by simp, ?_⟩
              obtain ⟨Z6, P6⟩ := F6.out.1
              exact ⟨_, Z6, _, Nat.le_trans (List.length_filter_le _ _) (by have := HPD.out.2; omega), P6, F6.out.2.blk (F5.out.blk (blk_drew HAA.out) HAB.out.2.1) HAB.out.2.2⟩
          · have k2 : (kd == 2) = false := by simpa using hk2
            have HS := Lib.hid (relAddIS hPD.rel hbw (by omega) HOK.out.1 HOK.out.2)
            obtain ⟨D, d1, d2, d3, _⟩ := ofAtIS hPD.rel (by omega) HOK.out.1
            have HPD := Lib.hid (And.intro hPD (And.intro (OfIs.mk d1 d2) (And.intro d3 hLj)))
            have HAB : Hid (ab < Wa.drew.heap.size ∧ ¬ X ab ∧ ¬ ab = B) := ⟨hza, hab1⟩
            have ha1 := blk_cell ha 1
            have ha2 := blk_cell ha 2
            have HAA := Lib.hid ha
            clear hPa hPD hza hab1 hbw hLj ha d1 d2 d3
            go_wp2_with fail
            refine wp_region_held_drew (S := fun V => V.cell? ⟨ab, 1, none⟩ = some (.int .i64 ac) ∧ V.cell? ⟨ab, 2, none⟩ = some (.string (bs bc))) (by kernel_rfl) (by exact ⟨ha1, ha2⟩) (fun hHeld => ?_)
            refine wpAnyH_read (i := 0) (oi := { dst := some 53, op := Go.Op.move (Go.Operand.tmp 5), type := 25, pos := "law.go:99", after := #[], guard := none }) ?_ rfl (by kernel_rfl) (by kernel_rfl) (by kernel_rfl) (fun _ _ _ h => h) (by rfl) (by assumption) ?_ ?_
            rotate_left
            · (intro w0 hS0; go_simp <;> (try with_reducible rfl))
            try simp only [Act.put, List.setIfInBounds_toArray, List.set_cons_zero, List.set_cons_succ]
            refine wpAnyH_read (i := 1) (oi := { dst := some 54, op := Go.Op.fieldAddr 34 (Go.Operand.tmp 9) 1, type := 0, pos := "law.go:99", after := #[], guard := none }) ?_ rfl (by kernel_rfl) (by kernel_rfl) (by kernel_rfl) (fun _ _ _ h => h) (by rfl) (by assumption) ?_ ?_
            rotate_left
            · (intro w0 hS0; go_simp <;> (try with_reducible rfl))
            try simp only [Act.put, List.setIfInBounds_toArray, List.set_cons_zero, List.set_cons_succ]
            refine wpAnyH_read (i := 3) (oi := { dst := some 56, op := Go.Op.fieldAddr 34 (Go.Operand.tmp 9) 2, type := 0, pos := "law.go:99", after := #[], guard := none }) ?_ rfl (by kernel_rfl) (by kernel_rfl) (by kernel_rfl) (fun _ _ _ h => h) (by rfl) (by assumption) ?_ ?_
            rotate_left
            · (intro w0 hS0; go_simp <;> (try with_reducible rfl))
            try simp only [Act.put, List.setIfInBounds_toArray, List.set_cons_zero, List.set_cons_succ]
            refine wpAnyH_read (i := 6) (oi := { dst := some 59, op := Go.Op.move (Go.Operand.tmp 7), type := 29, pos := "law.go:99", after := #[], guard := none }) ?_ rfl (by kernel_rfl) (by kernel_rfl) (by kernel_rfl) (fun _ _ _ h => h) (by rfl) (by assumption) ?_ ?_
            rotate_left
            · (intro w0 hS0; go_simp <;> (try with_reducible rfl))
            try simp only [Act.put, List.setIfInBounds_toArray, List.set_cons_zero, List.set_cons_succ]
            refine wpAnyH_read (i := 7) (oi := { dst := some 60, op := Go.Op.fieldAddr 34 (Go.Operand.tmp 9) 1, type := 0, pos := "law.go:99", after := #[], guard := none }) ?_ rfl (by kernel_rfl) (by kernel_rfl) (by kernel_rfl) (fun _ _ _ h => h) (by rfl) (by assumption) ?_ ?_
            rotate_left
            · (intro w0 hS0; go_simp <;> (try with_reducible rfl))
            try simp only [Act.put, List.setIfInBounds_toArray, List.set_cons_zero, List.set_cons_succ]
            refine wpAnyH_read (i := 9) (oi := { dst := some 62, op := Go.Op.fieldAddr 34 (Go.Operand.tmp 9) 2, type := 0, pos := "law.go:99", after := #[], guard := none }) ?_ rfl (by kernel_rfl) (by kernel_rfl) (by kernel_rfl) (fun _ _ _ h => h) (by rfl) (by assumption) ?_ ?_
            rotate_left
            · (intro w0 hS0; go_simp <;> (try with_reducible rfl))
            try simp only [Act.put, List.setIfInBounds_toArray, List.set_cons_zero, List.set_cons_succ]
            refine wpAnyH_read (i := 2) (oi := { dst := some 55, op := Go.Op.load 3 (Go.Operand.tmp 54), type := 3, pos := "law.go:99", after := #[{ on := 1, ground := Go.Ground.data }], guard := none }) ?_ rfl (by kernel_rfl) (by kernel_rfl) (by kernel_rfl) (fun _ _ _ h => h) (by rfl) (by assumption) ?_ ?_
            rotate_left
            · (intro w0 hS0; obtain ⟨s1, s2⟩ := hS0; go_simp <;> (try with_reducible rfl))
            try simp only [Act.put, List.setIfInBounds_toArray, List.set_cons_zero, List.set_cons_succ]
            refine wpAnyH_read (i := 4) (oi := { dst := some 57, op := Go.Op.load 9 (Go.Operand.tmp 56), type := 9, pos := "law.go:99", after := #[{ on := 3, ground := Go.Ground.data }], guard := none }) ?_ rfl (by kernel_rfl) (by kernel_rfl) (by kernel_rfl) (fun _ _ _ h => h) (by rfl) (by assumption) ?_ ?_
            rotate_left
            · (intro w0 hS0; obtain ⟨s1, s2⟩ := hS0; go_simp <;> (try with_reducible rfl))
            try simp only [Act.put, List.setIfInBounds_toArray, List.set_cons_zero, List.set_cons_succ]
            refine wpAnyH_read (i := 8) (oi := { dst := some 61, op := Go.Op.load 3 (Go.Operand.tmp 60), type := 3, pos := "law.go:99", after := #[{ on := 7, ground := Go.Ground.data }], guard := none }) ?_ rfl (by kernel_rfl) (by kernel_rfl) (by kernel_rfl) (fun _ _ _ h => h) (by rfl) (by assumption) ?_ ?_
            rotate_left
            · (intro w0 hS0; obtain ⟨s1, s2⟩ := hS0; go_simp <;> (try with_reducible rfl))
            try simp only [Act.put, List.setIfInBounds_toArray, List.set_cons_zero, List.set_cons_succ]
            refine wpAnyH_read (i := 10) (oi := { dst := some 63, op := Go.Op.load 9 (Go.Operand.tmp 62), type := 9, pos := "law.go:99", after := #[{ on := 9, ground := Go.Ground.data }], guard := none }) ?_ rfl (by kernel_rfl) (by kernel_rfl) (by kernel_rfl) (fun _ _ _ h => h) (by rfl) (by assumption) ?_ ?_
            rotate_left
            · (intro w0 hS0; obtain ⟨s1, s2⟩ := hS0; go_simp <;> (try with_reducible rfl))
            try simp only [Act.put, List.setIfInBounds_toArray, List.set_cons_zero, List.set_cons_succ]
            refine wpAnyH_one (i := 5) (o := { dst := some 58, op := Go.Op.call { callee := Go.Callee.value (Go.Operand.func 12), args := #[Go.Operand.tmp 53, Go.Operand.tmp 55, Go.Operand.tmp 57], argTypes := #[25, 3, 9] }, type := 26, pos := "law.go:99", after := #[{ on := 0, ground := Go.Ground.data }, { on := 2, ground := Go.Ground.data }, { on := 4, ground := Go.Ground.data }], guard := none }) (by kernel_rfl) rfl (by rfl) (fun K hK => ?_)
            go_simp
            refine HS.out.mono ?_
            intro e w5 hA5
            obtain ⟨X5, c5, L5, rfl, x5, f5, h5, q5⟩ := hA5.any
            have P5 := Lib.hid (HPD.out.1.relStep h5 x5 f5 fun p hp => by
              rcases q5 with ⟨rfl, _⟩ | ⟨rfl, _⟩
              · exact HPD.out.1.ok p hp
              · rcases List.mem_append.1 hp with e | e
                · exact HPD.out.1.ok p e
                · rw [List.mem_singleton.1 e]; exact HOK.out.2)
            have HQ5 : Hid (_ ∧ L5.length ≤ j + 1) := ⟨q5, by rcases q5 with ⟨rfl, _⟩ | ⟨rfl, _⟩; (have := HPD.out.2.2.2; omega); (rw [List.length_append, List.length_singleton]; have := HPD.out.2.2.2; omega)⟩
            clear x5 h5 q5 hA5
            have s5 : (∀ p, p = 1 ∨ p = 2 → w5.cell? ⟨ab, p, none⟩ = Wa.drew.cell? ⟨ab, p, none⟩) := fun p _ => f5.cell (p := ⟨ab, p, none⟩) HAB.out.1 HAB.out.2.1
            have HS5 := Lib.hid s5
            have F5 := Lib.hid f5
            clear s5 f5
            go_wp2_with fail
            refine hK.out _ _ ?_ (fun hHeld => ?_)
            · exact ⟨(HS5.out 1 (.inl rfl)).trans ha1, (HS5.out 2 (.inr rfl)).trans ha2⟩
            clear hK K
            try simp only [Act.put, List.setIfInBounds_toArray, List.set_cons_zero, List.set_cons_succ]
            refine wpAnyH_one (i := 11) (o := { dst := some 64, op := Go.Op.call { callee := Go.Callee.value (Go.Operand.func 13), args := #[Go.Operand.tmp 59, Go.Operand.tmp 61, Go.Operand.tmp 63], argTypes := #[29, 3, 9] }, type := 3, pos := "law.go:99", after := #[{ on := 6, ground := Go.Ground.data }, { on := 8, ground := Go.Ground.data }, { on := 10, ground := Go.Ground.data }, { on := 5, ground := Go.Ground.chain }], guard := none }) (by kernel_rfl) rfl (by rfl) (fun K hK => ?_)
            go_simp
            refine (add_sync P5.out (by omega) HPD.out.2.1 (by have := HPD.out.2.2.1; omega) HQ5.out.1).mono ?_
            rintro e w6 ⟨rfl, h6, f6⟩
            have F6 := Lib.hid (And.intro h6 f6)
            clear h6 f6
            have HS6 : Hid (∀ p, p = 1 ∨ p = 2 → w6.cell? ⟨ab, p, none⟩ = w5.cell? ⟨ab, p, none⟩) := fun p _ => F6.out.2.cell (p := ⟨ab, p, none⟩) (Nat.lt_of_lt_of_le HAB.out.1 F5.out.size) HAB.out.2.2
            go_wp2_with fail
            refine hK.out _ _ ?_ (fun hHeld => ?_)
            · exact ⟨(HS6.out 1 (.inl rfl)).trans ((HS5.out 1 (.inl rfl)).trans ha1), (HS6.out 2 (.inr rfl)).trans ((HS5.out 2 (.inr rfl)).trans ha2)⟩
            clear hK K
            try simp only [Act.put, List.setIfInBounds_toArray, List.set_cons_zero, List.set_cons_succ]
            refine wpAnyH_read (i := 12) (oi := { dst := some 65, op := Go.Op.binOp Go.BinOp.eql 3 (Go.Operand.tmp 58) (Go.Operand.tmp 64) 3, type := 4, pos := "law.go:99", after := #[{ on := 5, ground := Go.Ground.data }, { on := 11, ground := Go.Ground.data }], guard := none }) ?_ rfl (by kernel_rfl) (by kernel_rfl) (by kernel_rfl) (fun _ _ _ h => h) (by rfl) (by assumption) ?_ ?_
            rotate_left
            · (intro w0 hS0; go_simp <;> (try with_reducible rfl))
            try simp only [Act.put, List.setIfInBounds_toArray, List.set_cons_zero, List.set_cons_succ]
            refine wpAnyH_read (i := 13) (oi := { dst := some 10, op := Go.Op.assign (Go.Operand.tmp 65), type := 4, pos := "law.go:99", after := #[{ on := 12, ground := Go.Ground.data }, { on := 11, ground := Go.Ground.chain }, { on := 0, ground := Go.Ground.phase }, { on := 1, ground := Go.Ground.phase }, { on := 2, ground := Go.Ground.phase }, { on := 3, ground := Go.Ground.phase }, { on := 4, ground := Go.Ground.phase }, { on := 5, ground := Go.Ground.phase }, { on := 6, ground := Go.Ground.phase }, { on := 7, ground := Go.Ground.phase }, { on := 8, ground := Go.Ground.phase }, { on := 9, ground := Go.Ground.phase }, { on := 10, ground := Go.Ground.phase }, { on := 11, ground := Go.Ground.phase }, { on := 12, ground := Go.Ground.phase }], guard := none }) ?_ rfl (by kernel_rfl) (by kernel_rfl) (by kernel_rfl) (fun _ _ _ h => h) (by rfl) (by assumption) ?_ ?_
            rotate_left
            · (intro w0 hS0; go_simp <;> (try with_reducible rfl))
            try simp only [Act.put, List.setIfInBounds_toArray, List.set_cons_zero, List.set_cons_succ]
            refine wpAnyH_done (by kernel_rfl) ?_ _
            go_wp2_with fail
            go_meet
            case rel =>
              refine ⟨by simp, ?_⟩
              obtain ⟨Z6, P6⟩ := F6.out.1
              exact ⟨_, Z6, _, HQ5.out.2, P6, F6.out.2.blk (F5.out.blk (blk_drew HAA.out) HAB.out.2.1) HAB.out.2.2⟩
      case rest =>
        obtain ⟨rfl, hcut2⟩ := hcut
        obtain ⟨X2, Z2, L2, hL2, hP2, ha⟩ := hcut2.out
        have hL2l : L2.length ≤ 41 := by omega
        obtain ⟨D, d1, d2, d3, d4⟩ := ofAtIS hP2.rel (by omega) HOK.out.1
        obtain ⟨E, e1, e2, e3, e4⟩ := byAtIS hP2.rel (by omega) HOK.out.2
        have hE : byL L2 bc = E := up_ext (byL_up _ _) e1 fun a => (byL_mem L2 bc a).trans (e2 a).symm
        have HR := Lib.hid (rights11 d4 (by omega) 99 (by omega) (by omega))
        have HLf : Hid (∀ W, Fr (fun _ => False) wc W → Calls Tryz.prog 15 #[.pointer (some ⟨t, 0, none⟩), .string (bs bc), .int .i64 99] W (Told11L E W)) := fun W hW => lefts11 (fun V hV => e4 V (hW.trans hV)) (by omega) 99 (by omega) (by omega)
        have HSa : Hid (∀ V, Fr (fun _ => False) wc V → V.cell? ⟨ab, 1, none⟩ = some (.int .i64 ac) ∧ V.cell? ⟨ab, 2, none⟩ = some (.string (bs bc))) := fun V hV => ⟨(blk_cell (hV.blk ha fun e => e) 1).trans rfl, (blk_cell (hV.blk ha fun e => e) 2).trans rfl⟩
        obtain ⟨A2, c2, x1, x2, x3, x4⟩ := id hP2.ref
        have HSx : Hid (∀ V, Fr (fun _ => False) wc V → V.cell? ⟨B, 1, none⟩ = some (.slice A2 L2.length c2)) := fun V hV => (blk_cell (hV.blk x1 fun e => e) 1).trans rfl
        have HPP : Hid (∀ V, Fr (fun _ => False) wc V → PlayR w t X2 most L2 B Z2 L2 V) := fun V hV => hP2.rest hV
        have HD := Lib.hid (And.intro (OfIs.mk d1 d2) (And.intro d3 (And.intro hE e3)))
        obtain ⟨a1, a2⟩ := HSa.out wc (Fr.refl _ _)
        have HCC := Lib.hid hL2
        clear hcut2 hP2 ha d1 d2 d3 d4 e1 e2 e3 e4 hE x1 x2 x3 x4 hL2 HW HP HA
        go_wp2_with fail
        refine HR.out.mono ?_
        rintro e w5 ⟨⟨v5, rfl, o5⟩, b5⟩
        obtain ⟨A5, c5, rfl⟩ := row_slice o5
        have f5 : Fr (fun _ => False) wc w5 := Fr.of_below b5
        have F5 := Lib.hid (And.intro f5 o5)
        obtain ⟨a3, a4⟩ := HSa.out w5 f5
        clear f5 o5 b5
        go_wp2_with fail
        refine (HLf.out w5 F5.out.1).mono ?_
        rintro e w6 ⟨⟨v6, rfl, o6⟩, b6⟩
        obtain ⟨A6, c6, rfl⟩ := row_slice o6
        have f6 : Fr (fun _ => False) wc w6 := F5.out.1.trans (Fr.of_below b6)
        have hr5 : ReadsT w6 A5 D := (reads_ownT F5.out.2).below b6
        have hr6 : ReadsI w6 A6 E := reads_ownI o6
        have F6 := Lib.hid (And.intro f6 (And.intro hr5 hr6))
        clear f6 o6 b6 hr5 hr6 a1 a2 a3 a4
        have HS : Hid (∀ V, Fr (fun _ => False) w6 V → V.cell? ⟨ab, 1, none⟩ = some (.int .i64 ac) ∧ V.cell? ⟨ab, 2, none⟩ = some (.string (bs bc)) ∧ V.cell? ⟨B, 1, none⟩ = some (.slice A2 L2.length c2)) := fun V hV => ⟨(HSa.out V (F6.out.1.trans hV)).1, (HSa.out V (F6.out.1.trans hV)).2, HSx.out V (F6.out.1.trans hV)⟩
        obtain ⟨d, hd⟩ : ∃ d, decide ((ac, bc) ∈ L2) = d := ⟨_, rfl⟩
        have H12 : Hid (∀ V, Fr (fun _ => False) w6 V → Calls Tryz.prog 16 #[.pointer (some ⟨t, 0, none⟩)] V fun e V' => e = .returned (.int .i64 L2.length) ∧ Fr (fun _ => False) V V') := fun V hV => (lenAtIS (HPP.out V (F6.out.1.trans hV)).rel).mono fun e V' ⟨h1, h2⟩ => ⟨h1, by rw [h2]; exact Fr.refl _ _⟩
        have H26 : Hid (∀ V, Fr (fun _ => False) w6 V → Calls Tryz.prog 17 #[.pointer (some ⟨t, 0, none⟩), .int .i64 ac, .string (bs bc)] V fun e V' => e = .returned (.bool d) ∧ Fr (fun _ => False) V V') := fun V hV => (hasAtIS (HPP.out V (F6.out.1.trans hV)).rel (by omega) HOK.out.1 bc).mono fun e V' ⟨h1, q, h2⟩ => ⟨by rw [← hd]; exact h1, by rw [h2]; exact (Fr.refl _ _).drewN q⟩
        have H32 : Hid (∀ V, Fr (fun _ => False) w6 V → Calls Tryz.prog 18 #[.pointer (some ⟨B, 0, none⟩), .int .i64 ac, .string (bs bc)] V fun e V' => e = .returned (.bool d) ∧ Fr (fun _ => False) V V') := fun V hV => (ref_has (HPP.out V (F6.out.1.trans hV)).ref.pr (by omega) ac bc).mono fun e V' ⟨h1, h2⟩ => ⟨by rw [← hd]; exact h1, by rw [h2]; exact Fr.refl _ _⟩
        have H39 : Hid (∀ V, Fr (fun _ => False) w6 V → Calls Tryz.prog 19 #[.pointer (some ⟨t, 0, none⟩), .int .i64 ac] V fun e V' => e = .returned (.int .i64 D.length) ∧ Fr (fun _ => False) V V') := fun V hV => (countAtIS (HPP.out V (F6.out.1.trans hV)).rel HOK.out.1 HD.out.1.up HD.out.1.mem).mono fun e V' ⟨h1, h2⟩ => ⟨h1, by rw [h2]; exact Fr.refl _ _⟩
        have H43 : Hid (∀ V, Fr (fun _ => False) w6 V → Calls Tryz.prog 20 #[.pointer (some ⟨B, 0, none⟩), .int .i64 ac] V fun e V' => (∃ A c, e = .returned (.slice A D.length c) ∧ ReadsT V' A D) ∧ Fr (fun _ => False) V V') := fun V hV => (ref_of (HPP.out V (F6.out.1.trans hV)).ref.pr (by omega) HD.out.1 (by have := HD.out.2.1; omega)).mono fun e V' ⟨⟨A, c, h1, h2⟩, h3⟩ => ⟨⟨A, c, h1, reads_ownT h2⟩, Fr.of_below h3⟩
        have H53 : Hid (∀ V A c1 c2, Fr (fun _ => False) w6 V → ReadsT V A D → Calls Tryz.prog 21 #[.slice A5 D.length c1, .slice A D.length c2] V fun e V' => e = .returned (.bool true) ∧ Fr (fun _ => False) V V') := fun V A c1 c2 hV hr => (texts_is c1 c2 (by have := HD.out.2.1; omega) (readsT_fr F6.out.2.1 hV fun _ _ _ e => e) hr).mono fun e V' ⟨h1, q, h2⟩ => ⟨h1, by rw [h2]; exact (Fr.refl _ _).drewN q⟩
        have H61 : Hid (∀ V, Fr (fun _ => False) w6 V → Calls Tryz.prog 23 #[.pointer (some ⟨B, 0, none⟩), .string (bs bc)] V fun e V' => (∃ A c, e = .returned (.slice A E.length c) ∧ ReadsI V' A E) ∧ Fr (fun _ => False) V V') := fun V hV => (ref_by (HPP.out V (F6.out.1.trans hV)).ref.pr (by omega) bc).mono fun e V' ⟨⟨v, h1, h2⟩, h3⟩ => by
          rw [HD.out.2.2.1] at h2
          obtain ⟨A, c, rfl⟩ := row_slice h2
          exact ⟨⟨A, c, h1, reads_ownI h2⟩, Fr.of_below h3⟩
        have H62 : Hid (∀ V A c1 c2, Fr (fun _ => False) w6 V → ReadsI V A E → Calls Tryz.prog 22 #[.slice A6 E.length c1, .slice A E.length c2] V fun e V' => e = .returned (.bool true) ∧ Fr (fun _ => False) V V') := fun V A c1 c2 hV hr => (same10_eq A6 A E E c1 c2 rfl (by have := HD.out.2.2.2; omega) (readsI_frP F6.out.2.2 hV) hr).mono fun e V' ⟨h1, q, h2⟩ => ⟨by rw [h1]; simp, by rw [h2]; exact (Fr.refl _ _).drewN q⟩
        clear hd
        obtain ⟨a1, a2, a3⟩ := HS.out w6 (Fr.refl _ _)
        go_wp2_with fail
        have G0 : Hid (Fr (fun _ => False) w6 w6.drew) := (Fr.refl (fun _ => False) w6).drew
        refine wp_region_held_drew (S := fun V => V.cell? ⟨ab, 1, none⟩ = some (.int .i64 ac) ∧ V.cell? ⟨ab, 2, none⟩ = some (.string (bs bc)) ∧ V.cell? ⟨B, 1, none⟩ = some (.slice A2 L2.length c2)) (by kernel_rfl) (by exact ⟨a1, a2, a3⟩) (fun hHeld => ?_)
        refine wpAnyH_read (i := 0) (oi := { dst := some 107, op := Go.Op.move (Go.Operand.tmp 10), type := 4, pos := "law.go:103", after := #[], guard := none }) ?_ rfl (by kernel_rfl) (by kernel_rfl) (by kernel_rfl) (fun _ _ _ h => h) (by rfl) (by assumption) ?_ ?_
        rotate_left
        · (intro w0 hS0; go_simp <;> (try with_reducible rfl))
        try simp only [Act.put, List.setIfInBounds_toArray, List.set_cons_zero, List.set_cons_succ]
        refine wpAnyH_read (i := 1) (oi := { dst := some 108, op := Go.Op.unOp Go.UnOp.not 4 (Go.Operand.tmp 107), type := 4, pos := "law.go:103", after := #[{ on := 0, ground := Go.Ground.data }], guard := none }) ?_ rfl (by kernel_rfl) (by kernel_rfl) (by kernel_rfl) (fun _ _ _ h => h) (by rfl) (by assumption) ?_ ?_
        rotate_left
        · (intro w0 hS0; go_simp <;> (try with_reducible rfl))
        try simp only [Act.put, List.setIfInBounds_toArray, List.set_cons_zero, List.set_cons_succ]
        refine wpAnyH_read (i := 2) (oi := { dst := some 109, op := Go.Op.move (Go.Operand.tmp 108), type := 4, pos := "law.go:103", after := #[{ on := 1, ground := Go.Ground.data }], guard := none }) ?_ rfl (by kernel_rfl) (by kernel_rfl) (by kernel_rfl) (fun _ _ _ h => h) (by rfl) (by assumption) ?_ ?_
        rotate_left
        · (intro w0 hS0; go_simp <;> (try with_reducible rfl))
        try simp only [Act.put, List.setIfInBounds_toArray, List.set_cons_zero, List.set_cons_succ]
        refine wpAnyH_read (i := 3) (oi := { dst := some 110, op := Go.Op.move (Go.Operand.tmp 12), type := 4, pos := "law.go:103", after := #[{ on := 2, ground := Go.Ground.guard }], guard := some (2, false) }) ?_ rfl (by kernel_rfl) (by kernel_rfl) (by kernel_rfl) (fun _ _ _ h => h) (by rfl) (by assumption) ?_ ?_
        rotate_left
        · (intro w0 hS0; go_simp <;> (try with_reducible rfl))
        try simp only [Act.put, List.setIfInBounds_toArray, List.set_cons_zero, List.set_cons_succ]
        refine wpAnyH_read (i := 4) (oi := { dst := some 111, op := Go.Op.unOp Go.UnOp.not 4 (Go.Operand.tmp 110), type := 4, pos := "law.go:103", after := #[{ on := 3, ground := Go.Ground.data }, { on := 2, ground := Go.Ground.guard }], guard := some (2, false) }) ?_ rfl (by kernel_rfl) (by kernel_rfl) (by kernel_rfl) (fun _ _ _ h => h) (by rfl) (by assumption) ?_ ?_
        rotate_left
        · (intro w0 hS0; go_simp <;> (try with_reducible rfl))
        try simp only [Act.put, List.setIfInBounds_toArray, List.set_cons_zero, List.set_cons_succ]
        refine wpAnyH_read (i := 5) (oi := { dst := some 112, op := Go.Op.pick (Go.Operand.tmp 109) (Go.Operand.const (Go.Value.bool true)) (Go.Operand.tmp 111), type := 4, pos := "law.go:103", after := #[{ on := 2, ground := Go.Ground.data }, { on := 4, ground := Go.Ground.data }], guard := none }) ?_ rfl (by kernel_rfl) (by kernel_rfl) (by kernel_rfl) (fun _ _ _ h => h) (by rfl) (by assumption) ?_ ?_
        rotate_left
        · (intro w0 hS0; go_simp <;> (try with_reducible rfl))
        try simp only [Act.put, List.setIfInBounds_toArray, List.set_cons_zero, List.set_cons_succ]
        refine wpAnyH_read (i := 6) (oi := { dst := some 113, op := Go.Op.move (Go.Operand.tmp 112), type := 4, pos := "law.go:103", after := #[{ on := 5, ground := Go.Ground.data }, { on := 2, ground := Go.Ground.chain }], guard := none }) ?_ rfl (by kernel_rfl) (by kernel_rfl) (by kernel_rfl) (fun _ _ _ h => h) (by rfl) (by assumption) ?_ ?_
        rotate_left
        · (intro w0 hS0; go_simp <;> (try with_reducible rfl))
        try simp only [Act.put, List.setIfInBounds_toArray, List.set_cons_zero, List.set_cons_succ]
        refine wpAnyH_read (i := 7) (oi := { dst := some 114, op := Go.Op.move (Go.Operand.tmp 14), type := 4, pos := "law.go:103", after := #[{ on := 6, ground := Go.Ground.guard }], guard := some (6, false) }) ?_ rfl (by kernel_rfl) (by kernel_rfl) (by kernel_rfl) (fun _ _ _ h => h) (by rfl) (by assumption) ?_ ?_
        rotate_left
        · (intro w0 hS0; go_simp <;> (try with_reducible rfl))
        try simp only [Act.put, List.setIfInBounds_toArray, List.set_cons_zero, List.set_cons_succ]
        refine wpAnyH_read (i := 8) (oi := { dst := some 115, op := Go.Op.unOp Go.UnOp.not 4 (Go.Operand.tmp 114), type := 4, pos := "law.go:103", after := #[{ on := 7, ground := Go.Ground.data }, { on := 6, ground := Go.Ground.guard }], guard := some (6, false) }) ?_ rfl (by kernel_rfl) (by kernel_rfl) (by kernel_rfl) (fun _ _ _ h => h) (by rfl) (by assumption) ?_ ?_
        rotate_left
        · (intro w0 hS0; go_simp <;> (try with_reducible rfl))
        try simp only [Act.put, List.setIfInBounds_toArray, List.set_cons_zero, List.set_cons_succ]
        refine wpAnyH_read (i := 9) (oi := { dst := some 116, op := Go.Op.pick (Go.Operand.tmp 113) (Go.Operand.const (Go.Value.bool true)) (Go.Operand.tmp 115), type := 4, pos := "law.go:103", after := #[{ on := 6, ground := Go.Ground.data }, { on := 8, ground := Go.Ground.data }], guard := none }) ?_ rfl (by kernel_rfl) (by kernel_rfl) (by kernel_rfl) (fun _ _ _ h => h) (by rfl) (by assumption) ?_ ?_
        rotate_left
        · (intro w0 hS0; go_simp <;> (try with_reducible rfl))
        try simp only [Act.put, List.setIfInBounds_toArray, List.set_cons_zero, List.set_cons_succ]
        refine wpAnyH_read (i := 10) (oi := { dst := some 117, op := Go.Op.move (Go.Operand.tmp 116), type := 4, pos := "law.go:103", after := #[{ on := 9, ground := Go.Ground.data }, { on := 6, ground := Go.Ground.chain }], guard := none }) ?_ rfl (by kernel_rfl) (by kernel_rfl) (by kernel_rfl) (fun _ _ _ h => h) (by rfl) (by assumption) ?_ ?_
        rotate_left
        · (intro w0 hS0; go_simp <;> (try with_reducible rfl))
        try simp only [Act.put, List.setIfInBounds_toArray, List.set_cons_zero, List.set_cons_succ]
        refine wpAnyH_read (i := 11) (oi := { dst := some 118, op := Go.Op.move (Go.Operand.tmp 5), type := 25, pos := "law.go:103", after := #[{ on := 10, ground := Go.Ground.guard }], guard := some (10, false) }) ?_ rfl (by kernel_rfl) (by kernel_rfl) (by kernel_rfl) (fun _ _ _ h => h) (by rfl) (by assumption) ?_ ?_
        rotate_left
        · (intro w0 hS0; go_simp <;> (try with_reducible rfl))
        try simp only [Act.put, List.setIfInBounds_toArray, List.set_cons_zero, List.set_cons_succ]
        refine wpAnyH_read (i := 13) (oi := { dst := some 120, op := Go.Op.move (Go.Operand.tmp 7), type := 29, pos := "law.go:103", after := #[{ on := 10, ground := Go.Ground.guard }], guard := some (10, false) }) ?_ rfl (by kernel_rfl) (by kernel_rfl) (by kernel_rfl) (fun _ _ _ h => h) (by rfl) (by assumption) ?_ ?_
        rotate_left
        · (intro w0 hS0; go_simp <;> (try with_reducible rfl))
        try simp only [Act.put, List.setIfInBounds_toArray, List.set_cons_zero, List.set_cons_succ]
        refine wpAnyH_read (i := 14) (oi := { dst := some 121, op := Go.Op.nilCheck (Go.Operand.tmp 120), type := 0, pos := "law.go:103", after := #[{ on := 13, ground := Go.Ground.data }, { on := 10, ground := Go.Ground.guard }], guard := some (10, false) }) ?_ rfl (by kernel_rfl) (by kernel_rfl) (by kernel_rfl) (fun _ _ _ h => h) (by rfl) (by assumption) ?_ ?_
        rotate_left
        · (intro w0 hS0; go_simp <;> (try with_reducible rfl))
        try simp only [Act.put, List.setIfInBounds_toArray, List.set_cons_zero, List.set_cons_succ]
        refine wpAnyH_read (i := 15) (oi := { dst := some 122, op := Go.Op.fieldAddr 32 (Go.Operand.tmp 121) 1, type := 0, pos := "law.go:103", after := #[{ on := 14, ground := Go.Ground.data }, { on := 10, ground := Go.Ground.guard }], guard := some (10, false) }) ?_ rfl (by kernel_rfl) (by kernel_rfl) (by kernel_rfl) (fun _ _ _ h => h) (by rfl) (by assumption) ?_ ?_
        rotate_left
        · (intro w0 hS0; go_simp <;> (try with_reducible rfl))
        try simp only [Act.put, List.setIfInBounds_toArray, List.set_cons_zero, List.set_cons_succ]
        refine wpAnyH_read (i := 16) (oi := { dst := some 123, op := Go.Op.load 30 (Go.Operand.tmp 122), type := 30, pos := "law.go:103", after := #[{ on := 15, ground := Go.Ground.data }, { on := 10, ground := Go.Ground.guard }], guard := some (10, false) }) ?_ rfl (by kernel_rfl) (by kernel_rfl) (by kernel_rfl) (fun _ _ _ h => h) (by rfl) (by assumption) ?_ ?_
        rotate_left
        · (intro w0 hS0; obtain ⟨s1, s2, s3⟩ := hS0; go_simp <;> (try with_reducible rfl))
        try simp only [Act.put, List.setIfInBounds_toArray, List.set_cons_zero, List.set_cons_succ]
        refine wpAnyH_read (i := 17) (oi := { dst := some 124, op := Go.Op.call { callee := Go.Callee.builtin Go.Builtin.len, args := #[Go.Operand.tmp 123], argTypes := #[30] }, type := 3, pos := "law.go:103", after := #[{ on := 16, ground := Go.Ground.data }, { on := 10, ground := Go.Ground.guard }], guard := some (10, false) }) ?_ rfl (by kernel_rfl) (by kernel_rfl) (by kernel_rfl) (fun _ _ _ h => h) (by rfl) (by assumption) ?_ ?_
        rotate_left
        · (intro w0 hS0; go_simp <;> (try with_reducible rfl))
        try simp only [Act.put, List.setIfInBounds_toArray, List.set_cons_zero, List.set_cons_succ]
        refine wpAnyH_one (i := 12) (o := { dst := some 119, op := Go.Op.call { callee := Go.Callee.value (Go.Operand.func 16), args := #[Go.Operand.tmp 118], argTypes := #[25] }, type := 3, pos := "law.go:103", after := #[{ on := 11, ground := Go.Ground.data }, { on := 10, ground := Go.Ground.chain }, { on := 10, ground := Go.Ground.guard }], guard := some (10, false) }) (by kernel_rfl) rfl (by rfl) (fun K hK => ?_)
        go_simp
        refine (H12.out _ G0.out).mono ?_
        rintro e v12 ⟨rfl, f12⟩
        have G12 := Lib.hid (G0.out.trans f12)
        clear f12
        go_wp2_with fail
        refine hK.out _ _ ?_ (fun hHeld => ?_)
        · exact HS.out _ G12.out
        clear hK K
        try simp only [Act.put, List.setIfInBounds_toArray, List.set_cons_zero, List.set_cons_succ]
        refine wpAnyH_read (i := 18) (oi := { dst := some 125, op := Go.Op.binOp Go.BinOp.neq 3 (Go.Operand.tmp 119) (Go.Operand.tmp 124) 3, type := 4, pos := "law.go:103", after := #[{ on := 12, ground := Go.Ground.data }, { on := 17, ground := Go.Ground.data }, { on := 10, ground := Go.Ground.guard }], guard := some (10, false) }) ?_ rfl (by kernel_rfl) (by kernel_rfl) (by kernel_rfl) (fun _ _ _ h => h) (by rfl) (by assumption) ?_ ?_
        rotate_left
        · (intro w0 hS0; go_simp <;> (try with_reducible rfl))
        try simp only [Act.put, List.setIfInBounds_toArray, List.set_cons_zero, List.set_cons_succ]
        refine wpAnyH_read (i := 19) (oi := { dst := some 126, op := Go.Op.pick (Go.Operand.tmp 117) (Go.Operand.const (Go.Value.bool true)) (Go.Operand.tmp 125), type := 4, pos := "law.go:103", after := #[{ on := 10, ground := Go.Ground.data }, { on := 18, ground := Go.Ground.data }], guard := none }) ?_ rfl (by kernel_rfl) (by kernel_rfl) (by kernel_rfl) (fun _ _ _ h => h) (by rfl) (by assumption) ?_ ?_
        rotate_left
        · (intro w0 hS0; go_simp <;> (try with_reducible rfl))
        try simp only [Act.put, List.setIfInBounds_toArray, List.set_cons_zero, List.set_cons_succ]
        refine wpAnyH_read (i := 20) (oi := { dst := some 127, op := Go.Op.move (Go.Operand.tmp 126), type := 4, pos := "law.go:103", after := #[{ on := 19, ground := Go.Ground.data }, { on := 12, ground := Go.Ground.chain }], guard := none }) ?_ rfl (by kernel_rfl) (by kernel_rfl) (by kernel_rfl) (fun _ _ _ h => h) (by rfl) (by assumption) ?_ ?_
        rotate_left
        · (intro w0 hS0; go_simp <;> (try with_reducible rfl))
        try simp only [Act.put, List.setIfInBounds_toArray, List.set_cons_zero, List.set_cons_succ]
        refine wpAnyH_read (i := 21) (oi := { dst := some 128, op := Go.Op.move (Go.Operand.tmp 5), type := 25, pos := "law.go:103", after := #[{ on := 20, ground := Go.Ground.guard }], guard := some (20, false) }) ?_ rfl (by kernel_rfl) (by kernel_rfl) (by kernel_rfl) (fun _ _ _ h => h) (by rfl) (by assumption) ?_ ?_
        rotate_left
        · (intro w0 hS0; go_simp <;> (try with_reducible rfl))
        try simp only [Act.put, List.setIfInBounds_toArray, List.set_cons_zero, List.set_cons_succ]
        refine wpAnyH_read (i := 22) (oi := { dst := some 129, op := Go.Op.fieldAddr 34 (Go.Operand.tmp 9) 1, type := 0, pos := "law.go:103", after := #[{ on := 20, ground := Go.Ground.guard }], guard := some (20, false) }) ?_ rfl (by kernel_rfl) (by kernel_rfl) (by kernel_rfl) (fun _ _ _ h => h) (by rfl) (by assumption) ?_ ?_
        rotate_left
        · (intro w0 hS0; go_simp <;> (try with_reducible rfl))
        try simp only [Act.put, List.setIfInBounds_toArray, List.set_cons_zero, List.set_cons_succ]
        refine wpAnyH_read (i := 24) (oi := { dst := some 131, op := Go.Op.fieldAddr 34 (Go.Operand.tmp 9) 2, type := 0, pos := "law.go:103", after := #[{ on := 20, ground := Go.Ground.guard }], guard := some (20, false) }) ?_ rfl (by kernel_rfl) (by kernel_rfl) (by kernel_rfl) (fun _ _ _ h => h) (by rfl) (by assumption) ?_ ?_
        rotate_left
        · (intro w0 hS0; go_simp <;> (try with_reducible rfl))
        try simp only [Act.put, List.setIfInBounds_toArray, List.set_cons_zero, List.set_cons_succ]
        refine wpAnyH_read (i := 27) (oi := { dst := some 134, op := Go.Op.move (Go.Operand.tmp 7), type := 29, pos := "law.go:103", after := #[{ on := 20, ground := Go.Ground.guard }], guard := some (20, false) }) ?_ rfl (by kernel_rfl) (by kernel_rfl) (by kernel_rfl) (fun _ _ _ h => h) (by rfl) (by assumption) ?_ ?_
        rotate_left
        · (intro w0 hS0; go_simp <;> (try with_reducible rfl))
        try simp only [Act.put, List.setIfInBounds_toArray, List.set_cons_zero, List.set_cons_succ]
        refine wpAnyH_read (i := 28) (oi := { dst := some 135, op := Go.Op.fieldAddr 34 (Go.Operand.tmp 9) 1, type := 0, pos := "law.go:103", after := #[{ on := 20, ground := Go.Ground.guard }], guard := some (20, false) }) ?_ rfl (by kernel_rfl) (by kernel_rfl) (by kernel_rfl) (fun _ _ _ h => h) (by rfl) (by assumption) ?_ ?_
        rotate_left
        · (intro w0 hS0; go_simp <;> (try with_reducible rfl))
        try simp only [Act.put, List.setIfInBounds_toArray, List.set_cons_zero, List.set_cons_succ]
        refine wpAnyH_read (i := 30) (oi := { dst := some 137, op := Go.Op.fieldAddr 34 (Go.Operand.tmp 9) 2, type := 0, pos := "law.go:103", after := #[{ on := 20, ground := Go.Ground.guard }], guard := some (20, false) }) ?_ rfl (by kernel_rfl) (by kernel_rfl) (by kernel_rfl) (fun _ _ _ h => h) (by rfl) (by assumption) ?_ ?_
        rotate_left
        · (intro w0 hS0; go_simp <;> (try with_reducible rfl))
        try simp only [Act.put, List.setIfInBounds_toArray, List.set_cons_zero, List.set_cons_succ]
        refine wpAnyH_read (i := 23) (oi := { dst := some 130, op := Go.Op.load 3 (Go.Operand.tmp 129), type := 3, pos := "law.go:103", after := #[{ on := 22, ground := Go.Ground.data }, { on := 20, ground := Go.Ground.guard }], guard := some (20, false) }) ?_ rfl (by kernel_rfl) (by kernel_rfl) (by kernel_rfl) (fun _ _ _ h => h) (by rfl) (by assumption) ?_ ?_
        rotate_left
        · (intro w0 hS0; obtain ⟨s1, s2, s3⟩ := hS0; go_simp <;> (try with_reducible rfl))
        try simp only [Act.put, List.setIfInBounds_toArray, List.set_cons_zero, List.set_cons_succ]
        refine wpAnyH_read (i := 25) (oi := { dst := some 132, op := Go.Op.load 9 (Go.Operand.tmp 131), type := 9, pos := "law.go:103", after := #[{ on := 24, ground := Go.Ground.data }, { on := 20, ground := Go.Ground.guard }], guard := some (20, false) }) ?_ rfl (by kernel_rfl) (by kernel_rfl) (by kernel_rfl) (fun _ _ _ h => h) (by rfl) (by assumption) ?_ ?_
        rotate_left
        · (intro w0 hS0; obtain ⟨s1, s2, s3⟩ := hS0; go_simp <;> (try with_reducible rfl))
        try simp only [Act.put, List.setIfInBounds_toArray, List.set_cons_zero, List.set_cons_succ]
        refine wpAnyH_read (i := 29) (oi := { dst := some 136, op := Go.Op.load 3 (Go.Operand.tmp 135), type := 3, pos := "law.go:103", after := #[{ on := 28, ground := Go.Ground.data }, { on := 20, ground := Go.Ground.guard }], guard := some (20, false) }) ?_ rfl (by kernel_rfl) (by kernel_rfl) (by kernel_rfl) (fun _ _ _ h => h) (by rfl) (by assumption) ?_ ?_
        rotate_left
        · (intro w0 hS0; obtain ⟨s1, s2, s3⟩ := hS0; go_simp <;> (try with_reducible rfl))
        try simp only [Act.put, List.setIfInBounds_toArray, List.set_cons_zero, List.set_cons_succ]
        refine wpAnyH_read (i := 31) (oi := { dst := some 138, op := Go.Op.load 9 (Go.Operand.tmp 137), type := 9, pos := "law.go:103", after := #[{ on := 30, ground := Go.Ground.data }, { on := 20, ground := Go.Ground.guard }], guard := some (20, false) }) ?_ rfl (by kernel_rfl) (by kernel_rfl) (by kernel_rfl) (fun _ _ _ h => h) (by rfl) (by assumption) ?_ ?_
        rotate_left
        · (intro w0 hS0; obtain ⟨s1, s2, s3⟩ := hS0; go_simp <;> (try with_reducible rfl))
        try simp only [Act.put, List.setIfInBounds_toArray, List.set_cons_zero, List.set_cons_succ]
        refine wpAnyH_one (i := 26) (o := { dst := some 133, op := Go.Op.call { callee := Go.Callee.value (Go.Operand.func 17), args := #[Go.Operand.tmp 128, Go.Operand.tmp 130, Go.Operand.tmp 132], argTypes := #[25, 3, 9] }, type := 4, pos := "law.go:103", after := #[{ on := 21, ground := Go.Ground.data }, { on := 23, ground := Go.Ground.data }, { on := 25, ground := Go.Ground.data }, { on := 20, ground := Go.Ground.chain }, { on := 20, ground := Go.Ground.guard }], guard := some (20, false) }) (by kernel_rfl) rfl (by rfl) (fun K hK => ?_)
        go_simp
        refine (H26.out _ G12.out).mono ?_
        rintro e v26 ⟨rfl, f26⟩
        have G26 := Lib.hid (G12.out.trans f26)
        clear f26
        go_wp2_with fail
        refine hK.out _ _ ?_ (fun hHeld => ?_)
        · exact HS.out _ G26.out
        clear hK K
        try simp only [Act.put, List.setIfInBounds_toArray, List.set_cons_zero, List.set_cons_succ]
        refine wpAnyH_one (i := 32) (o := { dst := some 139, op := Go.Op.call { callee := Go.Callee.value (Go.Operand.func 18), args := #[Go.Operand.tmp 134, Go.Operand.tmp 136, Go.Operand.tmp 138], argTypes := #[29, 3, 9] }, type := 4, pos := "law.go:103", after := #[{ on := 27, ground := Go.Ground.data }, { on := 29, ground := Go.Ground.data }, { on := 31, ground := Go.Ground.data }, { on := 26, ground := Go.Ground.chain }, { on := 20, ground := Go.Ground.guard }], guard := some (20, false) }) (by kernel_rfl) rfl (by rfl) (fun K hK => ?_)
        go_simp
        refine (H32.out _ G26.out).mono ?_
        rintro e v32 ⟨rfl, f32⟩
        have G32 := Lib.hid (G26.out.trans f32)
        clear f32
        go_wp2_with fail
        refine hK.out _ _ ?_ (fun hHeld => ?_)
        · exact HS.out _ G32.out
        clear hK K
        try simp only [Act.put, List.setIfInBounds_toArray, List.set_cons_zero, List.set_cons_succ]
        refine wpAnyH_read (i := 33) (oi := { dst := some 140, op := Go.Op.binOp Go.BinOp.neq 4 (Go.Operand.tmp 133) (Go.Operand.tmp 139) 4, type := 4, pos := "law.go:103", after := #[{ on := 26, ground := Go.Ground.data }, { on := 32, ground := Go.Ground.data }, { on := 20, ground := Go.Ground.guard }], guard := some (20, false) }) ?_ rfl (by kernel_rfl) (by kernel_rfl) (by kernel_rfl) (fun _ _ _ h => h) (by rfl) (by assumption) ?_ ?_
        rotate_left
        · (intro w0 hS0; go_simp <;> (try with_reducible rfl))
        try simp only [Act.put, List.setIfInBounds_toArray, List.set_cons_zero, List.set_cons_succ]
        refine wpAnyH_read (i := 34) (oi := { dst := some 141, op := Go.Op.pick (Go.Operand.tmp 127) (Go.Operand.const (Go.Value.bool true)) (Go.Operand.tmp 140), type := 4, pos := "law.go:103", after := #[{ on := 20, ground := Go.Ground.data }, { on := 33, ground := Go.Ground.data }], guard := none }) ?_ rfl (by kernel_rfl) (by kernel_rfl) (by kernel_rfl) (fun _ _ _ h => h) (by rfl) (by assumption) ?_ ?_
        rotate_left
        · (intro w0 hS0; go_simp <;> (try with_reducible rfl))
        try simp only [Act.put, List.setIfInBounds_toArray, List.set_cons_zero, List.set_cons_succ]
        refine wpAnyH_read (i := 35) (oi := { dst := some 142, op := Go.Op.move (Go.Operand.tmp 141), type := 4, pos := "law.go:103", after := #[{ on := 34, ground := Go.Ground.data }, { on := 32, ground := Go.Ground.chain }], guard := none }) ?_ rfl (by kernel_rfl) (by kernel_rfl) (by kernel_rfl) (fun _ _ _ h => h) (by rfl) (by assumption) ?_ ?_
        rotate_left
        · (intro w0 hS0; go_simp <;> (try with_reducible rfl))
        try simp only [Act.put, List.setIfInBounds_toArray, List.set_cons_zero, List.set_cons_succ]
        refine wpAnyH_read (i := 36) (oi := { dst := some 143, op := Go.Op.move (Go.Operand.tmp 5), type := 25, pos := "law.go:103", after := #[{ on := 35, ground := Go.Ground.guard }], guard := some (35, false) }) ?_ rfl (by kernel_rfl) (by kernel_rfl) (by kernel_rfl) (fun _ _ _ h => h) (by rfl) (by assumption) ?_ ?_
        rotate_left
        · (intro w0 hS0; go_simp <;> (try with_reducible rfl))
        try simp only [Act.put, List.setIfInBounds_toArray, List.set_cons_zero, List.set_cons_succ]
        refine wpAnyH_read (i := 37) (oi := { dst := some 144, op := Go.Op.fieldAddr 34 (Go.Operand.tmp 9) 1, type := 0, pos := "law.go:103", after := #[{ on := 35, ground := Go.Ground.guard }], guard := some (35, false) }) ?_ rfl (by kernel_rfl) (by kernel_rfl) (by kernel_rfl) (fun _ _ _ h => h) (by rfl) (by assumption) ?_ ?_
        rotate_left
        · (intro w0 hS0; go_simp <;> (try with_reducible rfl))
        try simp only [Act.put, List.setIfInBounds_toArray, List.set_cons_zero, List.set_cons_succ]
        refine wpAnyH_read (i := 40) (oi := { dst := some 147, op := Go.Op.move (Go.Operand.tmp 7), type := 29, pos := "law.go:103", after := #[{ on := 35, ground := Go.Ground.guard }], guard := some (35, false) }) ?_ rfl (by kernel_rfl) (by kernel_rfl) (by kernel_rfl) (fun _ _ _ h => h) (by rfl) (by assumption) ?_ ?_
        rotate_left
        · (intro w0 hS0; go_simp <;> (try with_reducible rfl))
        try simp only [Act.put, List.setIfInBounds_toArray, List.set_cons_zero, List.set_cons_succ]
        refine wpAnyH_read (i := 41) (oi := { dst := some 148, op := Go.Op.fieldAddr 34 (Go.Operand.tmp 9) 1, type := 0, pos := "law.go:103", after := #[{ on := 35, ground := Go.Ground.guard }], guard := some (35, false) }) ?_ rfl (by kernel_rfl) (by kernel_rfl) (by kernel_rfl) (fun _ _ _ h => h) (by rfl) (by assumption) ?_ ?_
        rotate_left
        · (intro w0 hS0; go_simp <;> (try with_reducible rfl))
        try simp only [Act.put, List.setIfInBounds_toArray, List.set_cons_zero, List.set_cons_succ]
        refine wpAnyH_read (i := 38) (oi := { dst := some 145, op := Go.Op.load 3 (Go.Operand.tmp 144), type := 3, pos := "law.go:103", after := #[{ on := 37, ground := Go.Ground.data }, { on := 35, ground := Go.Ground.guard }], guard := some (35, false) }) ?_ rfl (by kernel_rfl) (by kernel_rfl) (by kernel_rfl) (fun _ _ _ h => h) (by rfl) (by assumption) ?_ ?_
        rotate_left
        · (intro w0 hS0; obtain ⟨s1, s2, s3⟩ := hS0; go_simp <;> (try with_reducible rfl))
        try simp only [Act.put, List.setIfInBounds_toArray, List.set_cons_zero, List.set_cons_succ]
        refine wpAnyH_read (i := 42) (oi := { dst := some 149, op := Go.Op.load 3 (Go.Operand.tmp 148), type := 3, pos := "law.go:103", after := #[{ on := 41, ground := Go.Ground.data }, { on := 35, ground := Go.Ground.guard }], guard := some (35, false) }) ?_ rfl (by kernel_rfl) (by kernel_rfl) (by kernel_rfl) (fun _ _ _ h => h) (by rfl) (by assumption) ?_ ?_
        rotate_left
        · (intro w0 hS0; obtain ⟨s1, s2, s3⟩ := hS0; go_simp <;> (try with_reducible rfl))
        try simp only [Act.put, List.setIfInBounds_toArray, List.set_cons_zero, List.set_cons_succ]
        refine wpAnyH_one (i := 39) (o := { dst := some 146, op := Go.Op.call { callee := Go.Callee.value (Go.Operand.func 19), args := #[Go.Operand.tmp 143, Go.Operand.tmp 145], argTypes := #[25, 3] }, type := 3, pos := "law.go:103", after := #[{ on := 36, ground := Go.Ground.data }, { on := 38, ground := Go.Ground.data }, { on := 35, ground := Go.Ground.chain }, { on := 35, ground := Go.Ground.guard }], guard := some (35, false) }) (by kernel_rfl) rfl (by rfl) (fun K hK => ?_)
        go_simp
        refine (H39.out _ G32.out).mono ?_
        rintro e v39 ⟨rfl, f39⟩
        have G39 := Lib.hid (G32.out.trans f39)
        clear f39
        go_wp2_with fail
        refine hK.out _ _ ?_ (fun hHeld => ?_)
        · exact HS.out _ G39.out
        clear hK K
        try simp only [Act.put, List.setIfInBounds_toArray, List.set_cons_zero, List.set_cons_succ]
        refine wpAnyH_one (i := 43) (o := { dst := some 150, op := Go.Op.call { callee := Go.Callee.value (Go.Operand.func 20), args := #[Go.Operand.tmp 147, Go.Operand.tmp 149], argTypes := #[29, 3] }, type := 40, pos := "law.go:103", after := #[{ on := 40, ground := Go.Ground.data }, { on := 42, ground := Go.Ground.data }, { on := 39, ground := Go.Ground.chain }, { on := 35, ground := Go.Ground.guard }], guard := some (35, false) }) (by kernel_rfl) rfl (by rfl) (fun K hK => ?_)
        go_simp
        refine (H43.out _ G39.out).mono ?_
        rintro e v43 ⟨⟨A43, c43, rfl, r43⟩, f43⟩
        have G43 := Lib.hid (G39.out.trans f43)
        have R43 := Lib.hid r43
        clear f43 r43
        go_wp2_with fail
        refine hK.out _ _ ?_ (fun hHeld => ?_)
        · exact HS.out _ G43.out
        clear hK K
        try simp only [Act.put, List.setIfInBounds_toArray, List.set_cons_zero, List.set_cons_succ]
        refine wpAnyH_read (i := 44) (oi := { dst := some 151, op := Go.Op.call { callee := Go.Callee.builtin Go.Builtin.len, args := #[Go.Operand.tmp 150], argTypes := #[40] }, type := 3, pos := "law.go:103", after := #[{ on := 43, ground := Go.Ground.data }, { on := 35, ground := Go.Ground.guard }], guard := some (35, false) }) ?_ rfl (by kernel_rfl) (by kernel_rfl) (by kernel_rfl) (fun _ _ _ h => h) (by rfl) (by assumption) ?_ ?_
        rotate_left
        · (intro w0 hS0; go_simp <;> (try with_reducible rfl))
        try simp only [Act.put, List.setIfInBounds_toArray, List.set_cons_zero, List.set_cons_succ]
        refine wpAnyH_read (i := 45) (oi := { dst := some 152, op := Go.Op.binOp Go.BinOp.neq 3 (Go.Operand.tmp 146) (Go.Operand.tmp 151) 3, type := 4, pos := "law.go:103", after := #[{ on := 39, ground := Go.Ground.data }, { on := 44, ground := Go.Ground.data }, { on := 35, ground := Go.Ground.guard }], guard := some (35, false) }) ?_ rfl (by kernel_rfl) (by kernel_rfl) (by kernel_rfl) (fun _ _ _ h => h) (by rfl) (by assumption) ?_ ?_
        rotate_left
        · (intro w0 hS0; go_simp <;> (try with_reducible rfl))
        try simp only [Act.put, List.setIfInBounds_toArray, List.set_cons_zero, List.set_cons_succ]
        refine wpAnyH_read (i := 46) (oi := { dst := some 153, op := Go.Op.pick (Go.Operand.tmp 142) (Go.Operand.const (Go.Value.bool true)) (Go.Operand.tmp 152), type := 4, pos := "law.go:103", after := #[{ on := 35, ground := Go.Ground.data }, { on := 45, ground := Go.Ground.data }], guard := none }) ?_ rfl (by kernel_rfl) (by kernel_rfl) (by kernel_rfl) (fun _ _ _ h => h) (by rfl) (by assumption) ?_ ?_
        rotate_left
        · (intro w0 hS0; go_simp <;> (try with_reducible rfl))
        try simp only [Act.put, List.setIfInBounds_toArray, List.set_cons_zero, List.set_cons_succ]
        refine wpAnyH_read (i := 47) (oi := { dst := some 154, op := Go.Op.move (Go.Operand.tmp 153), type := 4, pos := "law.go:103", after := #[{ on := 46, ground := Go.Ground.data }, { on := 43, ground := Go.Ground.chain }], guard := none }) ?_ rfl (by kernel_rfl) (by kernel_rfl) (by kernel_rfl) (fun _ _ _ h => h) (by rfl) (by assumption) ?_ ?_
        rotate_left
        · (intro w0 hS0; go_simp <;> (try with_reducible rfl))
        try simp only [Act.put, List.setIfInBounds_toArray, List.set_cons_zero, List.set_cons_succ]
        refine wpAnyH_read (i := 48) (oi := { dst := some 155, op := Go.Op.move (Go.Operand.tmp 11), type := 40, pos := "law.go:103", after := #[{ on := 47, ground := Go.Ground.guard }], guard := some (47, false) }) ?_ rfl (by kernel_rfl) (by kernel_rfl) (by kernel_rfl) (fun _ _ _ h => h) (by rfl) (by assumption) ?_ ?_
        rotate_left
        · (intro w0 hS0; go_simp <;> (try with_reducible rfl))
        try simp only [Act.put, List.setIfInBounds_toArray, List.set_cons_zero, List.set_cons_succ]
        refine wpAnyH_read (i := 49) (oi := { dst := some 156, op := Go.Op.move (Go.Operand.tmp 7), type := 29, pos := "law.go:103", after := #[{ on := 47, ground := Go.Ground.guard }], guard := some (47, false) }) ?_ rfl (by kernel_rfl) (by kernel_rfl) (by kernel_rfl) (fun _ _ _ h => h) (by rfl) (by assumption) ?_ ?_
        rotate_left
        · (intro w0 hS0; go_simp <;> (try with_reducible rfl))
        try simp only [Act.put, List.setIfInBounds_toArray, List.set_cons_zero, List.set_cons_succ]
        refine wpAnyH_read (i := 50) (oi := { dst := some 157, op := Go.Op.fieldAddr 34 (Go.Operand.tmp 9) 1, type := 0, pos := "law.go:103", after := #[{ on := 47, ground := Go.Ground.guard }], guard := some (47, false) }) ?_ rfl (by kernel_rfl) (by kernel_rfl) (by kernel_rfl) (fun _ _ _ h => h) (by rfl) (by assumption) ?_ ?_
        rotate_left
        · (intro w0 hS0; go_simp <;> (try with_reducible rfl))
        try simp only [Act.put, List.setIfInBounds_toArray, List.set_cons_zero, List.set_cons_succ]
        refine wpAnyH_read (i := 51) (oi := { dst := some 158, op := Go.Op.load 3 (Go.Operand.tmp 157), type := 3, pos := "law.go:103", after := #[{ on := 50, ground := Go.Ground.data }, { on := 47, ground := Go.Ground.guard }], guard := some (47, false) }) ?_ rfl (by kernel_rfl) (by kernel_rfl) (by kernel_rfl) (fun _ _ _ h => h) (by rfl) (by assumption) ?_ ?_
        rotate_left
        · (intro w0 hS0; obtain ⟨s1, s2, s3⟩ := hS0; go_simp <;> (try with_reducible rfl))
        try simp only [Act.put, List.setIfInBounds_toArray, List.set_cons_zero, List.set_cons_succ]
        refine wpAnyH_one (i := 52) (o := { dst := some 159, op := Go.Op.call { callee := Go.Callee.value (Go.Operand.func 20), args := #[Go.Operand.tmp 156, Go.Operand.tmp 158], argTypes := #[29, 3] }, type := 40, pos := "law.go:103", after := #[{ on := 49, ground := Go.Ground.data }, { on := 51, ground := Go.Ground.data }, { on := 47, ground := Go.Ground.chain }, { on := 47, ground := Go.Ground.guard }], guard := some (47, false) }) (by kernel_rfl) rfl (by rfl) (fun K hK => ?_)
        go_simp
        refine (H43.out _ G43.out).mono ?_
        rintro e v52 ⟨⟨A52, c52, rfl, r52⟩, f52⟩
        have G52 := Lib.hid (G43.out.trans f52)
        have R52 := Lib.hid r52
        clear f52 r52
        go_wp2_with fail
        refine hK.out _ _ ?_ (fun hHeld => ?_)
        · exact HS.out _ G52.out
        clear hK K
        try simp only [Act.put, List.setIfInBounds_toArray, List.set_cons_zero, List.set_cons_succ]
        refine wpAnyH_one (i := 53) (o := { dst := some 160, op := Go.Op.call { callee := Go.Callee.value (Go.Operand.func 21), args := #[Go.Operand.tmp 155, Go.Operand.tmp 159], argTypes := #[40, 40] }, type := 4, pos := "law.go:103", after := #[{ on := 48, ground := Go.Ground.data }, { on := 52, ground := Go.Ground.data }, { on := 52, ground := Go.Ground.chain }, { on := 47, ground := Go.Ground.guard }], guard := some (47, false) }) (by kernel_rfl) rfl (by rfl) (fun K hK => ?_)
        go_simp
        refine (H53.out _ _ _ _ G52.out R52.out).mono ?_
        rintro e v53 ⟨rfl, f53⟩
        have G53 := Lib.hid (G52.out.trans f53)
        clear f53
        go_wp2_with fail
        refine hK.out _ _ ?_ (fun hHeld => ?_)
        · exact HS.out _ G53.out
        clear hK K
        try simp only [Act.put, List.setIfInBounds_toArray, List.set_cons_zero, List.set_cons_succ]
        refine wpAnyH_read (i := 54) (oi := { dst := some 161, op := Go.Op.unOp Go.UnOp.not 4 (Go.Operand.tmp 160), type := 4, pos := "law.go:103", after := #[{ on := 53, ground := Go.Ground.data }, { on := 47, ground := Go.Ground.guard }], guard := some (47, false) }) ?_ rfl (by kernel_rfl) (by kernel_rfl) (by kernel_rfl) (fun _ _ _ h => h) (by rfl) (by assumption) ?_ ?_
        rotate_left
        · (intro w0 hS0; go_simp <;> (try with_reducible rfl))
        try simp only [Act.put, List.setIfInBounds_toArray, List.set_cons_zero, List.set_cons_succ]
        refine wpAnyH_read (i := 55) (oi := { dst := some 162, op := Go.Op.pick (Go.Operand.tmp 154) (Go.Operand.const (Go.Value.bool true)) (Go.Operand.tmp 161), type := 4, pos := "law.go:103", after := #[{ on := 47, ground := Go.Ground.data }, { on := 54, ground := Go.Ground.data }], guard := none }) ?_ rfl (by kernel_rfl) (by kernel_rfl) (by kernel_rfl) (fun _ _ _ h => h) (by rfl) (by assumption) ?_ ?_
        rotate_left
        · (intro w0 hS0; go_simp <;> (try with_reducible rfl))
        try simp only [Act.put, List.setIfInBounds_toArray, List.set_cons_zero, List.set_cons_succ]
        refine wpAnyH_read (i := 56) (oi := { dst := some 163, op := Go.Op.move (Go.Operand.tmp 162), type := 4, pos := "law.go:103", after := #[{ on := 55, ground := Go.Ground.data }, { on := 53, ground := Go.Ground.chain }], guard := none }) ?_ rfl (by kernel_rfl) (by kernel_rfl) (by kernel_rfl) (fun _ _ _ h => h) (by rfl) (by assumption) ?_ ?_
        rotate_left
        · (intro w0 hS0; go_simp <;> (try with_reducible rfl))
        try simp only [Act.put, List.setIfInBounds_toArray, List.set_cons_zero, List.set_cons_succ]
        refine wpAnyH_read (i := 57) (oi := { dst := some 164, op := Go.Op.move (Go.Operand.tmp 13), type := 43, pos := "law.go:103", after := #[{ on := 56, ground := Go.Ground.guard }], guard := some (56, false) }) ?_ rfl (by kernel_rfl) (by kernel_rfl) (by kernel_rfl) (fun _ _ _ h => h) (by rfl) (by assumption) ?_ ?_
        rotate_left
        · (intro w0 hS0; go_simp <;> (try with_reducible rfl))
        try simp only [Act.put, List.setIfInBounds_toArray, List.set_cons_zero, List.set_cons_succ]
        refine wpAnyH_read (i := 58) (oi := { dst := some 165, op := Go.Op.move (Go.Operand.tmp 7), type := 29, pos := "law.go:103", after := #[{ on := 56, ground := Go.Ground.guard }], guard := some (56, false) }) ?_ rfl (by kernel_rfl) (by kernel_rfl) (by kernel_rfl) (fun _ _ _ h => h) (by rfl) (by assumption) ?_ ?_
        rotate_left
        · (intro w0 hS0; go_simp <;> (try with_reducible rfl))
        try simp only [Act.put, List.setIfInBounds_toArray, List.set_cons_zero, List.set_cons_succ]
        refine wpAnyH_read (i := 59) (oi := { dst := some 166, op := Go.Op.fieldAddr 34 (Go.Operand.tmp 9) 2, type := 0, pos := "law.go:103", after := #[{ on := 56, ground := Go.Ground.guard }], guard := some (56, false) }) ?_ rfl (by kernel_rfl) (by kernel_rfl) (by kernel_rfl) (fun _ _ _ h => h) (by rfl) (by assumption) ?_ ?_
        rotate_left
        · (intro w0 hS0; go_simp <;> (try with_reducible rfl))
        try simp only [Act.put, List.setIfInBounds_toArray, List.set_cons_zero, List.set_cons_succ]
        refine wpAnyH_read (i := 60) (oi := { dst := some 167, op := Go.Op.load 9 (Go.Operand.tmp 166), type := 9, pos := "law.go:103", after := #[{ on := 59, ground := Go.Ground.data }, { on := 56, ground := Go.Ground.guard }], guard := some (56, false) }) ?_ rfl (by kernel_rfl) (by kernel_rfl) (by kernel_rfl) (fun _ _ _ h => h) (by rfl) (by assumption) ?_ ?_
        rotate_left
        · (intro w0 hS0; obtain ⟨s1, s2, s3⟩ := hS0; go_simp <;> (try with_reducible rfl))
        try simp only [Act.put, List.setIfInBounds_toArray, List.set_cons_zero, List.set_cons_succ]
        refine wpAnyH_one (i := 61) (o := { dst := some 168, op := Go.Op.call { callee := Go.Callee.value (Go.Operand.func 23), args := #[Go.Operand.tmp 165, Go.Operand.tmp 167], argTypes := #[29, 9] }, type := 43, pos := "law.go:103", after := #[{ on := 58, ground := Go.Ground.data }, { on := 60, ground := Go.Ground.data }, { on := 56, ground := Go.Ground.chain }, { on := 56, ground := Go.Ground.guard }], guard := some (56, false) }) (by kernel_rfl) rfl (by rfl) (fun K hK => ?_)
        go_simp
        refine (H61.out _ G53.out).mono ?_
        rintro e v61 ⟨⟨A61, c61, rfl, r61⟩, f61⟩
        have G61 := Lib.hid (G53.out.trans f61)
        have R61 := Lib.hid r61
        clear f61 r61
        go_wp2_with fail
        refine hK.out _ _ ?_ (fun hHeld => ?_)
        · exact HS.out _ G61.out
        clear hK K
        try simp only [Act.put, List.setIfInBounds_toArray, List.set_cons_zero, List.set_cons_succ]
        refine wpAnyH_one (i := 62) (o := { dst := some 169, op := Go.Op.call { callee := Go.Callee.value (Go.Operand.func 22), args := #[Go.Operand.tmp 164, Go.Operand.tmp 168], argTypes := #[43, 43] }, type := 4, pos := "law.go:103", after := #[{ on := 57, ground := Go.Ground.data }, { on := 61, ground := Go.Ground.data }, { on := 61, ground := Go.Ground.chain }, { on := 56, ground := Go.Ground.guard }], guard := some (56, false) }) (by kernel_rfl) rfl (by rfl) (fun K hK => ?_)
        go_simp
        refine (H62.out _ _ _ _ G61.out R61.out).mono ?_
        rintro e v62 ⟨rfl, f62⟩
        have G62 := Lib.hid (G61.out.trans f62)
        clear f62
        go_wp2_with fail
        refine hK.out _ _ ?_ (fun hHeld => ?_)
        · exact HS.out _ G62.out
        clear hK K
        try simp only [Act.put, List.setIfInBounds_toArray, List.set_cons_zero, List.set_cons_succ]
        refine wpAnyH_read (i := 63) (oi := { dst := some 170, op := Go.Op.unOp Go.UnOp.not 4 (Go.Operand.tmp 169), type := 4, pos := "law.go:103", after := #[{ on := 62, ground := Go.Ground.data }, { on := 56, ground := Go.Ground.guard }], guard := some (56, false) }) ?_ rfl (by kernel_rfl) (by kernel_rfl) (by kernel_rfl) (fun _ _ _ h => h) (by rfl) (by assumption) ?_ ?_
        rotate_left
        · (intro w0 hS0; go_simp <;> (try with_reducible rfl))
        try simp only [Act.put, List.setIfInBounds_toArray, List.set_cons_zero, List.set_cons_succ]
        refine wpAnyH_read (i := 64) (oi := { dst := some 171, op := Go.Op.pick (Go.Operand.tmp 163) (Go.Operand.const (Go.Value.bool true)) (Go.Operand.tmp 170), type := 4, pos := "law.go:103", after := #[{ on := 56, ground := Go.Ground.data }, { on := 63, ground := Go.Ground.data }], guard := none }) ?_ rfl (by kernel_rfl) (by kernel_rfl) (by kernel_rfl) (fun _ _ _ h => h) (by rfl) (by assumption) ?_ ?_
        rotate_left
        · (intro w0 hS0; go_simp <;> (try with_reducible rfl))
        try simp only [Act.put, List.setIfInBounds_toArray, List.set_cons_zero, List.set_cons_succ]
        refine wpAnyH_done (by kernel_rfl) ?_ _
        go_wp2_with fail
        go_roundw
        case rel => exact ⟨j + 1, by go_num, by omega, X2, Z2, L2, HCC.out, HPP.out _ (F6.out.1.trans G62.out)⟩
        case measure => simp [RowKit.intOf]; omega
    · obtain rfl : j = l.length := by omega
      have p1 : ¬ ((l.length : Int) < (l.length : Int)) := by omega
      go_wp2_with fail
      go_ret
      exact ⟨rfl, HP.out.2.below⟩
end Go.Proofs.YteiiaocohpbanaaGreat
end
