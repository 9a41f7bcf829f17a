/- Layer 2: BookPlays: the main walk. -/
import Derived.Test.YtfdaeajafmcjcaaBokX
import Derived.Deep.CutRange
import Derived.Deep.CutBlock
import Derived.OpenShut
namespace Go.Proofs.Ytfdaeajafmcjcaa
set_option linter.unusedVariables false
set_option linter.unusedSimpArgs false
open Go Go.RowKit Go.Maps Go.Sort Go.Shelf Go.Lib

def CutB (w : World) (t b B x : Nat) (most : Int) (j : Nat) (wc : World) : Prop := ∃ (T : List (KeyB × Ent VI)) (U : List (Ent VI)), U.length ≤ j + 1 ∧ PlayB w t b B x most T U wc
def SawI (T : List (KeyB × Ent VI)) (nm : ByteArray) (r : Value) (W : World) (e : Ending) (w' : World) : Prop := e = .returned (.tuple #[r, .bool (lookM T (foldL nm.data.toList)).isSome]) ∧ RowKit.Below W.heap.size W w'
set_option maxRecDepth 100000 in
set_option maxHeartbeats 32000000 in
theorem bookPlays_main (most : Int) (hm : 0 ≤ most ∧ most ≤ 100000) (A : Option Addr) (l : List zbkT) (cc : Nat) (name : ByteArray) (hn : name.size ≤ 30) (w : World) (hg : greatB l = false) (hA : ActB w A l) :
    Calls Try.prog 3 #[.int .i64 most, .slice A l.length cc, .string name] w fun e w' => e = .returned (.bool true) ∧ RowKit.Below w.heap.size w w' := by
  have mixed : (Try.prog).follows Departure.mixedOrders = true := by kernel_rfl
  have hl : l.length ≤ 40 ∧ ∀ x ∈ l, x.2.1.size ≤ 30 := by
    unfold greatB at hg
    simp at hg
    exact ⟨by omega, fun x hx => by have := hg.2 _ _ _ hx; omega⟩
  have HA := Lib.hid hA
  have HG := Lib.hid (And.intro hg hl.2)
  have hl := hl.1
  have q1 : decide ((30 : Int) < (name.size : Int)) = false := by simp; omega
  have q2 : decide (most < 0) = false := by simp; omega
  have q3 : decide (100000 < most) = false := by simp; omega
  have HM := Lib.hid (And.intro hm hn)
  clear hA hg hm hn
  go_enter Try.func3, Try.ntmps3
  go_wp2_with fail
  refine (awake02 w).mono ?_
  rintro e w1 ⟨rfl, b1⟩
  have B1 := Lib.hid b1
  clear b1
  go_wp2_with fail
  refine (great02 HA.out w1 B1.out).mono ?_
  rintro e w2 ⟨rfl, rfl⟩
  rw [HG.out.1]
  go_wp2_with fail
  refine (bok_newI HM.out.1 _).mono ?_
  rintro e W1 ⟨t, b, rfl, h1, b1⟩
  have H1 := Lib.hid (And.intro h1 b1)
  clear h1 b1
  go_wp2_with fail
  obtain ⟨W2, hW2⟩ : ∃ W2, W1.alloc (.cells #[.int .i64 most, .slice none 0 0] 32) = W2 := ⟨_, rfl⟩
  rw [hW2]
  have H0 : Hid (PlayB w t b W1.heap.size W1.heap.size most [] [] W2) := playB_start B1.out H1.out.1 H1.out.2 hW2.symm
  obtain ⟨B, hB⟩ : ∃ B, W1.heap.size = B := ⟨_, rfl⟩
  rw [hB] at H0 ⊢
  clear hW2 hB H1 q1 q2 q3
  go_loopw [10] (fun i wr => ∃ (j : Nat), i = .int .i64 j ∧ j ≤ l.length ∧ Hid (∃ (T : List (KeyB × Ent VI)) (U : List (Ent VI)), U.length ≤ j ∧ PlayB w t b B B most T U wr)) (fun i _ => l.length - (RowKit.intOf i).toNat)
  case atStart => exact ⟨0, rfl, Nat.zero_le _, Lib.hid ⟨[], [], Nat.le_refl _, H0.out⟩⟩
  case round =>
    obtain ⟨j, rfl, hj, HP0⟩ := hrel
    obtain ⟨T, U, HP1⟩ := HP0.out
    have HP := Lib.hid HP1
    clear H0 HP0 HP1
    by_cases hlt : j < l.length
    · obtain ⟨g, o, rfl, hat⟩ := actB_at HA.out (by omega)
      obtain ⟨c1, c2, c3⟩ := hat wr HP.out.2.below j hlt
      have hgw : g < w.heap.size := by
        obtain ⟨g', o', e1, e2, _⟩ := HA.out.2 (by omega)
        injection e1 with e1
        injection e1 with e1
        omega
      have p0 : (j : Int) < (l.length : Int) := by omega
      have r0 : (0 : Int) ≤ (j : Int) := by omega
      have hzg := HA.out.1 _ (List.getElem_mem hlt)
      have hzs := HG.out.2 _ (List.getElem_mem hlt)
      obtain ⟨⟨kd, nm, v⟩, hlj⟩ : ∃ p, l[j] = p := ⟨_, rfl⟩
      rw [hlj] at c1 c2 c3 hzg hzs
      clear hat hlj
      dsimp only at c1 c2 c3 hzs
      obtain ⟨kn, hkn⟩ : ∃ kn, foldL nm.data.toList = kn := ⟨_, rfl⟩
      have HJ := Lib.hid (And.intro hzg (And.intro hzs (And.intro hkn hgw)))
      clear hzg hzs hkn hgw
      go_upto_if 59 with fail
      go_cut [11] from 48 to 176 (fun s wc => s = .bool true ∧ Hid (CutB w t b B B most j wc))
      case first =>
        obtain ⟨hzg, hzs, hkn, hgw⟩ := HJ.out
        obtain ⟨_, _, hzv⟩ := hzg
        obtain ⟨hUl, hPa⟩ := HP.out
        have hPD := hPa.rest ((Fr.refl (fun _ => False) wr).drew)
        have hTl : T.length ≤ 1000000 := by have := hPa.two.len; omega
        have hUm : U.length ≤ 1000000 := by omega
        have hnm : nm.size ≤ 1000000 := by omega
        have hgb : ¬ g = b := by have := hPa.bok.2.1; omega
        have hgB : ¬ B ≤ g := by have := hPa.bok.2.1; have := hPa.bB; omega
        have hgd : g < wr.drew.heap.size := Nat.lt_of_lt_of_le hgw hPa.below.size
        have HAB := Lib.hid (And.intro hgd (And.intro hgb hgB))
        by_cases hk1 : kd = 1
        · subst hk1
          have q4 : ((1 : Int) == 1) = true := rfl
          obtain ⟨d, hd⟩ : ∃ d, (lookM T kn).isSome = d := ⟨_, rfl⟩
          have HS := Lib.hid (del_one hPD.bok hnm hkn hd)
          have HD := Lib.hid fun W (h : RefB B W B most U ∧ B ≤ W.heap.size) => docdel_one h.1 h.2 hPD.two hPD.ok hUm hnm hkn hd
          have HPD := Lib.hid hPD
          have HU := Lib.hid hUl
          clear hPa hPD hzv hzs hkn hgw hTl hUm hnm hgb hgB hgd hd hUl
          go_wp2_with fail
          refine wp_region_held_drew (S := fun V => V.cell? ⟨g, o + j * 3 + 1, none⟩ = some (.string nm)) (by kernel_rfl) (by exact c2) (fun hHeld => ?_)
          refine wpAnyH_read (i := 0) (oi := { dst := some 60, op := Go.Op.move (Go.Operand.tmp 7), type := 25, pos := "law.go:82", after := #[], guard := none }) ?_ rfl (by kernel_rfl) (by kernel_rfl) (by kernel_rfl) (fun _ _ _ h => h) (by rfl) (by assumption) ?_ ?_
          rotate_left
          · (intro w0 hS0; go_simp <;> (try with_reducible rfl))
          try simp only [Act.put, List.setIfInBounds_toArray, List.set_cons_zero, List.set_cons_succ]
          refine wpAnyH_read (i := 1) (oi := { dst := some 61, op := Go.Op.move (Go.Operand.tmp 1), type := 22, pos := "law.go:82", after := #[], guard := none }) ?_ rfl (by kernel_rfl) (by kernel_rfl) (by kernel_rfl) (fun _ _ _ h => h) (by rfl) (by assumption) ?_ ?_
          rotate_left
          · (intro w0 hS0; go_simp <;> (try with_reducible rfl))
          try simp only [Act.put, List.setIfInBounds_toArray, List.set_cons_zero, List.set_cons_succ]
          refine wpAnyH_read (i := 2) (oi := { dst := some 62, op := Go.Op.move (Go.Operand.tmp 10), type := 3, pos := "law.go:82", after := #[], guard := none }) ?_ rfl (by kernel_rfl) (by kernel_rfl) (by kernel_rfl) (fun _ _ _ h => h) (by rfl) (by assumption) ?_ ?_
          rotate_left
          · (intro w0 hS0; go_simp <;> (try with_reducible rfl))
          try simp only [Act.put, List.setIfInBounds_toArray, List.set_cons_zero, List.set_cons_succ]
          refine wpAnyH_read (i := 3) (oi := { dst := some 63, op := Go.Op.indexAddr 22 (Go.Operand.tmp 61) (Go.Operand.tmp 62), type := 0, pos := "law.go:82", after := #[{ on := 1, ground := Go.Ground.data }, { on := 2, ground := Go.Ground.data }], guard := none }) ?_ rfl (by kernel_rfl) (by kernel_rfl) (by kernel_rfl) (fun _ _ _ h => h) (by rfl) (by assumption) ?_ ?_
          rotate_left
          · (intro w0 hS0; go_simp <;> (try with_reducible rfl))
          try simp only [Act.put, List.setIfInBounds_toArray, List.set_cons_zero, List.set_cons_succ]
          refine wpAnyH_read (i := 4) (oi := { dst := some 64, op := Go.Op.fieldAddr 34 (Go.Operand.tmp 63) 1, type := 0, pos := "law.go:82", after := #[{ on := 3, ground := Go.Ground.data }], guard := none }) ?_ rfl (by kernel_rfl) (by kernel_rfl) (by kernel_rfl) (fun _ _ _ h => h) (by rfl) (by assumption) ?_ ?_
          rotate_left
          · (intro w0 hS0; go_simp <;> (try with_reducible rfl))
          try simp only [Act.put, List.setIfInBounds_toArray, List.set_cons_zero, List.set_cons_succ]
          refine wpAnyH_read (i := 7) (oi := { dst := some 67, op := Go.Op.move (Go.Operand.tmp 9), type := 29, pos := "law.go:82", after := #[], guard := none }) ?_ rfl (by kernel_rfl) (by kernel_rfl) (by kernel_rfl) (fun _ _ _ h => h) (by rfl) (by assumption) ?_ ?_
          rotate_left
          · (intro w0 hS0; go_simp <;> (try with_reducible rfl))
          try simp only [Act.put, List.setIfInBounds_toArray, List.set_cons_zero, List.set_cons_succ]
          refine wpAnyH_read (i := 8) (oi := { dst := some 68, op := Go.Op.move (Go.Operand.tmp 1), type := 22, pos := "law.go:82", after := #[], guard := none }) ?_ rfl (by kernel_rfl) (by kernel_rfl) (by kernel_rfl) (fun _ _ _ h => h) (by rfl) (by assumption) ?_ ?_
          rotate_left
          · (intro w0 hS0; go_simp <;> (try with_reducible rfl))
          try simp only [Act.put, List.setIfInBounds_toArray, List.set_cons_zero, List.set_cons_succ]
          refine wpAnyH_read (i := 9) (oi := { dst := some 69, op := Go.Op.move (Go.Operand.tmp 10), type := 3, pos := "law.go:82", after := #[], guard := none }) ?_ rfl (by kernel_rfl) (by kernel_rfl) (by kernel_rfl) (fun _ _ _ h => h) (by rfl) (by assumption) ?_ ?_
          rotate_left
          · (intro w0 hS0; go_simp <;> (try with_reducible rfl))
          try simp only [Act.put, List.setIfInBounds_toArray, List.set_cons_zero, List.set_cons_succ]
          refine wpAnyH_read (i := 10) (oi := { dst := some 70, op := Go.Op.indexAddr 22 (Go.Operand.tmp 68) (Go.Operand.tmp 69), type := 0, pos := "law.go:82", after := #[{ on := 8, ground := Go.Ground.data }, { on := 9, ground := Go.Ground.data }], guard := none }) ?_ rfl (by kernel_rfl) (by kernel_rfl) (by kernel_rfl) (fun _ _ _ h => h) (by rfl) (by assumption) ?_ ?_
          rotate_left
          · (intro w0 hS0; go_simp <;> (try with_reducible rfl))
          try simp only [Act.put, List.setIfInBounds_toArray, List.set_cons_zero, List.set_cons_succ]
          refine wpAnyH_read (i := 11) (oi := { dst := some 71, op := Go.Op.fieldAddr 34 (Go.Operand.tmp 70) 1, type := 0, pos := "law.go:82", after := #[{ on := 10, ground := Go.Ground.data }], guard := none }) ?_ rfl (by kernel_rfl) (by kernel_rfl) (by kernel_rfl) (fun _ _ _ h => h) (by rfl) (by assumption) ?_ ?_
          rotate_left
          · (intro w0 hS0; go_simp <;> (try with_reducible rfl))
          try simp only [Act.put, List.setIfInBounds_toArray, List.set_cons_zero, List.set_cons_succ]
          refine wpAnyH_read (i := 5) (oi := { dst := some 65, op := Go.Op.load 9 (Go.Operand.tmp 64), type := 9, pos := "law.go:82", after := #[{ on := 4, ground := Go.Ground.data }], guard := none }) ?_ rfl (by kernel_rfl) (by kernel_rfl) (by kernel_rfl) (fun _ _ _ h => h) (by rfl) (by assumption) ?_ ?_
          rotate_left
          · (intro w0 hS0; (try obtain ⟨s1, s2⟩ := hS0); go_simp <;> (try with_reducible rfl))
          try simp only [Act.put, List.setIfInBounds_toArray, List.set_cons_zero, List.set_cons_succ]
          refine wpAnyH_read (i := 12) (oi := { dst := some 72, op := Go.Op.load 9 (Go.Operand.tmp 71), type := 9, pos := "law.go:82", after := #[{ on := 11, ground := Go.Ground.data }], guard := none }) ?_ rfl (by kernel_rfl) (by kernel_rfl) (by kernel_rfl) (fun _ _ _ h => h) (by rfl) (by assumption) ?_ ?_
          rotate_left
          · (intro w0 hS0; (try obtain ⟨s1, s2⟩ := hS0); go_simp <;> (try with_reducible rfl))
          try simp only [Act.put, List.setIfInBounds_toArray, List.set_cons_zero, List.set_cons_succ]
          refine wpAnyH_one (i := 6) (o := { dst := some 66, op := Go.Op.call { callee := Go.Callee.value (Go.Operand.func 10), args := #[Go.Operand.tmp 60, Go.Operand.tmp 65], argTypes := #[25, 9] }, type := 4, pos := "law.go:82", after := #[{ on := 0, ground := Go.Ground.data }, { on := 5, ground := Go.Ground.data }], guard := none }) (by kernel_rfl) rfl (by rfl) (fun K hK => ?_)
          go_simp
          refine HS.out.mono ?_
          rintro e w5 ⟨rfl, h5, f5⟩
          have P5 := Lib.hid (And.intro h5 f5)
          have M5 := Lib.hid (HPD.out.mid f5)
          clear h5 f5
          go_wp2_with fail
          refine hK.out _ _ ?_ (fun hHeld => ?_)
          · exact (P5.out.2.cell (p := ⟨g, o + j * 3 + 1, none⟩) HAB.out.1 HAB.out.2.1).trans hHeld
          clear hK K
          try simp only [Act.put, List.setIfInBounds_toArray, List.set_cons_zero, List.set_cons_succ]
          refine wpAnyH_one (i := 13) (o := { dst := some 73, op := Go.Op.call { callee := Go.Callee.value (Go.Operand.func 11), args := #[Go.Operand.tmp 67, Go.Operand.tmp 72], argTypes := #[29, 9] }, type := 4, pos := "law.go:82", after := #[{ on := 7, ground := Go.Ground.data }, { on := 12, ground := Go.Ground.data }, { on := 6, ground := Go.Ground.chain }], guard := none }) (by kernel_rfl) rfl (by rfl) (fun K hK => ?_)
          go_simp
          refine (HD.out _ M5.out).mono ?_
          rintro e w6 ⟨rfl, h6, f6⟩
          have P6 := Lib.hid (And.intro h6 f6)
          clear h6 f6
          go_wp2_with fail
          refine hK.out _ _ ?_ (fun hHeld => ?_)
          · exact (P6.out.2.cell (p := ⟨g, o + j * 3 + 1, none⟩) (Nat.lt_of_lt_of_le HAB.out.1 P5.out.2.size) HAB.out.2.2).trans hHeld
          clear hK K
          try simp only [Act.put, List.setIfInBounds_toArray, List.set_cons_zero, List.set_cons_succ]
          refine wpAnyH_read (i := 14) (oi := { dst := some 74, op := Go.Op.binOp Go.BinOp.eql 4 (Go.Operand.tmp 66) (Go.Operand.tmp 73) 4, type := 4, pos := "law.go:82", after := #[{ on := 6, ground := Go.Ground.data }, { on := 13, ground := Go.Ground.data }], guard := none }) ?_ rfl (by kernel_rfl) (by kernel_rfl) (by kernel_rfl) (fun _ _ _ h => h) (by rfl) (by assumption) ?_ ?_
          rotate_left
          · (intro w0 hS0; go_simp <;> (try with_reducible rfl))
          try simp only [Act.put, List.setIfInBounds_toArray, List.set_cons_zero, List.set_cons_succ]
          refine wpAnyH_read (i := 15) (oi := { dst := some 11, op := Go.Op.assign (Go.Operand.tmp 74), type := 4, pos := "law.go:82", after := #[{ on := 14, ground := Go.Ground.data }, { on := 13, ground := Go.Ground.chain }, { on := 0, ground := Go.Ground.phase }, { on := 1, ground := Go.Ground.phase }, { on := 2, ground := Go.Ground.phase }, { on := 3, ground := Go.Ground.phase }, { on := 4, ground := Go.Ground.phase }, { on := 5, ground := Go.Ground.phase }, { on := 6, ground := Go.Ground.phase }, { on := 7, ground := Go.Ground.phase }, { on := 8, ground := Go.Ground.phase }, { on := 9, ground := Go.Ground.phase }, { on := 10, ground := Go.Ground.phase }, { on := 11, ground := Go.Ground.phase }, { on := 12, ground := Go.Ground.phase }, { on := 13, ground := Go.Ground.phase }, { on := 14, ground := Go.Ground.phase }], guard := none }) ?_ rfl (by kernel_rfl) (by kernel_rfl) (by kernel_rfl) (fun _ _ _ h => h) (by rfl) (by assumption) ?_ ?_
          rotate_left
          · (intro w0 hS0; go_simp <;> (try with_reducible rfl))
          try simp only [Act.put, List.setIfInBounds_toArray, List.set_cons_zero, List.set_cons_succ]
          refine wpAnyH_done (by kernel_rfl) ?_ _
          go_wp2_with fail
          go_meet
          case rel =>
            obtain ⟨h5, f5⟩ := P5.out
            obtain ⟨h6, f6⟩ := P6.out
            obtain ⟨U1, a1, a2⟩ := HPD.out.step h5 f5 h6 f6
            exact ⟨by simp, Lib.hid ⟨_, U1, by have := HU.out; omega, a2⟩⟩
        · have q4 : (kd == 1) = false := by simpa using hk1
          by_cases hroom : (lookM T kn).isSome = true ∨ (T.length : Int) < most
          · have HS := Lib.hid (bput_room (v := v) hPD.bok hnm hzv hTl hkn hroom)
            have HD := Lib.hid fun W (h : RefB B W B most U ∧ B ≤ W.heap.size) => docput_room (v := v) h.1 h.2 hPD.two hPD.ok hUm hnm hkn hroom
            have HPD := Lib.hid hPD
            have HU := Lib.hid hUl
            unfold thVI at HS
            clear hPa hPD hzv hzs hkn hgw hTl hUm hnm hgb hgB hgd hUl hk1 hroom
            go_wp2_with fail
            refine wp_region_held_drew (S := fun V => V.cell? ⟨g, o + j * 3 + 1, none⟩ = some (.string nm) ∧ V.cell? ⟨g, o + j * 3 + 2, none⟩ = some (.int .i64 v)) (by kernel_rfl) (by exact ⟨c2, c3⟩) (fun hHeld => ?_)
            refine wpAnyH_read (i := 0) (oi := { dst := some 75, op := Go.Op.move (Go.Operand.tmp 7), type := 25, pos := "law.go:84", after := #[], guard := none }) ?_ rfl (by kernel_rfl) (by kernel_rfl) (by kernel_rfl) (fun _ _ _ h => h) (by rfl) (by assumption) ?_ ?_
            rotate_left
            · (intro w0 hS0; go_simp <;> (try with_reducible rfl))
            try simp only [Act.put, List.setIfInBounds_toArray, List.set_cons_zero, List.set_cons_succ]
            refine wpAnyH_read (i := 1) (oi := { dst := some 76, op := Go.Op.move (Go.Operand.tmp 1), type := 22, pos := "law.go:84", after := #[], guard := none }) ?_ rfl (by kernel_rfl) (by kernel_rfl) (by kernel_rfl) (fun _ _ _ h => h) (by rfl) (by assumption) ?_ ?_
            rotate_left
            · (intro w0 hS0; go_simp <;> (try with_reducible rfl))
            try simp only [Act.put, List.setIfInBounds_toArray, List.set_cons_zero, List.set_cons_succ]
            refine wpAnyH_read (i := 2) (oi := { dst := some 77, op := Go.Op.move (Go.Operand.tmp 10), type := 3, pos := "law.go:84", after := #[], guard := none }) ?_ rfl (by kernel_rfl) (by kernel_rfl) (by kernel_rfl) (fun _ _ _ h => h) (by rfl) (by assumption) ?_ ?_
            rotate_left
            · (intro w0 hS0; go_simp <;> (try with_reducible rfl))
            try simp only [Act.put, List.setIfInBounds_toArray, List.set_cons_zero, List.set_cons_succ]
            refine wpAnyH_read (i := 3) (oi := { dst := some 78, op := Go.Op.indexAddr 22 (Go.Operand.tmp 76) (Go.Operand.tmp 77), type := 0, pos := "law.go:84", after := #[{ on := 1, ground := Go.Ground.data }, { on := 2, ground := Go.Ground.data }], guard := none }) ?_ rfl (by kernel_rfl) (by kernel_rfl) (by kernel_rfl) (fun _ _ _ h => h) (by rfl) (by assumption) ?_ ?_
            rotate_left
            · (intro w0 hS0; go_simp <;> (try with_reducible rfl))
            try simp only [Act.put, List.setIfInBounds_toArray, List.set_cons_zero, List.set_cons_succ]
            refine wpAnyH_read (i := 4) (oi := { dst := some 79, op := Go.Op.fieldAddr 34 (Go.Operand.tmp 78) 1, type := 0, pos := "law.go:84", after := #[{ on := 3, ground := Go.Ground.data }], guard := none }) ?_ rfl (by kernel_rfl) (by kernel_rfl) (by kernel_rfl) (fun _ _ _ h => h) (by rfl) (by assumption) ?_ ?_
            rotate_left
            · (intro w0 hS0; go_simp <;> (try with_reducible rfl))
            try simp only [Act.put, List.setIfInBounds_toArray, List.set_cons_zero, List.set_cons_succ]
            refine wpAnyH_read (i := 6) (oi := { dst := some 81, op := Go.Op.move (Go.Operand.tmp 1), type := 22, pos := "law.go:84", after := #[], guard := none }) ?_ rfl (by kernel_rfl) (by kernel_rfl) (by kernel_rfl) (fun _ _ _ h => h) (by rfl) (by assumption) ?_ ?_
            rotate_left
            · (intro w0 hS0; go_simp <;> (try with_reducible rfl))
            try simp only [Act.put, List.setIfInBounds_toArray, List.set_cons_zero, List.set_cons_succ]
            refine wpAnyH_read (i := 7) (oi := { dst := some 82, op := Go.Op.move (Go.Operand.tmp 10), type := 3, pos := "law.go:84", after := #[], guard := none }) ?_ rfl (by kernel_rfl) (by kernel_rfl) (by kernel_rfl) (fun _ _ _ h => h) (by rfl) (by assumption) ?_ ?_
            rotate_left
            · (intro w0 hS0; go_simp <;> (try with_reducible rfl))
            try simp only [Act.put, List.setIfInBounds_toArray, List.set_cons_zero, List.set_cons_succ]
            refine wpAnyH_read (i := 8) (oi := { dst := some 83, op := Go.Op.indexAddr 22 (Go.Operand.tmp 81) (Go.Operand.tmp 82), type := 0, pos := "law.go:84", after := #[{ on := 6, ground := Go.Ground.data }, { on := 7, ground := Go.Ground.data }], guard := none }) ?_ rfl (by kernel_rfl) (by kernel_rfl) (by kernel_rfl) (fun _ _ _ h => h) (by rfl) (by assumption) ?_ ?_
            rotate_left
            · (intro w0 hS0; go_simp <;> (try with_reducible rfl))
            try simp only [Act.put, List.setIfInBounds_toArray, List.set_cons_zero, List.set_cons_succ]
            refine wpAnyH_read (i := 9) (oi := { dst := some 84, op := Go.Op.fieldAddr 34 (Go.Operand.tmp 83) 2, type := 0, pos := "law.go:84", after := #[{ on := 8, ground := Go.Ground.data }], guard := none }) ?_ rfl (by kernel_rfl) (by kernel_rfl) (by kernel_rfl) (fun _ _ _ h => h) (by rfl) (by assumption) ?_ ?_
            rotate_left
            · (intro w0 hS0; go_simp <;> (try with_reducible rfl))
            try simp only [Act.put, List.setIfInBounds_toArray, List.set_cons_zero, List.set_cons_succ]
            refine wpAnyH_read (i := 12) (oi := { dst := some 87, op := Go.Op.move (Go.Operand.tmp 9), type := 29, pos := "law.go:84", after := #[], guard := none }) ?_ rfl (by kernel_rfl) (by kernel_rfl) (by kernel_rfl) (fun _ _ _ h => h) (by rfl) (by assumption) ?_ ?_
            rotate_left
            · (intro w0 hS0; go_simp <;> (try with_reducible rfl))
            try simp only [Act.put, List.setIfInBounds_toArray, List.set_cons_zero, List.set_cons_succ]
            refine wpAnyH_read (i := 13) (oi := { dst := some 88, op := Go.Op.move (Go.Operand.tmp 1), type := 22, pos := "law.go:84", after := #[], guard := none }) ?_ rfl (by kernel_rfl) (by kernel_rfl) (by kernel_rfl) (fun _ _ _ h => h) (by rfl) (by assumption) ?_ ?_
            rotate_left
            · (intro w0 hS0; go_simp <;> (try with_reducible rfl))
            try simp only [Act.put, List.setIfInBounds_toArray, List.set_cons_zero, List.set_cons_succ]
            refine wpAnyH_read (i := 14) (oi := { dst := some 89, op := Go.Op.move (Go.Operand.tmp 10), type := 3, pos := "law.go:84", after := #[], guard := none }) ?_ rfl (by kernel_rfl) (by kernel_rfl) (by kernel_rfl) (fun _ _ _ h => h) (by rfl) (by assumption) ?_ ?_
            rotate_left
            · (intro w0 hS0; go_simp <;> (try with_reducible rfl))
            try simp only [Act.put, List.setIfInBounds_toArray, List.set_cons_zero, List.set_cons_succ]
            refine wpAnyH_read (i := 15) (oi := { dst := some 90, op := Go.Op.indexAddr 22 (Go.Operand.tmp 88) (Go.Operand.tmp 89), type := 0, pos := "law.go:84", after := #[{ on := 13, ground := Go.Ground.data }, { on := 14, ground := Go.Ground.data }], guard := none }) ?_ rfl (by kernel_rfl) (by kernel_rfl) (by kernel_rfl) (fun _ _ _ h => h) (by rfl) (by assumption) ?_ ?_
            rotate_left
            · (intro w0 hS0; go_simp <;> (try with_reducible rfl))
            try simp only [Act.put, List.setIfInBounds_toArray, List.set_cons_zero, List.set_cons_succ]
            refine wpAnyH_read (i := 16) (oi := { dst := some 91, op := Go.Op.fieldAddr 34 (Go.Operand.tmp 90) 1, type := 0, pos := "law.go:84", after := #[{ on := 15, ground := Go.Ground.data }], guard := none }) ?_ rfl (by kernel_rfl) (by kernel_rfl) (by kernel_rfl) (fun _ _ _ h => h) (by rfl) (by assumption) ?_ ?_
            rotate_left
            · (intro w0 hS0; go_simp <;> (try with_reducible rfl))
            try simp only [Act.put, List.setIfInBounds_toArray, List.set_cons_zero, List.set_cons_succ]
            refine wpAnyH_read (i := 18) (oi := { dst := some 93, op := Go.Op.move (Go.Operand.tmp 1), type := 22, pos := "law.go:84", after := #[], guard := none }) ?_ rfl (by kernel_rfl) (by kernel_rfl) (by kernel_rfl) (fun _ _ _ h => h) (by rfl) (by assumption) ?_ ?_
            rotate_left
            · (intro w0 hS0; go_simp <;> (try with_reducible rfl))
            try simp only [Act.put, List.setIfInBounds_toArray, List.set_cons_zero, List.set_cons_succ]
            refine wpAnyH_read (i := 19) (oi := { dst := some 94, op := Go.Op.move (Go.Operand.tmp 10), type := 3, pos := "law.go:84", after := #[], guard := none }) ?_ rfl (by kernel_rfl) (by kernel_rfl) (by kernel_rfl) (fun _ _ _ h => h) (by rfl) (by assumption) ?_ ?_
            rotate_left
            · (intro w0 hS0; go_simp <;> (try with_reducible rfl))
            try simp only [Act.put, List.setIfInBounds_toArray, List.set_cons_zero, List.set_cons_succ]
            refine wpAnyH_read (i := 20) (oi := { dst := some 95, op := Go.Op.indexAddr 22 (Go.Operand.tmp 93) (Go.Operand.tmp 94), type := 0, pos := "law.go:84", after := #[{ on := 18, ground := Go.Ground.data }, { on := 19, ground := Go.Ground.data }], guard := none }) ?_ rfl (by kernel_rfl) (by kernel_rfl) (by kernel_rfl) (fun _ _ _ h => h) (by rfl) (by assumption) ?_ ?_
            rotate_left
            · (intro w0 hS0; go_simp <;> (try with_reducible rfl))
            try simp only [Act.put, List.setIfInBounds_toArray, List.set_cons_zero, List.set_cons_succ]
            refine wpAnyH_read (i := 21) (oi := { dst := some 96, op := Go.Op.fieldAddr 34 (Go.Operand.tmp 95) 2, type := 0, pos := "law.go:84", after := #[{ on := 20, ground := Go.Ground.data }], guard := none }) ?_ rfl (by kernel_rfl) (by kernel_rfl) (by kernel_rfl) (fun _ _ _ h => h) (by rfl) (by assumption) ?_ ?_
            rotate_left
            · (intro w0 hS0; go_simp <;> (try with_reducible rfl))
            try simp only [Act.put, List.setIfInBounds_toArray, List.set_cons_zero, List.set_cons_succ]
            refine wpAnyH_read (i := 5) (oi := { dst := some 80, op := Go.Op.load 9 (Go.Operand.tmp 79), type := 9, pos := "law.go:84", after := #[{ on := 4, ground := Go.Ground.data }], guard := none }) ?_ rfl (by kernel_rfl) (by kernel_rfl) (by kernel_rfl) (fun _ _ _ h => h) (by rfl) (by assumption) ?_ ?_
            rotate_left
            · (intro w0 hS0; (try obtain ⟨s1, s2⟩ := hS0); go_simp <;> (try with_reducible rfl))
            try simp only [Act.put, List.setIfInBounds_toArray, List.set_cons_zero, List.set_cons_succ]
            refine wpAnyH_read (i := 10) (oi := { dst := some 85, op := Go.Op.load 3 (Go.Operand.tmp 84), type := 3, pos := "law.go:84", after := #[{ on := 9, ground := Go.Ground.data }], guard := none }) ?_ rfl (by kernel_rfl) (by kernel_rfl) (by kernel_rfl) (fun _ _ _ h => h) (by rfl) (by assumption) ?_ ?_
            rotate_left
            · (intro w0 hS0; (try obtain ⟨s1, s2⟩ := hS0); go_simp <;> (try with_reducible rfl))
            try simp only [Act.put, List.setIfInBounds_toArray, List.set_cons_zero, List.set_cons_succ]
            refine wpAnyH_read (i := 17) (oi := { dst := some 92, op := Go.Op.load 9 (Go.Operand.tmp 91), type := 9, pos := "law.go:84", after := #[{ on := 16, ground := Go.Ground.data }], guard := none }) ?_ rfl (by kernel_rfl) (by kernel_rfl) (by kernel_rfl) (fun _ _ _ h => h) (by rfl) (by assumption) ?_ ?_
            rotate_left
            · (intro w0 hS0; (try obtain ⟨s1, s2⟩ := hS0); go_simp <;> (try with_reducible rfl))
            try simp only [Act.put, List.setIfInBounds_toArray, List.set_cons_zero, List.set_cons_succ]
            refine wpAnyH_read (i := 22) (oi := { dst := some 97, op := Go.Op.load 3 (Go.Operand.tmp 96), type := 3, pos := "law.go:84", after := #[{ on := 21, ground := Go.Ground.data }], guard := none }) ?_ rfl (by kernel_rfl) (by kernel_rfl) (by kernel_rfl) (fun _ _ _ h => h) (by rfl) (by assumption) ?_ ?_
            rotate_left
            · (intro w0 hS0; (try obtain ⟨s1, s2⟩ := hS0); go_simp <;> (try with_reducible rfl))
            try simp only [Act.put, List.setIfInBounds_toArray, List.set_cons_zero, List.set_cons_succ]
            refine wpAnyH_one (i := 11) (o := { dst := some 86, op := Go.Op.call { callee := Go.Callee.value (Go.Operand.func 12), args := #[Go.Operand.tmp 75, Go.Operand.tmp 80, Go.Operand.tmp 85], argTypes := #[25, 9, 3] }, type := 26, pos := "law.go:84", after := #[{ on := 0, ground := Go.Ground.data }, { on := 5, ground := Go.Ground.data }, { on := 10, ground := Go.Ground.data }], guard := none }) (by kernel_rfl) rfl (by rfl) (fun K hK => ?_)
            go_simp
            refine HS.out.mono ?_
            rintro e w5 ⟨rfl, h5, f5⟩
            have P5 := Lib.hid (And.intro h5 f5)
            have M5 := Lib.hid (HPD.out.mid f5)
            clear h5 f5
            go_wp2_with fail
            refine hK.out _ _ ?_ (fun hHeld => ?_)
            · exact ⟨(P5.out.2.cell (p := ⟨g, o + j * 3 + 1, none⟩) HAB.out.1 HAB.out.2.1).trans hHeld.1, (P5.out.2.cell (p := ⟨g, o + j * 3 + 2, none⟩) HAB.out.1 HAB.out.2.1).trans hHeld.2⟩
            clear hK K
            try simp only [Act.put, List.setIfInBounds_toArray, List.set_cons_zero, List.set_cons_succ]
            refine wpAnyH_one (i := 23) (o := { dst := some 98, op := Go.Op.call { callee := Go.Callee.value (Go.Operand.func 13), args := #[Go.Operand.tmp 87, Go.Operand.tmp 92, Go.Operand.tmp 97], argTypes := #[29, 9, 3] }, type := 3, pos := "law.go:84", after := #[{ on := 12, ground := Go.Ground.data }, { on := 17, ground := Go.Ground.data }, { on := 22, ground := Go.Ground.data }, { on := 11, ground := Go.Ground.chain }], guard := none }) (by kernel_rfl) rfl (by rfl) (fun K hK => ?_)
            go_simp
            refine (HD.out _ M5.out).mono ?_
            rintro e w6 ⟨rfl, h6, f6⟩
            have P6 := Lib.hid (And.intro h6 f6)
            clear h6 f6
            go_wp2_with fail
            refine hK.out _ _ ?_ (fun hHeld => ?_)
            · exact ⟨(P6.out.2.cell (p := ⟨g, o + j * 3 + 1, none⟩) (Nat.lt_of_lt_of_le HAB.out.1 P5.out.2.size) HAB.out.2.2).trans hHeld.1, (P6.out.2.cell (p := ⟨g, o + j * 3 + 2, none⟩) (Nat.lt_of_lt_of_le HAB.out.1 P5.out.2.size) HAB.out.2.2).trans hHeld.2⟩
            clear hK K
            try simp only [Act.put, List.setIfInBounds_toArray, List.set_cons_zero, List.set_cons_succ]
            refine wpAnyH_read (i := 24) (oi := { dst := some 99, op := Go.Op.binOp Go.BinOp.eql 3 (Go.Operand.tmp 86) (Go.Operand.tmp 98) 3, type := 4, pos := "law.go:84", after := #[{ on := 11, ground := Go.Ground.data }, { on := 23, ground := Go.Ground.data }], guard := none }) ?_ rfl (by kernel_rfl) (by kernel_rfl) (by kernel_rfl) (fun _ _ _ h => h) (by rfl) (by assumption) ?_ ?_
            rotate_left
            · (intro w0 hS0; go_simp <;> (try with_reducible rfl))
            try simp only [Act.put, List.setIfInBounds_toArray, List.set_cons_zero, List.set_cons_succ]
            refine wpAnyH_read (i := 25) (oi := { dst := some 11, op := Go.Op.assign (Go.Operand.tmp 99), type := 4, pos := "law.go:84", after := #[{ on := 24, ground := Go.Ground.data }, { on := 23, ground := Go.Ground.chain }, { on := 0, ground := Go.Ground.phase }, { on := 1, ground := Go.Ground.phase }, { on := 2, ground := Go.Ground.phase }, { on := 3, ground := Go.Ground.phase }, { on := 4, ground := Go.Ground.phase }, { on := 5, ground := Go.Ground.phase }, { on := 6, ground := Go.Ground.phase }, { on := 7, ground := Go.Ground.phase }, { on := 8, ground := Go.Ground.phase }, { on := 9, ground := Go.Ground.phase }, { on := 10, ground := Go.Ground.phase }, { on := 11, ground := Go.Ground.phase }, { on := 12, ground := Go.Ground.phase }, { on := 13, ground := Go.Ground.phase }, { on := 14, ground := Go.Ground.phase }, { on := 15, ground := Go.Ground.phase }, { on := 16, ground := Go.Ground.phase }, { on := 17, ground := Go.Ground.phase }, { on := 18, ground := Go.Ground.phase }, { on := 19, ground := Go.Ground.phase }, { on := 20, ground := Go.Ground.phase }, { on := 21, ground := Go.Ground.phase }, { on := 22, ground := Go.Ground.phase }, { on := 23, ground := Go.Ground.phase }, { on := 24, ground := Go.Ground.phase }], guard := none }) ?_ rfl (by kernel_rfl) (by kernel_rfl) (by kernel_rfl) (fun _ _ _ h => h) (by rfl) (by assumption) ?_ ?_
            rotate_left
            · (intro w0 hS0; go_simp <;> (try with_reducible rfl))
            try simp only [Act.put, List.setIfInBounds_toArray, List.set_cons_zero, List.set_cons_succ]
            refine wpAnyH_done (by kernel_rfl) ?_ _
            go_wp2_with fail
            go_meet
            case rel =>
              obtain ⟨h5, f5⟩ := P5.out
              obtain ⟨h6, f6⟩ := P6.out
              obtain ⟨U1, a1, a2⟩ := HPD.out.step h5 f5 h6 f6
              exact ⟨by simp, Lib.hid ⟨_, U1, by have := HU.out; omega, a2⟩⟩
          · have HS := Lib.hid (bput_full (v := v) hPD.bok hnm hzv hTl hkn hroom)
            have HD := Lib.hid fun W (h : RefB B W B most U ∧ B ≤ W.heap.size) => docput_full (v := v) h.1 h.2 hPD.two hPD.ok hUm hnm hkn hroom
            have HPD := Lib.hid hPD
            have HU := Lib.hid hUl
            unfold thVI at HS
            clear hPa hPD hzv hzs hkn hgw hTl hUm hnm hgb hgB hgd hUl hk1 hroom
            go_wp2_with fail
            refine wp_region_held_drew (S := fun V => V.cell? ⟨g, o + j * 3 + 1, none⟩ = some (.string nm) ∧ V.cell? ⟨g, o + j * 3 + 2, none⟩ = some (.int .i64 v)) (by kernel_rfl) (by exact ⟨c2, c3⟩) (fun hHeld => ?_)
            refine wpAnyH_read (i := 0) (oi := { dst := some 75, op := Go.Op.move (Go.Operand.tmp 7), type := 25, pos := "law.go:84", after := #[], guard := none }) ?_ rfl (by kernel_rfl) (by kernel_rfl) (by kernel_rfl) (fun _ _ _ h => h) (by rfl) (by assumption) ?_ ?_
            rotate_left
            · (intro w0 hS0; go_simp <;> (try with_reducible rfl))
            try simp only [Act.put, List.setIfInBounds_toArray, List.set_cons_zero, List.set_cons_succ]
            refine wpAnyH_read (i := 1) (oi := { dst := some 76, op := Go.Op.move (Go.Operand.tmp 1), type := 22, pos := "law.go:84", after := #[], guard := none }) ?_ rfl (by kernel_rfl) (by kernel_rfl) (by kernel_rfl) (fun _ _ _ h => h) (by rfl) (by assumption) ?_ ?_
            rotate_left
            · (intro w0 hS0; go_simp <;> (try with_reducible rfl))
            try simp only [Act.put, List.setIfInBounds_toArray, List.set_cons_zero, List.set_cons_succ]
            refine wpAnyH_read (i := 2) (oi := { dst := some 77, op := Go.Op.move (Go.Operand.tmp 10), type := 3, pos := "law.go:84", after := #[], guard := none }) ?_ rfl (by kernel_rfl) (by kernel_rfl) (by kernel_rfl) (fun _ _ _ h => h) (by rfl) (by assumption) ?_ ?_
            rotate_left
            · (intro w0 hS0; go_simp <;> (try with_reducible rfl))
            try simp only [Act.put, List.setIfInBounds_toArray, List.set_cons_zero, List.set_cons_succ]
            refine wpAnyH_read (i := 3) (oi := { dst := some 78, op := Go.Op.indexAddr 22 (Go.Operand.tmp 76) (Go.Operand.tmp 77), type := 0, pos := "law.go:84", after := #[{ on := 1, ground := Go.Ground.data }, { on := 2, ground := Go.Ground.data }], guard := none }) ?_ rfl (by kernel_rfl) (by kernel_rfl) (by kernel_rfl) (fun _ _ _ h => h) (by rfl) (by assumption) ?_ ?_
            rotate_left
            · (intro w0 hS0; go_simp <;> (try with_reducible rfl))
            try simp only [Act.put, List.setIfInBounds_toArray, List.set_cons_zero, List.set_cons_succ]
            refine wpAnyH_read (i := 4) (oi := { dst := some 79, op := Go.Op.fieldAddr 34 (Go.Operand.tmp 78) 1, type := 0, pos := "law.go:84", after := #[{ on := 3, ground := Go.Ground.data }], guard := none }) ?_ rfl (by kernel_rfl) (by kernel_rfl) (by kernel_rfl) (fun _ _ _ h => h) (by rfl) (by assumption) ?_ ?_
            rotate_left
            · (intro w0 hS0; go_simp <;> (try with_reducible rfl))
            try simp only [Act.put, List.setIfInBounds_toArray, List.set_cons_zero, List.set_cons_succ]
            refine wpAnyH_read (i := 6) (oi := { dst := some 81, op := Go.Op.move (Go.Operand.tmp 1), type := 22, pos := "law.go:84", after := #[], guard := none }) ?_ rfl (by kernel_rfl) (by kernel_rfl) (by kernel_rfl) (fun _ _ _ h => h) (by rfl) (by assumption) ?_ ?_
            rotate_left
            · (intro w0 hS0; go_simp <;> (try with_reducible rfl))
            try simp only [Act.put, List.setIfInBounds_toArray, List.set_cons_zero, List.set_cons_succ]
            refine wpAnyH_read (i := 7) (oi := { dst := some 82, op := Go.Op.move (Go.Operand.tmp 10), type := 3, pos := "law.go:84", after := #[], guard := none }) ?_ rfl (by kernel_rfl) (by kernel_rfl) (by kernel_rfl) (fun _ _ _ h => h) (by rfl) (by assumption) ?_ ?_
            rotate_left
            · (intro w0 hS0; go_simp <;> (try with_reducible rfl))
            try simp only [Act.put, List.setIfInBounds_toArray, List.set_cons_zero, List.set_cons_succ]
            refine wpAnyH_read (i := 8) (oi := { dst := some 83, op := Go.Op.indexAddr 22 (Go.Operand.tmp 81) (Go.Operand.tmp 82), type := 0, pos := "law.go:84", after := #[{ on := 6, ground := Go.Ground.data }, { on := 7, ground := Go.Ground.data }], guard := none }) ?_ rfl (by kernel_rfl) (by kernel_rfl) (by kernel_rfl) (fun _ _ _ h => h) (by rfl) (by assumption) ?_ ?_
            rotate_left
            · (intro w0 hS0; go_simp <;> (try with_reducible rfl))
            try simp only [Act.put, List.setIfInBounds_toArray, List.set_cons_zero, List.set_cons_succ]
            refine wpAnyH_read (i := 9) (oi := { dst := some 84, op := Go.Op.fieldAddr 34 (Go.Operand.tmp 83) 2, type := 0, pos := "law.go:84", after := #[{ on := 8, ground := Go.Ground.data }], guard := none }) ?_ rfl (by kernel_rfl) (by kernel_rfl) (by kernel_rfl) (fun _ _ _ h => h) (by rfl) (by assumption) ?_ ?_
            rotate_left
            · (intro w0 hS0; go_simp <;> (try with_reducible rfl))
            try simp only [Act.put, List.setIfInBounds_toArray, List.set_cons_zero, List.set_cons_succ]
            refine wpAnyH_read (i := 12) (oi := { dst := some 87, op := Go.Op.move (Go.Operand.tmp 9), type := 29, pos := "law.go:84", after := #[], guard := none }) ?_ rfl (by kernel_rfl) (by kernel_rfl) (by kernel_rfl) (fun _ _ _ h => h) (by rfl) (by assumption) ?_ ?_
            rotate_left
            · (intro w0 hS0; go_simp <;> (try with_reducible rfl))
            try simp only [Act.put, List.setIfInBounds_toArray, List.set_cons_zero, List.set_cons_succ]
            refine wpAnyH_read (i := 13) (oi := { dst := some 88, op := Go.Op.move (Go.Operand.tmp 1), type := 22, pos := "law.go:84", after := #[], guard := none }) ?_ rfl (by kernel_rfl) (by kernel_rfl) (by kernel_rfl) (fun _ _ _ h => h) (by rfl) (by assumption) ?_ ?_
            rotate_left
            · (intro w0 hS0; go_simp <;> (try with_reducible rfl))
            try simp only [Act.put, List.setIfInBounds_toArray, List.set_cons_zero, List.set_cons_succ]
            refine wpAnyH_read (i := 14) (oi := { dst := some 89, op := Go.Op.move (Go.Operand.tmp 10), type := 3, pos := "law.go:84", after := #[], guard := none }) ?_ rfl (by kernel_rfl) (by kernel_rfl) (by kernel_rfl) (fun _ _ _ h => h) (by rfl) (by assumption) ?_ ?_
            rotate_left
            · (intro w0 hS0; go_simp <;> (try with_reducible rfl))
            try simp only [Act.put, List.setIfInBounds_toArray, List.set_cons_zero, List.set_cons_succ]
            refine wpAnyH_read (i := 15) (oi := { dst := some 90, op := Go.Op.indexAddr 22 (Go.Operand.tmp 88) (Go.Operand.tmp 89), type := 0, pos := "law.go:84", after := #[{ on := 13, ground := Go.Ground.data }, { on := 14, ground := Go.Ground.data }], guard := none }) ?_ rfl (by kernel_rfl) (by kernel_rfl) (by kernel_rfl) (fun _ _ _ h => h) (by rfl) (by assumption) ?_ ?_
            rotate_left
            · (intro w0 hS0; go_simp <;> (try with_reducible rfl))
            try simp only [Act.put, List.setIfInBounds_toArray, List.set_cons_zero, List.set_cons_succ]
            refine wpAnyH_read (i := 16) (oi := { dst := some 91, op := Go.Op.fieldAddr 34 (Go.Operand.tmp 90) 1, type := 0, pos := "law.go:84", after := #[{ on := 15, ground := Go.Ground.data }], guard := none }) ?_ rfl (by kernel_rfl) (by kernel_rfl) (by kernel_rfl) (fun _ _ _ h => h) (by rfl) (by assumption) ?_ ?_
            rotate_left
            · (intro w0 hS0; go_simp <;> (try with_reducible rfl))
            try simp only [Act.put, List.setIfInBounds_toArray, List.set_cons_zero, List.set_cons_succ]
            refine wpAnyH_read (i := 18) (oi := { dst := some 93, op := Go.Op.move (Go.Operand.tmp 1), type := 22, pos := "law.go:84", after := #[], guard := none }) ?_ rfl (by kernel_rfl) (by kernel_rfl) (by kernel_rfl) (fun _ _ _ h => h) (by rfl) (by assumption) ?_ ?_
            rotate_left
            · (intro w0 hS0; go_simp <;> (try with_reducible rfl))
            try simp only [Act.put, List.setIfInBounds_toArray, List.set_cons_zero, List.set_cons_succ]
            refine wpAnyH_read (i := 19) (oi := { dst := some 94, op := Go.Op.move (Go.Operand.tmp 10), type := 3, pos := "law.go:84", after := #[], guard := none }) ?_ rfl (by kernel_rfl) (by kernel_rfl) (by kernel_rfl) (fun _ _ _ h => h) (by rfl) (by assumption) ?_ ?_
            rotate_left
            · (intro w0 hS0; go_simp <;> (try with_reducible rfl))
            try simp only [Act.put, List.setIfInBounds_toArray, List.set_cons_zero, List.set_cons_succ]
            refine wpAnyH_read (i := 20) (oi := { dst := some 95, op := Go.Op.indexAddr 22 (Go.Operand.tmp 93) (Go.Operand.tmp 94), type := 0, pos := "law.go:84", after := #[{ on := 18, ground := Go.Ground.data }, { on := 19, ground := Go.Ground.data }], guard := none }) ?_ rfl (by kernel_rfl) (by kernel_rfl) (by kernel_rfl) (fun _ _ _ h => h) (by rfl) (by assumption) ?_ ?_
            rotate_left
            · (intro w0 hS0; go_simp <;> (try with_reducible rfl))
            try simp only [Act.put, List.setIfInBounds_toArray, List.set_cons_zero, List.set_cons_succ]
            refine wpAnyH_read (i := 21) (oi := { dst := some 96, op := Go.Op.fieldAddr 34 (Go.Operand.tmp 95) 2, type := 0, pos := "law.go:84", after := #[{ on := 20, ground := Go.Ground.data }], guard := none }) ?_ rfl (by kernel_rfl) (by kernel_rfl) (by kernel_rfl) (fun _ _ _ h => h) (by rfl) (by assumption) ?_ ?_
            rotate_left
            · (intro w0 hS0; go_simp <;> (try with_reducible rfl))
            try simp only [Act.put, List.setIfInBounds_toArray, List.set_cons_zero, List.set_cons_succ]
            refine wpAnyH_read (i := 5) (oi := { dst := some 80, op := Go.Op.load 9 (Go.Operand.tmp 79), type := 9, pos := "law.go:84", after := #[{ on := 4, ground := Go.Ground.data }], guard := none }) ?_ rfl (by kernel_rfl) (by kernel_rfl) (by kernel_rfl) (fun _ _ _ h => h) (by rfl) (by assumption) ?_ ?_
            rotate_left
            · (intro w0 hS0; (try obtain ⟨s1, s2⟩ := hS0); go_simp <;> (try with_reducible rfl))
            try simp only [Act.put, List.setIfInBounds_toArray, List.set_cons_zero, List.set_cons_succ]
            refine wpAnyH_read (i := 10) (oi := { dst := some 85, op := Go.Op.load 3 (Go.Operand.tmp 84), type := 3, pos := "law.go:84", after := #[{ on := 9, ground := Go.Ground.data }], guard := none }) ?_ rfl (by kernel_rfl) (by kernel_rfl) (by kernel_rfl) (fun _ _ _ h => h) (by rfl) (by assumption) ?_ ?_
            rotate_left
            · (intro w0 hS0; (try obtain ⟨s1, s2⟩ := hS0); go_simp <;> (try with_reducible rfl))
            try simp only [Act.put, List.setIfInBounds_toArray, List.set_cons_zero, List.set_cons_succ]
            refine wpAnyH_read (i := 17) (oi := { dst := some 92, op := Go.Op.load 9 (Go.Operand.tmp 91), type := 9, pos := "law.go:84", after := #[{ on := 16, ground := Go.Ground.data }], guard := none }) ?_ rfl (by kernel_rfl) (by kernel_rfl) (by kernel_rfl) (fun _ _ _ h => h) (by rfl) (by assumption) ?_ ?_
            rotate_left
            · (intro w0 hS0; (try obtain ⟨s1, s2⟩ := hS0); go_simp <;> (try with_reducible rfl))
            try simp only [Act.put, List.setIfInBounds_toArray, List.set_cons_zero, List.set_cons_succ]
            refine wpAnyH_read (i := 22) (oi := { dst := some 97, op := Go.Op.load 3 (Go.Operand.tmp 96), type := 3, pos := "law.go:84", after := #[{ on := 21, ground := Go.Ground.data }], guard := none }) ?_ rfl (by kernel_rfl) (by kernel_rfl) (by kernel_rfl) (fun _ _ _ h => h) (by rfl) (by assumption) ?_ ?_
            rotate_left
            · (intro w0 hS0; (try obtain ⟨s1, s2⟩ := hS0); go_simp <;> (try with_reducible rfl))
            try simp only [Act.put, List.setIfInBounds_toArray, List.set_cons_zero, List.set_cons_succ]
            refine wpAnyH_one (i := 11) (o := { dst := some 86, op := Go.Op.call { callee := Go.Callee.value (Go.Operand.func 12), args := #[Go.Operand.tmp 75, Go.Operand.tmp 80, Go.Operand.tmp 85], argTypes := #[25, 9, 3] }, type := 26, pos := "law.go:84", after := #[{ on := 0, ground := Go.Ground.data }, { on := 5, ground := Go.Ground.data }, { on := 10, ground := Go.Ground.data }], guard := none }) (by kernel_rfl) rfl (by rfl) (fun K hK => ?_)
            go_simp
            refine HS.out.mono ?_
            rintro e w5 ⟨rfl, h5, f5⟩
            have P5 := Lib.hid (And.intro h5 f5)
            have M5 := Lib.hid (HPD.out.mid f5)
            clear h5 f5
            go_wp2_with fail
            refine hK.out _ _ ?_ (fun hHeld => ?_)
            · exact ⟨(P5.out.2.cell (p := ⟨g, o + j * 3 + 1, none⟩) HAB.out.1 HAB.out.2.1).trans hHeld.1, (P5.out.2.cell (p := ⟨g, o + j * 3 + 2, none⟩) HAB.out.1 HAB.out.2.1).trans hHeld.2⟩
            clear hK K
            try simp only [Act.put, List.setIfInBounds_toArray, List.set_cons_zero, List.set_cons_succ]
            refine wpAnyH_one (i := 23) (o := { dst := some 98, op := Go.Op.call { callee := Go.Callee.value (Go.Operand.func 13), args := #[Go.Operand.tmp 87, Go.Operand.tmp 92, Go.Operand.tmp 97], argTypes := #[29, 9, 3] }, type := 3, pos := "law.go:84", after := #[{ on := 12, ground := Go.Ground.data }, { on := 17, ground := Go.Ground.data }, { on := 22, ground := Go.Ground.data }, { on := 11, ground := Go.Ground.chain }], guard := none }) (by kernel_rfl) rfl (by rfl) (fun K hK => ?_)
            go_simp
            refine (HD.out _ M5.out).mono ?_
            rintro e w6 ⟨rfl, h6, f6⟩
            have P6 := Lib.hid (And.intro h6 f6)
            clear h6 f6
            go_wp2_with fail
            refine hK.out _ _ ?_ (fun hHeld => ?_)
            · exact ⟨(P6.out.2.cell (p := ⟨g, o + j * 3 + 1, none⟩) (Nat.lt_of_lt_of_le HAB.out.1 P5.out.2.size) HAB.out.2.2).trans hHeld.1, (P6.out.2.cell (p := ⟨g, o + j * 3 + 2, none⟩) (Nat.lt_of_lt_of_le HAB.out.1 P5.out.2.size) HAB.out.2.2).trans hHeld.2⟩
            clear hK K
            try simp only [Act.put, List.setIfInBounds_toArray, List.set_cons_zero, List.set_cons_succ]
            refine wpAnyH_read (i := 24) (oi := { dst := some 99, op := Go.Op.binOp Go.BinOp.eql 3 (Go.Operand.tmp 86) (Go.Operand.tmp 98) 3, type := 4, pos := "law.go:84", after := #[{ on := 11, ground := Go.Ground.data }, { on := 23, ground := Go.Ground.data }], guard := none }) ?_ rfl (by kernel_rfl) (by kernel_rfl) (by kernel_rfl) (fun _ _ _ h => h) (by rfl) (by assumption) ?_ ?_
            rotate_left
            · (intro w0 hS0; go_simp <;> (try with_reducible rfl))
            try simp only [Act.put, List.setIfInBounds_toArray, List.set_cons_zero, List.set_cons_succ]
            refine wpAnyH_read (i := 25) (oi := { dst := some 11, op := Go.Op.assign (Go.Operand.tmp 99), type := 4, pos := "law.go:84", after := #[{ on := 24, ground := Go.Ground.data }, { on := 23, ground := Go.Ground.chain }, { on := 0, ground := Go.Ground.phase }, { on := 1, ground := Go.Ground.phase }, { on := 2, ground := Go.Ground.phase }, { on := 3, ground := Go.Ground.phase }, { on := 4, ground := Go.Ground.phase }, { on := 5, ground := Go.Ground.phase }, { on := 6, ground := Go.Ground.phase }, { on := 7, ground := Go.Ground.phase }, { on := 8, ground := Go.Ground.phase }, { on := 9, ground := Go.Ground.phase }, { on := 10, ground := Go.Ground.phase }, { on := 11, ground := Go.Ground.phase }, { on := 12, ground := Go.Ground.phase }, { on := 13, ground := Go.Ground.phase }, { on := 14, ground := Go.Ground.phase }, { on := 15, ground := Go.Ground.phase }, { on := 16, ground := Go.Ground.phase }, { on := 17, ground := Go.Ground.phase }, { on := 18, ground := Go.Ground.phase }, { on := 19, ground := Go.Ground.phase }, { on := 20, ground := Go.Ground.phase }, { on := 21, ground := Go.Ground.phase }, { on := 22, ground := Go.Ground.phase }, { on := 23, ground := Go.Ground.phase }, { on := 24, ground := Go.Ground.phase }], guard := none }) ?_ rfl (by kernel_rfl) (by kernel_rfl) (by kernel_rfl) (fun _ _ _ h => h) (by rfl) (by assumption) ?_ ?_
            rotate_left
            · (intro w0 hS0; go_simp <;> (try with_reducible rfl))
            try simp only [Act.put, List.setIfInBounds_toArray, List.set_cons_zero, List.set_cons_succ]
            refine wpAnyH_done (by kernel_rfl) ?_ _
            go_wp2_with fail
            go_meet
            case rel =>
              obtain ⟨h5, f5⟩ := P5.out
              obtain ⟨h6, f6⟩ := P6.out
              obtain ⟨U1, a1, a2⟩ := HPD.out.step h5 f5 h6 f6
              exact ⟨by simp, Lib.hid ⟨_, U1, by have := HU.out; omega, a2⟩⟩
      case rest =>
        obtain ⟨rfl, HC0⟩ := hcut
        obtain ⟨T2, U2, hU2, hP⟩ := HC0.out
        have hnm : name.size ≤ 1000000 := by have := HM.out.2; omega
        have hTl : T2.length ≤ 1000000 := by have := hP.two.len; omega
        have hUm : U2.length ≤ 1000000 := by omega
        have hget := bok_getI hP.bok hnm
        have hnam : ∀ W, RowKit.Below wc.heap.size wc W → _ := fun W hb => bok_nameI (hP.still hb).bok hnm
        have hatx : ∀ W, RowKit.Below wc.heap.size wc W → _ := fun W hb => ref_at (hP.still hb).ref hP.ok hUm hnm
        obtain ⟨kn2, hkn2⟩ : ∃ kn2, foldL name.data.toList = kn2 := ⟨_, rfl⟩
        rw [hkn2] at hget
        simp only [hkn2] at hnam hatx
        have hlen : ∀ W, RowKit.Below wc.heap.size wc W → Calls Try.prog 17 #[.pointer (some ⟨t, 0, none⟩)] W fun e w' => e = .returned (.int .i64 U2.length) ∧ w' = W := fun W hb => by
          rw [← hP.two.len]
          exact bok_lenI (hP.still hb).bok
        have HLN := Lib.hid hlen
        have HC := Lib.hid (And.intro hU2 hP)
        have hix : (∀ e ∈ U2, e.fold ≠ kn2) ∨ ∃ i : Nat, ∃ h : i < U2.length, U2[i].fold = kn2 := by
          by_cases h : ∃ i : Nat, ∃ h : i < U2.length, U2[i].fold = kn2
          · exact .inr h
          · refine .inl fun e he hf => h ?_
            obtain ⟨i, hi, rfl⟩ := List.mem_iff_getElem.1 he
            exact ⟨i, hi, hf⟩
        rcases hix with hno | ⟨i, hi, hik⟩
        · have hlk := (hP.two.none hno).1
          rw [hlk] at hget
          simp only [hlk] at hnam
          unfold thVI zeroEI at hget
          unfold zeroEI at hnam
          dsimp only [Option.getD, Option.isSome] at hget hnam
          have HGET := Lib.hid hget
          have HNAM := Lib.hid hnam
          have HAT := Lib.hid hatx
          have HNO := Lib.hid hno
          clear hget hnam hatx hno hlk hP hU2 hlen HC0 hkn2 hnm hTl hUm c1 c2 c3
          go_wp2_with fail
          refine HGET.out.mono ?_
          rintro e w5 ⟨rfl, b5⟩
          have B5 := Lib.hid b5
          clear b5
          go_wp2_with fail
          refine (HNAM.out _ B5.out).mono ?_
          rintro e w6 ⟨rfl, b6⟩
          have B6 := Lib.hid (B5.out.trans (b6.mono B5.out.size))
          clear b6
          go_wp2_with fail
          refine (HAT.out _ B6.out).mono ?_
          rintro e w7 ⟨⟨n, rfl, hn⟩, f7⟩
          obtain rfl : n = -1 := by
            rcases hn with ⟨e, _⟩ | ⟨i2, h2, e1, e2⟩
            · exact e
            · exact absurd e2 (HNO.out _ (List.getElem_mem h2))
          have B7 := Lib.hid (B6.out.trans (f7.below B6.out.size fun _ _ e => e.elim))
          have P7 := Lib.hid (HC.out.2.still B7.out)
          clear hn f7
          obtain ⟨_, A2, c2, hx2, ho2, hx3⟩ := P7.out.ref
          have dx := blk_cell hx2 1
          have HLL := Lib.hid fun n => HLN.out (w7.drewN n) (B7.out.trans (((Fr.refl (fun _ => False) w7).drewN n).below B7.out.size fun _ _ e => e.elim))
          clear hx2 ho2 hx3
          go_wp2_with fail
          go_quiet ((go_at_call 17; exact Calls.quiet_of_same (HLL.out _)))
          go_wp2_with fail
          go_roundw
          case rel => exact ⟨j + 1, by go_num, by omega, Lib.hid ⟨T2, U2, HC.out.1, P7.out.rest ((Fr.refl (fun _ => False) _).drewN nq)⟩⟩
          case measure => simp [RowKit.intOf]; omega
        · have hlk := hP.two.some hi hik
          rw [hlk] at hget
          simp only [hlk] at hnam
          unfold thVI at hget
          dsimp only [Option.getD, Option.isSome] at hget hnam
          have HGET := Lib.hid hget
          have HNAM := Lib.hid hnam
          have HAT := Lib.hid hatx
          have HIK := Lib.hid hik
          obtain ⟨en, hen⟩ : ∃ en, U2[i] = en := ⟨_, rfl⟩
          simp only [hen] at HGET HNAM
          obtain ⟨⟨en1, en2, en3⟩, rfl⟩ : ∃ x, x = en := ⟨en, rfl⟩
          dsimp only at HGET HNAM
          have HEN := Lib.hid hen
          clear hget hnam hatx hik hlk hP hU2 hlen HC0 hkn2 hnm hTl hUm c1 c2 c3 hen
          go_wp2_with fail
          refine HGET.out.mono ?_
          rintro e w5 ⟨rfl, b5⟩
          have B5 := Lib.hid b5
          clear b5
          go_wp2_with fail
          refine (HNAM.out _ B5.out).mono ?_
          rintro e w6 ⟨rfl, b6⟩
          have B6 := Lib.hid (B5.out.trans (b6.mono B5.out.size))
          clear b6
          go_wp2_with fail
          refine (HAT.out _ B6.out).mono ?_
          rintro e w7 ⟨⟨n, rfl, hn⟩, f7⟩
          have B7 := Lib.hid (B6.out.trans (f7.below B6.out.size fun _ _ e => e.elim))
          have P7 := Lib.hid (HC.out.2.still B7.out)
          obtain ⟨i2, hi2, rfl, hTi⟩ : ∃ i2 : Nat, ∃ h : i2 < U2.length, n = i2 ∧ U2[i2] = ⟨en1, en2, en3⟩ := by
            rcases hn with ⟨_, e⟩ | ⟨i2, h2, e1, e2⟩
            · exact absurd HIK.out (e _ (List.getElem_mem hi))
            · refine ⟨i2, h2, e1, ?_⟩
              have a1 := HC.out.2.two.some h2 e2
              have a2 := HC.out.2.two.some hi HIK.out
              rw [a1] at a2
              rw [Option.some.inj a2]
              exact HEN.out
          clear hn f7
          obtain ⟨_, A2, c2, hx2, ho2, hx3⟩ := P7.out.ref
          obtain ⟨g2, o2, rfl, hg2, hc2⟩ := reads_ownU ho2 (by omega)
          obtain ⟨d1, d2⟩ := hc2 i2 hi2
          rw [hTi] at d1 d2
          dsimp only at d1 d2
          have dx := blk_cell hx2 1
          have HLL := Lib.hid fun n => HLN.out (w7.drewN n) (B7.out.trans (((Fr.refl (fun _ => False) w7).drewN n).below B7.out.size fun _ _ e => e.elim))
          have p5 : (i2 : Int) < (U2.length : Int) := by omega
          have r5 : (0 : Int) ≤ (i2 : Int) := by omega
          have r6 : (i2 : Int) ≥ 0 := by omega
          clear hx2 ho2 hx3 hc2 hg2 hTi
          go_wp2_with fail
          go_quiet ((go_at_call 17; exact Calls.quiet_of_same (HLL.out _)))
          go_wp2_with fail
          go_roundw
          case rel => exact ⟨j + 1, by go_num, by omega, Lib.hid ⟨T2, U2, HC.out.1, P7.out.rest ((Fr.refl (fun _ => False) _).drewN nq)⟩⟩
          case measure => simp [RowKit.intOf]; omega
    · obtain rfl : j = l.length := by omega
      have p1 : ¬ ((l.length : Int) < (l.length : Int)) := by omega
      have hP := HP.out.2
      have hUm : U.length ≤ 1000000 := by have := HP.out.1; omega
      have hTl : T.length ≤ 1000000 := by have := hP.two.len; omega
      have hnm : name.size ≤ 1000000 := by have := HM.out.2; omega
      have HF1 := Lib.hid (ref_from_all hP.ref hP.ok hP.two.folds hUm (name := ⟨#[]⟩) (by decide) rfl)
      have HF2 := Lib.hid fun W (hb : RowKit.Below wr.heap.size wr W) => ref_from_one (hP.still hb).ref hP.ok hP.two.folds hUm hnm rfl
      have HS1 := Lib.hid fun W (hb : RowKit.Below wr.heap.size wr W) A c hr => same02_all (w := W) (p := some ⟨t, 0, none⟩) (R := rowU [] U) (Rf := rowU (foldL (⟨#[]⟩ : ByteArray).data.toList) U) (name := ⟨#[]⟩) (fun V hf => tale_from ((hP.still hb).rest hf).bok hP.two hTl (by decide)) (fun V hf => tale_all ((hP.still hb).rest hf).bok hP.two hTl) (Nat.le_trans (rowU_len _ _) hUm) A c hr
      have HS2 := Lib.hid fun W (hb : RowKit.Below wr.heap.size wr W) A c hr => same02_from (w := W) (p := some ⟨t, 0, none⟩) (R := rowU (foldL name.data.toList) U) (name := name) (fun V hf => tale_from ((hP.still hb).rest hf).bok hP.two hTl hnm) (Nat.le_trans (rowU_len _ _) hUm) A c hr
      have HPP := Lib.hid hP
      clear hP hUm hTl hnm
      go_wp2_with fail
      refine HF1.out.mono ?_
      rintro e w5 ⟨⟨A5, c5, rfl, o5⟩, b5⟩
      have B5 := Lib.hid b5
      have O5 := Lib.hid (reads_ownU o5)
      clear b5 o5
      go_wp2_with fail
      refine (HS1.out _ B5.out _ _ O5.out).mono ?_
      rintro e w6 ⟨rfl, f6⟩
      have B6 := Lib.hid (B5.out.trans (f6.below B5.out.size fun _ _ e => e.elim))
      clear f6
      go_wp2_with fail
      refine (HF2.out _ B6.out).mono ?_
      rintro e w7 ⟨⟨A7, c7, rfl, o7⟩, b7⟩
      have B7 := Lib.hid (B6.out.trans (b7.mono B6.out.size))
      have O7 := Lib.hid (reads_ownU o7)
      clear b7 o7
      go_wp2_with fail
      refine (HS2.out _ B7.out _ _ O7.out).mono ?_
      rintro e w8 ⟨rfl, f8⟩
      have B8 := Lib.hid (B7.out.trans (f8.below B7.out.size fun _ _ e => e.elim))
      clear f8
      go_wp2_with fail
      go_ret
      exact ⟨rfl, (HPP.out.still B8.out).below⟩
end Go.Proofs.Ytfdaeajafmcjcaa
