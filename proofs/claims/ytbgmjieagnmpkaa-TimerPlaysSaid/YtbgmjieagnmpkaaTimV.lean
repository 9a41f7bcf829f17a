/- Layer 9: TimerPlays: the main walk. -/
import Derived.Test.YtbgmjieagnmpkaaTimU
import Derived.Test.YtbgmjieagnmpkaaTimIS
import Derived.Deep.CutRange
import Derived.Deep.CutBlock
import Derived.OpenShut
namespace Go.Proofs.Ytbgmjieagnmpkaa
set_option linter.unusedVariables false
set_option linter.unusedSimpArgs false
open Go Go.RowKit Go.Maps Go.Sort Go.Shelf Go.Lib

theorem next_due {T ys : List (KeyS × Int)} (hnd : (T.map (·.1)).Nodup) (hys : ys.Perm T) {M : Int} (hM : ∀ p ∈ T, p.2 ≤ M) : (minTS ys = none ∧ dueMS T M = []) ∨ ∃ kp ap rest, minTS ys = some (kp, ap) ∧ dueMS T M = (kp, ap) :: rest := by
  cases hm : minTS ys with
  | none =>
    have h1 := (minTS_none ys).1 hm
    subst h1
    have h2 := List.nil_perm.1 hys
    subst h2
    exact .inl ⟨rfl, List.eq_nil_of_length_eq_zero (Nat.le_zero.1 (dueMS_len [] M))⟩
  | some p =>
    obtain ⟨h1, h2⟩ := minTS_some ys p hm
    have h3 : p ∈ dueMS T M := dueMS_mem.2 ⟨hys.mem_iff.1 h1, hM p (hys.mem_iff.1 h1)⟩
    have hpw := dueMS_rise hnd M
    refine .inr ?_
    cases hD : dueMS T M with
    | nil => rw [hD] at h3; cases h3
    | cons d r =>
      have hd : d ∈ T := (dueMS_mem.1 (by rw [hD]; exact List.mem_cons_self : d ∈ dueMS T M)).1
      rw [hD] at h3 hpw
      rw [List.pairwise_cons] at hpw
      rw [List.mem_cons] at h3
      rcases h3 with rfl | h3
      · exact ⟨p.1, p.2, r, rfl, rfl⟩
      · exact absurd (hpw.1 p h3) (h2 d (hys.mem_iff.2 hd))
theorem undrew {W W' : World} (h : RowKit.Below W.drew.heap.size W.drew W') : RowKit.Below W.heap.size W W' := ⟨h.os, h.tape, h.output, h.size, h.block⟩
set_option maxRecDepth 100000 in
set_option maxHeartbeats 16000000 in
theorem timerPlays_main (A : Option Addr) (l : List zacT) (cc : Nat) (now : Int) (w : World) (hg : greatT l = false) (hA : ActQ w A l) :
    Calls Try.prog 3 #[.slice A l.length cc, .int .i64 now] w fun e w' => e = .returned (.bool true) ∧ RowKit.Below w.heap.size w w' := by
  have mixed : (Try.prog).follows Departure.mixedOrders = true := by kernel_rfl
  have hl : l.length ≤ 40 := by
    unfold greatT at hg
    simp at hg
    omega
  have HA := Lib.hid hA
  have HG := Lib.hid hg
  clear hA hg
  go_enter Try.func3, Try.ntmps3
  go_wp2_with fail
  refine (awake9 w).mono ?_
  rintro e w1 ⟨rfl, b1⟩
  have B1 := Lib.hid b1
  clear b1
  go_wp2_with fail
  refine (great9 HA.out w1 B1.out).mono ?_
  rintro e w2 ⟨rfl, rfl⟩
  rw [HG.out]
  go_wp2_with fail
  refine (tim_newS _).mono ?_
  rintro e W1 ⟨t, b, rfl, h1, b1⟩
  have H1 := Lib.hid (And.intro h1 b1)
  clear h1 b1
  go_wp2_with fail
  obtain ⟨W2, hW2⟩ : ∃ W2, W1.alloc (.cells #[.slice none 0 0] 30) = W2 := ⟨_, rfl⟩
  rw [hW2]
  have H0 : Hid (PlayG w t b W1.heap.size W1.heap.size [] [] W2) := playG_start B1.out H1.out.1 H1.out.2 hW2.symm
  obtain ⟨B, hB⟩ : ∃ B, W1.heap.size = B := ⟨_, rfl⟩
  rw [hB] at H0 ⊢
  clear hW2 hB H1
  go_loopw [7] (fun i wr => ∃ (j : Nat) (T : List (KeyS × Int)), i = .int .i64 j ∧ j ≤ l.length ∧ Hid (T.length ≤ j ∧ PlayG w t b B B T T wr)) (fun i _ => l.length - (RowKit.intOf i).toNat)
  case atStart => exact ⟨0, [], rfl, Nat.zero_le _, Nat.le_refl _, H0⟩
  case round =>
    obtain ⟨j, T, rfl, hj, HP⟩ := hrel
    clear H0
    by_cases hlt : j < l.length
    · obtain ⟨g, o, rfl, hat⟩ := actQ_at HA.out (by omega)
      obtain ⟨c1, c2, c3⟩ := hat wr HP.out.2.below j hlt
      have p0 : (j : Int) < (l.length : Int) := by omega
      have r0 : (0 : Int) ≤ (j : Int) := by omega
      obtain ⟨⟨kd, ks, at_⟩, hlj⟩ : ∃ p, l[j] = p := ⟨_, rfl⟩
      rw [hlj] at c1 c2 c3
      have HJ := Lib.hid hlj
      clear hat hlj
      dsimp only at c1 c2 c3
      have HL := Lib.hid (And.intro HP.out.1 HP.out.2)
      go_upto_block 2 with fail
      obtain ⟨ab, hab⟩ : ∃ ab, wr.heap.size = ab := ⟨_, rfl⟩
      obtain ⟨Wa, hWa⟩ : ∃ Wa, wr.alloc (Obj.cells #[Value.int IntKind.i64 kd, Value.string ks, Value.int IntKind.i64 at_] 32) = Wa := ⟨_, rfl⟩
      have ha : Wa.heap[ab]? = some (.cells #[Value.int IntKind.i64 kd, Value.string ks, Value.int IntKind.i64 at_] 32 (0, 0)) := by rw [← hWa, ← hab]; exact heap_alloc_new wr _
      have hPa : PlayG w t b B B T T Wa := HP.out.2.rest (by rw [← hWa]; exact (Fr.refl _ wr).alloc _)
      have hab1 : B < ab ∧ b < ab := by rw [← hab]; exact ⟨HP.out.2.lt.2.2, HP.out.2.lt.2.1⟩
      rw [hWa, hab]
      have HW := Lib.hid (And.intro ha (And.intro hPa hab1))
      clear ha hPa hab1 hab hWa c1 c2 c3
      go_cut [9, 10, 11] from 26 to 155 (fun _ _ _ wc => Hid (∃ T2 : List (KeyS × Int), T2.length ≤ j + 1 ∧ PlayG w t b B B T2 T2 wc ∧ wc.heap[ab]? = some (.cells #[Value.int IntKind.i64 kd, Value.string ks, Value.int IntKind.i64 at_] 32 (0, 0))))
      case first =>
        obtain ⟨ha, hPa, hab1⟩ := HW.out
        obtain ⟨kl, rfl⟩ : ∃ kl, ks = bs kl := ⟨ks.data.toList, rfl⟩
        have hTl := HL.out.1
        have hPD := hPa.rest ((Fr.refl (fun _ => False) Wa).drew)
        have hnd := hPa.nodup
        have hza := blk_lt ha
        have hzg := HA.out.1 _ (List.getElem_mem hlt)
        rw [HJ.out] at hzg
        obtain ⟨_, hz2, hz3⟩ := hzg
        have hok : OkKS kl := by unfold OkKS; simpa using hz2
        by_cases hk1 : kd = 1
        · subst hk1
          have HS := Lib.hid (tim_stopS hPD.tab hok)
          have HPD := Lib.hid hPD
          have HAB : Hid (ab < Wa.drew.heap.size ∧ ¬ ab = b ∧ ¬ ab = B) := ⟨hza, by omega, by omega⟩
          have HND : Hid ((T.map (·.1)).Nodup ∧ T.length ≤ 1000000) := ⟨hnd, by omega⟩
          unfold kVS at HS
          clear hPa hPD hnd hza hab1 hz2 hz3 hok
          go_wp2_with fail
          refine wp_region_held_drew (S := fun V => V.cell? ⟨ab, 1, none⟩ = some (.string (bs kl))) (by kernel_rfl) (by exact blk_cell ha 1) (fun hHeld => ?_)
          refine wpAnyH_read (i := 0) (oi := { dst := some 52, op := Go.Op.move (Go.Operand.tmp 5), type := 25, pos := "law.go:72", after := #[], guard := none }) ?_ rfl (by kernel_rfl) (by kernel_rfl) (by kernel_rfl) (fun _ _ _ h => h) (by rfl) (by assumption) ?_ ?_
          rotate_left
          · (intro w0 hS0; go_simp <;> (try with_reducible rfl))
          try simp only [Act.put, List.setIfInBounds_toArray, List.set_cons_zero, List.set_cons_succ]
          refine wpAnyH_read (i := 1) (oi := { dst := some 53, op := Go.Op.fieldAddr 32 (Go.Operand.tmp 8) 1, type := 0, pos := "law.go:72", after := #[], guard := none }) ?_ rfl (by kernel_rfl) (by kernel_rfl) (by kernel_rfl) (fun _ _ _ h => h) (by rfl) (by assumption) ?_ ?_
          rotate_left
          · (intro w0 hS0; go_simp <;> (try with_reducible rfl))
          try simp only [Act.put, List.setIfInBounds_toArray, List.set_cons_zero, List.set_cons_succ]
          refine wpAnyH_read (i := 4) (oi := { dst := some 56, op := Go.Op.move (Go.Operand.tmp 6), type := 27, pos := "law.go:72", after := #[], guard := none }) ?_ rfl (by kernel_rfl) (by kernel_rfl) (by kernel_rfl) (fun _ _ _ h => h) (by rfl) (by assumption) ?_ ?_
          rotate_left
          · (intro w0 hS0; go_simp <;> (try with_reducible rfl))
          try simp only [Act.put, List.setIfInBounds_toArray, List.set_cons_zero, List.set_cons_succ]
          refine wpAnyH_read (i := 5) (oi := { dst := some 57, op := Go.Op.fieldAddr 32 (Go.Operand.tmp 8) 1, type := 0, pos := "law.go:72", after := #[], guard := none }) ?_ rfl (by kernel_rfl) (by kernel_rfl) (by kernel_rfl) (fun _ _ _ h => h) (by rfl) (by assumption) ?_ ?_
          rotate_left
          · (intro w0 hS0; go_simp <;> (try with_reducible rfl))
          try simp only [Act.put, List.setIfInBounds_toArray, List.set_cons_zero, List.set_cons_succ]
          refine wpAnyH_read (i := 2) (oi := { dst := some 54, op := Go.Op.load 9 (Go.Operand.tmp 53), type := 9, pos := "law.go:72", after := #[{ on := 1, ground := Go.Ground.data }], guard := none }) ?_ rfl (by kernel_rfl) (by kernel_rfl) (by kernel_rfl) (fun _ _ _ h => h) (by rfl) (by assumption) ?_ ?_
          rotate_left
          · (intro w0 hS0; go_simp <;> (try with_reducible rfl))
          try simp only [Act.put, List.setIfInBounds_toArray, List.set_cons_zero, List.set_cons_succ]
          refine wpAnyH_read (i := 6) (oi := { dst := some 58, op := Go.Op.load 9 (Go.Operand.tmp 57), type := 9, pos := "law.go:72", after := #[{ on := 5, ground := Go.Ground.data }], guard := none }) ?_ rfl (by kernel_rfl) (by kernel_rfl) (by kernel_rfl) (fun _ _ _ h => h) (by rfl) (by assumption) ?_ ?_
          rotate_left
          · (intro w0 hS0; go_simp <;> (try with_reducible rfl))
          try simp only [Act.put, List.setIfInBounds_toArray, List.set_cons_zero, List.set_cons_succ]
          refine wpAnyH_one (i := 3) (o := { dst := some 55, op := Go.Op.call { callee := Go.Callee.value (Go.Operand.func 12), args := #[Go.Operand.tmp 52, Go.Operand.tmp 54], argTypes := #[25, 9] }, type := 4, pos := "law.go:72", after := #[{ on := 0, ground := Go.Ground.data }, { on := 2, ground := Go.Ground.data }], guard := none }) (by kernel_rfl) rfl (by rfl) (fun K hK => ?_)
          go_simp
          refine HS.out.mono ?_
          rintro e w5 ⟨rfl, h5, f5⟩
          have P5 := Lib.hid (HPD.out.tim h5 f5)
          have s5 := f5.cell (p := ⟨ab, 1, none⟩) HAB.out.1 HAB.out.2.1
          have F5 := Lib.hid f5
          clear h5 f5
          go_wp2_with fail
          refine hK.out _ _ ?_ (fun hHeld => ?_)
          · exact s5.trans hHeld
          clear hK K
          try simp only [Act.put, List.setIfInBounds_toArray, List.set_cons_zero, List.set_cons_succ]
          clear s5
          refine wpAnyH_one (i := 7) (o := { dst := some 59, op := Go.Op.call { callee := Go.Callee.value (Go.Operand.func 13), args := #[Go.Operand.tmp 56, Go.Operand.tmp 58], argTypes := #[27, 9] }, type := 4, pos := "law.go:72", after := #[{ on := 4, ground := Go.Ground.data }, { on := 6, ground := Go.Ground.data }, { on := 3, ground := Go.Ground.chain }], guard := none }) (by kernel_rfl) rfl (by rfl) (fun K hK => ?_)
          go_simp
          refine (ref_stop P5.out.ref P5.out.Bw HND.out.1 HND.out.2 kl).mono ?_
          rintro e w6 ⟨rfl, h6, f6⟩
          have P6 := Lib.hid (P5.out.doc h6 f6)
          have s6 := f6.cell (p := ⟨ab, 1, none⟩) (Nat.lt_of_lt_of_le HAB.out.1 F5.out.size) HAB.out.2.2
          have F6 := Lib.hid f6
          clear h6 f6
          go_wp2_with fail
          refine hK.out _ _ ?_ (fun hHeld => ?_)
          · exact s6.trans hHeld
          clear hK K
          try simp only [Act.put, List.setIfInBounds_toArray, List.set_cons_zero, List.set_cons_succ]
          clear s6
          refine wpAnyH_read (i := 8) (oi := { dst := some 60, op := Go.Op.binOp Go.BinOp.neq 4 (Go.Operand.tmp 55) (Go.Operand.tmp 59) 4, type := 4, pos := "law.go:72", after := #[{ on := 3, ground := Go.Ground.data }, { on := 7, ground := Go.Ground.data }], guard := none }) ?_ rfl (by kernel_rfl) (by kernel_rfl) (by kernel_rfl) (fun _ _ _ h => h) (by rfl) (by assumption) ?_ ?_
          rotate_left
          · (intro w0 hS0; go_simp <;> (try with_reducible rfl))
          try simp only [Act.put, List.setIfInBounds_toArray, List.set_cons_zero, List.set_cons_succ]
          refine wpAnyH_done (by kernel_rfl) ?_ _
          go_wp2_with fail
          go_meet
          case rel =>
            exact ⟨_, Nat.le_trans (len_delM_le T kl) (by have := HL.out.1; omega), P6.out, F6.out.blk (F5.out.blk (blk_drew ha) HAB.out.2.1) HAB.out.2.2⟩
        · have q1 : (kd == 1) = false := by simpa using hk1
          by_cases hk2 : kd = 2
          · subst hk2
            obtain ⟨D, hD⟩ : ∃ D, dueMS T at_ = D := ⟨_, rfl⟩
            have hDl : D.length ≤ 1000000 := by have := dueMS_len T at_; rw [hD] at this; omega
            have htk : Calls Try.prog 14 #[.pointer (some ⟨t, 0, none⟩), .int .i64 at_] Wa.drew fun e w' => (∃ A5 c5, e = .returned (.slice A5 D.length c5) ∧ OwnKS Wa.heap.size w' (.slice A5 D.length c5) (D.map (·.1))) ∧ TabS w.heap.size w' t b (T.filter fun p => decide (at_ < p.2)) ∧ Fr (fun j => j = b) Wa.drew w' :=
              (tim_takeS hPD.tab (by omega) at_).mono fun e w' ⟨⟨v, h1, h2⟩, h3, h4⟩ => by
                rw [hD] at h2
                obtain ⟨A5, c5, rfl⟩ := row_slice h2
                rw [List.length_map] at h1 h2
                exact ⟨⟨A5, c5, h1, h2⟩, h3, h4⟩
            have HS := Lib.hid htk
            have HPD := Lib.hid hPD
            have HAB : Hid (ab < Wa.drew.heap.size ∧ ¬ ab = b ∧ ¬ ab = B) := ⟨hza, by omega, by omega⟩
            have HND : Hid ((T.map (·.1)).Nodup ∧ T.length ≤ 1000000) := ⟨hnd, by omega⟩
            have HDD := Lib.hid hD
            obtain ⟨T5, hT5⟩ : ∃ T5, (T.filter fun p => decide (at_ < p.2)) = T5 := ⟨_, rfl⟩
            rw [hT5] at HS
            have HT5 := Lib.hid hT5
            clear hPa hPD hnd hza hab1 hz2 hz3 hok htk hD hT5
            go_wp2_with fail
            refine wp_region_held_drew (S := fun V => V.cell? ⟨ab, 2, none⟩ = some (.int .i64 at_)) (by kernel_rfl) (by exact blk_cell ha 2) (fun hHeld => ?_)
            refine wpAnyH_read (i := 0) (oi := { dst := some 63, op := Go.Op.move (Go.Operand.tmp 5), type := 25, pos := "law.go:76", after := #[], guard := none }) ?_ rfl (by kernel_rfl) (by kernel_rfl) (by kernel_rfl) (fun _ _ _ h => h) (by rfl) (by assumption) ?_ ?_
            rotate_left
            · (intro w0 hS0; go_simp <;> (try with_reducible rfl))
            try simp only [Act.put, List.setIfInBounds_toArray, List.set_cons_zero, List.set_cons_succ]
            refine wpAnyH_read (i := 1) (oi := { dst := some 64, op := Go.Op.fieldAddr 32 (Go.Operand.tmp 8) 2, type := 0, pos := "law.go:76", after := #[], guard := none }) ?_ rfl (by kernel_rfl) (by kernel_rfl) (by kernel_rfl) (fun _ _ _ h => h) (by rfl) (by assumption) ?_ ?_
            rotate_left
            · (intro w0 hS0; go_simp <;> (try with_reducible rfl))
            try simp only [Act.put, List.setIfInBounds_toArray, List.set_cons_zero, List.set_cons_succ]
            refine wpAnyH_read (i := 4) (oi := { dst := some 67, op := Go.Op.move (Go.Operand.tmp 6), type := 27, pos := "law.go:76", after := #[], guard := none }) ?_ rfl (by kernel_rfl) (by kernel_rfl) (by kernel_rfl) (fun _ _ _ h => h) (by rfl) (by assumption) ?_ ?_
            rotate_left
            · (intro w0 hS0; go_simp <;> (try with_reducible rfl))
            try simp only [Act.put, List.setIfInBounds_toArray, List.set_cons_zero, List.set_cons_succ]
            refine wpAnyH_read (i := 5) (oi := { dst := some 68, op := Go.Op.fieldAddr 32 (Go.Operand.tmp 8) 2, type := 0, pos := "law.go:76", after := #[], guard := none }) ?_ rfl (by kernel_rfl) (by kernel_rfl) (by kernel_rfl) (fun _ _ _ h => h) (by rfl) (by assumption) ?_ ?_
            rotate_left
            · (intro w0 hS0; go_simp <;> (try with_reducible rfl))
            try simp only [Act.put, List.setIfInBounds_toArray, List.set_cons_zero, List.set_cons_succ]
            refine wpAnyH_read (i := 2) (oi := { dst := some 65, op := Go.Op.load 3 (Go.Operand.tmp 64), type := 3, pos := "law.go:76", after := #[{ on := 1, ground := Go.Ground.data }], guard := none }) ?_ rfl (by kernel_rfl) (by kernel_rfl) (by kernel_rfl) (fun _ _ _ h => h) (by rfl) (by assumption) ?_ ?_
            rotate_left
            · (intro w0 hS0; go_simp <;> (try with_reducible rfl))
            try simp only [Act.put, List.setIfInBounds_toArray, List.set_cons_zero, List.set_cons_succ]
            refine wpAnyH_read (i := 6) (oi := { dst := some 69, op := Go.Op.load 3 (Go.Operand.tmp 68), type := 3, pos := "law.go:76", after := #[{ on := 5, ground := Go.Ground.data }], guard := none }) ?_ rfl (by kernel_rfl) (by kernel_rfl) (by kernel_rfl) (fun _ _ _ h => h) (by rfl) (by assumption) ?_ ?_
            rotate_left
            · (intro w0 hS0; go_simp <;> (try with_reducible rfl))
            try simp only [Act.put, List.setIfInBounds_toArray, List.set_cons_zero, List.set_cons_succ]
            refine wpAnyH_one (i := 3) (o := { dst := some 66, op := Go.Op.call { callee := Go.Callee.value (Go.Operand.func 14), args := #[Go.Operand.tmp 63, Go.Operand.tmp 65], argTypes := #[25, 3] }, type := 34, pos := "law.go:76", after := #[{ on := 0, ground := Go.Ground.data }, { on := 2, ground := Go.Ground.data }], guard := none }) (by kernel_rfl) rfl (by rfl) (fun K hK => ?_)
            go_simp
            refine HS.out.mono ?_
            rintro e w5 ⟨⟨A5, c5, rfl, o5⟩, h5, f5⟩
            have P5 := Lib.hid (HPD.out.tim h5 f5)
            have s5 := f5.cell (p := ⟨ab, 2, none⟩) HAB.out.1 HAB.out.2.1
            have F5 := Lib.hid (And.intro f5 o5)
            clear h5 f5 o5
            go_wp2_with fail
            refine hK.out _ _ ?_ (fun hHeld => ?_)
            · exact s5.trans hHeld
            clear hK K
            try simp only [Act.put, List.setIfInBounds_toArray, List.set_cons_zero, List.set_cons_succ]
            clear s5
            refine wpAnyH_one (i := 7) (o := { dst := some 70, op := Go.Op.call { callee := Go.Callee.value (Go.Operand.func 15), args := #[Go.Operand.tmp 67, Go.Operand.tmp 69], argTypes := #[27, 3] }, type := 28, pos := "law.go:76", after := #[{ on := 4, ground := Go.Ground.data }, { on := 6, ground := Go.Ground.data }, { on := 3, ground := Go.Ground.chain }], guard := none }) (by kernel_rfl) rfl (by rfl) (fun K hK => ?_)
            go_simp
            refine (ref_due P5.out.ref HND.out.1 HND.out.2 at_).mono ?_
            rintro e w6 ⟨⟨A6, c6, rfl, o6⟩, b6⟩
            rw [HDD.out] at o6 ⊢
            have P6 := Lib.hid (P5.out.still b6)
            have s6 := (Fr.of_below b6).cell (X := fun _ => False) (p := ⟨ab, 2, none⟩) (Nat.lt_of_lt_of_le HAB.out.1 F5.out.1.size) (fun e => e)
            have F6 := Lib.hid (And.intro b6 o6)
            clear b6 o6
            go_wp2_with fail
            refine hK.out _ _ ?_ (fun hHeld => ?_)
            · exact s6.trans hHeld
            clear hK K
            try simp only [Act.put, List.setIfInBounds_toArray, List.set_cons_zero, List.set_cons_succ]
            clear s6
            refine wpAnyH_read (i := 8) (oi := { dst := some 9, op := Go.Op.assign (Go.Operand.tmp 66), type := 34, pos := "law.go:76", after := #[{ on := 3, ground := Go.Ground.data }, { on := 7, ground := Go.Ground.chain }, { on := 0, ground := Go.Ground.phase }, { on := 1, ground := Go.Ground.phase }, { on := 2, ground := Go.Ground.phase }, { on := 3, ground := Go.Ground.phase }, { on := 4, ground := Go.Ground.textOnly Go.Departure.lateStores }, { on := 5, ground := Go.Ground.textOnly Go.Departure.lateStores }, { on := 6, ground := Go.Ground.textOnly Go.Departure.lateStores }, { on := 7, ground := Go.Ground.textOnly Go.Departure.lateStoresUnsure }], guard := none }) ?_ rfl (by kernel_rfl) (by kernel_rfl) (by kernel_rfl) (fun _ _ _ h => h) (by rfl) (by assumption) ?_ ?_
            rotate_left
            · (intro w0 hS0; go_simp <;> (try with_reducible rfl))
            try simp only [Act.put, List.setIfInBounds_toArray, List.set_cons_zero, List.set_cons_succ]
            refine wpAnyH_read (i := 9) (oi := { dst := some 10, op := Go.Op.assign (Go.Operand.tmp 70), type := 28, pos := "law.go:76", after := #[{ on := 7, ground := Go.Ground.data }, { on := 8, ground := Go.Ground.chain }, { on := 0, ground := Go.Ground.phase }, { on := 1, ground := Go.Ground.phase }, { on := 2, ground := Go.Ground.phase }, { on := 3, ground := Go.Ground.phase }, { on := 4, ground := Go.Ground.phase }, { on := 5, ground := Go.Ground.phase }, { on := 6, ground := Go.Ground.phase }, { on := 7, ground := Go.Ground.phase }, { on := 8, ground := Go.Ground.phase }], guard := none }) ?_ rfl (by kernel_rfl) (by kernel_rfl) (by kernel_rfl) (fun _ _ _ h => h) (by rfl) (by assumption) ?_ ?_
            rotate_left
            · (intro w0 hS0; go_simp <;> (try with_reducible rfl))
            try simp only [Act.put, List.setIfInBounds_toArray, List.set_cons_zero, List.set_cons_succ]
            refine wpAnyH_done (by kernel_rfl) ?_ _
            go_wp2_with fail
            go_loopw [11] (fun k V => ∃ q : Nat, k = .int .i64 q ∧ q ≤ D.length ∧ Hid (PlayG w t b B B T5 (remMS T (D.take q)) V ∧ Fr (fun i => i = B) w6 V)) (fun k _ => D.length - (RowKit.intOf k).toNat)
            case atStart => exact ⟨0, rfl, Nat.zero_le _, by rw [List.take_zero, remMS_nil]; exact Lib.hid ⟨P6.out, Fr.refl _ _⟩⟩
            case round =>
              obtain ⟨q, rfl, hq, HQ⟩ := hrel
              by_cases hqlt : q < D.length
              · obtain ⟨g5, p5, rfl, hg5, hc5⟩ := readsK_of F5.out.2 (by rw [List.length_map]; omega)
                have hb5 : Wa.heap.size ≤ g5 := (F5.out.2.lt g5 rfl).1
                obtain ⟨g6, p6, rfl, hg6, hc6⟩ := reads_ownFS F6.out.2 (by omega)
                have hb6 : w5.heap.size ≤ g6 := (F6.out.2.lt g6 rfl).1
                have hB5 : B < Wa.heap.size := HPD.out.lt.2.2
                have hB6 := P5.out.lt.2.2
                obtain ⟨⟨kq, aq⟩, hDq⟩ : ∃ p, D[q] = p := ⟨_, rfl⟩
                have e5 : wr.cell? ⟨g5, p5 + q, none⟩ = some (.string (bs kq)) := by
                  have h1 := hc5 q (by rw [List.length_map]; exact hqlt)
                  rw [List.getElem_map, hDq] at h1
                  rw [HQ.out.2.cell (p := ⟨g5, p5 + q, none⟩) (Nat.lt_of_lt_of_le hg5 F6.out.1.size) (by show ¬ g5 = B; omega), (Fr.of_below F6.out.1).cell (X := fun _ => False) (p := ⟨g5, p5 + q, none⟩) hg5 fun e => e]
                  exact h1
                have e6 : wr.cell? ⟨g6, p6 + q * 2, none⟩ = some (.string (bs kq)) := by
                  have h1 := (hc6 q hqlt).1
                  rw [hDq] at h1
                  rw [HQ.out.2.cell (p := ⟨g6, p6 + q * 2, none⟩) hg6 (by show ¬ g6 = B; omega)]
                  exact h1
                have p0 : (q : Int) < (D.length : Int) := by omega
                have r0 : (0 : Int) ≤ (q : Int) := by omega
                have HQQ : Hid (remMS T (D.take (q + 1)) = delM (remMS T (D.take q)) kq) := by rw [List.take_succ_eq_append_getElem hqlt, hDq]; exact remMS_snoc _ _ _
                have HQ2 : Hid (PlayG w t b B B T5 (remMS T (D.take q)) wr.drew ∧ Fr (fun i => i = B) w6 wr.drew) := ⟨HQ.out.1.rest ((Fr.refl (fun _ => False) wr).drew), HQ.out.2.drew⟩
                clear hg5 hc5 hb5 hg6 hc6 hb6 hB5 hB6 hDq HQ
                go_wp2_with fail
                refine wp_region_held_drew (S := fun V => V.cell? ⟨g5, p5 + q, none⟩ = some (.string (bs kq)) ∧ V.cell? ⟨g6, p6 + q * 2, none⟩ = some (.string (bs kq))) (by kernel_rfl) (by exact ⟨e5, e6⟩) (fun hHeld => ?_)
                refine wpAnyH_read (i := 0) (oi := { dst := some 82, op := Go.Op.move (Go.Operand.tmp 9), type := 34, pos := "law.go:81", after := #[], guard := none }) ?_ rfl (by kernel_rfl) (by kernel_rfl) (by kernel_rfl) (fun _ _ _ h => h) (by rfl) (by assumption) ?_ ?_
                rotate_left
                · (intro w0 hS0; go_simp <;> (try with_reducible rfl))
                try simp only [Act.put, List.setIfInBounds_toArray, List.set_cons_zero, List.set_cons_succ]
                refine wpAnyH_read (i := 1) (oi := { dst := some 83, op := Go.Op.move (Go.Operand.tmp 11), type := 3, pos := "law.go:81", after := #[], guard := none }) ?_ rfl (by kernel_rfl) (by kernel_rfl) (by kernel_rfl) (fun _ _ _ h => h) (by rfl) (by assumption) ?_ ?_
                rotate_left
                · (intro w0 hS0; go_simp <;> (try with_reducible rfl))
                try simp only [Act.put, List.setIfInBounds_toArray, List.set_cons_zero, List.set_cons_succ]
                refine wpAnyH_read (i := 2) (oi := { dst := some 84, op := Go.Op.indexAddr 34 (Go.Operand.tmp 82) (Go.Operand.tmp 83), type := 0, pos := "law.go:81", after := #[{ on := 0, ground := Go.Ground.data }, { on := 1, ground := Go.Ground.data }], guard := none }) ?_ rfl (by kernel_rfl) (by kernel_rfl) (by kernel_rfl) (fun _ _ _ h => h) (by rfl) (by assumption) ?_ ?_
                rotate_left
                · (intro w0 hS0; go_simp <;> (try with_reducible rfl))
                try simp only [Act.put, List.setIfInBounds_toArray, List.set_cons_zero, List.set_cons_succ]
                refine wpAnyH_read (i := 4) (oi := { dst := some 86, op := Go.Op.move (Go.Operand.tmp 10), type := 28, pos := "law.go:81", after := #[], guard := none }) ?_ rfl (by kernel_rfl) (by kernel_rfl) (by kernel_rfl) (fun _ _ _ h => h) (by rfl) (by assumption) ?_ ?_
                rotate_left
                · (intro w0 hS0; go_simp <;> (try with_reducible rfl))
                try simp only [Act.put, List.setIfInBounds_toArray, List.set_cons_zero, List.set_cons_succ]
                refine wpAnyH_read (i := 5) (oi := { dst := some 87, op := Go.Op.move (Go.Operand.tmp 11), type := 3, pos := "law.go:81", after := #[], guard := none }) ?_ rfl (by kernel_rfl) (by kernel_rfl) (by kernel_rfl) (fun _ _ _ h => h) (by rfl) (by assumption) ?_ ?_
                rotate_left
                · (intro w0 hS0; go_simp <;> (try with_reducible rfl))
                try simp only [Act.put, List.setIfInBounds_toArray, List.set_cons_zero, List.set_cons_succ]
                refine wpAnyH_read (i := 6) (oi := { dst := some 88, op := Go.Op.indexAddr 28 (Go.Operand.tmp 86) (Go.Operand.tmp 87), type := 0, pos := "law.go:81", after := #[{ on := 4, ground := Go.Ground.data }, { on := 5, ground := Go.Ground.data }], guard := none }) ?_ rfl (by kernel_rfl) (by kernel_rfl) (by kernel_rfl) (fun _ _ _ h => h) (by rfl) (by assumption) ?_ ?_
                rotate_left
                · (intro w0 hS0; go_simp <;> (try with_reducible rfl))
                try simp only [Act.put, List.setIfInBounds_toArray, List.set_cons_zero, List.set_cons_succ]
                refine wpAnyH_read (i := 7) (oi := { dst := some 89, op := Go.Op.fieldAddr 38 (Go.Operand.tmp 88) 0, type := 0, pos := "law.go:81", after := #[{ on := 6, ground := Go.Ground.data }], guard := none }) ?_ rfl (by kernel_rfl) (by kernel_rfl) (by kernel_rfl) (fun _ _ _ h => h) (by rfl) (by assumption) ?_ ?_
                rotate_left
                · (intro w0 hS0; go_simp <;> (try with_reducible rfl))
                try simp only [Act.put, List.setIfInBounds_toArray, List.set_cons_zero, List.set_cons_succ]
                refine wpAnyH_read (i := 3) (oi := { dst := some 85, op := Go.Op.load 9 (Go.Operand.tmp 84), type := 9, pos := "law.go:81", after := #[{ on := 2, ground := Go.Ground.data }], guard := none }) ?_ rfl (by kernel_rfl) (by kernel_rfl) (by kernel_rfl) (fun _ _ _ h => h) (by rfl) (by assumption) ?_ ?_
                rotate_left
                · (intro w0 hS0; obtain ⟨s1, s2⟩ := hS0; go_simp <;> (try with_reducible rfl))
                try simp only [Act.put, List.setIfInBounds_toArray, List.set_cons_zero, List.set_cons_succ]
                refine wpAnyH_read (i := 8) (oi := { dst := some 90, op := Go.Op.load 9 (Go.Operand.tmp 89), type := 9, pos := "law.go:81", after := #[{ on := 7, ground := Go.Ground.data }], guard := none }) ?_ rfl (by kernel_rfl) (by kernel_rfl) (by kernel_rfl) (fun _ _ _ h => h) (by rfl) (by assumption) ?_ ?_
                rotate_left
                · (intro w0 hS0; obtain ⟨s1, s2⟩ := hS0; go_simp <;> (try with_reducible rfl))
                try simp only [Act.put, List.setIfInBounds_toArray, List.set_cons_zero, List.set_cons_succ]
                refine wpAnyH_read (i := 9) (oi := { dst := some 91, op := Go.Op.binOp Go.BinOp.neq 9 (Go.Operand.tmp 85) (Go.Operand.tmp 90) 9, type := 4, pos := "law.go:81", after := #[{ on := 3, ground := Go.Ground.data }, { on := 8, ground := Go.Ground.data }], guard := none }) ?_ rfl (by kernel_rfl) (by kernel_rfl) (by kernel_rfl) (fun _ _ _ h => h) (by rfl) (by assumption) ?_ ?_
                rotate_left
                · (intro w0 hS0; go_simp <;> (try with_reducible rfl))
                try simp only [Act.put, List.setIfInBounds_toArray, List.set_cons_zero, List.set_cons_succ]
                refine wpAnyH_done (by kernel_rfl) ?_ _
                go_wp2_with fail
                refine (ref_stop HQ2.out.1.ref HQ2.out.1.Bw (nodup_remMS HND.out.1 _) (Nat.le_trans (len_remMS _ _) HND.out.2) kq).mono ?_
                rintro e w7 ⟨rfl, h7, f7⟩
                have HN : Hid (PlayG w t b B B T5 (remMS T (D.take (q + 1))) w7 ∧ Fr (fun i => i = B) w6 w7) := by
                  rw [HQQ.out]
                  exact Lib.hid ⟨HQ2.out.1.doc h7 f7, HQ2.out.2.trans f7⟩
                clear h7 f7
                go_wp2_with fail
                go_roundw
                case rel => exact ⟨q + 1, by go_num, by omega, HN⟩
                case measure => simp [RowKit.intOf]; omega
              · obtain rfl : q = D.length := by omega
                have p1 : ¬ ((D.length : Int) < (D.length : Int)) := by omega
                have hrm : remMS T D = T5 := by
                  have := remMS_due HND.out.1 at_
                  rw [HDD.out] at this
                  rw [this, HT5.out]
                have HE : Hid (∃ T2 : List (KeyS × Int), T2.length ≤ j + 1 ∧ PlayG w t b B B T2 T2 wr ∧ wr.heap[ab]? = some (.cells #[Value.int IntKind.i64 2, Value.string (bs kl), Value.int IntKind.i64 at_] 32 (0, 0))) := by
                  have h1 := HQ.out.1
                  rw [List.take_length, hrm] at h1
                  refine ⟨T5, ?_, h1, ?_⟩
                  · rw [← HT5.out]
                    exact Nat.le_trans (List.length_filter_le _ _) (by have := HL.out.1; omega)
                  · have a5 := F5.out.1.blk (blk_drew ha) HAB.out.2.1
                    have a6 := (Fr.of_below F6.out.1).blk (X := fun _ => False) a5 fun e => e
                    exact HQ.out.2.blk a6 HAB.out.2.2
                clear hrm HQ
                go_wp2_with fail
                go_meet
                case rel => exact HE
          · have q2 : (kd == 2) = false := by simpa using hk2
            have d1 := blk_cell ha 1
            have d2 := blk_cell ha 2
            have HS := Lib.hid (tim_setS hPa.tab hok hz3 (by omega))
            have HPA := Lib.hid hPa
            have HAB : Hid (ab < Wa.heap.size ∧ ¬ ab = b ∧ ¬ ab = B) := ⟨hza, by omega, by omega⟩
            have HND : Hid ((T.map (·.1)).Nodup ∧ T.length ≤ 1000000) := ⟨hnd, by omega⟩
            have HAA := Lib.hid ha
            unfold kVS at HS
            clear hPa hPD hnd hza hab1 hz2 hz3 hok hk1 hk2 ha
            go_wp2_with fail
            refine HS.out.mono ?_
            rintro e w5 ⟨rfl, h5, f5⟩
            have P5 := Lib.hid (HPA.out.tim h5 f5)
            have A5 := f5.blk HAA.out HAB.out.2.1
            have d1 := blk_cell A5 1
            have d2 := blk_cell A5 2
            have HA5 := Lib.hid A5
            clear h5 f5 A5
            go_wp2_with fail
            refine (ref_set P5.out.ref P5.out.Bw HND.out.1 HND.out.2 kl at_).mono ?_
            rintro e w6 ⟨rfl, h6, f6⟩
            have HE : Hid (∃ T2 : List (KeyS × Int), T2.length ≤ j + 1 ∧ PlayG w t b B B T2 T2 w6 ∧ w6.heap[ab]? = some (.cells #[Value.int IntKind.i64 kd, Value.string (bs kl), Value.int IntKind.i64 at_] 32 (0, 0))) :=
              ⟨_, Nat.le_trans (len_setM_le T kl at_) (by have := HL.out.1; omega), P5.out.doc h6 f6, f6.blk HA5.out HAB.out.2.2⟩
            clear h6 f6
            go_wp2_with fail
            go_meet
            case rel => exact HE
      case rest =>
        obtain ⟨T2, hT2l, hP, ha2⟩ := hcut.out
        obtain ⟨kl, rfl⟩ : ∃ kl, ks = bs kl := ⟨ks.data.toList, rfl⟩
        have hzg := HA.out.1 _ (List.getElem_mem hlt)
        rw [HJ.out] at hzg
        obtain ⟨_, hz2, _⟩ := hzg
        have hok : OkKS kl := by unfold OkKS; simpa using hz2
        have d1 := blk_cell ha2 1
        have hat := tim_atS hP.tab hok
        have href := ref_at hP.ref hP.nodup (by omega) kl
        unfold kVS at hat href
        have HP2 := Lib.hid (And.intro hP hT2l)
        have hT2n : T2.length ≤ 1000000 := by omega
        obtain ⟨_, A2, c2, hx2, ho2, hx3⟩ := hP.ref
        have dx := blk_cell hx2 0
        have HRD := Lib.hid (reads_ownFS ho2)
        have HLN := Lib.hid (tim_lenS (hP.rest ((Fr.refl (fun _ => False) wc).drew)).tab)
        have hsame : ∀ W, RowKit.Below wc.heap.size wc W → ∀ A7 c7, ReadsRS W A7 (dueMS T2 now) → Calls Try.prog 21 #[.pointer (some ⟨t, 0, none⟩), .slice A7 (dueMS T2 now).length c7, .int .i64 now] W fun e w' => e = .returned (.bool true) ∧ RowKit.Below W.heap.size W w' := fun W hb A7 c7 hr =>
          same9 (.inr ⟨_, t, b, rfl, (hP.still hb).tab⟩) hP.nodup hT2n now rfl A7 c7 hr
        have HSA := Lib.hid hsame
        cases hlk : lookM T2 kl with
        | none =>
          rw [hlk] at hat
          dsimp only [Option.getD, Option.isSome] at hat
          have HAT := Lib.hid (And.intro hat (And.intro href hlk))
          clear hat href hlk hP ha2 hcut hz2 hok hx2 ho2 hx3 hsame
          go_wp2_with fail
          refine HAT.out.1.mono ?_
          rintro e w5 ⟨rfl, rfl⟩
          go_wp2_with fail
          refine HAT.out.2.1.mono ?_
          rintro e w6 ⟨⟨n, rfl, hix⟩, rfl⟩
          obtain rfl : n = -1 := by
            rcases hix with ⟨e, _⟩ | ⟨i2, h2, _, _, e2, _⟩
            · exact e
            · rw [HAT.out.2.2] at e2; cases e2
          clear hix
          go_wp2_with fail
          refine wp_region_held_drew (S := fun V => V.cell? ⟨B, 0, none⟩ = some (.slice A2 T2.length c2)) (by kernel_rfl) (by exact dx) (fun hHeld => ?_)
          refine wpAnyH_read (i := 0) (oi := { dst := some 110, op := Go.Op.move (Go.Operand.tmp 5), type := 25, pos := "law.go:92", after := #[], guard := none }) ?_ rfl (by kernel_rfl) (by kernel_rfl) (by kernel_rfl) (fun _ _ _ h => h) (by rfl) (by assumption) ?_ ?_
          rotate_left
          · (intro w0 hS0; go_simp <;> (try with_reducible rfl))
          try simp only [Act.put, List.setIfInBounds_toArray, List.set_cons_zero, List.set_cons_succ]
          refine wpAnyH_read (i := 2) (oi := { dst := some 112, op := Go.Op.move (Go.Operand.tmp 6), type := 27, pos := "law.go:92", after := #[], guard := none }) ?_ rfl (by kernel_rfl) (by kernel_rfl) (by kernel_rfl) (fun _ _ _ h => h) (by rfl) (by assumption) ?_ ?_
          rotate_left
          · (intro w0 hS0; go_simp <;> (try with_reducible rfl))
          try simp only [Act.put, List.setIfInBounds_toArray, List.set_cons_zero, List.set_cons_succ]
          refine wpAnyH_read (i := 3) (oi := { dst := some 113, op := Go.Op.nilCheck (Go.Operand.tmp 112), type := 0, pos := "law.go:92", after := #[{ on := 2, ground := Go.Ground.data }], guard := none }) ?_ rfl (by kernel_rfl) (by kernel_rfl) (by kernel_rfl) (fun _ _ _ h => h) (by rfl) (by assumption) ?_ ?_
          rotate_left
          · (intro w0 hS0; go_simp <;> (try with_reducible rfl))
          try simp only [Act.put, List.setIfInBounds_toArray, List.set_cons_zero, List.set_cons_succ]
          refine wpAnyH_read (i := 4) (oi := { dst := some 114, op := Go.Op.fieldAddr 30 (Go.Operand.tmp 113) 0, type := 0, pos := "law.go:92", after := #[{ on := 3, ground := Go.Ground.data }], guard := none }) ?_ rfl (by kernel_rfl) (by kernel_rfl) (by kernel_rfl) (fun _ _ _ h => h) (by rfl) (by assumption) ?_ ?_
          rotate_left
          · (intro w0 hS0; go_simp <;> (try with_reducible rfl))
          try simp only [Act.put, List.setIfInBounds_toArray, List.set_cons_zero, List.set_cons_succ]
          refine wpAnyH_read (i := 5) (oi := { dst := some 115, op := Go.Op.load 28 (Go.Operand.tmp 114), type := 28, pos := "law.go:92", after := #[{ on := 4, ground := Go.Ground.data }], guard := none }) ?_ rfl (by kernel_rfl) (by kernel_rfl) (by kernel_rfl) (fun _ _ _ h => h) (by rfl) (by assumption) ?_ ?_
          rotate_left
          · (intro w0 hS0; (try obtain ⟨s1, s2⟩ := hS0); go_simp <;> (try with_reducible rfl))
          try simp only [Act.put, List.setIfInBounds_toArray, List.set_cons_zero, List.set_cons_succ]
          refine wpAnyH_read (i := 6) (oi := { dst := some 116, op := Go.Op.call { callee := Go.Callee.builtin Go.Builtin.len, args := #[Go.Operand.tmp 115], argTypes := #[28] }, type := 3, pos := "law.go:92", after := #[{ on := 5, ground := Go.Ground.data }], guard := none }) ?_ rfl (by kernel_rfl) (by kernel_rfl) (by kernel_rfl) (fun _ _ _ h => h) (by rfl) (by assumption) ?_ ?_
          rotate_left
          · (intro w0 hS0; go_simp <;> (try with_reducible rfl))
          try simp only [Act.put, List.setIfInBounds_toArray, List.set_cons_zero, List.set_cons_succ]
          refine wpAnyH_one (i := 1) (o := { dst := some 111, op := Go.Op.call { callee := Go.Callee.value (Go.Operand.func 20), args := #[Go.Operand.tmp 110], argTypes := #[25] }, type := 3, pos := "law.go:92", after := #[{ on := 0, ground := Go.Ground.data }], guard := none }) (by kernel_rfl) rfl (by rfl) (fun K hK => ?_)
          go_simp
          refine HLN.out.mono ?_
          rintro e w7 ⟨rfl, rfl⟩
          go_wp2_with fail
          refine hK.out _ _ ?_ (fun hHeld => ?_)
          · (first | assumption | trivial)
          clear hK K
          try simp only [Act.put, List.setIfInBounds_toArray, List.set_cons_zero, List.set_cons_succ]
          refine wpAnyH_read (i := 7) (oi := { dst := some 117, op := Go.Op.binOp Go.BinOp.neq 3 (Go.Operand.tmp 111) (Go.Operand.tmp 116) 3, type := 4, pos := "law.go:92", after := #[{ on := 1, ground := Go.Ground.data }, { on := 6, ground := Go.Ground.data }], guard := none }) ?_ rfl (by kernel_rfl) (by kernel_rfl) (by kernel_rfl) (fun _ _ _ h => h) (by rfl) (by assumption) ?_ ?_
          rotate_left
          · (intro w0 hS0; go_simp <;> (try with_reducible rfl))
          try simp only [Act.put, List.setIfInBounds_toArray, List.set_cons_zero, List.set_cons_succ]
          refine wpAnyH_read (i := 8) (oi := { dst := some 118, op := Go.Op.move (Go.Operand.tmp 117), type := 4, pos := "law.go:92", after := #[{ on := 7, ground := Go.Ground.data }, { on := 1, ground := Go.Ground.chain }], guard := none }) ?_ rfl (by kernel_rfl) (by kernel_rfl) (by kernel_rfl) (fun _ _ _ h => h) (by rfl) (by assumption) ?_ ?_
          rotate_left
          · (intro w0 hS0; go_simp <;> (try with_reducible rfl))
          try simp only [Act.put, List.setIfInBounds_toArray, List.set_cons_zero, List.set_cons_succ]
          refine wpAnyH_read (i := 9) (oi := { dst := some 119, op := Go.Op.move (Go.Operand.tmp 13), type := 4, pos := "law.go:92", after := #[{ on := 8, ground := Go.Ground.guard }], guard := some (8, false) }) ?_ rfl (by kernel_rfl) (by kernel_rfl) (by kernel_rfl) (fun _ _ _ h => h) (by rfl) (by assumption) ?_ ?_
          rotate_left
          · (intro w0 hS0; go_simp <;> (try with_reducible rfl))
          try simp only [Act.put, List.setIfInBounds_toArray, List.set_cons_zero, List.set_cons_succ]
          refine wpAnyH_read (i := 10) (oi := { dst := some 120, op := Go.Op.move (Go.Operand.tmp 14), type := 3, pos := "law.go:92", after := #[{ on := 8, ground := Go.Ground.guard }], guard := some (8, false) }) ?_ rfl (by kernel_rfl) (by kernel_rfl) (by kernel_rfl) (fun _ _ _ h => h) (by rfl) (by assumption) ?_ ?_
          rotate_left
          · (intro w0 hS0; go_simp <;> (try with_reducible rfl))
          try simp only [Act.put, List.setIfInBounds_toArray, List.set_cons_zero, List.set_cons_succ]
          refine wpAnyH_read (i := 11) (oi := { dst := some 121, op := Go.Op.binOp Go.BinOp.geq 3 (Go.Operand.tmp 120) (Go.Operand.const (Go.Value.int Go.IntKind.i64 0)) 3, type := 4, pos := "law.go:92", after := #[{ on := 10, ground := Go.Ground.data }, { on := 8, ground := Go.Ground.guard }], guard := some (8, false) }) ?_ rfl (by kernel_rfl) (by kernel_rfl) (by kernel_rfl) (fun _ _ _ h => h) (by rfl) (by assumption) ?_ ?_
          rotate_left
          · (intro w0 hS0; go_simp <;> (try with_reducible rfl))
          try simp only [Act.put, List.setIfInBounds_toArray, List.set_cons_zero, List.set_cons_succ]
          refine wpAnyH_read (i := 12) (oi := { dst := some 122, op := Go.Op.binOp Go.BinOp.neq 4 (Go.Operand.tmp 119) (Go.Operand.tmp 121) 4, type := 4, pos := "law.go:92", after := #[{ on := 9, ground := Go.Ground.data }, { on := 11, ground := Go.Ground.data }, { on := 8, ground := Go.Ground.guard }], guard := some (8, false) }) ?_ rfl (by kernel_rfl) (by kernel_rfl) (by kernel_rfl) (fun _ _ _ h => h) (by rfl) (by assumption) ?_ ?_
          rotate_left
          · (intro w0 hS0; go_simp <;> (try with_reducible rfl))
          try simp only [Act.put, List.setIfInBounds_toArray, List.set_cons_zero, List.set_cons_succ]
          refine wpAnyH_read (i := 13) (oi := { dst := some 123, op := Go.Op.pick (Go.Operand.tmp 118) (Go.Operand.const (Go.Value.bool true)) (Go.Operand.tmp 122), type := 4, pos := "law.go:92", after := #[{ on := 8, ground := Go.Ground.data }, { on := 12, ground := Go.Ground.data }], guard := none }) ?_ rfl (by kernel_rfl) (by kernel_rfl) (by kernel_rfl) (fun _ _ _ h => h) (by rfl) (by assumption) ?_ ?_
          rotate_left
          · (intro w0 hS0; go_simp <;> (try with_reducible rfl))
          try simp only [Act.put, List.setIfInBounds_toArray, List.set_cons_zero, List.set_cons_succ]
          refine wpAnyH_read (i := 14) (oi := { dst := some 124, op := Go.Op.move (Go.Operand.tmp 123), type := 4, pos := "law.go:92", after := #[{ on := 13, ground := Go.Ground.data }, { on := 8, ground := Go.Ground.chain }], guard := none }) ?_ rfl (by kernel_rfl) (by kernel_rfl) (by kernel_rfl) (fun _ _ _ h => h) (by rfl) (by assumption) ?_ ?_
          rotate_left
          · (intro w0 hS0; go_simp <;> (try with_reducible rfl))
          try simp only [Act.put, List.setIfInBounds_toArray, List.set_cons_zero, List.set_cons_succ]
          refine wpAnyH_read (i := 15) (oi := { dst := some 125, op := Go.Op.move (Go.Operand.tmp 13), type := 4, pos := "law.go:92", after := #[{ on := 14, ground := Go.Ground.guard }], guard := some (14, false) }) ?_ rfl (by kernel_rfl) (by kernel_rfl) (by kernel_rfl) (fun _ _ _ h => h) (by rfl) (by assumption) ?_ ?_
          rotate_left
          · (intro w0 hS0; go_simp <;> (try with_reducible rfl))
          try simp only [Act.put, List.setIfInBounds_toArray, List.set_cons_zero, List.set_cons_succ]
          refine wpAnyH_read (i := 16) (oi := { dst := some 126, op := Go.Op.move (Go.Operand.tmp 125), type := 4, pos := "law.go:92", after := #[{ on := 15, ground := Go.Ground.data }, { on := 14, ground := Go.Ground.chain }, { on := 14, ground := Go.Ground.guard }], guard := some (14, false) }) ?_ rfl (by kernel_rfl) (by kernel_rfl) (by kernel_rfl) (fun _ _ _ h => h) (by rfl) (by assumption) ?_ ?_
          rotate_left
          · (intro w0 hS0; go_simp <;> (try with_reducible rfl))
          try simp only [Act.put, List.setIfInBounds_toArray, List.set_cons_zero, List.set_cons_succ]
          refine wpAnyH_pass (i := 17) (oi := { dst := some 127, op := Go.Op.move (Go.Operand.tmp 12), type := 3, pos := "law.go:92", after := #[{ on := 16, ground := Go.Ground.guard }], guard := some (16, true) }) rfl (by kernel_rfl) (by kernel_rfl) (by kernel_rfl) (fun _ _ _ h => h) (by rfl) (by assumption) ?_
          try simp only [Act.put, List.setIfInBounds_toArray, List.set_cons_zero, List.set_cons_succ]
          refine wpAnyH_pass (i := 18) (oi := { dst := some 128, op := Go.Op.move (Go.Operand.tmp 6), type := 27, pos := "law.go:92", after := #[{ on := 16, ground := Go.Ground.guard }], guard := some (16, true) }) rfl (by kernel_rfl) (by kernel_rfl) (by kernel_rfl) (fun _ _ _ h => h) (by rfl) (by assumption) ?_
          try simp only [Act.put, List.setIfInBounds_toArray, List.set_cons_zero, List.set_cons_succ]
          refine wpAnyH_pass (i := 19) (oi := { dst := some 129, op := Go.Op.nilCheck (Go.Operand.tmp 128), type := 0, pos := "law.go:92", after := #[{ on := 18, ground := Go.Ground.data }, { on := 16, ground := Go.Ground.guard }], guard := some (16, true) }) rfl (by kernel_rfl) (by kernel_rfl) (by kernel_rfl) (fun _ _ _ h => h) (by rfl) (by assumption) ?_
          try simp only [Act.put, List.setIfInBounds_toArray, List.set_cons_zero, List.set_cons_succ]
          refine wpAnyH_pass (i := 20) (oi := { dst := some 130, op := Go.Op.fieldAddr 30 (Go.Operand.tmp 129) 0, type := 0, pos := "law.go:92", after := #[{ on := 19, ground := Go.Ground.data }, { on := 16, ground := Go.Ground.guard }], guard := some (16, true) }) rfl (by kernel_rfl) (by kernel_rfl) (by kernel_rfl) (fun _ _ _ h => h) (by rfl) (by assumption) ?_
          try simp only [Act.put, List.setIfInBounds_toArray, List.set_cons_zero, List.set_cons_succ]
          refine wpAnyH_pass (i := 22) (oi := { dst := some 132, op := Go.Op.move (Go.Operand.tmp 14), type := 3, pos := "law.go:92", after := #[{ on := 16, ground := Go.Ground.guard }], guard := some (16, true) }) rfl (by kernel_rfl) (by kernel_rfl) (by kernel_rfl) (fun _ _ _ h => h) (by rfl) (by assumption) ?_
          try simp only [Act.put, List.setIfInBounds_toArray, List.set_cons_zero, List.set_cons_succ]
          refine wpAnyH_pass (i := 21) (oi := { dst := some 131, op := Go.Op.load 28 (Go.Operand.tmp 130), type := 28, pos := "law.go:92", after := #[{ on := 20, ground := Go.Ground.data }, { on := 16, ground := Go.Ground.guard }], guard := some (16, true) }) rfl (by kernel_rfl) (by kernel_rfl) (by kernel_rfl) (fun _ _ _ h => h) (by rfl) (by assumption) ?_
          try simp only [Act.put, List.setIfInBounds_toArray, List.set_cons_zero, List.set_cons_succ]
          refine wpAnyH_pass (i := 23) (oi := { dst := some 133, op := Go.Op.indexAddr 28 (Go.Operand.tmp 131) (Go.Operand.tmp 132), type := 0, pos := "law.go:92", after := #[{ on := 21, ground := Go.Ground.data }, { on := 22, ground := Go.Ground.data }, { on := 16, ground := Go.Ground.guard }], guard := some (16, true) }) rfl (by kernel_rfl) (by kernel_rfl) (by kernel_rfl) (fun _ _ _ h => h) (by rfl) (by assumption) ?_
          try simp only [Act.put, List.setIfInBounds_toArray, List.set_cons_zero, List.set_cons_succ]
          refine wpAnyH_pass (i := 24) (oi := { dst := some 134, op := Go.Op.fieldAddr 38 (Go.Operand.tmp 133) 1, type := 0, pos := "law.go:92", after := #[{ on := 23, ground := Go.Ground.data }, { on := 16, ground := Go.Ground.guard }], guard := some (16, true) }) rfl (by kernel_rfl) (by kernel_rfl) (by kernel_rfl) (fun _ _ _ h => h) (by rfl) (by assumption) ?_
          try simp only [Act.put, List.setIfInBounds_toArray, List.set_cons_zero, List.set_cons_succ]
          refine wpAnyH_pass (i := 25) (oi := { dst := some 135, op := Go.Op.load 3 (Go.Operand.tmp 134), type := 3, pos := "law.go:92", after := #[{ on := 24, ground := Go.Ground.data }, { on := 16, ground := Go.Ground.guard }], guard := some (16, true) }) rfl (by kernel_rfl) (by kernel_rfl) (by kernel_rfl) (fun _ _ _ h => h) (by rfl) (by assumption) ?_
          try simp only [Act.put, List.setIfInBounds_toArray, List.set_cons_zero, List.set_cons_succ]
          refine wpAnyH_pass (i := 26) (oi := { dst := some 136, op := Go.Op.binOp Go.BinOp.neq 3 (Go.Operand.tmp 127) (Go.Operand.tmp 135) 3, type := 4, pos := "law.go:92", after := #[{ on := 17, ground := Go.Ground.data }, { on := 25, ground := Go.Ground.data }, { on := 16, ground := Go.Ground.guard }], guard := some (16, true) }) rfl (by kernel_rfl) (by kernel_rfl) (by kernel_rfl) (fun _ _ _ h => h) (by rfl) (by assumption) ?_
          try simp only [Act.put, List.setIfInBounds_toArray, List.set_cons_zero, List.set_cons_succ]
          refine wpAnyH_read (i := 27) (oi := { dst := some 137, op := Go.Op.pick (Go.Operand.tmp 126) (Go.Operand.tmp 136) (Go.Operand.const (Go.Value.bool false)), type := 4, pos := "law.go:92", after := #[{ on := 16, ground := Go.Ground.data }, { on := 26, ground := Go.Ground.data }, { on := 14, ground := Go.Ground.guard }], guard := some (14, false) }) ?_ rfl (by kernel_rfl) (by kernel_rfl) (by kernel_rfl) (fun _ _ _ h => h) (by rfl) (by assumption) ?_ ?_
          rotate_left
          · (intro w0 hS0; go_simp <;> (try with_reducible rfl))
          try simp only [Act.put, List.setIfInBounds_toArray, List.set_cons_zero, List.set_cons_succ]
          refine wpAnyH_read (i := 28) (oi := { dst := some 138, op := Go.Op.pick (Go.Operand.tmp 124) (Go.Operand.const (Go.Value.bool true)) (Go.Operand.tmp 137), type := 4, pos := "law.go:92", after := #[{ on := 14, ground := Go.Ground.data }, { on := 27, ground := Go.Ground.data }], guard := none }) ?_ rfl (by kernel_rfl) (by kernel_rfl) (by kernel_rfl) (fun _ _ _ h => h) (by rfl) (by assumption) ?_ ?_
          rotate_left
          · (intro w0 hS0; go_simp <;> (try with_reducible rfl))
          try simp only [Act.put, List.setIfInBounds_toArray, List.set_cons_zero, List.set_cons_succ]
          refine wpAnyH_read (i := 29) (oi := { dst := some 139, op := Go.Op.move (Go.Operand.tmp 138), type := 4, pos := "law.go:92", after := #[{ on := 28, ground := Go.Ground.data }, { on := 16, ground := Go.Ground.chain }], guard := none }) ?_ rfl (by kernel_rfl) (by kernel_rfl) (by kernel_rfl) (fun _ _ _ h => h) (by rfl) (by assumption) ?_ ?_
          rotate_left
          · (intro w0 hS0; go_simp <;> (try with_reducible rfl))
          try simp only [Act.put, List.setIfInBounds_toArray, List.set_cons_zero, List.set_cons_succ]
          refine wpAnyH_read (i := 30) (oi := { dst := some 140, op := Go.Op.move (Go.Operand.tmp 13), type := 4, pos := "law.go:92", after := #[{ on := 29, ground := Go.Ground.guard }], guard := some (29, false) }) ?_ rfl (by kernel_rfl) (by kernel_rfl) (by kernel_rfl) (fun _ _ _ h => h) (by rfl) (by assumption) ?_ ?_
          rotate_left
          · (intro w0 hS0; go_simp <;> (try with_reducible rfl))
          try simp only [Act.put, List.setIfInBounds_toArray, List.set_cons_zero, List.set_cons_succ]
          refine wpAnyH_read (i := 31) (oi := { dst := some 141, op := Go.Op.unOp Go.UnOp.not 4 (Go.Operand.tmp 140), type := 4, pos := "law.go:92", after := #[{ on := 30, ground := Go.Ground.data }, { on := 29, ground := Go.Ground.guard }], guard := some (29, false) }) ?_ rfl (by kernel_rfl) (by kernel_rfl) (by kernel_rfl) (fun _ _ _ h => h) (by rfl) (by assumption) ?_ ?_
          rotate_left
          · (intro w0 hS0; go_simp <;> (try with_reducible rfl))
          try simp only [Act.put, List.setIfInBounds_toArray, List.set_cons_zero, List.set_cons_succ]
          refine wpAnyH_read (i := 32) (oi := { dst := some 142, op := Go.Op.move (Go.Operand.tmp 141), type := 4, pos := "law.go:92", after := #[{ on := 31, ground := Go.Ground.data }, { on := 29, ground := Go.Ground.chain }, { on := 29, ground := Go.Ground.guard }], guard := some (29, false) }) ?_ rfl (by kernel_rfl) (by kernel_rfl) (by kernel_rfl) (fun _ _ _ h => h) (by rfl) (by assumption) ?_ ?_
          rotate_left
          · (intro w0 hS0; go_simp <;> (try with_reducible rfl))
          try simp only [Act.put, List.setIfInBounds_toArray, List.set_cons_zero, List.set_cons_succ]
          refine wpAnyH_read (i := 33) (oi := { dst := some 143, op := Go.Op.move (Go.Operand.tmp 12), type := 3, pos := "law.go:92", after := #[{ on := 32, ground := Go.Ground.guard }], guard := some (32, true) }) ?_ rfl (by kernel_rfl) (by kernel_rfl) (by kernel_rfl) (fun _ _ _ h => h) (by rfl) (by assumption) ?_ ?_
          rotate_left
          · (intro w0 hS0; go_simp <;> (try with_reducible rfl))
          try simp only [Act.put, List.setIfInBounds_toArray, List.set_cons_zero, List.set_cons_succ]
          refine wpAnyH_read (i := 34) (oi := { dst := some 144, op := Go.Op.binOp Go.BinOp.neq 3 (Go.Operand.tmp 143) (Go.Operand.const (Go.Value.int Go.IntKind.i64 0)) 3, type := 4, pos := "law.go:92", after := #[{ on := 33, ground := Go.Ground.data }, { on := 32, ground := Go.Ground.guard }], guard := some (32, true) }) ?_ rfl (by kernel_rfl) (by kernel_rfl) (by kernel_rfl) (fun _ _ _ h => h) (by rfl) (by assumption) ?_ ?_
          rotate_left
          · (intro w0 hS0; go_simp <;> (try with_reducible rfl))
          try simp only [Act.put, List.setIfInBounds_toArray, List.set_cons_zero, List.set_cons_succ]
          refine wpAnyH_read (i := 35) (oi := { dst := some 145, op := Go.Op.pick (Go.Operand.tmp 142) (Go.Operand.tmp 144) (Go.Operand.const (Go.Value.bool false)), type := 4, pos := "law.go:92", after := #[{ on := 32, ground := Go.Ground.data }, { on := 34, ground := Go.Ground.data }, { on := 29, ground := Go.Ground.guard }], guard := some (29, false) }) ?_ rfl (by kernel_rfl) (by kernel_rfl) (by kernel_rfl) (fun _ _ _ h => h) (by rfl) (by assumption) ?_ ?_
          rotate_left
          · (intro w0 hS0; go_simp <;> (try with_reducible rfl))
          try simp only [Act.put, List.setIfInBounds_toArray, List.set_cons_zero, List.set_cons_succ]
          refine wpAnyH_read (i := 36) (oi := { dst := some 146, op := Go.Op.pick (Go.Operand.tmp 139) (Go.Operand.const (Go.Value.bool true)) (Go.Operand.tmp 145), type := 4, pos := "law.go:92", after := #[{ on := 29, ground := Go.Ground.data }, { on := 35, ground := Go.Ground.data }], guard := none }) ?_ rfl (by kernel_rfl) (by kernel_rfl) (by kernel_rfl) (fun _ _ _ h => h) (by rfl) (by assumption) ?_ ?_
          rotate_left
          · (intro w0 hS0; go_simp <;> (try with_reducible rfl))
          try simp only [Act.put, List.setIfInBounds_toArray, List.set_cons_zero, List.set_cons_succ]
          refine wpAnyH_read (i := 37) (oi := { dst := some 147, op := Go.Op.move (Go.Operand.tmp 146), type := 4, pos := "law.go:92", after := #[{ on := 36, ground := Go.Ground.data }, { on := 32, ground := Go.Ground.chain }], guard := none }) ?_ rfl (by kernel_rfl) (by kernel_rfl) (by kernel_rfl) (fun _ _ _ h => h) (by rfl) (by assumption) ?_ ?_
          rotate_left
          · (intro w0 hS0; go_simp <;> (try with_reducible rfl))
          try simp only [Act.put, List.setIfInBounds_toArray, List.set_cons_zero, List.set_cons_succ]
          refine wpAnyH_read (i := 38) (oi := { dst := some 148, op := Go.Op.move (Go.Operand.tmp 5), type := 25, pos := "law.go:92", after := #[{ on := 37, ground := Go.Ground.guard }], guard := some (37, false) }) ?_ rfl (by kernel_rfl) (by kernel_rfl) (by kernel_rfl) (fun _ _ _ h => h) (by rfl) (by assumption) ?_ ?_
          rotate_left
          · (intro w0 hS0; go_simp <;> (try with_reducible rfl))
          try simp only [Act.put, List.setIfInBounds_toArray, List.set_cons_zero, List.set_cons_succ]
          refine wpAnyH_read (i := 39) (oi := { dst := some 149, op := Go.Op.move (Go.Operand.tmp 6), type := 27, pos := "law.go:92", after := #[{ on := 37, ground := Go.Ground.guard }], guard := some (37, false) }) ?_ rfl (by kernel_rfl) (by kernel_rfl) (by kernel_rfl) (fun _ _ _ h => h) (by rfl) (by assumption) ?_ ?_
          rotate_left
          · (intro w0 hS0; go_simp <;> (try with_reducible rfl))
          try simp only [Act.put, List.setIfInBounds_toArray, List.set_cons_zero, List.set_cons_succ]
          refine wpAnyH_read (i := 40) (oi := { dst := some 150, op := Go.Op.move (Go.Operand.tmp 1), type := 3, pos := "law.go:92", after := #[{ on := 37, ground := Go.Ground.guard }], guard := some (37, false) }) ?_ rfl (by kernel_rfl) (by kernel_rfl) (by kernel_rfl) (fun _ _ _ h => h) (by rfl) (by assumption) ?_ ?_
          rotate_left
          · (intro w0 hS0; go_simp <;> (try with_reducible rfl))
          try simp only [Act.put, List.setIfInBounds_toArray, List.set_cons_zero, List.set_cons_succ]
          refine wpAnyH_read (i := 42) (oi := { dst := some 152, op := Go.Op.move (Go.Operand.tmp 1), type := 3, pos := "law.go:92", after := #[{ on := 37, ground := Go.Ground.guard }], guard := some (37, false) }) ?_ rfl (by kernel_rfl) (by kernel_rfl) (by kernel_rfl) (fun _ _ _ h => h) (by rfl) (by assumption) ?_ ?_
          rotate_left
          · (intro w0 hS0; go_simp <;> (try with_reducible rfl))
          try simp only [Act.put, List.setIfInBounds_toArray, List.set_cons_zero, List.set_cons_succ]
          refine wpAnyH_one (i := 41) (o := { dst := some 151, op := Go.Op.call { callee := Go.Callee.value (Go.Operand.func 15), args := #[Go.Operand.tmp 149, Go.Operand.tmp 150], argTypes := #[27, 3] }, type := 28, pos := "law.go:92", after := #[{ on := 39, ground := Go.Ground.data }, { on := 40, ground := Go.Ground.data }, { on := 37, ground := Go.Ground.chain }, { on := 37, ground := Go.Ground.guard }], guard := some (37, false) }) (by kernel_rfl) rfl (by rfl) (fun K hK => ?_)
          go_simp
          refine (ref_due (HP2.out.1.rest ((Fr.refl (fun _ => False) _).drew)).ref HP2.out.1.nodup hT2n now).mono ?_
          rintro e w8 ⟨⟨A7, c7, rfl, o7⟩, b7⟩
          have F7 := Lib.hid (And.intro (undrew b7) o7)
          clear b7 o7
          go_wp2_with fail
          refine hK.out _ _ ?_ (fun hHeld => ?_)
          · exact ((Fr.of_below F7.out.1).cell (X := fun _ => False) (p := ⟨B, 0, none⟩) HP2.out.1.lt.2.2 fun e => e).trans hHeld
          clear hK K
          try simp only [Act.put, List.setIfInBounds_toArray, List.set_cons_zero, List.set_cons_succ]
          refine wpAnyH_one (i := 43) (o := { dst := some 153, op := Go.Op.call { callee := Go.Callee.value (Go.Operand.func 21), args := #[Go.Operand.tmp 148, Go.Operand.tmp 151, Go.Operand.tmp 152], argTypes := #[25, 28, 3] }, type := 4, pos := "law.go:92", after := #[{ on := 38, ground := Go.Ground.data }, { on := 41, ground := Go.Ground.data }, { on := 42, ground := Go.Ground.data }, { on := 41, ground := Go.Ground.chain }, { on := 37, ground := Go.Ground.guard }], guard := some (37, false) }) (by kernel_rfl) rfl (by rfl) (fun K hK => ?_)
          go_simp
          refine (HSA.out _ F7.out.1 A7 c7 (reads_ownFS F7.out.2)).mono ?_
          rintro e w9 ⟨rfl, b9⟩
          have PZ := Lib.hid ((HP2.out.1.still F7.out.1).still b9)
          have F9 := Lib.hid b9
          clear b9
          go_wp2_with fail
          refine hK.out _ _ ?_ (fun hHeld => ?_)
          · exact ((Fr.of_below F9.out).cell (X := fun _ => False) (p := ⟨B, 0, none⟩) (HP2.out.1.still F7.out.1).lt.2.2 fun e => e).trans hHeld
          clear hK K
          try simp only [Act.put, List.setIfInBounds_toArray, List.set_cons_zero, List.set_cons_succ]
          refine wpAnyH_read (i := 44) (oi := { dst := some 154, op := Go.Op.unOp Go.UnOp.not 4 (Go.Operand.tmp 153), type := 4, pos := "law.go:92", after := #[{ on := 43, ground := Go.Ground.data }, { on := 37, ground := Go.Ground.guard }], guard := some (37, false) }) ?_ rfl (by kernel_rfl) (by kernel_rfl) (by kernel_rfl) (fun _ _ _ h => h) (by rfl) (by assumption) ?_ ?_
          rotate_left
          · (intro w0 hS0; go_simp <;> (try with_reducible rfl))
          try simp only [Act.put, List.setIfInBounds_toArray, List.set_cons_zero, List.set_cons_succ]
          refine wpAnyH_read (i := 45) (oi := { dst := some 155, op := Go.Op.pick (Go.Operand.tmp 147) (Go.Operand.const (Go.Value.bool true)) (Go.Operand.tmp 154), type := 4, pos := "law.go:92", after := #[{ on := 37, ground := Go.Ground.data }, { on := 44, ground := Go.Ground.data }], guard := none }) ?_ rfl (by kernel_rfl) (by kernel_rfl) (by kernel_rfl) (fun _ _ _ h => h) (by rfl) (by assumption) ?_ ?_
          rotate_left
          · (intro w0 hS0; go_simp <;> (try with_reducible rfl))
          try simp only [Act.put, List.setIfInBounds_toArray, List.set_cons_zero, List.set_cons_succ]
          refine wpAnyH_done (by kernel_rfl) ?_ _
          go_wp2_with fail
          go_roundw
          case rel => exact ⟨j + 1, T2, by go_num, by omega, Lib.hid ⟨HP2.out.2, PZ.out⟩⟩
          case measure => simp [RowKit.intOf]; omega
        | some a2 =>
          rw [hlk] at hat
          dsimp only [Option.getD, Option.isSome] at hat
          have HAT := Lib.hid (And.intro hat (And.intro href hlk))
          clear hat href hlk hP ha2 hcut hz2 hok hx2 ho2 hx3 hsame
          go_wp2_with fail
          refine HAT.out.1.mono ?_
          rintro e w5 ⟨rfl, rfl⟩
          go_wp2_with fail
          refine HAT.out.2.1.mono ?_
          rintro e w6 ⟨⟨n, rfl, hix⟩, rfl⟩
          obtain ⟨i2, hi2, rfl, hTi⟩ : ∃ i2 : Nat, ∃ h : i2 < T2.length, n = i2 ∧ T2[i2].2 = a2 := by
            rcases hix with ⟨_, e, _⟩ | ⟨i2, h2, e1, _, e2, _⟩
            · rw [HAT.out.2.2] at e; cases e
            · rw [HAT.out.2.2] at e2
              exact ⟨i2, h2, e1, (Option.some.inj e2).symm⟩
          obtain ⟨g2, o2, rfl, hg2, hc2⟩ := HRD.out (by omega)
          have d2 := (hc2 i2 hi2).2
          rw [hTi] at d2
          have HC2 := Lib.hid hg2
          have p5 : (i2 : Int) < (T2.length : Int) := by omega
          have r5 : (0 : Int) ≤ (i2 : Int) := by omega
          clear hix hc2 hg2 hTi
          go_wp2_with fail
          refine wp_region_held_drew (S := fun V => V.cell? ⟨B, 0, none⟩ = some (.slice (some ⟨g2, o2, none⟩) T2.length c2) ∧ V.cell? ⟨g2, o2 + i2 * 2 + 1, none⟩ = some (.int .i64 a2)) (by kernel_rfl) (by exact ⟨dx, d2⟩) (fun hHeld => ?_)
          refine wpAnyH_read (i := 0) (oi := { dst := some 110, op := Go.Op.move (Go.Operand.tmp 5), type := 25, pos := "law.go:92", after := #[], guard := none }) ?_ rfl (by kernel_rfl) (by kernel_rfl) (by kernel_rfl) (fun _ _ _ h => h) (by rfl) (by assumption) ?_ ?_
          rotate_left
          · (intro w0 hS0; go_simp <;> (try with_reducible rfl))
          try simp only [Act.put, List.setIfInBounds_toArray, List.set_cons_zero, List.set_cons_succ]
          refine wpAnyH_read (i := 2) (oi := { dst := some 112, op := Go.Op.move (Go.Operand.tmp 6), type := 27, pos := "law.go:92", after := #[], guard := none }) ?_ rfl (by kernel_rfl) (by kernel_rfl) (by kernel_rfl) (fun _ _ _ h => h) (by rfl) (by assumption) ?_ ?_
          rotate_left
          · (intro w0 hS0; go_simp <;> (try with_reducible rfl))
          try simp only [Act.put, List.setIfInBounds_toArray, List.set_cons_zero, List.set_cons_succ]
          refine wpAnyH_read (i := 3) (oi := { dst := some 113, op := Go.Op.nilCheck (Go.Operand.tmp 112), type := 0, pos := "law.go:92", after := #[{ on := 2, ground := Go.Ground.data }], guard := none }) ?_ rfl (by kernel_rfl) (by kernel_rfl) (by kernel_rfl) (fun _ _ _ h => h) (by rfl) (by assumption) ?_ ?_
          rotate_left
          · (intro w0 hS0; go_simp <;> (try with_reducible rfl))
          try simp only [Act.put, List.setIfInBounds_toArray, List.set_cons_zero, List.set_cons_succ]
          refine wpAnyH_read (i := 4) (oi := { dst := some 114, op := Go.Op.fieldAddr 30 (Go.Operand.tmp 113) 0, type := 0, pos := "law.go:92", after := #[{ on := 3, ground := Go.Ground.data }], guard := none }) ?_ rfl (by kernel_rfl) (by kernel_rfl) (by kernel_rfl) (fun _ _ _ h => h) (by rfl) (by assumption) ?_ ?_
          rotate_left
          · (intro w0 hS0; go_simp <;> (try with_reducible rfl))
          try simp only [Act.put, List.setIfInBounds_toArray, List.set_cons_zero, List.set_cons_succ]
          refine wpAnyH_read (i := 5) (oi := { dst := some 115, op := Go.Op.load 28 (Go.Operand.tmp 114), type := 28, pos := "law.go:92", after := #[{ on := 4, ground := Go.Ground.data }], guard := none }) ?_ rfl (by kernel_rfl) (by kernel_rfl) (by kernel_rfl) (fun _ _ _ h => h) (by rfl) (by assumption) ?_ ?_
          rotate_left
          · (intro w0 hS0; (try obtain ⟨s1, s2⟩ := hS0); go_simp <;> (try with_reducible rfl))
          try simp only [Act.put, List.setIfInBounds_toArray, List.set_cons_zero, List.set_cons_succ]
          refine wpAnyH_read (i := 6) (oi := { dst := some 116, op := Go.Op.call { callee := Go.Callee.builtin Go.Builtin.len, args := #[Go.Operand.tmp 115], argTypes := #[28] }, type := 3, pos := "law.go:92", after := #[{ on := 5, ground := Go.Ground.data }], guard := none }) ?_ rfl (by kernel_rfl) (by kernel_rfl) (by kernel_rfl) (fun _ _ _ h => h) (by rfl) (by assumption) ?_ ?_
          rotate_left
          · (intro w0 hS0; go_simp <;> (try with_reducible rfl))
          try simp only [Act.put, List.setIfInBounds_toArray, List.set_cons_zero, List.set_cons_succ]
          refine wpAnyH_one (i := 1) (o := { dst := some 111, op := Go.Op.call { callee := Go.Callee.value (Go.Operand.func 20), args := #[Go.Operand.tmp 110], argTypes := #[25] }, type := 3, pos := "law.go:92", after := #[{ on := 0, ground := Go.Ground.data }], guard := none }) (by kernel_rfl) rfl (by rfl) (fun K hK => ?_)
          go_simp
          refine HLN.out.mono ?_
          rintro e w7 ⟨rfl, rfl⟩
          go_wp2_with fail
          refine hK.out _ _ ?_ (fun hHeld => ?_)
          · (first | assumption | trivial)
          clear hK K
          try simp only [Act.put, List.setIfInBounds_toArray, List.set_cons_zero, List.set_cons_succ]
          refine wpAnyH_read (i := 7) (oi := { dst := some 117, op := Go.Op.binOp Go.BinOp.neq 3 (Go.Operand.tmp 111) (Go.Operand.tmp 116) 3, type := 4, pos := "law.go:92", after := #[{ on := 1, ground := Go.Ground.data }, { on := 6, ground := Go.Ground.data }], guard := none }) ?_ rfl (by kernel_rfl) (by kernel_rfl) (by kernel_rfl) (fun _ _ _ h => h) (by rfl) (by assumption) ?_ ?_
          rotate_left
          · (intro w0 hS0; go_simp <;> (try with_reducible rfl))
          try simp only [Act.put, List.setIfInBounds_toArray, List.set_cons_zero, List.set_cons_succ]
          refine wpAnyH_read (i := 8) (oi := { dst := some 118, op := Go.Op.move (Go.Operand.tmp 117), type := 4, pos := "law.go:92", after := #[{ on := 7, ground := Go.Ground.data }, { on := 1, ground := Go.Ground.chain }], guard := none }) ?_ rfl (by kernel_rfl) (by kernel_rfl) (by kernel_rfl) (fun _ _ _ h => h) (by rfl) (by assumption) ?_ ?_
          rotate_left
          · (intro w0 hS0; go_simp <;> (try with_reducible rfl))
          try simp only [Act.put, List.setIfInBounds_toArray, List.set_cons_zero, List.set_cons_succ]
          refine wpAnyH_read (i := 9) (oi := { dst := some 119, op := Go.Op.move (Go.Operand.tmp 13), type := 4, pos := "law.go:92", after := #[{ on := 8, ground := Go.Ground.guard }], guard := some (8, false) }) ?_ rfl (by kernel_rfl) (by kernel_rfl) (by kernel_rfl) (fun _ _ _ h => h) (by rfl) (by assumption) ?_ ?_
          rotate_left
          · (intro w0 hS0; go_simp <;> (try with_reducible rfl))
          try simp only [Act.put, List.setIfInBounds_toArray, List.set_cons_zero, List.set_cons_succ]
          refine wpAnyH_read (i := 10) (oi := { dst := some 120, op := Go.Op.move (Go.Operand.tmp 14), type := 3, pos := "law.go:92", after := #[{ on := 8, ground := Go.Ground.guard }], guard := some (8, false) }) ?_ rfl (by kernel_rfl) (by kernel_rfl) (by kernel_rfl) (fun _ _ _ h => h) (by rfl) (by assumption) ?_ ?_
          rotate_left
          · (intro w0 hS0; go_simp <;> (try with_reducible rfl))
          try simp only [Act.put, List.setIfInBounds_toArray, List.set_cons_zero, List.set_cons_succ]
          refine wpAnyH_read (i := 11) (oi := { dst := some 121, op := Go.Op.binOp Go.BinOp.geq 3 (Go.Operand.tmp 120) (Go.Operand.const (Go.Value.int Go.IntKind.i64 0)) 3, type := 4, pos := "law.go:92", after := #[{ on := 10, ground := Go.Ground.data }, { on := 8, ground := Go.Ground.guard }], guard := some (8, false) }) ?_ rfl (by kernel_rfl) (by kernel_rfl) (by kernel_rfl) (fun _ _ _ h => h) (by rfl) (by assumption) ?_ ?_
          rotate_left
          · (intro w0 hS0; go_simp <;> (try with_reducible rfl))
          try simp only [Act.put, List.setIfInBounds_toArray, List.set_cons_zero, List.set_cons_succ]
          refine wpAnyH_read (i := 12) (oi := { dst := some 122, op := Go.Op.binOp Go.BinOp.neq 4 (Go.Operand.tmp 119) (Go.Operand.tmp 121) 4, type := 4, pos := "law.go:92", after := #[{ on := 9, ground := Go.Ground.data }, { on := 11, ground := Go.Ground.data }, { on := 8, ground := Go.Ground.guard }], guard := some (8, false) }) ?_ rfl (by kernel_rfl) (by kernel_rfl) (by kernel_rfl) (fun _ _ _ h => h) (by rfl) (by assumption) ?_ ?_
          rotate_left
          · (intro w0 hS0; go_simp <;> (try with_reducible rfl))
          try simp only [Act.put, List.setIfInBounds_toArray, List.set_cons_zero, List.set_cons_succ]
          refine wpAnyH_read (i := 13) (oi := { dst := some 123, op := Go.Op.pick (Go.Operand.tmp 118) (Go.Operand.const (Go.Value.bool true)) (Go.Operand.tmp 122), type := 4, pos := "law.go:92", after := #[{ on := 8, ground := Go.Ground.data }, { on := 12, ground := Go.Ground.data }], guard := none }) ?_ rfl (by kernel_rfl) (by kernel_rfl) (by kernel_rfl) (fun _ _ _ h => h) (by rfl) (by assumption) ?_ ?_
          rotate_left
          · (intro w0 hS0; go_simp <;> (try with_reducible rfl))
          try simp only [Act.put, List.setIfInBounds_toArray, List.set_cons_zero, List.set_cons_succ]
          refine wpAnyH_read (i := 14) (oi := { dst := some 124, op := Go.Op.move (Go.Operand.tmp 123), type := 4, pos := "law.go:92", after := #[{ on := 13, ground := Go.Ground.data }, { on := 8, ground := Go.Ground.chain }], guard := none }) ?_ rfl (by kernel_rfl) (by kernel_rfl) (by kernel_rfl) (fun _ _ _ h => h) (by rfl) (by assumption) ?_ ?_
          rotate_left
          · (intro w0 hS0; go_simp <;> (try with_reducible rfl))
          try simp only [Act.put, List.setIfInBounds_toArray, List.set_cons_zero, List.set_cons_succ]
          refine wpAnyH_read (i := 15) (oi := { dst := some 125, op := Go.Op.move (Go.Operand.tmp 13), type := 4, pos := "law.go:92", after := #[{ on := 14, ground := Go.Ground.guard }], guard := some (14, false) }) ?_ rfl (by kernel_rfl) (by kernel_rfl) (by kernel_rfl) (fun _ _ _ h => h) (by rfl) (by assumption) ?_ ?_
          rotate_left
          · (intro w0 hS0; go_simp <;> (try with_reducible rfl))
          try simp only [Act.put, List.setIfInBounds_toArray, List.set_cons_zero, List.set_cons_succ]
          refine wpAnyH_read (i := 16) (oi := { dst := some 126, op := Go.Op.move (Go.Operand.tmp 125), type := 4, pos := "law.go:92", after := #[{ on := 15, ground := Go.Ground.data }, { on := 14, ground := Go.Ground.chain }, { on := 14, ground := Go.Ground.guard }], guard := some (14, false) }) ?_ rfl (by kernel_rfl) (by kernel_rfl) (by kernel_rfl) (fun _ _ _ h => h) (by rfl) (by assumption) ?_ ?_
          rotate_left
          · (intro w0 hS0; go_simp <;> (try with_reducible rfl))
          try simp only [Act.put, List.setIfInBounds_toArray, List.set_cons_zero, List.set_cons_succ]
          refine wpAnyH_read (i := 17) (oi := { dst := some 127, op := Go.Op.move (Go.Operand.tmp 12), type := 3, pos := "law.go:92", after := #[{ on := 16, ground := Go.Ground.guard }], guard := some (16, true) }) ?_ rfl (by kernel_rfl) (by kernel_rfl) (by kernel_rfl) (fun _ _ _ h => h) (by rfl) (by assumption) ?_ ?_
          rotate_left
          · (intro w0 hS0; go_simp <;> (try with_reducible rfl))
          try simp only [Act.put, List.setIfInBounds_toArray, List.set_cons_zero, List.set_cons_succ]
          refine wpAnyH_read (i := 18) (oi := { dst := some 128, op := Go.Op.move (Go.Operand.tmp 6), type := 27, pos := "law.go:92", after := #[{ on := 16, ground := Go.Ground.guard }], guard := some (16, true) }) ?_ rfl (by kernel_rfl) (by kernel_rfl) (by kernel_rfl) (fun _ _ _ h => h) (by rfl) (by assumption) ?_ ?_
          rotate_left
          · (intro w0 hS0; go_simp <;> (try with_reducible rfl))
          try simp only [Act.put, List.setIfInBounds_toArray, List.set_cons_zero, List.set_cons_succ]
          refine wpAnyH_read (i := 19) (oi := { dst := some 129, op := Go.Op.nilCheck (Go.Operand.tmp 128), type := 0, pos := "law.go:92", after := #[{ on := 18, ground := Go.Ground.data }, { on := 16, ground := Go.Ground.guard }], guard := some (16, true) }) ?_ rfl (by kernel_rfl) (by kernel_rfl) (by kernel_rfl) (fun _ _ _ h => h) (by rfl) (by assumption) ?_ ?_
          rotate_left
          · (intro w0 hS0; go_simp <;> (try with_reducible rfl))
          try simp only [Act.put, List.setIfInBounds_toArray, List.set_cons_zero, List.set_cons_succ]
          refine wpAnyH_read (i := 20) (oi := { dst := some 130, op := Go.Op.fieldAddr 30 (Go.Operand.tmp 129) 0, type := 0, pos := "law.go:92", after := #[{ on := 19, ground := Go.Ground.data }, { on := 16, ground := Go.Ground.guard }], guard := some (16, true) }) ?_ rfl (by kernel_rfl) (by kernel_rfl) (by kernel_rfl) (fun _ _ _ h => h) (by rfl) (by assumption) ?_ ?_
          rotate_left
          · (intro w0 hS0; go_simp <;> (try with_reducible rfl))
          try simp only [Act.put, List.setIfInBounds_toArray, List.set_cons_zero, List.set_cons_succ]
          refine wpAnyH_read (i := 22) (oi := { dst := some 132, op := Go.Op.move (Go.Operand.tmp 14), type := 3, pos := "law.go:92", after := #[{ on := 16, ground := Go.Ground.guard }], guard := some (16, true) }) ?_ rfl (by kernel_rfl) (by kernel_rfl) (by kernel_rfl) (fun _ _ _ h => h) (by rfl) (by assumption) ?_ ?_
          rotate_left
          · (intro w0 hS0; go_simp <;> (try with_reducible rfl))
          try simp only [Act.put, List.setIfInBounds_toArray, List.set_cons_zero, List.set_cons_succ]
          refine wpAnyH_read (i := 21) (oi := { dst := some 131, op := Go.Op.load 28 (Go.Operand.tmp 130), type := 28, pos := "law.go:92", after := #[{ on := 20, ground := Go.Ground.data }, { on := 16, ground := Go.Ground.guard }], guard := some (16, true) }) ?_ rfl (by kernel_rfl) (by kernel_rfl) (by kernel_rfl) (fun _ _ _ h => h) (by rfl) (by assumption) ?_ ?_
          rotate_left
          · (intro w0 hS0; (try obtain ⟨s1, s2⟩ := hS0); go_simp <;> (try with_reducible rfl))
          try simp only [Act.put, List.setIfInBounds_toArray, List.set_cons_zero, List.set_cons_succ]
          refine wpAnyH_read (i := 23) (oi := { dst := some 133, op := Go.Op.indexAddr 28 (Go.Operand.tmp 131) (Go.Operand.tmp 132), type := 0, pos := "law.go:92", after := #[{ on := 21, ground := Go.Ground.data }, { on := 22, ground := Go.Ground.data }, { on := 16, ground := Go.Ground.guard }], guard := some (16, true) }) ?_ rfl (by kernel_rfl) (by kernel_rfl) (by kernel_rfl) (fun _ _ _ h => h) (by rfl) (by assumption) ?_ ?_
          rotate_left
          · (intro w0 hS0; go_simp <;> (try with_reducible rfl))
          try simp only [Act.put, List.setIfInBounds_toArray, List.set_cons_zero, List.set_cons_succ]
          refine wpAnyH_read (i := 24) (oi := { dst := some 134, op := Go.Op.fieldAddr 38 (Go.Operand.tmp 133) 1, type := 0, pos := "law.go:92", after := #[{ on := 23, ground := Go.Ground.data }, { on := 16, ground := Go.Ground.guard }], guard := some (16, true) }) ?_ rfl (by kernel_rfl) (by kernel_rfl) (by kernel_rfl) (fun _ _ _ h => h) (by rfl) (by assumption) ?_ ?_
          rotate_left
          · (intro w0 hS0; go_simp <;> (try with_reducible rfl))
          try simp only [Act.put, List.setIfInBounds_toArray, List.set_cons_zero, List.set_cons_succ]
          refine wpAnyH_read (i := 25) (oi := { dst := some 135, op := Go.Op.load 3 (Go.Operand.tmp 134), type := 3, pos := "law.go:92", after := #[{ on := 24, ground := Go.Ground.data }, { on := 16, ground := Go.Ground.guard }], guard := some (16, true) }) ?_ rfl (by kernel_rfl) (by kernel_rfl) (by kernel_rfl) (fun _ _ _ h => h) (by rfl) (by assumption) ?_ ?_
          rotate_left
          · (intro w0 hS0; (try obtain ⟨s1, s2⟩ := hS0); go_simp <;> (try with_reducible rfl))
          try simp only [Act.put, List.setIfInBounds_toArray, List.set_cons_zero, List.set_cons_succ]
          refine wpAnyH_read (i := 26) (oi := { dst := some 136, op := Go.Op.binOp Go.BinOp.neq 3 (Go.Operand.tmp 127) (Go.Operand.tmp 135) 3, type := 4, pos := "law.go:92", after := #[{ on := 17, ground := Go.Ground.data }, { on := 25, ground := Go.Ground.data }, { on := 16, ground := Go.Ground.guard }], guard := some (16, true) }) ?_ rfl (by kernel_rfl) (by kernel_rfl) (by kernel_rfl) (fun _ _ _ h => h) (by rfl) (by assumption) ?_ ?_
          rotate_left
          · (intro w0 hS0; go_simp <;> (try with_reducible rfl))
          try simp only [Act.put, List.setIfInBounds_toArray, List.set_cons_zero, List.set_cons_succ]
          refine wpAnyH_read (i := 27) (oi := { dst := some 137, op := Go.Op.pick (Go.Operand.tmp 126) (Go.Operand.tmp 136) (Go.Operand.const (Go.Value.bool false)), type := 4, pos := "law.go:92", after := #[{ on := 16, ground := Go.Ground.data }, { on := 26, ground := Go.Ground.data }, { on := 14, ground := Go.Ground.guard }], guard := some (14, false) }) ?_ rfl (by kernel_rfl) (by kernel_rfl) (by kernel_rfl) (fun _ _ _ h => h) (by rfl) (by assumption) ?_ ?_
          rotate_left
          · (intro w0 hS0; go_simp <;> (try with_reducible rfl))
          try simp only [Act.put, List.setIfInBounds_toArray, List.set_cons_zero, List.set_cons_succ]
          refine wpAnyH_read (i := 28) (oi := { dst := some 138, op := Go.Op.pick (Go.Operand.tmp 124) (Go.Operand.const (Go.Value.bool true)) (Go.Operand.tmp 137), type := 4, pos := "law.go:92", after := #[{ on := 14, ground := Go.Ground.data }, { on := 27, ground := Go.Ground.data }], guard := none }) ?_ rfl (by kernel_rfl) (by kernel_rfl) (by kernel_rfl) (fun _ _ _ h => h) (by rfl) (by assumption) ?_ ?_
          rotate_left
          · (intro w0 hS0; go_simp <;> (try with_reducible rfl))
          try simp only [Act.put, List.setIfInBounds_toArray, List.set_cons_zero, List.set_cons_succ]
          refine wpAnyH_read (i := 29) (oi := { dst := some 139, op := Go.Op.move (Go.Operand.tmp 138), type := 4, pos := "law.go:92", after := #[{ on := 28, ground := Go.Ground.data }, { on := 16, ground := Go.Ground.chain }], guard := none }) ?_ rfl (by kernel_rfl) (by kernel_rfl) (by kernel_rfl) (fun _ _ _ h => h) (by rfl) (by assumption) ?_ ?_
          rotate_left
          · (intro w0 hS0; go_simp <;> (try with_reducible rfl))
          try simp only [Act.put, List.setIfInBounds_toArray, List.set_cons_zero, List.set_cons_succ]
          refine wpAnyH_read (i := 30) (oi := { dst := some 140, op := Go.Op.move (Go.Operand.tmp 13), type := 4, pos := "law.go:92", after := #[{ on := 29, ground := Go.Ground.guard }], guard := some (29, false) }) ?_ rfl (by kernel_rfl) (by kernel_rfl) (by kernel_rfl) (fun _ _ _ h => h) (by rfl) (by assumption) ?_ ?_
          rotate_left
          · (intro w0 hS0; go_simp <;> (try with_reducible rfl))
          try simp only [Act.put, List.setIfInBounds_toArray, List.set_cons_zero, List.set_cons_succ]
          refine wpAnyH_read (i := 31) (oi := { dst := some 141, op := Go.Op.unOp Go.UnOp.not 4 (Go.Operand.tmp 140), type := 4, pos := "law.go:92", after := #[{ on := 30, ground := Go.Ground.data }, { on := 29, ground := Go.Ground.guard }], guard := some (29, false) }) ?_ rfl (by kernel_rfl) (by kernel_rfl) (by kernel_rfl) (fun _ _ _ h => h) (by rfl) (by assumption) ?_ ?_
          rotate_left
          · (intro w0 hS0; go_simp <;> (try with_reducible rfl))
          try simp only [Act.put, List.setIfInBounds_toArray, List.set_cons_zero, List.set_cons_succ]
          refine wpAnyH_read (i := 32) (oi := { dst := some 142, op := Go.Op.move (Go.Operand.tmp 141), type := 4, pos := "law.go:92", after := #[{ on := 31, ground := Go.Ground.data }, { on := 29, ground := Go.Ground.chain }, { on := 29, ground := Go.Ground.guard }], guard := some (29, false) }) ?_ rfl (by kernel_rfl) (by kernel_rfl) (by kernel_rfl) (fun _ _ _ h => h) (by rfl) (by assumption) ?_ ?_
          rotate_left
          · (intro w0 hS0; go_simp <;> (try with_reducible rfl))
          try simp only [Act.put, List.setIfInBounds_toArray, List.set_cons_zero, List.set_cons_succ]
          refine wpAnyH_pass (i := 33) (oi := { dst := some 143, op := Go.Op.move (Go.Operand.tmp 12), type := 3, pos := "law.go:92", after := #[{ on := 32, ground := Go.Ground.guard }], guard := some (32, true) }) rfl (by kernel_rfl) (by kernel_rfl) (by kernel_rfl) (fun _ _ _ h => h) (by rfl) (by assumption) ?_
          try simp only [Act.put, List.setIfInBounds_toArray, List.set_cons_zero, List.set_cons_succ]
          refine wpAnyH_pass (i := 34) (oi := { dst := some 144, op := Go.Op.binOp Go.BinOp.neq 3 (Go.Operand.tmp 143) (Go.Operand.const (Go.Value.int Go.IntKind.i64 0)) 3, type := 4, pos := "law.go:92", after := #[{ on := 33, ground := Go.Ground.data }, { on := 32, ground := Go.Ground.guard }], guard := some (32, true) }) rfl (by kernel_rfl) (by kernel_rfl) (by kernel_rfl) (fun _ _ _ h => h) (by rfl) (by assumption) ?_
          try simp only [Act.put, List.setIfInBounds_toArray, List.set_cons_zero, List.set_cons_succ]
          refine wpAnyH_read (i := 35) (oi := { dst := some 145, op := Go.Op.pick (Go.Operand.tmp 142) (Go.Operand.tmp 144) (Go.Operand.const (Go.Value.bool false)), type := 4, pos := "law.go:92", after := #[{ on := 32, ground := Go.Ground.data }, { on := 34, ground := Go.Ground.data }, { on := 29, ground := Go.Ground.guard }], guard := some (29, false) }) ?_ rfl (by kernel_rfl) (by kernel_rfl) (by kernel_rfl) (fun _ _ _ h => h) (by rfl) (by assumption) ?_ ?_
          rotate_left
          · (intro w0 hS0; go_simp <;> (try with_reducible rfl))
          try simp only [Act.put, List.setIfInBounds_toArray, List.set_cons_zero, List.set_cons_succ]
          refine wpAnyH_read (i := 36) (oi := { dst := some 146, op := Go.Op.pick (Go.Operand.tmp 139) (Go.Operand.const (Go.Value.bool true)) (Go.Operand.tmp 145), type := 4, pos := "law.go:92", after := #[{ on := 29, ground := Go.Ground.data }, { on := 35, ground := Go.Ground.data }], guard := none }) ?_ rfl (by kernel_rfl) (by kernel_rfl) (by kernel_rfl) (fun _ _ _ h => h) (by rfl) (by assumption) ?_ ?_
          rotate_left
          · (intro w0 hS0; go_simp <;> (try with_reducible rfl))
          try simp only [Act.put, List.setIfInBounds_toArray, List.set_cons_zero, List.set_cons_succ]
          refine wpAnyH_read (i := 37) (oi := { dst := some 147, op := Go.Op.move (Go.Operand.tmp 146), type := 4, pos := "law.go:92", after := #[{ on := 36, ground := Go.Ground.data }, { on := 32, ground := Go.Ground.chain }], guard := none }) ?_ rfl (by kernel_rfl) (by kernel_rfl) (by kernel_rfl) (fun _ _ _ h => h) (by rfl) (by assumption) ?_ ?_
          rotate_left
          · (intro w0 hS0; go_simp <;> (try with_reducible rfl))
          try simp only [Act.put, List.setIfInBounds_toArray, List.set_cons_zero, List.set_cons_succ]
          refine wpAnyH_read (i := 38) (oi := { dst := some 148, op := Go.Op.move (Go.Operand.tmp 5), type := 25, pos := "law.go:92", after := #[{ on := 37, ground := Go.Ground.guard }], guard := some (37, false) }) ?_ rfl (by kernel_rfl) (by kernel_rfl) (by kernel_rfl) (fun _ _ _ h => h) (by rfl) (by assumption) ?_ ?_
          rotate_left
          · (intro w0 hS0; go_simp <;> (try with_reducible rfl))
          try simp only [Act.put, List.setIfInBounds_toArray, List.set_cons_zero, List.set_cons_succ]
          refine wpAnyH_read (i := 39) (oi := { dst := some 149, op := Go.Op.move (Go.Operand.tmp 6), type := 27, pos := "law.go:92", after := #[{ on := 37, ground := Go.Ground.guard }], guard := some (37, false) }) ?_ rfl (by kernel_rfl) (by kernel_rfl) (by kernel_rfl) (fun _ _ _ h => h) (by rfl) (by assumption) ?_ ?_
          rotate_left
          · (intro w0 hS0; go_simp <;> (try with_reducible rfl))
          try simp only [Act.put, List.setIfInBounds_toArray, List.set_cons_zero, List.set_cons_succ]
          refine wpAnyH_read (i := 40) (oi := { dst := some 150, op := Go.Op.move (Go.Operand.tmp 1), type := 3, pos := "law.go:92", after := #[{ on := 37, ground := Go.Ground.guard }], guard := some (37, false) }) ?_ rfl (by kernel_rfl) (by kernel_rfl) (by kernel_rfl) (fun _ _ _ h => h) (by rfl) (by assumption) ?_ ?_
          rotate_left
          · (intro w0 hS0; go_simp <;> (try with_reducible rfl))
          try simp only [Act.put, List.setIfInBounds_toArray, List.set_cons_zero, List.set_cons_succ]
          refine wpAnyH_read (i := 42) (oi := { dst := some 152, op := Go.Op.move (Go.Operand.tmp 1), type := 3, pos := "law.go:92", after := #[{ on := 37, ground := Go.Ground.guard }], guard := some (37, false) }) ?_ rfl (by kernel_rfl) (by kernel_rfl) (by kernel_rfl) (fun _ _ _ h => h) (by rfl) (by assumption) ?_ ?_
          rotate_left
          · (intro w0 hS0; go_simp <;> (try with_reducible rfl))
          try simp only [Act.put, List.setIfInBounds_toArray, List.set_cons_zero, List.set_cons_succ]
          refine wpAnyH_one (i := 41) (o := { dst := some 151, op := Go.Op.call { callee := Go.Callee.value (Go.Operand.func 15), args := #[Go.Operand.tmp 149, Go.Operand.tmp 150], argTypes := #[27, 3] }, type := 28, pos := "law.go:92", after := #[{ on := 39, ground := Go.Ground.data }, { on := 40, ground := Go.Ground.data }, { on := 37, ground := Go.Ground.chain }, { on := 37, ground := Go.Ground.guard }], guard := some (37, false) }) (by kernel_rfl) rfl (by rfl) (fun K hK => ?_)
          go_simp
          refine (ref_due (HP2.out.1.rest ((Fr.refl (fun _ => False) _).drew)).ref HP2.out.1.nodup hT2n now).mono ?_
          rintro e w8 ⟨⟨A7, c7, rfl, o7⟩, b7⟩
          have F7 := Lib.hid (And.intro (undrew b7) o7)
          clear b7 o7
          go_wp2_with fail
          refine hK.out _ _ ?_ (fun hHeld => ?_)
          · exact ⟨(((Fr.of_below F7.out.1).cell (X := fun _ => False) (p := ⟨B, 0, none⟩) HP2.out.1.lt.2.2 fun e => e)).trans hHeld.1, ((Fr.of_below F7.out.1).cell (X := fun _ => False) (p := ⟨g2, o2 + i2 * 2 + 1, none⟩) HC2.out fun e => e).trans hHeld.2⟩
          clear hK K
          try simp only [Act.put, List.setIfInBounds_toArray, List.set_cons_zero, List.set_cons_succ]
          refine wpAnyH_one (i := 43) (o := { dst := some 153, op := Go.Op.call { callee := Go.Callee.value (Go.Operand.func 21), args := #[Go.Operand.tmp 148, Go.Operand.tmp 151, Go.Operand.tmp 152], argTypes := #[25, 28, 3] }, type := 4, pos := "law.go:92", after := #[{ on := 38, ground := Go.Ground.data }, { on := 41, ground := Go.Ground.data }, { on := 42, ground := Go.Ground.data }, { on := 41, ground := Go.Ground.chain }, { on := 37, ground := Go.Ground.guard }], guard := some (37, false) }) (by kernel_rfl) rfl (by rfl) (fun K hK => ?_)
          go_simp
          refine (HSA.out _ F7.out.1 A7 c7 (reads_ownFS F7.out.2)).mono ?_
          rintro e w9 ⟨rfl, b9⟩
          have PZ := Lib.hid ((HP2.out.1.still F7.out.1).still b9)
          have F9 := Lib.hid b9
          clear b9
          go_wp2_with fail
          refine hK.out _ _ ?_ (fun hHeld => ?_)
          · exact ⟨(((Fr.of_below F9.out).cell (X := fun _ => False) (p := ⟨B, 0, none⟩) (HP2.out.1.still F7.out.1).lt.2.2 fun e => e)).trans hHeld.1, ((Fr.of_below F9.out).cell (X := fun _ => False) (p := ⟨g2, o2 + i2 * 2 + 1, none⟩) (Nat.lt_of_lt_of_le HC2.out F7.out.1.size) fun e => e).trans hHeld.2⟩
          clear hK K
          try simp only [Act.put, List.setIfInBounds_toArray, List.set_cons_zero, List.set_cons_succ]
          refine wpAnyH_read (i := 44) (oi := { dst := some 154, op := Go.Op.unOp Go.UnOp.not 4 (Go.Operand.tmp 153), type := 4, pos := "law.go:92", after := #[{ on := 43, ground := Go.Ground.data }, { on := 37, ground := Go.Ground.guard }], guard := some (37, false) }) ?_ rfl (by kernel_rfl) (by kernel_rfl) (by kernel_rfl) (fun _ _ _ h => h) (by rfl) (by assumption) ?_ ?_
          rotate_left
          · (intro w0 hS0; go_simp <;> (try with_reducible rfl))
          try simp only [Act.put, List.setIfInBounds_toArray, List.set_cons_zero, List.set_cons_succ]
          refine wpAnyH_read (i := 45) (oi := { dst := some 155, op := Go.Op.pick (Go.Operand.tmp 147) (Go.Operand.const (Go.Value.bool true)) (Go.Operand.tmp 154), type := 4, pos := "law.go:92", after := #[{ on := 37, ground := Go.Ground.data }, { on := 44, ground := Go.Ground.data }], guard := none }) ?_ rfl (by kernel_rfl) (by kernel_rfl) (by kernel_rfl) (fun _ _ _ h => h) (by rfl) (by assumption) ?_ ?_
          rotate_left
          · (intro w0 hS0; go_simp <;> (try with_reducible rfl))
          try simp only [Act.put, List.setIfInBounds_toArray, List.set_cons_zero, List.set_cons_succ]
          refine wpAnyH_done (by kernel_rfl) ?_ _
          go_wp2_with fail
          go_roundw
          case rel => exact ⟨j + 1, T2, by go_num, by omega, Lib.hid ⟨HP2.out.2, PZ.out⟩⟩
          case measure => simp [RowKit.intOf]; omega
    · obtain rfl : j = l.length := by omega
      have p1 : ¬ ((l.length : Int) < (l.length : Int)) := by omega
      have hP := HP.out.2
      have hTn : T.length ≤ 1000000 := by have := HP.out.1; omega
      have HN := Lib.hid (tim_nextS (.inr ⟨_, t, b, rfl, hP.tab⟩))
      have HPP := Lib.hid hP
      clear hP
      go_wp2_with fail
      refine HN.out.mono ?_
      rintro e w5 ⟨⟨ys, hys, rfl⟩, b5⟩
      have P5 := Lib.hid (HPP.out.still b5)
      have HY := Lib.hid hys
      clear hys b5
      have hdue := ref_due P5.out.ref HPP.out.nodup hTn 9223372036854775807
      have hokT := HPP.out.okT
      have hnx := next_due (M := 9223372036854775807) HPP.out.nodup HY.out fun p hp => by
        exact (bounds_i64 (hokT p hp).2).2
      rcases hnx with ⟨hm, hD⟩ | ⟨kp, ap, rest, hm, hD⟩
      · rw [hm]
        unfold DueR at hdue
        rw [hD] at hdue
        have HDU := Lib.hid hdue
        clear hdue hokT hm hD
        unfold fstOS kVS
        dsimp only [Option.getD, Option.isSome, zeroKS]
        have hb0 : bs ([] : List UInt8) = ⟨#[]⟩ := rfl
        rw [hb0]
        go_wp2_with fail
        refine HDU.out.mono ?_
        rintro e w6 ⟨⟨A6, c6, rfl, o6⟩, b6⟩
        have HZ := Lib.hid (P5.out.still b6).below
        clear o6 b6
        go_wp2_with fail
        go_ret
        exact ⟨rfl, HZ.out⟩
      · rw [hm]
        unfold DueR at hdue
        rw [hD] at hdue
        have HDU := Lib.hid hdue
        clear hdue hokT hm hD
        unfold fstOS kVS
        dsimp only [Option.getD, Option.isSome]
        go_wp2_with fail
        refine HDU.out.mono ?_
        rintro e w6 ⟨⟨A6, c6, rfl, o6⟩, b6⟩
        obtain ⟨g6, p6, rfl, hg6, hc6⟩ := reads_ownFS o6 (by simp)
        obtain ⟨u1, u2⟩ := hc6 0 (by simp)
        rw [Nat.zero_mul, Nat.add_zero, List.getElem_cons_zero] at u1
        rw [Nat.zero_mul, Nat.add_zero, List.getElem_cons_zero] at u2
        unfold kVS at u1
        dsimp only at u1 u2
        have HZ := Lib.hid (P5.out.still b6).below
        obtain ⟨n, hn⟩ : ∃ n, ((kp, ap) :: rest).length = n := ⟨_, rfl⟩
        have hn0 : (0 : Int) < (n : Int) := by rw [← hn]; simp
        rw [hn]
        clear o6 b6 hc6 hg6 hn
        go_wp2_with fail
        go_ret
        exact ⟨rfl, HZ.out⟩
end Go.Proofs.Ytbgmjieagnmpkaa
