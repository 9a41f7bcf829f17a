/- Layer 9: TimerDue. -/
import Derived.Test.YtbgmjieagnmpkaaTimL
import Derived.Test.YtbgmjieagnmpkaaReg
namespace Go.Proofs.Ytbgmjieagnmpkaa
set_option linter.unusedVariables false
set_option linter.unusedSimpArgs false
open Go Go.RowKit Go.Maps Go.Sort Go.Shelf Go.Lib

/-- the table of the first k numbers -/
def DueG (w : World) (t b : Nat) (l : List Int) (k : Nat) (W : World) : Prop := RowKit.Below w.heap.size w W ∧ TabI w.heap.size W t b (idxK l k)
set_option maxRecDepth 100000 in
set_option maxHeartbeats 16000000 in
theorem timerDue_main (A : Option Addr) (l : List Int) (cc : Nat) (now : Int) (w : World) (hl : l.length ≤ 60) (hA : NumsQ w A l) :
    Calls Try.prog 4 #[.slice A l.length cc, .int .i64 now] w fun e w' => e = .returned (.bool true) ∧ RowKit.Below w.heap.size w w' := by
  have HA := Lib.hid hA
  clear hA
  have mixed : (Try.prog).follows Departure.mixedOrders = true := by kernel_rfl
  have n5 : decide ((60 : Int) < (l.length : Int)) = false := by simp; omega
  have n6 : ¬ ((60 : Int) < (l.length : Int)) := by omega
  go_enter Try.func4, Try.ntmps4
  go_wp2_with fail
  refine (awake9 w).mono ?_
  rintro e w1 ⟨rfl, b1⟩
  have B1 := Lib.hid b1
  clear b1
  go_wp2_with fail
  refine (tim_newI w1).mono ?_
  rintro e w2 ⟨t, b, rfl, h2, b2⟩
  have H0 : Hid (DueG w t b l 0 w2) := by
    have hz := B1.out.size
    exact ⟨B1.out.trans (b2.mono hz), Nat.le_trans hz h2.1, Nat.le_trans hz h2.2.1, h2.2.2⟩
  clear h2 b2
  go_wp2_with fail
  go_loopw [6, 7] (fun n i wr => ∃ k : Nat, i = .int .i64 k ∧ k ≤ l.length ∧ n = .int .i64 (cntK l now k : Nat) ∧ Hid (DueG w t b l k wr)) (fun _ i _ => l.length - (RowKit.intOf i).toNat)
  case atStart => exact ⟨0, rfl, Nat.zero_le _, rfl, H0⟩
  case round =>
    obtain ⟨k, rfl, hk, rfl, HR⟩ := hrel
    clear H0
    by_cases hlt : k < l.length
    · obtain ⟨g, o, rfl, hat⟩ := numsQ_at HA.out (by omega)
      obtain ⟨hb, hT⟩ := HR.out
      have a1 := hat wr hb k hlt
      have hwf : (Lit.int .i64 (l.getD k 0)).wf = true := HA.out.1 _ (by simp [List.getD, hlt])
      have hcs := cntK_succ l now k
      have hcl := cntK_le l now k
      have hset := tim_setI (k := (k : Int)) (v := l.getD k 0) hT (by unfold OkKI; exact WalkArith.wf_i64 ⟨by omega, by omega⟩) hwf (by rw [idxK_len]; omega)
      rw [idxK_set] at hset
      obtain ⟨x, hx⟩ : ∃ x, l.getD k 0 = x := ⟨_, rfl⟩
      rw [hx] at a1 hset hcs
      obtain ⟨c, hc⟩ : ∃ c, cntK l now k = c := ⟨_, rfl⟩
      obtain ⟨c2, hc2⟩ : ∃ c2, cntK l now (k + 1) = c2 := ⟨_, rfl⟩
      rw [hc, hc2] at hcs
      rw [hc] at hcl ⊢
      have hat2 : ∀ W, RowKit.Below w.heap.size w W → W.cell? ⟨g, o + k, none⟩ = some (.int .i64 x) := fun W hW => by rw [← hx]; exact hat W hW k hlt
      have HS := Lib.hid hset
      have HC := Lib.hid (And.intro hc2 (And.intro hat2 hb))
      clear hset hat hb hT hwf hx hc hc2 hat2
      unfold kVI at HS
      go_wp2_with fail
      refine HS.out.mono ?_
      rintro e w4 ⟨rfl, h4, f4⟩
      have hb4 : RowKit.Below w.heap.size w w4 := HC.out.2.2.trans (f4.below HC.out.2.2.size fun j _ e => by rw [e]; exact h4.2.1)
      have a4 := HC.out.2.1 w4 hb4
      have HN : Hid (DueG w t b l (k + 1) w4) := ⟨hb4, h4⟩
      clear h4 f4 hb4 a1 HS
      by_cases hle : x ≤ now
      · rw [if_pos hle] at hcs
        go_wp2_with fail
        go_roundw
        case rel => exact ⟨k + 1, by go_num, by omega, by rw [HC.out.1, hcs]; go_num, HN⟩
        case measure => simp [RowKit.intOf]; omega
      · rw [if_neg hle] at hcs
        go_wp2_with fail
        go_roundw
        case rel => exact ⟨k + 1, by go_num, by omega, by rw [HC.out.1, hcs]; go_num, HN⟩
        case measure => simp [RowKit.intOf]; omega
    · obtain rfl : k = l.length := by omega
      have p1 : ¬ ((l.length : Int) < (l.length : Int)) := by omega
      obtain ⟨hb, hT⟩ := HR.out
      have htk := tim_takeI hT (by rw [idxK_len]; omega) now
      have hparts := len_parts (idxK l l.length) now
      rw [idxK_len] at hparts
      have hcl := cntK_le l now l.length
      have hdl : (dueMI (idxK l l.length) now).length = cntK l now l.length := by
        unfold dueMI cntK
        rw [(sortTI_perm _).length_eq]
      obtain ⟨c, hc⟩ : ∃ c, cntK l now l.length = c := ⟨_, rfl⟩
      have hp2 : ((idxK l l.length).filter fun p => decide (now < p.2)).length = l.length - c := by unfold cntK at hc; omega
      rw [hc] at hdl hcl ⊢
      obtain ⟨xs, hxs⟩ : ∃ xs, dueMI (idxK l l.length) now = xs := ⟨_, rfl⟩
      obtain ⟨T2, hT2⟩ : ∃ T2, ((idxK l l.length).filter fun p => decide (now < p.2)) = T2 := ⟨_, rfl⟩
      unfold TakePI at htk
      rw [hxs, hT2] at htk
      rw [hxs] at hdl
      rw [hT2] at hp2
      have HT := Lib.hid htk
      have HX := Lib.hid (And.intro hxs (And.intro hT2 (And.intro hb hT)))
      clear hb hT htk hparts hc hxs hT2 HR
      go_wp2_with fail
      refine HT.out.mono ?_
      rintro e w5 ⟨⟨v, rfl, o5⟩, h5, f5⟩
      obtain ⟨A5, c5, ev⟩ := row_slice o5
      subst ev
      have hlen := tim_lenI h5
      rw [hp2] at hlen
      have hnext : ∀ W, RowKit.Below w5.heap.size w5 W → Calls Try.prog 27 #[.pointer (some ⟨t, 0, none⟩)] W (NextPI T2 W) := fun W hW => tim_nextI (.inr ⟨_, t, b, rfl, tabI_below h5 hW⟩)
      have hb5 : RowKit.Below w.heap.size w w5 := HX.out.2.2.1.trans (f5.below HX.out.2.2.1.size fun j _ e => by rw [e]; exact h5.2.1)
      have hml : (xs.map (·.1)).length = c := by rw [List.length_map, hdl]
      rw [hml] at o5 ⊢
      have hO : OwnKI wr.heap.size w5 (.slice A5 c c5) (xs.map (·.1)) := o5
      have HL := Lib.hid (And.intro hlen (And.intro hnext (And.intro hb5 (And.intro hO (And.intro h5 hml)))))
      have hsub : IntKind.i64.wrap ((l.length : Int) - (c : Int)) = ((l.length - c : Nat) : Int) := by
        rw [IntWalk.i64_in _ ⟨by omega, by omega⟩]; omega
      clear o5 hlen hnext hb5 hO h5 f5 hml HT
      go_wp2_with fail
      refine HL.out.1.mono ?_
      rintro e w6 ⟨rfl, rfl⟩
      have H6 : Hid (RowKit.Below w6.heap.size w6 w6) := Below.refl _ _
      go_wp2_with fail
      go_loopw [9, 10] (fun i _ wr => ∃ k : Nat, i = .int .i64 k ∧ k ≤ c ∧ Hid (RowKit.Below w6.heap.size w6 wr)) (fun i _ _ => c - (RowKit.intOf i).toNat)
      case atStart => exact ⟨0, rfl, Nat.zero_le _, H6⟩
      case round =>
        obtain ⟨i, rfl, hi, HB⟩ := hrel
        clear H6
        by_cases hlt : i < c
        · obtain ⟨hlen, hnext, hb5, hO, h5, hml⟩ := HL.out
          obtain ⟨hxs, hT2, hb, hT⟩ := HX.out
          have hix : i < xs.length := by rw [List.length_map] at hml; omega
          obtain ⟨g2, o2, rfl, hg2, hcell⟩ := readsK_I hO (by omega)
          have hmem : ∀ (q : Nat) (hq : q < xs.length), ∃ jq : Nat, jq < l.length ∧ xs[q] = ((jq : Int), l.getD jq 0) ∧ l.getD jq 0 ≤ now := fun q hq => by
            have h1 : xs[q] ∈ dueMI (idxK l l.length) now := by rw [hxs]; exact List.getElem_mem hq
            obtain ⟨h2, h3⟩ := dueMI_mem.1 h1
            obtain ⟨jq, h4, h5⟩ := idxK_mem h2
            exact ⟨jq, h4, h5, by rw [h5] at h3; exact h3⟩
          have hgot : ∀ (q : Nat) (hq : q < xs.length) (jq : Nat), xs[q] = ((jq : Int), l.getD jq 0) → wr.cell? ⟨g2, o2 + q, none⟩ = some (.int .i64 (jq : Int)) := fun q hq jq e => by
            have h1 := hcell q (by rw [List.length_map]; exact hq)
            rw [List.getElem_map, e] at h1
            exact (World.cell?_of_block (w := w6) (w' := wr) (a := ⟨g2, o2 + q, none⟩) (HB.out.block g2 hg2)).trans h1
          obtain ⟨j, hj1, hj2, hj3⟩ := hmem i hix
          obtain ⟨g, o, rfl, hat⟩ := numsQ_at HA.out (by omega)
          have hbw : RowKit.Below w.heap.size w wr := hb5.trans (HB.out.mono hb5.size)
          have hgk := hgot i hix j hj2
          have hj := hat wr hbw j hj1
          have p0 : (i : Int) < (c : Int) := by omega
          have q1 : decide ((j : Int) < 0) = false := by simp
          have q2 : decide (l.length ≤ j) = false := by simp; omega
          obtain ⟨la, hla⟩ : ∃ la, l.getD j 0 = la := ⟨_, rfl⟩
          rw [hla] at hj hj2 hj3
          have q3 : decide (now < la) = false := by simp; omega
          have r0 : (0 : Int) ≤ (j : Int) := by omega
          have r1 : (j : Int) < (l.length : Int) := by omega
          rcases Nat.eq_zero_or_pos i with h0 | h0
          · have q4 : decide (0 < i) = false := by simp; omega
            clear hlen hnext hb5 hO h5 hml hxs hT2 hb hT hcell hmem hgot hat hbw hla hj2 hj3 h0
            go_wp2_with fail
            refine wp_region_held_drew (S := fun V => V.cell? ⟨g, o + j, none⟩ = some (.int .i64 la)) (by kernel_rfl) (by exact hj) (fun hHeld => ?_)
            refine wpAnyH_read (i := 0) (oi := { dst := some 67, op := Go.Op.move (Go.Operand.tmp 10), type := 3, pos := "law.go:124", after := #[], guard := none }) ?_ rfl (by kernel_rfl) (by kernel_rfl) (by kernel_rfl) (fun _ _ _ h => h) (by rfl) (by assumption) ?_ ?_
            rotate_left
            · (intro w0 hS0; (try dsimp only at hS0); (try obtain ⟨s1, s2, s3⟩ := hS0); go_simp <;> (try with_reducible rfl))
            try simp only [Act.put, List.setIfInBounds_toArray, List.set_cons_zero, List.set_cons_succ]
            refine wpAnyH_read (i := 1) (oi := { dst := some 68, op := Go.Op.binOp Go.BinOp.lss 3 (Go.Operand.tmp 67) (Go.Operand.const (Go.Value.int Go.IntKind.i64 0)) 3, type := 4, pos := "law.go:124", after := #[{ on := 0, ground := Go.Ground.data }], guard := none }) ?_ rfl (by kernel_rfl) (by kernel_rfl) (by kernel_rfl) (fun _ _ _ h => h) (by rfl) (by assumption) ?_ ?_
            rotate_left
            · (intro w0 hS0; (try dsimp only at hS0); (try obtain ⟨s1, s2, s3⟩ := hS0); go_simp <;> (try with_reducible rfl))
            try simp only [Act.put, List.setIfInBounds_toArray, List.set_cons_zero, List.set_cons_succ]
            refine wpAnyH_read (i := 2) (oi := { dst := some 69, op := Go.Op.move (Go.Operand.tmp 68), type := 4, pos := "law.go:124", after := #[{ on := 1, ground := Go.Ground.data }], guard := none }) ?_ rfl (by kernel_rfl) (by kernel_rfl) (by kernel_rfl) (fun _ _ _ h => h) (by rfl) (by assumption) ?_ ?_
            rotate_left
            · (intro w0 hS0; (try dsimp only at hS0); (try obtain ⟨s1, s2, s3⟩ := hS0); go_simp <;> (try with_reducible rfl))
            try simp only [Act.put, List.setIfInBounds_toArray, List.set_cons_zero, List.set_cons_succ]
            refine wpAnyH_read (i := 3) (oi := { dst := some 70, op := Go.Op.move (Go.Operand.tmp 10), type := 3, pos := "law.go:124", after := #[{ on := 2, ground := Go.Ground.guard }], guard := some (2, false) }) ?_ rfl (by kernel_rfl) (by kernel_rfl) (by kernel_rfl) (fun _ _ _ h => h) (by rfl) (by assumption) ?_ ?_
            rotate_left
            · (intro w0 hS0; (try dsimp only at hS0); (try obtain ⟨s1, s2, s3⟩ := hS0); go_simp <;> (try with_reducible rfl))
            try simp only [Act.put, List.setIfInBounds_toArray, List.set_cons_zero, List.set_cons_succ]
            refine wpAnyH_read (i := 4) (oi := { dst := some 71, op := Go.Op.move (Go.Operand.tmp 0), type := 48, pos := "law.go:124", after := #[{ on := 2, ground := Go.Ground.guard }], guard := some (2, false) }) ?_ rfl (by kernel_rfl) (by kernel_rfl) (by kernel_rfl) (fun _ _ _ h => h) (by rfl) (by assumption) ?_ ?_
            rotate_left
            · (intro w0 hS0; (try dsimp only at hS0); (try obtain ⟨s1, s2, s3⟩ := hS0); go_simp <;> (try with_reducible rfl))
            try simp only [Act.put, List.setIfInBounds_toArray, List.set_cons_zero, List.set_cons_succ]
            refine wpAnyH_read (i := 5) (oi := { dst := some 72, op := Go.Op.call { callee := Go.Callee.builtin Go.Builtin.len, args := #[Go.Operand.tmp 71], argTypes := #[48] }, type := 3, pos := "law.go:124", after := #[{ on := 4, ground := Go.Ground.data }, { on := 2, ground := Go.Ground.guard }], guard := some (2, false) }) ?_ rfl (by kernel_rfl) (by kernel_rfl) (by kernel_rfl) (fun _ _ _ h => h) (by rfl) (by assumption) ?_ ?_
            rotate_left
            · (intro w0 hS0; (try dsimp only at hS0); (try obtain ⟨s1, s2, s3⟩ := hS0); go_simp <;> (try with_reducible rfl))
            try simp only [Act.put, List.setIfInBounds_toArray, List.set_cons_zero, List.set_cons_succ]
            refine wpAnyH_read (i := 6) (oi := { dst := some 73, op := Go.Op.binOp Go.BinOp.geq 3 (Go.Operand.tmp 70) (Go.Operand.tmp 72) 3, type := 4, pos := "law.go:124", after := #[{ on := 3, ground := Go.Ground.data }, { on := 5, ground := Go.Ground.data }, { on := 2, ground := Go.Ground.guard }], guard := some (2, false) }) ?_ rfl (by kernel_rfl) (by kernel_rfl) (by kernel_rfl) (fun _ _ _ h => h) (by rfl) (by assumption) ?_ ?_
            rotate_left
            · (intro w0 hS0; (try dsimp only at hS0); (try obtain ⟨s1, s2, s3⟩ := hS0); go_simp <;> (try with_reducible rfl))
            try simp only [Act.put, List.setIfInBounds_toArray, List.set_cons_zero, List.set_cons_succ]
            refine wpAnyH_read (i := 7) (oi := { dst := some 74, op := Go.Op.pick (Go.Operand.tmp 69) (Go.Operand.const (Go.Value.bool true)) (Go.Operand.tmp 73), type := 4, pos := "law.go:124", after := #[{ on := 2, ground := Go.Ground.data }, { on := 6, ground := Go.Ground.data }], guard := none }) ?_ rfl (by kernel_rfl) (by kernel_rfl) (by kernel_rfl) (fun _ _ _ h => h) (by rfl) (by assumption) ?_ ?_
            rotate_left
            · (intro w0 hS0; (try dsimp only at hS0); (try obtain ⟨s1, s2, s3⟩ := hS0); go_simp <;> (try with_reducible rfl))
            try simp only [Act.put, List.setIfInBounds_toArray, List.set_cons_zero, List.set_cons_succ]
            refine wpAnyH_read (i := 8) (oi := { dst := some 75, op := Go.Op.move (Go.Operand.tmp 74), type := 4, pos := "law.go:124", after := #[{ on := 7, ground := Go.Ground.data }, { on := 2, ground := Go.Ground.chain }], guard := none }) ?_ rfl (by kernel_rfl) (by kernel_rfl) (by kernel_rfl) (fun _ _ _ h => h) (by rfl) (by assumption) ?_ ?_
            rotate_left
            · (intro w0 hS0; (try dsimp only at hS0); (try obtain ⟨s1, s2, s3⟩ := hS0); go_simp <;> (try with_reducible rfl))
            try simp only [Act.put, List.setIfInBounds_toArray, List.set_cons_zero, List.set_cons_succ]
            refine wpAnyH_read (i := 9) (oi := { dst := some 76, op := Go.Op.move (Go.Operand.tmp 0), type := 48, pos := "law.go:124", after := #[{ on := 8, ground := Go.Ground.guard }], guard := some (8, false) }) ?_ rfl (by kernel_rfl) (by kernel_rfl) (by kernel_rfl) (fun _ _ _ h => h) (by rfl) (by assumption) ?_ ?_
            rotate_left
            · (intro w0 hS0; (try dsimp only at hS0); (try obtain ⟨s1, s2, s3⟩ := hS0); go_simp <;> (try with_reducible rfl))
            try simp only [Act.put, List.setIfInBounds_toArray, List.set_cons_zero, List.set_cons_succ]
            refine wpAnyH_read (i := 10) (oi := { dst := some 77, op := Go.Op.move (Go.Operand.tmp 10), type := 3, pos := "law.go:124", after := #[{ on := 8, ground := Go.Ground.guard }], guard := some (8, false) }) ?_ rfl (by kernel_rfl) (by kernel_rfl) (by kernel_rfl) (fun _ _ _ h => h) (by rfl) (by assumption) ?_ ?_
            rotate_left
            · (intro w0 hS0; (try dsimp only at hS0); (try obtain ⟨s1, s2, s3⟩ := hS0); go_simp <;> (try with_reducible rfl))
            try simp only [Act.put, List.setIfInBounds_toArray, List.set_cons_zero, List.set_cons_succ]
            refine wpAnyH_read (i := 11) (oi := { dst := some 78, op := Go.Op.indexAddr 48 (Go.Operand.tmp 76) (Go.Operand.tmp 77), type := 0, pos := "law.go:124", after := #[{ on := 9, ground := Go.Ground.data }, { on := 10, ground := Go.Ground.data }, { on := 8, ground := Go.Ground.guard }], guard := some (8, false) }) ?_ rfl (by kernel_rfl) (by kernel_rfl) (by kernel_rfl) (fun _ _ _ h => h) (by rfl) (by assumption) ?_ ?_
            rotate_left
            · (intro w0 hS0; (try dsimp only at hS0); (try obtain ⟨s1, s2, s3⟩ := hS0); go_simp <;> (try with_reducible rfl))
            try simp only [Act.put, List.setIfInBounds_toArray, List.set_cons_zero, List.set_cons_succ]
            refine wpAnyH_read (i := 13) (oi := { dst := some 80, op := Go.Op.move (Go.Operand.tmp 1), type := 3, pos := "law.go:124", after := #[{ on := 8, ground := Go.Ground.guard }], guard := some (8, false) }) ?_ rfl (by kernel_rfl) (by kernel_rfl) (by kernel_rfl) (fun _ _ _ h => h) (by rfl) (by assumption) ?_ ?_
            rotate_left
            · (intro w0 hS0; (try dsimp only at hS0); (try obtain ⟨s1, s2, s3⟩ := hS0); go_simp <;> (try with_reducible rfl))
            try simp only [Act.put, List.setIfInBounds_toArray, List.set_cons_zero, List.set_cons_succ]
            refine wpAnyH_read (i := 12) (oi := { dst := some 79, op := Go.Op.load 3 (Go.Operand.tmp 78), type := 3, pos := "law.go:124", after := #[{ on := 11, ground := Go.Ground.data }, { on := 8, ground := Go.Ground.guard }], guard := some (8, false) }) ?_ rfl (by kernel_rfl) (by kernel_rfl) (by kernel_rfl) (fun _ _ _ h => h) (by rfl) (by assumption) ?_ ?_
            rotate_left
            · (intro w0 hS0; (try dsimp only at hS0); (try obtain ⟨s1, s2, s3⟩ := hS0); go_simp <;> (try with_reducible rfl))
            try simp only [Act.put, List.setIfInBounds_toArray, List.set_cons_zero, List.set_cons_succ]
            refine wpAnyH_read (i := 14) (oi := { dst := some 81, op := Go.Op.binOp Go.BinOp.gtr 3 (Go.Operand.tmp 79) (Go.Operand.tmp 80) 3, type := 4, pos := "law.go:124", after := #[{ on := 12, ground := Go.Ground.data }, { on := 13, ground := Go.Ground.data }, { on := 8, ground := Go.Ground.guard }], guard := some (8, false) }) ?_ rfl (by kernel_rfl) (by kernel_rfl) (by kernel_rfl) (fun _ _ _ h => h) (by rfl) (by assumption) ?_ ?_
            rotate_left
            · (intro w0 hS0; (try dsimp only at hS0); (try obtain ⟨s1, s2, s3⟩ := hS0); go_simp <;> (try with_reducible rfl))
            try simp only [Act.put, List.setIfInBounds_toArray, List.set_cons_zero, List.set_cons_succ]
            refine wpAnyH_read (i := 15) (oi := { dst := some 82, op := Go.Op.pick (Go.Operand.tmp 75) (Go.Operand.const (Go.Value.bool true)) (Go.Operand.tmp 81), type := 4, pos := "law.go:124", after := #[{ on := 8, ground := Go.Ground.data }, { on := 14, ground := Go.Ground.data }], guard := none }) ?_ rfl (by kernel_rfl) (by kernel_rfl) (by kernel_rfl) (fun _ _ _ h => h) (by rfl) (by assumption) ?_ ?_
            rotate_left
            · (intro w0 hS0; (try dsimp only at hS0); (try obtain ⟨s1, s2, s3⟩ := hS0); go_simp <;> (try with_reducible rfl))
            try simp only [Act.put, List.setIfInBounds_toArray, List.set_cons_zero, List.set_cons_succ]
            refine wpAnyH_read (i := 16) (oi := { dst := some 83, op := Go.Op.move (Go.Operand.tmp 82), type := 4, pos := "law.go:124", after := #[{ on := 15, ground := Go.Ground.data }, { on := 8, ground := Go.Ground.chain }], guard := none }) ?_ rfl (by kernel_rfl) (by kernel_rfl) (by kernel_rfl) (fun _ _ _ h => h) (by rfl) (by assumption) ?_ ?_
            rotate_left
            · (intro w0 hS0; (try dsimp only at hS0); (try obtain ⟨s1, s2, s3⟩ := hS0); go_simp <;> (try with_reducible rfl))
            try simp only [Act.put, List.setIfInBounds_toArray, List.set_cons_zero, List.set_cons_succ]
            refine wpAnyH_read (i := 17) (oi := { dst := some 84, op := Go.Op.move (Go.Operand.tmp 9), type := 3, pos := "law.go:124", after := #[{ on := 16, ground := Go.Ground.guard }], guard := some (16, false) }) ?_ rfl (by kernel_rfl) (by kernel_rfl) (by kernel_rfl) (fun _ _ _ h => h) (by rfl) (by assumption) ?_ ?_
            rotate_left
            · (intro w0 hS0; (try dsimp only at hS0); (try obtain ⟨s1, s2, s3⟩ := hS0); go_simp <;> (try with_reducible rfl))
            try simp only [Act.put, List.setIfInBounds_toArray, List.set_cons_zero, List.set_cons_succ]
            refine wpAnyH_read (i := 18) (oi := { dst := some 85, op := Go.Op.binOp Go.BinOp.gtr 3 (Go.Operand.tmp 84) (Go.Operand.const (Go.Value.int Go.IntKind.i64 0)) 3, type := 4, pos := "law.go:124", after := #[{ on := 17, ground := Go.Ground.data }, { on := 16, ground := Go.Ground.guard }], guard := some (16, false) }) ?_ rfl (by kernel_rfl) (by kernel_rfl) (by kernel_rfl) (fun _ _ _ h => h) (by rfl) (by assumption) ?_ ?_
            rotate_left
            · (intro w0 hS0; (try dsimp only at hS0); (try obtain ⟨s1, s2, s3⟩ := hS0); go_simp <;> (try with_reducible rfl))
            try simp only [Act.put, List.setIfInBounds_toArray, List.set_cons_zero, List.set_cons_succ]
            refine wpAnyH_read (i := 19) (oi := { dst := some 86, op := Go.Op.move (Go.Operand.tmp 85), type := 4, pos := "law.go:124", after := #[{ on := 18, ground := Go.Ground.data }, { on := 16, ground := Go.Ground.chain }, { on := 16, ground := Go.Ground.guard }], guard := some (16, false) }) ?_ rfl (by kernel_rfl) (by kernel_rfl) (by kernel_rfl) (fun _ _ _ h => h) (by rfl) (by assumption) ?_ ?_
            rotate_left
            · (intro w0 hS0; (try dsimp only at hS0); (try obtain ⟨s1, s2, s3⟩ := hS0); go_simp <;> (try with_reducible rfl))
            try simp only [Act.put, List.setIfInBounds_toArray, List.set_cons_zero, List.set_cons_succ]
            refine wpAnyH_pass (i := 20) (oi := { dst := some 87, op := Go.Op.move (Go.Operand.tmp 0), type := 48, pos := "law.go:124", after := #[{ on := 19, ground := Go.Ground.guard }], guard := some (19, true) }) rfl (by kernel_rfl) (by kernel_rfl) (by kernel_rfl) (fun _ _ _ h => h) (by rfl) (by assumption) ?_
            try simp only [Act.put, List.setIfInBounds_toArray, List.set_cons_zero, List.set_cons_succ]
            refine wpAnyH_pass (i := 21) (oi := { dst := some 88, op := Go.Op.move (Go.Operand.tmp 8), type := 48, pos := "law.go:124", after := #[{ on := 19, ground := Go.Ground.guard }], guard := some (19, true) }) rfl (by kernel_rfl) (by kernel_rfl) (by kernel_rfl) (fun _ _ _ h => h) (by rfl) (by assumption) ?_
            try simp only [Act.put, List.setIfInBounds_toArray, List.set_cons_zero, List.set_cons_succ]
            refine wpAnyH_pass (i := 22) (oi := { dst := some 89, op := Go.Op.move (Go.Operand.tmp 9), type := 3, pos := "law.go:124", after := #[{ on := 19, ground := Go.Ground.guard }], guard := some (19, true) }) rfl (by kernel_rfl) (by kernel_rfl) (by kernel_rfl) (fun _ _ _ h => h) (by rfl) (by assumption) ?_
            try simp only [Act.put, List.setIfInBounds_toArray, List.set_cons_zero, List.set_cons_succ]
            refine wpAnyH_pass (i := 23) (oi := { dst := some 90, op := Go.Op.binOp Go.BinOp.sub 3 (Go.Operand.tmp 89) (Go.Operand.const (Go.Value.int Go.IntKind.i64 1)) 3, type := 3, pos := "law.go:124", after := #[{ on := 22, ground := Go.Ground.data }, { on := 19, ground := Go.Ground.guard }], guard := some (19, true) }) rfl (by kernel_rfl) (by kernel_rfl) (by kernel_rfl) (fun _ _ _ h => h) (by rfl) (by assumption) ?_
            try simp only [Act.put, List.setIfInBounds_toArray, List.set_cons_zero, List.set_cons_succ]
            refine wpAnyH_pass (i := 24) (oi := { dst := some 91, op := Go.Op.indexAddr 48 (Go.Operand.tmp 88) (Go.Operand.tmp 90), type := 0, pos := "law.go:124", after := #[{ on := 21, ground := Go.Ground.data }, { on := 23, ground := Go.Ground.data }, { on := 19, ground := Go.Ground.guard }], guard := some (19, true) }) rfl (by kernel_rfl) (by kernel_rfl) (by kernel_rfl) (fun _ _ _ h => h) (by rfl) (by assumption) ?_
            try simp only [Act.put, List.setIfInBounds_toArray, List.set_cons_zero, List.set_cons_succ]
            refine wpAnyH_pass (i := 28) (oi := { dst := some 95, op := Go.Op.move (Go.Operand.tmp 0), type := 48, pos := "law.go:124", after := #[{ on := 19, ground := Go.Ground.guard }], guard := some (19, true) }) rfl (by kernel_rfl) (by kernel_rfl) (by kernel_rfl) (fun _ _ _ h => h) (by rfl) (by assumption) ?_
            try simp only [Act.put, List.setIfInBounds_toArray, List.set_cons_zero, List.set_cons_succ]
            refine wpAnyH_pass (i := 29) (oi := { dst := some 96, op := Go.Op.move (Go.Operand.tmp 10), type := 3, pos := "law.go:124", after := #[{ on := 19, ground := Go.Ground.guard }], guard := some (19, true) }) rfl (by kernel_rfl) (by kernel_rfl) (by kernel_rfl) (fun _ _ _ h => h) (by rfl) (by assumption) ?_
            try simp only [Act.put, List.setIfInBounds_toArray, List.set_cons_zero, List.set_cons_succ]
            refine wpAnyH_pass (i := 30) (oi := { dst := some 97, op := Go.Op.indexAddr 48 (Go.Operand.tmp 95) (Go.Operand.tmp 96), type := 0, pos := "law.go:124", after := #[{ on := 28, ground := Go.Ground.data }, { on := 29, ground := Go.Ground.data }, { on := 19, ground := Go.Ground.guard }], guard := some (19, true) }) rfl (by kernel_rfl) (by kernel_rfl) (by kernel_rfl) (fun _ _ _ h => h) (by rfl) (by assumption) ?_
            try simp only [Act.put, List.setIfInBounds_toArray, List.set_cons_zero, List.set_cons_succ]
            refine wpAnyH_pass (i := 25) (oi := { dst := some 92, op := Go.Op.load 3 (Go.Operand.tmp 91), type := 3, pos := "law.go:124", after := #[{ on := 24, ground := Go.Ground.data }, { on := 19, ground := Go.Ground.guard }], guard := some (19, true) }) rfl (by kernel_rfl) (by kernel_rfl) (by kernel_rfl) (fun _ _ _ h => h) (by rfl) (by assumption) ?_
            try simp only [Act.put, List.setIfInBounds_toArray, List.set_cons_zero, List.set_cons_succ]
            refine wpAnyH_pass (i := 26) (oi := { dst := some 93, op := Go.Op.indexAddr 48 (Go.Operand.tmp 87) (Go.Operand.tmp 92), type := 0, pos := "law.go:124", after := #[{ on := 20, ground := Go.Ground.data }, { on := 25, ground := Go.Ground.data }, { on := 19, ground := Go.Ground.guard }], guard := some (19, true) }) rfl (by kernel_rfl) (by kernel_rfl) (by kernel_rfl) (fun _ _ _ h => h) (by rfl) (by assumption) ?_
            try simp only [Act.put, List.setIfInBounds_toArray, List.set_cons_zero, List.set_cons_succ]
            refine wpAnyH_pass (i := 27) (oi := { dst := some 94, op := Go.Op.load 3 (Go.Operand.tmp 93), type := 3, pos := "law.go:124", after := #[{ on := 26, ground := Go.Ground.data }, { on := 19, ground := Go.Ground.guard }], guard := some (19, true) }) rfl (by kernel_rfl) (by kernel_rfl) (by kernel_rfl) (fun _ _ _ h => h) (by rfl) (by assumption) ?_
            try simp only [Act.put, List.setIfInBounds_toArray, List.set_cons_zero, List.set_cons_succ]
            refine wpAnyH_pass (i := 31) (oi := { dst := some 98, op := Go.Op.load 3 (Go.Operand.tmp 97), type := 3, pos := "law.go:124", after := #[{ on := 30, ground := Go.Ground.data }, { on := 19, ground := Go.Ground.guard }], guard := some (19, true) }) rfl (by kernel_rfl) (by kernel_rfl) (by kernel_rfl) (fun _ _ _ h => h) (by rfl) (by assumption) ?_
            try simp only [Act.put, List.setIfInBounds_toArray, List.set_cons_zero, List.set_cons_succ]
            refine wpAnyH_pass (i := 32) (oi := { dst := some 99, op := Go.Op.binOp Go.BinOp.gtr 3 (Go.Operand.tmp 94) (Go.Operand.tmp 98) 3, type := 4, pos := "law.go:124", after := #[{ on := 27, ground := Go.Ground.data }, { on := 31, ground := Go.Ground.data }, { on := 19, ground := Go.Ground.guard }], guard := some (19, true) }) rfl (by kernel_rfl) (by kernel_rfl) (by kernel_rfl) (fun _ _ _ h => h) (by rfl) (by assumption) ?_
            try simp only [Act.put, List.setIfInBounds_toArray, List.set_cons_zero, List.set_cons_succ]
            refine wpAnyH_pass (i := 33) (oi := { dst := some 100, op := Go.Op.move (Go.Operand.tmp 99), type := 4, pos := "law.go:124", after := #[{ on := 32, ground := Go.Ground.data }, { on := 19, ground := Go.Ground.chain }, { on := 19, ground := Go.Ground.guard }], guard := some (19, true) }) rfl (by kernel_rfl) (by kernel_rfl) (by kernel_rfl) (fun _ _ _ h => h) (by rfl) (by assumption) ?_
            try simp only [Act.put, List.setIfInBounds_toArray, List.set_cons_zero, List.set_cons_succ]
            refine wpAnyH_pass (i := 34) (oi := { dst := some 101, op := Go.Op.move (Go.Operand.tmp 0), type := 48, pos := "law.go:124", after := #[{ on := 33, ground := Go.Ground.guard }], guard := some (33, false) }) rfl (by kernel_rfl) (by kernel_rfl) (by kernel_rfl) (fun _ _ _ h => h) (by rfl) (by assumption) ?_
            try simp only [Act.put, List.setIfInBounds_toArray, List.set_cons_zero, List.set_cons_succ]
            refine wpAnyH_pass (i := 35) (oi := { dst := some 102, op := Go.Op.move (Go.Operand.tmp 8), type := 48, pos := "law.go:124", after := #[{ on := 33, ground := Go.Ground.guard }], guard := some (33, false) }) rfl (by kernel_rfl) (by kernel_rfl) (by kernel_rfl) (fun _ _ _ h => h) (by rfl) (by assumption) ?_
            try simp only [Act.put, List.setIfInBounds_toArray, List.set_cons_zero, List.set_cons_succ]
            refine wpAnyH_pass (i := 36) (oi := { dst := some 103, op := Go.Op.move (Go.Operand.tmp 9), type := 3, pos := "law.go:124", after := #[{ on := 33, ground := Go.Ground.guard }], guard := some (33, false) }) rfl (by kernel_rfl) (by kernel_rfl) (by kernel_rfl) (fun _ _ _ h => h) (by rfl) (by assumption) ?_
            try simp only [Act.put, List.setIfInBounds_toArray, List.set_cons_zero, List.set_cons_succ]
            refine wpAnyH_pass (i := 37) (oi := { dst := some 104, op := Go.Op.binOp Go.BinOp.sub 3 (Go.Operand.tmp 103) (Go.Operand.const (Go.Value.int Go.IntKind.i64 1)) 3, type := 3, pos := "law.go:124", after := #[{ on := 36, ground := Go.Ground.data }, { on := 33, ground := Go.Ground.guard }], guard := some (33, false) }) rfl (by kernel_rfl) (by kernel_rfl) (by kernel_rfl) (fun _ _ _ h => h) (by rfl) (by assumption) ?_
            try simp only [Act.put, List.setIfInBounds_toArray, List.set_cons_zero, List.set_cons_succ]
            refine wpAnyH_pass (i := 38) (oi := { dst := some 105, op := Go.Op.indexAddr 48 (Go.Operand.tmp 102) (Go.Operand.tmp 104), type := 0, pos := "law.go:124", after := #[{ on := 35, ground := Go.Ground.data }, { on := 37, ground := Go.Ground.data }, { on := 33, ground := Go.Ground.guard }], guard := some (33, false) }) rfl (by kernel_rfl) (by kernel_rfl) (by kernel_rfl) (fun _ _ _ h => h) (by rfl) (by assumption) ?_
            try simp only [Act.put, List.setIfInBounds_toArray, List.set_cons_zero, List.set_cons_succ]
            refine wpAnyH_pass (i := 42) (oi := { dst := some 109, op := Go.Op.move (Go.Operand.tmp 0), type := 48, pos := "law.go:124", after := #[{ on := 33, ground := Go.Ground.guard }], guard := some (33, false) }) rfl (by kernel_rfl) (by kernel_rfl) (by kernel_rfl) (fun _ _ _ h => h) (by rfl) (by assumption) ?_
            try simp only [Act.put, List.setIfInBounds_toArray, List.set_cons_zero, List.set_cons_succ]
            refine wpAnyH_pass (i := 43) (oi := { dst := some 110, op := Go.Op.move (Go.Operand.tmp 10), type := 3, pos := "law.go:124", after := #[{ on := 33, ground := Go.Ground.guard }], guard := some (33, false) }) rfl (by kernel_rfl) (by kernel_rfl) (by kernel_rfl) (fun _ _ _ h => h) (by rfl) (by assumption) ?_
            try simp only [Act.put, List.setIfInBounds_toArray, List.set_cons_zero, List.set_cons_succ]
            refine wpAnyH_pass (i := 44) (oi := { dst := some 111, op := Go.Op.indexAddr 48 (Go.Operand.tmp 109) (Go.Operand.tmp 110), type := 0, pos := "law.go:124", after := #[{ on := 42, ground := Go.Ground.data }, { on := 43, ground := Go.Ground.data }, { on := 33, ground := Go.Ground.guard }], guard := some (33, false) }) rfl (by kernel_rfl) (by kernel_rfl) (by kernel_rfl) (fun _ _ _ h => h) (by rfl) (by assumption) ?_
            try simp only [Act.put, List.setIfInBounds_toArray, List.set_cons_zero, List.set_cons_succ]
            refine wpAnyH_pass (i := 39) (oi := { dst := some 106, op := Go.Op.load 3 (Go.Operand.tmp 105), type := 3, pos := "law.go:124", after := #[{ on := 38, ground := Go.Ground.data }, { on := 33, ground := Go.Ground.guard }], guard := some (33, false) }) rfl (by kernel_rfl) (by kernel_rfl) (by kernel_rfl) (fun _ _ _ h => h) (by rfl) (by assumption) ?_
            try simp only [Act.put, List.setIfInBounds_toArray, List.set_cons_zero, List.set_cons_succ]
            refine wpAnyH_pass (i := 40) (oi := { dst := some 107, op := Go.Op.indexAddr 48 (Go.Operand.tmp 101) (Go.Operand.tmp 106), type := 0, pos := "law.go:124", after := #[{ on := 34, ground := Go.Ground.data }, { on := 39, ground := Go.Ground.data }, { on := 33, ground := Go.Ground.guard }], guard := some (33, false) }) rfl (by kernel_rfl) (by kernel_rfl) (by kernel_rfl) (fun _ _ _ h => h) (by rfl) (by assumption) ?_
            try simp only [Act.put, List.setIfInBounds_toArray, List.set_cons_zero, List.set_cons_succ]
            refine wpAnyH_pass (i := 41) (oi := { dst := some 108, op := Go.Op.load 3 (Go.Operand.tmp 107), type := 3, pos := "law.go:124", after := #[{ on := 40, ground := Go.Ground.data }, { on := 33, ground := Go.Ground.guard }], guard := some (33, false) }) rfl (by kernel_rfl) (by kernel_rfl) (by kernel_rfl) (fun _ _ _ h => h) (by rfl) (by assumption) ?_
            try simp only [Act.put, List.setIfInBounds_toArray, List.set_cons_zero, List.set_cons_succ]
            refine wpAnyH_pass (i := 45) (oi := { dst := some 112, op := Go.Op.load 3 (Go.Operand.tmp 111), type := 3, pos := "law.go:124", after := #[{ on := 44, ground := Go.Ground.data }, { on := 33, ground := Go.Ground.guard }], guard := some (33, false) }) rfl (by kernel_rfl) (by kernel_rfl) (by kernel_rfl) (fun _ _ _ h => h) (by rfl) (by assumption) ?_
            try simp only [Act.put, List.setIfInBounds_toArray, List.set_cons_zero, List.set_cons_succ]
            refine wpAnyH_pass (i := 46) (oi := { dst := some 113, op := Go.Op.binOp Go.BinOp.eql 3 (Go.Operand.tmp 108) (Go.Operand.tmp 112) 3, type := 4, pos := "law.go:124", after := #[{ on := 41, ground := Go.Ground.data }, { on := 45, ground := Go.Ground.data }, { on := 33, ground := Go.Ground.guard }], guard := some (33, false) }) rfl (by kernel_rfl) (by kernel_rfl) (by kernel_rfl) (fun _ _ _ h => h) (by rfl) (by assumption) ?_
            try simp only [Act.put, List.setIfInBounds_toArray, List.set_cons_zero, List.set_cons_succ]
            refine wpAnyH_pass (i := 47) (oi := { dst := some 114, op := Go.Op.move (Go.Operand.tmp 113), type := 4, pos := "law.go:124", after := #[{ on := 46, ground := Go.Ground.data }, { on := 33, ground := Go.Ground.chain }, { on := 33, ground := Go.Ground.guard }], guard := some (33, false) }) rfl (by kernel_rfl) (by kernel_rfl) (by kernel_rfl) (fun _ _ _ h => h) (by rfl) (by assumption) ?_
            try simp only [Act.put, List.setIfInBounds_toArray, List.set_cons_zero, List.set_cons_succ]
            refine wpAnyH_pass (i := 48) (oi := { dst := some 115, op := Go.Op.move (Go.Operand.tmp 8), type := 48, pos := "law.go:124", after := #[{ on := 47, ground := Go.Ground.guard }], guard := some (47, true) }) rfl (by kernel_rfl) (by kernel_rfl) (by kernel_rfl) (fun _ _ _ h => h) (by rfl) (by assumption) ?_
            try simp only [Act.put, List.setIfInBounds_toArray, List.set_cons_zero, List.set_cons_succ]
            refine wpAnyH_pass (i := 49) (oi := { dst := some 116, op := Go.Op.move (Go.Operand.tmp 9), type := 3, pos := "law.go:124", after := #[{ on := 47, ground := Go.Ground.guard }], guard := some (47, true) }) rfl (by kernel_rfl) (by kernel_rfl) (by kernel_rfl) (fun _ _ _ h => h) (by rfl) (by assumption) ?_
            try simp only [Act.put, List.setIfInBounds_toArray, List.set_cons_zero, List.set_cons_succ]
            refine wpAnyH_pass (i := 50) (oi := { dst := some 117, op := Go.Op.binOp Go.BinOp.sub 3 (Go.Operand.tmp 116) (Go.Operand.const (Go.Value.int Go.IntKind.i64 1)) 3, type := 3, pos := "law.go:124", after := #[{ on := 49, ground := Go.Ground.data }, { on := 47, ground := Go.Ground.guard }], guard := some (47, true) }) rfl (by kernel_rfl) (by kernel_rfl) (by kernel_rfl) (fun _ _ _ h => h) (by rfl) (by assumption) ?_
            try simp only [Act.put, List.setIfInBounds_toArray, List.set_cons_zero, List.set_cons_succ]
            refine wpAnyH_pass (i := 51) (oi := { dst := some 118, op := Go.Op.indexAddr 48 (Go.Operand.tmp 115) (Go.Operand.tmp 117), type := 0, pos := "law.go:124", after := #[{ on := 48, ground := Go.Ground.data }, { on := 50, ground := Go.Ground.data }, { on := 47, ground := Go.Ground.guard }], guard := some (47, true) }) rfl (by kernel_rfl) (by kernel_rfl) (by kernel_rfl) (fun _ _ _ h => h) (by rfl) (by assumption) ?_
            try simp only [Act.put, List.setIfInBounds_toArray, List.set_cons_zero, List.set_cons_succ]
            refine wpAnyH_pass (i := 53) (oi := { dst := some 120, op := Go.Op.move (Go.Operand.tmp 10), type := 3, pos := "law.go:124", after := #[{ on := 47, ground := Go.Ground.guard }], guard := some (47, true) }) rfl (by kernel_rfl) (by kernel_rfl) (by kernel_rfl) (fun _ _ _ h => h) (by rfl) (by assumption) ?_
            try simp only [Act.put, List.setIfInBounds_toArray, List.set_cons_zero, List.set_cons_succ]
            refine wpAnyH_pass (i := 52) (oi := { dst := some 119, op := Go.Op.load 3 (Go.Operand.tmp 118), type := 3, pos := "law.go:124", after := #[{ on := 51, ground := Go.Ground.data }, { on := 47, ground := Go.Ground.guard }], guard := some (47, true) }) rfl (by kernel_rfl) (by kernel_rfl) (by kernel_rfl) (fun _ _ _ h => h) (by rfl) (by assumption) ?_
            try simp only [Act.put, List.setIfInBounds_toArray, List.set_cons_zero, List.set_cons_succ]
            refine wpAnyH_pass (i := 54) (oi := { dst := some 121, op := Go.Op.binOp Go.BinOp.geq 3 (Go.Operand.tmp 119) (Go.Operand.tmp 120) 3, type := 4, pos := "law.go:124", after := #[{ on := 52, ground := Go.Ground.data }, { on := 53, ground := Go.Ground.data }, { on := 47, ground := Go.Ground.guard }], guard := some (47, true) }) rfl (by kernel_rfl) (by kernel_rfl) (by kernel_rfl) (fun _ _ _ h => h) (by rfl) (by assumption) ?_
            try simp only [Act.put, List.setIfInBounds_toArray, List.set_cons_zero, List.set_cons_succ]
            refine wpAnyH_pass (i := 55) (oi := { dst := some 122, op := Go.Op.pick (Go.Operand.tmp 114) (Go.Operand.tmp 121) (Go.Operand.const (Go.Value.bool false)), type := 4, pos := "law.go:124", after := #[{ on := 47, ground := Go.Ground.data }, { on := 54, ground := Go.Ground.data }, { on := 33, ground := Go.Ground.guard }], guard := some (33, false) }) rfl (by kernel_rfl) (by kernel_rfl) (by kernel_rfl) (fun _ _ _ h => h) (by rfl) (by assumption) ?_
            try simp only [Act.put, List.setIfInBounds_toArray, List.set_cons_zero, List.set_cons_succ]
            refine wpAnyH_pass (i := 56) (oi := { dst := some 123, op := Go.Op.pick (Go.Operand.tmp 100) (Go.Operand.const (Go.Value.bool true)) (Go.Operand.tmp 122), type := 4, pos := "law.go:124", after := #[{ on := 33, ground := Go.Ground.data }, { on := 55, ground := Go.Ground.data }, { on := 19, ground := Go.Ground.guard }], guard := some (19, true) }) rfl (by kernel_rfl) (by kernel_rfl) (by kernel_rfl) (fun _ _ _ h => h) (by rfl) (by assumption) ?_
            try simp only [Act.put, List.setIfInBounds_toArray, List.set_cons_zero, List.set_cons_succ]
            refine wpAnyH_read (i := 57) (oi := { dst := some 124, op := Go.Op.pick (Go.Operand.tmp 86) (Go.Operand.tmp 123) (Go.Operand.const (Go.Value.bool false)), type := 4, pos := "law.go:124", after := #[{ on := 19, ground := Go.Ground.data }, { on := 56, ground := Go.Ground.data }, { on := 16, ground := Go.Ground.guard }], guard := some (16, false) }) ?_ rfl (by kernel_rfl) (by kernel_rfl) (by kernel_rfl) (fun _ _ _ h => h) (by rfl) (by assumption) ?_ ?_
            rotate_left
            · (intro w0 hS0; (try dsimp only at hS0); (try obtain ⟨s1, s2, s3⟩ := hS0); go_simp <;> (try with_reducible rfl))
            try simp only [Act.put, List.setIfInBounds_toArray, List.set_cons_zero, List.set_cons_succ]
            refine wpAnyH_read (i := 58) (oi := { dst := some 125, op := Go.Op.pick (Go.Operand.tmp 83) (Go.Operand.const (Go.Value.bool true)) (Go.Operand.tmp 124), type := 4, pos := "law.go:124", after := #[{ on := 16, ground := Go.Ground.data }, { on := 57, ground := Go.Ground.data }], guard := none }) ?_ rfl (by kernel_rfl) (by kernel_rfl) (by kernel_rfl) (fun _ _ _ h => h) (by rfl) (by assumption) ?_ ?_
            rotate_left
            · (intro w0 hS0; (try dsimp only at hS0); (try obtain ⟨s1, s2, s3⟩ := hS0); go_simp <;> (try with_reducible rfl))
            try simp only [Act.put, List.setIfInBounds_toArray, List.set_cons_zero, List.set_cons_succ]
            refine wpAnyH_done (by kernel_rfl) ?_ _
            go_wp2_with fail
            go_roundw
            case rel => exact ⟨i + 1, by go_num, by omega, HB.out.drew⟩
            case measure => simp [RowKit.intOf]; omega
          · obtain ⟨ip, rfl⟩ : ∃ ip, i = ip + 1 := ⟨i - 1, by omega⟩
            obtain ⟨jp, hp1, hp2, hp3⟩ := hmem ip (by omega)
            obtain ⟨lp, hlp⟩ : ∃ lp, l.getD jp 0 = lp := ⟨_, rfl⟩
            rw [hlp] at hp2 hp3
            have hgp := hgot ip (by omega) jp (by rw [hlp]; exact hp2)
            have hjp := hat wr hbw jp hp1
            rw [hlp] at hjp
            have hord : ltTI xs[ip] xs[ip + 1] := by
              have hpw := dueMI_rise (idxK_nodup l l.length) now
              rw [hxs] at hpw
              exact List.pairwise_iff_getElem.1 hpw ip (ip + 1) (by omega) hix (by omega)
            rw [hj2, hp2] at hord
            have hord2 : lp < la ∨ (lp = la ∧ jp < j) := hord.imp id fun ⟨e, h⟩ => ⟨e, by have h : (jp : Int) < (j : Int) := h; omega⟩
            have s0 : (0 : Int) ≤ (jp : Int) := by omega
            have s1 : (jp : Int) < (l.length : Int) := by omega
            have s2 : (ip : Int) < (c : Int) := by omega
            have s3 : (0 : Int) ≤ (ip : Int) := by omega
            have s4 : IntKind.i64.wrap (ip : Int) = (ip : Int) := IntWalk.i64_in _ ⟨by omega, by omega⟩
            clear hlen hnext hb5 hO h5 hml hxs hT2 hb hT hcell hmem hgot hat hbw hla hj2 hj3 h0 hlp hp2 hp3 hord
            rcases hord2 with hlt2 | ⟨hEq, hjj⟩
            · have q5 : decide (la < lp) = false := by simp; omega
              have q6 : (lp == la) = false := by simp; omega
              go_wp2_with fail
              refine wp_region_held_drew (S := fun V => V.cell? ⟨g, o + j, none⟩ = some (.int .i64 la) ∧ V.cell? ⟨g, o + jp, none⟩ = some (.int .i64 lp) ∧ V.cell? ⟨g2, o2 + ip, none⟩ = some (.int .i64 jp)) (by kernel_rfl) (by exact ⟨hj, hjp, hgp⟩) (fun hHeld => ?_)
              refine wpAnyH_read (i := 0) (oi := { dst := some 67, op := Go.Op.move (Go.Operand.tmp 10), type := 3, pos := "law.go:124", after := #[], guard := none }) ?_ rfl (by kernel_rfl) (by kernel_rfl) (by kernel_rfl) (fun _ _ _ h => h) (by rfl) (by assumption) ?_ ?_
              rotate_left
              · (intro w0 hS0; (try dsimp only at hS0); (try obtain ⟨s1, s2, s3⟩ := hS0); go_simp <;> (try with_reducible rfl))
              try simp only [Act.put, List.setIfInBounds_toArray, List.set_cons_zero, List.set_cons_succ]
              refine wpAnyH_read (i := 1) (oi := { dst := some 68, op := Go.Op.binOp Go.BinOp.lss 3 (Go.Operand.tmp 67) (Go.Operand.const (Go.Value.int Go.IntKind.i64 0)) 3, type := 4, pos := "law.go:124", after := #[{ on := 0, ground := Go.Ground.data }], guard := none }) ?_ rfl (by kernel_rfl) (by kernel_rfl) (by kernel_rfl) (fun _ _ _ h => h) (by rfl) (by assumption) ?_ ?_
              rotate_left
              · (intro w0 hS0; (try dsimp only at hS0); (try obtain ⟨s1, s2, s3⟩ := hS0); go_simp <;> (try with_reducible rfl))
              try simp only [Act.put, List.setIfInBounds_toArray, List.set_cons_zero, List.set_cons_succ]
              refine wpAnyH_read (i := 2) (oi := { dst := some 69, op := Go.Op.move (Go.Operand.tmp 68), type := 4, pos := "law.go:124", after := #[{ on := 1, ground := Go.Ground.data }], guard := none }) ?_ rfl (by kernel_rfl) (by kernel_rfl) (by kernel_rfl) (fun _ _ _ h => h) (by rfl) (by assumption) ?_ ?_
              rotate_left
              · (intro w0 hS0; (try dsimp only at hS0); (try obtain ⟨s1, s2, s3⟩ := hS0); go_simp <;> (try with_reducible rfl))
              try simp only [Act.put, List.setIfInBounds_toArray, List.set_cons_zero, List.set_cons_succ]
              refine wpAnyH_read (i := 3) (oi := { dst := some 70, op := Go.Op.move (Go.Operand.tmp 10), type := 3, pos := "law.go:124", after := #[{ on := 2, ground := Go.Ground.guard }], guard := some (2, false) }) ?_ rfl (by kernel_rfl) (by kernel_rfl) (by kernel_rfl) (fun _ _ _ h => h) (by rfl) (by assumption) ?_ ?_
              rotate_left
              · (intro w0 hS0; (try dsimp only at hS0); (try obtain ⟨s1, s2, s3⟩ := hS0); go_simp <;> (try with_reducible rfl))
              try simp only [Act.put, List.setIfInBounds_toArray, List.set_cons_zero, List.set_cons_succ]
              refine wpAnyH_read (i := 4) (oi := { dst := some 71, op := Go.Op.move (Go.Operand.tmp 0), type := 48, pos := "law.go:124", after := #[{ on := 2, ground := Go.Ground.guard }], guard := some (2, false) }) ?_ rfl (by kernel_rfl) (by kernel_rfl) (by kernel_rfl) (fun _ _ _ h => h) (by rfl) (by assumption) ?_ ?_
              rotate_left
              · (intro w0 hS0; (try dsimp only at hS0); (try obtain ⟨s1, s2, s3⟩ := hS0); go_simp <;> (try with_reducible rfl))
              try simp only [Act.put, List.setIfInBounds_toArray, List.set_cons_zero, List.set_cons_succ]
              refine wpAnyH_read (i := 5) (oi := { dst := some 72, op := Go.Op.call { callee := Go.Callee.builtin Go.Builtin.len, args := #[Go.Operand.tmp 71], argTypes := #[48] }, type := 3, pos := "law.go:124", after := #[{ on := 4, ground := Go.Ground.data }, { on := 2, ground := Go.Ground.guard }], guard := some (2, false) }) ?_ rfl (by kernel_rfl) (by kernel_rfl) (by kernel_rfl) (fun _ _ _ h => h) (by rfl) (by assumption) ?_ ?_
              rotate_left
              · (intro w0 hS0; (try dsimp only at hS0); (try obtain ⟨s1, s2, s3⟩ := hS0); go_simp <;> (try with_reducible rfl))
              try simp only [Act.put, List.setIfInBounds_toArray, List.set_cons_zero, List.set_cons_succ]
              refine wpAnyH_read (i := 6) (oi := { dst := some 73, op := Go.Op.binOp Go.BinOp.geq 3 (Go.Operand.tmp 70) (Go.Operand.tmp 72) 3, type := 4, pos := "law.go:124", after := #[{ on := 3, ground := Go.Ground.data }, { on := 5, ground := Go.Ground.data }, { on := 2, ground := Go.Ground.guard }], guard := some (2, false) }) ?_ rfl (by kernel_rfl) (by kernel_rfl) (by kernel_rfl) (fun _ _ _ h => h) (by rfl) (by assumption) ?_ ?_
              rotate_left
              · (intro w0 hS0; (try dsimp only at hS0); (try obtain ⟨s1, s2, s3⟩ := hS0); go_simp <;> (try with_reducible rfl))
              try simp only [Act.put, List.setIfInBounds_toArray, List.set_cons_zero, List.set_cons_succ]
              refine wpAnyH_read (i := 7) (oi := { dst := some 74, op := Go.Op.pick (Go.Operand.tmp 69) (Go.Operand.const (Go.Value.bool true)) (Go.Operand.tmp 73), type := 4, pos := "law.go:124", after := #[{ on := 2, ground := Go.Ground.data }, { on := 6, ground := Go.Ground.data }], guard := none }) ?_ rfl (by kernel_rfl) (by kernel_rfl) (by kernel_rfl) (fun _ _ _ h => h) (by rfl) (by assumption) ?_ ?_
              rotate_left
              · (intro w0 hS0; (try dsimp only at hS0); (try obtain ⟨s1, s2, s3⟩ := hS0); go_simp <;> (try with_reducible rfl))
              try simp only [Act.put, List.setIfInBounds_toArray, List.set_cons_zero, List.set_cons_succ]
              refine wpAnyH_read (i := 8) (oi := { dst := some 75, op := Go.Op.move (Go.Operand.tmp 74), type := 4, pos := "law.go:124", after := #[{ on := 7, ground := Go.Ground.data }, { on := 2, ground := Go.Ground.chain }], guard := none }) ?_ rfl (by kernel_rfl) (by kernel_rfl) (by kernel_rfl) (fun _ _ _ h => h) (by rfl) (by assumption) ?_ ?_
              rotate_left
              · (intro w0 hS0; (try dsimp only at hS0); (try obtain ⟨s1, s2, s3⟩ := hS0); go_simp <;> (try with_reducible rfl))
              try simp only [Act.put, List.setIfInBounds_toArray, List.set_cons_zero, List.set_cons_succ]
              refine wpAnyH_read (i := 9) (oi := { dst := some 76, op := Go.Op.move (Go.Operand.tmp 0), type := 48, pos := "law.go:124", after := #[{ on := 8, ground := Go.Ground.guard }], guard := some (8, false) }) ?_ rfl (by kernel_rfl) (by kernel_rfl) (by kernel_rfl) (fun _ _ _ h => h) (by rfl) (by assumption) ?_ ?_
              rotate_left
              · (intro w0 hS0; (try dsimp only at hS0); (try obtain ⟨s1, s2, s3⟩ := hS0); go_simp <;> (try with_reducible rfl))
              try simp only [Act.put, List.setIfInBounds_toArray, List.set_cons_zero, List.set_cons_succ]
              refine wpAnyH_read (i := 10) (oi := { dst := some 77, op := Go.Op.move (Go.Operand.tmp 10), type := 3, pos := "law.go:124", after := #[{ on := 8, ground := Go.Ground.guard }], guard := some (8, false) }) ?_ rfl (by kernel_rfl) (by kernel_rfl) (by kernel_rfl) (fun _ _ _ h => h) (by rfl) (by assumption) ?_ ?_
              rotate_left
              · (intro w0 hS0; (try dsimp only at hS0); (try obtain ⟨s1, s2, s3⟩ := hS0); go_simp <;> (try with_reducible rfl))
              try simp only [Act.put, List.setIfInBounds_toArray, List.set_cons_zero, List.set_cons_succ]
              refine wpAnyH_read (i := 11) (oi := { dst := some 78, op := Go.Op.indexAddr 48 (Go.Operand.tmp 76) (Go.Operand.tmp 77), type := 0, pos := "law.go:124", after := #[{ on := 9, ground := Go.Ground.data }, { on := 10, ground := Go.Ground.data }, { on := 8, ground := Go.Ground.guard }], guard := some (8, false) }) ?_ rfl (by kernel_rfl) (by kernel_rfl) (by kernel_rfl) (fun _ _ _ h => h) (by rfl) (by assumption) ?_ ?_
              rotate_left
              · (intro w0 hS0; (try dsimp only at hS0); (try obtain ⟨s1, s2, s3⟩ := hS0); go_simp <;> (try with_reducible rfl))
              try simp only [Act.put, List.setIfInBounds_toArray, List.set_cons_zero, List.set_cons_succ]
              refine wpAnyH_read (i := 13) (oi := { dst := some 80, op := Go.Op.move (Go.Operand.tmp 1), type := 3, pos := "law.go:124", after := #[{ on := 8, ground := Go.Ground.guard }], guard := some (8, false) }) ?_ rfl (by kernel_rfl) (by kernel_rfl) (by kernel_rfl) (fun _ _ _ h => h) (by rfl) (by assumption) ?_ ?_
              rotate_left
              · (intro w0 hS0; (try dsimp only at hS0); (try obtain ⟨s1, s2, s3⟩ := hS0); go_simp <;> (try with_reducible rfl))
              try simp only [Act.put, List.setIfInBounds_toArray, List.set_cons_zero, List.set_cons_succ]
              refine wpAnyH_read (i := 12) (oi := { dst := some 79, op := Go.Op.load 3 (Go.Operand.tmp 78), type := 3, pos := "law.go:124", after := #[{ on := 11, ground := Go.Ground.data }, { on := 8, ground := Go.Ground.guard }], guard := some (8, false) }) ?_ rfl (by kernel_rfl) (by kernel_rfl) (by kernel_rfl) (fun _ _ _ h => h) (by rfl) (by assumption) ?_ ?_
              rotate_left
              · (intro w0 hS0; (try dsimp only at hS0); (try obtain ⟨s1, s2, s3⟩ := hS0); go_simp <;> (try with_reducible rfl))
              try simp only [Act.put, List.setIfInBounds_toArray, List.set_cons_zero, List.set_cons_succ]
              refine wpAnyH_read (i := 14) (oi := { dst := some 81, op := Go.Op.binOp Go.BinOp.gtr 3 (Go.Operand.tmp 79) (Go.Operand.tmp 80) 3, type := 4, pos := "law.go:124", after := #[{ on := 12, ground := Go.Ground.data }, { on := 13, ground := Go.Ground.data }, { on := 8, ground := Go.Ground.guard }], guard := some (8, false) }) ?_ rfl (by kernel_rfl) (by kernel_rfl) (by kernel_rfl) (fun _ _ _ h => h) (by rfl) (by assumption) ?_ ?_
              rotate_left
              · (intro w0 hS0; (try dsimp only at hS0); (try obtain ⟨s1, s2, s3⟩ := hS0); go_simp <;> (try with_reducible rfl))
              try simp only [Act.put, List.setIfInBounds_toArray, List.set_cons_zero, List.set_cons_succ]
              refine wpAnyH_read (i := 15) (oi := { dst := some 82, op := Go.Op.pick (Go.Operand.tmp 75) (Go.Operand.const (Go.Value.bool true)) (Go.Operand.tmp 81), type := 4, pos := "law.go:124", after := #[{ on := 8, ground := Go.Ground.data }, { on := 14, ground := Go.Ground.data }], guard := none }) ?_ rfl (by kernel_rfl) (by kernel_rfl) (by kernel_rfl) (fun _ _ _ h => h) (by rfl) (by assumption) ?_ ?_
              rotate_left
              · (intro w0 hS0; (try dsimp only at hS0); (try obtain ⟨s1, s2, s3⟩ := hS0); go_simp <;> (try with_reducible rfl))
              try simp only [Act.put, List.setIfInBounds_toArray, List.set_cons_zero, List.set_cons_succ]
              refine wpAnyH_read (i := 16) (oi := { dst := some 83, op := Go.Op.move (Go.Operand.tmp 82), type := 4, pos := "law.go:124", after := #[{ on := 15, ground := Go.Ground.data }, { on := 8, ground := Go.Ground.chain }], guard := none }) ?_ rfl (by kernel_rfl) (by kernel_rfl) (by kernel_rfl) (fun _ _ _ h => h) (by rfl) (by assumption) ?_ ?_
              rotate_left
              · (intro w0 hS0; (try dsimp only at hS0); (try obtain ⟨s1, s2, s3⟩ := hS0); go_simp <;> (try with_reducible rfl))
              try simp only [Act.put, List.setIfInBounds_toArray, List.set_cons_zero, List.set_cons_succ]
              refine wpAnyH_read (i := 17) (oi := { dst := some 84, op := Go.Op.move (Go.Operand.tmp 9), type := 3, pos := "law.go:124", after := #[{ on := 16, ground := Go.Ground.guard }], guard := some (16, false) }) ?_ rfl (by kernel_rfl) (by kernel_rfl) (by kernel_rfl) (fun _ _ _ h => h) (by rfl) (by assumption) ?_ ?_
              rotate_left
              · (intro w0 hS0; (try dsimp only at hS0); (try obtain ⟨s1, s2, s3⟩ := hS0); go_simp <;> (try with_reducible rfl))
              try simp only [Act.put, List.setIfInBounds_toArray, List.set_cons_zero, List.set_cons_succ]
              refine wpAnyH_read (i := 18) (oi := { dst := some 85, op := Go.Op.binOp Go.BinOp.gtr 3 (Go.Operand.tmp 84) (Go.Operand.const (Go.Value.int Go.IntKind.i64 0)) 3, type := 4, pos := "law.go:124", after := #[{ on := 17, ground := Go.Ground.data }, { on := 16, ground := Go.Ground.guard }], guard := some (16, false) }) ?_ rfl (by kernel_rfl) (by kernel_rfl) (by kernel_rfl) (fun _ _ _ h => h) (by rfl) (by assumption) ?_ ?_
              rotate_left
              · (intro w0 hS0; (try dsimp only at hS0); (try obtain ⟨s1, s2, s3⟩ := hS0); go_simp <;> (try with_reducible rfl))
              try simp only [Act.put, List.setIfInBounds_toArray, List.set_cons_zero, List.set_cons_succ]
              refine wpAnyH_read (i := 19) (oi := { dst := some 86, op := Go.Op.move (Go.Operand.tmp 85), type := 4, pos := "law.go:124", after := #[{ on := 18, ground := Go.Ground.data }, { on := 16, ground := Go.Ground.chain }, { on := 16, ground := Go.Ground.guard }], guard := some (16, false) }) ?_ rfl (by kernel_rfl) (by kernel_rfl) (by kernel_rfl) (fun _ _ _ h => h) (by rfl) (by assumption) ?_ ?_
              rotate_left
              · (intro w0 hS0; (try dsimp only at hS0); (try obtain ⟨s1, s2, s3⟩ := hS0); go_simp <;> (try with_reducible rfl))
              try simp only [Act.put, List.setIfInBounds_toArray, List.set_cons_zero, List.set_cons_succ]
              refine wpAnyH_read (i := 20) (oi := { dst := some 87, op := Go.Op.move (Go.Operand.tmp 0), type := 48, pos := "law.go:124", after := #[{ on := 19, ground := Go.Ground.guard }], guard := some (19, true) }) ?_ rfl (by kernel_rfl) (by kernel_rfl) (by kernel_rfl) (fun _ _ _ h => h) (by rfl) (by assumption) ?_ ?_
              rotate_left
              · (intro w0 hS0; (try dsimp only at hS0); (try obtain ⟨s1, s2, s3⟩ := hS0); go_simp <;> (try with_reducible rfl))
              try simp only [Act.put, List.setIfInBounds_toArray, List.set_cons_zero, List.set_cons_succ]
              refine wpAnyH_read (i := 21) (oi := { dst := some 88, op := Go.Op.move (Go.Operand.tmp 8), type := 48, pos := "law.go:124", after := #[{ on := 19, ground := Go.Ground.guard }], guard := some (19, true) }) ?_ rfl (by kernel_rfl) (by kernel_rfl) (by kernel_rfl) (fun _ _ _ h => h) (by rfl) (by assumption) ?_ ?_
              rotate_left
              · (intro w0 hS0; (try dsimp only at hS0); (try obtain ⟨s1, s2, s3⟩ := hS0); go_simp <;> (try with_reducible rfl))
              try simp only [Act.put, List.setIfInBounds_toArray, List.set_cons_zero, List.set_cons_succ]
              refine wpAnyH_read (i := 22) (oi := { dst := some 89, op := Go.Op.move (Go.Operand.tmp 9), type := 3, pos := "law.go:124", after := #[{ on := 19, ground := Go.Ground.guard }], guard := some (19, true) }) ?_ rfl (by kernel_rfl) (by kernel_rfl) (by kernel_rfl) (fun _ _ _ h => h) (by rfl) (by assumption) ?_ ?_
              rotate_left
              · (intro w0 hS0; (try dsimp only at hS0); (try obtain ⟨s1, s2, s3⟩ := hS0); go_simp <;> (try with_reducible rfl))
              try simp only [Act.put, List.setIfInBounds_toArray, List.set_cons_zero, List.set_cons_succ]
              refine wpAnyH_read (i := 23) (oi := { dst := some 90, op := Go.Op.binOp Go.BinOp.sub 3 (Go.Operand.tmp 89) (Go.Operand.const (Go.Value.int Go.IntKind.i64 1)) 3, type := 3, pos := "law.go:124", after := #[{ on := 22, ground := Go.Ground.data }, { on := 19, ground := Go.Ground.guard }], guard := some (19, true) }) ?_ rfl (by kernel_rfl) (by kernel_rfl) (by kernel_rfl) (fun _ _ _ h => h) (by rfl) (by assumption) ?_ ?_
              rotate_left
              · (intro w0 hS0; (try dsimp only at hS0); (try obtain ⟨s1, s2, s3⟩ := hS0); go_simp <;> (try with_reducible rfl))
              try simp only [Act.put, List.setIfInBounds_toArray, List.set_cons_zero, List.set_cons_succ]
              refine wpAnyH_read (i := 24) (oi := { dst := some 91, op := Go.Op.indexAddr 48 (Go.Operand.tmp 88) (Go.Operand.tmp 90), type := 0, pos := "law.go:124", after := #[{ on := 21, ground := Go.Ground.data }, { on := 23, ground := Go.Ground.data }, { on := 19, ground := Go.Ground.guard }], guard := some (19, true) }) ?_ rfl (by kernel_rfl) (by kernel_rfl) (by kernel_rfl) (fun _ _ _ h => h) (by rfl) (by assumption) ?_ ?_
              rotate_left
              · (intro w0 hS0; (try dsimp only at hS0); (try obtain ⟨s1, s2, s3⟩ := hS0); go_simp <;> (try with_reducible rfl))
              try simp only [Act.put, List.setIfInBounds_toArray, List.set_cons_zero, List.set_cons_succ]
              refine wpAnyH_read (i := 28) (oi := { dst := some 95, op := Go.Op.move (Go.Operand.tmp 0), type := 48, pos := "law.go:124", after := #[{ on := 19, ground := Go.Ground.guard }], guard := some (19, true) }) ?_ rfl (by kernel_rfl) (by kernel_rfl) (by kernel_rfl) (fun _ _ _ h => h) (by rfl) (by assumption) ?_ ?_
              rotate_left
              · (intro w0 hS0; (try dsimp only at hS0); (try obtain ⟨s1, s2, s3⟩ := hS0); go_simp <;> (try with_reducible rfl))
              try simp only [Act.put, List.setIfInBounds_toArray, List.set_cons_zero, List.set_cons_succ]
              refine wpAnyH_read (i := 29) (oi := { dst := some 96, op := Go.Op.move (Go.Operand.tmp 10), type := 3, pos := "law.go:124", after := #[{ on := 19, ground := Go.Ground.guard }], guard := some (19, true) }) ?_ rfl (by kernel_rfl) (by kernel_rfl) (by kernel_rfl) (fun _ _ _ h => h) (by rfl) (by assumption) ?_ ?_
              rotate_left
              · (intro w0 hS0; (try dsimp only at hS0); (try obtain ⟨s1, s2, s3⟩ := hS0); go_simp <;> (try with_reducible rfl))
              try simp only [Act.put, List.setIfInBounds_toArray, List.set_cons_zero, List.set_cons_succ]
              refine wpAnyH_read (i := 30) (oi := { dst := some 97, op := Go.Op.indexAddr 48 (Go.Operand.tmp 95) (Go.Operand.tmp 96), type := 0, pos := "law.go:124", after := #[{ on := 28, ground := Go.Ground.data }, { on := 29, ground := Go.Ground.data }, { on := 19, ground := Go.Ground.guard }], guard := some (19, true) }) ?_ rfl (by kernel_rfl) (by kernel_rfl) (by kernel_rfl) (fun _ _ _ h => h) (by rfl) (by assumption) ?_ ?_
              rotate_left
              · (intro w0 hS0; (try dsimp only at hS0); (try obtain ⟨s1, s2, s3⟩ := hS0); go_simp <;> (try with_reducible rfl))
              try simp only [Act.put, List.setIfInBounds_toArray, List.set_cons_zero, List.set_cons_succ]
              refine wpAnyH_read (i := 25) (oi := { dst := some 92, op := Go.Op.load 3 (Go.Operand.tmp 91), type := 3, pos := "law.go:124", after := #[{ on := 24, ground := Go.Ground.data }, { on := 19, ground := Go.Ground.guard }], guard := some (19, true) }) ?_ rfl (by kernel_rfl) (by kernel_rfl) (by kernel_rfl) (fun _ _ _ h => h) (by rfl) (by assumption) ?_ ?_
              rotate_left
              · (intro w0 hS0; (try dsimp only at hS0); (try obtain ⟨s1, s2, s3⟩ := hS0); go_simp <;> (try with_reducible rfl))
              try simp only [Act.put, List.setIfInBounds_toArray, List.set_cons_zero, List.set_cons_succ]
              refine wpAnyH_read (i := 26) (oi := { dst := some 93, op := Go.Op.indexAddr 48 (Go.Operand.tmp 87) (Go.Operand.tmp 92), type := 0, pos := "law.go:124", after := #[{ on := 20, ground := Go.Ground.data }, { on := 25, ground := Go.Ground.data }, { on := 19, ground := Go.Ground.guard }], guard := some (19, true) }) ?_ rfl (by kernel_rfl) (by kernel_rfl) (by kernel_rfl) (fun _ _ _ h => h) (by rfl) (by assumption) ?_ ?_
              rotate_left
              · (intro w0 hS0; (try dsimp only at hS0); (try obtain ⟨s1, s2, s3⟩ := hS0); go_simp <;> (try with_reducible rfl))
              try simp only [Act.put, List.setIfInBounds_toArray, List.set_cons_zero, List.set_cons_succ]
              refine wpAnyH_read (i := 27) (oi := { dst := some 94, op := Go.Op.load 3 (Go.Operand.tmp 93), type := 3, pos := "law.go:124", after := #[{ on := 26, ground := Go.Ground.data }, { on := 19, ground := Go.Ground.guard }], guard := some (19, true) }) ?_ rfl (by kernel_rfl) (by kernel_rfl) (by kernel_rfl) (fun _ _ _ h => h) (by rfl) (by assumption) ?_ ?_
              rotate_left
              · (intro w0 hS0; (try dsimp only at hS0); (try obtain ⟨s1, s2, s3⟩ := hS0); go_simp <;> (try with_reducible rfl))
              try simp only [Act.put, List.setIfInBounds_toArray, List.set_cons_zero, List.set_cons_succ]
              refine wpAnyH_read (i := 31) (oi := { dst := some 98, op := Go.Op.load 3 (Go.Operand.tmp 97), type := 3, pos := "law.go:124", after := #[{ on := 30, ground := Go.Ground.data }, { on := 19, ground := Go.Ground.guard }], guard := some (19, true) }) ?_ rfl (by kernel_rfl) (by kernel_rfl) (by kernel_rfl) (fun _ _ _ h => h) (by rfl) (by assumption) ?_ ?_
              rotate_left
              · (intro w0 hS0; (try dsimp only at hS0); (try obtain ⟨s1, s2, s3⟩ := hS0); go_simp <;> (try with_reducible rfl))
              try simp only [Act.put, List.setIfInBounds_toArray, List.set_cons_zero, List.set_cons_succ]
              refine wpAnyH_read (i := 32) (oi := { dst := some 99, op := Go.Op.binOp Go.BinOp.gtr 3 (Go.Operand.tmp 94) (Go.Operand.tmp 98) 3, type := 4, pos := "law.go:124", after := #[{ on := 27, ground := Go.Ground.data }, { on := 31, ground := Go.Ground.data }, { on := 19, ground := Go.Ground.guard }], guard := some (19, true) }) ?_ rfl (by kernel_rfl) (by kernel_rfl) (by kernel_rfl) (fun _ _ _ h => h) (by rfl) (by assumption) ?_ ?_
              rotate_left
              · (intro w0 hS0; (try dsimp only at hS0); (try obtain ⟨s1, s2, s3⟩ := hS0); go_simp <;> (try with_reducible rfl))
              try simp only [Act.put, List.setIfInBounds_toArray, List.set_cons_zero, List.set_cons_succ]
              refine wpAnyH_read (i := 33) (oi := { dst := some 100, op := Go.Op.move (Go.Operand.tmp 99), type := 4, pos := "law.go:124", after := #[{ on := 32, ground := Go.Ground.data }, { on := 19, ground := Go.Ground.chain }, { on := 19, ground := Go.Ground.guard }], guard := some (19, true) }) ?_ rfl (by kernel_rfl) (by kernel_rfl) (by kernel_rfl) (fun _ _ _ h => h) (by rfl) (by assumption) ?_ ?_
              rotate_left
              · (intro w0 hS0; (try dsimp only at hS0); (try obtain ⟨s1, s2, s3⟩ := hS0); go_simp <;> (try with_reducible rfl))
              try simp only [Act.put, List.setIfInBounds_toArray, List.set_cons_zero, List.set_cons_succ]
              refine wpAnyH_read (i := 34) (oi := { dst := some 101, op := Go.Op.move (Go.Operand.tmp 0), type := 48, pos := "law.go:124", after := #[{ on := 33, ground := Go.Ground.guard }], guard := some (33, false) }) ?_ rfl (by kernel_rfl) (by kernel_rfl) (by kernel_rfl) (fun _ _ _ h => h) (by rfl) (by assumption) ?_ ?_
              rotate_left
              · (intro w0 hS0; (try dsimp only at hS0); (try obtain ⟨s1, s2, s3⟩ := hS0); go_simp <;> (try with_reducible rfl))
              try simp only [Act.put, List.setIfInBounds_toArray, List.set_cons_zero, List.set_cons_succ]
              refine wpAnyH_read (i := 35) (oi := { dst := some 102, op := Go.Op.move (Go.Operand.tmp 8), type := 48, pos := "law.go:124", after := #[{ on := 33, ground := Go.Ground.guard }], guard := some (33, false) }) ?_ rfl (by kernel_rfl) (by kernel_rfl) (by kernel_rfl) (fun _ _ _ h => h) (by rfl) (by assumption) ?_ ?_
              rotate_left
              · (intro w0 hS0; (try dsimp only at hS0); (try obtain ⟨s1, s2, s3⟩ := hS0); go_simp <;> (try with_reducible rfl))
              try simp only [Act.put, List.setIfInBounds_toArray, List.set_cons_zero, List.set_cons_succ]
              refine wpAnyH_read (i := 36) (oi := { dst := some 103, op := Go.Op.move (Go.Operand.tmp 9), type := 3, pos := "law.go:124", after := #[{ on := 33, ground := Go.Ground.guard }], guard := some (33, false) }) ?_ rfl (by kernel_rfl) (by kernel_rfl) (by kernel_rfl) (fun _ _ _ h => h) (by rfl) (by assumption) ?_ ?_
              rotate_left
              · (intro w0 hS0; (try dsimp only at hS0); (try obtain ⟨s1, s2, s3⟩ := hS0); go_simp <;> (try with_reducible rfl))
              try simp only [Act.put, List.setIfInBounds_toArray, List.set_cons_zero, List.set_cons_succ]
              refine wpAnyH_read (i := 37) (oi := { dst := some 104, op := Go.Op.binOp Go.BinOp.sub 3 (Go.Operand.tmp 103) (Go.Operand.const (Go.Value.int Go.IntKind.i64 1)) 3, type := 3, pos := "law.go:124", after := #[{ on := 36, ground := Go.Ground.data }, { on := 33, ground := Go.Ground.guard }], guard := some (33, false) }) ?_ rfl (by kernel_rfl) (by kernel_rfl) (by kernel_rfl) (fun _ _ _ h => h) (by rfl) (by assumption) ?_ ?_
              rotate_left
              · (intro w0 hS0; (try dsimp only at hS0); (try obtain ⟨s1, s2, s3⟩ := hS0); go_simp <;> (try with_reducible rfl))
              try simp only [Act.put, List.setIfInBounds_toArray, List.set_cons_zero, List.set_cons_succ]
              refine wpAnyH_read (i := 38) (oi := { dst := some 105, op := Go.Op.indexAddr 48 (Go.Operand.tmp 102) (Go.Operand.tmp 104), type := 0, pos := "law.go:124", after := #[{ on := 35, ground := Go.Ground.data }, { on := 37, ground := Go.Ground.data }, { on := 33, ground := Go.Ground.guard }], guard := some (33, false) }) ?_ rfl (by kernel_rfl) (by kernel_rfl) (by kernel_rfl) (fun _ _ _ h => h) (by rfl) (by assumption) ?_ ?_
              rotate_left
              · (intro w0 hS0; (try dsimp only at hS0); (try obtain ⟨s1, s2, s3⟩ := hS0); go_simp <;> (try with_reducible rfl))
              try simp only [Act.put, List.setIfInBounds_toArray, List.set_cons_zero, List.set_cons_succ]
              refine wpAnyH_read (i := 42) (oi := { dst := some 109, op := Go.Op.move (Go.Operand.tmp 0), type := 48, pos := "law.go:124", after := #[{ on := 33, ground := Go.Ground.guard }], guard := some (33, false) }) ?_ rfl (by kernel_rfl) (by kernel_rfl) (by kernel_rfl) (fun _ _ _ h => h) (by rfl) (by assumption) ?_ ?_
              rotate_left
              · (intro w0 hS0; (try dsimp only at hS0); (try obtain ⟨s1, s2, s3⟩ := hS0); go_simp <;> (try with_reducible rfl))
              try simp only [Act.put, List.setIfInBounds_toArray, List.set_cons_zero, List.set_cons_succ]
              refine wpAnyH_read (i := 43) (oi := { dst := some 110, op := Go.Op.move (Go.Operand.tmp 10), type := 3, pos := "law.go:124", after := #[{ on := 33, ground := Go.Ground.guard }], guard := some (33, false) }) ?_ rfl (by kernel_rfl) (by kernel_rfl) (by kernel_rfl) (fun _ _ _ h => h) (by rfl) (by assumption) ?_ ?_
              rotate_left
              · (intro w0 hS0; (try dsimp only at hS0); (try obtain ⟨s1, s2, s3⟩ := hS0); go_simp <;> (try with_reducible rfl))
              try simp only [Act.put, List.setIfInBounds_toArray, List.set_cons_zero, List.set_cons_succ]
              refine wpAnyH_read (i := 44) (oi := { dst := some 111, op := Go.Op.indexAddr 48 (Go.Operand.tmp 109) (Go.Operand.tmp 110), type := 0, pos := "law.go:124", after := #[{ on := 42, ground := Go.Ground.data }, { on := 43, ground := Go.Ground.data }, { on := 33, ground := Go.Ground.guard }], guard := some (33, false) }) ?_ rfl (by kernel_rfl) (by kernel_rfl) (by kernel_rfl) (fun _ _ _ h => h) (by rfl) (by assumption) ?_ ?_
              rotate_left
              · (intro w0 hS0; (try dsimp only at hS0); (try obtain ⟨s1, s2, s3⟩ := hS0); go_simp <;> (try with_reducible rfl))
              try simp only [Act.put, List.setIfInBounds_toArray, List.set_cons_zero, List.set_cons_succ]
              refine wpAnyH_read (i := 39) (oi := { dst := some 106, op := Go.Op.load 3 (Go.Operand.tmp 105), type := 3, pos := "law.go:124", after := #[{ on := 38, ground := Go.Ground.data }, { on := 33, ground := Go.Ground.guard }], guard := some (33, false) }) ?_ rfl (by kernel_rfl) (by kernel_rfl) (by kernel_rfl) (fun _ _ _ h => h) (by rfl) (by assumption) ?_ ?_
              rotate_left
              · (intro w0 hS0; (try dsimp only at hS0); (try obtain ⟨s1, s2, s3⟩ := hS0); go_simp <;> (try with_reducible rfl))
              try simp only [Act.put, List.setIfInBounds_toArray, List.set_cons_zero, List.set_cons_succ]
              refine wpAnyH_read (i := 40) (oi := { dst := some 107, op := Go.Op.indexAddr 48 (Go.Operand.tmp 101) (Go.Operand.tmp 106), type := 0, pos := "law.go:124", after := #[{ on := 34, ground := Go.Ground.data }, { on := 39, ground := Go.Ground.data }, { on := 33, ground := Go.Ground.guard }], guard := some (33, false) }) ?_ rfl (by kernel_rfl) (by kernel_rfl) (by kernel_rfl) (fun _ _ _ h => h) (by rfl) (by assumption) ?_ ?_
              rotate_left
              · (intro w0 hS0; (try dsimp only at hS0); (try obtain ⟨s1, s2, s3⟩ := hS0); go_simp <;> (try with_reducible rfl))
              try simp only [Act.put, List.setIfInBounds_toArray, List.set_cons_zero, List.set_cons_succ]
              refine wpAnyH_read (i := 41) (oi := { dst := some 108, op := Go.Op.load 3 (Go.Operand.tmp 107), type := 3, pos := "law.go:124", after := #[{ on := 40, ground := Go.Ground.data }, { on := 33, ground := Go.Ground.guard }], guard := some (33, false) }) ?_ rfl (by kernel_rfl) (by kernel_rfl) (by kernel_rfl) (fun _ _ _ h => h) (by rfl) (by assumption) ?_ ?_
              rotate_left
              · (intro w0 hS0; (try dsimp only at hS0); (try obtain ⟨s1, s2, s3⟩ := hS0); go_simp <;> (try with_reducible rfl))
              try simp only [Act.put, List.setIfInBounds_toArray, List.set_cons_zero, List.set_cons_succ]
              refine wpAnyH_read (i := 45) (oi := { dst := some 112, op := Go.Op.load 3 (Go.Operand.tmp 111), type := 3, pos := "law.go:124", after := #[{ on := 44, ground := Go.Ground.data }, { on := 33, ground := Go.Ground.guard }], guard := some (33, false) }) ?_ rfl (by kernel_rfl) (by kernel_rfl) (by kernel_rfl) (fun _ _ _ h => h) (by rfl) (by assumption) ?_ ?_
              rotate_left
              · (intro w0 hS0; (try dsimp only at hS0); (try obtain ⟨s1, s2, s3⟩ := hS0); go_simp <;> (try with_reducible rfl))
              try simp only [Act.put, List.setIfInBounds_toArray, List.set_cons_zero, List.set_cons_succ]
              refine wpAnyH_read (i := 46) (oi := { dst := some 113, op := Go.Op.binOp Go.BinOp.eql 3 (Go.Operand.tmp 108) (Go.Operand.tmp 112) 3, type := 4, pos := "law.go:124", after := #[{ on := 41, ground := Go.Ground.data }, { on := 45, ground := Go.Ground.data }, { on := 33, ground := Go.Ground.guard }], guard := some (33, false) }) ?_ rfl (by kernel_rfl) (by kernel_rfl) (by kernel_rfl) (fun _ _ _ h => h) (by rfl) (by assumption) ?_ ?_
              rotate_left
              · (intro w0 hS0; (try dsimp only at hS0); (try obtain ⟨s1, s2, s3⟩ := hS0); go_simp <;> (try with_reducible rfl))
              try simp only [Act.put, List.setIfInBounds_toArray, List.set_cons_zero, List.set_cons_succ]
              refine wpAnyH_read (i := 47) (oi := { dst := some 114, op := Go.Op.move (Go.Operand.tmp 113), type := 4, pos := "law.go:124", after := #[{ on := 46, ground := Go.Ground.data }, { on := 33, ground := Go.Ground.chain }, { on := 33, ground := Go.Ground.guard }], guard := some (33, false) }) ?_ rfl (by kernel_rfl) (by kernel_rfl) (by kernel_rfl) (fun _ _ _ h => h) (by rfl) (by assumption) ?_ ?_
              rotate_left
              · (intro w0 hS0; (try dsimp only at hS0); (try obtain ⟨s1, s2, s3⟩ := hS0); go_simp <;> (try with_reducible rfl))
              try simp only [Act.put, List.setIfInBounds_toArray, List.set_cons_zero, List.set_cons_succ]
              refine wpAnyH_pass (i := 48) (oi := { dst := some 115, op := Go.Op.move (Go.Operand.tmp 8), type := 48, pos := "law.go:124", after := #[{ on := 47, ground := Go.Ground.guard }], guard := some (47, true) }) rfl (by kernel_rfl) (by kernel_rfl) (by kernel_rfl) (fun _ _ _ h => h) (by rfl) (by assumption) ?_
              try simp only [Act.put, List.setIfInBounds_toArray, List.set_cons_zero, List.set_cons_succ]
              refine wpAnyH_pass (i := 49) (oi := { dst := some 116, op := Go.Op.move (Go.Operand.tmp 9), type := 3, pos := "law.go:124", after := #[{ on := 47, ground := Go.Ground.guard }], guard := some (47, true) }) rfl (by kernel_rfl) (by kernel_rfl) (by kernel_rfl) (fun _ _ _ h => h) (by rfl) (by assumption) ?_
              try simp only [Act.put, List.setIfInBounds_toArray, List.set_cons_zero, List.set_cons_succ]
              refine wpAnyH_pass (i := 50) (oi := { dst := some 117, op := Go.Op.binOp Go.BinOp.sub 3 (Go.Operand.tmp 116) (Go.Operand.const (Go.Value.int Go.IntKind.i64 1)) 3, type := 3, pos := "law.go:124", after := #[{ on := 49, ground := Go.Ground.data }, { on := 47, ground := Go.Ground.guard }], guard := some (47, true) }) rfl (by kernel_rfl) (by kernel_rfl) (by kernel_rfl) (fun _ _ _ h => h) (by rfl) (by assumption) ?_
              try simp only [Act.put, List.setIfInBounds_toArray, List.set_cons_zero, List.set_cons_succ]
              refine wpAnyH_pass (i := 51) (oi := { dst := some 118, op := Go.Op.indexAddr 48 (Go.Operand.tmp 115) (Go.Operand.tmp 117), type := 0, pos := "law.go:124", after := #[{ on := 48, ground := Go.Ground.data }, { on := 50, ground := Go.Ground.data }, { on := 47, ground := Go.Ground.guard }], guard := some (47, true) }) rfl (by kernel_rfl) (by kernel_rfl) (by kernel_rfl) (fun _ _ _ h => h) (by rfl) (by assumption) ?_
              try simp only [Act.put, List.setIfInBounds_toArray, List.set_cons_zero, List.set_cons_succ]
              refine wpAnyH_pass (i := 53) (oi := { dst := some 120, op := Go.Op.move (Go.Operand.tmp 10), type := 3, pos := "law.go:124", after := #[{ on := 47, ground := Go.Ground.guard }], guard := some (47, true) }) rfl (by kernel_rfl) (by kernel_rfl) (by kernel_rfl) (fun _ _ _ h => h) (by rfl) (by assumption) ?_
              try simp only [Act.put, List.setIfInBounds_toArray, List.set_cons_zero, List.set_cons_succ]
              refine wpAnyH_pass (i := 52) (oi := { dst := some 119, op := Go.Op.load 3 (Go.Operand.tmp 118), type := 3, pos := "law.go:124", after := #[{ on := 51, ground := Go.Ground.data }, { on := 47, ground := Go.Ground.guard }], guard := some (47, true) }) rfl (by kernel_rfl) (by kernel_rfl) (by kernel_rfl) (fun _ _ _ h => h) (by rfl) (by assumption) ?_
              try simp only [Act.put, List.setIfInBounds_toArray, List.set_cons_zero, List.set_cons_succ]
              refine wpAnyH_pass (i := 54) (oi := { dst := some 121, op := Go.Op.binOp Go.BinOp.geq 3 (Go.Operand.tmp 119) (Go.Operand.tmp 120) 3, type := 4, pos := "law.go:124", after := #[{ on := 52, ground := Go.Ground.data }, { on := 53, ground := Go.Ground.data }, { on := 47, ground := Go.Ground.guard }], guard := some (47, true) }) rfl (by kernel_rfl) (by kernel_rfl) (by kernel_rfl) (fun _ _ _ h => h) (by rfl) (by assumption) ?_
              try simp only [Act.put, List.setIfInBounds_toArray, List.set_cons_zero, List.set_cons_succ]
              refine wpAnyH_read (i := 55) (oi := { dst := some 122, op := Go.Op.pick (Go.Operand.tmp 114) (Go.Operand.tmp 121) (Go.Operand.const (Go.Value.bool false)), type := 4, pos := "law.go:124", after := #[{ on := 47, ground := Go.Ground.data }, { on := 54, ground := Go.Ground.data }, { on := 33, ground := Go.Ground.guard }], guard := some (33, false) }) ?_ rfl (by kernel_rfl) (by kernel_rfl) (by kernel_rfl) (fun _ _ _ h => h) (by rfl) (by assumption) ?_ ?_
              rotate_left
              · (intro w0 hS0; (try dsimp only at hS0); (try obtain ⟨s1, s2, s3⟩ := hS0); go_simp <;> (try with_reducible rfl))
              try simp only [Act.put, List.setIfInBounds_toArray, List.set_cons_zero, List.set_cons_succ]
              refine wpAnyH_read (i := 56) (oi := { dst := some 123, op := Go.Op.pick (Go.Operand.tmp 100) (Go.Operand.const (Go.Value.bool true)) (Go.Operand.tmp 122), type := 4, pos := "law.go:124", after := #[{ on := 33, ground := Go.Ground.data }, { on := 55, ground := Go.Ground.data }, { on := 19, ground := Go.Ground.guard }], guard := some (19, true) }) ?_ rfl (by kernel_rfl) (by kernel_rfl) (by kernel_rfl) (fun _ _ _ h => h) (by rfl) (by assumption) ?_ ?_
              rotate_left
              · (intro w0 hS0; (try dsimp only at hS0); (try obtain ⟨s1, s2, s3⟩ := hS0); go_simp <;> (try with_reducible rfl))
              try simp only [Act.put, List.setIfInBounds_toArray, List.set_cons_zero, List.set_cons_succ]
              refine wpAnyH_read (i := 57) (oi := { dst := some 124, op := Go.Op.pick (Go.Operand.tmp 86) (Go.Operand.tmp 123) (Go.Operand.const (Go.Value.bool false)), type := 4, pos := "law.go:124", after := #[{ on := 19, ground := Go.Ground.data }, { on := 56, ground := Go.Ground.data }, { on := 16, ground := Go.Ground.guard }], guard := some (16, false) }) ?_ rfl (by kernel_rfl) (by kernel_rfl) (by kernel_rfl) (fun _ _ _ h => h) (by rfl) (by assumption) ?_ ?_
              rotate_left
              · (intro w0 hS0; (try dsimp only at hS0); (try obtain ⟨s1, s2, s3⟩ := hS0); go_simp <;> (try with_reducible rfl))
              try simp only [Act.put, List.setIfInBounds_toArray, List.set_cons_zero, List.set_cons_succ]
              refine wpAnyH_read (i := 58) (oi := { dst := some 125, op := Go.Op.pick (Go.Operand.tmp 83) (Go.Operand.const (Go.Value.bool true)) (Go.Operand.tmp 124), type := 4, pos := "law.go:124", after := #[{ on := 16, ground := Go.Ground.data }, { on := 57, ground := Go.Ground.data }], guard := none }) ?_ rfl (by kernel_rfl) (by kernel_rfl) (by kernel_rfl) (fun _ _ _ h => h) (by rfl) (by assumption) ?_ ?_
              rotate_left
              · (intro w0 hS0; (try dsimp only at hS0); (try obtain ⟨s1, s2, s3⟩ := hS0); go_simp <;> (try with_reducible rfl))
              try simp only [Act.put, List.setIfInBounds_toArray, List.set_cons_zero, List.set_cons_succ]
              refine wpAnyH_done (by kernel_rfl) ?_ _
              go_wp2_with fail
              go_roundw
              case rel => exact ⟨ip + 1 + 1, by go_num, by omega, HB.out.drew⟩
              case measure => simp [RowKit.intOf]; omega
            · have hEq2 : la = lp := hEq.symm
              clear hEq
              subst hEq2
              have q7 : decide (j ≤ jp) = false := by simp; omega
              go_wp2_with fail
              refine wp_region_held_drew (S := fun V => V.cell? ⟨g, o + j, none⟩ = some (.int .i64 la) ∧ V.cell? ⟨g, o + jp, none⟩ = some (.int .i64 la) ∧ V.cell? ⟨g2, o2 + ip, none⟩ = some (.int .i64 jp)) (by kernel_rfl) (by exact ⟨hj, hjp, hgp⟩) (fun hHeld => ?_)
              refine wpAnyH_read (i := 0) (oi := { dst := some 67, op := Go.Op.move (Go.Operand.tmp 10), type := 3, pos := "law.go:124", after := #[], guard := none }) ?_ rfl (by kernel_rfl) (by kernel_rfl) (by kernel_rfl) (fun _ _ _ h => h) (by rfl) (by assumption) ?_ ?_
              rotate_left
              · (intro w0 hS0; (try dsimp only at hS0); (try obtain ⟨s1, s2, s3⟩ := hS0); go_simp <;> (try with_reducible rfl))
              try simp only [Act.put, List.setIfInBounds_toArray, List.set_cons_zero, List.set_cons_succ]
              refine wpAnyH_read (i := 1) (oi := { dst := some 68, op := Go.Op.binOp Go.BinOp.lss 3 (Go.Operand.tmp 67) (Go.Operand.const (Go.Value.int Go.IntKind.i64 0)) 3, type := 4, pos := "law.go:124", after := #[{ on := 0, ground := Go.Ground.data }], guard := none }) ?_ rfl (by kernel_rfl) (by kernel_rfl) (by kernel_rfl) (fun _ _ _ h => h) (by rfl) (by assumption) ?_ ?_
              rotate_left
              · (intro w0 hS0; (try dsimp only at hS0); (try obtain ⟨s1, s2, s3⟩ := hS0); go_simp <;> (try with_reducible rfl))
              try simp only [Act.put, List.setIfInBounds_toArray, List.set_cons_zero, List.set_cons_succ]
              refine wpAnyH_read (i := 2) (oi := { dst := some 69, op := Go.Op.move (Go.Operand.tmp 68), type := 4, pos := "law.go:124", after := #[{ on := 1, ground := Go.Ground.data }], guard := none }) ?_ rfl (by kernel_rfl) (by kernel_rfl) (by kernel_rfl) (fun _ _ _ h => h) (by rfl) (by assumption) ?_ ?_
              rotate_left
              · (intro w0 hS0; (try dsimp only at hS0); (try obtain ⟨s1, s2, s3⟩ := hS0); go_simp <;> (try with_reducible rfl))
              try simp only [Act.put, List.setIfInBounds_toArray, List.set_cons_zero, List.set_cons_succ]
              refine wpAnyH_read (i := 3) (oi := { dst := some 70, op := Go.Op.move (Go.Operand.tmp 10), type := 3, pos := "law.go:124", after := #[{ on := 2, ground := Go.Ground.guard }], guard := some (2, false) }) ?_ rfl (by kernel_rfl) (by kernel_rfl) (by kernel_rfl) (fun _ _ _ h => h) (by rfl) (by assumption) ?_ ?_
              rotate_left
              · (intro w0 hS0; (try dsimp only at hS0); (try obtain ⟨s1, s2, s3⟩ := hS0); go_simp <;> (try with_reducible rfl))
              try simp only [Act.put, List.setIfInBounds_toArray, List.set_cons_zero, List.set_cons_succ]
              refine wpAnyH_read (i := 4) (oi := { dst := some 71, op := Go.Op.move (Go.Operand.tmp 0), type := 48, pos := "law.go:124", after := #[{ on := 2, ground := Go.Ground.guard }], guard := some (2, false) }) ?_ rfl (by kernel_rfl) (by kernel_rfl) (by kernel_rfl) (fun _ _ _ h => h) (by rfl) (by assumption) ?_ ?_
              rotate_left
              · (intro w0 hS0; (try dsimp only at hS0); (try obtain ⟨s1, s2, s3⟩ := hS0); go_simp <;> (try with_reducible rfl))
              try simp only [Act.put, List.setIfInBounds_toArray, List.set_cons_zero, List.set_cons_succ]
              refine wpAnyH_read (i := 5) (oi := { dst := some 72, op := Go.Op.call { callee := Go.Callee.builtin Go.Builtin.len, args := #[Go.Operand.tmp 71], argTypes := #[48] }, type := 3, pos := "law.go:124", after := #[{ on := 4, ground := Go.Ground.data }, { on := 2, ground := Go.Ground.guard }], guard := some (2, false) }) ?_ rfl (by kernel_rfl) (by kernel_rfl) (by kernel_rfl) (fun _ _ _ h => h) (by rfl) (by assumption) ?_ ?_
              rotate_left
              · (intro w0 hS0; (try dsimp only at hS0); (try obtain ⟨s1, s2, s3⟩ := hS0); go_simp <;> (try with_reducible rfl))
              try simp only [Act.put, List.setIfInBounds_toArray, List.set_cons_zero, List.set_cons_succ]
              refine wpAnyH_read (i := 6) (oi := { dst := some 73, op := Go.Op.binOp Go.BinOp.geq 3 (Go.Operand.tmp 70) (Go.Operand.tmp 72) 3, type := 4, pos := "law.go:124", after := #[{ on := 3, ground := Go.Ground.data }, { on := 5, ground := Go.Ground.data }, { on := 2, ground := Go.Ground.guard }], guard := some (2, false) }) ?_ rfl (by kernel_rfl) (by kernel_rfl) (by kernel_rfl) (fun _ _ _ h => h) (by rfl) (by assumption) ?_ ?_
              rotate_left
              · (intro w0 hS0; (try dsimp only at hS0); (try obtain ⟨s1, s2, s3⟩ := hS0); go_simp <;> (try with_reducible rfl))
              try simp only [Act.put, List.setIfInBounds_toArray, List.set_cons_zero, List.set_cons_succ]
              refine wpAnyH_read (i := 7) (oi := { dst := some 74, op := Go.Op.pick (Go.Operand.tmp 69) (Go.Operand.const (Go.Value.bool true)) (Go.Operand.tmp 73), type := 4, pos := "law.go:124", after := #[{ on := 2, ground := Go.Ground.data }, { on := 6, ground := Go.Ground.data }], guard := none }) ?_ rfl (by kernel_rfl) (by kernel_rfl) (by kernel_rfl) (fun _ _ _ h => h) (by rfl) (by assumption) ?_ ?_
              rotate_left
              · (intro w0 hS0; (try dsimp only at hS0); (try obtain ⟨s1, s2, s3⟩ := hS0); go_simp <;> (try with_reducible rfl))
              try simp only [Act.put, List.setIfInBounds_toArray, List.set_cons_zero, List.set_cons_succ]
              refine wpAnyH_read (i := 8) (oi := { dst := some 75, op := Go.Op.move (Go.Operand.tmp 74), type := 4, pos := "law.go:124", after := #[{ on := 7, ground := Go.Ground.data }, { on := 2, ground := Go.Ground.chain }], guard := none }) ?_ rfl (by kernel_rfl) (by kernel_rfl) (by kernel_rfl) (fun _ _ _ h => h) (by rfl) (by assumption) ?_ ?_
              rotate_left
              · (intro w0 hS0; (try dsimp only at hS0); (try obtain ⟨s1, s2, s3⟩ := hS0); go_simp <;> (try with_reducible rfl))
              try simp only [Act.put, List.setIfInBounds_toArray, List.set_cons_zero, List.set_cons_succ]
              refine wpAnyH_read (i := 9) (oi := { dst := some 76, op := Go.Op.move (Go.Operand.tmp 0), type := 48, pos := "law.go:124", after := #[{ on := 8, ground := Go.Ground.guard }], guard := some (8, false) }) ?_ rfl (by kernel_rfl) (by kernel_rfl) (by kernel_rfl) (fun _ _ _ h => h) (by rfl) (by assumption) ?_ ?_
              rotate_left
              · (intro w0 hS0; (try dsimp only at hS0); (try obtain ⟨s1, s2, s3⟩ := hS0); go_simp <;> (try with_reducible rfl))
              try simp only [Act.put, List.setIfInBounds_toArray, List.set_cons_zero, List.set_cons_succ]
              refine wpAnyH_read (i := 10) (oi := { dst := some 77, op := Go.Op.move (Go.Operand.tmp 10), type := 3, pos := "law.go:124", after := #[{ on := 8, ground := Go.Ground.guard }], guard := some (8, false) }) ?_ rfl (by kernel_rfl) (by kernel_rfl) (by kernel_rfl) (fun _ _ _ h => h) (by rfl) (by assumption) ?_ ?_
              rotate_left
              · (intro w0 hS0; (try dsimp only at hS0); (try obtain ⟨s1, s2, s3⟩ := hS0); go_simp <;> (try with_reducible rfl))
              try simp only [Act.put, List.setIfInBounds_toArray, List.set_cons_zero, List.set_cons_succ]
              refine wpAnyH_read (i := 11) (oi := { dst := some 78, op := Go.Op.indexAddr 48 (Go.Operand.tmp 76) (Go.Operand.tmp 77), type := 0, pos := "law.go:124", after := #[{ on := 9, ground := Go.Ground.data }, { on := 10, ground := Go.Ground.data }, { on := 8, ground := Go.Ground.guard }], guard := some (8, false) }) ?_ rfl (by kernel_rfl) (by kernel_rfl) (by kernel_rfl) (fun _ _ _ h => h) (by rfl) (by assumption) ?_ ?_
              rotate_left
              · (intro w0 hS0; (try dsimp only at hS0); (try obtain ⟨s1, s2, s3⟩ := hS0); go_simp <;> (try with_reducible rfl))
              try simp only [Act.put, List.setIfInBounds_toArray, List.set_cons_zero, List.set_cons_succ]
              refine wpAnyH_read (i := 13) (oi := { dst := some 80, op := Go.Op.move (Go.Operand.tmp 1), type := 3, pos := "law.go:124", after := #[{ on := 8, ground := Go.Ground.guard }], guard := some (8, false) }) ?_ rfl (by kernel_rfl) (by kernel_rfl) (by kernel_rfl) (fun _ _ _ h => h) (by rfl) (by assumption) ?_ ?_
              rotate_left
              · (intro w0 hS0; (try dsimp only at hS0); (try obtain ⟨s1, s2, s3⟩ := hS0); go_simp <;> (try with_reducible rfl))
              try simp only [Act.put, List.setIfInBounds_toArray, List.set_cons_zero, List.set_cons_succ]
              refine wpAnyH_read (i := 12) (oi := { dst := some 79, op := Go.Op.load 3 (Go.Operand.tmp 78), type := 3, pos := "law.go:124", after := #[{ on := 11, ground := Go.Ground.data }, { on := 8, ground := Go.Ground.guard }], guard := some (8, false) }) ?_ rfl (by kernel_rfl) (by kernel_rfl) (by kernel_rfl) (fun _ _ _ h => h) (by rfl) (by assumption) ?_ ?_
              rotate_left
              · (intro w0 hS0; (try dsimp only at hS0); (try obtain ⟨s1, s2, s3⟩ := hS0); go_simp <;> (try with_reducible rfl))
              try simp only [Act.put, List.setIfInBounds_toArray, List.set_cons_zero, List.set_cons_succ]
              refine wpAnyH_read (i := 14) (oi := { dst := some 81, op := Go.Op.binOp Go.BinOp.gtr 3 (Go.Operand.tmp 79) (Go.Operand.tmp 80) 3, type := 4, pos := "law.go:124", after := #[{ on := 12, ground := Go.Ground.data }, { on := 13, ground := Go.Ground.data }, { on := 8, ground := Go.Ground.guard }], guard := some (8, false) }) ?_ rfl (by kernel_rfl) (by kernel_rfl) (by kernel_rfl) (fun _ _ _ h => h) (by rfl) (by assumption) ?_ ?_
              rotate_left
              · (intro w0 hS0; (try dsimp only at hS0); (try obtain ⟨s1, s2, s3⟩ := hS0); go_simp <;> (try with_reducible rfl))
              try simp only [Act.put, List.setIfInBounds_toArray, List.set_cons_zero, List.set_cons_succ]
              refine wpAnyH_read (i := 15) (oi := { dst := some 82, op := Go.Op.pick (Go.Operand.tmp 75) (Go.Operand.const (Go.Value.bool true)) (Go.Operand.tmp 81), type := 4, pos := "law.go:124", after := #[{ on := 8, ground := Go.Ground.data }, { on := 14, ground := Go.Ground.data }], guard := none }) ?_ rfl (by kernel_rfl) (by kernel_rfl) (by kernel_rfl) (fun _ _ _ h => h) (by rfl) (by assumption) ?_ ?_
              rotate_left
              · (intro w0 hS0; (try dsimp only at hS0); (try obtain ⟨s1, s2, s3⟩ := hS0); go_simp <;> (try with_reducible rfl))
              try simp only [Act.put, List.setIfInBounds_toArray, List.set_cons_zero, List.set_cons_succ]
              refine wpAnyH_read (i := 16) (oi := { dst := some 83, op := Go.Op.move (Go.Operand.tmp 82), type := 4, pos := "law.go:124", after := #[{ on := 15, ground := Go.Ground.data }, { on := 8, ground := Go.Ground.chain }], guard := none }) ?_ rfl (by kernel_rfl) (by kernel_rfl) (by kernel_rfl) (fun _ _ _ h => h) (by rfl) (by assumption) ?_ ?_
              rotate_left
              · (intro w0 hS0; (try dsimp only at hS0); (try obtain ⟨s1, s2, s3⟩ := hS0); go_simp <;> (try with_reducible rfl))
              try simp only [Act.put, List.setIfInBounds_toArray, List.set_cons_zero, List.set_cons_succ]
              refine wpAnyH_read (i := 17) (oi := { dst := some 84, op := Go.Op.move (Go.Operand.tmp 9), type := 3, pos := "law.go:124", after := #[{ on := 16, ground := Go.Ground.guard }], guard := some (16, false) }) ?_ rfl (by kernel_rfl) (by kernel_rfl) (by kernel_rfl) (fun _ _ _ h => h) (by rfl) (by assumption) ?_ ?_
              rotate_left
              · (intro w0 hS0; (try dsimp only at hS0); (try obtain ⟨s1, s2, s3⟩ := hS0); go_simp <;> (try with_reducible rfl))
              try simp only [Act.put, List.setIfInBounds_toArray, List.set_cons_zero, List.set_cons_succ]
              refine wpAnyH_read (i := 18) (oi := { dst := some 85, op := Go.Op.binOp Go.BinOp.gtr 3 (Go.Operand.tmp 84) (Go.Operand.const (Go.Value.int Go.IntKind.i64 0)) 3, type := 4, pos := "law.go:124", after := #[{ on := 17, ground := Go.Ground.data }, { on := 16, ground := Go.Ground.guard }], guard := some (16, false) }) ?_ rfl (by kernel_rfl) (by kernel_rfl) (by kernel_rfl) (fun _ _ _ h => h) (by rfl) (by assumption) ?_ ?_
              rotate_left
              · (intro w0 hS0; (try dsimp only at hS0); (try obtain ⟨s1, s2, s3⟩ := hS0); go_simp <;> (try with_reducible rfl))
              try simp only [Act.put, List.setIfInBounds_toArray, List.set_cons_zero, List.set_cons_succ]
              refine wpAnyH_read (i := 19) (oi := { dst := some 86, op := Go.Op.move (Go.Operand.tmp 85), type := 4, pos := "law.go:124", after := #[{ on := 18, ground := Go.Ground.data }, { on := 16, ground := Go.Ground.chain }, { on := 16, ground := Go.Ground.guard }], guard := some (16, false) }) ?_ rfl (by kernel_rfl) (by kernel_rfl) (by kernel_rfl) (fun _ _ _ h => h) (by rfl) (by assumption) ?_ ?_
              rotate_left
              · (intro w0 hS0; (try dsimp only at hS0); (try obtain ⟨s1, s2, s3⟩ := hS0); go_simp <;> (try with_reducible rfl))
              try simp only [Act.put, List.setIfInBounds_toArray, List.set_cons_zero, List.set_cons_succ]
              refine wpAnyH_read (i := 20) (oi := { dst := some 87, op := Go.Op.move (Go.Operand.tmp 0), type := 48, pos := "law.go:124", after := #[{ on := 19, ground := Go.Ground.guard }], guard := some (19, true) }) ?_ rfl (by kernel_rfl) (by kernel_rfl) (by kernel_rfl) (fun _ _ _ h => h) (by rfl) (by assumption) ?_ ?_
              rotate_left
              · (intro w0 hS0; (try dsimp only at hS0); (try obtain ⟨s1, s2, s3⟩ := hS0); go_simp <;> (try with_reducible rfl))
              try simp only [Act.put, List.setIfInBounds_toArray, List.set_cons_zero, List.set_cons_succ]
              refine wpAnyH_read (i := 21) (oi := { dst := some 88, op := Go.Op.move (Go.Operand.tmp 8), type := 48, pos := "law.go:124", after := #[{ on := 19, ground := Go.Ground.guard }], guard := some (19, true) }) ?_ rfl (by kernel_rfl) (by kernel_rfl) (by kernel_rfl) (fun _ _ _ h => h) (by rfl) (by assumption) ?_ ?_
              rotate_left
              · (intro w0 hS0; (try dsimp only at hS0); (try obtain ⟨s1, s2, s3⟩ := hS0); go_simp <;> (try with_reducible rfl))
              try simp only [Act.put, List.setIfInBounds_toArray, List.set_cons_zero, List.set_cons_succ]
              refine wpAnyH_read (i := 22) (oi := { dst := some 89, op := Go.Op.move (Go.Operand.tmp 9), type := 3, pos := "law.go:124", after := #[{ on := 19, ground := Go.Ground.guard }], guard := some (19, true) }) ?_ rfl (by kernel_rfl) (by kernel_rfl) (by kernel_rfl) (fun _ _ _ h => h) (by rfl) (by assumption) ?_ ?_
              rotate_left
              · (intro w0 hS0; (try dsimp only at hS0); (try obtain ⟨s1, s2, s3⟩ := hS0); go_simp <;> (try with_reducible rfl))
              try simp only [Act.put, List.setIfInBounds_toArray, List.set_cons_zero, List.set_cons_succ]
              refine wpAnyH_read (i := 23) (oi := { dst := some 90, op := Go.Op.binOp Go.BinOp.sub 3 (Go.Operand.tmp 89) (Go.Operand.const (Go.Value.int Go.IntKind.i64 1)) 3, type := 3, pos := "law.go:124", after := #[{ on := 22, ground := Go.Ground.data }, { on := 19, ground := Go.Ground.guard }], guard := some (19, true) }) ?_ rfl (by kernel_rfl) (by kernel_rfl) (by kernel_rfl) (fun _ _ _ h => h) (by rfl) (by assumption) ?_ ?_
              rotate_left
              · (intro w0 hS0; (try dsimp only at hS0); (try obtain ⟨s1, s2, s3⟩ := hS0); go_simp <;> (try with_reducible rfl))
              try simp only [Act.put, List.setIfInBounds_toArray, List.set_cons_zero, List.set_cons_succ]
              refine wpAnyH_read (i := 24) (oi := { dst := some 91, op := Go.Op.indexAddr 48 (Go.Operand.tmp 88) (Go.Operand.tmp 90), type := 0, pos := "law.go:124", after := #[{ on := 21, ground := Go.Ground.data }, { on := 23, ground := Go.Ground.data }, { on := 19, ground := Go.Ground.guard }], guard := some (19, true) }) ?_ rfl (by kernel_rfl) (by kernel_rfl) (by kernel_rfl) (fun _ _ _ h => h) (by rfl) (by assumption) ?_ ?_
              rotate_left
              · (intro w0 hS0; (try dsimp only at hS0); (try obtain ⟨s1, s2, s3⟩ := hS0); go_simp <;> (try with_reducible rfl))
              try simp only [Act.put, List.setIfInBounds_toArray, List.set_cons_zero, List.set_cons_succ]
              refine wpAnyH_read (i := 28) (oi := { dst := some 95, op := Go.Op.move (Go.Operand.tmp 0), type := 48, pos := "law.go:124", after := #[{ on := 19, ground := Go.Ground.guard }], guard := some (19, true) }) ?_ rfl (by kernel_rfl) (by kernel_rfl) (by kernel_rfl) (fun _ _ _ h => h) (by rfl) (by assumption) ?_ ?_
              rotate_left
              · (intro w0 hS0; (try dsimp only at hS0); (try obtain ⟨s1, s2, s3⟩ := hS0); go_simp <;> (try with_reducible rfl))
              try simp only [Act.put, List.setIfInBounds_toArray, List.set_cons_zero, List.set_cons_succ]
              refine wpAnyH_read (i := 29) (oi := { dst := some 96, op := Go.Op.move (Go.Operand.tmp 10), type := 3, pos := "law.go:124", after := #[{ on := 19, ground := Go.Ground.guard }], guard := some (19, true) }) ?_ rfl (by kernel_rfl) (by kernel_rfl) (by kernel_rfl) (fun _ _ _ h => h) (by rfl) (by assumption) ?_ ?_
              rotate_left
              · (intro w0 hS0; (try dsimp only at hS0); (try obtain ⟨s1, s2, s3⟩ := hS0); go_simp <;> (try with_reducible rfl))
              try simp only [Act.put, List.setIfInBounds_toArray, List.set_cons_zero, List.set_cons_succ]
              refine wpAnyH_read (i := 30) (oi := { dst := some 97, op := Go.Op.indexAddr 48 (Go.Operand.tmp 95) (Go.Operand.tmp 96), type := 0, pos := "law.go:124", after := #[{ on := 28, ground := Go.Ground.data }, { on := 29, ground := Go.Ground.data }, { on := 19, ground := Go.Ground.guard }], guard := some (19, true) }) ?_ rfl (by kernel_rfl) (by kernel_rfl) (by kernel_rfl) (fun _ _ _ h => h) (by rfl) (by assumption) ?_ ?_
              rotate_left
              · (intro w0 hS0; (try dsimp only at hS0); (try obtain ⟨s1, s2, s3⟩ := hS0); go_simp <;> (try with_reducible rfl))
              try simp only [Act.put, List.setIfInBounds_toArray, List.set_cons_zero, List.set_cons_succ]
              refine wpAnyH_read (i := 25) (oi := { dst := some 92, op := Go.Op.load 3 (Go.Operand.tmp 91), type := 3, pos := "law.go:124", after := #[{ on := 24, ground := Go.Ground.data }, { on := 19, ground := Go.Ground.guard }], guard := some (19, true) }) ?_ rfl (by kernel_rfl) (by kernel_rfl) (by kernel_rfl) (fun _ _ _ h => h) (by rfl) (by assumption) ?_ ?_
              rotate_left
              · (intro w0 hS0; (try dsimp only at hS0); (try obtain ⟨s1, s2, s3⟩ := hS0); go_simp <;> (try with_reducible rfl))
              try simp only [Act.put, List.setIfInBounds_toArray, List.set_cons_zero, List.set_cons_succ]
              refine wpAnyH_read (i := 26) (oi := { dst := some 93, op := Go.Op.indexAddr 48 (Go.Operand.tmp 87) (Go.Operand.tmp 92), type := 0, pos := "law.go:124", after := #[{ on := 20, ground := Go.Ground.data }, { on := 25, ground := Go.Ground.data }, { on := 19, ground := Go.Ground.guard }], guard := some (19, true) }) ?_ rfl (by kernel_rfl) (by kernel_rfl) (by kernel_rfl) (fun _ _ _ h => h) (by rfl) (by assumption) ?_ ?_
              rotate_left
              · (intro w0 hS0; (try dsimp only at hS0); (try obtain ⟨s1, s2, s3⟩ := hS0); go_simp <;> (try with_reducible rfl))
              try simp only [Act.put, List.setIfInBounds_toArray, List.set_cons_zero, List.set_cons_succ]
              refine wpAnyH_read (i := 27) (oi := { dst := some 94, op := Go.Op.load 3 (Go.Operand.tmp 93), type := 3, pos := "law.go:124", after := #[{ on := 26, ground := Go.Ground.data }, { on := 19, ground := Go.Ground.guard }], guard := some (19, true) }) ?_ rfl (by kernel_rfl) (by kernel_rfl) (by kernel_rfl) (fun _ _ _ h => h) (by rfl) (by assumption) ?_ ?_
              rotate_left
              · (intro w0 hS0; (try dsimp only at hS0); (try obtain ⟨s1, s2, s3⟩ := hS0); go_simp <;> (try with_reducible rfl))
              try simp only [Act.put, List.setIfInBounds_toArray, List.set_cons_zero, List.set_cons_succ]
              refine wpAnyH_read (i := 31) (oi := { dst := some 98, op := Go.Op.load 3 (Go.Operand.tmp 97), type := 3, pos := "law.go:124", after := #[{ on := 30, ground := Go.Ground.data }, { on := 19, ground := Go.Ground.guard }], guard := some (19, true) }) ?_ rfl (by kernel_rfl) (by kernel_rfl) (by kernel_rfl) (fun _ _ _ h => h) (by rfl) (by assumption) ?_ ?_
              rotate_left
              · (intro w0 hS0; (try dsimp only at hS0); (try obtain ⟨s1, s2, s3⟩ := hS0); go_simp <;> (try with_reducible rfl))
              try simp only [Act.put, List.setIfInBounds_toArray, List.set_cons_zero, List.set_cons_succ]
              refine wpAnyH_read (i := 32) (oi := { dst := some 99, op := Go.Op.binOp Go.BinOp.gtr 3 (Go.Operand.tmp 94) (Go.Operand.tmp 98) 3, type := 4, pos := "law.go:124", after := #[{ on := 27, ground := Go.Ground.data }, { on := 31, ground := Go.Ground.data }, { on := 19, ground := Go.Ground.guard }], guard := some (19, true) }) ?_ rfl (by kernel_rfl) (by kernel_rfl) (by kernel_rfl) (fun _ _ _ h => h) (by rfl) (by assumption) ?_ ?_
              rotate_left
              · (intro w0 hS0; (try dsimp only at hS0); (try obtain ⟨s1, s2, s3⟩ := hS0); go_simp <;> (try with_reducible rfl))
              try simp only [Act.put, List.setIfInBounds_toArray, List.set_cons_zero, List.set_cons_succ]
              refine wpAnyH_read (i := 33) (oi := { dst := some 100, op := Go.Op.move (Go.Operand.tmp 99), type := 4, pos := "law.go:124", after := #[{ on := 32, ground := Go.Ground.data }, { on := 19, ground := Go.Ground.chain }, { on := 19, ground := Go.Ground.guard }], guard := some (19, true) }) ?_ rfl (by kernel_rfl) (by kernel_rfl) (by kernel_rfl) (fun _ _ _ h => h) (by rfl) (by assumption) ?_ ?_
              rotate_left
              · (intro w0 hS0; (try dsimp only at hS0); (try obtain ⟨s1, s2, s3⟩ := hS0); go_simp <;> (try with_reducible rfl))
              try simp only [Act.put, List.setIfInBounds_toArray, List.set_cons_zero, List.set_cons_succ]
              refine wpAnyH_read (i := 34) (oi := { dst := some 101, op := Go.Op.move (Go.Operand.tmp 0), type := 48, pos := "law.go:124", after := #[{ on := 33, ground := Go.Ground.guard }], guard := some (33, false) }) ?_ rfl (by kernel_rfl) (by kernel_rfl) (by kernel_rfl) (fun _ _ _ h => h) (by rfl) (by assumption) ?_ ?_
              rotate_left
              · (intro w0 hS0; (try dsimp only at hS0); (try obtain ⟨s1, s2, s3⟩ := hS0); go_simp <;> (try with_reducible rfl))
              try simp only [Act.put, List.setIfInBounds_toArray, List.set_cons_zero, List.set_cons_succ]
              refine wpAnyH_read (i := 35) (oi := { dst := some 102, op := Go.Op.move (Go.Operand.tmp 8), type := 48, pos := "law.go:124", after := #[{ on := 33, ground := Go.Ground.guard }], guard := some (33, false) }) ?_ rfl (by kernel_rfl) (by kernel_rfl) (by kernel_rfl) (fun _ _ _ h => h) (by rfl) (by assumption) ?_ ?_
              rotate_left
              · (intro w0 hS0; (try dsimp only at hS0); (try obtain ⟨s1, s2, s3⟩ := hS0); go_simp <;> (try with_reducible rfl))
              try simp only [Act.put, List.setIfInBounds_toArray, List.set_cons_zero, List.set_cons_succ]
              refine wpAnyH_read (i := 36) (oi := { dst := some 103, op := Go.Op.move (Go.Operand.tmp 9), type := 3, pos := "law.go:124", after := #[{ on := 33, ground := Go.Ground.guard }], guard := some (33, false) }) ?_ rfl (by kernel_rfl) (by kernel_rfl) (by kernel_rfl) (fun _ _ _ h => h) (by rfl) (by assumption) ?_ ?_
              rotate_left
              · (intro w0 hS0; (try dsimp only at hS0); (try obtain ⟨s1, s2, s3⟩ := hS0); go_simp <;> (try with_reducible rfl))
              try simp only [Act.put, List.setIfInBounds_toArray, List.set_cons_zero, List.set_cons_succ]
              refine wpAnyH_read (i := 37) (oi := { dst := some 104, op := Go.Op.binOp Go.BinOp.sub 3 (Go.Operand.tmp 103) (Go.Operand.const (Go.Value.int Go.IntKind.i64 1)) 3, type := 3, pos := "law.go:124", after := #[{ on := 36, ground := Go.Ground.data }, { on := 33, ground := Go.Ground.guard }], guard := some (33, false) }) ?_ rfl (by kernel_rfl) (by kernel_rfl) (by kernel_rfl) (fun _ _ _ h => h) (by rfl) (by assumption) ?_ ?_
              rotate_left
              · (intro w0 hS0; (try dsimp only at hS0); (try obtain ⟨s1, s2, s3⟩ := hS0); go_simp <;> (try with_reducible rfl))
              try simp only [Act.put, List.setIfInBounds_toArray, List.set_cons_zero, List.set_cons_succ]
              refine wpAnyH_read (i := 38) (oi := { dst := some 105, op := Go.Op.indexAddr 48 (Go.Operand.tmp 102) (Go.Operand.tmp 104), type := 0, pos := "law.go:124", after := #[{ on := 35, ground := Go.Ground.data }, { on := 37, ground := Go.Ground.data }, { on := 33, ground := Go.Ground.guard }], guard := some (33, false) }) ?_ rfl (by kernel_rfl) (by kernel_rfl) (by kernel_rfl) (fun _ _ _ h => h) (by rfl) (by assumption) ?_ ?_
              rotate_left
              · (intro w0 hS0; (try dsimp only at hS0); (try obtain ⟨s1, s2, s3⟩ := hS0); go_simp <;> (try with_reducible rfl))
              try simp only [Act.put, List.setIfInBounds_toArray, List.set_cons_zero, List.set_cons_succ]
              refine wpAnyH_read (i := 42) (oi := { dst := some 109, op := Go.Op.move (Go.Operand.tmp 0), type := 48, pos := "law.go:124", after := #[{ on := 33, ground := Go.Ground.guard }], guard := some (33, false) }) ?_ rfl (by kernel_rfl) (by kernel_rfl) (by kernel_rfl) (fun _ _ _ h => h) (by rfl) (by assumption) ?_ ?_
              rotate_left
              · (intro w0 hS0; (try dsimp only at hS0); (try obtain ⟨s1, s2, s3⟩ := hS0); go_simp <;> (try with_reducible rfl))
              try simp only [Act.put, List.setIfInBounds_toArray, List.set_cons_zero, List.set_cons_succ]
              refine wpAnyH_read (i := 43) (oi := { dst := some 110, op := Go.Op.move (Go.Operand.tmp 10), type := 3, pos := "law.go:124", after := #[{ on := 33, ground := Go.Ground.guard }], guard := some (33, false) }) ?_ rfl (by kernel_rfl) (by kernel_rfl) (by kernel_rfl) (fun _ _ _ h => h) (by rfl) (by assumption) ?_ ?_
              rotate_left
              · (intro w0 hS0; (try dsimp only at hS0); (try obtain ⟨s1, s2, s3⟩ := hS0); go_simp <;> (try with_reducible rfl))
              try simp only [Act.put, List.setIfInBounds_toArray, List.set_cons_zero, List.set_cons_succ]
              refine wpAnyH_read (i := 44) (oi := { dst := some 111, op := Go.Op.indexAddr 48 (Go.Operand.tmp 109) (Go.Operand.tmp 110), type := 0, pos := "law.go:124", after := #[{ on := 42, ground := Go.Ground.data }, { on := 43, ground := Go.Ground.data }, { on := 33, ground := Go.Ground.guard }], guard := some (33, false) }) ?_ rfl (by kernel_rfl) (by kernel_rfl) (by kernel_rfl) (fun _ _ _ h => h) (by rfl) (by assumption) ?_ ?_
              rotate_left
              · (intro w0 hS0; (try dsimp only at hS0); (try obtain ⟨s1, s2, s3⟩ := hS0); go_simp <;> (try with_reducible rfl))
              try simp only [Act.put, List.setIfInBounds_toArray, List.set_cons_zero, List.set_cons_succ]
              refine wpAnyH_read (i := 39) (oi := { dst := some 106, op := Go.Op.load 3 (Go.Operand.tmp 105), type := 3, pos := "law.go:124", after := #[{ on := 38, ground := Go.Ground.data }, { on := 33, ground := Go.Ground.guard }], guard := some (33, false) }) ?_ rfl (by kernel_rfl) (by kernel_rfl) (by kernel_rfl) (fun _ _ _ h => h) (by rfl) (by assumption) ?_ ?_
              rotate_left
              · (intro w0 hS0; (try dsimp only at hS0); (try obtain ⟨s1, s2, s3⟩ := hS0); go_simp <;> (try with_reducible rfl))
              try simp only [Act.put, List.setIfInBounds_toArray, List.set_cons_zero, List.set_cons_succ]
              refine wpAnyH_read (i := 40) (oi := { dst := some 107, op := Go.Op.indexAddr 48 (Go.Operand.tmp 101) (Go.Operand.tmp 106), type := 0, pos := "law.go:124", after := #[{ on := 34, ground := Go.Ground.data }, { on := 39, ground := Go.Ground.data }, { on := 33, ground := Go.Ground.guard }], guard := some (33, false) }) ?_ rfl (by kernel_rfl) (by kernel_rfl) (by kernel_rfl) (fun _ _ _ h => h) (by rfl) (by assumption) ?_ ?_
              rotate_left
              · (intro w0 hS0; (try dsimp only at hS0); (try obtain ⟨s1, s2, s3⟩ := hS0); go_simp <;> (try with_reducible rfl))
              try simp only [Act.put, List.setIfInBounds_toArray, List.set_cons_zero, List.set_cons_succ]
              refine wpAnyH_read (i := 41) (oi := { dst := some 108, op := Go.Op.load 3 (Go.Operand.tmp 107), type := 3, pos := "law.go:124", after := #[{ on := 40, ground := Go.Ground.data }, { on := 33, ground := Go.Ground.guard }], guard := some (33, false) }) ?_ rfl (by kernel_rfl) (by kernel_rfl) (by kernel_rfl) (fun _ _ _ h => h) (by rfl) (by assumption) ?_ ?_
              rotate_left
              · (intro w0 hS0; (try dsimp only at hS0); (try obtain ⟨s1, s2, s3⟩ := hS0); go_simp <;> (try with_reducible rfl))
              try simp only [Act.put, List.setIfInBounds_toArray, List.set_cons_zero, List.set_cons_succ]
              refine wpAnyH_read (i := 45) (oi := { dst := some 112, op := Go.Op.load 3 (Go.Operand.tmp 111), type := 3, pos := "law.go:124", after := #[{ on := 44, ground := Go.Ground.data }, { on := 33, ground := Go.Ground.guard }], guard := some (33, false) }) ?_ rfl (by kernel_rfl) (by kernel_rfl) (by kernel_rfl) (fun _ _ _ h => h) (by rfl) (by assumption) ?_ ?_
              rotate_left
              · (intro w0 hS0; (try dsimp only at hS0); (try obtain ⟨s1, s2, s3⟩ := hS0); go_simp <;> (try with_reducible rfl))
              try simp only [Act.put, List.setIfInBounds_toArray, List.set_cons_zero, List.set_cons_succ]
              refine wpAnyH_read (i := 46) (oi := { dst := some 113, op := Go.Op.binOp Go.BinOp.eql 3 (Go.Operand.tmp 108) (Go.Operand.tmp 112) 3, type := 4, pos := "law.go:124", after := #[{ on := 41, ground := Go.Ground.data }, { on := 45, ground := Go.Ground.data }, { on := 33, ground := Go.Ground.guard }], guard := some (33, false) }) ?_ rfl (by kernel_rfl) (by kernel_rfl) (by kernel_rfl) (fun _ _ _ h => h) (by rfl) (by assumption) ?_ ?_
              rotate_left
              · (intro w0 hS0; (try dsimp only at hS0); (try obtain ⟨s1, s2, s3⟩ := hS0); go_simp <;> (try with_reducible rfl))
              try simp only [Act.put, List.setIfInBounds_toArray, List.set_cons_zero, List.set_cons_succ]
              refine wpAnyH_read (i := 47) (oi := { dst := some 114, op := Go.Op.move (Go.Operand.tmp 113), type := 4, pos := "law.go:124", after := #[{ on := 46, ground := Go.Ground.data }, { on := 33, ground := Go.Ground.chain }, { on := 33, ground := Go.Ground.guard }], guard := some (33, false) }) ?_ rfl (by kernel_rfl) (by kernel_rfl) (by kernel_rfl) (fun _ _ _ h => h) (by rfl) (by assumption) ?_ ?_
              rotate_left
              · (intro w0 hS0; (try dsimp only at hS0); (try obtain ⟨s1, s2, s3⟩ := hS0); go_simp <;> (try with_reducible rfl))
              try simp only [Act.put, List.setIfInBounds_toArray, List.set_cons_zero, List.set_cons_succ]
              refine wpAnyH_read (i := 48) (oi := { dst := some 115, op := Go.Op.move (Go.Operand.tmp 8), type := 48, pos := "law.go:124", after := #[{ on := 47, ground := Go.Ground.guard }], guard := some (47, true) }) ?_ rfl (by kernel_rfl) (by kernel_rfl) (by kernel_rfl) (fun _ _ _ h => h) (by rfl) (by assumption) ?_ ?_
              rotate_left
              · (intro w0 hS0; (try dsimp only at hS0); (try obtain ⟨s1, s2, s3⟩ := hS0); go_simp <;> (try with_reducible rfl))
              try simp only [Act.put, List.setIfInBounds_toArray, List.set_cons_zero, List.set_cons_succ]
              refine wpAnyH_read (i := 49) (oi := { dst := some 116, op := Go.Op.move (Go.Operand.tmp 9), type := 3, pos := "law.go:124", after := #[{ on := 47, ground := Go.Ground.guard }], guard := some (47, true) }) ?_ rfl (by kernel_rfl) (by kernel_rfl) (by kernel_rfl) (fun _ _ _ h => h) (by rfl) (by assumption) ?_ ?_
              rotate_left
              · (intro w0 hS0; (try dsimp only at hS0); (try obtain ⟨s1, s2, s3⟩ := hS0); go_simp <;> (try with_reducible rfl))
              try simp only [Act.put, List.setIfInBounds_toArray, List.set_cons_zero, List.set_cons_succ]
              refine wpAnyH_read (i := 50) (oi := { dst := some 117, op := Go.Op.binOp Go.BinOp.sub 3 (Go.Operand.tmp 116) (Go.Operand.const (Go.Value.int Go.IntKind.i64 1)) 3, type := 3, pos := "law.go:124", after := #[{ on := 49, ground := Go.Ground.data }, { on := 47, ground := Go.Ground.guard }], guard := some (47, true) }) ?_ rfl (by kernel_rfl) (by kernel_rfl) (by kernel_rfl) (fun _ _ _ h => h) (by rfl) (by assumption) ?_ ?_
              rotate_left
              · (intro w0 hS0; (try dsimp only at hS0); (try obtain ⟨s1, s2, s3⟩ := hS0); go_simp <;> (try with_reducible rfl))
              try simp only [Act.put, List.setIfInBounds_toArray, List.set_cons_zero, List.set_cons_succ]
              refine wpAnyH_read (i := 51) (oi := { dst := some 118, op := Go.Op.indexAddr 48 (Go.Operand.tmp 115) (Go.Operand.tmp 117), type := 0, pos := "law.go:124", after := #[{ on := 48, ground := Go.Ground.data }, { on := 50, ground := Go.Ground.data }, { on := 47, ground := Go.Ground.guard }], guard := some (47, true) }) ?_ rfl (by kernel_rfl) (by kernel_rfl) (by kernel_rfl) (fun _ _ _ h => h) (by rfl) (by assumption) ?_ ?_
              rotate_left
              · (intro w0 hS0; (try dsimp only at hS0); (try obtain ⟨s1, s2, s3⟩ := hS0); go_simp <;> (try with_reducible rfl))
              try simp only [Act.put, List.setIfInBounds_toArray, List.set_cons_zero, List.set_cons_succ]
              refine wpAnyH_read (i := 53) (oi := { dst := some 120, op := Go.Op.move (Go.Operand.tmp 10), type := 3, pos := "law.go:124", after := #[{ on := 47, ground := Go.Ground.guard }], guard := some (47, true) }) ?_ rfl (by kernel_rfl) (by kernel_rfl) (by kernel_rfl) (fun _ _ _ h => h) (by rfl) (by assumption) ?_ ?_
              rotate_left
              · (intro w0 hS0; (try dsimp only at hS0); (try obtain ⟨s1, s2, s3⟩ := hS0); go_simp <;> (try with_reducible rfl))
              try simp only [Act.put, List.setIfInBounds_toArray, List.set_cons_zero, List.set_cons_succ]
              refine wpAnyH_read (i := 52) (oi := { dst := some 119, op := Go.Op.load 3 (Go.Operand.tmp 118), type := 3, pos := "law.go:124", after := #[{ on := 51, ground := Go.Ground.data }, { on := 47, ground := Go.Ground.guard }], guard := some (47, true) }) ?_ rfl (by kernel_rfl) (by kernel_rfl) (by kernel_rfl) (fun _ _ _ h => h) (by rfl) (by assumption) ?_ ?_
              rotate_left
              · (intro w0 hS0; (try dsimp only at hS0); (try obtain ⟨s1, s2, s3⟩ := hS0); go_simp <;> (try with_reducible rfl))
              try simp only [Act.put, List.setIfInBounds_toArray, List.set_cons_zero, List.set_cons_succ]
              refine wpAnyH_read (i := 54) (oi := { dst := some 121, op := Go.Op.binOp Go.BinOp.geq 3 (Go.Operand.tmp 119) (Go.Operand.tmp 120) 3, type := 4, pos := "law.go:124", after := #[{ on := 52, ground := Go.Ground.data }, { on := 53, ground := Go.Ground.data }, { on := 47, ground := Go.Ground.guard }], guard := some (47, true) }) ?_ rfl (by kernel_rfl) (by kernel_rfl) (by kernel_rfl) (fun _ _ _ h => h) (by rfl) (by assumption) ?_ ?_
              rotate_left
              · (intro w0 hS0; (try dsimp only at hS0); (try obtain ⟨s1, s2, s3⟩ := hS0); go_simp <;> (try with_reducible rfl))
              try simp only [Act.put, List.setIfInBounds_toArray, List.set_cons_zero, List.set_cons_succ]
              refine wpAnyH_read (i := 55) (oi := { dst := some 122, op := Go.Op.pick (Go.Operand.tmp 114) (Go.Operand.tmp 121) (Go.Operand.const (Go.Value.bool false)), type := 4, pos := "law.go:124", after := #[{ on := 47, ground := Go.Ground.data }, { on := 54, ground := Go.Ground.data }, { on := 33, ground := Go.Ground.guard }], guard := some (33, false) }) ?_ rfl (by kernel_rfl) (by kernel_rfl) (by kernel_rfl) (fun _ _ _ h => h) (by rfl) (by assumption) ?_ ?_
              rotate_left
              · (intro w0 hS0; (try dsimp only at hS0); (try obtain ⟨s1, s2, s3⟩ := hS0); go_simp <;> (try with_reducible rfl))
              try simp only [Act.put, List.setIfInBounds_toArray, List.set_cons_zero, List.set_cons_succ]
              refine wpAnyH_read (i := 56) (oi := { dst := some 123, op := Go.Op.pick (Go.Operand.tmp 100) (Go.Operand.const (Go.Value.bool true)) (Go.Operand.tmp 122), type := 4, pos := "law.go:124", after := #[{ on := 33, ground := Go.Ground.data }, { on := 55, ground := Go.Ground.data }, { on := 19, ground := Go.Ground.guard }], guard := some (19, true) }) ?_ rfl (by kernel_rfl) (by kernel_rfl) (by kernel_rfl) (fun _ _ _ h => h) (by rfl) (by assumption) ?_ ?_
              rotate_left
              · (intro w0 hS0; (try dsimp only at hS0); (try obtain ⟨s1, s2, s3⟩ := hS0); go_simp <;> (try with_reducible rfl))
              try simp only [Act.put, List.setIfInBounds_toArray, List.set_cons_zero, List.set_cons_succ]
              refine wpAnyH_read (i := 57) (oi := { dst := some 124, op := Go.Op.pick (Go.Operand.tmp 86) (Go.Operand.tmp 123) (Go.Operand.const (Go.Value.bool false)), type := 4, pos := "law.go:124", after := #[{ on := 19, ground := Go.Ground.data }, { on := 56, ground := Go.Ground.data }, { on := 16, ground := Go.Ground.guard }], guard := some (16, false) }) ?_ rfl (by kernel_rfl) (by kernel_rfl) (by kernel_rfl) (fun _ _ _ h => h) (by rfl) (by assumption) ?_ ?_
              rotate_left
              · (intro w0 hS0; (try dsimp only at hS0); (try obtain ⟨s1, s2, s3⟩ := hS0); go_simp <;> (try with_reducible rfl))
              try simp only [Act.put, List.setIfInBounds_toArray, List.set_cons_zero, List.set_cons_succ]
              refine wpAnyH_read (i := 58) (oi := { dst := some 125, op := Go.Op.pick (Go.Operand.tmp 83) (Go.Operand.const (Go.Value.bool true)) (Go.Operand.tmp 124), type := 4, pos := "law.go:124", after := #[{ on := 16, ground := Go.Ground.data }, { on := 57, ground := Go.Ground.data }], guard := none }) ?_ rfl (by kernel_rfl) (by kernel_rfl) (by kernel_rfl) (fun _ _ _ h => h) (by rfl) (by assumption) ?_ ?_
              rotate_left
              · (intro w0 hS0; (try dsimp only at hS0); (try obtain ⟨s1, s2, s3⟩ := hS0); go_simp <;> (try with_reducible rfl))
              try simp only [Act.put, List.setIfInBounds_toArray, List.set_cons_zero, List.set_cons_succ]
              refine wpAnyH_done (by kernel_rfl) ?_ _
              go_wp2_with fail
              go_roundw
              case rel => exact ⟨ip + 1 + 1, by go_num, by omega, HB.out.drew⟩
              case measure => simp [RowKit.intOf]; omega
        · obtain rfl : i = c := by omega
          have p1 : ¬ ((i : Int) < (i : Int)) := by omega
          have HNx := Lib.hid (HL.out.2.1 wr HB.out)
          go_wp2_with fail
          refine HNx.out.mono ?_
          rintro e w7 ⟨⟨ys, hys, rfl⟩, b7⟩
          have hb7 : RowKit.Below w.heap.size w w7 := (HL.out.2.2.1.trans (HB.out.mono HL.out.2.2.1.size)).trans (b7.mono (Nat.le_trans HL.out.2.2.1.size HB.out.size))
          have H7 := Lib.hid hb7
          have hT2 := HX.out.2.1
          cases hm : minTI ys with
          | none =>
            clear b7 hb7 hT2 hys hm
            unfold fstOI zeroKI kVI
            dsimp only [Option.getD, Option.isSome]
            go_wp2_with fail
            go_ret
            exact ⟨rfl, H7.out⟩
          | some p =>
            have hp := (minTI_some ys p hm).1
            have hp2 : now < p.2 := by
              have h1 := hys.mem_iff.1 hp
              rw [← hT2, List.mem_filter] at h1
              simpa using h1.2
            obtain ⟨p1, p2⟩ := p
            have q1 : decide (now < p2) = true := by simpa using hp2
            clear b7 hb7 hT2 hys hm hp
            unfold fstOI kVI
            dsimp only [Option.getD, Option.isSome] at *
            go_wp2_with fail
            go_ret
            exact ⟨rfl, H7.out⟩
theorem timerDue_walk (A : Option Addr) (l : List Int) (cc : Nat) (now : Int) (w : World) (hA : NumsQ w A l) :
    Calls Try.prog 4 #[.slice A l.length cc, .int .i64 now] w fun e w' => e = .returned (.bool true) ∧ RowKit.Below w.heap.size w w' := by
  by_cases hl : l.length ≤ 60
  · exact timerDue_main A l cc now w hl hA
  · clear hA
    have p1 : (60 : Int) < (l.length : Int) := by omega
    go_enter Try.func4, Try.ntmps4
    go_wp2_with fail
    refine (awake9 w).mono ?_
    rintro e w1 ⟨rfl, b1⟩
    have B1 := Lib.hid b1
    clear b1
    go_wp2_with fail
    go_ret
    exact ⟨rfl, B1.out⟩
end Go.Proofs.Ytbgmjieagnmpkaa
