/- Layer 18: the walk of ModesTexts. -/
import Derived.Test.YtbpnaclnninndaaModeN
import Derived.Deep.RegionHeld3
namespace Go.Proofs.Ytbpnaclnninndaa
set_option linter.unusedVariables false
set_option linter.unusedSimpArgs false
open Go.RowKit Go.Shelf

theorem lists_keep (B0 : Nat) (on : Bool) (ch : UInt8) (ag : ByteArray) (W : World) (hB : B0 ≤ W.heap.size) :
    Calls Try.prog 14 #[.agg #[.bool on, .int .u8 ch.toNat, .string ag]] W fun e w' => e = .returned (.bool (listsB (on, ch, ag))) ∧ Below B0 W w' ∧ B0 ≤ w'.heap.size ∧ ∀ b o, b < B0 → w'.cell? ⟨b, o, none⟩ = W.cell? ⟨b, o, none⟩ :=
  (lists_v (on, ch, ag) W).mono fun e w' ⟨he, h⟩ => ⟨he, h.mono hB, Nat.le_trans hB h.size, fun b o hb => (h.mono hB).cell (p := ⟨b, o, none⟩) hb⟩

set_option maxRecDepth 100000 in
set_option maxHeartbeats 4000000 in
theorem modesTexts_walk (A : Option Addr) (l : List Chg) (c : Nat) (w : World) (hl : l.length ≤ maxLen) (hs : ∀ x ∈ l, x.2.2.size ≤ maxLen) (hr : RowC w A l) :
    Calls Try.prog 4 #[.slice A l.length c] w fun e w' => e = .returned (.bool true) ∧ Below w.heap.size w w' := by
  unfold maxLen at hl hs
  have HR := Lib.hid hr
  have HSZ := Lib.hid hs
  clear hr hs
  by_cases h60 : 60 < l.length
  · have p1 : (l.length : Int) > 60 := by omega
    clear h60
    go_enter Try.func4, Try.ntmps4
    go_wp2_with fail
    go_at_call 7
    refine (awake18 _).mono ?_
    rintro e w1 ⟨rfl, q1⟩
    have Q1 := Lib.hid q1
    clear q1
    go_wp2_with fail
    go_ret
    exact ⟨rfl, Q1.out⟩
  · have p1 : ¬ ((l.length : Int) > 60) := by omega
    have hT : ∀ W, RowC W A l → Calls Try.prog 16 #[.slice A l.length c] W (GivesT W (textM l)) := fun W h => text_v A l c W (by omega) h
    have hTr : ∀ W, RowC W A l → Calls Try.prog 17 #[.slice A l.length c] W (GivesT W (textM l)) := fun W h => text_r A l c W (by omega) h
    have hlen := textM_len l
    obtain ⟨T, hT0⟩ : ∃ T, textM l = T := ⟨_, rfl⟩
    rw [hT0] at hT hTr hlen
    clear h60 hT0
    go_enter Try.func4, Try.ntmps4
    go_wp2_with fail
    go_at_call 7
    refine (awake18 _).mono ?_
    rintro e w1 ⟨rfl, q1⟩
    have Q1 := Lib.hid q1
    clear q1
    go_wp2_with fail
    go_loopw [3] (fun i wr => ∃ k : Nat, i = .int .i64 k ∧ k ≤ l.length ∧ Hid (Below w.heap.size w wr)) (fun i _ => l.length - (intOf i).toNat)
    case atStart => exact ⟨0, rfl, Nat.zero_le _, Q1⟩
    case round =>
      obtain ⟨k, rfl, hk, HQ⟩ := hrel
      by_cases hlt : k < l.length
      · obtain ⟨g, o, rfl, hcell⟩ := HR.out (by omega)
        have hsz := HSZ.out l[k] (List.getElem_mem hlt)
        have hg := lt_of_cell (hcell k hlt).1
        have hk3 := hcell k hlt
        rw [← HQ.out.cell (p := ⟨g, o + k * 3, none⟩) hg, ← HQ.out.cell (p := ⟨g, o + k * 3 + 1, none⟩) hg, ← HQ.out.cell (p := ⟨g, o + k * 3 + 2, none⟩) hg] at hk3
        obtain ⟨⟨on, ch, ag⟩, hx⟩ : ∃ x, l[k] = x := ⟨_, rfl⟩
        rw [hx] at hk3 hsz
        obtain ⟨c0, c1, c2⟩ := hk3
        simp only at c0 c1 c2 hsz
        have hwz := HQ.out.size
        have p2 : (k : Int) < (l.length : Int) := by omega
        clear hx hcell
        by_cases hbig : 60 < ag.size
        · have p3 : (ag.size : Int) > 60 := by omega
          go_wp2_with fail
          go_ret
          exact ⟨rfl, HQ.out⟩
        · have p3 : ¬ ((ag.size : Int) > 60) := by omega
          have ht : ∀ W, Calls Try.prog 10 #[.int .u8 ↑ch.toNat, .bool on] W fun e w' => e = .returned (.bool (takesB ch on)) ∧ W = w' := fun W => takes_b _ _ W
          have htr : ∀ W, Calls Try.prog 13 #[.int .u8 ↑ch.toNat, .bool on] W fun e w' => e = .returned (.bool (takesB ch on)) ∧ W = w' := fun W => takes_r _ _ W
          obtain ⟨tb, htb⟩ : ∃ tb, takesB ch on = tb := ⟨_, rfl⟩
          rw [htb] at ht htr
          clear htb hbig
          have hLk : ∀ W, w.heap.size ≤ W.heap.size → Calls Try.prog 14 #[.agg #[.bool on, .int .u8 ch.toNat, .string ag]] W fun e w' => e = .returned (.bool (listsB (on, ch, ag))) ∧ Below w.heap.size W w' ∧ w.heap.size ≤ w'.heap.size ∧ ∀ b o, b < w.heap.size → w'.cell? ⟨b, o, none⟩ = W.cell? ⟨b, o, none⟩ := fun W h => lists_keep _ _ _ _ W h
          by_cases h98 : ch = 98
          · have q98 : ((ch.toNat : Int) == 98) = true := by rw [h98]; rfl
            by_cases hae : ag.size = 0
            · have e1 : ag.toList = [] := by have := str_em hae; rwa [List.isEmpty_iff] at this
              have hli : listsB (on, ch, ag) = true := by unfold listsB; simp [h98, e1]
              rw [hli] at hLk
              clear hli h98 hae
              go_wp2_with fail
              go_region_held3 (fun w' => w'.cell? ⟨g, o + k * 3, none⟩ = some (.bool on) ∧ w'.cell? ⟨g, o + k * 3 + 1, none⟩ = some (.int .u8 ch.toNat) ∧ w'.cell? ⟨g, o + k * 3 + 2, none⟩ = some (.string ag) ∧ w.heap.size ≤ w'.heap.size) (go_keep)
                (first | (go_at_call 10; refine (ht _).mono ?_; rintro e w' ⟨rfl, rfl⟩) | (go_at_call 13; refine (htr _).mono ?_; rintro e w' ⟨rfl, rfl⟩) | (go_at_call 14; refine (hLk _ ?_).mono ?_; (first | assumption | simp [*]); rintro e w2 ⟨rfl, q2, q3, q4⟩))
              all_goals
                have Q2 := Lib.hid (HQ.out.drew.trans q2)
                clear q2 q4
                go_wp2_with fail
                go_roundw
                case rel => exact ⟨k + 1, by go_num, by omega, Q2⟩
                case measure => simp [intOf]; omega
            · have e1 : ag.toList.isEmpty = false := str_ne (by omega)
              have e2 : (ag.toList == []) = false := by
                rw [beq_eq_false_iff_ne]; intro e; rw [e] at e1; cases e1
              have hli : listsB (on, ch, ag) = false := by unfold listsB; rw [e1, Bool.and_false]
              rw [hli] at hLk
              clear hli h98 hae
              go_wp2_with fail
              go_region_held3 (fun w' => w'.cell? ⟨g, o + k * 3, none⟩ = some (.bool on) ∧ w'.cell? ⟨g, o + k * 3 + 1, none⟩ = some (.int .u8 ch.toNat) ∧ w'.cell? ⟨g, o + k * 3 + 2, none⟩ = some (.string ag) ∧ w.heap.size ≤ w'.heap.size) (go_keep)
                (first | (go_at_call 10; refine (ht _).mono ?_; rintro e w' ⟨rfl, rfl⟩) | (go_at_call 13; refine (htr _).mono ?_; rintro e w' ⟨rfl, rfl⟩) | (go_at_call 14; refine (hLk _ ?_).mono ?_; (first | assumption | simp [*]); rintro e w2 ⟨rfl, q2, q3, q4⟩))
              all_goals
                have Q2 := Lib.hid (HQ.out.drew.trans q2)
                clear q2 q4
                go_wp2_with fail
                go_roundw
                case rel => exact ⟨k + 1, by go_num, by omega, Q2⟩
                case measure => simp [intOf]; omega
          · have q98 : ((ch.toNat : Int) == 98) = false := by
              rw [beq_eq_false_iff_ne]; intro e; exact h98 (UInt8.toNat_inj.mp (by have : (98 : UInt8).toNat = 98 := rfl; omega))
            have hli : listsB (on, ch, ag) = false := by unfold listsB; rw [beq_eq_false_iff_ne.mpr h98, Bool.false_and]
            rw [hli] at hLk
            clear hli h98
            go_wp2_with fail
            refine wp_region_held_drew (S := (fun w' => w'.cell? ⟨g, o + k * 3, none⟩ = some (.bool on) ∧ w'.cell? ⟨g, o + k * 3 + 1, none⟩ = some (.int .u8 ch.toNat) ∧ w'.cell? ⟨g, o + k * 3 + 2, none⟩ = some (.string ag) ∧ w.heap.size ≤ w'.heap.size)) (by kernel_rfl) ?_ (fun hHeld => ?_)
            · exact ⟨c0, c1, c2, hwz⟩
            all_goals refine wpAnyH_take (i := 0) (oi := ({ dst := some 22, op := Op.move (Operand.tmp 0), type := 25, pos := "law.go:62", after := #[], guard := none } : Oper)) (v := _) rfl (by kernel_rfl) (by kernel_rfl) (by kernel_rfl) (fun _ _ _ h => h) (Or.inl ⟨by rfl, fun w hSw => by (try dsimp only at hSw); go_simp; try with_reducible rfl⟩) (by assumption) ?_
            all_goals try simp only [Act.put, List.setIfInBounds_toArray, List.set_cons_zero, List.set_cons_succ]
            all_goals refine wpAnyH_take (i := 1) (oi := ({ dst := some 23, op := Op.move (Operand.tmp 3), type := 3, pos := "law.go:62", after := #[], guard := none } : Oper)) (v := _) rfl (by kernel_rfl) (by kernel_rfl) (by kernel_rfl) (fun _ _ _ h => h) (Or.inl ⟨by rfl, fun w hSw => by (try dsimp only at hSw); go_simp; try with_reducible rfl⟩) (by assumption) ?_
            all_goals try simp only [Act.put, List.setIfInBounds_toArray, List.set_cons_zero, List.set_cons_succ]
            all_goals refine wpAnyH_take (i := 2) (oi := ({ dst := some 24, op := Op.indexAddr 25 (Operand.tmp 22) (Operand.tmp 23), type := 0, pos := "law.go:62", after := #[{ on := 0, ground := Ground.data }, { on := 1, ground := Ground.data }], guard := none } : Oper)) (v := _) rfl (by kernel_rfl) (by kernel_rfl) (by kernel_rfl) (fun _ _ _ h => h) (Or.inl ⟨by rfl, fun w hSw => by (try dsimp only at hSw); go_simp; try with_reducible rfl⟩) (by assumption) ?_
            all_goals try simp only [Act.put, List.setIfInBounds_toArray, List.set_cons_zero, List.set_cons_succ]
            all_goals refine wpAnyH_take (i := 3) (oi := ({ dst := some 25, op := Op.fieldAddr 29 (Operand.tmp 24) 1, type := 0, pos := "law.go:62", after := #[{ on := 2, ground := Ground.data }], guard := none } : Oper)) (v := _) rfl (by kernel_rfl) (by kernel_rfl) (by kernel_rfl) (fun _ _ _ h => h) (Or.inl ⟨by rfl, fun w hSw => by (try dsimp only at hSw); go_simp; try with_reducible rfl⟩) (by assumption) ?_
            all_goals try simp only [Act.put, List.setIfInBounds_toArray, List.set_cons_zero, List.set_cons_succ]
            all_goals refine wpAnyH_take (i := 4) (oi := ({ dst := some 26, op := Op.load 5 (Operand.tmp 25), type := 5, pos := "law.go:62", after := #[{ on := 3, ground := Ground.data }], guard := none } : Oper)) (v := _) rfl (by kernel_rfl) (by kernel_rfl) (by kernel_rfl) (fun _ _ _ h => h) (Or.inl ⟨by rfl, fun w hSw => by (try dsimp only at hSw); go_simp; try with_reducible rfl⟩) (by assumption) ?_
            all_goals try simp only [Act.put, List.setIfInBounds_toArray, List.set_cons_zero, List.set_cons_succ]
            all_goals refine wpAnyH_take (i := 5) (oi := ({ dst := some 27, op := Op.move (Operand.tmp 0), type := 25, pos := "law.go:62", after := #[], guard := none } : Oper)) (v := _) rfl (by kernel_rfl) (by kernel_rfl) (by kernel_rfl) (fun _ _ _ h => h) (Or.inl ⟨by rfl, fun w hSw => by (try dsimp only at hSw); go_simp; try with_reducible rfl⟩) (by assumption) ?_
            all_goals try simp only [Act.put, List.setIfInBounds_toArray, List.set_cons_zero, List.set_cons_succ]
            all_goals refine wpAnyH_take (i := 6) (oi := ({ dst := some 28, op := Op.move (Operand.tmp 3), type := 3, pos := "law.go:62", after := #[], guard := none } : Oper)) (v := _) rfl (by kernel_rfl) (by kernel_rfl) (by kernel_rfl) (fun _ _ _ h => h) (Or.inl ⟨by rfl, fun w hSw => by (try dsimp only at hSw); go_simp; try with_reducible rfl⟩) (by assumption) ?_
            all_goals try simp only [Act.put, List.setIfInBounds_toArray, List.set_cons_zero, List.set_cons_succ]
            all_goals refine wpAnyH_take (i := 7) (oi := ({ dst := some 29, op := Op.indexAddr 25 (Operand.tmp 27) (Operand.tmp 28), type := 0, pos := "law.go:62", after := #[{ on := 5, ground := Ground.data }, { on := 6, ground := Ground.data }], guard := none } : Oper)) (v := _) rfl (by kernel_rfl) (by kernel_rfl) (by kernel_rfl) (fun _ _ _ h => h) (Or.inl ⟨by rfl, fun w hSw => by (try dsimp only at hSw); go_simp; try with_reducible rfl⟩) (by assumption) ?_
            all_goals try simp only [Act.put, List.setIfInBounds_toArray, List.set_cons_zero, List.set_cons_succ]
            all_goals refine wpAnyH_take (i := 8) (oi := ({ dst := some 30, op := Op.fieldAddr 29 (Operand.tmp 29) 0, type := 0, pos := "law.go:62", after := #[{ on := 7, ground := Ground.data }], guard := none } : Oper)) (v := _) rfl (by kernel_rfl) (by kernel_rfl) (by kernel_rfl) (fun _ _ _ h => h) (Or.inl ⟨by rfl, fun w hSw => by (try dsimp only at hSw); go_simp; try with_reducible rfl⟩) (by assumption) ?_
            all_goals try simp only [Act.put, List.setIfInBounds_toArray, List.set_cons_zero, List.set_cons_succ]
            all_goals refine wpAnyH_take (i := 9) (oi := ({ dst := some 31, op := Op.load 4 (Operand.tmp 30), type := 4, pos := "law.go:62", after := #[{ on := 8, ground := Ground.data }], guard := none } : Oper)) (v := _) rfl (by kernel_rfl) (by kernel_rfl) (by kernel_rfl) (fun _ _ _ h => h) (Or.inl ⟨by rfl, fun w hSw => by (try dsimp only at hSw); go_simp; try with_reducible rfl⟩) (by assumption) ?_
            all_goals try simp only [Act.put, List.setIfInBounds_toArray, List.set_cons_zero, List.set_cons_succ]
            all_goals refine wpAnyH_take (i := 11) (oi := ({ dst := some 33, op := Op.move (Operand.tmp 0), type := 25, pos := "law.go:62", after := #[], guard := none } : Oper)) (v := _) rfl (by kernel_rfl) (by kernel_rfl) (by kernel_rfl) (fun _ _ _ h => h) (Or.inl ⟨by rfl, fun w hSw => by (try dsimp only at hSw); go_simp; try with_reducible rfl⟩) (by assumption) ?_
            all_goals try simp only [Act.put, List.setIfInBounds_toArray, List.set_cons_zero, List.set_cons_succ]
            all_goals refine wpAnyH_take (i := 12) (oi := ({ dst := some 34, op := Op.move (Operand.tmp 3), type := 3, pos := "law.go:62", after := #[], guard := none } : Oper)) (v := _) rfl (by kernel_rfl) (by kernel_rfl) (by kernel_rfl) (fun _ _ _ h => h) (Or.inl ⟨by rfl, fun w hSw => by (try dsimp only at hSw); go_simp; try with_reducible rfl⟩) (by assumption) ?_
            all_goals try simp only [Act.put, List.setIfInBounds_toArray, List.set_cons_zero, List.set_cons_succ]
            all_goals refine wpAnyH_take (i := 13) (oi := ({ dst := some 35, op := Op.indexAddr 25 (Operand.tmp 33) (Operand.tmp 34), type := 0, pos := "law.go:62", after := #[{ on := 11, ground := Ground.data }, { on := 12, ground := Ground.data }], guard := none } : Oper)) (v := _) rfl (by kernel_rfl) (by kernel_rfl) (by kernel_rfl) (fun _ _ _ h => h) (Or.inl ⟨by rfl, fun w hSw => by (try dsimp only at hSw); go_simp; try with_reducible rfl⟩) (by assumption) ?_
            all_goals try simp only [Act.put, List.setIfInBounds_toArray, List.set_cons_zero, List.set_cons_succ]
            all_goals refine wpAnyH_take (i := 14) (oi := ({ dst := some 36, op := Op.fieldAddr 29 (Operand.tmp 35) 1, type := 0, pos := "law.go:62", after := #[{ on := 13, ground := Ground.data }], guard := none } : Oper)) (v := _) rfl (by kernel_rfl) (by kernel_rfl) (by kernel_rfl) (fun _ _ _ h => h) (Or.inl ⟨by rfl, fun w hSw => by (try dsimp only at hSw); go_simp; try with_reducible rfl⟩) (by assumption) ?_
            all_goals try simp only [Act.put, List.setIfInBounds_toArray, List.set_cons_zero, List.set_cons_succ]
            all_goals refine wpAnyH_take (i := 15) (oi := ({ dst := some 37, op := Op.load 5 (Operand.tmp 36), type := 5, pos := "law.go:62", after := #[{ on := 14, ground := Ground.data }], guard := none } : Oper)) (v := _) rfl (by kernel_rfl) (by kernel_rfl) (by kernel_rfl) (fun _ _ _ h => h) (Or.inl ⟨by rfl, fun w hSw => by (try dsimp only at hSw); go_simp; try with_reducible rfl⟩) (by assumption) ?_
            all_goals try simp only [Act.put, List.setIfInBounds_toArray, List.set_cons_zero, List.set_cons_succ]
            all_goals refine wpAnyH_take (i := 16) (oi := ({ dst := some 38, op := Op.move (Operand.tmp 0), type := 25, pos := "law.go:62", after := #[], guard := none } : Oper)) (v := _) rfl (by kernel_rfl) (by kernel_rfl) (by kernel_rfl) (fun _ _ _ h => h) (Or.inl ⟨by rfl, fun w hSw => by (try dsimp only at hSw); go_simp; try with_reducible rfl⟩) (by assumption) ?_
            all_goals try simp only [Act.put, List.setIfInBounds_toArray, List.set_cons_zero, List.set_cons_succ]
            all_goals refine wpAnyH_take (i := 17) (oi := ({ dst := some 39, op := Op.move (Operand.tmp 3), type := 3, pos := "law.go:62", after := #[], guard := none } : Oper)) (v := _) rfl (by kernel_rfl) (by kernel_rfl) (by kernel_rfl) (fun _ _ _ h => h) (Or.inl ⟨by rfl, fun w hSw => by (try dsimp only at hSw); go_simp; try with_reducible rfl⟩) (by assumption) ?_
            all_goals try simp only [Act.put, List.setIfInBounds_toArray, List.set_cons_zero, List.set_cons_succ]
            all_goals refine wpAnyH_take (i := 18) (oi := ({ dst := some 40, op := Op.indexAddr 25 (Operand.tmp 38) (Operand.tmp 39), type := 0, pos := "law.go:62", after := #[{ on := 16, ground := Ground.data }, { on := 17, ground := Ground.data }], guard := none } : Oper)) (v := _) rfl (by kernel_rfl) (by kernel_rfl) (by kernel_rfl) (fun _ _ _ h => h) (Or.inl ⟨by rfl, fun w hSw => by (try dsimp only at hSw); go_simp; try with_reducible rfl⟩) (by assumption) ?_
            all_goals try simp only [Act.put, List.setIfInBounds_toArray, List.set_cons_zero, List.set_cons_succ]
            all_goals refine wpAnyH_take (i := 19) (oi := ({ dst := some 41, op := Op.fieldAddr 29 (Operand.tmp 40) 0, type := 0, pos := "law.go:62", after := #[{ on := 18, ground := Ground.data }], guard := none } : Oper)) (v := _) rfl (by kernel_rfl) (by kernel_rfl) (by kernel_rfl) (fun _ _ _ h => h) (Or.inl ⟨by rfl, fun w hSw => by (try dsimp only at hSw); go_simp; try with_reducible rfl⟩) (by assumption) ?_
            all_goals try simp only [Act.put, List.setIfInBounds_toArray, List.set_cons_zero, List.set_cons_succ]
            all_goals refine wpAnyH_take (i := 20) (oi := ({ dst := some 42, op := Op.load 4 (Operand.tmp 41), type := 4, pos := "law.go:62", after := #[{ on := 19, ground := Ground.data }], guard := none } : Oper)) (v := _) rfl (by kernel_rfl) (by kernel_rfl) (by kernel_rfl) (fun _ _ _ h => h) (Or.inl ⟨by rfl, fun w hSw => by (try dsimp only at hSw); go_simp; try with_reducible rfl⟩) (by assumption) ?_
            all_goals try simp only [Act.put, List.setIfInBounds_toArray, List.set_cons_zero, List.set_cons_succ]
            refine wpAnyH_ready (rs := [10]) (by kernel_rfl) (by simp) (AllReadyH.cons (o := ({ dst := some 32, op := Op.call { callee := Callee.value (Operand.func 10), args := #[Operand.tmp 26, Operand.tmp 31], argTypes := #[5, 4] }, type := 4, pos := "law.go:62", after := #[{ on := 4, ground := Ground.data }, { on := 9, ground := Ground.data }], guard := none } : Oper)) rfl (fun K hK => ?_) AllReadyH.nil)
            all_goals go_simp
            all_goals (first | (go_at_call 10; refine (ht _).mono ?_; rintro e w' ⟨rfl, rfl⟩) | (go_at_call 13; refine (htr _).mono ?_; rintro e w' ⟨rfl, rfl⟩))
            all_goals go_simp
            all_goals refine hK.out _ _ hHeld (fun _ => ?_)
            all_goals clear hK K
            all_goals try simp only [Act.put, List.setIfInBounds_toArray, List.set_cons_zero, List.set_cons_succ]
            refine wpAnyH_ready (rs := [21]) (by kernel_rfl) (by simp) (AllReadyH.cons (o := ({ dst := some 43, op := Op.call { callee := Callee.value (Operand.func 13), args := #[Operand.tmp 37, Operand.tmp 42], argTypes := #[5, 4] }, type := 4, pos := "law.go:62", after := #[{ on := 15, ground := Ground.data }, { on := 20, ground := Ground.data }, { on := 10, ground := Ground.chain }], guard := none } : Oper)) rfl (fun K hK => ?_) AllReadyH.nil)
            all_goals go_simp
            all_goals (first | (go_at_call 10; refine (ht _).mono ?_; rintro e w' ⟨rfl, rfl⟩) | (go_at_call 13; refine (htr _).mono ?_; rintro e w' ⟨rfl, rfl⟩))
            all_goals go_simp
            all_goals refine hK.out _ _ hHeld (fun _ => ?_)
            all_goals clear hK K
            all_goals try simp only [Act.put, List.setIfInBounds_toArray, List.set_cons_zero, List.set_cons_succ]
            all_goals refine wpAnyH_take (i := 22) (oi := ({ dst := some 44, op := Op.binOp BinOp.neq 4 (Operand.tmp 32) (Operand.tmp 43) 4, type := 4, pos := "law.go:62", after := #[{ on := 10, ground := Ground.data }, { on := 21, ground := Ground.data }], guard := none } : Oper)) (v := _) rfl (by kernel_rfl) (by kernel_rfl) (by kernel_rfl) (fun _ _ _ h => h) (Or.inl ⟨by rfl, fun w hSw => by (try dsimp only at hSw); go_simp; try with_reducible rfl⟩) (by assumption) ?_
            all_goals try simp only [Act.put, List.setIfInBounds_toArray, List.set_cons_zero, List.set_cons_succ]
            all_goals refine wpAnyH_take (i := 23) (oi := ({ dst := some 45, op := Op.move (Operand.tmp 44), type := 4, pos := "law.go:62", after := #[{ on := 22, ground := Ground.data }, { on := 21, ground := Ground.chain }], guard := none } : Oper)) (v := _) rfl (by kernel_rfl) (by kernel_rfl) (by kernel_rfl) (fun _ _ _ h => h) (Or.inl ⟨by rfl, fun w hSw => by (try dsimp only at hSw); go_simp; try with_reducible rfl⟩) (by assumption) ?_
            all_goals try simp only [Act.put, List.setIfInBounds_toArray, List.set_cons_zero, List.set_cons_succ]
            all_goals refine wpAnyH_take (i := 24) (oi := ({ dst := some 46, op := Op.move (Operand.tmp 0), type := 25, pos := "law.go:62", after := #[{ on := 23, ground := Ground.guard }], guard := some (23, false) } : Oper)) (v := _) rfl (by kernel_rfl) (by kernel_rfl) (by kernel_rfl) (fun _ _ _ h => h) (Or.inl ⟨by rfl, fun w hSw => by (try dsimp only at hSw); go_simp; try with_reducible rfl⟩) (by assumption) ?_
            all_goals try simp only [Act.put, List.setIfInBounds_toArray, List.set_cons_zero, List.set_cons_succ]
            all_goals refine wpAnyH_take (i := 25) (oi := ({ dst := some 47, op := Op.move (Operand.tmp 3), type := 3, pos := "law.go:62", after := #[{ on := 23, ground := Ground.guard }], guard := some (23, false) } : Oper)) (v := _) rfl (by kernel_rfl) (by kernel_rfl) (by kernel_rfl) (fun _ _ _ h => h) (Or.inl ⟨by rfl, fun w hSw => by (try dsimp only at hSw); go_simp; try with_reducible rfl⟩) (by assumption) ?_
            all_goals try simp only [Act.put, List.setIfInBounds_toArray, List.set_cons_zero, List.set_cons_succ]
            all_goals refine wpAnyH_take (i := 26) (oi := ({ dst := some 48, op := Op.indexAddr 25 (Operand.tmp 46) (Operand.tmp 47), type := 0, pos := "law.go:62", after := #[{ on := 24, ground := Ground.data }, { on := 25, ground := Ground.data }, { on := 23, ground := Ground.guard }], guard := some (23, false) } : Oper)) (v := _) rfl (by kernel_rfl) (by kernel_rfl) (by kernel_rfl) (fun _ _ _ h => h) (Or.inl ⟨by rfl, fun w hSw => by (try dsimp only at hSw); go_simp; try with_reducible rfl⟩) (by assumption) ?_
            all_goals try simp only [Act.put, List.setIfInBounds_toArray, List.set_cons_zero, List.set_cons_succ]
            all_goals refine wpAnyH_take (i := 27) (oi := ({ dst := some 49, op := Op.load 29 (Operand.tmp 48), type := 29, pos := "law.go:62", after := #[{ on := 26, ground := Ground.data }, { on := 23, ground := Ground.guard }], guard := some (23, false) } : Oper)) (v := _) rfl (by kernel_rfl) (by kernel_rfl) (by kernel_rfl) (fun _ _ _ h => h) (Or.inl ⟨by rfl, fun w hSw => by (try dsimp only at hSw); go_simp; try with_reducible rfl⟩) (by assumption) ?_
            all_goals try simp only [Act.put, List.setIfInBounds_toArray, List.set_cons_zero, List.set_cons_succ]
            all_goals refine wpAnyH_take (i := 29) (oi := ({ dst := some 51, op := Op.move (Operand.tmp 0), type := 25, pos := "law.go:62", after := #[{ on := 23, ground := Ground.guard }], guard := some (23, false) } : Oper)) (v := _) rfl (by kernel_rfl) (by kernel_rfl) (by kernel_rfl) (fun _ _ _ h => h) (Or.inl ⟨by rfl, fun w hSw => by (try dsimp only at hSw); go_simp; try with_reducible rfl⟩) (by assumption) ?_
            all_goals try simp only [Act.put, List.setIfInBounds_toArray, List.set_cons_zero, List.set_cons_succ]
            all_goals refine wpAnyH_take (i := 30) (oi := ({ dst := some 52, op := Op.move (Operand.tmp 3), type := 3, pos := "law.go:62", after := #[{ on := 23, ground := Ground.guard }], guard := some (23, false) } : Oper)) (v := _) rfl (by kernel_rfl) (by kernel_rfl) (by kernel_rfl) (fun _ _ _ h => h) (Or.inl ⟨by rfl, fun w hSw => by (try dsimp only at hSw); go_simp; try with_reducible rfl⟩) (by assumption) ?_
            all_goals try simp only [Act.put, List.setIfInBounds_toArray, List.set_cons_zero, List.set_cons_succ]
            all_goals refine wpAnyH_take (i := 31) (oi := ({ dst := some 53, op := Op.indexAddr 25 (Operand.tmp 51) (Operand.tmp 52), type := 0, pos := "law.go:62", after := #[{ on := 29, ground := Ground.data }, { on := 30, ground := Ground.data }, { on := 23, ground := Ground.guard }], guard := some (23, false) } : Oper)) (v := _) rfl (by kernel_rfl) (by kernel_rfl) (by kernel_rfl) (fun _ _ _ h => h) (Or.inl ⟨by rfl, fun w hSw => by (try dsimp only at hSw); go_simp; try with_reducible rfl⟩) (by assumption) ?_
            all_goals try simp only [Act.put, List.setIfInBounds_toArray, List.set_cons_zero, List.set_cons_succ]
            all_goals refine wpAnyH_take (i := 32) (oi := ({ dst := some 54, op := Op.fieldAddr 29 (Operand.tmp 53) 1, type := 0, pos := "law.go:62", after := #[{ on := 31, ground := Ground.data }, { on := 23, ground := Ground.guard }], guard := some (23, false) } : Oper)) (v := _) rfl (by kernel_rfl) (by kernel_rfl) (by kernel_rfl) (fun _ _ _ h => h) (Or.inl ⟨by rfl, fun w hSw => by (try dsimp only at hSw); go_simp; try with_reducible rfl⟩) (by assumption) ?_
            all_goals try simp only [Act.put, List.setIfInBounds_toArray, List.set_cons_zero, List.set_cons_succ]
            all_goals refine wpAnyH_take (i := 33) (oi := ({ dst := some 55, op := Op.load 5 (Operand.tmp 54), type := 5, pos := "law.go:62", after := #[{ on := 32, ground := Ground.data }, { on := 23, ground := Ground.guard }], guard := some (23, false) } : Oper)) (v := _) rfl (by kernel_rfl) (by kernel_rfl) (by kernel_rfl) (fun _ _ _ h => h) (Or.inl ⟨by rfl, fun w hSw => by (try dsimp only at hSw); go_simp; try with_reducible rfl⟩) (by assumption) ?_
            all_goals try simp only [Act.put, List.setIfInBounds_toArray, List.set_cons_zero, List.set_cons_succ]
            all_goals refine wpAnyH_take (i := 34) (oi := ({ dst := some 56, op := Op.binOp BinOp.eql 5 (Operand.tmp 55) (Operand.const (Value.int IntKind.u8 98)) 5, type := 4, pos := "law.go:62", after := #[{ on := 33, ground := Ground.data }, { on := 23, ground := Ground.guard }], guard := some (23, false) } : Oper)) (v := _) rfl (by kernel_rfl) (by kernel_rfl) (by kernel_rfl) (fun _ _ _ h => h) (Or.inl ⟨by rfl, fun w hSw => by (try dsimp only at hSw); go_simp; try with_reducible rfl⟩) (by assumption) ?_
            all_goals try simp only [Act.put, List.setIfInBounds_toArray, List.set_cons_zero, List.set_cons_succ]
            all_goals refine wpAnyH_ready (rs := [28]) (by kernel_rfl) (by simp) (AllReadyH.cons (o := ({ dst := some 50, op := Op.call { callee := Callee.value (Operand.func 14), args := #[Operand.tmp 49], argTypes := #[29] }, type := 4, pos := "law.go:62", after := #[{ on := 27, ground := Ground.data }, { on := 23, ground := Ground.chain }, { on := 23, ground := Ground.guard }], guard := some (23, false) } : Oper)) rfl (fun K hK => ?_) AllReadyH.nil)
            all_goals go_simp
            all_goals (go_at_call 14; refine (hLk _ hHeld.2.2.2).mono ?_; rintro e w2 ⟨rfl, q2, q3, q4⟩)
            all_goals go_simp
            all_goals refine hK.out _ _ (by obtain ⟨h0, h1, h2, h3⟩ := hHeld; exact ⟨(q4 _ _ hg).trans h0, (q4 _ _ hg).trans h1, (q4 _ _ hg).trans h2, q3⟩) (fun hHeld2 => ?_)
            all_goals clear hK K hHeld
            all_goals try simp only [Act.put, List.setIfInBounds_toArray, List.set_cons_zero, List.set_cons_succ]
            all_goals refine wpAnyH_take (i := 35) (oi := ({ dst := some 57, op := Op.move (Operand.tmp 56), type := 4, pos := "law.go:62", after := #[{ on := 34, ground := Ground.data }, { on := 28, ground := Ground.chain }, { on := 23, ground := Ground.guard }], guard := some (23, false) } : Oper)) (v := _) rfl (by kernel_rfl) (by kernel_rfl) (by kernel_rfl) (fun _ _ _ h => h) (Or.inl ⟨by rfl, fun w hSw => by (try dsimp only at hSw); go_simp; try with_reducible rfl⟩) (by assumption) ?_
            all_goals try simp only [Act.put, List.setIfInBounds_toArray, List.set_cons_zero, List.set_cons_succ]
            all_goals refine wpAnyH_take (i := 36) (oi := ({ dst := some 58, op := Op.move (Operand.tmp 0), type := 25, pos := "law.go:62", after := #[{ on := 35, ground := Ground.guard }], guard := some (35, true) } : Oper)) (v := undef) rfl (by kernel_rfl) (by kernel_rfl) (by kernel_rfl) (fun _ _ _ h => h) (Or.inr ⟨by rfl, rfl⟩) (by assumption) ?_
            all_goals try simp only [Act.put, List.setIfInBounds_toArray, List.set_cons_zero, List.set_cons_succ]
            all_goals refine wpAnyH_take (i := 37) (oi := ({ dst := some 59, op := Op.move (Operand.tmp 3), type := 3, pos := "law.go:62", after := #[{ on := 35, ground := Ground.guard }], guard := some (35, true) } : Oper)) (v := undef) rfl (by kernel_rfl) (by kernel_rfl) (by kernel_rfl) (fun _ _ _ h => h) (Or.inr ⟨by rfl, rfl⟩) (by assumption) ?_
            all_goals try simp only [Act.put, List.setIfInBounds_toArray, List.set_cons_zero, List.set_cons_succ]
            all_goals refine wpAnyH_take (i := 38) (oi := ({ dst := some 60, op := Op.indexAddr 25 (Operand.tmp 58) (Operand.tmp 59), type := 0, pos := "law.go:62", after := #[{ on := 36, ground := Ground.data }, { on := 37, ground := Ground.data }, { on := 35, ground := Ground.guard }], guard := some (35, true) } : Oper)) (v := undef) rfl (by kernel_rfl) (by kernel_rfl) (by kernel_rfl) (fun _ _ _ h => h) (Or.inr ⟨by rfl, rfl⟩) (by assumption) ?_
            all_goals try simp only [Act.put, List.setIfInBounds_toArray, List.set_cons_zero, List.set_cons_succ]
            all_goals refine wpAnyH_take (i := 39) (oi := ({ dst := some 61, op := Op.fieldAddr 29 (Operand.tmp 60) 2, type := 0, pos := "law.go:62", after := #[{ on := 38, ground := Ground.data }, { on := 35, ground := Ground.guard }], guard := some (35, true) } : Oper)) (v := undef) rfl (by kernel_rfl) (by kernel_rfl) (by kernel_rfl) (fun _ _ _ h => h) (Or.inr ⟨by rfl, rfl⟩) (by assumption) ?_
            all_goals try simp only [Act.put, List.setIfInBounds_toArray, List.set_cons_zero, List.set_cons_succ]
            all_goals refine wpAnyH_take (i := 40) (oi := ({ dst := some 62, op := Op.load 9 (Operand.tmp 61), type := 9, pos := "law.go:62", after := #[{ on := 39, ground := Ground.data }, { on := 35, ground := Ground.guard }], guard := some (35, true) } : Oper)) (v := undef) rfl (by kernel_rfl) (by kernel_rfl) (by kernel_rfl) (fun _ _ _ h => h) (Or.inr ⟨by rfl, rfl⟩) (by assumption) ?_
            all_goals try simp only [Act.put, List.setIfInBounds_toArray, List.set_cons_zero, List.set_cons_succ]
            all_goals refine wpAnyH_take (i := 41) (oi := ({ dst := some 63, op := Op.binOp BinOp.eql 9 (Operand.tmp 62) (Operand.const (Value.string { data := #[] })) 9, type := 4, pos := "law.go:62", after := #[{ on := 40, ground := Ground.data }, { on := 35, ground := Ground.guard }], guard := some (35, true) } : Oper)) (v := undef) rfl (by kernel_rfl) (by kernel_rfl) (by kernel_rfl) (fun _ _ _ h => h) (Or.inr ⟨by rfl, rfl⟩) (by assumption) ?_
            all_goals try simp only [Act.put, List.setIfInBounds_toArray, List.set_cons_zero, List.set_cons_succ]
            all_goals refine wpAnyH_take (i := 42) (oi := ({ dst := some 64, op := Op.pick (Operand.tmp 57) (Operand.tmp 63) (Operand.const (Value.bool false)), type := 4, pos := "law.go:62", after := #[{ on := 35, ground := Ground.data }, { on := 41, ground := Ground.data }, { on := 23, ground := Ground.guard }], guard := some (23, false) } : Oper)) (v := _) rfl (by kernel_rfl) (by kernel_rfl) (by kernel_rfl) (fun _ _ _ h => h) (Or.inl ⟨by rfl, fun w hSw => by (try dsimp only at hSw); go_simp; try with_reducible rfl⟩) (by assumption) ?_
            all_goals try simp only [Act.put, List.setIfInBounds_toArray, List.set_cons_zero, List.set_cons_succ]
            all_goals refine wpAnyH_take (i := 43) (oi := ({ dst := some 65, op := Op.binOp BinOp.neq 4 (Operand.tmp 50) (Operand.tmp 64) 4, type := 4, pos := "law.go:62", after := #[{ on := 28, ground := Ground.data }, { on := 42, ground := Ground.data }, { on := 23, ground := Ground.guard }], guard := some (23, false) } : Oper)) (v := _) rfl (by kernel_rfl) (by kernel_rfl) (by kernel_rfl) (fun _ _ _ h => h) (Or.inl ⟨by rfl, fun w hSw => by (try dsimp only at hSw); go_simp; try with_reducible rfl⟩) (by assumption) ?_
            all_goals try simp only [Act.put, List.setIfInBounds_toArray, List.set_cons_zero, List.set_cons_succ]
            all_goals refine wpAnyH_take (i := 44) (oi := ({ dst := some 66, op := Op.pick (Operand.tmp 45) (Operand.const (Value.bool true)) (Operand.tmp 65), type := 4, pos := "law.go:62", after := #[{ on := 23, ground := Ground.data }, { on := 43, ground := Ground.data }], guard := none } : Oper)) (v := _) rfl (by kernel_rfl) (by kernel_rfl) (by kernel_rfl) (fun _ _ _ h => h) (Or.inl ⟨by rfl, fun w hSw => by (try dsimp only at hSw); go_simp; try with_reducible rfl⟩) (by assumption) ?_
            all_goals try simp only [Act.put, List.setIfInBounds_toArray, List.set_cons_zero, List.set_cons_succ]
            all_goals refine wpAnyH_done (by kernel_rfl) ?_ _
            all_goals
              have Q2 := Lib.hid (HQ.out.drew.trans q2)
              clear q2 q4
              go_wp2_with fail
              go_roundw
              case rel => exact ⟨k + 1, by go_num, by omega, Q2⟩
              case measure => simp [intOf]; omega
      · obtain rfl : k = l.length := by omega
        have p2 : ¬ ((l.length : Int) < (l.length : Int)) := by omega
        go_wp2_with fail
        go_at_call 16
        refine (hT _ (HR.out.kept HQ.out)).mono ?_
        rintro e w3 ⟨A3, c3, rfl, hc3, hr3, q3⟩
        have Q3 : Hid (Below w.heap.size w w3 ∧ RowT w3 A3 T) := ⟨bjn HQ.out HQ.out.size q3, hr3⟩
        clear hT q3 hr3
        go_wp2_with fail
        go_at_call 17
        refine (hTr _ (HR.out.kept Q3.out.1)).mono ?_
        rintro e w4 ⟨A4, c4, rfl, hc4, hr4, q4⟩
        have hs := texts_any A3 A4 T T c3 c4 w4 (by omega) (Q3.out.2.kept q4) hr4
        rw [decide_eq_true rfl] at hs
        have Q4 := Lib.hid (bjn Q3.out.1 Q3.out.1.size q4)
        clear hTr hr4 q4
        go_wp2_with fail
        go_at_call 15
        refine hs.mono ?_
        rintro e w5 ⟨rfl, h5⟩
        have Q5 := Lib.hid (bjn Q4.out Q4.out.size (below_of_drew h5))
        clear hs h5
        go_wp2_with fail
        go_ret
        exact ⟨rfl, Q5.out⟩
end Go.Proofs.Ytbpnaclnninndaa
