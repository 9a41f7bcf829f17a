/- Texts of this proof, one behind the other. -/
import Derived.Test.YtadbpgkhenbpfaaSendqPlaysG6
import Derived.Test.YtadbpgkhenbpfaaSendqPlaysG7
section
/- Layer 8: SendqPlays. -/
namespace Go.Proofs.Ytadbpgkhenbpfaa
set_option linter.unusedVariables false
set_option linter.unusedSimpArgs false
open Go Go.RowKit Go.Lib Go.Sort Go.Shelf

/-- both queues, and what the acts came to -/
def PlaysG (w : World) (q x i : Nat) (most : Int) (W : World) : Prop :=
  RowKit.Below w.heap.size w W ∧ ∃ (s : QS) (L : List (List UInt8)) (all : ByteArray) (k : Nat), PairQ w.heap.size W q x s most L all k s.over ∧ DocQ s L all.data.toList k ∧ s.most = most ∧ (s.ws.length : Int) ≤ most ∧ all.size ≤ 602 * i ∧ L.length ≤ i
theorem drewB' (w : World) : RowKit.Below w.heap.size w w.drew := (Below.refl _ _).drew
theorem plays_next {w W : World} {q x i : Nat} {most : Int} {s : QS} {L : List (List UInt8)} {all : ByteArray} {k : Nat} {over : Bool} (hP : PairQ w.heap.size W q x s most L all k over) (ho : over = s.over) (hb : RowKit.Below w.heap.size w W) (hD : DocQ s L all.data.toList k) (hm : s.most = most) (hwl : (s.ws.length : Int) ≤ most) (hal : all.size ≤ 602 * i) (hL : L.length ≤ i) : PlaysG w q x i most W := by
  subst ho
  exact ⟨hb, s, L, all, k, hP, hD, hm, hwl, hal, hL⟩
theorem plays_below {w W V : World} {q x i : Nat} {most : Int} (h : PlaysG w q x i most W) (hb : RowKit.Below W.heap.size W V) : PlaysG w q x i most V := by
  obtain ⟨h0, s, L, all, k, hP, h1⟩ := h
  exact ⟨h0.trans (hb.mono h0.size), s, L, all, k, pair_below hP hb, h1⟩
theorem rowT_reads {w : World} {A : Option Addr} {xs : List (List UInt8)} (h : ReadsT w A xs) : RowT w A (xs.map bs) := fun h0 => by
  rw [List.length_map] at h0
  obtain ⟨g, o, rfl, hg, h1⟩ := h h0
  refine ⟨g, o, rfl, fun j hj => ?_⟩
  rw [List.length_map] at hj
  rw [List.getElem_map]
  exact h1 j hj
/-- what is asked of both behind an act -/
def TailG (w : World) (q x i : Nat) (most : Int) (A : Option Addr) (xs : List (List UInt8)) (D : ByteArray) (sent : Int) (over : Bool) (W : World) : Prop :=
  PlaysG w q x i most W ∧ ReadsT W A xs ∧
  (∀ V, RowKit.Below W.heap.size W V → V.cell? ⟨x, 3, none⟩ = some (.int .i64 sent) ∧ V.cell? ⟨x, 4, none⟩ = some (.bool over)) ∧
  (∀ V, RowKit.Below W.heap.size W V → Calls Try.prog 14 #[.pointer (some ⟨q, 0, none⟩)] V fun e v' => e = .returned (.int .i64 D.size) ∧ v' = V) ∧
  (∀ V, RowKit.Below W.heap.size W V → Calls Try.prog 15 #[.pointer (some ⟨x, 0, none⟩)] V fun e v' => e = .returned (.string D) ∧ RowKit.Below W.heap.size W v') ∧
  (∀ V, RowKit.Below W.heap.size W V → Calls Try.prog 16 #[.pointer (some ⟨q, 0, none⟩)] V fun e v' => e = .returned (.int .i64 sent) ∧ v' = V) ∧
  (∀ V, RowKit.Below W.heap.size W V → Calls Try.prog 17 #[.pointer (some ⟨q, 0, none⟩)] V fun e v' => e = .returned (.bool over) ∧ v' = V) ∧
  (∀ V, RowKit.Below W.heap.size W V → Calls Try.prog 19 #[.pointer (some ⟨x, 0, none⟩)] V fun e v' => ∃ B c, e = .returned (.slice B xs.length c) ∧ ReadsT v' B xs ∧ RowKit.Below W.heap.size W v') ∧
  (∀ V0 V B c c2, ReadsT V0 B xs → RowKit.Below W.heap.size W V0 → RowKit.Below V0.heap.size V0 V → Calls Try.prog 18 #[.slice A xs.length c, .slice B xs.length c2] V fun e v' => e = .returned (.bool true) ∧ RowKit.Below W.heap.size W v')
theorem below_of {n : Nat} {w W V : World} (h : RowKit.Below n w W) (hb : RowKit.Below W.heap.size W V) (hn : n ≤ W.heap.size) : RowKit.Below n w V := h.trans (hb.mono hn)
theorem docQ_len : ∀ (L : List (List UInt8)) (k : Nat), (docQ k L).length ≤ L.length
  | [], _ => Nat.le_refl _
  | x :: r, k => by
    rw [docQ, List.length_append, List.length_cons]
    have := docQ_len r (k - (x.length + 2))
    split <;> simp <;> omega
set_option maxHeartbeats 4000000 in
theorem tail_lines {w W : World} {q x i : Nat} {most : Int} (h : PlaysG w q x i most W) (hi : i ≤ 40) (hmm : most ≤ 65536) :
    ∃ (xs : List (List UInt8)) (D : ByteArray) (sent : Int) (over : Bool), D.size ≤ 65536 ∧ Calls Try.prog 13 #[.pointer (some ⟨q, 0, none⟩), .int .i64 50] W fun e w' => ∃ A c, e = .returned (.tuple #[.slice A xs.length c, .bool true]) ∧ TailG w q x i most A xs D sent over w' := by
  obtain ⟨hb, s, L, all, k, hP, hD, hm, hwl, hal, hLl⟩ := h
  have hwq := docQ_whole hD
  have hxl := docQ_len L k
  have hkl : k ≤ all.size := hD.2.2.1
  have hsk : s.sent = k := hD.2.2.2.2.1
  have hwt := (both_goes hD 0).2
  have hDs : (waitsD all k).size = s.ws.length := by rw [← hwt]; rfl
  have hfl : (flatQ L).length ≤ 100000 := by rw [← hD.1]; show all.size ≤ 100000; omega
  refine ⟨docQ k L, waitsD all k, s.sent, s.over, by omega, ?_⟩
  have hq := qi_lines (pair_is hP) (by omega) hwq
  refine (lines8 (p := some ⟨q, 0, none⟩) (xs := docQ k L) (fun V hV => qi_lines (pair_is (pair_below hP hV)) (by omega) hwq) (by omega) 50 (by omega) (by decide)).mono ?_
  rintro e w' ⟨⟨v', rfl, g1⟩, g2⟩
  obtain ⟨A, c, ev⟩ := row_slice g1
  subst ev
  have hzb := hb.size
  have hP' := pair_below hP g2
  refine ⟨A, c, rfl, ⟨below_of hb g2 hzb, s, L, all, k, hP', hD, hm, hwl, hal, hLl⟩, reads_ownT g1, fun V hV => ?_, fun V hV => ?_, fun V hV => ?_, fun V hV => ?_, fun V hV => ?_, fun V hV => ?_, fun V0 V B c1 c2 hr h0 hV => ?_⟩
  · obtain ⟨ol, v, e1, _⟩ := pair_doc (pair_below hP' hV)
    exact ⟨by rw [hsk]; exact blk_cell e1 3, blk_cell e1 4⟩
  · rw [hDs]; exact qi_len (pair_is (pair_below hP' hV))
  · obtain ⟨ol, hd⟩ := pair_doc (pair_below hP' hV)
    refine (d_waits hd hkl (by omega)).mono ?_
    rintro e v' ⟨rfl, n, rfl⟩
    exact ⟨rfl, hV.trans ((((Fr.refl (fun _ => False) V).drewN n).below (Nat.le_refl _) fun _ _ e => e.elim).mono hV.size)⟩
  · exact qi_sent (pair_is (pair_below hP' hV))
  · exact qi_over (pair_is (pair_below hP' hV))
  · obtain ⟨ol, hd⟩ := pair_doc (pair_below hP' hV)
    refine (d_lines hd (by omega) hfl (by omega)).mono ?_
    rintro e v' ⟨⟨u, rfl, o1⟩, o2⟩
    obtain ⟨B, c2, ev⟩ := row_slice o1
    subst ev
    exact ⟨B, c2, rfl, reads_ownT o1, hV.trans (o2.mono hV.size)⟩
  · have hA : ReadsT V A (docQ k L) := ((reads_ownT g1).below h0).below hV
    have hB := hr.below hV
    have ht := texts_any A B ((docQ k L).map bs) ((docQ k L).map bs) c1 c2 V (by rw [List.length_map]; omega) (rowT_reads hA) (rowT_reads hB)
    rw [List.length_map] at ht
    refine ht.mono ?_
    rintro e v' ⟨rfl, n, rfl⟩
    exact ⟨by simp, (h0.trans (hV.mono h0.size)).trans ((((Fr.refl (fun _ => False) V).drewN n).below (Nat.le_refl _) fun _ _ e => e.elim).mono (Nat.le_trans h0.size hV.size))⟩
set_option maxRecDepth 100000 in
set_option maxHeartbeats 16000000 in
theorem sendqPlays_main (most : Int) (hm0 : 512 ≤ most) (hm1 : most ≤ 65536) (A : Option Addr) (l : List zsqT) (cc : Nat) (w : World) (hl : l.length ≤ 40) (hA : ActsQ w A l) :
    Calls Try.prog 3 #[.int .i64 most, .slice A l.length cc] w fun e w' => e = .returned (.bool true) ∧ RowKit.Below w.heap.size w w' := by
  have HA := Lib.hid hA
  clear hA
  have mixed : (Try.prog).follows Departure.mixedOrders = true := by kernel_rfl
  have n5 : decide ((40 : Int) < (l.length : Int)) = false := by simp; omega
  go_enter Try.func3, Try.ntmps3
  go_wp2_with fail
  refine (awake8 w).mono ?_
  rintro e w1 ⟨rfl, b1⟩
  have H0 : Hid (RowKit.Below w.heap.size w w1 ∧ ∀ j (h : j < l.length), j < 0 → l[j].2.1.size ≤ 600) := ⟨b1, fun j h h2 => absurd h2 (by omega)⟩
  clear b1
  go_wp2_with fail
  go_loopw [5] (fun i wr => ∃ (k : Nat), i = .int .i64 k ∧ k ≤ l.length ∧ Hid (RowKit.Below w.heap.size w wr ∧ ∀ j (h : j < l.length), j < k → l[j].2.1.size ≤ 600)) (fun i _ => l.length - (RowKit.intOf i).toNat)
  case atStart => exact ⟨0, rfl, Nat.zero_le _, H0⟩
  case round =>
    obtain ⟨k, rfl, hk, HQ⟩ := hrel
    clear H0
    by_cases hlt : k < l.length
    · obtain ⟨g, o, rfl, hat⟩ := actsQ_at HA.out hlt
      obtain ⟨a0, a1, a2⟩ := hat wr HQ.out.1
      obtain ⟨⟨κ, S, N⟩, hy⟩ : ∃ y, l[k] = y := ⟨_, rfl⟩
      rw [hy] at a0 a1 a2
      have p0 : (k : Int) < (l.length : Int) := by omega
      have HY := Lib.hid hy
      clear hat hy
      by_cases h6 : S.size ≤ 600
      · have p6 : ¬ ((600 : Int) < (S.size : Int)) := by omega
        have HN : Hid (RowKit.Below w.heap.size w wr ∧ ∀ j (h : j < l.length), j < k + 1 → l[j].2.1.size ≤ 600) := ⟨HQ.out.1, fun j h hj => by
          by_cases e : j = k
          · subst e; rw [HY.out]; exact h6
          · exact HQ.out.2 j h (by omega)⟩
        go_wp2_with fail
        go_roundw
        case rel => exact ⟨k + 1, by go_num, by omega, HN⟩
        case measure => simp [RowKit.intOf]; omega
      · have p6 : (600 : Int) < (S.size : Int) := by omega
        go_wp2_with fail
        go_ret
        exact ⟨rfl, HQ.out.1⟩
    · obtain rfl : k = l.length := by omega
      have p1 : ¬ ((l.length : Int) < (l.length : Int)) := by omega
      have hz := HQ.out.1.size
      go_wp2_with fail
      refine (qi_new most hm0 hm1 wr).mono ?_
      rintro e w2 ⟨⟨q, rfl, q2⟩, b2⟩
      have H2 := Lib.hid (And.intro (qi_base q2 hz) (HQ.out.1.trans (b2.mono hz)))
      have n1 : ¬ (most < 512) := by omega
      have n2 : ¬ (65536 < most) := by omega
      have n3 : decide (most < 512) = false := by simp; omega
      have n4 : decide (65536 < most) = false := by simp; omega
      have z2 := b2.size
      clear q2 b2
      have kx := heap_alloc_new w2 (.cells #[.int .i64 most, .slice none 0 0, .string ⟨#[]⟩, .int .i64 0, .bool false] 33)
      obtain ⟨w3, hw3⟩ : ∃ w3, w2.alloc (.cells #[.int .i64 most, .slice none 0 0, .string ⟨#[]⟩, .int .i64 0, .bool false] 33) = w3 := ⟨_, rfl⟩
      have f3 : Fr (fun _ => False) w2 w3 := by rw [← hw3]; exact (Fr.refl _ _).alloc _
      rw [hw3] at kx
      have H3 : Hid (PlaysG w q w2.heap.size 0 most w3) := by
        obtain ⟨⟨g0, ob, g1⟩, g2⟩ := H2.out
        have hql := q_lt g1
        have hqb := q_blocks g1
        refine ⟨g2.trans (f3.below (by omega) fun _ _ e => e.elim), ⟨most, [], 0, false, false⟩, [], ⟨#[]⟩, 0, ⟨by omega, none, ⟨g0, ob, q_fr g1 f3 (fun e => e) fun _ _ e => e, ?_, ?_⟩, ⟨_, kx, rfl, ownT_nil _ _, by simp⟩⟩, docQ_new most, rfl, by simp; omega, Nat.le_refl _, Nat.le_refl _⟩
        · rintro (e | e)
          · omega
          · cases e
        · rintro k hk (e | e)
          · have := (hqb k hk).2; omega
          · cases e
      clear kx f3
      go_wp2_with fail
      obtain ⟨x, hxx⟩ : ∃ x, w2.heap.size = x := ⟨_, rfl⟩
      rw [hxx] at H3 ⊢
      clear hw3 H2 hxx z2 hz
      go_loopw [9] (fun i wr => ∃ (k : Nat), i = .int .i64 k ∧ k ≤ l.length ∧ Hid (PlaysG w q x k most wr)) (fun i _ => l.length - (RowKit.intOf i).toNat)
      case atStart => exact ⟨0, rfl, Nat.zero_le _, H3⟩
      case round =>
        obtain ⟨i, rfl, hi, HR⟩ := hrel
        clear H3
        by_cases hlt : i < l.length
        · obtain ⟨g, o, rfl, hat⟩ := actsQ_at HA.out hlt
          obtain ⟨hb, s, L, all, k, hP, hD, hm, hwl, hal, hLl⟩ := HR.out
          obtain ⟨a0, a1, a2⟩ := hat wr hb
          have hS6 := HQ.out.2 i hlt hlt
          obtain ⟨⟨κ, S, N⟩, hy⟩ : ∃ y, l[i] = y := ⟨_, rfl⟩
          rw [hy] at a0 a1 a2 hS6
          dsimp only at hS6
          have HY := Lib.hid hy
          have hzb := hb.size
          have p0 : (i : Int) < (l.length : Int) := by omega
          have hwsl : s.ws.length ≤ 65536 := by omega
          have hkl : k ≤ all.size := hD.2.2.1
          have hsk : s.sent = k := hD.2.2.2.2.1
          have hat1 : ∀ W, RowKit.Below w.heap.size w W → W.cell? ⟨g, o + i * 3 + 1, none⟩ = some (.string S) ∧ W.cell? ⟨g, o + i * 3 + 2, none⟩ = some (.int .i64 N) := fun W hW => by
            have := (hat W hW).2
            rw [hy] at this
            exact this
          clear hat hy
          by_cases hκ : κ = 1
          · subst hκ
            obtain ⟨hgo, hwt⟩ := both_goes hD N
            obtain ⟨ds, hds⟩ : ∃ ds, s.ws.take (goesQ s N) = ds := ⟨_, rfl⟩
            obtain ⟨s2, hs2⟩ : ∃ s2, drainS s N = s2 := ⟨_, rfl⟩
            have hT : bs ((waitsD all k).data.toList.take (goesQ s N)) = bs ds := by rw [hwt, hds]
            have hD2 : DocQ s2 L all.data.toList (k + goesQ s N) := hs2 ▸ docQ_drain hD N
            have hm2 : s2.most = most := by rw [← hs2, drain_most, hm]
            have ho2 : s.over = s2.over := by rw [← hs2, drain_over]
            have hw2 : (s2.ws.length : Int) ≤ most := by rw [← hs2, drain_ws, List.length_drop]; omega
            have hC1 : ∀ W, RowKit.Below wr.heap.size wr W → Calls Try.prog 9 #[.pointer (some ⟨q, 0, none⟩), .int .i64 N] W fun e w' => ∃ A c, e = .returned (.slice A ds.length c) ∧ OwnB W.heap.size w' (.slice A ds.length c) ds ∧ PairQ w.heap.size w' q x s2 most L all k s.over ∧ RowKit.Below w.heap.size w w' ∧ x < W.heap.size ∧ w'.cell? ⟨g, o + i * 3 + 2, none⟩ = some (.int .i64 N) := fun W hW => by
              have hpW := pair_below hP hW
              obtain ⟨ol, hdW⟩ := pair_doc hpW
              refine (pair_drain hpW (by have := hW.size; omega) (by omega) (by omega) (by omega) N hds hs2).mono ?_
              rintro e w' ⟨⟨v', g0, g1⟩, g2, g3⟩
              obtain ⟨A, c, ev⟩ := row_slice g1
              subst ev
              have hbb := (hb.trans (hW.mono hzb)).trans g3
              exact ⟨A, c, g0, g1, g2, hbb, d_lt hdW, (hat1 _ hbb).2⟩
            have hC2 : ∀ W0 W A c B, OwnB B W0 (.slice A ds.length c) ds → x < B → PairQ w.heap.size W0 q x s2 most L all k s.over → RowKit.Below w.heap.size w W0 → RowKit.Below W0.heap.size W0 W → Calls Try.prog 10 #[.pointer (some ⟨x, 0, none⟩), .int .i64 N] W fun e w' => e = .returned (.string (bs ds)) ∧ (convert 34 9 (.slice A ds.length c)).run Try.prog w' = .ok (.string (bs ds)) w' ∧ Hid (PlaysG w q x (i + 1) most w') := fun W0 W A c B h1 h2 h3 h4 hW => by
              have hz0 := h4.size
              refine (pair_drainD (pair_below h3 hW) (by have := hW.size; omega) hkl (by omega) N hgo hT).mono ?_
              rintro e w' ⟨g0, g1, g2, g3⟩
              have o5 : OwnB B W (.slice A ds.length c) ds := ownB_kept h1 fun j hj => hW.block j (h1.lt j hj).2
              have o6 := ownB_kept o5 fun j hj => g3.block j (o5.lt j hj).2 fun e => by have := (o5.lt j hj).1; omega
              exact ⟨g0, conv_ownB o6, plays_next g1 ho2 ((h4.trans (hW.mono hz0)).trans g2) hD2 hm2 hw2 (by omega) (by omega)⟩
            have HC1 := Lib.hid hC1
            have HC2 := Lib.hid hC2
            clear hb hP hD hm hwl hal hLl hS6 hwsl hkl hsk hgo hwt hds hs2 hT hD2 hm2 ho2 hw2 hC1 hC2 hat1 hzb
            go_wp2_with fail
            go_region_with_o (first
              | (go_at_call 9; refine (HC1.out _ (by first | exact Below.refl _ _ | exact drewB' _)).mono ?_; rintro e w4 ⟨A4, c4, rfl, o4, t4, b4, x4, a4⟩; have cv4 := conv_ownB o4; have T4 := Lib.hid (And.intro o4 (And.intro x4 (And.intro t4 b4))); clear o4 t4 b4 x4)
              | (go_at_call 10; refine (HC2.out _ _ _ _ _ T4.out.1 T4.out.2.1 T4.out.2.2.1 T4.out.2.2.2 (by first | exact Below.refl _ _ | exact drewB' _)).mono ?_; rintro e w5 ⟨rfl, cv5, t5⟩))
            all_goals
              clear HC1 HC2
              try clear cv4 cv5
              try clear a4
              try clear a0 a1 a2
              go_wp2_with fail
              obtain ⟨xs, D, sent, over, hDb, hlines⟩ := tail_lines t5.out (by omega) hm1
              refine hlines.mono ?_
              rintro e w6 ⟨A6, c6, rfl, t6⟩
              have T6 := Lib.hid t6
              have d3 := (t6.2.2.1 w6 (Below.refl _ _)).1
              have d4 := (t6.2.2.1 w6 (Below.refl _ _)).2
              clear t6 hlines t5
              go_wp2_with fail
              refine wp_region_held_drew (S := fun V => V.cell? ⟨x, 3, none⟩ = some (.int .i64 sent) ∧ V.cell? ⟨x, 4, none⟩ = some (.bool over)) (by kernel_rfl) (by exact ⟨d3, d4⟩) (fun hHeld => ?_)
              clear d3 d4
              refine wpAnyH_read (i := 0) (oi := { dst := some 101, op := Go.Op.move (Go.Operand.tmp 10), type := 4, pos := "law.go:81", after := #[], guard := none }) ?_ rfl (by kernel_rfl) (by kernel_rfl) (by kernel_rfl) (fun _ _ _ h => h) (by rfl) (by assumption) ?_ ?_
              rotate_left
              · (intro w0 hS0; go_simp <;> (try with_reducible rfl))
              try simp only [Act.put, List.setIfInBounds_toArray, List.set_cons_zero, List.set_cons_succ]
              refine wpAnyH_read (i := 1) (oi := { dst := some 102, op := Go.Op.unOp Go.UnOp.not 4 (Go.Operand.tmp 101), type := 4, pos := "law.go:81", after := #[{ on := 0, ground := Go.Ground.data }], guard := none }) ?_ rfl (by kernel_rfl) (by kernel_rfl) (by kernel_rfl) (fun _ _ _ h => h) (by rfl) (by assumption) ?_ ?_
              rotate_left
              · (intro w0 hS0; go_simp <;> (try with_reducible rfl))
              try simp only [Act.put, List.setIfInBounds_toArray, List.set_cons_zero, List.set_cons_succ]
              refine wpAnyH_read (i := 2) (oi := { dst := some 103, op := Go.Op.move (Go.Operand.tmp 102), type := 4, pos := "law.go:81", after := #[{ on := 1, ground := Go.Ground.data }], guard := none }) ?_ rfl (by kernel_rfl) (by kernel_rfl) (by kernel_rfl) (fun _ _ _ h => h) (by rfl) (by assumption) ?_ ?_
              rotate_left
              · (intro w0 hS0; go_simp <;> (try with_reducible rfl))
              try simp only [Act.put, List.setIfInBounds_toArray, List.set_cons_zero, List.set_cons_succ]
              refine wpAnyH_read (i := 3) (oi := { dst := some 104, op := Go.Op.move (Go.Operand.tmp 12), type := 4, pos := "law.go:81", after := #[{ on := 2, ground := Go.Ground.guard }], guard := some (2, false) }) ?_ rfl (by kernel_rfl) (by kernel_rfl) (by kernel_rfl) (fun _ _ _ h => h) (by rfl) (by assumption) ?_ ?_
              rotate_left
              · (intro w0 hS0; go_simp <;> (try with_reducible rfl))
              try simp only [Act.put, List.setIfInBounds_toArray, List.set_cons_zero, List.set_cons_succ]
              refine wpAnyH_read (i := 4) (oi := { dst := some 105, op := Go.Op.unOp Go.UnOp.not 4 (Go.Operand.tmp 104), type := 4, pos := "law.go:81", after := #[{ on := 3, ground := Go.Ground.data }, { on := 2, ground := Go.Ground.guard }], guard := some (2, false) }) ?_ rfl (by kernel_rfl) (by kernel_rfl) (by kernel_rfl) (fun _ _ _ h => h) (by rfl) (by assumption) ?_ ?_
              rotate_left
              · (intro w0 hS0; go_simp <;> (try with_reducible rfl))
              try simp only [Act.put, List.setIfInBounds_toArray, List.set_cons_zero, List.set_cons_succ]
              refine wpAnyH_read (i := 5) (oi := { dst := some 106, op := Go.Op.pick (Go.Operand.tmp 103) (Go.Operand.const (Go.Value.bool true)) (Go.Operand.tmp 105), type := 4, pos := "law.go:81", after := #[{ on := 2, ground := Go.Ground.data }, { on := 4, ground := Go.Ground.data }], guard := none }) ?_ rfl (by kernel_rfl) (by kernel_rfl) (by kernel_rfl) (fun _ _ _ h => h) (by rfl) (by assumption) ?_ ?_
              rotate_left
              · (intro w0 hS0; go_simp <;> (try with_reducible rfl))
              try simp only [Act.put, List.setIfInBounds_toArray, List.set_cons_zero, List.set_cons_succ]
              refine wpAnyH_read (i := 6) (oi := { dst := some 107, op := Go.Op.move (Go.Operand.tmp 106), type := 4, pos := "law.go:81", after := #[{ on := 5, ground := Go.Ground.data }, { on := 2, ground := Go.Ground.chain }], guard := none }) ?_ rfl (by kernel_rfl) (by kernel_rfl) (by kernel_rfl) (fun _ _ _ h => h) (by rfl) (by assumption) ?_ ?_
              rotate_left
              · (intro w0 hS0; go_simp <;> (try with_reducible rfl))
              try simp only [Act.put, List.setIfInBounds_toArray, List.set_cons_zero, List.set_cons_succ]
              refine wpAnyH_read (i := 7) (oi := { dst := some 108, op := Go.Op.move (Go.Operand.tmp 6), type := 26, pos := "law.go:81", after := #[{ on := 6, ground := Go.Ground.guard }], guard := some (6, false) }) ?_ rfl (by kernel_rfl) (by kernel_rfl) (by kernel_rfl) (fun _ _ _ h => h) (by rfl) (by assumption) ?_ ?_
              rotate_left
              · (intro w0 hS0; go_simp <;> (try with_reducible rfl))
              try simp only [Act.put, List.setIfInBounds_toArray, List.set_cons_zero, List.set_cons_succ]
              refine wpAnyH_read (i := 9) (oi := { dst := some 110, op := Go.Op.move (Go.Operand.tmp 8), type := 30, pos := "law.go:81", after := #[{ on := 6, ground := Go.Ground.guard }], guard := some (6, false) }) ?_ rfl (by kernel_rfl) (by kernel_rfl) (by kernel_rfl) (fun _ _ _ h => h) (by rfl) (by assumption) ?_ ?_
              rotate_left
              · (intro w0 hS0; go_simp <;> (try with_reducible rfl))
              try simp only [Act.put, List.setIfInBounds_toArray, List.set_cons_zero, List.set_cons_succ]
              refine wpAnyH_one (i := 8) (o := { dst := some 109, op := Go.Op.call { callee := Go.Callee.value (Go.Operand.func 14), args := #[Go.Operand.tmp 108], argTypes := #[26] }, type := 3, pos := "law.go:81", after := #[{ on := 7, ground := Go.Ground.data }, { on := 6, ground := Go.Ground.chain }, { on := 6, ground := Go.Ground.guard }], guard := some (6, false) }) (by kernel_rfl) rfl (by rfl) (fun K hK => ?_)
              go_simp
              refine (T6.out.2.2.2.1 _ (by first | exact Below.refl _ _ | exact drewB' _ | exact B7.out)).mono ?_
              rintro e w9 ⟨rfl, rfl⟩
              go_wp2_with fail
              refine hK.out _ _ ?_ (fun hHeld => ?_)
              · (first | assumption | trivial)
              clear hK K
              try simp only [Act.put, List.setIfInBounds_toArray, List.set_cons_zero, List.set_cons_succ]
              refine wpAnyH_one (i := 10) (o := { dst := some 111, op := Go.Op.call { callee := Go.Callee.value (Go.Operand.func 15), args := #[Go.Operand.tmp 110], argTypes := #[30] }, type := 9, pos := "law.go:81", after := #[{ on := 9, ground := Go.Ground.data }, { on := 8, ground := Go.Ground.chain }, { on := 6, ground := Go.Ground.guard }], guard := some (6, false) }) (by kernel_rfl) rfl (by rfl) (fun K hK => ?_)
              go_simp
              refine (T6.out.2.2.2.2.1 _ (by first | exact Below.refl _ _ | exact drewB' _ | exact B7.out)).mono ?_
              rintro e w7 ⟨rfl, b7⟩
              have d37 := (T6.out.2.2.1 _ b7).1
              have d47 := (T6.out.2.2.1 _ b7).2
              have B7 := Lib.hid b7
              clear b7
              go_wp2_with fail
              refine hK.out _ _ ?_ (fun hHeld => ?_)
              · exact ⟨d37, d47⟩
              clear hK K
              try simp only [Act.put, List.setIfInBounds_toArray, List.set_cons_zero, List.set_cons_succ]
              clear d37 d47
              refine wpAnyH_read (i := 11) (oi := { dst := some 112, op := Go.Op.call { callee := Go.Callee.builtin Go.Builtin.len, args := #[Go.Operand.tmp 111], argTypes := #[9] }, type := 3, pos := "law.go:81", after := #[{ on := 10, ground := Go.Ground.data }, { on := 6, ground := Go.Ground.guard }], guard := some (6, false) }) ?_ rfl (by kernel_rfl) (by kernel_rfl) (by kernel_rfl) (fun _ _ _ h => h) (by rfl) (by assumption) ?_ ?_
              rotate_left
              · (intro w0 hS0; go_simp <;> (try with_reducible rfl))
              try simp only [Act.put, List.setIfInBounds_toArray, List.set_cons_zero, List.set_cons_succ]
              refine wpAnyH_read (i := 12) (oi := { dst := some 113, op := Go.Op.binOp Go.BinOp.neq 3 (Go.Operand.tmp 109) (Go.Operand.tmp 112) 3, type := 4, pos := "law.go:81", after := #[{ on := 8, ground := Go.Ground.data }, { on := 11, ground := Go.Ground.data }, { on := 6, ground := Go.Ground.guard }], guard := some (6, false) }) ?_ rfl (by kernel_rfl) (by kernel_rfl) (by kernel_rfl) (fun _ _ _ h => h) (by rfl) (by assumption) ?_ ?_
              rotate_left
              · (intro w0 hS0; go_simp <;> (try with_reducible rfl))
              try simp only [Act.put, List.setIfInBounds_toArray, List.set_cons_zero, List.set_cons_succ]
              refine wpAnyH_read (i := 13) (oi := { dst := some 114, op := Go.Op.pick (Go.Operand.tmp 107) (Go.Operand.const (Go.Value.bool true)) (Go.Operand.tmp 113), type := 4, pos := "law.go:81", after := #[{ on := 6, ground := Go.Ground.data }, { on := 12, ground := Go.Ground.data }], guard := none }) ?_ rfl (by kernel_rfl) (by kernel_rfl) (by kernel_rfl) (fun _ _ _ h => h) (by rfl) (by assumption) ?_ ?_
              rotate_left
              · (intro w0 hS0; go_simp <;> (try with_reducible rfl))
              try simp only [Act.put, List.setIfInBounds_toArray, List.set_cons_zero, List.set_cons_succ]
              refine wpAnyH_read (i := 14) (oi := { dst := some 115, op := Go.Op.move (Go.Operand.tmp 114), type := 4, pos := "law.go:81", after := #[{ on := 13, ground := Go.Ground.data }, { on := 10, ground := Go.Ground.chain }], guard := none }) ?_ rfl (by kernel_rfl) (by kernel_rfl) (by kernel_rfl) (fun _ _ _ h => h) (by rfl) (by assumption) ?_ ?_
              rotate_left
              · (intro w0 hS0; go_simp <;> (try with_reducible rfl))
              try simp only [Act.put, List.setIfInBounds_toArray, List.set_cons_zero, List.set_cons_succ]
              refine wpAnyH_read (i := 15) (oi := { dst := some 116, op := Go.Op.move (Go.Operand.tmp 6), type := 26, pos := "law.go:81", after := #[{ on := 14, ground := Go.Ground.guard }], guard := some (14, false) }) ?_ rfl (by kernel_rfl) (by kernel_rfl) (by kernel_rfl) (fun _ _ _ h => h) (by rfl) (by assumption) ?_ ?_
              rotate_left
              · (intro w0 hS0; go_simp <;> (try with_reducible rfl))
              try simp only [Act.put, List.setIfInBounds_toArray, List.set_cons_zero, List.set_cons_succ]
              refine wpAnyH_read (i := 17) (oi := { dst := some 118, op := Go.Op.move (Go.Operand.tmp 8), type := 30, pos := "law.go:81", after := #[{ on := 14, ground := Go.Ground.guard }], guard := some (14, false) }) ?_ rfl (by kernel_rfl) (by kernel_rfl) (by kernel_rfl) (fun _ _ _ h => h) (by rfl) (by assumption) ?_ ?_
              rotate_left
              · (intro w0 hS0; go_simp <;> (try with_reducible rfl))
              try simp only [Act.put, List.setIfInBounds_toArray, List.set_cons_zero, List.set_cons_succ]
              refine wpAnyH_read (i := 18) (oi := { dst := some 119, op := Go.Op.nilCheck (Go.Operand.tmp 118), type := 0, pos := "law.go:81", after := #[{ on := 17, ground := Go.Ground.data }, { on := 14, ground := Go.Ground.guard }], guard := some (14, false) }) ?_ rfl (by kernel_rfl) (by kernel_rfl) (by kernel_rfl) (fun _ _ _ h => h) (by rfl) (by assumption) ?_ ?_
              rotate_left
              · (intro w0 hS0; go_simp <;> (try with_reducible rfl))
              try simp only [Act.put, List.setIfInBounds_toArray, List.set_cons_zero, List.set_cons_succ]
              refine wpAnyH_read (i := 19) (oi := { dst := some 120, op := Go.Op.fieldAddr 33 (Go.Operand.tmp 119) 3, type := 0, pos := "law.go:81", after := #[{ on := 18, ground := Go.Ground.data }, { on := 14, ground := Go.Ground.guard }], guard := some (14, false) }) ?_ rfl (by kernel_rfl) (by kernel_rfl) (by kernel_rfl) (fun _ _ _ h => h) (by rfl) (by assumption) ?_ ?_
              rotate_left
              · (intro w0 hS0; go_simp <;> (try with_reducible rfl))
              try simp only [Act.put, List.setIfInBounds_toArray, List.set_cons_zero, List.set_cons_succ]
              refine wpAnyH_read (i := 20) (oi := { dst := some 121, op := Go.Op.load 3 (Go.Operand.tmp 120), type := 3, pos := "law.go:81", after := #[{ on := 19, ground := Go.Ground.data }, { on := 14, ground := Go.Ground.guard }], guard := some (14, false) }) ?_ rfl (by kernel_rfl) (by kernel_rfl) (by kernel_rfl) (fun _ _ _ h => h) (by rfl) (by assumption) ?_ ?_
              rotate_left
              · (intro w0 hS0; (try dsimp only at hS0); obtain ⟨s1, s2⟩ := hS0; go_simp <;> (try with_reducible rfl))
              try simp only [Act.put, List.setIfInBounds_toArray, List.set_cons_zero, List.set_cons_succ]
              refine wpAnyH_one (i := 16) (o := { dst := some 117, op := Go.Op.call { callee := Go.Callee.value (Go.Operand.func 16), args := #[Go.Operand.tmp 116], argTypes := #[26] }, type := 3, pos := "law.go:81", after := #[{ on := 15, ground := Go.Ground.data }, { on := 14, ground := Go.Ground.chain }, { on := 14, ground := Go.Ground.guard }], guard := some (14, false) }) (by kernel_rfl) rfl (by rfl) (fun K hK => ?_)
              go_simp
              refine (T6.out.2.2.2.2.2.1 _ B7.out).mono ?_
              rintro e w9 ⟨rfl, rfl⟩
              go_wp2_with fail
              refine hK.out _ _ ?_ (fun hHeld => ?_)
              · (first | assumption | trivial)
              clear hK K
              try simp only [Act.put, List.setIfInBounds_toArray, List.set_cons_zero, List.set_cons_succ]
              refine wpAnyH_read (i := 21) (oi := { dst := some 122, op := Go.Op.binOp Go.BinOp.neq 3 (Go.Operand.tmp 117) (Go.Operand.tmp 121) 3, type := 4, pos := "law.go:81", after := #[{ on := 16, ground := Go.Ground.data }, { on := 20, ground := Go.Ground.data }, { on := 14, ground := Go.Ground.guard }], guard := some (14, false) }) ?_ rfl (by kernel_rfl) (by kernel_rfl) (by kernel_rfl) (fun _ _ _ h => h) (by rfl) (by assumption) ?_ ?_
              rotate_left
              · (intro w0 hS0; go_simp <;> (try with_reducible rfl))
              try simp only [Act.put, List.setIfInBounds_toArray, List.set_cons_zero, List.set_cons_succ]
              refine wpAnyH_read (i := 22) (oi := { dst := some 123, op := Go.Op.pick (Go.Operand.tmp 115) (Go.Operand.const (Go.Value.bool true)) (Go.Operand.tmp 122), type := 4, pos := "law.go:81", after := #[{ on := 14, ground := Go.Ground.data }, { on := 21, ground := Go.Ground.data }], guard := none }) ?_ rfl (by kernel_rfl) (by kernel_rfl) (by kernel_rfl) (fun _ _ _ h => h) (by rfl) (by assumption) ?_ ?_
              rotate_left
              · (intro w0 hS0; go_simp <;> (try with_reducible rfl))
              try simp only [Act.put, List.setIfInBounds_toArray, List.set_cons_zero, List.set_cons_succ]
              refine wpAnyH_read (i := 23) (oi := { dst := some 124, op := Go.Op.move (Go.Operand.tmp 123), type := 4, pos := "law.go:81", after := #[{ on := 22, ground := Go.Ground.data }, { on := 16, ground := Go.Ground.chain }], guard := none }) ?_ rfl (by kernel_rfl) (by kernel_rfl) (by kernel_rfl) (fun _ _ _ h => h) (by rfl) (by assumption) ?_ ?_
              rotate_left
              · (intro w0 hS0; go_simp <;> (try with_reducible rfl))
              try simp only [Act.put, List.setIfInBounds_toArray, List.set_cons_zero, List.set_cons_succ]
              refine wpAnyH_read (i := 24) (oi := { dst := some 125, op := Go.Op.move (Go.Operand.tmp 6), type := 26, pos := "law.go:81", after := #[{ on := 23, ground := Go.Ground.guard }], guard := some (23, false) }) ?_ rfl (by kernel_rfl) (by kernel_rfl) (by kernel_rfl) (fun _ _ _ h => h) (by rfl) (by assumption) ?_ ?_
              rotate_left
              · (intro w0 hS0; go_simp <;> (try with_reducible rfl))
              try simp only [Act.put, List.setIfInBounds_toArray, List.set_cons_zero, List.set_cons_succ]
              refine wpAnyH_read (i := 26) (oi := { dst := some 127, op := Go.Op.move (Go.Operand.tmp 8), type := 30, pos := "law.go:81", after := #[{ on := 23, ground := Go.Ground.guard }], guard := some (23, false) }) ?_ rfl (by kernel_rfl) (by kernel_rfl) (by kernel_rfl) (fun _ _ _ h => h) (by rfl) (by assumption) ?_ ?_
              rotate_left
              · (intro w0 hS0; go_simp <;> (try with_reducible rfl))
              try simp only [Act.put, List.setIfInBounds_toArray, List.set_cons_zero, List.set_cons_succ]
              refine wpAnyH_read (i := 27) (oi := { dst := some 128, op := Go.Op.nilCheck (Go.Operand.tmp 127), type := 0, pos := "law.go:81", after := #[{ on := 26, ground := Go.Ground.data }, { on := 23, ground := Go.Ground.guard }], guard := some (23, false) }) ?_ rfl (by kernel_rfl) (by kernel_rfl) (by kernel_rfl) (fun _ _ _ h => h) (by rfl) (by assumption) ?_ ?_
              rotate_left
              · (intro w0 hS0; go_simp <;> (try with_reducible rfl))
              try simp only [Act.put, List.setIfInBounds_toArray, List.set_cons_zero, List.set_cons_succ]
              refine wpAnyH_read (i := 28) (oi := { dst := some 129, op := Go.Op.fieldAddr 33 (Go.Operand.tmp 128) 4, type := 0, pos := "law.go:81", after := #[{ on := 27, ground := Go.Ground.data }, { on := 23, ground := Go.Ground.guard }], guard := some (23, false) }) ?_ rfl (by kernel_rfl) (by kernel_rfl) (by kernel_rfl) (fun _ _ _ h => h) (by rfl) (by assumption) ?_ ?_
              rotate_left
              · (intro w0 hS0; go_simp <;> (try with_reducible rfl))
              try simp only [Act.put, List.setIfInBounds_toArray, List.set_cons_zero, List.set_cons_succ]
              refine wpAnyH_read (i := 29) (oi := { dst := some 130, op := Go.Op.load 4 (Go.Operand.tmp 129), type := 4, pos := "law.go:81", after := #[{ on := 28, ground := Go.Ground.data }, { on := 23, ground := Go.Ground.guard }], guard := some (23, false) }) ?_ rfl (by kernel_rfl) (by kernel_rfl) (by kernel_rfl) (fun _ _ _ h => h) (by rfl) (by assumption) ?_ ?_
              rotate_left
              · (intro w0 hS0; (try dsimp only at hS0); obtain ⟨s1, s2⟩ := hS0; go_simp <;> (try with_reducible rfl))
              try simp only [Act.put, List.setIfInBounds_toArray, List.set_cons_zero, List.set_cons_succ]
              refine wpAnyH_one (i := 25) (o := { dst := some 126, op := Go.Op.call { callee := Go.Callee.value (Go.Operand.func 17), args := #[Go.Operand.tmp 125], argTypes := #[26] }, type := 4, pos := "law.go:81", after := #[{ on := 24, ground := Go.Ground.data }, { on := 23, ground := Go.Ground.chain }, { on := 23, ground := Go.Ground.guard }], guard := some (23, false) }) (by kernel_rfl) rfl (by rfl) (fun K hK => ?_)
              go_simp
              refine (T6.out.2.2.2.2.2.2.1 _ B7.out).mono ?_
              rintro e w9 ⟨rfl, rfl⟩
              go_wp2_with fail
              refine hK.out _ _ ?_ (fun hHeld => ?_)
              · (first | assumption | trivial)
              clear hK K
              try simp only [Act.put, List.setIfInBounds_toArray, List.set_cons_zero, List.set_cons_succ]
              refine wpAnyH_read (i := 30) (oi := { dst := some 131, op := Go.Op.binOp Go.BinOp.neq 4 (Go.Operand.tmp 126) (Go.Operand.tmp 130) 4, type := 4, pos := "law.go:81", after := #[{ on := 25, ground := Go.Ground.data }, { on := 29, ground := Go.Ground.data }, { on := 23, ground := Go.Ground.guard }], guard := some (23, false) }) ?_ rfl (by kernel_rfl) (by kernel_rfl) (by kernel_rfl) (fun _ _ _ h => h) (by rfl) (by assumption) ?_ ?_
              rotate_left
              · (intro w0 hS0; go_simp <;> (try with_reducible rfl))
              try simp only [Act.put, List.setIfInBounds_toArray, List.set_cons_zero, List.set_cons_succ]
              refine wpAnyH_read (i := 31) (oi := { dst := some 132, op := Go.Op.pick (Go.Operand.tmp 124) (Go.Operand.const (Go.Value.bool true)) (Go.Operand.tmp 131), type := 4, pos := "law.go:81", after := #[{ on := 23, ground := Go.Ground.data }, { on := 30, ground := Go.Ground.data }], guard := none }) ?_ rfl (by kernel_rfl) (by kernel_rfl) (by kernel_rfl) (fun _ _ _ h => h) (by rfl) (by assumption) ?_ ?_
              rotate_left
              · (intro w0 hS0; go_simp <;> (try with_reducible rfl))
              try simp only [Act.put, List.setIfInBounds_toArray, List.set_cons_zero, List.set_cons_succ]
              refine wpAnyH_read (i := 32) (oi := { dst := some 133, op := Go.Op.move (Go.Operand.tmp 132), type := 4, pos := "law.go:81", after := #[{ on := 31, ground := Go.Ground.data }, { on := 25, ground := Go.Ground.chain }], guard := none }) ?_ rfl (by kernel_rfl) (by kernel_rfl) (by kernel_rfl) (fun _ _ _ h => h) (by rfl) (by assumption) ?_ ?_
              rotate_left
              · (intro w0 hS0; go_simp <;> (try with_reducible rfl))
              try simp only [Act.put, List.setIfInBounds_toArray, List.set_cons_zero, List.set_cons_succ]
              refine wpAnyH_read (i := 33) (oi := { dst := some 134, op := Go.Op.move (Go.Operand.tmp 11), type := 31, pos := "law.go:81", after := #[{ on := 32, ground := Go.Ground.guard }], guard := some (32, false) }) ?_ rfl (by kernel_rfl) (by kernel_rfl) (by kernel_rfl) (fun _ _ _ h => h) (by rfl) (by assumption) ?_ ?_
              rotate_left
              · (intro w0 hS0; go_simp <;> (try with_reducible rfl))
              try simp only [Act.put, List.setIfInBounds_toArray, List.set_cons_zero, List.set_cons_succ]
              refine wpAnyH_read (i := 34) (oi := { dst := some 135, op := Go.Op.move (Go.Operand.tmp 8), type := 30, pos := "law.go:81", after := #[{ on := 32, ground := Go.Ground.guard }], guard := some (32, false) }) ?_ rfl (by kernel_rfl) (by kernel_rfl) (by kernel_rfl) (fun _ _ _ h => h) (by rfl) (by assumption) ?_ ?_
              rotate_left
              · (intro w0 hS0; go_simp <;> (try with_reducible rfl))
              try simp only [Act.put, List.setIfInBounds_toArray, List.set_cons_zero, List.set_cons_succ]
              refine wpAnyH_one (i := 35) (o := { dst := some 136, op := Go.Op.call { callee := Go.Callee.value (Go.Operand.func 19), args := #[Go.Operand.tmp 135], argTypes := #[30] }, type := 31, pos := "law.go:81", after := #[{ on := 34, ground := Go.Ground.data }, { on := 32, ground := Go.Ground.chain }, { on := 32, ground := Go.Ground.guard }], guard := some (32, false) }) (by kernel_rfl) rfl (by rfl) (fun K hK => ?_)
              go_simp
              refine (T6.out.2.2.2.2.2.2.2.1 _ B7.out).mono ?_
              rintro e w8 ⟨B8, c8, rfl, r8, b8⟩
              have R8 := Lib.hid (And.intro r8 b8)
              have d38 := (T6.out.2.2.1 _ b8).1
              have d48 := (T6.out.2.2.1 _ b8).2
              clear r8 b8
              go_wp2_with fail
              refine hK.out _ _ ?_ (fun hHeld => ?_)
              · exact ⟨d38, d48⟩
              clear hK K
              try simp only [Act.put, List.setIfInBounds_toArray, List.set_cons_zero, List.set_cons_succ]
              clear d38 d48
              refine wpAnyH_one (i := 36) (o := { dst := some 137, op := Go.Op.call { callee := Go.Callee.value (Go.Operand.func 18), args := #[Go.Operand.tmp 134, Go.Operand.tmp 136], argTypes := #[31, 31] }, type := 4, pos := "law.go:81", after := #[{ on := 33, ground := Go.Ground.data }, { on := 35, ground := Go.Ground.data }, { on := 35, ground := Go.Ground.chain }, { on := 32, ground := Go.Ground.guard }], guard := some (32, false) }) (by kernel_rfl) rfl (by rfl) (fun K hK => ?_)
              go_simp
              refine (T6.out.2.2.2.2.2.2.2.2 _ _ _ _ _ R8.out.1 R8.out.2 (Below.refl _ _)).mono ?_
              rintro e w9 ⟨rfl, b9⟩
              have B9 := Lib.hid b9
              clear b9
              go_wp2_with fail
              refine hK.out _ _ ?_ (fun hHeld => ?_)
              · exact T6.out.2.2.1 _ B9.out
              clear hK K
              try simp only [Act.put, List.setIfInBounds_toArray, List.set_cons_zero, List.set_cons_succ]
              refine wpAnyH_read (i := 37) (oi := { dst := some 138, op := Go.Op.unOp Go.UnOp.not 4 (Go.Operand.tmp 137), type := 4, pos := "law.go:81", after := #[{ on := 36, ground := Go.Ground.data }, { on := 32, ground := Go.Ground.guard }], guard := some (32, false) }) ?_ rfl (by kernel_rfl) (by kernel_rfl) (by kernel_rfl) (fun _ _ _ h => h) (by rfl) (by assumption) ?_ ?_
              rotate_left
              · (intro w0 hS0; go_simp <;> (try with_reducible rfl))
              try simp only [Act.put, List.setIfInBounds_toArray, List.set_cons_zero, List.set_cons_succ]
              refine wpAnyH_read (i := 38) (oi := { dst := some 139, op := Go.Op.pick (Go.Operand.tmp 133) (Go.Operand.const (Go.Value.bool true)) (Go.Operand.tmp 138), type := 4, pos := "law.go:81", after := #[{ on := 32, ground := Go.Ground.data }, { on := 37, ground := Go.Ground.data }], guard := none }) ?_ rfl (by kernel_rfl) (by kernel_rfl) (by kernel_rfl) (fun _ _ _ h => h) (by rfl) (by assumption) ?_ ?_
              rotate_left
              · (intro w0 hS0; go_simp <;> (try with_reducible rfl))
              try simp only [Act.put, List.setIfInBounds_toArray, List.set_cons_zero, List.set_cons_succ]
              refine wpAnyH_done (by kernel_rfl) ?_ _
              all_goals
                go_wp2_with fail
                go_roundw
                case rel => exact ⟨i + 1, by go_num, by omega, plays_below T6.out.1 B9.out⟩
                case measure => simp [RowKit.intOf]; omega
          · have hk1 : (κ == 1) = false := by simpa using hκ
            obtain ⟨b, hpb⟩ : ∃ b, pushB s S.data.toList = b := ⟨_, rfl⟩
            obtain ⟨s2, hs2⟩ : ∃ s2, pushS s S.data.toList = s2 := ⟨_, rfl⟩
            have hbp := both_push hD S
            have hpD : pushD most all k s.over S = b := by rw [← hm, hbp.1, hpb]
            have hov : (s.over || fitD s.over S && !roomD most all k S) = s2.over := by rw [← hm, hbp.2, hs2]
            have hdp := docQ_push hD S.data.toList
            rw [hpb, hs2] at hdp
            obtain ⟨L2, hL2⟩ : ∃ L2, (if b then L ++ [S.data.toList] else L) = L2 := ⟨_, rfl⟩
            obtain ⟨all2, hall2⟩ : ∃ a2, (if b then all ++ S ++ (⟨#[13, 10]⟩ : ByteArray) else all) = a2 := ⟨_, rfl⟩
            have hD2 : DocQ s2 L2 all2.data.toList k := by
              rw [← hL2, ← hall2]
              cases b with
              | true => simpa using hdp
              | false => simpa using hdp
            have hm2 : s2.most = most := by rw [← hs2, push_most, hm]
            have hw2 : (s2.ws.length : Int) ≤ most := by rw [← hs2, ← hm]; exact push_len s _ (by omega)
            have hal2 : all2.size ≤ 602 * (i + 1) := by
              have h2 : (⟨#[13, 10]⟩ : ByteArray).size = 2 := rfl
              rw [← hall2]
              split
              · rw [ByteArray.size_append, ByteArray.size_append]; omega
              · omega
            have hLl2 : L2.length ≤ i + 1 := by
              rw [← hL2]
              split
              · rw [List.length_append, List.length_singleton]; omega
              · omega
            have hC1 : ∀ W, RowKit.Below wr.heap.size wr W → Calls Try.prog 11 #[.pointer (some ⟨q, 0, none⟩), .string S] W fun e w' => e = .returned (.bool b) ∧ PairQ w.heap.size w' q x s2 most L all k s.over ∧ RowKit.Below w.heap.size w w' ∧ w'.cell? ⟨g, o + i * 3 + 1, none⟩ = some (.string S) := fun W hW => by
              refine (pair_push (pair_below hP hW) (by have := hW.size; omega) (by omega) (by omega) (by omega) S (by omega) hpb hs2).mono ?_
              rintro e w' ⟨g0, g2, g3⟩
              have hbb := (hb.trans (hW.mono hzb)).trans g3
              exact ⟨g0, g2, hbb, (hat1 _ hbb).1⟩
            have hC2 : ∀ W0 W, PairQ w.heap.size W0 q x s2 most L all k s.over → RowKit.Below w.heap.size w W0 → RowKit.Below W0.heap.size W0 W → Calls Try.prog 12 #[.pointer (some ⟨x, 0, none⟩), .string S] W fun e w' => e = .returned (.bool b) ∧ Hid (PlaysG w q x (i + 1) most w') := fun W0 W h3 h4 hW => by
              have hz0 := h4.size
              refine (pair_pushD (pair_below h3 hW) (by have := hW.size; omega) hkl (by omega) (by omega) (by omega) (by omega) S (by omega) hpD hL2 hall2 hov).mono ?_
              rintro e w' ⟨g0, g1, g2⟩
              exact ⟨g0, plays_next g1 rfl ((h4.trans (hW.mono hz0)).trans g2) hD2 hm2 hw2 hal2 hLl2⟩
            have HC1 := Lib.hid hC1
            have HC2 := Lib.hid hC2
            clear hb hP hD hm hwl hal hLl hS6 hwsl hkl hsk hpb hs2 hbp hpD hov hdp hL2 hall2 hD2 hm2 hw2 hal2 hLl2 hC1 hC2 hat1 hzb
            go_wp2_with fail
            go_region_with_o (first
              | (go_at_call 11; refine (HC1.out _ (by first | exact Below.refl _ _ | exact drewB' _)).mono ?_; rintro e w4 ⟨rfl, t4, b4, a4⟩; have T4 := Lib.hid (And.intro t4 b4); clear t4 b4)
              | (go_at_call 12; refine (HC2.out _ _ T4.out.1 T4.out.2 (by first | exact Below.refl _ _ | exact drewB' _)).mono ?_; rintro e w5 ⟨rfl, t5⟩))
            all_goals
              clear HC1 HC2
              try clear cv4 cv5
              try clear a4
              try clear a0 a1 a2
              go_wp2_with fail
              obtain ⟨xs, D, sent, over, hDb, hlines⟩ := tail_lines t5.out (by omega) hm1
              refine hlines.mono ?_
              rintro e w6 ⟨A6, c6, rfl, t6⟩
              have T6 := Lib.hid t6
              have d3 := (t6.2.2.1 w6 (Below.refl _ _)).1
              have d4 := (t6.2.2.1 w6 (Below.refl _ _)).2
              clear t6 hlines t5
              go_wp2_with fail
              refine wp_region_held_drew (S := fun V => V.cell? ⟨x, 3, none⟩ = some (.int .i64 sent) ∧ V.cell? ⟨x, 4, none⟩ = some (.bool over)) (by kernel_rfl) (by exact ⟨d3, d4⟩) (fun hHeld => ?_)
              clear d3 d4
              refine wpAnyH_read (i := 0) (oi := { dst := some 101, op := Go.Op.move (Go.Operand.tmp 10), type := 4, pos := "law.go:81", after := #[], guard := none }) ?_ rfl (by kernel_rfl) (by kernel_rfl) (by kernel_rfl) (fun _ _ _ h => h) (by rfl) (by assumption) ?_ ?_
              rotate_left
              · (intro w0 hS0; go_simp <;> (try with_reducible rfl))
              try simp only [Act.put, List.setIfInBounds_toArray, List.set_cons_zero, List.set_cons_succ]
              refine wpAnyH_read (i := 1) (oi := { dst := some 102, op := Go.Op.unOp Go.UnOp.not 4 (Go.Operand.tmp 101), type := 4, pos := "law.go:81", after := #[{ on := 0, ground := Go.Ground.data }], guard := none }) ?_ rfl (by kernel_rfl) (by kernel_rfl) (by kernel_rfl) (fun _ _ _ h => h) (by rfl) (by assumption) ?_ ?_
              rotate_left
              · (intro w0 hS0; go_simp <;> (try with_reducible rfl))
              try simp only [Act.put, List.setIfInBounds_toArray, List.set_cons_zero, List.set_cons_succ]
              refine wpAnyH_read (i := 2) (oi := { dst := some 103, op := Go.Op.move (Go.Operand.tmp 102), type := 4, pos := "law.go:81", after := #[{ on := 1, ground := Go.Ground.data }], guard := none }) ?_ rfl (by kernel_rfl) (by kernel_rfl) (by kernel_rfl) (fun _ _ _ h => h) (by rfl) (by assumption) ?_ ?_
              rotate_left
              · (intro w0 hS0; go_simp <;> (try with_reducible rfl))
              try simp only [Act.put, List.setIfInBounds_toArray, List.set_cons_zero, List.set_cons_succ]
              refine wpAnyH_read (i := 3) (oi := { dst := some 104, op := Go.Op.move (Go.Operand.tmp 12), type := 4, pos := "law.go:81", after := #[{ on := 2, ground := Go.Ground.guard }], guard := some (2, false) }) ?_ rfl (by kernel_rfl) (by kernel_rfl) (by kernel_rfl) (fun _ _ _ h => h) (by rfl) (by assumption) ?_ ?_
              rotate_left
              · (intro w0 hS0; go_simp <;> (try with_reducible rfl))
              try simp only [Act.put, List.setIfInBounds_toArray, List.set_cons_zero, List.set_cons_succ]
              refine wpAnyH_read (i := 4) (oi := { dst := some 105, op := Go.Op.unOp Go.UnOp.not 4 (Go.Operand.tmp 104), type := 4, pos := "law.go:81", after := #[{ on := 3, ground := Go.Ground.data }, { on := 2, ground := Go.Ground.guard }], guard := some (2, false) }) ?_ rfl (by kernel_rfl) (by kernel_rfl) (by kernel_rfl) (fun _ _ _ h => h) (by rfl) (by assumption) ?_ ?_
              rotate_left
              · (intro w0 hS0; go_simp <;> (try with_reducible rfl))
              try simp only [Act.put, List.setIfInBounds_toArray, List.set_cons_zero, List.set_cons_succ]
              refine wpAnyH_read (i := 5) (oi := { dst := some 106, op := Go.Op.pick (Go.Operand.tmp 103) (Go.Operand.const (Go.Value.bool true)) (Go.Operand.tmp 105), type := 4, pos := "law.go:81", after := #[{ on := 2, ground := Go.Ground.data }, { on := 4, ground := Go.Ground.data }], guard := none }) ?_ rfl (by kernel_rfl) (by kernel_rfl) (by kernel_rfl) (fun _ _ _ h => h) (by rfl) (by assumption) ?_ ?_
              rotate_left
              · (intro w0 hS0; go_simp <;> (try with_reducible rfl))
              try simp only [Act.put, List.setIfInBounds_toArray, List.set_cons_zero, List.set_cons_succ]
              refine wpAnyH_read (i := 6) (oi := { dst := some 107, op := Go.Op.move (Go.Operand.tmp 106), type := 4, pos := "law.go:81", after := #[{ on := 5, ground := Go.Ground.data }, { on := 2, ground := Go.Ground.chain }], guard := none }) ?_ rfl (by kernel_rfl) (by kernel_rfl) (by kernel_rfl) (fun _ _ _ h => h) (by rfl) (by assumption) ?_ ?_
              rotate_left
              · (intro w0 hS0; go_simp <;> (try with_reducible rfl))
              try simp only [Act.put, List.setIfInBounds_toArray, List.set_cons_zero, List.set_cons_succ]
              refine wpAnyH_read (i := 7) (oi := { dst := some 108, op := Go.Op.move (Go.Operand.tmp 6), type := 26, pos := "law.go:81", after := #[{ on := 6, ground := Go.Ground.guard }], guard := some (6, false) }) ?_ rfl (by kernel_rfl) (by kernel_rfl) (by kernel_rfl) (fun _ _ _ h => h) (by rfl) (by assumption) ?_ ?_
              rotate_left
              · (intro w0 hS0; go_simp <;> (try with_reducible rfl))
              try simp only [Act.put, List.setIfInBounds_toArray, List.set_cons_zero, List.set_cons_succ]
              refine wpAnyH_read (i := 9) (oi := { dst := some 110, op := Go.Op.move (Go.Operand.tmp 8), type := 30, pos := "law.go:81", after := #[{ on := 6, ground := Go.Ground.guard }], guard := some (6, false) }) ?_ rfl (by kernel_rfl) (by kernel_rfl) (by kernel_rfl) (fun _ _ _ h => h) (by rfl) (by assumption) ?_ ?_
              rotate_left
              · (intro w0 hS0; go_simp <;> (try with_reducible rfl))
              try simp only [Act.put, List.setIfInBounds_toArray, List.set_cons_zero, List.set_cons_succ]
              refine wpAnyH_one (i := 8) (o := { dst := some 109, op := Go.Op.call { callee := Go.Callee.value (Go.Operand.func 14), args := #[Go.Operand.tmp 108], argTypes := #[26] }, type := 3, pos := "law.go:81", after := #[{ on := 7, ground := Go.Ground.data }, { on := 6, ground := Go.Ground.chain }, { on := 6, ground := Go.Ground.guard }], guard := some (6, false) }) (by kernel_rfl) rfl (by rfl) (fun K hK => ?_)
              go_simp
              refine (T6.out.2.2.2.1 _ (by first | exact Below.refl _ _ | exact drewB' _ | exact B7.out)).mono ?_
              rintro e w9 ⟨rfl, rfl⟩
              go_wp2_with fail
              refine hK.out _ _ ?_ (fun hHeld => ?_)
              · (first | assumption | trivial)
              clear hK K
              try simp only [Act.put, List.setIfInBounds_toArray, List.set_cons_zero, List.set_cons_succ]
              refine wpAnyH_one (i := 10) (o := { dst := some 111, op := Go.Op.call { callee := Go.Callee.value (Go.Operand.func 15), args := #[Go.Operand.tmp 110], argTypes := #[30] }, type := 9, pos := "law.go:81", after := #[{ on := 9, ground := Go.Ground.data }, { on := 8, ground := Go.Ground.chain }, { on := 6, ground := Go.Ground.guard }], guard := some (6, false) }) (by kernel_rfl) rfl (by rfl) (fun K hK => ?_)
              go_simp
              refine (T6.out.2.2.2.2.1 _ (by first | exact Below.refl _ _ | exact drewB' _ | exact B7.out)).mono ?_
              rintro e w7 ⟨rfl, b7⟩
              have d37 := (T6.out.2.2.1 _ b7).1
              have d47 := (T6.out.2.2.1 _ b7).2
              have B7 := Lib.hid b7
              clear b7
              go_wp2_with fail
              refine hK.out _ _ ?_ (fun hHeld => ?_)
              · exact ⟨d37, d47⟩
              clear hK K
              try simp only [Act.put, List.setIfInBounds_toArray, List.set_cons_zero, List.set_cons_succ]
              clear d37 d47
              refine wpAnyH_read (i := 11) (oi := { dst := some 112, op := Go.Op.call { callee := Go.Callee.builtin Go.Builtin.len, args := #[Go.Operand.tmp 111], argTypes := #[9] }, type := 3, pos := "law.go:81", after := #[{ on := 10, ground := Go.Ground.data }, { on := 6, ground := Go.Ground.guard }], guard := some (6, false) }) ?_ rfl (by kernel_rfl) (by kernel_rfl) (by kernel_rfl) (fun _ _ _ h => h) (by rfl) (by assumption) ?_ ?_
              rotate_left
              · (intro w0 hS0; go_simp <;> (try with_reducible rfl))
              try simp only [Act.put, List.setIfInBounds_toArray, List.set_cons_zero, List.set_cons_succ]
              refine wpAnyH_read (i := 12) (oi := { dst := some 113, op := Go.Op.binOp Go.BinOp.neq 3 (Go.Operand.tmp 109) (Go.Operand.tmp 112) 3, type := 4, pos := "law.go:81", after := #[{ on := 8, ground := Go.Ground.data }, { on := 11, ground := Go.Ground.data }, { on := 6, ground := Go.Ground.guard }], guard := some (6, false) }) ?_ rfl (by kernel_rfl) (by kernel_rfl) (by kernel_rfl) (fun _ _ _ h => h) (by rfl) (by assumption) ?_ ?_
              rotate_left
              · (intro w0 hS0; go_simp <;> (try with_reducible rfl))
              try simp only [Act.put, List.setIfInBounds_toArray, List.set_cons_zero, List.set_cons_succ]
              refine wpAnyH_read (i := 13) (oi := { dst := some 114, op := Go.Op.pick (Go.Operand.tmp 107) (Go.Operand.const (Go.Value.bool true)) (Go.Operand.tmp 113), type := 4, pos := "law.go:81", after := #[{ on := 6, ground := Go.Ground.data }, { on := 12, ground := Go.Ground.data }], guard := none }) ?_ rfl (by kernel_rfl) (by kernel_rfl) (by kernel_rfl) (fun _ _ _ h => h) (by rfl) (by assumption) ?_ ?_
              rotate_left
              · (intro w0 hS0; go_simp <;> (try with_reducible rfl))
              try simp only [Act.put, List.setIfInBounds_toArray, List.set_cons_zero, List.set_cons_succ]
              refine wpAnyH_read (i := 14) (oi := { dst := some 115, op := Go.Op.move (Go.Operand.tmp 114), type := 4, pos := "law.go:81", after := #[{ on := 13, ground := Go.Ground.data }, { on := 10, ground := Go.Ground.chain }], guard := none }) ?_ rfl (by kernel_rfl) (by kernel_rfl) (by kernel_rfl) (fun _ _ _ h => h) (by rfl) (by assumption) ?_ ?_
              rotate_left
              · (intro w0 hS0; go_simp <;> (try with_reducible rfl))
              try simp only [Act.put, List.setIfInBounds_toArray, List.set_cons_zero, List.set_cons_succ]
              refine wpAnyH_read (i := 15) (oi := { dst := some 116, op := Go.Op.move (Go.Operand.tmp 6), type := 26, pos := "law.go:81", after := #[{ on := 14, ground := Go.Ground.guard }], guard := some (14, false) }) ?_ rfl (by kernel_rfl) (by kernel_rfl) (by kernel_rfl) (fun _ _ _ h => h) (by rfl) (by assumption) ?_ ?_
              rotate_left
              · (intro w0 hS0; go_simp <;> (try with_reducible rfl))
              try simp only [Act.put, List.setIfInBounds_toArray, List.set_cons_zero, List.set_cons_succ]
              refine wpAnyH_read (i := 17) (oi := { dst := some 118, op := Go.Op.move (Go.Operand.tmp 8), type := 30, pos := "law.go:81", after := #[{ on := 14, ground := Go.Ground.guard }], guard := some (14, false) }) ?_ rfl (by kernel_rfl) (by kernel_rfl) (by kernel_rfl) (fun _ _ _ h => h) (by rfl) (by assumption) ?_ ?_
              rotate_left
              · (intro w0 hS0; go_simp <;> (try with_reducible rfl))
              try simp only [Act.put, List.setIfInBounds_toArray, List.set_cons_zero, List.set_cons_succ]
              refine wpAnyH_read (i := 18) (oi := { dst := some 119, op := Go.Op.nilCheck (Go.Operand.tmp 118), type := 0, pos := "law.go:81", after := #[{ on := 17, ground := Go.Ground.data }, { on := 14, ground := Go.Ground.guard }], guard := some (14, false) }) ?_ rfl (by kernel_rfl) (by kernel_rfl) (by kernel_rfl) (fun _ _ _ h => h) (by rfl) (by assumption) ?_ ?_
              rotate_left
              · (intro w0 hS0; go_simp <;> (try with_reducible rfl))
              try simp only [Act.put, List.setIfInBounds_toArray, List.set_cons_zero, List.set_cons_succ]
              refine wpAnyH_read (i := 19) (oi := { dst := some 120, op := Go.Op.fieldAddr 33 (Go.Operand.tmp 119) 3, type := 0, pos := "law.go:81", after := #[{ on := 18, ground := Go.Ground.data }, { on := 14, ground := Go.Ground.guard }], guard := some (14, false) }) ?_ rfl (by kernel_rfl) (by kernel_rfl) (by kernel_rfl) (fun _ _ _ h => h) (by rfl) (by assumption) ?_ ?_
              rotate_left
              · (intro w0 hS0; go_simp <;> (try with_reducible rfl))
              try simp only [Act.put, List.setIfInBounds_toArray, List.set_cons_zero, List.set_cons_succ]
              refine wpAnyH_read (i := 20) (oi := { dst := some 121, op := Go.Op.load 3 (Go.Operand.tmp 120), type := 3, pos := "law.go:81", after := #[{ on := 19, ground := Go.Ground.data }, { on := 14, ground := Go.Ground.guard }], guard := some (14, false) }) ?_ rfl (by kernel_rfl) (by kernel_rfl) (by kernel_rfl) (fun _ _ _ h => h) (by rfl) (by assumption) ?_ ?_
              rotate_left
              · (intro w0 hS0; (try dsimp only at hS0); obtain ⟨s1, s2⟩ := hS0; go_simp <;> (try with_reducible rfl))
              try simp only [Act.put, List.setIfInBounds_toArray, List.set_cons_zero, List.set_cons_succ]
              refine wpAnyH_one (i := 16) (o := { dst := some 117, op := Go.Op.call { callee := Go.Callee.value (Go.Operand.func 16), args := #[Go.Operand.tmp 116], argTypes := #[26] }, type := 3, pos := "law.go:81", after := #[{ on := 15, ground := Go.Ground.data }, { on := 14, ground := Go.Ground.chain }, { on := 14, ground := Go.Ground.guard }], guard := some (14, false) }) (by kernel_rfl) rfl (by rfl) (fun K hK => ?_)
              go_simp
              refine (T6.out.2.2.2.2.2.1 _ B7.out).mono ?_
              rintro e w9 ⟨rfl, rfl⟩
              go_wp2_with fail
              refine hK.out _ _ ?_ (fun hHeld => ?_)
              · (first | assumption | trivial)
              clear hK K
              try simp only [Act.put, List.setIfInBounds_toArray, List.set_cons_zero, List.set_cons_succ]
              refine wpAnyH_read (i := 21) (oi := { dst := some 122, op := Go.Op.binOp Go.BinOp.neq 3 (Go.Operand.tmp 117) (Go.Operand.tmp 121) 3, type := 4, pos := "law.go:81", after := #[{ on := 16, ground := Go.Ground.data }, { on := 20, ground := Go.Ground.data }, { on := 14, ground := Go.Ground.guard }], guard := some (14, false) }) ?_ rfl (by kernel_rfl) (by kernel_rfl) (by kernel_rfl) (fun _ _ _ h => h) (by rfl) (by assumption) ?_ ?_
              rotate_left
              · (intro w0 hS0; go_simp <;> (try with_reducible rfl))
              try simp only [Act.put, List.setIfInBounds_toArray, List.set_cons_zero, List.set_cons_succ]
              refine wpAnyH_read (i := 22) (oi := { dst := some 123, op := Go.Op.pick (Go.Operand.tmp 115) (Go.Operand.const (Go.Value.bool true)) (Go.Operand.tmp 122), type := 4, pos := "law.go:81", after := #[{ on := 14, ground := Go.Ground.data }, { on := 21, ground := Go.Ground.data }], guard := none }) ?_ rfl (by kernel_rfl) (by kernel_rfl) (by kernel_rfl) (fun _ _ _ h => h) (by rfl) (by assumption) ?_ ?_
              rotate_left
              · (intro w0 hS0; go_simp <;> (try with_reducible rfl))
              try simp only [Act.put, List.setIfInBounds_toArray, List.set_cons_zero, List.set_cons_succ]
              refine wpAnyH_read (i := 23) (oi := { dst := some 124, op := Go.Op.move (Go.Operand.tmp 123), type := 4, pos := "law.go:81", after := #[{ on := 22, ground := Go.Ground.data }, { on := 16, ground := Go.Ground.chain }], guard := none }) ?_ rfl (by kernel_rfl) (by kernel_rfl) (by kernel_rfl) (fun _ _ _ h => h) (by rfl) (by assumption) ?_ ?_
              rotate_left
              · (intro w0 hS0; go_simp <;> (try with_reducible rfl))
              try simp only [Act.put, List.setIfInBounds_toArray, List.set_cons_zero, List.set_cons_succ]
              refine wpAnyH_read (i := 24) (oi := { dst := some 125, op := Go.Op.move (Go.Operand.tmp 6), type := 26, pos := "law.go:81", after := #[{ on := 23, ground := Go.Ground.guard }], guard := some (23, false) }) ?_ rfl (by kernel_rfl) (by kernel_rfl) (by kernel_rfl) (fun _ _ _ h => h) (by rfl) (by assumption) ?_ ?_
              rotate_left
              · (intro w0 hS0; go_simp <;> (try with_reducible rfl))
              try simp only [Act.put, List.setIfInBounds_toArray, List.set_cons_zero, List.set_cons_succ]
              refine wpAnyH_read (i := 26) (oi := { dst := some 127, op := Go.Op.move (Go.Operand.tmp 8), type := 30, pos := "law.go:81", after := #[{ on := 23, ground := Go.Ground.guard }], guard := some (23, false) }) ?_ rfl (by kernel_rfl) (by kernel_rfl) (by kernel_rfl) (fun _ _ _ h => h) (by rfl) (by assumption) ?_ ?_
              rotate_left
              · (intro w0 hS0; go_simp <;> (try with_reducible rfl))
              try simp only [Act.put, List.setIfInBounds_toArray, List.set_cons_zero, List.set_cons_succ]
              refine wpAnyH_read (i := 27) (oi := { dst := some 128, op := Go.Op.nilCheck (Go.Operand.tmp 127), type := 0, pos := "law.go:81", after := #[{ on := 26, ground := Go.Ground.data }, { on := 23, ground := Go.Ground.guard }], guard := some (23, false) }) ?_ rfl (by kernel_rfl) (by kernel_rfl) (by kernel_rfl) (fun _ _ _ h => h) (by rfl) (by assumption) ?_ ?_
              rotate_left
              · (intro w0 hS0; go_simp <;> (try with_reducible rfl))
              try simp only [Act.put, List.setIfInBounds_toArray, List.set_cons_zero, List.set_cons_succ]
              refine wpAnyH_read (i := 28) (oi := { dst := some 129, op := Go.Op.fieldAddr 33 (Go.Operand.tmp 128) 4, type := 0, pos := "law.go:81", after := #[{ on := 27, ground := Go.Ground.data }, { on := 23, ground := Go.Ground.guard }], guard := some (23, false) }) ?_ rfl (by kernel_rfl) (by kernel_rfl) (by kernel_rfl) (fun _ _ _ h => h) (by rfl) (by assumption) ?_ ?_
              rotate_left
              · (intro w0 hS0; go_simp <;> (try with_reducible rfl))
              try simp only [Act.put, List.setIfInBounds_toArray, List.set_cons_zero, List.set_cons_succ]
              refine wpAnyH_read (i := 29) (oi := { dst := some 130, op := Go.Op.load 4 (Go.Operand.tmp 129), type := 4, pos := "law.go:81", after := #[{ on := 28, ground := Go.Ground.data }, { on := 23, ground := Go.Ground.guard }], guard := some (23, false) }) ?_ rfl (by kernel_rfl) (by kernel_rfl) (by kernel_rfl) (fun _ _ _ h => h) (by rfl) (by assumption) ?_ ?_
              rotate_left
              · (intro w0 hS0; (try dsimp only at hS0); obtain ⟨s1, s2⟩ := hS0; go_simp <;> (try with_reducible rfl))
              try simp only [Act.put, List.setIfInBounds_toArray, List.set_cons_zero, List.set_cons_succ]
              refine wpAnyH_one (i := 25) (o := { dst := some 126, op := Go.Op.call { callee := Go.Callee.value (Go.Operand.func 17), args := #[Go.Operand.tmp 125], argTypes := #[26] }, type := 4, pos := "law.go:81", after := #[{ on := 24, ground := Go.Ground.data }, { on := 23, ground := Go.Ground.chain }, { on := 23, ground := Go.Ground.guard }], guard := some (23, false) }) (by kernel_rfl) rfl (by rfl) (fun K hK => ?_)
              go_simp
              refine (T6.out.2.2.2.2.2.2.1 _ B7.out).mono ?_
              rintro e w9 ⟨rfl, rfl⟩
              go_wp2_with fail
              refine hK.out _ _ ?_ (fun hHeld => ?_)
              · (first | assumption | trivial)
              clear hK K
              try simp only [Act.put, List.setIfInBounds_toArray, List.set_cons_zero, List.set_cons_succ]
              refine wpAnyH_read (i := 30) (oi := { dst := some 131, op := Go.Op.binOp Go.BinOp.neq 4 (Go.Operand.tmp 126) (Go.Operand.tmp 130) 4, type := 4, pos := "law.go:81", after := #[{ on := 25, ground := Go.Ground.data }, { on := 29, ground := Go.Ground.data }, { on := 23, ground := Go.Ground.guard }], guard := some (23, false) }) ?_ rfl (by kernel_rfl) (by kernel_rfl) (by kernel_rfl) (fun _ _ _ h => h) (by rfl) (by assumption) ?_ ?_
              rotate_left
              · (intro w0 hS0; go_simp <;> (try with_reducible rfl))
              try simp only [Act.put, List.setIfInBounds_toArray, List.set_cons_zero, List.set_cons_succ]
              refine wpAnyH_read (i := 31) (oi := { dst := some 132, op := Go.Op.pick (Go.Operand.tmp 124) (Go.Operand.const (Go.Value.bool true)) (Go.Operand.tmp 131), type := 4, pos := "law.go:81", after := #[{ on := 23, ground := Go.Ground.data }, { on := 30, ground := Go.Ground.data }], guard := none }) ?_ rfl (by kernel_rfl) (by kernel_rfl) (by kernel_rfl) (fun _ _ _ h => h) (by rfl) (by assumption) ?_ ?_
              rotate_left
              · (intro w0 hS0; go_simp <;> (try with_reducible rfl))
              try simp only [Act.put, List.setIfInBounds_toArray, List.set_cons_zero, List.set_cons_succ]
              refine wpAnyH_read (i := 32) (oi := { dst := some 133, op := Go.Op.move (Go.Operand.tmp 132), type := 4, pos := "law.go:81", after := #[{ on := 31, ground := Go.Ground.data }, { on := 25, ground := Go.Ground.chain }], guard := none }) ?_ rfl (by kernel_rfl) (by kernel_rfl) (by kernel_rfl) (fun _ _ _ h => h) (by rfl) (by assumption) ?_ ?_
              rotate_left
              · (intro w0 hS0; go_simp <;> (try with_reducible rfl))
              try simp only [Act.put, List.setIfInBounds_toArray, List.set_cons_zero, List.set_cons_succ]
              refine wpAnyH_read (i := 33) (oi := { dst := some 134, op := Go.Op.move (Go.Operand.tmp 11), type := 31, pos := "law.go:81", after := #[{ on := 32, ground := Go.Ground.guard }], guard := some (32, false) }) ?_ rfl (by kernel_rfl) (by kernel_rfl) (by kernel_rfl) (fun _ _ _ h => h) (by rfl) (by assumption) ?_ ?_
              rotate_left
              · (intro w0 hS0; go_simp <;> (try with_reducible rfl))
              try simp only [Act.put, List.setIfInBounds_toArray, List.set_cons_zero, List.set_cons_succ]
              refine wpAnyH_read (i := 34) (oi := { dst := some 135, op := Go.Op.move (Go.Operand.tmp 8), type := 30, pos := "law.go:81", after := #[{ on := 32, ground := Go.Ground.guard }], guard := some (32, false) }) ?_ rfl (by kernel_rfl) (by kernel_rfl) (by kernel_rfl) (fun _ _ _ h => h) (by rfl) (by assumption) ?_ ?_
              rotate_left
              · (intro w0 hS0; go_simp <;> (try with_reducible rfl))
              try simp only [Act.put, List.setIfInBounds_toArray, List.set_cons_zero, List.set_cons_succ]
              refine wpAnyH_one (i := 35) (o := { dst := some 136, op := Go.Op.call { callee := Go.Callee.value (Go.Operand.func 19), args := #[Go.Operand.tmp 135], argTypes := #[30] }, type := 31, pos := "law.go:81", after := #[{ on := 34, ground := Go.Ground.data }, { on := 32, ground := Go.Ground.chain }, { on := 32, ground := Go.Ground.guard }], guard := some (32, false) }) (by kernel_rfl) rfl (by rfl) (fun K hK => ?_)
              go_simp
              refine (T6.out.2.2.2.2.2.2.2.1 _ B7.out).mono ?_
              rintro e w8 ⟨B8, c8, rfl, r8, b8⟩
              have R8 := Lib.hid (And.intro r8 b8)
              have d38 := (T6.out.2.2.1 _ b8).1
              have d48 := (T6.out.2.2.1 _ b8).2
              clear r8 b8
              go_wp2_with fail
              refine hK.out _ _ ?_ (fun hHeld => ?_)
              · exact ⟨d38, d48⟩
              clear hK K
              try simp only [Act.put, List.setIfInBounds_toArray, List.set_cons_zero, List.set_cons_succ]
              clear d38 d48
              refine wpAnyH_one (i := 36) (o := { dst := some 137, op := Go.Op.call { callee := Go.Callee.value (Go.Operand.func 18), args := #[Go.Operand.tmp 134, Go.Operand.tmp 136], argTypes := #[31, 31] }, type := 4, pos := "law.go:81", after := #[{ on := 33, ground := Go.Ground.data }, { on := 35, ground := Go.Ground.data }, { on := 35, ground := Go.Ground.chain }, { on := 32, ground := Go.Ground.guard }], guard := some (32, false) }) (by kernel_rfl) rfl (by rfl) (fun K hK => ?_)
              go_simp
              refine (T6.out.2.2.2.2.2.2.2.2 _ _ _ _ _ R8.out.1 R8.out.2 (Below.refl _ _)).mono ?_
              rintro e w9 ⟨rfl, b9⟩
              have B9 := Lib.hid b9
              clear b9
              go_wp2_with fail
              refine hK.out _ _ ?_ (fun hHeld => ?_)
              · exact T6.out.2.2.1 _ B9.out
              clear hK K
              try simp only [Act.put, List.setIfInBounds_toArray, List.set_cons_zero, List.set_cons_succ]
              refine wpAnyH_read (i := 37) (oi := { dst := some 138, op := Go.Op.unOp Go.UnOp.not 4 (Go.Operand.tmp 137), type := 4, pos := "law.go:81", after := #[{ on := 36, ground := Go.Ground.data }, { on := 32, ground := Go.Ground.guard }], guard := some (32, false) }) ?_ rfl (by kernel_rfl) (by kernel_rfl) (by kernel_rfl) (fun _ _ _ h => h) (by rfl) (by assumption) ?_ ?_
              rotate_left
              · (intro w0 hS0; go_simp <;> (try with_reducible rfl))
              try simp only [Act.put, List.setIfInBounds_toArray, List.set_cons_zero, List.set_cons_succ]
              refine wpAnyH_read (i := 38) (oi := { dst := some 139, op := Go.Op.pick (Go.Operand.tmp 133) (Go.Operand.const (Go.Value.bool true)) (Go.Operand.tmp 138), type := 4, pos := "law.go:81", after := #[{ on := 32, ground := Go.Ground.data }, { on := 37, ground := Go.Ground.data }], guard := none }) ?_ rfl (by kernel_rfl) (by kernel_rfl) (by kernel_rfl) (fun _ _ _ h => h) (by rfl) (by assumption) ?_ ?_
              rotate_left
              · (intro w0 hS0; go_simp <;> (try with_reducible rfl))
              try simp only [Act.put, List.setIfInBounds_toArray, List.set_cons_zero, List.set_cons_succ]
              refine wpAnyH_done (by kernel_rfl) ?_ _
              all_goals
                go_wp2_with fail
                go_roundw
                case rel => exact ⟨i + 1, by go_num, by omega, plays_below T6.out.1 B9.out⟩
                case measure => simp [RowKit.intOf]; omega
        · obtain rfl : i = l.length := by omega
          have p1 : ¬ ((l.length : Int) < (l.length : Int)) := by omega
          go_wp2_with fail
          go_ret
          exact ⟨rfl, HR.out.1⟩
end Go.Proofs.Ytadbpgkhenbpfaa
end
