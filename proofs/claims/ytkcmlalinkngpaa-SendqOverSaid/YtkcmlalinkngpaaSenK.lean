/- Layer 8: SendqOver. -/
import Derived.Test.YtkcmlalinkngpaaSenJ
namespace Go.Proofs.Ytkcmlalinkngpaa
set_option linter.unusedVariables false
set_option linter.unusedSimpArgs false
open Go Go.RowKit Go.Lib Go.Sort Go.Shelf

theorem q_push_over {base : Nat} {w : World} {q : Nat} {s : QS} (h : QIs base w q s) (ho : s.over = true) (l : ByteArray) : Calls Try.prog 11 #[.pointer (some ⟨q, 0, none⟩), .string l] w fun e w' => e = .returned (.bool false) ∧ w' = w := by
  obtain ⟨h0, ob, v, h1, _⟩ := h
  rw [ho] at h1
  have c4 := blk_cell h1 4
  clear h1
  go_enter Try.func11, Try.ntmps11
  go_wp2
  go_ret
  exact ⟨rfl, rfl⟩
/-- so many lines of so many letters -/
def lineX (m : Nat) : List UInt8 := List.replicate m 120
def rowX (m j : Nat) : List UInt8 := (List.replicate j (lineX m ++ [13, 10])).flatten
theorem rowX_len (m j : Nat) : (rowX m j).length = j * (m + 2) := by
  unfold rowX lineX
  induction j with
  | zero => simp
  | succ j ih => rw [List.replicate_succ, List.flatten_cons, List.length_append, ih]; simp [Nat.succ_mul]; omega
theorem rowX_succ (m j : Nat) : rowX m (j + 1) = rowX m j ++ lineX m ++ [13, 10] := by
  unfold rowX
  rw [List.replicate_succ', List.flatten_append]; simp
theorem lineX_text (m : Nat) : textL (lineX m) = true := by
  rw [textL_iff]
  intro x hx
  rw [List.eq_of_mem_replicate hx]
  rfl
theorem lineX_fit (m j : Nat) (hm : m ≤ 510) : fitQ ⟨512, rowX m j, 0, false, false⟩ (lineX m) = true := by
  simp only [fitQ, Bool.not_false, Bool.true_and, Bool.and_eq_true, decide_eq_true_eq]
  exact ⟨by simp [lineX]; exact hm, lineX_text m⟩
theorem lineX_push (m j : Nat) (hm : m ≤ 510) : pushB ⟨512, rowX m j, 0, false, false⟩ (lineX m) = decide ((j + 1) * (m + 2) ≤ 512) := by
  unfold pushB
  rw [lineX_fit m j hm, Bool.true_and, Bool.eq_iff_iff]
  simp only [roomQ, decide_eq_true_eq]
  rw [rowX_len, Nat.succ_mul]
  generalize j * (m + 2) = x
  simp [lineX]; omega
theorem lineX_state (m j : Nat) (hm : m ≤ 510) : pushS ⟨512, rowX m j, 0, false, false⟩ (lineX m) = if (j + 1) * (m + 2) ≤ 512 then ⟨512, rowX m (j + 1), 0, false, false⟩ else ⟨512, rowX m j, 0, false, true⟩ := by
  have h1 := lineX_push m j hm
  unfold pushB at h1
  rw [lineX_fit m j hm, Bool.true_and] at h1
  unfold pushS
  rw [lineX_fit m j hm, h1, rowX_succ]
  by_cases h : (j + 1) * (m + 2) ≤ 512
  · rw [if_pos h]; simp [h]
  · rw [if_neg h]; simp [h]
/-- the queue, and the letters apart -/
def OverG (w : World) (q G m j : Nat) (W : World) : Prop :=
  RowKit.Below w.heap.size w W ∧ QX w.heap.size W q ⟨512, rowX m j, 0, false, false⟩ (fun k => k = G) ∧ OwnB w.heap.size W (.slice (some ⟨G, 0, none⟩) m m) (lineX m) ∧ j * (m + 2) ≤ 512
set_option maxRecDepth 100000 in
set_option maxHeartbeats 16000000 in
theorem sendqOver_walk (a : Int) (ha0 : 0 ≤ a) (ha1 : a ≤ 65535) (line : ByteArray) (w : World) (hline : line.size ≤ 9223372036854775807) :
    Calls Try.prog 5 #[.int .u16 a, .string line] w fun e w' => e = .returned (.bool true) ∧ RowKit.Below w.heap.size w w' := by
  obtain ⟨i0, hi, hz0, hz1, hz2⟩ := info_parts Try.infoB
  obtain ⟨m, hm⟩ : ∃ m : Nat, a % 511 = m := ⟨(a % 511).toNat, by omega⟩
  have hm5 : m ≤ 510 := by omega
  go_enter Try.func5, Try.ntmps5
  go_wp2_with fail
  refine (awake8 w).mono ?_
  rintro e w1 ⟨rfl, b1⟩
  have z1 := b1.size
  have B1 := Lib.hid b1
  clear b1
  go_wp2_with fail
  refine (qi_new 512 (by decide) (by decide) w1).mono ?_
  rintro e w2 ⟨⟨q, rfl, q2⟩, b2⟩
  have H2 := Lib.hid (And.intro (qi_base q2 z1) (B1.out.trans (b2.mono z1)))
  clear q2 b2
  go_wp2_with (at_make; refine Hid.out ?_)
  refine Lib.hid ?_
  refine wpList_make_row _ rfl _ _ 34 rfl 5 i0 (.int .u8 0) Try.underlying34 hi hz0 hz1 rfl .i64 .i64 m (show _ = Value.int .i64 (m : Int) from congrArg (Value.int .i64) hm) (show _ = Value.int .i64 (m : Int) from congrArg (Value.int .i64) hm) (by rw [hz2]; omega) (by omega) ?_
  obtain ⟨cur, hcur⟩ : ∃ cur, madeCells #[Value.int IntKind.u8 0] m = cur := ⟨_, rfl⟩
  have hcz : cur.size = m := by rw [← hcur, size_madeCells]
  rw [hcur]
  obtain ⟨W1, hW1⟩ : ∃ W1, w2.alloc (.cells cur 5) = W1 := ⟨_, rfl⟩
  have f1 : Fr (fun k => k = w2.heap.size) w2 W1 := by rw [← hW1]; exact (Fr.refl _ _).alloc _
  have kn : W1.heap[w2.heap.size]? = some (.cells cur 5 (0, 0)) := by rw [← hW1]; exact heap_alloc_new _ _
  rw [hW1]
  have H0 : Hid (∃ cs : Array Value, W1.heap[w2.heap.size]? = some (.cells cs 5 (0, 0)) ∧ cs.size = m ∧ (∀ t, t < 0 → cs[t]? = some (.int .u8 120)) ∧ Fr (fun k => k = w2.heap.size) w2 W1) := ⟨cur, kn, hcz, fun t ht => by omega, f1⟩
  clear hcur hcz hW1 f1 kn
  go_wp2_with fail
  go_loopw [8] (fun i wr => ∃ j : Nat, i = .int .i64 j ∧ j ≤ m ∧ Hid (∃ cs : Array Value, wr.heap[w2.heap.size]? = some (.cells cs 5 (0, 0)) ∧ cs.size = m ∧ (∀ t, t < j → cs[t]? = some (.int .u8 120)) ∧ Fr (fun k => k = w2.heap.size) w2 wr)) (fun i _ => m - (RowKit.intOf i).toNat)
  case atStart => exact ⟨0, rfl, Nat.zero_le _, H0⟩
  case round =>
    obtain ⟨j, rfl, hj, HC⟩ := hrel
    clear H0
    by_cases hjm : j < m
    · obtain ⟨cs, k1, hcs, hall, f1⟩ := HC.out
      have c1 := blk_cell k1 j
      obtain ⟨u0, hu0⟩ : ∃ u, cs[j]? = some u := ⟨_, Array.getElem?_eq_getElem (by omega : j < cs.size)⟩
      rw [hu0] at c1
      have g1 := blk_free k1 j
      have HN : Hid (∃ cs : Array Value, (wr.setCell ⟨w2.heap.size, j, none⟩ (.int .u8 120)).heap[w2.heap.size]? = some (.cells cs 5 (0, 0)) ∧ cs.size = m ∧ (∀ t, t < j + 1 → cs[t]? = some (.int .u8 120)) ∧ Fr (fun k => k = w2.heap.size) w2 (wr.setCell ⟨w2.heap.size, j, none⟩ (.int .u8 120))) := by
        refine ⟨_, blk_set k1 j _, by simpa using hcs, fun t ht => ?_, f1.setCell ⟨w2.heap.size, j, none⟩ rfl _⟩
        rw [Array.getElem?_setIfInBounds]
        by_cases e : j = t
        · rw [if_pos e, if_pos (by omega)]
        · rw [if_neg e]; exact hall t (by omega)
      have p1 : (j : Int) < (m : Int) := by omega
      clear k1 hcs hall f1 hu0
      go_wp2_with fail
      go_roundw
      case rel => exact ⟨j + 1, by go_num, by omega, HN⟩
      case measure => simp [RowKit.intOf]; omega
    · obtain rfl : j = m := by omega
      have p1 : ¬ ((j : Int) < (j : Int)) := by omega
      have HG0 : Hid (OverG w q w2.heap.size j 0 wr) := by
        obtain ⟨cs, k1, hcs, hall, f1⟩ := HC.out
        obtain ⟨⟨h0, ob, h1⟩, hb⟩ := H2.out
        have l1 := q_lt h1
        have l2 := q_blocks h1
        have hbw := hb.size
        refine ⟨hb.trans (f1.below hbw fun k _ e => by omega), ⟨h0, ob, q_fr h1 f1 (by omega) (fun k hk e => by have := (l2 k hk).2; omega), by omega, fun k hk e => by have := (l2 k hk).2; omega⟩, ⟨by simp [lineX], .inr ⟨w2.heap.size, j, cs, by simp [lineX], hbw, k1, by simp [lineX], by unfold maxLen; omega, by omega, ?_⟩⟩, by omega⟩
        apply List.ext_getElem?
        intro t
        rw [Nat.mul_one]
        by_cases ht : t < j
        · rw [List.getElem?_take_of_lt (by simp [lineX]; exact ht), Array.getElem?_toList, hall t ht]
          simp [lineX, ht, encB]
        · rw [List.getElem?_take_eq_none (by simp [lineX]; omega), List.getElem?_eq_none (by simp [lineX]; omega)]
      clear HC
      go_wp2_with fail
      go_loopw [9] (fun i wr => ∃ t : Nat, i = .int .i64 t ∧ t ≤ 256 ∧ Hid (OverG w q w2.heap.size j t wr)) (fun i _ => 600 - (RowKit.intOf i).toNat)
      case atStart => exact ⟨0, rfl, by decide, HG0⟩
      case round =>
        obtain ⟨t, rfl, ht, HG⟩ := hrel
        clear HG0
        obtain ⟨hb, hq, ho, hjt⟩ := HG.out
        have hcv : (convert 34 9 (.slice (some ⟨w2.heap.size, 0, none⟩) j j)).run Try.prog wr = .ok (.string (bs (lineX j))) wr := conv_ownB ho
        have hzt : ∀ k, k = w2.heap.size → k < wr.heap.size := fun k hk => by subst hk; exact (ho.lt _ rfl).2
        obtain ⟨b, hpb⟩ : ∃ b, pushB ⟨512, rowX j t, 0, false, false⟩ (lineX j) = b := ⟨_, rfl⟩
        obtain ⟨s2, hs2⟩ : ∃ s2, pushS ⟨512, rowX j t, 0, false, false⟩ (lineX j) = s2 := ⟨_, rfl⟩
        have hrl := rowX_len j t
        have hlx : (lineX j).length = j := by simp [lineX]
        have HD := Lib.hid (qx_push hq hzt hb.size (show (0 : Int) ≤ 512 by decide) (show (512 : Int) ≤ 65536 by decide) (show (rowX j t).length ≤ 100000 by omega) (bs (lineX j)) (by rw [bs_size]; omega) hpb hs2)
        have h1 := lineX_push j t hm5
        have h2 := lineX_state j t hm5
        rw [hpb] at h1
        rw [hs2] at h2
        have HE := Lib.hid (And.intro hb (And.intro hq (And.intro ho (And.intro hjt (And.intro h1 h2)))))
        have p2 : (t : Int) < 600 := by omega
        clear hb hq ho hjt hzt hpb hs2 hrl hlx h1 h2
        cases b with
        | true =>
          go_wp2_with fail
          refine HD.out.mono ?_
          rintro e w4 ⟨rfl, q4, f4, b4⟩
          obtain ⟨hb, hq, ho, hjt, h1, h2⟩ := HE.out
          have hle : (t + 1) * (j + 2) ≤ 512 := by simpa using h1.symm
          rw [if_pos hle] at h2
          subst h2
          have HO := Lib.hid (qi_over (qx_is q4))
          have hge2 : t + 1 ≤ 256 := by
            have : (t + 1) * 2 ≤ (t + 1) * (j + 2) := Nat.mul_le_mul_left _ (by omega)
            omega
          have HN : Hid (OverG w q w2.heap.size j (t + 1) w4) := ⟨hb.trans b4, q4, ownB_kept ho fun g hg => f4.block g (ho.lt g hg).2 fun e => e (by cases hg; rfl), hle⟩
          clear q4 f4 b4 hb hq ho hjt h1 hle hcv
          go_wp2_with fail
          refine HO.out.mono ?_
          rintro e w5 ⟨rfl, rfl⟩
          go_wp2_with fail
          go_roundw
          case rel => exact ⟨t + 1, by go_num, hge2, HN⟩
          case measure => simp [RowKit.intOf]; omega
        | false =>
          go_wp2_with fail
          refine HD.out.mono ?_
          rintro e w4 ⟨rfl, q4, f4, b4⟩
          obtain ⟨hb, hq, ho, hjt, h1, h2⟩ := HE.out
          have hgt : ¬ (t + 1) * (j + 2) ≤ 512 := by
            have := h1.symm
            simpa using this
          rw [if_neg hgt] at h2
          subst h2
          rw [Nat.succ_mul] at hgt
          obtain ⟨L, hL⟩ : ∃ L, t * (j + 2) = L := ⟨_, rfl⟩
          have hrl := rowX_len j t
          rw [hL] at hrl hgt hjt
          have i4 := qx_is q4
          have hlen := qi_len i4
          dsimp only at hlen
          rw [hrl] at hlen
          have hov := qi_over i4
          obtain ⟨s3, hs3⟩ : ∃ s3, drainS ⟨512, rowX j t, 0, false, true⟩ 512 = s3 := ⟨_, rfl⟩
          have e1 : s3.ws = [] := by rw [← hs3]; exact drop_all _ _ (by show ((rowX j t).length : Int) ≤ 512; omega)
          have e2 : s3.over = true := by rw [← hs3, drain_over]
          have hd := qi_drain i4 (by have := hb.size; have := b4.size; omega) (show (rowX j t).length ≤ 1000000 by omega) (show (0 : Int) ≤ 0 by decide) (show (0 : Int) ≤ 1000000000000 by decide) 512 rfl hs3
          have HV := Lib.hid (And.intro hlen (And.intro hov hd))
          have HB := Lib.hid (And.intro (hb.trans b4) (And.intro e1 e2))
          have p5 : ¬ ((512 : Int) < (L : Int)) := by omega
          have p6 : (512 : Int) - (L : Int) < (j : Int) + 2 := by omega
          have hL5 : L ≤ 512 := hjt
          clear q4 f4 b4 hb hq ho hjt h1 hgt hrl hL i4 hlen hov hs3 e1 e2 hd hcv HD
          go_wp2_with fail
          refine HV.out.2.1.mono ?_
          rintro e w5 ⟨rfl, rfl⟩
          go_wp2_with fail
          refine HV.out.1.mono ?_
          rintro e w5 ⟨rfl, rfl⟩
          go_wp2_with fail
          refine HV.out.1.mono ?_
          rintro e w5 ⟨rfl, rfl⟩
          go_wp2_with fail
          refine HV.out.2.2.mono ?_
          rintro e w6 ⟨⟨v6, rfl, o6⟩, q6, b6⟩
          have H6 := Lib.hid (And.intro q6 (HB.out.1.trans b6))
          clear o6 q6 b6
          go_wp2_with fail
          refine (lines8 (w := w6) (p := none) (xs := []) (fun W _ => q_lines_nil W) (by decide) 0 (by decide) (by decide)).mono ?_
          rintro e w7 ⟨⟨v7, rfl, o7⟩, b7⟩
          obtain ⟨A7, c7, ev7⟩ := row_slice o7
          subst ev7
          have q7 := qi_below H6.out.1 b7
          have hpo := q_push_over q7 HB.out.2.2 line
          have hov := qi_over q7
          have hln := qi_len q7
          rw [HB.out.2.2] at hov
          rw [HB.out.2.1] at hln
          have H7 := Lib.hid (And.intro hpo (And.intro hov (And.intro hln (H6.out.2.trans (b7.mono H6.out.2.size)))))
          clear o7 b7 q7 hpo hov hln
          go_wp2_with fail
          refine H7.out.1.mono ?_
          rintro e w8 ⟨rfl, rfl⟩
          go_wp2_with fail
          refine H7.out.2.1.mono ?_
          rintro e w8 ⟨rfl, rfl⟩
          go_wp2_with fail
          refine H7.out.2.2.1.mono ?_
          rintro e w8 ⟨rfl, rfl⟩
          go_wp2_with fail
          refine (q_push_nil line _).mono ?_
          rintro e w8 ⟨rfl, rfl⟩
          go_wp2_with fail
          refine (q_drain_nil 9 _).mono ?_
          rintro e w8 ⟨rfl, rfl⟩
          go_wp2_with fail
          refine (q_len_nil _).mono ?_
          rintro e w8 ⟨rfl, rfl⟩
          go_wp2_with fail
          refine (q_sent_nil _).mono ?_
          rintro e w8 ⟨rfl, rfl⟩
          go_wp2_with fail
          refine (q_over_nil _).mono ?_
          rintro e w8 ⟨rfl, rfl⟩
          go_wp2_with fail
          go_ret
          exact ⟨by simp, H7.out.2.2.2⟩
end Go.Proofs.Ytkcmlalinkngpaa
