/- Layer 8: awake; the law's lines. -/
import Derived.Test.YtadbpgkhenbpfaaSenE
namespace Go.Proofs.Ytadbpgkhenbpfaa
set_option linter.unusedVariables false
set_option linter.unusedSimpArgs false
open Go Go.RowKit Go.Lib Go.Sort Go.Shelf
attribute [local go_sem] Oper.semAt_some

/-- a queue at q, of whatever blocks above base -/
def QIs (base : Nat) (W : World) (q : Nat) (s : QS) : Prop := base ≤ q ∧ ∃ ob, QAt base W q ob s
theorem qi_push {base : Nat} {w : World} {q : Nat} {s : QS} (h : QIs base w q s) (hbw : base ≤ w.heap.size) (hm : 0 ≤ s.most) (hm2 : s.most ≤ 65536) (hl : s.ws.length ≤ 100000) (l : ByteArray) (hll : l.size ≤ 1000000) {b : Bool} {s' : QS} (hb : pushB s l.data.toList = b) (hs : pushS s l.data.toList = s') :
    Calls Try.prog 11 #[.pointer (some ⟨q, 0, none⟩), .string l] w fun e w' => e = .returned (.bool b) ∧ QIs base w' q s' ∧ RowKit.Below base w w' := by
  obtain ⟨h0, ob, h1⟩ := h
  have hbl := q_blocks h1
  refine (q_push h1 hbw hm hm2 hl l hll).mono ?_
  rintro e w' ⟨rfl, ob', h2, h3, h4⟩
  exact ⟨by rw [hb], ⟨h0, ob', hs ▸ h2⟩, h4.below hbw fun k _ e => by rcases e with rfl | e; exact h0; exact (hbl k e).1⟩
theorem qi_drain {base : Nat} {w : World} {q : Nat} {s : QS} (h : QIs base w q s) (hbw : base ≤ w.heap.size) (hl : s.ws.length ≤ 1000000) (hs0 : 0 ≤ s.sent) (hs1 : s.sent ≤ 1000000000000) (n : Int) {ds : List UInt8} {s' : QS} (hd : s.ws.take (goesQ s n) = ds) (hs : drainS s n = s') :
    Calls Try.prog 9 #[.pointer (some ⟨q, 0, none⟩), .int .i64 n] w fun e w' => (∃ v', e = .returned v' ∧ OwnB w.heap.size w' v' ds) ∧ QIs base w' q s' ∧ RowKit.Below base w w' := by
  obtain ⟨h0, ob, h1⟩ := h
  have hbl := q_blocks h1
  refine (q_drain h1 hl hs0 hs1 n).mono ?_
  rintro e w' ⟨⟨v', rfl, h2⟩, h3, h4⟩
  exact ⟨⟨v', rfl, hd ▸ h2⟩, ⟨h0, ob, hs ▸ h3⟩, h4.below hbw fun k _ e => by rcases e with rfl | e; exact h0; exact (hbl k e).1⟩
theorem qi_below {base : Nat} {W W' : World} {q : Nat} {s : QS} (h : QIs base W q s) (hb : RowKit.Below W.heap.size W W') : QIs base W' q s := by
  obtain ⟨h0, ob, h1⟩ := h
  exact ⟨h0, ob, q_below h1 hb⟩
theorem qi_len {base : Nat} {W : World} {q : Nat} {s : QS} (h : QIs base W q s) : Calls Try.prog 14 #[.pointer (some ⟨q, 0, none⟩)] W fun e w' => e = .returned (.int .i64 s.ws.length) ∧ w' = W := by
  obtain ⟨h0, ob, h1⟩ := h; exact q_len h1
theorem qi_sent {base : Nat} {W : World} {q : Nat} {s : QS} (h : QIs base W q s) : Calls Try.prog 16 #[.pointer (some ⟨q, 0, none⟩)] W fun e w' => e = .returned (.int .i64 s.sent) ∧ w' = W := by
  obtain ⟨h0, ob, h1⟩ := h; exact q_sent h1
theorem qi_over {base : Nat} {W : World} {q : Nat} {s : QS} (h : QIs base W q s) : Calls Try.prog 17 #[.pointer (some ⟨q, 0, none⟩)] W fun e w' => e = .returned (.bool s.over) ∧ w' = W := by
  obtain ⟨h0, ob, h1⟩ := h; exact q_over h1
theorem qi_lines {base : Nat} {W : World} {q : Nat} {s : QS} (h : QIs base W q s) (hl : s.ws.length ≤ 1000000) {zs : List (List UInt8)} (hz : wholeQ s = zs) : Calls Try.prog 20 #[.pointer (some ⟨q, 0, none⟩)] W (LinesP zs W) := by
  obtain ⟨h0, ob, h1⟩ := h; exact hz ▸ q_lines h1 hl
theorem qi_new (most : Int) (h1 : 512 ≤ most) (h2 : most ≤ 65536) (w : World) : Calls Try.prog 8 #[.int .i64 most] w fun e w' => (∃ q, e = .returned (.tuple #[.pointer (some ⟨q, 0, none⟩), .int .i64 0]) ∧ QIs w.heap.size w' q ⟨most, [], 0, false, false⟩) ∧ RowKit.Below w.heap.size w w' :=
  (q_new most h1 h2 w).mono fun e w' ⟨h1, h2, h3⟩ => ⟨⟨_, h1, Nat.le_refl _, _, h2⟩, h3⟩
theorem qi_base {base base' : Nat} {W : World} {q : Nat} {s : QS} (h : QIs base W q s) (hb : base' ≤ base) : QIs base' W q s := by
  obtain ⟨h0, ob, h1⟩ := h
  exact ⟨Nat.le_trans hb h0, ob, q_base h1 hb⟩
set_option maxRecDepth 100000 in
set_option maxHeartbeats 4000000 in
theorem awake8 (w : World) : Calls Try.prog 7 #[] w fun e w' => e = .returned (.bool true) ∧ RowKit.Below w.heap.size w w' := by
  refine (callsIn_wide (n := 20)).1 ?_
  refine callsIn_of_wp_marks Try.func7 rfl trivial ?_ rfl
  simp only [Try.ntmps7, List.size_toArray, List.length_cons, List.length_nil, Nat.reduceAdd, Nat.reduceSub, Array.replicate_succ, Array.replicate_zero, List.push_toArray, List.append_toArray, List.nil_append, List.cons_append]
  gi_wp2_with fail
  refine ⟨trivial, (calls_wide (.inl rfl) (qi_new 512 (by decide) (by decide) w)).mono ?_⟩
  rintro e w1 ⟨⟨q, rfl, q1⟩, b1⟩
  have z1 := b1.size
  have H1 := Lib.hid (And.intro q1 b1)
  clear q1 b1
  gi_wp2_with fail
  refine ⟨trivial, (calls_wide (.inl rfl) (qi_push H1.out.1 z1 (by decide) (by decide) (by decide) ⟨#[97]⟩ (by decide) (b := true) (by decide) (s' := ⟨512, [97, 13, 10], 0, false, false⟩) rfl)).mono ?_⟩
  rintro e w2 ⟨rfl, q2, b2⟩
  have H2 := Lib.hid (And.intro q2 (H1.out.2.trans b2))
  have z2 := b2.size
  clear q2 b2
  gi_wp2_with fail
  refine ⟨trivial, (calls_wide (.inl rfl) (qi_push H2.out.1 (by omega) (by decide) (by decide) (by decide) ⟨#[98, 99]⟩ (by decide) (b := true) (by decide) (s' := ⟨512, [97, 13, 10, 98, 99, 13, 10], 0, false, false⟩) rfl)).mono ?_⟩
  rintro e w3 ⟨rfl, q3, b3⟩
  have H3 := Lib.hid (And.intro q3 (H2.out.2.trans b3))
  have z3 := b3.size
  clear q3 b3
  gi_wp2_with fail
  refine ⟨trivial, (calls_wide (.inl rfl) (qi_drain H3.out.1 (by omega) (by decide) (by decide) (by decide) 4 (ds := [97, 13, 10, 98]) (by decide) (s' := ⟨512, [99, 13, 10], 4, true, false⟩) rfl)).mono ?_⟩
  rintro e w4 ⟨⟨v4, rfl, o4⟩, q4, b4⟩
  obtain ⟨A4, c4, e4⟩ := row_slice o4
  subst e4
  have hcv : (convert 34 9 (.slice A4 4 c4)).run Try.prog w4 = .ok (.string ⟨#[97, 13, 10, 98]⟩) w4 := conv_ownB o4
  have H4 := Lib.hid (And.intro q4 (H3.out.2.trans b4))
  have z4 := b4.size
  clear q4 b4 o4
  gi_wp2_with fail
  refine ⟨trivial, (calls_wide (.inl rfl) (qi_lines H4.out.1 (by decide) (zs := []) rfl)).mono ?_⟩
  rintro e w5 ⟨⟨F, rfl, t5⟩, b5⟩
  clear hcv
  obtain ⟨Y, hYb, gf, lb, rfl, hseq, hY, heg⟩ := tellsT_tale t5 (by decide)
  have H5 := Lib.hid (And.intro (qi_below H4.out.1 b5) (And.intro (H4.out.2.trans (b5.mono (by omega))) (And.intro hseq (And.intro hY heg))))
  have z5 := b5.size
  clear t5 b5 hseq hY heg hYb
  have hnil : ∀ W, (binOp BinOp.eql 50 (.func (.func gf) #[] lb) Value.nilFunc).run Try.prog W = .ok (.bool false) W := fun W => by rfl
  gi_wp2_with (simp only [hnil])
  obtain ⟨h5, hb5, hseq, hY, heg⟩ := H5.out
  obtain ⟨W6, hW6⟩ : ∃ W6, w5.alloc (.cells #[.int .i64 0] 3) = W6 := ⟨_, rfl⟩
  rw [hW6]
  have f6 : Fr (fun _ => False) w5 W6 := by rw [← hW6]; exact (Fr.refl _ _).alloc _
  have k6 : W6.heap[w5.heap.size]? = some (.cells #[.int .i64 0] 3 (0, 0)) := by rw [← hW6]; exact heap_alloc_new _ _
  have z6 : W6.heap.size = w5.heap.size + 1 := by rw [← hW6]; simp
  have hsq := hseq.same fun b hb => f6.block b (hY b hb) fun e => e
  have b6 : RowKit.Below w5.heap.size w5 W6 := f6.below (Nat.le_refl _) fun _ _ e => e.elim
  have H6 := Lib.hid (And.intro (qi_below h5 b6) (And.intro (hb5.trans (b6.mono (by omega))) (And.intro k6 z6)))
  clear hW6 hseq h5 hb5 b6
  refine wpIn_rangeF (X := fun _ => False) (Y := Y) (xs := ([] : List (List UInt8))) (encs := encL) (gf := gf) (lb := lb) (fun _ X1 _ => ∀ k, ¬ X1 k) (fun _ _ _ _ => False)
    rfl hsq (fun k hk => hk.elim) (fun b hb => by have := hY b hb; omega) (by omega) heg (fun _ => rfl)
    (fun s X V V' h _ _ => h) (fun c s X1 V1 V2 h => h.elim) (fun k hk => hk) ?round ?done (fun _ _ _ _ _ _ _ _ _ _ _ h => h.elim)
  case round =>
    rintro l pre x r X1 V K rb hl2 hpx
    exact absurd hpx (by simp)
  case done =>
    rintro D X2 V hD hxD hG hF hI hdef
    obtain ⟨h6, hb6, k6, z6⟩ := H6.out
    have bV : RowKit.Below W6.heap.size W6 V := hF.below (Nat.le_refl _) fun _ _ e => e.elim
    have kV := hF.blk k6 fun e => e
    have c4' := blk_cell kV 0
    have H7 := Lib.hid (And.intro (qi_below h6 bV) (And.intro (hb6.trans (bV.mono (by omega))) (And.intro hdef hD)))
    clear h6 hb6 k6 z6 bV kV hsq hY heg f6 hdef hG hF hI hxD hD
    gi_wp2_with fail
    refine ⟨trivial, (calls_wide (.inl rfl) (qi_len H7.out.1)).mono ?_⟩
    rintro e w8 ⟨rfl, rfl⟩
    gi_wp2_with fail
    refine ⟨trivial, (calls_wide (.inl rfl) (qi_sent H7.out.1)).mono ?_⟩
    rintro e w9 ⟨rfl, rfl⟩
    gi_wp2_with fail
    obtain ⟨h7, hb7, hdef, hD⟩ := H7.out
    have hz6 := H6.out.2.2.2
    exact leaves_one D _ hdef fun w' hf => ⟨_, results_tmp rfl _ _ _, by first | rfl | simp, hb7.trans (hf.below hb7.size fun k _ e => by omega)⟩
end Go.Proofs.Ytadbpgkhenbpfaa
