/- Layer 13: does a past tell just these (the law's own question)? -/
import Derived.Test.YtkifblbmppjicaaWasE
namespace Go.Proofs.Ytkifblbmppjicaa
set_option linter.unusedVariables false
set_option linter.unusedSimpArgs false
open Go.RowKit Go.Shelf
attribute [local go_sem] Oper.semAt_some

/-- are the first ones these? -/
def okE (ws pre : List Ent) : Bool := decide (pre = ws.take pre.length)
theorem entB (x y : Ent) : decide (x = y) = ((x.1.toList == y.1.toList) && (x.2 == y.2)) := by
  rw [beq_ba, Bool.eq_iff_iff, decide_eq_true_iff, Bool.and_eq_true, beq_iff_eq, beq_iff_eq]
  constructor
  · rintro rfl; exact ⟨rfl, rfl⟩
  · rintro ⟨h1, h2⟩; exact Prod.ext (ba_ext h1) h2
theorem okE_snoc (ws pre : List Ent) (x : Ent) (h : pre.length < ws.length) : okE ws (pre ++ [x]) = (okE ws pre && ((x.1.toList == ws[pre.length].1.toList) && (x.2 == ws[pre.length].2))) := by
  rw [← entB]
  unfold okE
  rw [List.length_append, List.length_singleton, List.take_succ_eq_append_getElem h, Bool.eq_iff_iff, decide_eq_true_iff, Bool.and_eq_true, decide_eq_true_iff, decide_eq_true_iff]
  constructor
  · intro e
    have := List.append_inj e (by rw [List.length_take]; omega)
    exact ⟨this.1, by simpa using this.2⟩
  · rintro ⟨h1, h2⟩; rw [← h1, h2]
theorem okE_all (ws zs : List Ent) : decide (zs = ws) = (okE ws zs && (zs.length == ws.length)) := by
  unfold okE
  rw [Bool.eq_iff_iff, decide_eq_true_iff, Bool.and_eq_true, decide_eq_true_iff, beq_iff_eq]
  constructor
  · rintro rfl; simp
  · rintro ⟨h1, h2⟩; rw [h2, List.take_length] at h1; exact h1

/-- more came than was wanted -/
def MoreE (ws pre : List Ent) : Prop := ws.length < pre.length

theorem told_notnil (W : World) (a : Value) : (binOp .eql 37 (.func (.func 53) #[] #[a]) .nilFunc).run Try.prog W = .ok (.bool false) W := by kernel_rfl
set_option maxRecDepth 100000 in
set_option maxHeartbeats 4000000 in
theorem same13_of {w : World} {p : Value} {xs ys ws : List Ent} {base : Nat} {wv : Value} (nm : ByteArray) (all : Bool) (hnm : nm.size ≤ 1000000) (hxs : xs.length ≤ 100000) (hys : ys.length ≤ 100000) (hws : ws.length ≤ 100000)
    (hwv : w.ownsRow base 29 2 wv ws.length (entL ws))
    (hfind : ∀ W, Below w.heap.size w W → Calls Try.prog 40 #[p, .string nm] W fun e w' => (∃ f, e = .returned f ∧ Tale W.heap.size w' ys f) ∧ Below W.heap.size W w')
    (hall : ∀ W, Below w.heap.size w W → Calls Try.prog 15 #[p] W fun e w' => (∃ f, e = .returned f ∧ Tale W.heap.size w' xs f) ∧ Below W.heap.size W w') :
    Calls Try.prog 13 #[p, wv, .string nm, .bool all] w fun e w' => e = .returned (.bool (decide ((if all then xs else ys) = ws))) ∧ Below w.heap.size w w' := by
  obtain ⟨zs, hzs⟩ : ∃ zs, (if all then xs else ys) = zs := ⟨_, rfl⟩
  rw [hzs]
  obtain ⟨WA, wc, rfl⟩ := row_slice hwv
  have HZS := Lib.hid hzs
  clear hzs
  refine (callsIn_wide (n := 6)).1 ?_
  refine callsIn_of_wp_marks Try.func13 rfl trivial ?_ rfl
  simp only [Try.ntmps13, List.size_toArray, List.length_cons, List.length_nil, Nat.reduceAdd, Nat.reduceSub, Array.replicate_succ, Array.replicate_zero, List.push_toArray, List.append_toArray, List.nil_append, List.cons_append]
  gi_wp2_with fail
  refine ⟨trivial, ((callsIn_wide (n := 5)).2 (hfind _ ?_)).mono ?_⟩
  · exact ((Below.refl _ w).alloc (Nat.le_refl _) _).alloc (by simp) _
  rintro e w1 ⟨⟨f, rfl, hT⟩, q1⟩
  have hq1 : Below w.heap.size w w1 := (((Below.refl _ w).alloc (Nat.le_refl _) _).alloc (by simp) _).trans (q1.mono (by simp; omega))
  have hnn := told_notnil
  obtain ⟨B0, v0, rfl, hb0, hv0, hbox0, hrow0⟩ := hT
  cases all
  case' true =>
    gi_wp2_with fail
    refine ⟨trivial, ((callsIn_wide (n := 5)).2 (hall _ hq1)).mono ?_⟩
    rintro e w2 ⟨⟨f2, rfl, hT2⟩, q2⟩
    obtain ⟨B, v, rfl, hb, hv, hbox, hrow⟩ := hT2
    have hq2 : Below w.heap.size w w2 := hq1.trans (q2.mono hq1.size)
    have hq12 : Below w1.heap.size w1 w2 := q2
    have hzs : xs = zs := HZS.out
    have hzl : zs.length ≤ 100000 := hzs ▸ hxs
    rw [hzs] at hrow
    clear hzs
    replace hb : w.heap.size + 2 ≤ B := by have := q1.size; simp at this; omega
    replace hrow : w2.ownsRow (w.heap.size + 2) 82 2 v zs.length (entL zs) := row_base (by have := q1.size; simp at this; omega) hrow
  case' false =>
    obtain ⟨w2, hw2⟩ : ∃ w2, w1 = w2 := ⟨_, rfl⟩
    have hq2 : Below w.heap.size w w2 := hw2 ▸ hq1
    have hq12 : Below w1.heap.size w1 w2 := hw2 ▸ Below.refl _ _
    obtain ⟨B, hB⟩ : ∃ B, B0 = B := ⟨_, rfl⟩
    obtain ⟨v, hv'⟩ : ∃ v, v0 = v := ⟨_, rfl⟩
    have hzs : ys = zs := HZS.out
    have hzl : zs.length ≤ 100000 := hzs ▸ hys
    rw [hzs] at hrow0
    clear hzs
    rw [hv', hw2] at hrow0
    rw [hB, hv', hw2] at hbox0
    rw [hB]
    rw [World.size_alloc, World.size_alloc] at hb0 hrow0
    have hb : w.heap.size + 2 ≤ B := by omega
    have hv : v.ownBlock ≠ some B := by rw [← hv', ← hB]; exact hv0
    have hbox := hbox0
    have hrow := hrow0
  all_goals
    have hz := q1.size
    rw [World.size_alloc, World.size_alloc] at hz
    have bW : w2.heap[w.heap.size]? = some (.cells #[.slice WA ws.length wc] 22 (0, 0)) := (hq12.block _ (by omega)).trans ((q1.block _ (by simp; omega)).trans (blk_alloc (heap_alloc_new w _) _))
    have bR : w2.heap[w.heap.size + 1]? = some (.cells #[.bool false] 4 (0, 0)) := (hq12.block _ (by omega)).trans ((q1.block _ (by simp)).trans (heap_alloc2_new w _ _))
    have hz2 := hq12.size
    have H := Lib.hid (And.intro bW (And.intro bR (And.intro hq2 (And.intro hbox (And.intro hrow (And.intro hv hb))))))
    clear HZS bW bR hq1 hq2 hq12 hbox hrow hv hb q1 hfind hall
    gi_wp2_with fail
    clear hnn
    obtain ⟨bW, bR, hq2, hbox, hrow, hv, hb⟩ := H.out
    have nR0 : w.heap.size + 1 < w2.heap.size := blk_lt bR
    obtain ⟨w3, hw3⟩ : ∃ w3, w3 = (w2.alloc (.cells #[.int .i64 0] 3)).alloc (.cells #[.bool true] 4) := ⟨_, rfl⟩
    rw [← hw3]
    have hz3 : w3.heap.size = w2.heap.size + 2 := by rw [hw3]; simp
    have a1 : w3.heap[w2.heap.size]? = some (.cells #[.int .i64 ((0 : Nat) : Int)] 3 (0, 0)) := by rw [hw3]; exact blk_alloc (heap_alloc_new _ _) _
    have a2 : w3.heap[w2.heap.size + 1]? = some (.cells #[.bool true] 4 (0, 0)) := by rw [hw3]; have := heap_alloc_new (w2.alloc (.cells #[.int .i64 0] 3)) (.cells #[.bool true] 4); rwa [World.size_alloc] at this
    have hB3 : Below w.heap.size w w3 := by rw [hw3]; exact (hq2.alloc hq2.size _).alloc (by have := hq2.size; simp; omega) _
    have hb23 : Below w2.heap.size w2 w3 := by rw [hw3]; exact ((Below.refl _ _).alloc (Nat.le_refl _) _).alloc (by simp) _
    have a3 : w3.heap[w.heap.size]? = _ := (hb23.block _ (blk_lt bW)).trans bW
    have a4 : w3.heap[w.heap.size + 1]? = _ := (hb23.block _ (blk_lt bR)).trans bR
    have a5 : w3.heap[B]? = _ := (hb23.block _ (blk_lt hbox)).trans hbox
    have a6 : w3.ownsRow (w.heap.size + 2) 82 2 v zs.length (entL zs) := row_same hrow fun g hg => hb23.block g (hrow.lt g hg).2
    have hvl := a6.lt
    have hvl2 := hrow.lt
    have hBl := blk_lt hbox
    have hBl3 := blk_lt a5
    obtain ⟨N2, hN2⟩ : ∃ N2, w2.heap.size = N2 := ⟨_, rfl⟩
    rw [hN2] at a1 a2 hz3 hBl hvl2 nR0 ⊢
    have hwz := hB3.size
    clear hw3 hq2 bW bR hbox hrow hb23 H hN2 hrow0 hbox0 hv0 hb0 hz2 hz
    refine wpIn_rangeT (X := fun _ => False) (Y := taleY B v) (xs := zs) (encs := encE) (w0 := w3) (gf := 53) (lb := #[.pointer (some ⟨B, 0, none⟩)])
      (fun pre V => (((V.heap[w.heap.size]? = some (.cells #[.slice WA ws.length wc] 22 (0, 0)) ∧ V.heap[w.heap.size + 1]? = some (.cells #[.bool false] 4 (0, 0))) ∧ V.heap[N2]? = some (.cells #[.int .i64 (pre.length : Nat)] 3 (0, 0)) ∧ V.heap[N2 + 1]? = some (.cells #[.bool (okE ws pre)] 4 (0, 0))) ∧ pre.length ≤ ws.length) ∧ Below w.heap.size w V)
      (fun c pre V => (V.heap[w.heap.size + 1]? = some (.cells #[.bool false] 4 (0, 0)) ∧ (c = .ret ∧ MoreE ws pre)) ∧ Below w.heap.size w V)
      rfl (told_tells 5 (by omega) _ B v zs w3 hzl a5 a6) (Below.refl _ _) (fun _ h => h.elim) (fun b hb => by rcases hb with rfl | hb; exact hBl3; exact (hvl b hb).2) rfl (by omega) trivial (enters_of Try.func53 (by kernel_rfl) rfl) (fun _ => rfl)
      (OwnFrom.and (OwnFrom.and (OwnFrom.and (OwnFrom.and ((blk_own _ _ fun _ => #[.slice WA ws.length wc]).from _) ((blk_own _ _ fun _ => #[.bool false]).from _)) (OwnFrom.and ((blk_own N2 _ fun (pre : List Ent) => #[.int .i64 (pre.length : Nat)]).from _) ((blk_own (N2 + 1) _ fun pre => #[.bool (okE ws pre)]).from _))) (ownFrom_pure _ fun (pre : List Ent) => pre.length ≤ ws.length)) (ownFrom_below (Nat.le_refl _) hB3.size)) (fun _ _ _ _ h => h.elim)
      (fun c => OwnFrom.and (OwnFrom.and ((blk_own _ _ fun _ => #[.bool false]).from _) (ownFrom_pure _ fun (pre : List Ent) => c = .ret ∧ MoreE ws pre)) (ownFrom_below (Nat.le_refl _) hB3.size)) (fun _ _ _ _ _ h => h.elim)
      ⟨⟨⟨⟨a3, a4⟩, a1, by rw [a2]; rfl⟩, Nat.zero_le _⟩, hB3⟩ ?round ?done ?stop
    case round =>
      rintro l pre x r V0 V K hl ⟨rl, hrl⟩ hpx ⟨⟨⟨⟨h0, h1⟩, h2, h3⟩, h4⟩, h5⟩ hK
      dsimp only [encE]
      have HK := Lib.hid hK
      clear hK
      gi_wp2
      refine HK.out _ ?_
      clear HK K
      have hVz : w3.heap.size ≤ V.heap.size := by have := blk_lt hrl; omega
      have c0 := blk_cell h0 0
      have c2 := blk_cell h2 0
      have c3 := blk_cell h3 0
      have f1 := blk_free h1 0
      have f2 := blk_free h2 0
      have f3 := blk_free h3 0
      have c1 := blk_cell h1 0
      by_cases hlt : pre.length < ws.length
      · obtain ⟨g, rfl⟩ : ∃ g, WA = some ⟨g, 0, none⟩ := by
          rcases hwv.2 with ⟨e1, e2⟩ | ⟨g, cap, cur, e1, _⟩
          · omega
          · cases e1; exact ⟨g, rfl⟩
        obtain ⟨d0, d1⟩ := entL_get ws pre.length hlt
        have hcell : ∀ j u, (entL ws)[j]? = some u → V.cell? ⟨g, j, none⟩ = some u := fun j u hu => by
          have k1 := hwv.cells (g := g) rfl j u hu
          have k2 : (⟨g, 0, none⟩ : Addr).add j = ⟨g, j, none⟩ := by unfold Addr.add; split <;> simp_all
          rw [k2] at k1
          exact (h5.cell (p := ⟨g, j, none⟩) (hwv.lt g rfl).2).trans k1
        have e0 := hcell _ _ d0
        have e1 := hcell _ _ d1
        have hok := okE_snoc ws pre x hlt
        obtain ⟨y, hy⟩ : ∃ y, ws[pre.length] = y := ⟨_, rfl⟩
        rw [hy] at e0 e1 hok
        obtain ⟨gd, hgd⟩ : ∃ gd, okE ws pre = gd := ⟨_, rfl⟩
        obtain ⟨n, hn⟩ : ∃ n, pre.length = n := ⟨_, rfl⟩
        rw [hgd] at c3 hok
        rw [hn] at c2 e0 e1 hlt
        obtain ⟨b1, hb1⟩ : ∃ b, (x.1.toList == y.1.toList) = b := ⟨_, rfl⟩
        rw [hb1] at hok
        have hlt1 : ¬ (n : Int) ≥ (ws.length : Int) := by omega
        have hlt2 : (n : Int) < (ws.length : Int) := by omega
        have hgl := (hwv.lt g rfl).2
        have close : ∀ (b : Bool) (a : Act) (K : Nat), b = okE ws (pre ++ [x]) → EndT K (taleY B v) (fun pre V => (((V.heap[w.heap.size]? = some (.cells #[.slice (some ⟨g, 0, none⟩) ws.length wc] 22 (0, 0)) ∧ V.heap[w.heap.size + 1]? = some (.cells #[.bool false] 4 (0, 0))) ∧ V.heap[N2]? = some (.cells #[.int .i64 (pre.length : Nat)] 3 (0, 0)) ∧ V.heap[N2 + 1]? = some (.cells #[.bool (okE ws pre)] 4 (0, 0))) ∧ pre.length ≤ ws.length) ∧ Below w.heap.size w V)
            (fun c pre V => (V.heap[w.heap.size + 1]? = some (.cells #[.bool false] 4 (0, 0)) ∧ (c = .ret ∧ MoreE ws pre)) ∧ Below w.heap.size w V) (pre ++ [x]) V .normal a ((V.setCell ⟨N2 + 1, 0, none⟩ (.bool b)).setCell ⟨N2, 0, none⟩ (.int .i64 ((n : Int) + 1))) := fun b a K hb => by
          have hfr : Fr (fun k => k = N2 ∨ k = N2 + 1) V ((V.setCell ⟨N2 + 1, 0, none⟩ (.bool b)).setCell ⟨N2, 0, none⟩ (.int .i64 ((n : Int) + 1))) := ((Fr.refl _ V).setCell ⟨N2 + 1, 0, none⟩ (.inr rfl) _).setCell ⟨N2, 0, none⟩ (.inl rfl) _
          refine ⟨hfr.keeps ?_ _, ?_, ⟨⟨⟨hfr.blk h0 (by omega), hfr.blk h1 (by omega)⟩, ?_, ?_⟩, by rw [List.length_append, List.length_singleton]; omega⟩, h5.trans (hfr.below h5.size fun k _ hk => by omega)⟩
          · rintro k _ (rfl | rfl)
            · exact ⟨_, h2, rfl⟩
            · exact ⟨_, h3, rfl⟩
          · intro c hc
            have hcl : c < N2 := by
              rcases hc with rfl | hc
              · exact hBl
              · exact (hvl2 c hc).2
            exact hfr.block c (by omega) (by omega)
          · rw [List.length_append, List.length_singleton, hn]
            exact blk_set (blk_other h2 ⟨N2 + 1, 0, none⟩ (by simp) (.bool b)) 0 _
          · rw [← hb]
            exact blk_other (blk_set h3 0 (.bool b)) ⟨N2, 0, none⟩ (by simp) _
        have HC := Lib.hid close
        have HOK := Lib.hid hok
        clear close hok hn hgd hy d0 d1 hcell h0 h1 h2 h3 h4 h5 hrl hpx hlt hvl2 hwv hvl
        cases gd with
        | false =>
          gi_wp2_with fail
          exact HC.out false _ _ (by rw [HOK.out]; rfl)
        | true =>
          cases b1 with
          | false =>
            gi_wp2_with fail
            exact HC.out false _ _ (by rw [HOK.out]; rfl)
          | true =>
            gi_wp2_with fail
            exact HC.out _ _ _ (by rw [HOK.out]; simp)
      · obtain ⟨n, hn⟩ : ∃ n, pre.length = n := ⟨_, rfl⟩
        rw [hn] at c2 hlt
        have hge : (n : Int) ≥ (ws.length : Int) := by omega
        have H := Lib.hid (And.intro hn (And.intro h0 (And.intro h1 (And.intro h2 (And.intro h3 (And.intro h5 hrl))))))
        clear hn h0 h1 h2 h3 h4 h5 hrl hlt hpx
        gi_wp2_with fail
        obtain ⟨hn, h0, h1, h2, h3, h5, hrl⟩ := H.out
        have hfr : Fr (fun k => k = w.heap.size + 1) V (V.setCell ⟨w.heap.size + 1, 0, none⟩ (.bool false)) := (Fr.refl (fun k => k = w.heap.size + 1) V).setCell ⟨w.heap.size + 1, 0, none⟩ rfl _
        refine ⟨hfr.keeps ?_ _, ⟨(blk_set h1 0 (.bool false)).trans rfl, rfl, ?_⟩, h5.trans (hfr.below h5.size fun k _ hk => by omega)⟩
        · rintro k _ rfl; exact ⟨_, h1, rfl⟩
        · unfold MoreE; rw [List.length_append, List.length_singleton, hn]; omega
    case done =>
      rintro D V hD ⟨⟨⟨⟨h0, h1⟩, h2, h3⟩, h4⟩, h5⟩ hdef
      have c0 := blk_cell h0 0
      have c2 := blk_cell h2 0
      have c3 := blk_cell h3 0
      have f1 := blk_free h1 0
      have c1 := blk_cell h1 0
      have hok := okE_all ws zs
      obtain ⟨gd, hgd⟩ : ∃ gd, okE ws zs = gd := ⟨_, rfl⟩
      rw [hgd] at c3 hok
      have H := Lib.hid (And.intro h1 (And.intro h5 (And.intro hdef hok)))
      clear h0 h1 h2 h3 h4 h5 hdef hok hgd
      have hcast : ((zs.length : Int) == (ws.length : Int)) = (zs.length == ws.length) := by
        rw [Bool.eq_iff_iff, beq_iff_eq, beq_iff_eq]; omega
      have HCA := Lib.hid hcast
      clear hcast
      cases gd with
      | false =>
        gi_wp2_with fail
        obtain ⟨h1, h5, hdef, hok⟩ := H.out
        have hd2 := blk_other hdef ⟨w.heap.size + 1, 0, none⟩ (by simp; omega) (.bool false)
        refine ⟨by simp, .inl ⟨_, _, rfl, run_takeDeferred hd2, ?_⟩⟩
        exact ⟨_, results_box rfl _ _ (w.heap.size + 1) _ _ rfl (blk_cell (put_blk hd2 rfl (blk_set h1 0 (.bool false))) 0) Try.underlying4 rfl, by rw [hok]; rfl, (h5.setCell (p := ⟨w.heap.size + 1, 0, none⟩) (show w.heap.size ≤ w.heap.size + 1 by omega) _).trans (put_below (by omega) (by have := h5.size; simp; omega))⟩
      | true =>
        gi_wp2_with fail
        obtain ⟨h1, h5, hdef, hok⟩ := H.out
        have hd2 := blk_other hdef ⟨w.heap.size + 1, 0, none⟩ (by simp; omega) (.bool ((zs.length : Int) == (ws.length : Int)))
        refine ⟨by simp, .inl ⟨_, _, rfl, run_takeDeferred hd2, ?_⟩⟩
        exact ⟨_, results_box rfl _ _ (w.heap.size + 1) _ _ rfl (blk_cell (put_blk hd2 rfl (blk_set h1 0 _)) 0) Try.underlying4 rfl, ret_bool (by rw [hok, HCA.out]; rfl), (h5.setCell (p := ⟨w.heap.size + 1, 0, none⟩) (show w.heap.size ≤ w.heap.size + 1 by omega) _).trans (put_below (by omega) (by have := h5.size; simp; omega))⟩
    case stop =>
      rintro D c pre r V hD hpr ⟨⟨h1, rfl, hM⟩, h5⟩ hdef
      have c1 := blk_cell h1 0
      have hno : decide (zs = ws) = false := by
        rw [decide_eq_false_iff_not]
        rintro rfl
        have := congrArg List.length hpr
        rw [List.length_append] at this
        unfold MoreE at hM
        omega
      have H := Lib.hid (And.intro h1 (And.intro h5 (And.intro hdef hno)))
      clear h1 h5 hdef hno hM hpr
      gi_wp2_with fail
      obtain ⟨h1, h5, hdef, hno⟩ := H.out
      refine ⟨by simp, .inl ⟨_, _, rfl, run_takeDeferred hdef, ?_⟩⟩
      exact ⟨_, results_box rfl _ _ (w.heap.size + 1) _ _ rfl (blk_cell (put_blk hdef rfl h1) 0) Try.underlying4 rfl, by rw [hno]; rfl, h5.trans (put_below (by omega) (by have := h5.size; omega))⟩
end Go.Proofs.Ytkifblbmppjicaa
