/- Layer 5: Lines. -/
import Derived.Test.YtaajfbbogihbnaaDoorFrT
import Derived.Test.YtaajfbbogihbnaaDoorFrJ
namespace Go.Proofs.YtaajfbbogihbnaaDoor
set_option linter.unusedVariables false
set_option linter.unusedSimpArgs false
open Go Go.RowKit Go.Lib
attribute [local go_sem] Oper.semAt_some

theorem flat_take2 {ps : List (List UInt8)} {i : Nat} (h : i < ps.length) : (ps.take (i + 1)).flatten = (ps.take i).flatten ++ ps[i] := by
  rw [List.take_succ_eq_append_getElem h, List.flatten_append, List.flatten_cons, List.flatten_nil, List.append_nil]
theorem flat_len (ps : List (List UInt8)) (h : ∀ p ∈ ps, p.length ≤ 600) : ps.flatten.length ≤ 600 * ps.length := by
  induction ps with
  | nil => simp
  | cons p ps ih =>
    have h1 := ih fun q hq => h q (List.mem_cons_of_mem _ hq)
    have h2 := h p List.mem_cons_self
    rw [List.flatten_cons, List.length_append, List.length_cons]; omega
/-- what is so behind k pieces -/
structure LG (w : World) (ps : List (List UInt8)) (S F : Nat) (Ds : List Nat) (k : Nat) (v fv : Value) (os : List FSt) (st : FSt) (W : World) : Prop where
  nd : Ds.Nodup
  ds : ∀ D ∈ Ds, w.heap.size ≤ D ∧ W.heap[D]? = some (.deferred (some []))
  fr : Fr (fun _ => False) w W
  b : W.heap[S]? = some (.cells #[v] 27 (0, 0))
  o : OwnLn (S + 1) W v os
  r : FrA F fv st W
  f : feedM ([], false) (ps.take k).flatten = (os, st)
  d : ∀ q, v.ownBlock = some q → q ≠ F ∧ fv.ownBlock ≠ some q
  e : ∀ q, fv.ownBlock = some q → S < q
def LinesP (ps : List (List UInt8)) (w : World) (e : Ending) (w' : World) : Prop :=
  ∃ B v, e = .returned (.func (.func 23) #[] #[.pointer (some ⟨B, 0, none⟩)]) ∧ w'.heap[B]? = some (.cells #[v] 27 (0, 0)) ∧ w.heap.size ≤ B ∧ OwnLn w.heap.size w' v (feedM ([], false) ps.flatten).1 ∧ v.ownBlock ≠ some B ∧ Fr (fun _ => False) w w'
set_option maxRecDepth 100000 in
set_option maxHeartbeats 16000000 in
theorem linesAll (A : Option Addr) (c : Nat) (ps : List (List UInt8)) (w : World) (hl : ps.length ≤ 20) (h6 : ∀ p ∈ ps, p.length ≤ 600) (hT : Tabs8 w)
    (hc : 0 < ps.length → ∃ g o, A = some ⟨g, o, none⟩ ∧ g < w.heap.size ∧ ∀ i (h : i < ps.length), ∃ B d, w.cell? ⟨g, o + i, none⟩ = some (.slice B ps[i].length d) ∧ At8 w (.slice B ps[i].length d) ps[i]) :
    Calls Tryd.prog 14 #[.slice A ps.length c] w (LinesP ps w) := by
  obtain ⟨i0, hi, hz0, hz1, hz2⟩ := info_parts Tryd.infoLn
  have hT3 := tabs8_lt hT
  have HC := Lib.hid (And.intro hc (And.intro hT h6))
  clear hc hT h6
  unfold LinesP
  refine (callsIn_wide (n := 20)).1 ?_
  refine callsIn_of_wp_marks Tryd.func14 rfl trivial ?_ rfl
  simp only [Tryd.ntmps14, List.size_toArray, List.length_cons, List.length_nil, Nat.reduceAdd, Nat.reduceSub, Array.replicate_succ, Array.replicate_zero, List.push_toArray, List.append_toArray, List.nil_append, List.cons_append]
  gi_wp2_with fail
  refine ⟨trivial, (calls_wide (.inl rfl) (newFr _)).mono ?_⟩
  rintro e w1 ⟨rfl, r1, f1, z1⟩
  have k0 : (w.alloc (.cells #[.slice none 0 0] 27)).heap[w.heap.size]? = some (.cells #[.slice none 0 0] 27 (0, 0)) := World.alloc_heap_new w _
  have hs1 : (w.alloc (.cells #[.slice none 0 0] 27)).heap.size = w.heap.size + 1 := by simp
  have f0 : Fr (fun _ => False) w (w.alloc (.cells #[.slice none 0 0] 27)) := (Fr.refl _ _).alloc _
  rw [hs1] at r1 z1
  have G0 : LG w ps w.heap.size (w.heap.size + 1) [] 0 (.slice none 0 0) (.slice none 0 0) [] ([], false) w1 := ⟨List.nodup_nil, (fun _ h => by cases h), f0.trans f1, f1.blk k0 fun e => e, ownLn_nil _ _, r1, rfl, (fun q hq => by cases hq), (fun q hq => by cases hq)⟩
  have HG0 := Lib.hid G0
  clear k0 hs1 f0 r1 f1 z1 G0
  gi_wp2_with fail
  refine wpIn_loop_ghost_k (fun n a W => ∃ (k : Nat) (Ds : List Nat) (v fv : Value) (os : List FSt) (st : FSt) (u6 u12 u13 u14 u15 u16 u17 u23 : Value), n = ps.length - k ∧ k ≤ ps.length ∧ a = { tmps := #[Value.slice A ps.length c, undef, Value.nilFunc, Value.pointer (some { block := w.heap.size, off := 0 }), Value.pointer (some { block := w.heap.size + 1, off := 0 }), undef, u6, undef, Value.pointer (some { block := w.heap.size + 1, off := 0 }), Value.slice A ps.length c, Value.int IntKind.i64 ps.length, Value.int IntKind.i64 k, u12, u13, u14, u15, u16, u17, undef, undef, undef, undef, undef, u23, undef, undef], defers := Ds.map markF } ∧ Hid (LG w ps w.heap.size (w.heap.size + 1) Ds k v fv os st W)) ps.length ⟨0, [], _, _, _, _, _, _, _, _, _, _, _, _, rfl, Nat.zero_le _, rfl, HG0.out⟩ ?_
  clear HG0
  rintro gk a W ⟨k, Ds, v, fv, os, st, u6, u12, u13, u14, u15, u16, u17, u23, hgk, hk, rfl, HG⟩ J K hJ hK
  have HJ := Lib.hid hJ
  have HK := Lib.hid hK
  clear hJ hK
  by_cases hlt : k < ps.length
  · obtain ⟨g, o, rfl, hgl, hcell⟩ := HC.out.1 (by omega)
    obtain ⟨B, d, hcb, hat⟩ := hcell k hlt
    have lg := HG.out
    have e0 : W.cell? ⟨g, o + k, none⟩ = some (.slice B ps[k].length d) := (lg.fr.cell (p := ⟨g, o + k, none⟩) hgl fun e => e).trans hcb
    have hatW := at8_kept hat lg.fr fun _ _ _ e => e
    have hp6 : ps[k].length ≤ 600 := HC.out.2.2 _ (List.getElem_mem hlt)
    have hft := flat_take2 hlt
    have hfl : (ps.take (k + 1)).flatten.length ≤ 12000 := by
      have h1 := flat_len (ps.take (k + 1)) fun q hq => HC.out.2.2 q (List.mem_of_mem_take hq)
      have h2 : (ps.take (k + 1)).length ≤ 20 := by rw [List.length_take]; omega
      omega
    obtain ⟨p, hp⟩ : ∃ p, ps[k] = p := ⟨_, rfl⟩
    rw [hp] at e0 hatW hp6 hft hat hcb
    have hfa := feedM_app (ps.take k).flatten ([], false) p
    rw [lg.f, ← hft] at hfa
    simp only at hfa
    obtain ⟨⟨os5, st5⟩, hf5⟩ : ∃ x, feedM st p = x := ⟨_, rfl⟩
    rw [hf5] at hfa
    simp only at hfa
    have hcnt := feedM_count (ps.take (k + 1)).flatten ([], false)
    rw [hfa] at hcnt
    simp only [List.length_append] at hcnt
    have hWz := lg.fr.size
    have hSl := blk_lt lg.b
    have hFl := blk_lt lg.r.1
    have hgd : good st := by have := feedM_good (ps.take k).flatten ([], false) good_new; rw [lg.f] at this; exact this
    have hfvl : ∀ q, fv.ownBlock = some q → q < W.heap.size := fun q hq => (own_lt8 lg.r.2.1 hq).2
    have hvl : ∀ q, v.ownBlock = some q → w.heap.size + 1 ≤ q ∧ q < W.heap.size := fun q hq => lg.o.lt q hq
    have hrd := fun W1 h => lines_ready (w.heap.size + 1) B d fv p st W (by omega) hatW lg.r hgd (tabs8_kept HC.out.2.1 lg.fr fun _ _ e => e) (by omega) (fun q hq => ⟨by have := lg.e q hq; omega, fun h0 e => by have := lg.e q hq; have := at8_lt hat h0 e; omega⟩) (fun h0 e => by have := at8_lt hat h0 e; omega) W1 h
    rw [hf5] at hrd
    simp only at hrd
    have hYS : ∀ q, (LnY W.heap.size (RdB p (.slice B p.length d)) q ∨ LnZ (W.heap.size + 1) (w.heap.size + 1) fv q) → ¬ (q = w.heap.size ∨ v.ownBlock = some q) := by
      rintro q hq hx
      have hqr : w.heap.size ≤ q ∧ q < W.heap.size := by
        rcases hx with rfl | e
        · omega
        · have := hvl q e; omega
      rcases hq with (e | e | e) | (e | e | e)
      · omega
      · have := at8_lt hat e.1 e.2; omega
      · omega
      · omega
      · rcases hx with e2 | e2
        · omega
        · exact (lg.d q e2).1 e
      · rcases hx with e2 | e2
        · have := lg.e q e; omega
        · exact (lg.d q e2).2 e
    have HR := Lib.hid hrd
    have HE := Lib.hid (And.intro hfa (And.intro hYS (And.intro hgd (And.intro hfvl hvl))))
    clear lg hat hcb hcell hatW hft hrd hYS hgd hfvl hvl hfa hf5 hp
    gi_wp2_with fail
    refine ⟨trivial, (calls_wide (.inl rfl) (linesFr (w.heap.size + 1) B p.length d W)).mono ?_⟩
    rintro e W1 ⟨rfl, hW1⟩
    obtain ⟨hseq, hYl, f1, z1⟩ := HR.out W1 hW1
    unfold linesV
    clear HR hW1
    have lg := HG.out
    have lb1 := f1.blk lg.b fun e => e
    have lo1 : OwnLn (w.heap.size + 1) W1 v os := ownLn_kept lg.o fun q hq => f1.block q (lg.o.lt q hq).2 fun e => e
    have HF1 := Lib.hid (And.intro f1 (And.intro lb1 lo1))
    clear f1 lb1 lo1 lg
    gi_wp2_with fail
    refine wpIn_rangeD (X := fun q => q = w.heap.size ∨ v.ownBlock = some q) (Y := LnY W.heap.size (RdB p (.slice B p.length d))) (Z := LnZ (W.heap.size + 1) (w.heap.size + 1) fv) (xs := os5) (encs := encLn) (gf := 19) (lb := #[.pointer (some ⟨W.heap.size + 1, 0, none⟩), .pointer (some ⟨W.heap.size, 0, none⟩)]) (fun pre X V => BoxLn w.heap.size (w.heap.size + 1) (os ++ pre) X V) (fun _ _ _ _ => False)
      rfl (lnD_rest _ _ _ _) hseq (fun q hq => ⟨by rcases hq with rfl | e; omega; have := HE.out.2.2.2.2 q e; omega, fun e => HE.out.2.1 q e hq⟩) (fun b hb => hYl b hb) (by omega) (enters_of Tryd.func19 (by kernel_rfl) rfl) (fun _ => rfl)
      (fun s X V V' h1 h2 h3 => boxLn_stays _ _ _ X V V' h1 h2 h3) (fun c s X1 V1 V2 h => h.elim) ⟨v, HF1.out.2.1, by rw [List.append_nil]; exact HF1.out.2.2, by omega, fun q => Iff.rfl⟩ ?round ?done (fun _ _ _ _ _ _ _ _ _ _ _ h => h.elim)
    case round =>
      rintro l pre x r X1 V K9 rb hl2 hpx hI hG9 hxl1 hF hlV hK9
      dsimp only [encLn, lineV]
      have HK9 := Lib.hid hK9
      have HV := Lib.hid (And.intro hpx (And.intro hI (And.intro hG9 (And.intro hxl1 (And.intro hF (And.intro hlV hl2))))))
      clear hK9 hpx hI hG9 hxl1 hF hlV hl2 hseq hYl e0
      gi_wp2_with fail
      refine HK9.out _ _ ((Fr.refl _ V).alloc _) fun Vb hfb hzb hsb hrb => ?_
      clear HK9 K9
      obtain ⟨hpx, ⟨vb, k3, o3, hS, hX1⟩, hG9, hxl1, hF, hlV, hl2⟩ := HV.out
      have hzs : Vb.heap.size = V.heap.size + 1 := by rw [hzb]; simp
      have k5 : Vb.heap[V.heap.size]? = some (.cells #[.string (bs x.1), .bool x.2] 38 (0, 0)) := (hsb V.heap.size (by omega)).trans (World.alloc_heap_new V _)
      have hSl9 : w.heap.size ≠ l := fun e => hxl1 ((hX1 l).2 (.inl e.symm))
      have k3b := hfb.blk k3 hSl9
      have o3b : OwnLn (w.heap.size + 1) Vb vb (os ++ pre) := ownLn_kept o3 fun g hg => hfb.block g (o3.lt g hg).2 fun e => hxl1 ((hX1 l).2 (.inr (e ▸ hg)))
      have c3 := blk_cell k3b 0
      have g3 := blk_free k3b 0
      have c50 := blk_cell k5 0
      have c51 := blk_cell k5 1
      simp only [List.getElem?_toArray, List.getElem?_cons_zero, List.getElem?_cons_succ] at c3 c50 c51
      obtain ⟨zs, hzs9⟩ : ∃ zs, os ++ pre = zs := ⟨_, rfl⟩
      have hpl : zs.length ≤ 1000000 := by
        have h2 : (pre ++ x :: r).length = os5.length := by rw [hpx]
        rw [List.length_append] at h2
        rw [← hzs9, List.length_append]
        omega
      rw [hzs9] at o3b
      have hVw : W1.heap.size ≤ V.heap.size := hF.size
      have hbz : w.heap.size + 1 ≤ Vb.heap.size := by omega
      have HS := Lib.hid (And.intro hX1 (And.intro hG9 (And.intro hxl1 (And.intro hfb (And.intro hrb (And.intro k3b (And.intro o3b (And.intro hzs (And.intro hlV (And.intro hSl9 hzs9))))))))))
      obtain ⟨Av, cv, ev⟩ := row_slice o3b
      subst ev
      have hor : Vb.ownsRow (w.heap.size + 1) 38 2 (.slice Av zs.length cv) zs.length (zs.flatMap encL2) := o3b
      have HO := Lib.hid hor
      clear hor hpx k3 o3 hS hX1 hG9 hxl1 hF hlV hl2 hfb hzb hsb hrb k5 hSl9 k3b o3b hVw hzs hzs9
      gi_wp2_with (first | (gi_at_builtin; refine Hid.out ?_))
      refine Lib.hid ?_
      refine wpListIn_one_t rfl _ _ 27 rfl (w.heap.size + 1) 38 i0 _ 2 24 Tryd.underlying27 hi hz0 hz1 hz2 rfl (by decide) _ _ _ rfl HO.out #[.string (bs x.1), .bool x.2] _ rfl rfl rfl (by intro u hu; simp at hu; rcases hu with rfl | rfl <;> rfl) (by omega) (by decide) hbz ?_
      intro v1 W2 o1 f1 t1
      obtain ⟨A1, n1, rfl⟩ := row_slice o1
      obtain ⟨hX1, hG9, hxl1, hfv, hrb, k3b, o3b, hzs, hlV, hSl9, hzs9⟩ := HS.out
      have hvS : (Value.slice Av zs.length cv).ownBlock ≠ some w.heap.size := fun e => by have := (o3b.lt _ e).1; omega
      have k6 := f1.blk k3b hvS
      have c6 := blk_cell k6 0
      have g6 := blk_free k6 0
      have HFx := Lib.hid (And.intro o1 (And.intro f1 (And.intro t1 (And.intro hvS k6))))
      clear o1 f1 t1 hX1 hG9 hxl1 hfv hrb k3b o3b hzs hlV hSl9 hvS k6 hzs9
      gi_wp2_with fail
      obtain ⟨hX1, hG9, hxl1, hfv, hrb, k3b, o3b, hzs, hlV, hSl9, hzs9⟩ := HS.out
      obtain ⟨o1, f1, t1, hvS, k6⟩ := HFx.out
      have o1' : OwnLn (w.heap.size + 1) W2 (.slice A1 (zs.length + 1) n1) (os ++ (pre ++ [x])) := by
        rw [← List.append_assoc, hzs9]; exact ownLn_snoc o1
      have hvl9 : (Value.slice Av zs.length cv).ownBlock ≠ some l := fun e => hxl1 ((hX1 l).2 (.inr e))
      have hsz : (W2.setCell ⟨w.heap.size, 0, none⟩ (.slice A1 (zs.length + 1) n1)).heap.size = W2.heap.size := by simp
      refine ⟨fun k => k = w.heap.size ∨ (Value.slice A1 (zs.length + 1) n1).ownBlock = some k, fun k hk => ?_, ?_, blk_other (f1.blk hrb hvl9) _ (by simpa using fun e => hSl9 e.symm) _, .slice A1 (zs.length + 1) n1, blk_set k6 0 _, ownLn_kept o1' fun g hg => heap_setCell_other _ _ g _ (by have := (o1'.lt g hg).1; simp; omega), by omega, fun k => Iff.rfl⟩
      · rw [hsz]
        have hz2 := f1.size
        rcases hk with rfl | hk
        · exact ⟨blk_lt k6, fun _ => (hX1 _).2 (.inl rfl)⟩
        · refine ⟨(o1.lt k hk).2, fun hlt => ?_⟩
          rcases t1 k hk with e | e
          · exact (hX1 k).2 (.inr e)
          · omega
      · exact (((hfv.mono (Y := fun k => k = l ∨ X1 k) fun k _ e => .inl e)).trans3 f1 fun k _ e => .inr ((hX1 k).2 (.inr e))).setCell ⟨w.heap.size, 0, none⟩ (.inr ((hX1 _).2 (.inl rfl))) _
    case done =>
      rintro D' X2 V hD' hxD hG9 hF ⟨v2, k3, o3, hS, hX2⟩ ⟨fv2, d1, d2, d3⟩ hdef
      have lg := HG.out
      obtain ⟨hfa, hYS, hgd, hfvl, hvl⟩ := HE.out
      obtain ⟨f1, lb1, lo1⟩ := HF1.out
      have hds : ∀ D ∈ Ds, V.heap[D]? = some (.deferred (some [])) := fun D hD => by
        have hd0 := (lg.ds D hD).2
        have hDl := blk_lt hd0
        refine hF.blk (f1.blk hd0 fun e => e) ?_
        rintro ((e | e) | e | e | e)
        · rw [e, lg.b] at hd0; cases hd0
        · obtain ⟨o9, q1, q2⟩ := own_cells lg.o D e
          rw [hd0] at q1; cases q1; cases q2
        · omega
        · rw [e, lg.r.1] at hd0; cases hd0
        · obtain ⟨o9, q1, q2⟩ := own_cells lg.r.2.1 D e
          rw [hd0] at q1; cases q1; cases q2
      have hG2 : LG w ps w.heap.size (w.heap.size + 1) (D' :: Ds) (k + 1) v2 fv2 (os ++ os5) st5 V := {
        nd := List.nodup_cons.2 ⟨fun e => by have := blk_lt (lg.ds D' e).2; omega, lg.nd⟩
        ds := fun D hD => by
          rcases List.mem_cons.1 hD with rfl | hD
          · exact ⟨by omega, hdef⟩
          · exact ⟨(lg.ds D hD).1, hds D hD⟩
        fr := (lg.fr.trans f1).trans3 hF fun q hq e => by
          rcases e with (e | e) | e | e | e
          · omega
          · have := hvl q e; omega
          · omega
          · omega
          · have := lg.e q e; omega
        b := k3
        o := o3
        r := d1
        f := hfa
        d := fun q hq => ⟨fun e => d2 (.inl (e ▸ (hX2 q).2 (.inr hq))), fun e => (d3 q e).1 (.inl ((hX2 q).2 (.inr hq)))⟩
        e := fun q hq => by
          rcases (d3 q hq).2 with e | e
          · exact lg.e q e
          · omega }
      have HG2 := Lib.hid hG2
      clear hG2 hds lg hfa hYS hgd hfvl hvl f1 lb1 lo1 hseq hYl e0 hD' hxD hG9 hF k3 o3 hS hX2 d1 d2 d3 hdef
      gi_wp2_with fail
      exact HK.out _ _ (Handed.intro (ps.length - (k + 1)) (by omega) (HJ.out _ _ _ ⟨k + 1, D' :: Ds, v2, fv2, os ++ os5, st5, _, _, _, _, _, _, _, _, rfl, by omega, by first | rfl | (congr 1), HG2⟩))
  · obtain rfl : k = ps.length := by omega
    have lg := HG.out
    obtain ⟨Av, cv, ev⟩ := row_slice lg.o
    subst ev
    have c3 := blk_cell lg.b 0
    have HV := Lib.hid (valuesLn Av os.length cv W)
    have hfa := lg.f
    rw [List.take_length] at hfa
    have HE := Lib.hid (And.intro lg hfa)
    clear lg hfa HG
    gi_wp2_with fail
    refine ⟨trivial, (calls_wide (.inl rfl) HV.out).mono ?_⟩
    rintro e W1 ⟨rfl, hW1⟩
    obtain ⟨lg, hfa⟩ := HE.out
    have f1 : Fr (fun _ => False) W W1 := by rw [hW1]; exact (Fr.refl _ W).alloc _
    have kb : W1.heap[W.heap.size]? = some (.cells #[.slice Av os.length cv] 27 (0, 0)) := by rw [hW1]; exact World.alloc_heap_new W _
    have HF := Lib.hid (And.intro lg (And.intro hfa (And.intro f1 kb)))
    clear lg hfa f1 kb hW1 HV HE
    gi_wp2_with fail
    obtain ⟨lg, hfa, f1, kb⟩ := HF.out
    have hsl : w.heap.size ≤ W.heap.size := lg.fr.size
    refine leavesF Ds W1 lg.nd (fun D hD => f1.blk (lg.ds D hD).2 fun e => e) (fun w' hf => ?_)
    refine ⟨_, results_tmp rfl _ _ _, ?_⟩
    have hno : ∀ q, (Value.slice Av os.length cv).ownBlock = some q → q ∉ Ds := fun q hq e => by
      obtain ⟨o9, q1, q2⟩ := own_cells lg.o q hq
      rw [(lg.ds q e).2] at q1; cases q1; cases q2
    refine ⟨W.heap.size, .slice Av os.length cv, rfl, hf.blk kb fun e => by have := blk_lt (lg.ds _ e).2; omega, hsl, ?_, fun e => by have := (lg.o.lt _ e).2; omega, ?_⟩
    · rw [hfa]
      exact ownLn_base (ownLn_kept (ownLn_kept lg.o fun q hq => f1.block q (lg.o.lt q hq).2 fun e => e) fun q hq => hf.block q (Nat.lt_of_lt_of_le (lg.o.lt q hq).2 f1.size) (hno q hq)) (by omega)
    · exact (lg.fr.trans f1).trans3 hf fun q hq e => by have := (lg.ds q e).1; omega
end Go.Proofs.YtaajfbbogihbnaaDoor
