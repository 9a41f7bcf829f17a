/- Layer 5: FrameLines, walked. -/
import Derived.Test.YtaajfbbogihbnaaDoorFrU
import Derived.Test.YtaajfbbogihbnaaDoorFrI
namespace Go.Proofs.YtaajfbbogihbnaaDoor
set_option linter.unusedVariables false
set_option linter.unusedSimpArgs false
open Go Go.RowKit Go.Lib
attribute [local go_sem] Oper.semAt_some

set_option maxRecDepth 100000 in
set_option maxHeartbeats 16000000 in
theorem frameLines_walk (v : Value) (ps : List (List UInt8)) (w : World) (hP : Pieces w v ps) (hT : Tabs8 w) :
    Calls Tryd.prog 4 #[v] w fun e w' => e = .returned (.bool true) ∧ Below w.heap.size w w' := by
  obtain ⟨i0, hi, hz0, hz1, hz2⟩ := info_parts Tryd.infoLn
  obtain ⟨i1, hi1, hy0, hy1, hy2⟩ := info_parts Tryd.info8
  obtain ⟨A, c, rfl, hc⟩ := hP
  have hT3 := tabs8_lt hT
  have H := Lib.hid (And.intro hc hT)
  clear hc hT
  refine (callsIn_wide (n := 20)).1 ?_
  refine callsIn_of_wp_marks Tryd.func4 rfl trivial ?_ rfl
  simp only [Tryd.ntmps4, List.size_toArray, List.length_cons, List.length_nil, Nat.reduceAdd, Nat.reduceSub, Array.replicate_succ, Array.replicate_zero, List.push_toArray, List.append_toArray, List.nil_append, List.cons_append]
  have k0 : (w.alloc (.cells #[.bool false] 4)).heap[w.heap.size]? = some (.cells #[.bool false] 4 (0, 0)) := World.alloc_heap_new w _
  have f0 : Fr (fun _ => False) w (w.alloc (.cells #[.bool false] 4)) := (Fr.refl _ _).alloc _
  have HA := Lib.hid (awake05 _ (tabs8_kept H.out.2 f0 fun _ _ e => e))
  have H0 := Lib.hid (And.intro k0 f0)
  clear k0 f0
  gi_wp2_with fail
  refine ⟨trivial, (calls_wide (.inl rfl) HA.out).mono ?_⟩
  rintro e w1 ⟨rfl, f1⟩
  clear HA
  obtain ⟨k0, f0⟩ := H0.out
  have k1 := f1.blk k0 fun e => e
  have F1 := f0.trans f1
  have c1 := blk_cell k1 0
  have g1 := blk_free k1 0
  simp only [List.getElem?_toArray, List.getElem?_cons_zero, List.getElem?_cons_succ] at c1
  have hz1w := F1.size
  have HF1 := Lib.hid (And.intro k1 F1)
  have hw1l := blk_lt k1
  clear k0 f0 H0 f1 k1 F1
  -- what is told where nothing is looked at
  have out : ∀ W, W.heap[w.heap.size]? = some (.cells #[.bool false] 4 (0, 0)) → Fr (fun _ => False) w W → ∀ w', Fr (fun k => k ∈ ([] : List Nat)) (W.setCell ⟨w.heap.size, 0, none⟩ (.bool true)) w' → w'.cell? ⟨w.heap.size, 0, none⟩ = some (.bool true) ∧ Below w.heap.size w w' := fun W k f w' hf => by
    have k2 := blk_set k 0 (.bool true)
    have k3 := hf.blk k2 (by simp)
    refine ⟨blk_cell k3 0, ?_⟩
    have f2 : Fr (fun k => k = w.heap.size) w (W.setCell ⟨w.heap.size, 0, none⟩ (.bool true)) := Fr.setCell (X := fun k => k = w.heap.size) (f.mono fun _ _ e => e.elim) ⟨w.heap.size, 0, none⟩ rfl _
    exact (f2.trans3 hf fun k _ e => by simp at e).below (Nat.le_refl _) fun k hk e => by omega
  have HOUT := Lib.hid out
  clear out
  by_cases h20 : ps.length ≤ 20
  · have h20' : ¬ ((20 : Int) < (ps.length : Int)) := by omega
    gi_wp2_with fail
    gi_loopg [3, 4] ps.length (fun g s3 s4 wr => ∃ (i : Nat) (A3 : Option Addr) (c3 : Nat), i + g = ps.length ∧ s4 = .int .i64 i ∧ s3 = .slice A3 (ps.take i).flatten.length c3 ∧ (∀ p ∈ ps.take i, p.length ≤ 600) ∧
      Hid (Own8 (w.heap.size + 1) wr (.slice A3 (ps.take i).flatten.length c3) (ps.take i).flatten ∧ wr.heap[w.heap.size]? = some (.cells #[.bool false] 4 (0, 0)) ∧ Fr (fun _ => False) w wr))
    case atStart => exact ⟨0, none, 0, by omega, rfl, rfl, (fun p hp => by simp at hp), own8_nil _ _, HF1.out.1, HF1.out.2⟩
    case round =>
      obtain ⟨i, A3, c3, hig, rfl, rfl, h6, HX⟩ := hrel
      cases gk with
      | zero =>
        obtain rfl : i = ps.length := by omega
        have hiz : ¬ ((ps.length : Int) < (ps.length : Int)) := by omega
        rw [List.take_length] at HX h6 ⊢
        have hfl := flat_len ps h6
        obtain ⟨L, hL⟩ : ∃ L, ps.flatten = L := ⟨_, rfl⟩
        rw [hL] at HX hfl ⊢
        have hall := allRef L _ wr (by omega) (own8_at HX.out.1)
        obtain ⟨⟨xs, stx⟩, hxs⟩ : ∃ x, feedM ([], false) L = x := ⟨_, rfl⟩
        have hcnt := feedM_count L ([], false)
        rw [hxs] at hall hcnt
        simp only at hall hcnt
        have HAL := Lib.hid hall
        have HL := Lib.hid (And.intro hL hxs)
        have HN6 := Lib.hid h6
        clear hall hL hxs h6
        gi_wp2_with fail
        refine ⟨trivial, (calls_wide (.inl rfl) HAL.out).mono ?_⟩
        rintro e Wa ⟨va, rfl, oa, fa⟩
        obtain ⟨Aw, cw, rfl⟩ := row_slice oa
        obtain ⟨W8, hW8⟩ : ∃ W8, (Wa.alloc (.cells #[.slice Aw xs.length cw] 27)).alloc (.cells #[.slice none 0 0] 27) = W8 := ⟨_, rfl⟩
        have f8 : Fr (fun _ => False) Wa W8 := by rw [← hW8]; exact ((Fr.refl _ _).alloc _).alloc _
        have z8 : W8.heap.size = Wa.heap.size + 2 := by rw [← hW8]; simp
        have k5 : W8.heap[Wa.heap.size]? = some (.cells #[.slice Aw xs.length cw] 27 (0, 0)) := by rw [← hW8]; exact blk_alloc (World.alloc_heap_new Wa _) _
        have k8 : W8.heap[Wa.heap.size + 1]? = some (.cells #[.slice none 0 0] 27 (0, 0)) := by
          rw [← hW8]
          have := World.alloc_heap_new (Wa.alloc (.cells #[.slice Aw xs.length cw] 27)) (.cells #[.slice none 0 0] 27)
          simpa using this
        have F8 : Fr (fun _ => False) w W8 := (HX.out.2.2.trans fa).trans f8
        have kr : W8.heap[w.heap.size]? = some (.cells #[.bool false] 4 (0, 0)) := f8.blk (fa.blk HX.out.2.1 fun e => e) fun e => e
        have oa8 : OwnLn wr.heap.size W8 (.slice Aw xs.length cw) xs := ownLn_kept oa fun q hq => f8.block q (oa.lt q hq).2 fun e => e
        have hob : ∀ q, (Value.slice Aw xs.length cw).ownBlock = some q → q < Wa.heap.size := fun q hq => (oa.lt q hq).2
        have hwa := (HX.out.2.2.trans fa).size
        have hwr := HX.out.2.2.size
        have hwl := blk_lt HX.out.2.1
        have hfa := fa.size
        have hla := linesAll A c ps W8 h20 HN6.out (tabs8_kept H.out.2 F8 fun _ _ e => e) (fun h0 => by
          obtain ⟨g, o, e, hgl, hcc⟩ := H.out.1 h0
          refine ⟨g, o, e, Nat.lt_of_lt_of_le hgl F8.size, fun i hi => ?_⟩
          obtain ⟨B, d, q1, q2⟩ := hcc i hi
          exact ⟨B, d, (F8.cell (p := ⟨g, o + i, none⟩) hgl fun e => e).trans q1, at8_kept q2 F8 fun _ _ _ e => e⟩)
        have HLA := Lib.hid hla
        have HW := Lib.hid (And.intro k5 (And.intro k8 (And.intro F8 (And.intro kr (And.intro oa8 hob)))))
        clear HAL HX oa fa f8 k5 k8 F8 kr oa8 hob hla
        gi_wp2_with fail
        first | rw [hW8] | skip
        refine ⟨trivial, (calls_wide (.inl rfl) HLA.out).mono ?_⟩
        rintro e W9 ⟨Bx, vv, rfl, kx, hbx, ox, hvb, f9⟩
        rw [HL.out.1, HL.out.2] at ox
        simp only at ox
        obtain ⟨k5, k8, F8, kr, oa8, hob⟩ := HW.out
        have hseq := values_seqL W8.heap.size Bx vv xs W9 (by omega) kx ox
        have k59 := f9.blk k5 fun e => e
        have k89 := f9.blk k8 fun e => e
        have hYl : ∀ b, rowYL Bx vv b → W8.heap.size ≤ b ∧ b < W9.heap.size := fun b hb => by
          rcases hb with rfl | hb
          · exact ⟨hbx, blk_lt kx⟩
          · exact ox.lt b hb
        have hnil : ∀ W, (binOp BinOp.eql 35 (.func (.func 23) #[] #[.pointer (some ⟨Bx, 0, none⟩)]) Value.nilFunc).run Tryd.prog W = .ok (.bool false) W := fun W => by rfl
        have H9 := Lib.hid (And.intro k59 (And.intro k89 (And.intro (F8.trans f9) (And.intro (f9.blk kr fun e => e) (And.intro (ownLn_kept oa8 fun q hq => f9.block q (by have := hob q hq; omega) fun e => e) hob)))))
        clear HLA HW k5 k8 F8 kr oa8 hob kx ox hvb f9 k59 k89 hW8
        gi_wp2_with (simp only [hnil])
        have hnb : ∀ b, rowYL Bx vv b → b < W9.heap.size := fun b hb => (hYl b hb).2
        have hS8 := blk_lt H9.out.2.1
        refine wpIn_rangeF (X := fun q => q = Wa.heap.size + 1) (Y := rowYL Bx vv) (xs := xs) (encs := encLn) (gf := 23) (lb := #[.pointer (some ⟨Bx, 0, none⟩)]) (BoxLn (Wa.heap.size + 1) (Wa.heap.size + 1 + 1)) (fun _ _ _ _ => False)
          rfl hseq (fun q hq => ⟨by omega, fun e => by have := (hYl q e).1; omega⟩) hnb (by omega) (enters_of Tryd.func23 (by kernel_rfl) rfl) (fun _ => rfl)
          (boxLn_stays _ _) (fun c s X1 V1 V2 h => h.elim) ⟨_, H9.out.2.1, ownLn_nil _ _, by omega, fun q => by simp [Value.ownBlock]⟩ ?round ?done (fun _ _ _ _ _ _ _ _ _ _ _ h => h.elim)
        case round =>
          rintro l pre x r X1 V K9 rb hl2 hpx hI hG9 hxl1 hF hlV hK9
          dsimp only [encLn, lineV]
          have HK9 := Lib.hid hK9
          have HV := Lib.hid (And.intro hpx (And.intro hI (And.intro hG9 (And.intro hxl1 (And.intro hF (And.intro hlV hl2))))))
          clear hK9 hpx hI hG9 hxl1 hF hlV hl2 hseq hYl hnb hnil
          gi_wp2_with fail
          refine HK9.out _ _ ((Fr.refl _ V).alloc _) fun Vb hfb hzb hsb hrb => ?_
          clear HK9 K9
          obtain ⟨hpx, ⟨vb, k3, o3, hS, hX1⟩, hG9, hxl1, hF, hlV, hl2⟩ := HV.out
          have hzs : Vb.heap.size = V.heap.size + 1 := by rw [hzb]; simp
          have kl5 : Vb.heap[V.heap.size]? = some (.cells #[.string (bs x.1), .bool x.2] 38 (0, 0)) := (hsb V.heap.size (by omega)).trans (World.alloc_heap_new V _)
          have hSl9 : Wa.heap.size + 1 ≠ l := fun e => hxl1 ((hX1 l).2 (.inl e.symm))
          have k3b := hfb.blk k3 hSl9
          have o3b : OwnLn (Wa.heap.size + 1 + 1) Vb vb pre := ownLn_kept o3 fun g hg => hfb.block g (o3.lt g hg).2 fun e => hxl1 ((hX1 l).2 (.inr (e ▸ hg)))
          have kw := hfb.blk (hF.blk H9.out.1 (by omega)) (by omega)
          have c3 := blk_cell k3b 0
          have g3 := blk_free k3b 0
          have cw5 := blk_cell kw 0
          have c50 := blk_cell kl5 0
          have c51 := blk_cell kl5 1
          simp only [List.getElem?_toArray, List.getElem?_cons_zero, List.getElem?_cons_succ] at c3 c50 c51 cw5
          have hpl : pre.length < xs.length := by
            have h2 : (pre ++ x :: r).length = xs.length := by rw [hpx]
            rw [List.length_append, List.length_cons] at h2
            omega
          have hpz : ¬ ((xs.length : Int) ≤ (pre.length : Int)) := by omega
          have hVw : W9.heap.size ≤ V.heap.size := hF.size
          have hbz : Wa.heap.size + 1 + 1 ≤ Vb.heap.size := by omega
          have HS := Lib.hid (And.intro hX1 (And.intro hG9 (And.intro hxl1 (And.intro hfb (And.intro hrb (And.intro k3b (And.intro o3b (And.intro hzs (And.intro hlV hSl9)))))))))
          obtain ⟨Av, cv, ev⟩ := row_slice o3b
          subst ev
          have hor : Vb.ownsRow (Wa.heap.size + 1 + 1) 38 2 (.slice Av pre.length cv) pre.length (pre.flatMap encL2) := o3b
          have HO := Lib.hid hor
          clear hor hpx k3 o3 hS hX1 hG9 hxl1 hF hlV hl2 hfb hzb hsb hrb kl5 hSl9 k3b o3b hVw hzs kw
          gi_wp2_with (first | (gi_at_builtin; refine Hid.out ?_))
          refine Lib.hid ?_
          refine wpListIn_one_t rfl _ _ 27 rfl (Wa.heap.size + 1 + 1) 38 i0 _ 2 24 Tryd.underlying27 hi hz0 hz1 hz2 rfl (by decide) _ _ _ rfl HO.out #[.string (bs x.1), .bool x.2] _ rfl rfl rfl (by intro u hu; simp at hu; rcases hu with rfl | rfl <;> rfl) (by omega) (by decide) hbz ?_
          intro v1 W2 o1 f1 t1
          obtain ⟨A1, n1, rfl⟩ := row_slice o1
          obtain ⟨hX1, hG9, hxl1, hfv, hrb, k3b, o3b, hzs, hlV, hSl9⟩ := HS.out
          have hvS : (Value.slice Av pre.length cv).ownBlock ≠ some (Wa.heap.size + 1) := fun e => by have := (o3b.lt _ e).1; omega
          have k6 := f1.blk k3b hvS
          have c6 := blk_cell k6 0
          have g6 := blk_free k6 0
          have HFx := Lib.hid (And.intro o1 (And.intro f1 (And.intro t1 (And.intro hvS k6))))
          clear o1 f1 t1 hX1 hG9 hxl1 hfv hrb k3b o3b hzs hlV hSl9 hvS k6
          gi_wp2_with fail
          obtain ⟨hX1, hG9, hxl1, hfv, hrb, k3b, o3b, hzs, hlV, hSl9⟩ := HS.out
          obtain ⟨o1, f1, t1, hvS, k6⟩ := HFx.out
          have o1' : OwnLn (Wa.heap.size + 1 + 1) W2 (.slice A1 (pre.length + 1) n1) (pre ++ [x]) := ownLn_snoc o1
          have hvl9 : (Value.slice Av pre.length cv).ownBlock ≠ some l := fun e => hxl1 ((hX1 l).2 (.inr e))
          have hsz : (W2.setCell ⟨Wa.heap.size + 1, 0, none⟩ (.slice A1 (pre.length + 1) n1)).heap.size = W2.heap.size := by simp
          refine ⟨fun k => k = Wa.heap.size + 1 ∨ (Value.slice A1 (pre.length + 1) n1).ownBlock = some k, fun k hk => ?_, ?_, blk_other (f1.blk hrb hvl9) _ (by simpa using fun e => hSl9 e.symm) _, .slice A1 (pre.length + 1) n1, blk_set k6 0 _, ownLn_kept o1' fun g hg => heap_setCell_other _ _ g _ (by have := (o1'.lt g hg).1; simp; omega), by omega, fun k => Iff.rfl⟩
          · rw [hsz]
            have hz2 := f1.size
            rcases hk with rfl | hk
            · exact ⟨blk_lt k6, fun _ => (hX1 _).2 (.inl rfl)⟩
            · refine ⟨(o1.lt k hk).2, fun hlt => ?_⟩
              rcases t1 k hk with e | e
              · exact (hX1 k).2 (.inr e)
              · omega
          · exact (((hfv.mono (Y := fun k => k = l ∨ X1 k) fun k _ e => .inl e)).trans3 f1 fun k _ e => .inr ((hX1 k).2 (.inr e))).setCell ⟨Wa.heap.size + 1, 0, none⟩ (.inr ((hX1 _).2 (.inl rfl))) _
        case done =>
          rintro D' X2 V hD' hxD hG9 hF ⟨v2, k3, o3, hS, hX2⟩ hdef
          obtain ⟨k5, k8, F9, kr, oa8, hob⟩ := H9.out
          have kw := hF.blk k5 (by omega)
          have krV := hF.blk kr (by omega)
          have oaV : OwnLn wr.heap.size V (.slice Aw xs.length cw) xs := ownLn_kept oa8 fun q hq => hF.block q (oa8.lt q hq).2 fun e => by have := hob q hq; omega
          have FV : Fr (fun _ => False) w V := F9.trans3 hF fun q hq e => by omega
          obtain ⟨A2, c2', ev2⟩ := row_slice o3
          subst ev2
          have cg := blk_cell k3 0
          have cwn := blk_cell kw 0
          simp only [List.getElem?_toArray, List.getElem?_cons_zero, List.getElem?_cons_succ] at cg cwn
          have hsm := sameLn _ _ _ _ _ _ V o3 oaV (by omega) (by omega)
          simp only [decide_true] at hsm
          have HSM := Lib.hid hsm
          have HE := Lib.hid (And.intro krV (And.intro FV (And.intro hdef hD')))
          clear hsm krV FV hdef hD' kw oaV k3 o3 hS hX2 hxD hG9 hF k5 k8 F9 kr oa8 hob hseq hYl hnb hnil
          gi_wp2_with fail
          refine ⟨trivial, (calls_wide (.inl rfl) HSM.out).mono ?_⟩
          rintro e W10 ⟨rfl, f10⟩
          obtain ⟨krV, FV, hdef, hD'⟩ := HE.out
          have kr10 := f10.blk krV fun e => e
          have cr := blk_cell kr10 0
          have gr := blk_free kr10 0
          simp only [List.getElem?_toArray, List.getElem?_cons_zero, List.getElem?_cons_succ] at cr
          have HE2 := Lib.hid (And.intro kr10 (And.intro (FV.trans f10) (And.intro (f10.blk hdef fun e => e) hD')))
          clear krV FV hdef hD' kr10 f10 HE HSM
          gi_wp2_with fail
          obtain ⟨kr10, F10, hdef, hD'⟩ := HE2.out
          have hne : D' ≠ w.heap.size := by omega
          have k11 := blk_set kr10 0 (.bool true)
          have d11 := blk_other hdef ⟨w.heap.size, 0, none⟩ hne (.bool true)
          have F11 : Fr (fun k => k = w.heap.size) w (W10.setCell ⟨w.heap.size, 0, none⟩ (.bool true)) := Fr.setCell (X := fun k => k = w.heap.size) (F10.mono fun _ _ e => e.elim) ⟨w.heap.size, 0, none⟩ rfl _
          refine leaves_one D' _ d11 (fun w' hf => ?_)
          refine ⟨_, results_box rfl _ _ w.heap.size (.bool true) _ rfl (blk_cell (hf.blk k11 (by omega)) 0) Tryd.underlying4 rfl, rfl, ?_⟩
          exact (F11.trans3 hf fun k hk e => by omega).below (Nat.le_refl _) fun k hk e => by omega
      | succ gm =>
        have hi9 : i < ps.length := by omega
        have hiz : (i : Int) < (ps.length : Int) := by omega
        have hwi : IntKind.i64.wrap ((i : Int) + 1) = (i : Int) + 1 := IntWalk.i64_in _ (by omega)
        obtain ⟨g, o, rfl, hgl, hcc⟩ := H.out.1 (by omega)
        obtain ⟨B, d, hcell, hat⟩ := hcc i hi9
        have hci := (HX.out.2.2.cell (p := ⟨g, o + i, none⟩) hgl fun e => e).trans hcell
        have hpa := at8_kept hat HX.out.2.2 fun _ _ _ e => e
        have hft := flat_take2 hi9
        have h6n : ps[i].length ≤ 600 → ∀ p ∈ ps.take (i + 1), p.length ≤ 600 := fun hh p hp => by
          rw [List.take_succ_eq_append_getElem hi9] at hp
          rcases List.mem_append.1 hp with hp | hp
          · exact h6 p hp
          · rw [List.mem_singleton] at hp; rw [hp]; exact hh
        have hfl := flat_len (ps.take i) h6
        have htl : (ps.take i).length ≤ 20 := by rw [List.length_take]; omega
        obtain ⟨p, hp⟩ : ∃ p, ps[i] = p := ⟨_, rfl⟩
        rw [hp] at hci hpa hft h6n
        obtain ⟨L, hL⟩ : ∃ L, (ps.take i).flatten = L := ⟨_, rfl⟩
        rw [hL] at HX hft hfl ⊢
        have hLl : L.length ≤ 12000 := by omega
        have c2 := blk_cell HX.out.2.1 0
        have g2 := blk_free HX.out.2.1 0
        simp only [List.getElem?_toArray, List.getElem?_cons_zero, List.getElem?_cons_succ] at c2
        by_cases h600 : p.length ≤ 600
        · have h6' : ¬ ((600 : Int) < (p.length : Int)) := by omega
          have HO := Lib.hid HX.out.1
          have HS := Lib.hid (src8 hpa)
          have H6 := Lib.hid (And.intro (h6n h600) hft)
          have hwx := HX.out.2.2.size
          have hwl := blk_lt HX.out.2.1
          clear hpa hft h6n hcell hat hcc hp hL hfl htl c2 g2
          gi_wp2_with (first | (gi_at_builtin; refine Hid.out ?_))
          refine Lib.hid ?_
          refine wpListIn_app_u rfl _ _ 26 26 rfl (w.heap.size + 1) 5 i1 _ 1 1 Tryd.underlying26 hi1 hy0 hy1 hy2 rfl _ L.length (L.map enc8) rfl HO.out (.slice B p.length d) p.length (p.map enc8) rfl HS.out (by omega) (by decide) (by omega) ?_
          intro v4 W4 o4 f4 t4
          have o4' : Own8 (w.heap.size + 1) W4 v4 (L ++ p) := own8_app o4
          obtain ⟨A4, c4, ev4⟩ := row_slice o4
          subst ev4
          have hN : Hid (Own8 (w.heap.size + 1) W4 (.slice A4 (ps.take (i + 1)).flatten.length c4) (ps.take (i + 1)).flatten ∧ W4.heap[w.heap.size]? = some (.cells #[.bool false] 4 (0, 0)) ∧ Fr (fun _ => False) w W4) := by
            rw [H6.out.2, List.length_append]
            exact ⟨o4', f4.blk HX.out.2.1 (fun e => by have := (own_lt8 HX.out.1 e).1; omega), HX.out.2.2.trans3 f4 fun q hq e => by have := (own_lt8 HX.out.1 e).1; omega⟩
          have hln : (ps.take (i + 1)).flatten.length = L.length + p.length := by rw [H6.out.2, List.length_append]
          have HLN := Lib.hid hln
          clear o4 f4 t4 o4' HO HS hln
          gi_wp2_with fail
          gi_roundg gm
          case measure => omega
          case rel => exact ⟨i + 1, A4, c4, by omega, by simp, by rw [HLN.out], H6.out.1, hN⟩
        · have h6' : ((600 : Int) < (p.length : Int)) := by omega
          clear hpa hft h6n hcell hat hcc hp hL hfl htl
          gi_wp2_with fail
          exact leavesF [] _ List.nodup_nil (fun D hD => by cases hD) fun w' hf => ⟨_, results_box rfl _ _ w.heap.size (.bool true) _ rfl (HOUT.out _ HX.out.2.1 HX.out.2.2 w' hf).1 Tryd.underlying4 rfl, rfl, (HOUT.out _ HX.out.2.1 HX.out.2.2 w' hf).2⟩
  · have h20' : ((20 : Int) < (ps.length : Int)) := by omega
    gi_wp2_with fail
    exact leavesF [] _ List.nodup_nil (fun D hD => by cases hD) fun w' hf => ⟨_, results_box rfl _ _ w.heap.size (.bool true) _ rfl (HOUT.out _ HF1.out.1 HF1.out.2 w' hf).1 Tryd.underlying4 rfl, rfl, (HOUT.out _ HF1.out.1 HF1.out.2 w' hf).2⟩
end Go.Proofs.YtaajfbbogihbnaaDoor
