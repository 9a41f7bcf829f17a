/- Layer 10: gather: what some functions tell, each thing once, rising. -/
import Derived.Test.YteiiaocohpbanaaSetH
namespace Go.Proofs.Yteiiaocohpbanaa
set_option linter.unusedVariables false
set_option linter.unusedSimpArgs false
open Go Go.RowKit Go.Lib Go.Sort Go.Shelf
attribute [local go_sem] Oper.semAt_some

/-- a mark that a range over a function leaves -/
def mark (D : Nat) : Deferred := { target := .collected D, args := #[] }
/-- a function leaves through its marks -/
theorem leaves_marks {F : Fence} {n : Nat} {P : Program} {fn : Func} {tmps : Array Value} {R : Ending → World → Prop} : ∀ (Ds : List Nat) (w : World), Ds.Nodup → (∀ D ∈ Ds, w.heap[D]? = some (.deferred (some []))) →
    (∀ w', Fr (fun k => k ∈ Ds) w w' → ∃ v, (results fn tmps).run P w' = .ok v w' ∧ R (.returned v) w') → LeavesInM F n P fn tmps R (Ds.map mark) .returning w
  | [], w, _, _, h => h w (Fr.refl _ _)
  | D :: Ds, w, hn, hd, h => by
    rw [List.nodup_cons] at hn
    have h0 := hd D (by simp)
    refine ⟨by simp, .inl ⟨_, _, rfl, run_takeDeferred h0, ?_⟩⟩
    refine leaves_marks Ds _ hn.2 (fun D2 h2 => (World.putObj_heap_other fun e => hn.1 (by cases e; exact h2)).trans (hd D2 (by simp [h2]))) fun w' hf => h w' ?_
    have h1 : Fr (fun k => k ∈ D :: Ds) w (w.putObj D (.deferred none)) := ⟨rfl, rfl, rfl, by simp [World.putObj], fun k _ hk => World.putObj_heap_other fun e => hk (by simp [e])⟩
    exact h1.trans2 hf fun k _ hk => by simp [hk]

theorem marks_own {β : Type} (B : Nat) (Ds : List Nat) : OwnFrom B (fun (_ : β) V => ∀ D ∈ Ds, D < B ∧ V.heap[D]? = some (.deferred (some []))) := fun s V V' row h hg hrow D hD => by
  obtain ⟨a, b⟩ := h D hD
  exact ⟨a, (hg.block D (blk_lt b) (fun e => by have := (hrow D e.symm).1; omega)).trans b⟩
def GatG (w : World) (tl : List (List Int)) (Ds : List Nat) (k : Nat) (W : World) : Prop :=
  Ds.Nodup ∧ (∀ D ∈ Ds, w.heap.size < D ∧ W.heap[D]? = some (.deferred (some []))) ∧ BoxI w.heap.size (w.heap.size + 1) W ((tl.take k).flatten) ∧ Below w.heap.size w W
set_option maxRecDepth 100000 in
set_option maxHeartbeats 4000000 in
theorem gather_of {w : World} (A : Option Addr) (tl : List (List Int)) (c : Nat) (hn : tl.length ≤ 1000) (hl : tl.flatten.length ≤ 1000000)
    (hc : 0 < tl.length → ∃ g o, A = some ⟨g, o, none⟩ ∧ g < w.heap.size ∧ ∀ j (h : j < tl.length), ∃ F, w.cell? ⟨g, o + j, none⟩ = some F ∧ Tells w F tl[j]) (ss : List Int) (hss : (tl.flatten.mergeSort fun x y => decide (x ≤ y)) = ss) :
    Calls Try.prog 23 #[.slice A tl.length c] w (ListP (compact ss) w) := by
  have hsl : ss.length ≤ 1000000 := by rw [← hss, List.length_mergeSort]; exact hl
  have HSS := Lib.hid hss
  clear hss
  obtain ⟨i0, hi, hz0, hz1, hz2⟩ := info_parts Try.infoI
  refine (callsIn_wide (n := 30)).1 ?_
  refine callsIn_of_wp_marks Try.func23 rfl trivial ?_ rfl
  simp only [Try.ntmps23, List.size_toArray, List.length_cons, List.length_nil, Nat.reduceAdd, Nat.reduceSub, Array.replicate_succ, Array.replicate_zero, List.push_toArray, List.append_toArray, List.nil_append, List.cons_append]
  gi_wp2_with fail
  have hb0 : (w.alloc (Obj.cells #[Value.slice none 0 0] 26)).heap[w.heap.size]? = some (.cells #[.slice none 0 0] 26 (0, 0)) := heap_alloc_new w _
  have G0 : GatG w tl [] 0 (w.alloc (Obj.cells #[Value.slice none 0 0] 26)) := ⟨List.nodup_nil, (fun _ h => by cases h), ⟨_, hb0, own_nil _ _⟩, (Below.refl _ w).alloc (Nat.le_refl _) _⟩
  have HC := Lib.hid hc
  clear hb0 hc
  refine wpIn_loop_ghost_k (fun n a W => ∃ (k : Nat) (Ds : List Nat) (u5 u10 u11 u12 u13 u19 : Value), n = tl.length - k ∧ k ≤ tl.length ∧ a = { tmps := #[Value.slice A tl.length c, undef, Value.slice none 0 0, Value.pointer (some { block := w.heap.size, off := 0 }), undef, u5, undef, Value.slice A tl.length c, Value.int IntKind.i64 tl.length, Value.int IntKind.i64 k, u10, u11, u12, u13, undef, undef, undef, undef, undef, u19, undef, undef, undef, undef], defers := Ds.map mark } ∧ Hid (GatG w tl Ds k W)) tl.length ⟨0, [], _, _, _, _, _, _, rfl, Nat.zero_le _, rfl, G0⟩ ?_
  clear G0
  rintro gk a W ⟨k, Ds, u5, u10, u11, u12, u13, u19, hgk, hk, rfl, HG⟩ J K hJ hK
  by_cases hlt : k < tl.length
  · obtain ⟨g, o, rfl, hg, hcell⟩ := HC.out (by omega)
    obtain ⟨F, hF, hT⟩ := hcell k hlt
    obtain ⟨gf, lb, Y, rfl, hseq, hY, heg⟩ := hT
    obtain ⟨d1, d2, ⟨vb, d3, d4⟩, d5⟩ := HG.out
    have e0 : W.cell? ⟨g, o + k, none⟩ = some (.func (.func gf) #[] lb) := (World.cell?_of_block (w := w) (w' := W) (a := ⟨g, o + k, none⟩) (d5.block g hg)).trans hF
    have HSq := Lib.hid hseq
    have HEg := Lib.hid heg
    have HJ := Lib.hid hJ
    have HK := Lib.hid hK
    have hWz := d5.size
    clear d1 d2 d3 d4 d5 hcell hF hseq heg hJ hK
    gi_wp2_with fail
    obtain ⟨d1, d2, ⟨vb, d3, d4⟩, d5⟩ := HG.out
    have hfl : ((tl.take k).flatten).length + (tl[k]).length ≤ tl.flatten.length := by
      have h1 := congrArg (fun l => (List.flatten l).length) (List.take_append_drop (k + 1) tl)
      simp only [List.flatten_append, List.length_append, List.take_succ_eq_append_getElem hlt, List.flatten_cons, List.flatten_nil, List.append_nil] at h1
      omega
    have htk : (tl.take (k + 1)).flatten = (tl.take k).flatten ++ tl[k] := by rw [List.take_succ_eq_append_getElem hlt, List.flatten_append, List.flatten_cons, List.flatten_nil, List.append_nil]
    obtain ⟨xs, hxs⟩ : ∃ xs, tl[k] = xs := ⟨_, rfl⟩
    obtain ⟨ys, hys⟩ : ∃ ys, (tl.take k).flatten = ys := ⟨_, rfl⟩
    have HSq' := HSq.out
    rw [hxs] at HSq' hfl htk
    rw [hys] at d4 hfl htk
    have hYl : ∀ b, Y b → b < W.heap.size := fun b hb => by have := hY b hb; omega
    refine wpIn_rangeT (X := fun _ => False) (Y := Y) (xs := xs) (encs := encI) (w0 := w) (gf := gf) (lb := lb)
      (fun pre V => (BoxI w.heap.size (w.heap.size + 1) V (ys ++ pre) ∧ (∀ D ∈ Ds, D < W.heap.size ∧ V.heap[D]? = some (.deferred (some [])))) ∧ Below w.heap.size w V) (fun _ _ _ => False)
      rfl (HSq' _ (by omega)) d5 (fun _ h => h.elim) hYl rfl (by omega) trivial HEg.out (fun _ => rfl)
      (OwnFrom.and (OwnFrom.and ((boxI_own _ _ (fun pre => ys ++ pre)).from _) (marks_own _ _)) (ownFrom_below (Nat.le_refl _) d5.size)) (fun _ _ _ _ h => h.elim) (fun _ _ _ _ _ h _ _ => h) (fun _ _ _ _ _ h => h.elim)
      ⟨⟨⟨_, d3, by rw [List.append_nil]; exact d4⟩, fun D hD => ⟨blk_lt (d2 D hD).2, (d2 D hD).2⟩⟩, d5⟩ ?round ?done (fun _ _ _ _ _ _ _ h _ => h.elim)
    case round =>
      rintro l pre x r V0 V K2 hl2 ⟨rl, hrl⟩ hpx ⟨⟨⟨vb, h3, h4⟩, h6⟩, h5⟩ hK
      dsimp only [encI]
      have HK2 := Lib.hid hK
      clear hK
      gi_wp2
      refine HK2.out _ ?_
      clear HK2 K2
      have c3 := blk_cell h3 0
      have f3 := blk_free h3 0
      have hpl : pre.length + 1 ≤ xs.length := by
        have := congrArg List.length hpx
        simp at this; omega
      have hVz := h5.size
      have hVw : W.heap.size ≤ V.heap.size := by have := blk_lt hrl; omega
      have hsz := blk_lt d3
      have hyl : (ys ++ pre).length = ys.length + pre.length := List.length_append
      obtain ⟨zs, hzs⟩ : ∃ zs, ys ++ pre = zs := ⟨_, rfl⟩
      rw [hzs] at h4 hyl
      have hzl : zs.length ≤ 1000000 := by omega
      clear hyl
      have hor : V.ownsRow (w.heap.size + 1) 3 1 vb zs.length (zs.map (Value.int .i64)) := h4
      have HZ := Lib.hid hzs
      clear hzs
      have HO := Lib.hid hor
      have H := Lib.hid (And.intro h3 (And.intro h4 (And.intro h5 (And.intro h6 hrl))))
      clear h3 h4 h5 h6 hrl hor d1 d2 d3 d4 d5 hpx HSq' htk hxs hys
      gi_wp2_with (first | (gi_at_builtin; refine Hid.out ?_))
      refine Lib.hid ?_
      refine wpListIn_app_fr rfl _ _ 26 rfl (w.heap.size + 1) 3 i0 _ 1 8 Try.underlying26 hi hz0 hz1 hz2 rfl (by decide) _ _ _ rfl HO.out #[.int .i64 x] _ rfl rfl rfl (by intro u hu; simp at hu; subst hu; rfl) (by omega) (by decide) (by omega) ?_
      intro v1 W2 hown1 hfr1
      obtain ⟨A1, c1', rfl⟩ := row_slice hown1
      have e1 : W2.heap[w.heap.size]? = some (.cells #[vb] 26 (0, 0)) := (fr_own HO.out hfr1 (by omega) (by omega : w.heap.size < V.heap.size)).trans H.out.1
      have g1 := blk_cell e1 0
      have g2 := blk_free e1 0
      gi_wp2_with fail
      obtain ⟨h3, h4, h5, h6, hrl⟩ := H.out
      have hfr : Fr (fun k => vb.ownBlock = some k ∨ k = w.heap.size) V (W2.setCell ⟨w.heap.size, 0, none⟩ (.slice A1 (zs.length + 1) c1')) := (hfr1.mono fun _ _ h => .inl h).setCell _ (.inr rfl) _
      have hno : ∀ c, c < w.heap.size → ¬ (vb.ownBlock = some c ∨ c = w.heap.size) := by
        rintro c hc (e | e)
        · have := (h4.lt _ e).1; omega
        · omega
      refine ⟨hfr.keeps ?_ _, ?_, ⟨⟨.slice A1 (zs.length + 1) c1', ?_, ?_⟩, ?_⟩, h5.trans (hfr.below h5.size ?_)⟩
      · rintro k hk (e | rfl)
        · exact own_cells h4 k e
        · exact ⟨_, h3, rfl⟩
      · intro c hc
        have := hY c hc
        exact hfr.block c (by omega) (hno c (by omega))
      · have := blk_set e1 0 (.slice A1 (zs.length + 1) c1'); exact this
      · have hown2 : OwnI (w.heap.size + 1) W2 (.slice A1 (zs.length + 1) c1') (ys ++ (pre ++ [x])) := by
          rw [← List.append_assoc, HZ.out]; unfold OwnI; rw [List.length_append, List.map_append]; exact hown1
        exact own_kept hown2 fun g hg => heap_setCell_other W2 _ g _ (by have := (hown2.lt g hg).1; simp; omega)
      · intro D hD
        refine ⟨(h6 D hD).1, hfr.blk (h6 D hD).2 ?_⟩
        rintro (e | e)
        · obtain ⟨o2, a1, a2⟩ := own_cells h4 D e
          rw [(h6 D hD).2] at a1; cases a1; cases a2
        · subst e
          have := (h6 _ hD).2
          rw [h3] at this; cases this
      · rintro k hk (e | rfl)
        · have := (h4.lt k e).1; omega
        · omega
    case done =>
      rintro D V hD ⟨⟨⟨vb, h3, h4⟩, h6⟩, h5⟩ hdef
      have hG : GatG w tl (D :: Ds) (k + 1) V := by
        refine ⟨List.nodup_cons.2 ⟨fun e => by have := (h6 D e).1; omega, d1⟩, ?_, ⟨vb, h3, by rw [htk]; exact h4⟩, h5⟩
        intro E hE
        rcases List.mem_cons.1 hE with rfl | hE
        · exact ⟨by have := blk_lt d3; omega, hdef⟩
        · exact ⟨(d2 E hE).1, (h6 E hE).2⟩
      have HG2 := Lib.hid hG
      clear hG h3 h4 h5 h6 hdef d1 d2 d3 d4 d5 HSq' htk hxs hys hYl
      gi_wp2_with fail
      exact HK.out _ _ (Handed.intro (tl.length - (k + 1)) (by omega) (HJ.out _ _ _ ⟨k + 1, D :: Ds, _, _, _, _, _, _, rfl, by omega, rfl, HG2⟩))
  · obtain rfl : k = tl.length := by omega
    have htk : (tl.take tl.length).flatten = tl.flatten := by rw [List.take_length]
    obtain ⟨d1, d2, ⟨vb, d3, d4⟩, d5⟩ := HG.out
    rw [htk] at d4
    have c0 := blk_cell d3 0
    have hso := sort_own d4 (by omega)
    have hbz := blk_lt d3
    have hWz := d5.size
    rw [HSS.out] at hso
    have HS := Lib.hid hso
    have H := Lib.hid (And.intro d1 (And.intro d2 (And.intro d3 (And.intro d4 d5))))
    clear hJ d1 d2 d3 d4 d5 hso htk
    gi_wp2_with fail
    refine ⟨trivial, ((callsIn_wide (n := 29)).2 HS.out).mono ?_⟩
    rintro e W1 ⟨rfl, o1, f1⟩
    have hnv : ¬ vB vb w.heap.size := fun e => by have := (H.out.2.2.2.1.lt _ e).1; omega
    have b1 := f1.blk H.out.2.2.1 hnv
    have c1 := blk_cell b1 0
    have hco := compact_own o1 hsl
    have HO := Lib.hid hco
    have H1 := Lib.hid (And.intro o1 (And.intro f1 b1))
    clear o1 f1 b1 hco hnv
    gi_wp2_with fail
    refine ⟨trivial, ((callsIn_wide (n := 29)).2 HO.out).mono ?_⟩
    rintro e W2 ⟨⟨v', rfl, o2⟩, f2⟩
    have H2 := Lib.hid (And.intro o2 f2)
    clear o2 f2
    gi_wp2_with fail
    obtain ⟨d1, d2, d3, d4, d5⟩ := H.out
    obtain ⟨o1, f1, b1⟩ := H1.out
    obtain ⟨o2, f2⟩ := H2.out
    have m1 : ∀ D ∈ Ds, W1.heap[D]? = some (.deferred (some [])) := fun D hD => f1.blk (d2 D hD).2 fun e => by
      obtain ⟨o, a, b⟩ := own_cells d4 D e
      rw [(d2 D hD).2] at a; cases a; cases b
    have m2 : ∀ D ∈ Ds, W2.heap[D]? = some (.deferred (some [])) := fun D hD => f2.blk (m1 D hD) fun e => by
      obtain ⟨o, a, b⟩ := own_cells o1 D e
      rw [m1 D hD] at a; cases a; cases b
    refine leaves_marks Ds W2 d1 m2 fun w' hf => ⟨_, results_tmp rfl _ _ _, ⟨v', rfl, ?_⟩, ?_⟩
    · refine own_kept (row_base' o2 (by omega)) fun g hg => hf.block g (o2.lt g hg).2 fun e => ?_
      obtain ⟨o, a, b⟩ := own_cells o2 g hg
      rw [m2 g e] at a; cases a; cases b
    · refine d5.trans ((f1.below d5.size fun k _ e => ?_).trans ((f2.below (Nat.le_trans d5.size f1.size) fun k _ e => ?_).trans (hf.below (Nat.le_trans d5.size (Nat.le_trans f1.size f2.size)) fun k _ e => ?_)))
      · have := (d4.lt k e).1; omega
      · have := (o1.lt k e).1; omega
      · have := (d2 k e).1; omega
end Go.Proofs.Yteiiaocohpbanaa
