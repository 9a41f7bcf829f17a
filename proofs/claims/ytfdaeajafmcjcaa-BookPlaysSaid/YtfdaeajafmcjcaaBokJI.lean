/- Layer 2: sorted, of a book of int. -/
import Derived.Test.YtfdaeajafmcjcaaBokII
namespace Go.Proofs.Ytfdaeajafmcjcaa
set_option linter.unusedVariables false
set_option linter.unusedSimpArgs false
open Go Go.RowKit Go.Maps Go.Sort Go.Shelf Go.Lib
attribute [local go_sem] Oper.semAt_some

/-- the entries that are wanted, in the order in which they came -/
def wantEI (fr : KeyB) (pre : List (KeyB × Ent VI)) : List (Ent VI) := (pre.filter fun p => !decide (p.2.fold < fr)).map (·.2)
theorem wantEI_len (fr : KeyB) (pre : List (KeyB × Ent VI)) : (wantEI fr pre).length ≤ pre.length := by
  unfold wantEI; rw [List.length_map]; exact List.length_filter_le _ _
theorem wantEI_nodup {fr : KeyB} {ys T : List (KeyB × Ent VI)} (hp : ys.Perm T) (hn : (T.map (·.1)).Nodup) (hk : ∀ p ∈ T, p.2.fold = p.1) : ((wantEI fr ys).map (·.fold)).Nodup := by
  have h1 : (ys.map (·.1)).Nodup := (hp.map _).nodup_iff.2 hn
  have h2 : (wantEI fr ys).map (·.fold) = (ys.filter fun p => !decide (p.2.fold < fr)).map (·.1) := by
    unfold wantEI
    rw [List.map_map]
    apply List.map_congr_left
    intro p hp2
    exact hk p (hp.mem_iff.1 (List.mem_filter.1 hp2).1)
  rw [h2]
  exact h1.sublist ((List.filter_sublist).map _)
theorem wantEI_perm {fr : KeyB} {ys T : List (KeyB × Ent VI)} (hp : ys.Perm T) : (wantEI fr ys).Perm (wantEI fr T) := (hp.filter _).map _
/-- a box with what has come and is wanted -/
def BoxJI (S base : Nat) (fr : KeyB) (pre : List (KeyB × Ent VI)) (X : Nat → Prop) (W : World) : Prop := ∃ v, W.heap[S]? = some (.cells #[v] 102 (0, 0)) ∧ OwnEI base W v (wantEI fr pre) ∧ S < base ∧ ∀ k, X k ↔ (k = S ∨ v.ownBlock = some k)
theorem boxJI_stays (S base : Nat) (fr : KeyB) : Stays (BoxJI S base fr) := fun pre X V V' ⟨v, h1, h2, h3, h4⟩ hl hf =>
  ⟨v, hf.blk h1 (fun e => e ((h4 S).2 (.inl rfl))), ownEI_kept h2 fun g hg => hf.block g (h2.lt g hg).2 fun e => e ((h4 g).2 (.inr hg)), h3, h4⟩
/-- the entries from a folded name on, in their order -/
def SortedPI (T : List (KeyB × Ent VI)) (fr : KeyB) (w : World) (e : Ending) (w' : World) : Prop := (∃ v R, e = .returned v ∧ OwnEI w.heap.size w' v R ∧ (R.Pairwise fun x y => x.fold < y.fold) ∧ R.Perm (wantEI fr T)) ∧ Fr (fun _ => False) w w'
set_option maxRecDepth 100000 in
set_option maxHeartbeats 8000000 in
theorem sorted_bookI {base : Nat} {w : World} {t b : Nat} {most : Int} {T : List (KeyB × Ent VI)} (h : BokI base w t b most T) (fr : KeyB) (hl : T.length ≤ 1000000) :
    Calls Try.prog 44 #[.pointer (some ⟨t, 0, none⟩), .string (bs fr)] w (SortedPI T fr w) := by
  obtain ⟨i0, hi, hz0, hz1, hz2⟩ := info_parts Try.infoEI
  obtain ⟨w1, hw1⟩ : ∃ w1, (w.alloc (Obj.cells #[Value.string (bs fr)] 9)).alloc (Obj.cells #[Value.slice none 0 0] 102) = w1 := ⟨_, rfl⟩
  have z1 : w1.heap.size = w.heap.size + 2 := by rw [← hw1]; simp
  have f1 : Fr (fun _ => False) w w1 := by rw [← hw1]; exact ((Fr.refl _ w).alloc _).alloc _
  have hb0 : w1.heap[w.heap.size]? = some (.cells #[.string (bs fr)] 9 (0, 0)) := by rw [← hw1]; exact blk_alloc (heap_alloc_new w _) _
  have hb1 : w1.heap[w.heap.size + 1]? = some (.cells #[.slice none 0 0] 102 (0, 0)) := by rw [← hw1]; exact heap_alloc2_new w _ _
  have hnd : (T.map (·.1)).Nodup ∧ ∀ p ∈ T, p.2.fold = p.1 := by
    obtain ⟨a1, a2, a3, a4, D, a5, a6, a7⟩ := h
    exact ⟨a6.nodup, fun p hp => (a7 p hp).2.1⟩
  have h1 := bokI_fr h f1 (fun e => e) fun e => e
  have cm : w1.cell? ⟨t, 1, none⟩ = some (.map (some b)) := (blk_cell h1.2.2.2.1 1).trans rfl
  rw [← hw1] at cm
  have hcall := mapval_callI (some b) w1
  obtain ⟨w2, hw2⟩ : ∃ w2, w1.alloc (.cells #[.map (some b)] 66) = w2 := ⟨_, rfl⟩
  have f2 : Fr (fun _ => False) w1 w2 := by rw [← hw2]; exact (Fr.refl _ w1).alloc _
  have h2 := bokI_fr h1 f2 (fun e => e) fun e => e
  have hsq := mapval_seqI w1.heap.size b T w2 (by rw [← hw2]; exact heap_alloc_new w1 _) h2.2.2.2.2
  have hbl := (bokI_lt h).2
  rw [z1] at hsq
  rw [hw2, z1] at hcall
  have z2 : w2.heap.size = w.heap.size + 3 := by rw [← hw2]; simp; omega
  have hb0 := f2.blk hb0 fun e => e
  have hb1 := f2.blk hb1 fun e => e
  have f12 := f1.trans f2
  have HW := Lib.hid (And.intro hw1 hcall)
  clear hw1 hw2 hcall h h1 h2
  refine (callsIn_wide (n := 20)).1 ?_
  refine callsIn_of_wp_marks Try.func44 rfl trivial ?_ rfl
  simp only [Try.ntmps44, List.size_toArray, List.length_cons, List.length_nil, Nat.reduceAdd, Nat.reduceSub, Array.replicate_succ, Array.replicate_zero, List.push_toArray, List.append_toArray, List.nil_append, List.cons_append]
  gi_wp2_with fail
  rw [HW.out.1]
  refine ⟨trivial, (calls_wide (.inl rfl) HW.out.2).mono ?_⟩
  rintro e W2 ⟨rfl, rfl⟩
  clear HW cm
  gi_wp2_with fail
  have H := Lib.hid (And.intro f12 (And.intro hb0 (And.intro hb1 (And.intro z2 hnd))))
  refine wpIn_rangeP (X := fun k => k = w.heap.size + 1) (Y := fun k => k = w.heap.size + 2 ∨ k = b) (xs := T) (encs := encVI) (gf := 61) (lb := #[.pointer (some ⟨w.heap.size + 2, 0, none⟩)]) (BoxJI (w.heap.size + 1) W2.heap.size fr) (fun _ _ _ _ => False)
    rfl hsq (fun k hk => ⟨by omega, fun e => by rcases e with e | e <;> omega⟩) (fun b2 hb2 => by rcases hb2 with e | e <;> omega) (by omega) (enters_of Try.func61 (by kernel_rfl) rfl) (fun _ => rfl)
    (boxJI_stays _ _ _) (fun c s X1 V1 V2 h => h.elim) ⟨_, hb1, ownEI_nil _ _, by omega, fun k => by simp [Value.ownBlock]⟩ ?round ?done (fun _ _ _ _ _ _ _ _ _ _ _ h => h.elim)
  case round =>
    rintro l pre ⟨x, y, yf, at_⟩ r X1 V K rb hl2 hpx hI hG hxl hF hlV hK
    dsimp only [encVI, valEI, thVI]
    have HK := Lib.hid hK
    have HV := Lib.hid (And.intro hpx (And.intro hI (And.intro hG (And.intro hxl (And.intro hF (And.intro hlV hl2))))))
    clear hK hpx hI hG hxl hF hlV hl2 hsq f1 f2 f12 hb0 hb1 z1 z2 hnd
    gi_wp2_with fail
    refine HK.out _ _ ((Fr.refl _ _).alloc _) fun Vb hfb hzb hsb hrb => ?_
    clear HK K
    obtain ⟨hpx, ⟨vb, k3, o3, hSl, hX1⟩, hG, hxl, hF, hlV, hl2⟩ := HV.out
    obtain ⟨f12, hb0, hb1, z2, hnd⟩ := H.out
    have hpl : (wantEI fr pre).length ≤ T.length := by
      have h1 := wantEI_len fr pre
      have := hpx.length_eq
      simp at this; omega
    have hzs : Vb.heap.size = V.heap.size + 1 := by rw [hzb]; simp
    have ki : Vb.heap[V.heap.size]? = some (.cells #[.string y, .string (bs yf), .int .i64 at_] 70 (0, 0)) := (hsb _ (by omega)).trans (heap_alloc_new V _)
    have ci0 := blk_cell ki 0
    have ci1 := blk_cell ki 1
    have ci2 := blk_cell ki 2
    have c0 := blk_cell (hfb.blk (hF.blk hb0 (by omega)) (by omega)) 0
    have k3b := hfb.blk k3 (by omega : ¬ w.heap.size + 1 = l)
    have o3b : OwnEI W2.heap.size Vb vb (wantEI fr pre) := ownEI_kept o3 fun g hg => hfb.block g (o3.lt g hg).2 fun e => hxl ((hX1 l).2 (.inr (e ▸ hg)))
    have c3 := blk_cell k3b 0
    have hbz : W2.heap.size ≤ Vb.heap.size := by omega
    have l1 : Op.bytesLess (bs yf).toList (bs fr).toList = decide (yf < fr) := by rw [ByteArray.toList_eq, ByteArray.toList_eq]; exact bytesLess_eq yf fr
    by_cases hle : yf < fr
    · rw [decide_eq_true hle] at l1
      have hfl : wantEI fr (pre ++ [(x, ⟨y, yf, at_⟩)]) = wantEI fr pre := by unfold wantEI; rw [List.filter_append]; simp [hle]
      have HE : Hid (∃ X2, GrowX X1 X2 V Vb ∧ Fr (fun k => k = l ∨ X1 k) V Vb ∧ Vb.heap[l]? = some (.loop rb) ∧ BoxJI (w.heap.size + 1) W2.heap.size fr (pre ++ [(x, ⟨y, yf, at_⟩)]) X2 Vb) :=
        ⟨X1, fun k hk => ⟨by have := (hG k hk).1; omega, fun _ => hk⟩, hfb.mono fun k _ e => .inl e, hrb, vb, k3b, by rw [hfl]; exact o3b, hSl, hX1⟩
      clear hpx k3 o3 hSl hX1 hG hxl hF hlV hl2 f12 hb0 hb1 z2 hnd k3b o3b hfb hzb hsb hrb hzs ki hfl hle
      gi_wp2_with fail
      exact HE.out
    · rw [decide_eq_false hle] at l1
      have hfl : wantEI fr (pre ++ [(x, ⟨y, yf, at_⟩)]) = wantEI fr pre ++ [⟨y, yf, at_⟩] := by unfold wantEI; rw [List.filter_append]; simp [hle]
      have hor : Vb.ownsRow W2.heap.size 70 3 vb (wantEI fr pre).length ((wantEI fr pre).flatMap encEI) := o3b
      have HO := Lib.hid hor
      clear hor
      have HE := Lib.hid (And.intro hX1 (And.intro hG (And.intro hxl (And.intro hfb (And.intro hrb (And.intro k3b (And.intro hfl (And.intro hzs (And.intro hlV (And.intro hSl hl2))))))))))
      obtain ⟨ps, hps⟩ : ∃ ps, wantEI fr pre = ps := ⟨_, rfl⟩
      rw [hps] at HO HE hpl
      clear hpx k3 o3 hSl hX1 hG hxl hF hlV hl2 f12 hb0 hb1 z2 hnd k3b o3b hfb hzb hsb hrb hzs ki hfl hps hle
      have hlen : ∀ W, (Builtin.len_ #[102] 3 #[vb]).run Try.prog W = .ok (.int .i64 ps.length) W := fun W => by obtain ⟨A, cp, rfl⟩ := row_slice HO.out; rfl
      gi_wp2_with (first | (gi_at_builtin; refine Hid.out ?_) | simp only [hlen])
      refine Lib.hid ?_
      refine wpListIn_one_t rfl _ _ 102 rfl W2.heap.size 70 i0 _ 3 40 Try.underlying102 hi hz0 hz1 hz2 rfl (by decide) _ _ _ rfl HO.out #[.string y, .string (bs yf), .int .i64 at_] _ rfl rfl rfl (by intro u hu; simp at hu; rcases hu with rfl | rfl | rfl <;> rfl) (by omega) (by decide) hbz ?_
      intro v1 W3 hown1 hfr1 htie
      obtain ⟨A1, c1', rfl⟩ := row_slice hown1
      have hn3 : ∀ k, vb.ownBlock = some k → k ≠ w.heap.size + 1 := fun k hk e => by have := (HO.out.lt k hk).1; have := HE.out.2.2.2.2.2.2.2.2.2.1; omega
      have e1 : W3.heap[w.heap.size + 1]? = some (.cells #[vb] 102 (0, 0)) := hfr1.blk HE.out.2.2.2.2.2.1 fun e => hn3 _ e rfl
      have g1 := blk_cell e1 0
      have g2 := blk_free e1 0
      have HN := Lib.hid hn3
      clear hn3
      gi_wp2_with fail
      obtain ⟨hX1, hG, hxl, hfb, hrb, k3b, hfl, hzs, hlV, hSl, hl2⟩ := HE.out
      have hn3 := HN.out
      have hown2 : OwnEI W2.heap.size W3 (.slice A1 (ps.length + 1) c1') (ps ++ [⟨y, yf, at_⟩]) := ownEI_snoc hown1
      have hnx : (Value.slice A1 (ps.length + 1) c1').ownBlock ≠ some (w.heap.size + 1) := fun e => by have := (hown2.lt _ e).1; omega
      have hfr : Fr (fun k => k = l ∨ X1 k) V (W3.setCell ⟨w.heap.size + 1, 0, none⟩ (.slice A1 (ps.length + 1) c1')) :=
        (((hfb.mono (Y := fun k => k = l ∨ X1 k) fun k _ e => .inl e).trans3 hfr1 fun k _ e => .inr ((hX1 k).2 (.inr e)))).setCell _ (.inr ((hX1 _).2 (.inl rfl))) _
      refine ⟨fun k => k = w.heap.size + 1 ∨ (Value.slice A1 (ps.length + 1) c1').ownBlock = some k, fun k hk => ?_, hfr, ?_, .slice A1 (ps.length + 1) c1', blk_set e1 0 _, ?_, hSl, fun k => Iff.rfl⟩
      · have hz2 := hfr1.size
        have hsz : (W3.setCell ⟨w.heap.size + 1, 0, none⟩ (.slice A1 (ps.length + 1) c1')).heap.size = W3.heap.size := by simp
        rw [hsz]
        rcases hk with rfl | hk
        · exact ⟨blk_lt e1, fun _ => (hX1 _).2 (.inl rfl)⟩
        · refine ⟨(hown2.lt k hk).2, fun hlt => ?_⟩
          rcases htie k hk with e | e
          · exact (hX1 k).2 (.inr e)
          · omega
      · have hl3 : ¬ vb.ownBlock = some l := fun e => hxl ((hX1 l).2 (.inr e))
        exact blk_other (hfr1.blk hrb hl3) _ (by simp; omega) _
      · rw [hfl]
        exact ownEI_kept hown2 fun g hg => heap_setCell_other W3 _ g _ fun e => by simp at e; exact hnx (e ▸ hg)
  case done =>
    rintro D ys X2 V hys hD hxD hG hF ⟨v, k3, o3, hSl, hX2⟩ hdef
    have hfl : (wantEI fr ys).length ≤ 1000000 := by
      have h1 := wantEI_len fr ys
      have := hys.length_eq
      omega
    have hs := sort_bookI o3 (wantEI_nodup hys hnd.1 hnd.2) hfl
    have c3 := blk_cell k3 0
    have HS := Lib.hid hs
    have HE := Lib.hid (And.intro k3 (And.intro o3 (And.intro hF (And.intro hdef (And.intro hxD (And.intro hX2 (And.intro hSl (And.intro hD (And.intro f12 (And.intro z2 hys))))))))))
    clear k3 o3 hF hdef hxD hX2 hSl hD hG hsq f1 f2 f12 hb0 hb1 z1 z2 hnd hys hs hfl hi hz0 hz1 hz2
    gi_wp2_with fail
    refine ⟨trivial, (calls_wide (.inl rfl) HS.out).mono ?_⟩
    rintro e W4 ⟨rfl, ⟨R, o4, hR1, hR2⟩, f4⟩
    obtain ⟨k3, o3, hF, hdef, hxD, hX2, hSl, hD, f12, z2, hys⟩ := HE.out
    have hns : ¬ v.ownBlock = some (w.heap.size + 1) := fun e => by have := (o3.lt _ e).1; omega
    have k4 := f4.blk k3 hns
    have c4 := blk_cell k4 0
    have d4 := f4.blk hdef fun e => hxD ((hX2 D).2 (.inr e))
    have b4 : Fr (fun _ => False) w W4 := by
      have h5 : Fr (fun _ => False) w V := f12.trans3 hF fun k hk e => by omega
      exact h5.trans3 f4 (Y := fun j => v.ownBlock = some j) fun k hk e => by have := (o3.lt k e).1; omega
    have HQ := Lib.hid (And.intro o4 (And.intro d4 (And.intro b4 (And.intro hD (And.intro z2 (And.intro hxD (And.intro hX2 (And.intro hR1 (hR2.trans (wantEI_perm hys))))))))))
    clear k3 o3 hF hdef hxD hX2 hSl hD f12 z2 hns k4 d4 b4 o4 f4 c3 hR1 hR2 hys
    gi_wp2_with fail
    obtain ⟨o4, d4, b4, hD, z2, hxD, hX2, hR1, hR2⟩ := HQ.out
    refine leaves_one D _ d4 fun w' hf => ?_
    refine ⟨v, by simp [results, Try.results44, go_sem], ⟨v, R, rfl, ?_, hR1, hR2⟩, b4.trans3 hf fun k hk e => by omega⟩
    exact ownEI_base (ownEI_kept o4 fun g hg => hf.block g (o4.lt g hg).2 fun e => hxD ((hX2 D).2 (.inr (e ▸ hg)))) (by omega)
end Go.Proofs.Ytfdaeajafmcjcaa
