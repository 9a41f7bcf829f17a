/- Texts of this proof, one behind the other. -/
import Derived.Test.YtlkeomcillencaaGreatRoomsPlayG10
import Derived.Test.YtlkeomcillencaaGreatRoomsPlayG2
import Derived.Lib.Hide
import Derived.Test.YtlkeomcillencaaGreatChecked
import Derived.Sort.LoopGhostIn
import Derived.Stop.RegionWithIn
import Derived.LoopIn
import Derived.Deep.LoopGhost
import Derived.Test.YtlkeomcillencaaGreatRoomsPlayG5
import Derived.Test.YtlkeomcillencaaGreatRoomsPlayG3
import Derived.Shelf.Spec.SearchS
set_option linter.unusedVariables false
set_option linter.unusedSimpArgs false
section
/- Layer 2: sorted, of a book of *rollcall/room.Room. -/
namespace Go.Proofs.YtlkeomcillencaaGreat
open Go Go.RowKit Go.Maps Go.Sort Go.Shelf Go.Lib
attribute [local go_sem] Oper.semAt_some

/-- the entries that are wanted, in the order in which they came -/
def wantEP (fr : KeyB) (pre : List (KeyB × Ent VP)) : List (Ent VP) := (pre.filter fun p => !decide (p.2.fold < fr)).map (·.2)
theorem wantEP_len (fr : KeyB) (pre : List (KeyB × Ent VP)) : (wantEP fr pre).length ≤ pre.length := by
  unfold wantEP; rw [List.length_map]; exact List.length_filter_le _ _
theorem wantEP_nodup {fr : KeyB} {ys T : List (KeyB × Ent VP)} (hp : ys.Perm T) (hn : (T.map (·.1)).Nodup) (hk : ∀ p ∈ T, p.2.fold = p.1) : ((wantEP fr ys).map (·.fold)).Nodup := by
  have h1 : (ys.map (·.1)).Nodup := (hp.map _).nodup_iff.2 hn
  have h2 : (wantEP fr ys).map (·.fold) = (ys.filter fun p => !decide (p.2.fold < fr)).map (·.1) := by
    unfold wantEP
    rw [List.map_map]
    apply List.map_congr_left
    intro p hp2
    exact hk p (hp.mem_iff.1 (List.mem_filter.1 hp2).1)
  rw [h2]
  exact h1.sublist ((List.filter_sublist).map _)
theorem wantEP_perm {fr : KeyB} {ys T : List (KeyB × Ent VP)} (hp : ys.Perm T) : (wantEP fr ys).Perm (wantEP fr T) := (hp.filter _).map _
/-- a box with what has come and is wanted -/
def BoxJP (S base : Nat) (fr : KeyB) (pre : List (KeyB × Ent VP)) (X : Nat → Prop) (W : World) : Prop := ∃ v, W.heap[S]? = some (.cells #[v] 143 (0, 0)) ∧ OwnEP base W v (wantEP fr pre) ∧ S < base ∧ ∀ k, X k ↔ (k = S ∨ v.ownBlock = some k)
theorem boxJP_stays (S base : Nat) (fr : KeyB) : Stays (BoxJP S base fr) := fun pre X V V' ⟨v, h1, h2, h3, h4⟩ hl hf =>
  ⟨v, hf.blk h1 (fun e => e ((h4 S).2 (.inl rfl))), ownEP_kept h2 fun g hg => hf.block g (h2.lt g hg).2 fun e => e ((h4 g).2 (.inr hg)), h3, h4⟩
/-- the entries from a folded name on, in their order -/
def SortedPP (T : List (KeyB × Ent VP)) (fr : KeyB) (w : World) (e : Ending) (w' : World) : Prop := (∃ v R, e = .returned v ∧ OwnEP w.heap.size w' v R ∧ (R.Pairwise fun x y => x.fold < y.fold) ∧ R.Perm (wantEP fr T)) ∧ Fr (fun _ => False) w w'
set_option maxRecDepth 100000 in
set_option maxHeartbeats 8000000 in
theorem sorted_bookP {base : Nat} {w : World} {t b : Nat} {most : Int} {T : List (KeyB × Ent VP)} (h : BokP base w t b most T) (fr : KeyB) (hl : T.length ≤ 1000000) :
    Calls Tryz.prog 83 #[.pointer (some ⟨t, 0, none⟩), .string (bs fr)] w (SortedPP T fr w) := by
  obtain ⟨i0, hi, hz0, hz1, hz2⟩ := info_parts Tryz.infoEP
  obtain ⟨w1, hw1⟩ : ∃ w1, (w.alloc (Obj.cells #[Value.string (bs fr)] 9)).alloc (Obj.cells #[Value.slice none 0 0] 143) = w1 := ⟨_, rfl⟩
  have z1 : w1.heap.size = w.heap.size + 2 := by rw [← hw1]; simp
  have f1 : Fr (fun _ => False) w w1 := by rw [← hw1]; exact ((Fr.refl _ w).alloc _).alloc _
  have hb0 : w1.heap[w.heap.size]? = some (.cells #[.string (bs fr)] 9 (0, 0)) := by rw [← hw1]; exact blk_alloc (heap_alloc_new w _) _
  have hb1 : w1.heap[w.heap.size + 1]? = some (.cells #[.slice none 0 0] 143 (0, 0)) := by rw [← hw1]; exact heap_alloc2_new w _ _
  have hnd : (T.map (·.1)).Nodup ∧ ∀ p ∈ T, p.2.fold = p.1 := by
    obtain ⟨a1, a2, a3, a4, D, a5, a6, a7⟩ := h
    exact ⟨a6.nodup, fun p hp => (a7 p hp).2.1⟩
  have h1 := bokP_fr h f1 (fun e => e) fun e => e
  have cm : w1.cell? ⟨t, 1, none⟩ = some (.map (some b)) := (blk_cell h1.2.2.2.1 1).trans rfl
  rw [← hw1] at cm
  have hcall := mapval_callP (some b) w1
  obtain ⟨w2, hw2⟩ : ∃ w2, w1.alloc (.cells #[.map (some b)] 118) = w2 := ⟨_, rfl⟩
  have f2 : Fr (fun _ => False) w1 w2 := by rw [← hw2]; exact (Fr.refl _ w1).alloc _
  have h2 := bokP_fr h1 f2 (fun e => e) fun e => e
  have hsq := mapval_seqP w1.heap.size b T w2 (by rw [← hw2]; exact heap_alloc_new w1 _) h2.2.2.2.2
  have hbl := (bokP_lt h).2
  rw [z1] at hsq
  rw [hw2, z1] at hcall
  have z2 : w2.heap.size = w.heap.size + 3 := by rw [← hw2]; simp; omega
  have hb0 := f2.blk hb0 fun e => e
  have hb1 := f2.blk hb1 fun e => e
  have f12 := f1.trans f2
  have HW := Lib.hid (And.intro hw1 hcall)
  clear hw1 hw2 hcall h h1 h2
  refine (callsIn_wide (n := 20)).1 ?_
  refine callsIn_of_wp_marks Tryz.func83 rfl trivial ?_ rfl
  simp only [Tryz.ntmps83, List.size_toArray, List.length_cons, List.length_nil, Nat.reduceAdd, Nat.reduceSub, Array.replicate_succ, Array.replicate_zero, List.push_toArray, List.append_toArray, List.nil_append, List.cons_append]
  gi_wp2_with fail
  rw [HW.out.1]
  refine ⟨trivial, (calls_wide (.inl rfl) HW.out.2).mono ?_⟩
  rintro e W2 ⟨rfl, rfl⟩
  clear HW cm
  gi_wp2_with fail
  have H := Lib.hid (And.intro f12 (And.intro hb0 (And.intro hb1 (And.intro z2 hnd))))
  refine wpIn_rangeP (X := fun k => k = w.heap.size + 1) (Y := fun k => k = w.heap.size + 2 ∨ k = b) (xs := T) (encs := encVP) (gf := 129) (lb := #[.pointer (some ⟨w.heap.size + 2, 0, none⟩)]) (BoxJP (w.heap.size + 1) W2.heap.size fr) (fun _ _ _ _ => False)
    rfl hsq (fun k hk => ⟨by omega, fun e => by rcases e with e | e <;> omega⟩) (fun b2 hb2 => by rcases hb2 with e | e <;> omega) (by omega) (enters_of Tryz.func129 (by kernel_rfl) rfl) (fun _ => rfl)
    (boxJP_stays _ _ _) (fun c s X1 V1 V2 h => h.elim) ⟨_, hb1, ownEP_nil _ _, by omega, fun k => by simp [Value.ownBlock]⟩ ?round ?done (fun _ _ _ _ _ _ _ _ _ _ _ h => h.elim)
  case round =>
    rintro l pre ⟨x, y, yf, at_⟩ r X1 V K rb hl2 hpx hI hG hxl hF hlV hK
    dsimp only [encVP, valEP, thVP]
    have HK := Lib.hid hK
    have HV := Lib.hid (And.intro hpx (And.intro hI (And.intro hG (And.intro hxl (And.intro hF (And.intro hlV hl2))))))
    clear hK hpx hI hG hxl hF hlV hl2 hsq f1 f2 f12 hb0 hb1 z1 z2 hnd
    gi_wp2_with fail
    refine HK.out _ _ ((Fr.refl _ _).alloc _) fun Vb hfb hzb hsb hrb => ?_
    clear HK K
    obtain ⟨hpx, ⟨vb, k3, o3, hSl, hX1⟩, hG, hxl, hF, hlV, hl2⟩ := HV.out
    obtain ⟨f12, hb0, hb1, z2, hnd⟩ := H.out
    have hpl : (wantEP fr pre).length ≤ T.length := by
      have h1 := wantEP_len fr pre
      have := hpx.length_eq
      simp at this; omega
    have hzs : Vb.heap.size = V.heap.size + 1 := by rw [hzb]; simp
    have ki : Vb.heap[V.heap.size]? = some (.cells #[.string y, .string (bs yf), .pointer (adP at_)] 134 (0, 0)) := (hsb _ (by omega)).trans (heap_alloc_new V _)
    have ci0 := blk_cell ki 0
    have ci1 := blk_cell ki 1
    have ci2 := blk_cell ki 2
    have c0 := blk_cell (hfb.blk (hF.blk hb0 (by omega)) (by omega)) 0
    have k3b := hfb.blk k3 (by omega : ¬ w.heap.size + 1 = l)
    have o3b : OwnEP W2.heap.size Vb vb (wantEP fr pre) := ownEP_kept o3 fun g hg => hfb.block g (o3.lt g hg).2 fun e => hxl ((hX1 l).2 (.inr (e ▸ hg)))
    have c3 := blk_cell k3b 0
    have hbz : W2.heap.size ≤ Vb.heap.size := by omega
    have l1 : Op.bytesLess (bs yf).toList (bs fr).toList = decide (yf < fr) := by rw [ByteArray.toList_eq, ByteArray.toList_eq]; exact bytesLess_eq yf fr
    by_cases hle : yf < fr
    · rw [decide_eq_true hle] at l1
      have hfl : wantEP fr (pre ++ [(x, ⟨y, yf, at_⟩)]) = wantEP fr pre := by unfold wantEP; rw [List.filter_append]; simp [hle]
      have HE : Hid (∃ X2, GrowX X1 X2 V Vb ∧ Fr (fun k => k = l ∨ X1 k) V Vb ∧ Vb.heap[l]? = some (.loop rb) ∧ BoxJP (w.heap.size + 1) W2.heap.size fr (pre ++ [(x, ⟨y, yf, at_⟩)]) X2 Vb) :=
        ⟨X1, fun k hk => ⟨by have := (hG k hk).1; omega, fun _ => hk⟩, hfb.mono fun k _ e => .inl e, hrb, vb, k3b, by rw [hfl]; exact o3b, hSl, hX1⟩
      clear hpx k3 o3 hSl hX1 hG hxl hF hlV hl2 f12 hb0 hb1 z2 hnd k3b o3b hfb hzb hsb hrb hzs ki hfl hle
      gi_wp2_with fail
      exact HE.out
    · rw [decide_eq_false hle] at l1
      have hfl : wantEP fr (pre ++ [(x, ⟨y, yf, at_⟩)]) = wantEP fr pre ++ [⟨y, yf, at_⟩] := by unfold wantEP; rw [List.filter_append]; simp [hle]
      have hor : Vb.ownsRow W2.heap.size 134 3 vb (wantEP fr pre).length ((wantEP fr pre).flatMap encEP) := o3b
      have HO := Lib.hid hor
      clear hor
      have HE := Lib.hid (And.intro hX1 (And.intro hG (And.intro hxl (And.intro hfb (And.intro hrb (And.intro k3b (And.intro hfl (And.intro hzs (And.intro hlV (And.intro hSl hl2))))))))))
      obtain ⟨ps, hps⟩ : ∃ ps, wantEP fr pre = ps := ⟨_, rfl⟩
      rw [hps] at HO HE hpl
      clear hpx k3 o3 hSl hX1 hG hxl hF hlV hl2 f12 hb0 hb1 z2 hnd k3b o3b hfb hzb hsb hrb hzs ki hfl hps hle
      have hlen : ∀ W, (Builtin.len_ #[143] 3 #[vb]).run Tryz.prog W = .ok (.int .i64 ps.length) W := fun W => by obtain ⟨A, cp, rfl⟩ := row_slice HO.out; rfl
      gi_wp2_with (first | (gi_at_builtin; refine Hid.out ?_) | simp only [hlen])
      refine Lib.hid ?_
      refine wpListIn_one_t rfl _ _ 143 rfl W2.heap.size 134 i0 _ 3 40 Tryz.underlying143 hi hz0 hz1 hz2 rfl (by decide) _ _ _ rfl HO.out #[.string y, .string (bs yf), .pointer (adP at_)] _ rfl rfl rfl (by intro u hu; simp at hu; rcases hu with rfl | rfl | rfl <;> rfl) (by omega) (by decide) hbz ?_
      intro v1 W3 hown1 hfr1 htie
      obtain ⟨A1, c1', rfl⟩ := row_slice hown1
      have hn3 : ∀ k, vb.ownBlock = some k → k ≠ w.heap.size + 1 := fun k hk e => by have := (HO.out.lt k hk).1; have := HE.out.2.2.2.2.2.2.2.2.2.1; omega
      have e1 : W3.heap[w.heap.size + 1]? = some (.cells #[vb] 143 (0, 0)) := hfr1.blk HE.out.2.2.2.2.2.1 fun e => hn3 _ e rfl
      have g1 := blk_cell e1 0
      have g2 := blk_free e1 0
      have HN := Lib.hid hn3
      clear hn3
      gi_wp2_with fail
      obtain ⟨hX1, hG, hxl, hfb, hrb, k3b, hfl, hzs, hlV, hSl, hl2⟩ := HE.out
      have hn3 := HN.out
      have hown2 : OwnEP W2.heap.size W3 (.slice A1 (ps.length + 1) c1') (ps ++ [⟨y, yf, at_⟩]) := ownEP_snoc hown1
      have hnx : (Value.slice A1 (ps.length + 1) c1').ownBlock ≠ some (w.heap.size + 1) := fun e => by have := (hown2.lt _ e).1; omega
      have hfr : Fr (fun k => k = l ∨ X1 k) V (W3.setCell ⟨w.heap.size + 1, 0, none⟩ (.slice A1 (ps.length + 1) c1')) :=
        (((hfb.mono (Y := fun k => k = l ∨ X1 k) fun k _ e => .inl e).trans3 hfr1 fun k _ e => .inr ((hX1 k).2 (.inr e)))).setCell _ (.inr ((hX1 _).2 (.inl rfl))) _
      refine ⟨fun k => k = w.heap.size + 1 ∨ (Value.slice A1 (ps.length + 1) c1').ownBlock = some k, fun k hk => ?_, hfr, ?_, .slice A1 (ps.length + 1) c1', blk_set e1 0 _, ?_, hSl, fun k => Iff.rfl⟩
      · have hz2 := hfr1.size
        have hsz : (W3.setCell ⟨w.heap.size + 1, 0, none⟩ (.slice A1 (ps.length + 1) c1')).heap.size = W3.heap.size := by simp
        rw [hsz]
        rcases hk with rfl | hk
        · exact ⟨blk_lt e1, fun _ => (hX1 _).2 (.inl rfl)⟩
        · refine ⟨(hown2.lt k hk).2, fun hlt => ?_⟩
          rcases htie k hk with e | e
          · exact (hX1 k).2 (.inr e)
          · omega
      · have hl3 : ¬ vb.ownBlock = some l := fun e => hxl ((hX1 l).2 (.inr e))
        exact blk_other (hfr1.blk hrb hl3) _ (by simp; omega) _
      · rw [hfl]
        exact ownEP_kept hown2 fun g hg => heap_setCell_other W3 _ g _ fun e => by simp at e; exact hnx (e ▸ hg)
  case done =>
    rintro D ys X2 V hys hD hxD hG hF ⟨v, k3, o3, hSl, hX2⟩ hdef
    have hfl : (wantEP fr ys).length ≤ 1000000 := by
      have h1 := wantEP_len fr ys
      have := hys.length_eq
      omega
    have hs := sort_bookP o3 (wantEP_nodup hys hnd.1 hnd.2) hfl
    have c3 := blk_cell k3 0
    have HS := Lib.hid hs
    have HE := Lib.hid (And.intro k3 (And.intro o3 (And.intro hF (And.intro hdef (And.intro hxD (And.intro hX2 (And.intro hSl (And.intro hD (And.intro f12 (And.intro z2 hys))))))))))
    clear k3 o3 hF hdef hxD hX2 hSl hD hG hsq f1 f2 f12 hb0 hb1 z1 z2 hnd hys hs hfl hi hz0 hz1 hz2
    gi_wp2_with fail
    refine ⟨trivial, (calls_wide (.inl rfl) HS.out).mono ?_⟩
    rintro e W4 ⟨rfl, ⟨R, o4, hR1, hR2⟩, f4⟩
    obtain ⟨k3, o3, hF, hdef, hxD, hX2, hSl, hD, f12, z2, hys⟩ := HE.out
    have hns : ¬ v.ownBlock = some (w.heap.size + 1) := fun e => by have := (o3.lt _ e).1; omega
    have k4 := f4.blk k3 hns
    have c4 := blk_cell k4 0
    have d4 := f4.blk hdef fun e => hxD ((hX2 D).2 (.inr e))
    have b4 : Fr (fun _ => False) w W4 := by
      have h5 : Fr (fun _ => False) w V := f12.trans3 hF fun k hk e => by omega
      exact h5.trans3 f4 (Y := fun j => v.ownBlock = some j) fun k hk e => by have := (o3.lt k e).1; omega
    have HQ := Lib.hid (And.intro o4 (And.intro d4 (And.intro b4 (And.intro hD (And.intro z2 (And.intro hxD (And.intro hX2 (And.intro hR1 (hR2.trans (wantEP_perm hys))))))))))
    clear k3 o3 hF hdef hxD hX2 hSl hD f12 z2 hns k4 d4 b4 o4 f4 c3 hR1 hR2 hys
    gi_wp2_with fail
    obtain ⟨o4, d4, b4, hD, z2, hxD, hX2, hR1, hR2⟩ := HQ.out
    refine leaves_one D _ d4 fun w' hf => ?_
    refine ⟨v, by simp [results, Tryz.results83, go_sem], ⟨v, R, rfl, ?_, hR1, hR2⟩, b4.trans3 hf fun k hk e => by omega⟩
    exact ownEP_base (ownEP_kept o4 fun g hg => hf.block g (o4.lt g hg).2 fun e => hxD ((hX2 D).2 (.inr (e ▸ hg)))) (by omega)
end Go.Proofs.YtlkeomcillencaaGreat
end
section
/- Layer 2: All and From, of a book of *rollcall/room.Room. -/

namespace Go.Proofs.YtlkeomcillencaaGreat
open Go Go.RowKit Go.Maps Go.Sort Go.Shelf Go.Lib

/-- a tale of the entries from a folded name on -/
def TalesPP (T : List (KeyB × Ent VP)) (fr : KeyB) (w : World) (e : Ending) (w' : World) : Prop := (∃ F R, e = .returned F ∧ TaleEP w.heap.size w' F R ∧ (R.Pairwise fun x y => x.fold < y.fold) ∧ R.Perm (wantEP fr T)) ∧ Fr (fun _ => False) w w'
theorem told_ownP {base : Nat} {w : World} {v : Value} {R : List (Ent VP)} (h : OwnEP base w v R) (hb : base ≤ w.heap.size) : Calls Tryz.prog 82 #[v] w fun e w' => (∃ F, e = .returned F ∧ TaleEP base w' F R) ∧ Fr (fun _ => False) w w' := by
  obtain ⟨A, c, rfl⟩ := row_slice h
  exact told_ofP h hb
set_option maxHeartbeats 1000000 in
theorem all_bookP {base : Nat} {w : World} {t b : Nat} {most : Int} {T : List (KeyB × Ent VP)} (h : BokP base w t b most T) (hl : T.length ≤ 1000000) :
    Calls Tryz.prog 57 #[.pointer (some ⟨t, 0, none⟩)] w (TalesPP T [] w) := by
  have HS : Hid (Calls Tryz.prog 83 #[.pointer (some ⟨t, 0, none⟩), .string ⟨#[]⟩] w (SortedPP T [] w)) := sorted_bookP h [] hl
  clear h
  go_enter Tryz.func57, Tryz.ntmps57
  go_wp2_with fail
  refine HS.out.mono ?_
  rintro e w1 ⟨⟨v, R, rfl, o1, hR1, hR2⟩, f1⟩
  have HT := Lib.hid (told_ownP o1 f1.size)
  have HQ := Lib.hid (And.intro hR1 (And.intro hR2 f1))
  clear o1 hR1 hR2 f1 HS
  go_wp2_with fail
  refine HT.out.mono ?_
  rintro e w2 ⟨⟨F, rfl, hT⟩, f2⟩
  have H2 := Lib.hid (And.intro hT f2)
  clear hT f2 HT
  go_wp2_with fail
  go_ret
  exact ⟨⟨F, R, rfl, H2.out.1, HQ.out.1, HQ.out.2.1⟩, HQ.out.2.2.trans H2.out.2⟩
end Go.Proofs.YtlkeomcillencaaGreat
end
section
/- Rows of pointers to rooms of the call's own; slices.Values at them. -/
namespace Go.Proofs.YtlkeomcillencaaGreat
open Go Go.RowKit Go.Lib
attribute [local go_sem] Oper.semAt_some

/-- a room in a cell, as it is told -/
def encPr (x : Nat) : Value := .pointer (some ⟨x, 0, none⟩)
def encRm (x : Nat) : Array Value := #[.pointer (some ⟨x, 0, none⟩)]
def OwnPr (base : Nat) (W : World) (v : Value) (xs : List Nat) : Prop := W.ownsRow base 37 1 v xs.length (xs.map encPr)
theorem Tryz.infoPr : (Tryz.prog.info? 37).map (fun i => (i.zero, i.size, i.bytes)) = some (some (.pointer none), 1, 8) := by kernel_rfl
theorem ownPr_kept {base : Nat} {w W : World} {v : Value} {xs : List Nat} (h : OwnPr base w v xs) (hs : ∀ g, v.ownBlock = some g → W.heap[g]? = w.heap[g]?) : OwnPr base W v xs := row_same h hs
theorem ownPr_nil (base : Nat) (w : World) : OwnPr base w (.slice none 0 0) [] := World.ownsRow_nil _ _ _ _
theorem ownPr_base {W : World} {base base' : Nat} {v : Value} {xs : List Nat} (h : OwnPr base W v xs) (hb : base' ≤ base) : OwnPr base' W v xs := by
  obtain ⟨h1, h2⟩ := h
  refine ⟨h1, ?_⟩
  rcases h2 with h2 | ⟨g, cap, cur, h3, h4, h5⟩
  · exact .inl h2
  · exact .inr ⟨g, cap, cur, h3, by omega, h5⟩
theorem ownPr_snoc {base : Nat} {w : World} {v : Value} {xs : List Nat} {x : Nat} (h : w.ownsRow base 37 1 v (xs.length + 1) (xs.map encPr ++ [encPr x])) : OwnPr base w v (xs ++ [x]) := by
  unfold OwnPr; rw [List.length_append, List.map_append]; exact h
/-- rooms as they are read -/
def ReadsPr (w : World) (A : Option Addr) (xs : List Nat) : Prop := 0 < xs.length → ∃ g o, A = some ⟨g, o, none⟩ ∧ g < w.heap.size ∧ ∀ j (h : j < xs.length), w.cell? ⟨g, o + j, none⟩ = some (.pointer (some ⟨xs[j], 0, none⟩))
theorem reads_ownPr {base : Nat} {w : World} {A : Option Addr} {n c : Nat} {xs : List Nat} (h : OwnPr base w (.slice A n c) xs) : ReadsPr w A xs := fun h0 => by
  have h' := h
  rcases h.2 with ⟨h1, h2⟩ | ⟨g, cap, cur, h1, h3, h4, h5, _, h6, h7⟩
  · omega
  · injection h1 with q1 q2 q3
    subst q1
    refine ⟨g, 0, rfl, blk_lt h4, fun j hj => ?_⟩
    have := h'.cells (g := g) rfl j (encPr xs[j]) (by simp [hj])
    have hadd : (⟨g, 0, none⟩ : Addr).add j = ⟨g, 0 + j, none⟩ := by
      unfold Addr.add
      split
      · simp_all
      · rfl
    rw [hadd] at this
    exact this
theorem ReadsPr.below {w W : World} {A : Option Addr} {xs : List Nat} (h : ReadsPr w A xs) {n : Nat} (hb : Below n w W) (hn : w.heap.size ≤ n := by exact Nat.le_refl _) : ReadsPr W A xs := fun h0 => by
  obtain ⟨g, o, rfl, hg, h1⟩ := h h0
  exact ⟨g, o, rfl, Nat.lt_of_lt_of_le hg hb.size, fun j hj => (World.cell?_of_block (w := w) (w' := W) (a := ⟨g, o + j, none⟩) (hb.block g (by omega))).trans (h1 j hj)⟩
/-- the blocks of a tale -/
def rowYPr (B : Nat) (v : Value) : Nat → Prop := fun b => b = B ∨ v.ownBlock = some b
set_option maxRecDepth 100000 in
set_option maxHeartbeats 4000000 in
theorem values_seqPr (base B : Nat) (v : Value) (xs : List Nat) (w : World) (hxs : xs.length ≤ 1000000) (hb : w.heap[B]? = some (.cells #[v] 104 (0, 0))) (hr : OwnPr base w v xs) :
    SeqF Tryz.prog 84 #[.pointer (some ⟨B, 0, none⟩)] encRm (rowYPr B v) xs w := fun l J Jx X V hs hYl hX hJ hJx hY h0 => by
  have hbV := (hs B (.inl rfl)).trans hb
  have hrV : OwnPr base V v xs := ownPr_kept hr fun g hg => hs g (.inr hg)
  obtain ⟨A, c, rfl⟩ := row_slice hr
  have c0 : V.cell? ⟨B, 0, none⟩ = some (.slice A xs.length c) := (blk_cell hbV 0).trans rfl
  have HR := Lib.hid (reads_ownPr hrV)
  have HO := Lib.hid hrV
  have HY := Lib.hid hY
  have HX := Lib.hid hX
  have h00 : Hid (∃ X1, GrowX X X1 V V ∧ Fr X V V ∧ J [] X1 V) := ⟨X, GrowX.refl fun k hk => (hX k hk).1, Fr.refl _ _, h0⟩
  clear hb hr hs hrV hbV hY hX h0 hJ hJx hYl
  refine (callsIn_wide (n := 20)).1 ?_
  refine callsIn_of_wp Tryz.func84 rfl trivial ?_ rfl
  simp only [Tryz.ntmps84, List.size_toArray, List.length_cons, List.length_nil, Nat.reduceAdd, Nat.reduceSub, Array.replicate_succ, Array.replicate_zero, List.push_toArray, List.append_toArray, List.nil_append, List.cons_append]
  gi_wp2
  gi_loopw [7] (fun c1 wr => ∃ k : Nat, c1 = .int .i64 k ∧ k ≤ xs.length ∧ Hid (∃ X1, GrowX X X1 V wr ∧ Fr X V wr ∧ J (xs.take k) X1 wr)) (fun c1 _ => xs.length - (Go.RowKit.intOf c1).toNat)
  case atStart => exact ⟨0, rfl, Nat.zero_le _, h00⟩
  case round =>
    obtain ⟨k, rfl, hk, HJ⟩ := hrel
    clear h00
    obtain ⟨X1, hg1, hf1, hj1⟩ := HJ.out
    by_cases hlt : k < xs.length
    · obtain ⟨g, o, rfl, hg, hcell⟩ := HR.out (by omega)
      obtain ⟨x, hx⟩ : ∃ x, xs[k] = x := ⟨_, rfl⟩
      have hgY : rowYPr B (.slice (some ⟨g, o, none⟩) xs.length c) g := by
        rcases HO.out.2 with ⟨e, _⟩ | ⟨g2, cap, cur, e, _⟩
        · cases e
        · cases e; exact .inr rfl
      have e0 : wr.cell? ⟨g, o + k, none⟩ = some (.pointer (some ⟨x, 0, none⟩)) := by
        rw [hf1.cell (p := ⟨g, o + k, none⟩) hg (fun e => (HX.out g e).2 hgY), hcell k hlt, hx]
      have hsp : xs.take k ++ x :: xs.drop (k + 1) = xs := by rw [← hx, ← List.drop_eq_getElem_cons hlt]; exact List.take_append_drop k xs
      have htk : xs.take (k + 1) = xs.take k ++ [x] := by rw [List.take_succ_eq_append_getElem hlt, hx]
      have hyy := HY.out (xs.take k) x (xs.drop (k + 1)) X1 wr hsp hg1 hj1 hf1
      obtain ⟨fn, tmps, assign, body, hy, hR⟩ := hyy
      dsimp only [encRm] at hy
      have HT := Lib.hid (And.intro htk (And.intro hsp (And.intro hg1 hf1)))
      clear hx htk hsp hg hcell hg1 hf1 hj1 hgY
      gi_wp2_with fail
      refine (round_wide (.inl rfl) hR).mono ?_
      rintro e W3 ⟨X2, g2, f2, (⟨rfl, hJ3⟩ | ⟨rfl, hJx3⟩)⟩
      · obtain ⟨htk, hsp, hg1, hf1⟩ := HT.out
        have hN : Hid (∃ X1, GrowX X X1 V W3 ∧ Fr X V W3 ∧ J (xs.take (k + 1)) X1 W3) := ⟨X2, hg1.trans g2 hf1.size, hf1.trans3 f2 fun k hk e => (hg1 k e).2 hk, by rw [htk]; exact hJ3⟩
        clear htk hsp hg1 hf1 g2 f2 hJ3 hR hy
        gi_wp2_with fail
        go_roundw
        case rel => exact ⟨k + 1, by go_num, by omega, hN⟩
        case measure => simp [Go.RowKit.intOf]; omega
      · clear hR hy
        gi_wp2_with fail
        refine bodyPost_ret (results_none rfl _ _ _) rfl ?_
        obtain ⟨htk, hsp, hg1, hf1⟩ := HT.out
        exact ⟨⟨_, rfl⟩, X2, hg1.trans g2 hf1.size, hf1.trans3 f2 fun k hk e => (hg1 k e).2 hk, .inr ⟨_, xs.drop (k + 1), by simpa using hsp, hJx3⟩⟩
    · obtain rfl : k = xs.length := by omega
      rw [List.take_length] at hj1
      have HQ := Lib.hid (And.intro hg1 (And.intro hf1 hj1))
      clear hg1 hf1 hj1
      gi_wp2_with fail
      go_end0
      obtain ⟨hg1, hf1, hj1⟩ := HQ.out
      exact ⟨⟨_, rfl⟩, X1, hg1, hf1, .inl hj1⟩
/-- what tells xs: a tale, its box, the value in it -/
def TalePr (base : Nat) (w : World) (F : Value) (xs : List Nat) : Prop := ∃ B v, base ≤ B ∧ F = .func (.func 84) #[] #[.pointer (some ⟨B, 0, none⟩)] ∧ w.heap[B]? = some (.cells #[v] 104 (0, 0)) ∧ v.ownBlock ≠ some B ∧ OwnPr base w v xs
def ValsPr (v : Value) (w : World) (e : Ending) (w' : World) : Prop :=
  e = .returned (.func (.func 84) #[] #[.pointer (some ⟨w.heap.size, 0, none⟩)]) ∧ w'.heap[w.heap.size]? = some (.cells #[v] 104 (0, 0)) ∧ Below w.heap.size w w'
theorem values_callsPr (A : Option Addr) (l c : Nat) (w : World) : Calls Tryz.prog 58 #[.slice A l c] w (ValsPr (.slice A l c) w) := by
  go_enter Tryz.func58, Tryz.ntmps58
  go_wp2_with fail
  go_ret
  exact ⟨rfl, heap_alloc_new _ _, (Below.refl _ _).alloc (Nat.le_refl _) _⟩
theorem tale_ofPr -- of 58
    {base : Nat} {xs : List Nat} {w w1 : World} {v : Value} {e : Ending} (hb : base ≤ w.heap.size) (h1 : OwnPr base w v xs) (h3 : ValsPr v w e w1) : ∃ F, e = .returned F ∧ TalePr base w1 F xs ∧ Below w.heap.size w w1 := by
  obtain ⟨rfl, h4, h5⟩ := h3
  refine ⟨_, rfl, ⟨w.heap.size, v, hb, rfl, h4, fun e => ?_, ownPr_kept h1 fun g hg => h5.block g (h1.lt g hg).2⟩, h5⟩
  have := (h1.lt _ e).2; omega
theorem tellsPr_tale {base : Nat} {w : World} {F : Value} {xs : List Nat} (h : TalePr base w F xs) (hl : xs.length ≤ 1000000) : ∃ Y, (∀ b, Y b → base ≤ b) ∧ TellsF Tryz.prog encRm w F Y xs := by
  obtain ⟨B, v, h1, rfl, h3, h4, h5⟩ := h
  refine ⟨rowYPr B v, fun b hb => ?_, _, _, rfl, values_seqPr base B v xs w hl h3 h5, fun b hb => ?_, enters_of Tryz.func84 (by kernel_rfl) rfl⟩
  · rcases hb with rfl | hb
    · exact h1
    · exact (h5.lt b hb).1
  · rcases hb with rfl | hb
    · exact blk_lt h3
    · exact (h5.lt b hb).2
end Go.Proofs.YtlkeomcillencaaGreat
end
section
/- Sets of texts: the library's functions at rows of texts of the call's own: BinarySearch, Clone, Delete; Sort and CompactFunc of none. -/
namespace Go.Proofs.YtlkeomcillencaaGreat
open Go Go.RowKit Go.Lib Go.Sort Go.Shelf

theorem tirr (a : List UInt8) : ¬ a < a := List.lt_irrefl a
theorem ttr {a b c : List UInt8} (h : a < b) (k : b < c) : a < c := List.lt_trans h k
theorem ttri (a b : List UInt8) : a < b ∨ a = b ∨ b < a := by
  by_cases h : a < b
  · exact .inl h
  · by_cases h2 : b < a
    · exact .inr (.inr h2)
    · exact .inr (.inl (List.le_antisymm (List.not_lt.1 h2) (List.not_lt.1 h)))
theorem tless (x y : List UInt8) : Op.bytesLess (bs x).toList (bs y).toList = decide (x < y) := by rw [ByteArray.toList_eq, ByteArray.toList_eq]; exact bytesLess_eq x y
/-- below which place the lesser ones stand -/
theorem count_split : ∀ {xs : List (List UInt8)}, xs.Pairwise (· < ·) → ∀ (x : List UInt8) (t : Nat) (h : t < xs.length), xs[t] < x ↔ t < xs.countP (· < x)
  | [], _, _, _, h => by simp at h
  | a :: xs, hp, x, t, h => by
    rw [List.pairwise_cons] at hp
    by_cases c : a < x
    · rw [List.countP_cons_of_pos (by simpa using c)]
      cases t with
      | zero => simp [c]
      | succ t =>
        rw [List.getElem_cons_succ, count_split hp.2 x t (by simpa using h)]
        omega
    · have hz : (a :: xs).countP (· < x) = 0 := by
        rw [List.countP_eq_zero]
        intro y hy
        rcases List.mem_cons.1 hy with rfl | hy
        · simpa using c
        · have := hp.1 y hy
          simp only [decide_eq_true_eq]
          exact fun e => c (ttr this e)
      rw [hz]
      refine ⟨fun e => ?_, fun e => by omega⟩
      exfalso
      cases t with
      | zero => exact c e
      | succ t =>
        rw [List.getElem_cons_succ] at e
        exact c (ttr (hp.1 _ (List.getElem_mem _)) e)
theorem count_mem {xs : List (List UInt8)} (hp : xs.Pairwise (· < ·)) (x : List UInt8) : (∃ h : xs.countP (· < x) < xs.length, xs[xs.countP (· < x)] = x) ↔ x ∈ xs := by
  constructor
  · rintro ⟨h, e⟩; rw [← e]; exact List.getElem_mem h
  · intro hm
    obtain ⟨t, ht, e⟩ := List.getElem_of_mem hm
    have h1 : ¬ t < xs.countP (· < x) := fun c => by
      have := (count_split hp x t ht).2 c
      rw [e] at this; exact tirr _ this
    have h2 : ∀ u (hu : u < xs.length), u < t → u < xs.countP (· < x) := fun u hu hut => (count_split hp x u hu).1 (by
      rw [← e]
      exact List.pairwise_iff_getElem.1 hp u t hu ht hut)
    have h3 : xs.countP (· < x) = t := by
      rcases Nat.lt_or_ge (xs.countP (· < x)) t with c | c
      · have := h2 (xs.countP (· < x)) (by omega) c; omega
      · omega
    rw [h3] at *
    exact ⟨ht, by simpa [h3] using e⟩
theorem ownT_cell {base : Nat} {w : World} {A : Option Addr} {n c : Nat} {xs : List (List UInt8)} (h : OwnT base w (.slice A n c) xs) (hx : 0 < xs.length) : ∃ g cap cur, A = some ⟨g, 0, none⟩ ∧ n = xs.length ∧ c = cap ∧ base ≤ g ∧ w.heap[g]? = some (.cells cur 9 (0, 0)) ∧ xs.length ≤ cap ∧ cap ≤ maxLen ∧ cur.size = cap ∧ cur.toList.take xs.length = xs.map encT ∧ ∀ j (hj : j < xs.length), w.cell? ⟨g, j, none⟩ = some (encT xs[j]) := by
  rcases h.2 with ⟨hv, h0⟩ | ⟨g, cap, cur, hv, hb, hg, hn, hm, hs, ht⟩
  · omega
  · injection hv with q1 q2 q3
    rw [Nat.mul_one] at ht hs
    refine ⟨g, cap, cur, q1, q2, q3, hb, hg, hn, hm, hs, ht, fun j hj => ?_⟩
    have h1 : (cur.toList.take xs.length)[j]? = (xs.map encT)[j]? := by rw [ht]
    rw [List.getElem?_take_of_lt hj, Array.getElem?_toList] at h1
    rw [blk_cell hg j, h1]; simp [hj]
theorem bsearch_ownS {base : Nat} {w : World} {v : Value} {xs : List (List UInt8)} (h : OwnT base w v xs) (hl : xs.length ≤ 1000000) (hs : xs.Pairwise (· < ·)) (x : List UInt8) :
    Calls Tryz.prog 118 #[v, encT x] w fun e w' => e = .returned (.tuple #[.int .i64 (xs.countP (· < x) : Nat), .bool (xs.contains x)]) ∧ ∃ q, w' = w.drewN q := by
  rcases Nat.eq_zero_or_pos xs.length with h0 | h0
  · obtain rfl : xs = [] := List.length_eq_zero_iff.1 h0
    obtain ⟨A, c, rfl⟩ := row_slice h
    refine (Any2.slices_BinarySearch_string_empty Tryz.laysNm226 A c (bs x) w).mono ?_
    rintro e w' ⟨rfl, rfl⟩
    exact ⟨rfl, 0, rfl⟩
  · obtain ⟨A, c, rfl⟩ := row_slice h
    obtain ⟨g, cap, cur, rfl, _, rfl, hb, hg, hn, hm, hcs, ht, hc⟩ := ownT_cell h h0
    have key := Any2.slices_BinarySearch_string Tryz.laysNm226 g 0 xs.length c (fun t => if h : t < xs.length then bs xs[t] else bs x) (bs x) w (by omega) (fun j hj => by
      rw [Nat.zero_add, dif_pos hj]; exact hc j hj)
    have hk : bsGo (fun t => Op.bytesLess ((if h : t < xs.length then bs xs[t] else bs x)).toList (bs x).toList) xs.length 0 xs.length = xs.countP (· < x) := by
      refine bsGo_spec _ _ (fun t ht => ?_) (fun t ht => ?_) _ _ _ (by omega) (Nat.zero_le _) List.countP_le_length
      · have hlt : t < xs.length := Nat.lt_of_lt_of_le ht List.countP_le_length
        show Op.bytesLess ((if h : t < xs.length then bs xs[t] else bs x)).toList (bs x).toList = true
        rw [dif_pos hlt, tless]
        exact decide_eq_true ((count_split hs x t hlt).2 ht)
      · show Op.bytesLess ((if h : t < xs.length then bs xs[t] else bs x)).toList (bs x).toList = false
        by_cases hlt : t < xs.length
        · rw [dif_pos hlt, tless]
          exact decide_eq_false fun e => by have := (count_split hs x t hlt).1 e; omega
        · rw [dif_neg hlt, tless]
          exact decide_eq_false (tirr x)
    rw [hk] at key
    refine key.mono ?_
    rintro e w' ⟨rfl, q, rfl⟩
    refine ⟨congrArg (fun b => Ending.returned (.tuple #[.int .i64 (xs.countP (· < x) : Nat), .bool b])) ?_, q, rfl⟩
    rw [Bool.eq_iff_iff, decide_eq_true_eq, List.contains_iff_mem, ← count_mem hs x]
    constructor
    · rintro ⟨h1, h2⟩
      rw [dif_pos h1] at h2
      exact ⟨h1, by have := congrArg (fun b : ByteArray => b.data.toList) h2; simpa using this⟩
    · rintro ⟨h1, h2⟩
      exact ⟨h1, by rw [dif_pos h1, h2]⟩
theorem clone_ownS {base : Nat} {w : World} {v : Value} {xs : List (List UInt8)} (h : OwnT base w v xs) (hl : xs.length ≤ 1000000) :
    Calls Tryz.prog 122 #[v] w fun e w' => (∃ v', e = .returned v' ∧ OwnT w.heap.size w' v' xs) ∧ Below w.heap.size w w' := by
  rcases h.2 with ⟨rfl, h0⟩ | ⟨g, cap, cur, rfl, hb, hg, hn, hm, hcs, ht⟩
  · obtain rfl : xs = [] := List.length_eq_zero_iff.1 h0
    refine (Tryz.slices_Clone_string_nil 0 0 w).mono ?_
    rintro e w' ⟨rfl, rfl⟩
    exact ⟨⟨_, rfl, ownT_nil _ _⟩, Below.refl _ _⟩
  · rw [Nat.mul_one] at ht
    refine (Tryz.slices_Clone_string g 0 xs.length cap (xs.map bs) w (by simp) (by omega) (fun j hj => by
      have hj2 : j < xs.length := by simpa using hj
      have h1 : (cur.toList.take xs.length)[j]? = (xs.map encT)[j]? := by rw [ht]
      rw [List.getElem?_take_of_lt hj2, Array.getElem?_toList] at h1
      rw [Nat.zero_add, blk_cell hg j, h1]
      simp [List.getD, hj2, encT])).mono ?_
    rintro e w' ⟨v', rfl, hr, _, hbl⟩
    refine ⟨⟨v', rfl, ?_⟩, hbl⟩
    have e1 : ((xs.map bs).take xs.length).map Value.string = xs.map encT := by
      rw [List.take_of_length_le (by simp), List.map_map]; rfl
    rw [e1] at hr
    exact hr
theorem take_of_getS {cur : Array Value} {ys : List (List UInt8)} (hs : ys.length ≤ cur.size) (h : ∀ j (hj : j < ys.length), cur[j]? = some (encT ys[j])) : cur.toList.take ys.length = ys.map encT := by
  apply List.ext_getElem?
  intro j
  by_cases hj : j < ys.length
  · rw [List.getElem?_take_of_lt hj, Array.getElem?_toList, h j hj]; simp [hj]
  · rw [List.getElem?_take_eq_none (by omega), List.getElem?_eq_none (by simp; omega)]
theorem delete_ownS {base : Nat} {w : World} {v : Value} {xs : List (List UInt8)} (h : OwnT base w v xs) (hl : xs.length ≤ 1000000) (i : Nat) (hi : i < xs.length) :
    Calls Tryz.prog 120 #[v, .int .i64 i, .int .i64 (i + 1 : Nat)] w fun e w' => (∃ v', e = .returned v' ∧ OwnT base w' v' (xs.take i ++ xs.drop (i + 1)) ∧ Tie w v v') ∧ Fr (vB v) w w' := by
  obtain ⟨A, c, rfl⟩ := row_slice h
  obtain ⟨g, cap, cur, rfl, _, rfl, hb, hg, hn, hm, hcs, ht, hc⟩ := ownT_cell h (by omega)
  have hq := Tryz.slices_Delete_string_cells g 0 xs.length c i (i + 1) (fun t => bs (xs.getD t [])) w hn (by unfold maxLen at hm; omega) (by omega) (by omega) (fun j hj => by
    rw [Nat.zero_add, hc j hj]; simp [List.getD, hj, encT]) (fun j hj => blk_free hg _)
  refine hq.mono ?_
  rintro e w' ⟨rfl, q, rfl⟩
  have hst : Lib.strsOf (fun t => bs (xs.getD t [])) xs.length = xs := by
    refine List.ext_getElem (by simp [Lib.strsOf]) fun j h1 h2 => ?_
    simp [Lib.strsOf, h2]
  rw [hst]
  have hlen : (xs.take i ++ xs.drop (i + 1)).length = xs.length - 1 := by simp; omega
  obtain ⟨cur', h1, h2, h3⟩ := heap_setCells (b := g) ((xs.take i ++ xs.drop (i + 1) ++ List.replicate (i + 1 - i) []).map encStr) 0 (w.drewN q) cur hg
  refine ⟨⟨_, rfl, ⟨by simp, .inr ⟨g, c, cur', ?_, hb, h1, by omega, hm, by omega, ?_⟩⟩, tie_same rfl⟩, fr_setCells (X := vB (.slice (some ⟨g, 0, none⟩) xs.length c)) (.inl (by rfl)) _ _ _ ((Fr.refl _ w).drewN q)⟩
  · rw [hlen, show xs.length - (i + 1 - i) = xs.length - 1 by omega]
  · rw [Nat.mul_one]
    refine take_of_getS (by omega) fun j hj => ?_
    rw [h3 j, if_pos ⟨by omega, by simp at hj ⊢; omega, by omega⟩, Nat.sub_zero, List.getElem?_map, List.getElem?_append_left hj, List.getElem?_eq_getElem hj]
    rfl
theorem own_getS {base : Nat} {w : World} {g cap : Nat} {xs : List (List UInt8)} {cur : Array Value} {T : TypeId} (hg : w.heap[g]? = some (.cells cur T (0, 0))) (ht : cur.toList.take xs.length = xs.map encT) (j : Nat) (hj : j < xs.length) : cur[j]? = some (encT xs[j]) := by
  have h1 : (cur.toList.take xs.length)[j]? = (xs.map encT)[j]? := by rw [ht]
  rw [List.getElem?_take_of_lt hj, Array.getElem?_toList] at h1
  rw [h1]; simp [hj]
theorem string_cells (xs : List (List UInt8)) : ∀ u ∈ xs.map encT, u.oneCell' = true := by
  intro u hu
  obtain ⟨x, _, rfl⟩ := List.mem_map.1 hu
  rfl
end Go.Proofs.YtlkeomcillencaaGreat
end
section
/- Sets of texts: slices.Insert of one text, at a row of the call's own. -/
namespace Go.Proofs.YtlkeomcillencaaGreat
open Go Go.RowKit Go.Lib Go.Sort Go.Shelf

theorem row_grownS {w : World} {base : Nat} {zs : List (List UInt8)} {m old : Nat} (hm : zs.length = m) (hz : m ≤ 1000001) (hb : base ≤ w.heap.size) {cur : Array Value} (hs : cur.size = grownCap w m old 9) (ht : cur.toList.take m = zs.map encT) {W : World} (hW : W.heap[w.heap.size]? = some (.cells cur 9 (0, 0))) :
    OwnT base W (.slice (some ⟨w.heap.size, 0, none⟩) m (grownCap w m old 9)) zs := by
  subst hm
  refine ⟨by simp, .inr ⟨w.heap.size, _, cur, rfl, hb, hW, grownCap_ge _ _ _ _, grownCap_le_maxLen _ _ _ _ (by unfold maxLen; omega), by rw [hs, Nat.mul_one], by rw [Nat.mul_one]; exact ht⟩⟩

theorem take_of_getqS {cur : Array Value} {ys : List (List UInt8)} (hs : ys.length ≤ cur.size) (h : ∀ j, j < ys.length → cur[j]? = (ys[j]?).map encT) : cur.toList.take ys.length = ys.map encT :=
  take_of_getS hs fun j hj => by rw [h j hj, List.getElem?_eq_getElem hj]; rfl
theorem own_getqS {w : World} {g : Nat} {xs : List (List UInt8)} {cur : Array Value} {T : TypeId} (hg : w.heap[g]? = some (.cells cur T (0, 0))) (ht : cur.toList.take xs.length = xs.map encT) (j : Nat) (hj : j < xs.length) : cur[j]? = (xs[j]?).map encT := by
  rw [own_getS (base := 0) (w := w) (cap := 0) hg ht j hj, List.getElem?_eq_getElem hj]; rfl

set_option maxHeartbeats 1000000 in
theorem insert_ownS {base : Nat} {w : World} {v : Value} {xs : List (List UInt8)} (h : OwnT base w v xs) (hl : xs.length ≤ 1000000) (i : Nat) (hi : i ≤ xs.length) (x : List UInt8) (vb : Nat) (hvb : w.heap[vb]? = some (.cells #[encT x] 9 (0, 0))) (hne : v.ownBlock ≠ some vb) (hbw : base ≤ w.heap.size) :
    Calls Tryz.prog 124 #[v, .int .i64 i, .slice (some ⟨vb, 0, none⟩) 1 1] w fun e w' => (∃ v', e = .returned v' ∧ OwnT base w' v' (xs.take i ++ x :: xs.drop i) ∧ Tie w v v') ∧ Fr (vB v) w w' := by
  have hvs : ∀ j u, [encT x][j]? = some u → w.cell? ⟨vb, 0 + j, none⟩ = some u := by
    intro j u hu
    rw [Nat.zero_add, blk_cell hvb j]
    rw [← hu]
    exact (Array.getElem?_toList (xs := #[encT x]) (i := j)).symm
  have h1v : ∀ u ∈ [encT x], u.oneCell' = true := by intro u hu; simp at hu; subst hu; rfl
  have hT : Tryz.laysNm222_ren.t 9 = 9 := rfl
  have hlen : (xs.take i ++ x :: xs.drop i).length = xs.length + 1 := by simp; omega
  rcases h.2 with ⟨rfl, h0⟩ | ⟨g, cap, cur, rfl, hb, hg, hn, hm, hcs, ht⟩
  · obtain rfl : xs = [] := List.length_eq_zero_iff.1 h0
    obtain rfl : i = 0 := by simpa using hi
    refine (Any2.slices_Insert_string_end_grow Tryz.laysNm222 none 0 0 vb 0 1 1 [] [encT x] w (by omega) (by omega) (by omega) (by omega) rfl rfl (fun _ => rfl) (fun a ha => by cases ha) hvs h1v).mono ?_
    rintro e w' ⟨he, hw⟩
    rw [hT] at he hw
    subst he; subst hw
    refine ⟨⟨_, rfl, row_grownS (zs := [x]) rfl (by simp) hbw ?_ ?_ (heap_alloc_new w.drew _), tie_new rfl (Nat.le_refl _)⟩, (Fr.refl _ w).drew.alloc _⟩
    · have := grownCap_ge w (0 + 1) 0 9
      simp [size_zeroCells, Value.cells] at this ⊢; omega
    · simp
  · rw [Nat.mul_one] at ht hcs
    have hgb : g ≠ vb := fun e => hne (by rw [e]; rfl)
    have hcell : ∀ j u, (xs.map encT)[j]? = some u → w.cell? ⟨g, 0 + j, none⟩ = some u := by
      intro j u hu
      rw [Nat.zero_add, blk_cell hg j]
      have hj : j < xs.length := by have := (List.getElem?_eq_some_iff.1 hu).1; simpa using this
      rw [own_getS (base := 0) (w := w) (cap := cap) hg ht j hj, ← hu]
      simp [hj]
    have hcl : (xs.map encT).length = xs.length := by simp
    have hmm := hm
    unfold maxLen at hmm
    by_cases hroom : xs.length + 1 ≤ cap
    · have hsome : ∀ j, j < cap → (w.cell? ⟨g, j, none⟩).isSome = true := fun j hj => by rw [blk_cell hg j, Array.getElem?_eq_getElem (by omega)]; rfl
      by_cases hend : i = xs.length
      · subst hend
        refine (Any2.slices_Insert_string_end_room Tryz.laysNm222 g 0 xs.length cap vb 0 1 1 [encT x] w (by omega) hroom (by omega) rfl (fun j hj => by rw [show 0 + xs.length + j = xs.length + j by omega]; exact hsome _ (by omega)) (fun j _ => blk_free hg _) hvs h1v).mono ?_
        rintro e w' ⟨rfl, rfl⟩
        obtain ⟨cur', k1, k2, k3⟩ := heap_setCells (b := g) [encT x] (0 + xs.length) w cur hg
        refine ⟨⟨_, rfl, ⟨by simp, .inr ⟨g, cap, cur', ?_, hb, k1, by omega, hm, by omega, ?_⟩⟩, tie_same rfl⟩, fr_setCells (X := vB (.slice (some ⟨g, 0, none⟩) xs.length cap)) (.inl (by rfl)) _ _ _ (Fr.refl _ w)⟩
        · rw [hlen]
        · rw [Nat.mul_one]
          refine take_of_getqS (by omega) fun j hj => ?_
          rw [k3 j, ins_get _ _ (Nat.le_refl _)]
          by_cases e : j < xs.length
          · rw [if_neg (by omega), if_pos e]; exact own_getqS hg ht j e
          · obtain rfl : j = xs.length := by omega
            rw [if_pos ⟨by omega, by simp, by omega⟩, if_neg e, if_pos rfl]
            simp
      · have hil : i < xs.length := by omega
        refine (Any2.slices_Insert_string_shift Tryz.laysNm222 g 0 xs.length cap i vb 0 1 1 (xs.map encT) [encT x] w hil (by omega) hroom (by omega) (fun e => hgb e.symm) hcl rfl hcell (fun j hj => by rw [Nat.zero_add]; exact hsome j (by omega)) (fun j _ => blk_free hg _) hvs (string_cells xs) h1v _ _ _ _
          (show w.shape? vb = some (9, 1) by simp [World.shape?, hvb]) (show w.shape? g = some (9, cap) by simp [World.shape?, hg, hcs]) (by omega) (blk_free hvb _) (by simp [World.frozen?, hvb])).mono ?_
        rintro e w' ⟨rfl, rfl⟩
        obtain ⟨cur1, k1, k2, k3⟩ := heap_setCells (b := g) ((xs.map encT).drop i) (0 + (i + 1)) w.drew cur hg
        obtain ⟨cur2, p1, p2, p3⟩ := heap_setCells (b := g) [encT x] (0 + i) _ cur1 k1
        refine ⟨⟨_, rfl, ⟨by simp, .inr ⟨g, cap, cur2, ?_, hb, p1, by omega, hm, by omega, ?_⟩⟩, tie_same rfl⟩, fr_setCells (X := vB (.slice (some ⟨g, 0, none⟩) xs.length cap)) (.inl (by rfl)) _ _ _ (fr_setCells (X := vB (.slice (some ⟨g, 0, none⟩) xs.length cap)) (.inl (by rfl)) _ _ _ (Fr.refl _ w).drew)⟩
        · rw [hlen]
        · rw [Nat.mul_one]
          refine take_of_getqS (by omega) fun j hj => ?_
          rw [p3 j, ins_get _ _ hi]
          by_cases e : j = i
          · subst e
            rw [if_pos ⟨by omega, by simp, by omega⟩, if_neg (by omega), if_pos rfl]
            simp
          · rw [if_neg (by simp; omega), k3 j]
            by_cases c : j < i
            · rw [if_neg (by omega), if_pos c]; exact own_getqS hg ht j (by omega)
            · rw [if_pos ⟨by omega, by simp; omega, by omega⟩, if_neg c, if_neg e, List.getElem?_drop, List.getElem?_map, show i + (j - (0 + (i + 1))) = j - 1 by omega]
    · by_cases hend : i = xs.length
      · subst hend
        refine (Any2.slices_Insert_string_end_grow Tryz.laysNm222 (some ⟨g, 0, none⟩) xs.length cap vb 0 1 1 (xs.map encT) [encT x] w (by omega) hn (by omega) (by omega) hcl rfl (fun h => by cases h) (fun a ha j u hu => by cases ha; rw [Addr.add_lit]; exact hcell j u hu) hvs h1v).mono ?_
        rintro e w' ⟨he, hw⟩
        rw [hT] at he hw
        subst he; subst hw
        have e1 : (xs.map encT ++ [encT x]).length = xs.length + 1 := by simp
        refine ⟨⟨_, rfl, row_grownS (zs := xs.take xs.length ++ x :: xs.drop xs.length) (by simp) (by omega) hbw ?_ ?_ (heap_alloc_new w.drew _), tie_new rfl (Nat.le_refl _)⟩, (Fr.refl _ w).drew.alloc _⟩
        · have := grownCap_ge w (xs.length + 1) cap 9
          simp [size_zeroCells, Value.cells]; omega
        · rw [Array.toList_append, ← e1, List.take_left]
          simp
      · have hil : i < xs.length := by omega
        refine (Any2.slices_Insert_string_grow Tryz.laysNm222 g 0 xs.length cap i vb 0 1 1 (xs.map encT) [encT x] w hil (by omega) hn (by omega) (by omega) hcl rfl hcell hvs (string_cells xs) h1v).mono ?_
        rintro e w' ⟨he, hw⟩
        rw [hT] at he hw
        subst he; subst hw
        have hge := grownCap_ge w (xs.length + 1) cap 9
        obtain ⟨G, hG⟩ : ∃ G, grownCap w (xs.length + 1) cap 9 = G := ⟨_, rfl⟩
        obtain ⟨C, hC⟩ : ∃ C, ((xs.map encT).take i).toArray ++ Builtin.zeroCells (Value.string ⟨#[]⟩).cells (xs.length + 1 - i) ++ Builtin.zeroCells (Value.string ⟨#[]⟩).cells (G - (xs.length + 1)) = C := ⟨_, rfl⟩
        have hCs : C.size = G := by
          rw [← hC]
          simp [size_zeroCells, Value.cells]; omega
        have hCl : ∀ j, j < i → C[j]? = (xs[j]?).map encT := fun j hj => by
          rw [← hC, Array.getElem?_append_left (by simp; omega), Array.getElem?_append_left (by simp; omega), List.getElem?_toArray, List.getElem?_take_of_lt hj, List.getElem?_map]
        rw [hG] at hge ⊢
        rw [hC]
        obtain ⟨cur1, k1, k2, k3⟩ := heap_setCells (b := w.heap.size) [encT x] i (w.alloc (.cells C 9)).drew C (heap_alloc_new w _)
        obtain ⟨cur2, p1, p2, p3⟩ := heap_setCells (b := w.heap.size) ((xs.map encT).drop i) (i + 1) (((w.alloc (.cells C 9)).drew.setCells w.heap.size i [encT x]).drew) cur1 k1
        have hrow := row_grownS (w := w) (old := cap) (m := xs.length + 1) (zs := xs.take i ++ x :: xs.drop i) (cur := cur2) hlen (by omega) hbw (by omega) (by
          rw [← hlen]
          refine take_of_getqS (by omega) fun j hj => ?_
          rw [p3 j, ins_get _ _ hi]
          by_cases c : j < i
          · rw [if_neg (by omega), if_pos c, k3 j, if_neg (by omega)]; exact hCl j c
          · by_cases e : j = i
            · subst e
              rw [if_neg (by omega), if_neg c, if_pos rfl, k3 j, if_pos ⟨by omega, by simp, by omega⟩]
              simp
            · rw [if_pos ⟨by omega, by simp; omega, by omega⟩, if_neg c, if_neg e, List.getElem?_drop, List.getElem?_map, show i + (j - (i + 1)) = j - 1 by omega]) p1
        rw [hG] at hrow
        exact ⟨⟨_, rfl, hrow, tie_new rfl (Nat.le_refl _)⟩, fr_setCells (.inr (Nat.le_refl _)) _ _ _ (fr_setCells (.inr (Nat.le_refl _)) _ _ _ ((Fr.refl _ w).alloc _).drew).drew⟩
end Go.Proofs.YtlkeomcillencaaGreat
end
section
/- Sets of texts: a set as it lies; Has, Len, List, Add. -/
namespace Go.Proofs.YtlkeomcillencaaGreat
open Go Go.RowKit Go.Lib Go.Sort Go.Shelf

/-- a set: its block, its row's block, its things -/
def SetAtS (base : Nat) (w : World) (s : Nat) (ob : Option Nat) (xs : List (List UInt8)) : Prop :=
  (∃ v, w.heap[s]? = some (.cells #[v] 167 (0, 0)) ∧ v.ownBlock = ob ∧ OwnT base w v xs) ∧ ob ≠ some s ∧ xs.Pairwise (· < ·)
/-- one thing more -/
def insIS (xs : List (List UInt8)) (x : List UInt8) : List (List UInt8) := if xs.contains x then xs else xs.take (xs.countP (· < x)) ++ x :: xs.drop (xs.countP (· < x))
theorem countP_leS (xs : List (List UInt8)) (x : List UInt8) : xs.countP (· < x) ≤ xs.length := List.countP_le_length
theorem take_ltS {xs : List (List UInt8)} (hp : xs.Pairwise (· < ·)) (x : List UInt8) : (∀ y ∈ xs.take (xs.countP (· < x)), y < x) ∧ (∀ y ∈ xs.drop (xs.countP (· < x)), ¬ y < x) := by
  refine ⟨fun y hy => ?_, fun y hy hlt => ?_⟩
  · obtain ⟨t, ht, rfl⟩ := List.getElem_of_mem hy
    rw [List.getElem_take]
    rw [List.length_take] at ht
    exact (count_split hp x t (by omega)).2 (by omega)
  · obtain ⟨t, ht, rfl⟩ := List.getElem_of_mem hy
    rw [List.getElem_drop] at hlt
    rw [List.length_drop] at ht
    have := (count_split hp x (xs.countP (· < x) + t) (by omega)).1 hlt
    omega
theorem insI_upS {xs : List (List UInt8)} (h : xs.Pairwise (· < ·)) (x : List UInt8) : (insIS xs x).Pairwise (· < ·) := by
  unfold insIS
  split
  · exact h
  · next hc =>
    obtain ⟨h1, h2⟩ := take_ltS h x
    have hp := h
    rw [← List.take_append_drop (xs.countP (· < x)) xs] at hp
    obtain ⟨p1, p2, p3⟩ := List.pairwise_append.1 hp
    refine List.pairwise_append.2 ⟨p1, List.pairwise_cons.2 ⟨fun y hy => ?_, p2⟩, fun y hy z hz => ?_⟩
    · have h3 := h2 y hy
      have h4 : y ≠ x := by
        rintro rfl
        exact hc (by simpa using List.mem_of_mem_drop hy)
      rcases ttri x y with h | h | h
      · exact h
      · exact absurd h.symm h4
      · exact absurd h h3
    · rcases List.mem_cons.1 hz with rfl | hz
      · exact h1 y hy
      · exact p3 y hy z hz
theorem insI_lenS (xs : List (List UInt8)) (x : List UInt8) : (insIS xs x).length = if xs.contains x then xs.length else xs.length + 1 := by
  unfold insIS
  have := countP_leS xs x
  split
  · rfl
  · simp; omega
/-- many -/
def insAllS (xs ls : List (List UInt8)) : List (List UInt8) := ls.foldl insIS xs
theorem insAll_snocS (xs ls : List (List UInt8)) (x : List UInt8) : insAllS xs (ls ++ [x]) = insIS (insAllS xs ls) x := by simp [insAllS]
theorem insAll_lenS (xs : List (List UInt8)) : ∀ ls : List (List UInt8), (insAllS xs ls).length ≤ xs.length + ls.length ∧ xs.length ≤ (insAllS xs ls).length := by
  refine snoc_ind ?_ ?_
  · simp [insAllS]
  · intro l x ih
    rw [insAll_snocS, insI_lenS, List.length_append, List.length_singleton]
    split <;> omega
theorem insAll_upS {xs : List (List UInt8)} (h : xs.Pairwise (· < ·)) : ∀ ls : List (List UInt8), (insAllS xs ls).Pairwise (· < ·) := by
  refine snoc_ind h ?_
  intro l x ih
  rw [insAll_snocS]
  exact insI_upS ih x

theorem own_keptS {base : Nat} {w W : World} {v : Value} {xs : List (List UInt8)} (h : OwnT base w v xs) (hs : ∀ g, v.ownBlock = some g → W.heap[g]? = w.heap[g]?) : OwnT base W v xs := row_same h hs
theorem set_keptS {base : Nat} {w W : World} {s : Nat} {ob : Option Nat} {xs : List (List UInt8)} (h : SetAtS base w s ob xs) (h1 : W.heap[s]? = w.heap[s]?) (h2 : ∀ g, ob = some g → W.heap[g]? = w.heap[g]?) : SetAtS base W s ob xs := by
  obtain ⟨⟨v, a, rfl, b⟩, c, d⟩ := h
  exact ⟨⟨v, h1.trans a, rfl, own_keptS b h2⟩, c, d⟩
theorem set_belowS {base : Nat} {w W : World} {s : Nat} {ob : Option Nat} {xs : List (List UInt8)} (h : SetAtS base w s ob xs) (hb : Below w.heap.size w W) : SetAtS base W s ob xs := by
  obtain ⟨⟨v, a, rfl, b⟩, c, d⟩ := h
  exact ⟨⟨v, (hb.block _ (blk_lt a)).trans a, rfl, own_keptS b fun g hg => hb.block g (b.lt g hg).2⟩, c, d⟩

theorem set_has_nilS (x : List UInt8) (w : World) : Calls Tryz.prog 91 #[.pointer none, encT x] w fun e w' => e = .returned (.bool false) ∧ w' = w := by
  go_enter Tryz.func91, Tryz.ntmps91
  go_wp2_with fail
  go_ret
  exact ⟨rfl, rfl⟩
theorem set_hasS {base : Nat} {w : World} {s : Nat} {ob : Option Nat} {xs : List (List UInt8)} (h : SetAtS base w s ob xs) (hl : xs.length ≤ 1000000) (x : List UInt8) :
    Calls Tryz.prog 91 #[.pointer (some ⟨s, 0, none⟩), encT x] w fun e w' => e = .returned (.bool (xs.contains x)) ∧ ∃ q, w' = w.drewN q := by
  obtain ⟨⟨v, hv, hob, hown⟩, hne, hup⟩ := h
  obtain ⟨A, c, rfl⟩ := row_slice hown
  have c0 := blk_cell hv 0
  have hb := bsearch_ownS hown hl hup x
  obtain ⟨b, hb2⟩ : ∃ b, xs.contains x = b := ⟨_, rfl⟩
  rw [hb2] at hb ⊢
  have HB := Lib.hid hb
  clear hb hv hob hown hup hb2
  go_enter Tryz.func91, Tryz.ntmps91
  go_wp2_with fail
  refine HB.out.mono ?_
  rintro e w1 ⟨rfl, q, rfl⟩
  go_wp2_with fail
  go_ret
  exact ⟨by cases b <;> rfl, q, rfl⟩
theorem set_len_nilS (w : World) : Calls Tryz.prog 81 #[.pointer none] w fun e w' => e = .returned (.int .i64 0) ∧ w' = w := by
  go_enter Tryz.func81, Tryz.ntmps81
  go_wp2_with fail
  go_ret
  exact ⟨rfl, rfl⟩
theorem set_lenS {base : Nat} {w : World} {s : Nat} {ob : Option Nat} {xs : List (List UInt8)} (h : SetAtS base w s ob xs) :
    Calls Tryz.prog 81 #[.pointer (some ⟨s, 0, none⟩)] w fun e w' => e = .returned (.int .i64 xs.length) ∧ w' = w := by
  obtain ⟨⟨v, hv, hob, hown⟩, hne, hup⟩ := h
  obtain ⟨A, c, rfl⟩ := row_slice hown
  have c0 := blk_cell hv 0
  clear hv hob hown hup
  go_enter Tryz.func81, Tryz.ntmps81
  go_wp2_with fail
  go_ret
  exact ⟨rfl, rfl⟩
theorem set_list_nilS (w : World) : Calls Tryz.prog 101 #[.pointer none] w fun e w' => e = .returned (.slice none 0 0) ∧ w' = w := by
  go_enter Tryz.func101, Tryz.ntmps101
  go_wp2_with fail
  go_ret
  exact ⟨rfl, rfl⟩
/-- a slice of numbers, handed back -/
def ListPS (xs : List (List UInt8)) (w : World) (e : Ending) (w' : World) : Prop := (∃ v', e = .returned v' ∧ OwnT w.heap.size w' v' xs) ∧ Below w.heap.size w w'
theorem set_listS {base : Nat} {w : World} {s : Nat} {ob : Option Nat} {xs : List (List UInt8)} (h : SetAtS base w s ob xs) (hl : xs.length ≤ 1000000) :
    Calls Tryz.prog 101 #[.pointer (some ⟨s, 0, none⟩)] w (ListPS xs w) := by
  obtain ⟨⟨v, hv, hob, hown⟩, hne, hup⟩ := h
  have hc := clone_ownS hown hl
  obtain ⟨A, c, rfl⟩ := row_slice hown
  have c0 := blk_cell hv 0
  have HC := Lib.hid hc
  clear hc hv hob hown hup
  go_enter Tryz.func101, Tryz.ntmps101
  go_wp2_with fail
  refine HC.out.mono ?_
  rintro e w1 ⟨⟨v', rfl, h1⟩, h2⟩
  obtain ⟨A', c', rfl⟩ := row_slice h1
  have H := Lib.hid (And.intro h1 h2)
  clear h1 h2
  go_wp2_with fail
  go_ret
  exact ⟨⟨_, rfl, H.out.1⟩, H.out.2⟩

/-- behind some came in -/
def AddPS (base : Nat) (w : World) (s : Nat) (ob : Option Nat) (xs ls : List (List UInt8)) (wr : World) : Prop :=
  ∃ ob', SetAtS base wr s ob' (insAllS xs ls) ∧ (∀ k, ob' = some k → k < w.heap.size → ob = some k) ∧ Fr (fun k => k = s ∨ ob = some k) w wr
set_option maxRecDepth 100000 in
set_option maxHeartbeats 4000000 in
theorem set_addS {base : Nat} {w : World} {s : Nat} {ob : Option Nat} {xs : List (List UInt8)} (h : SetAtS base w s ob xs) (hbw : base ≤ w.heap.size) (A : Option Addr) (ls : List (List UInt8)) (c : Nat) (hl : xs.length + ls.length ≤ 1000000)
    (hc : 0 < ls.length → ∃ g o, A = some ⟨g, o, none⟩ ∧ g < w.heap.size ∧ g ≠ s ∧ ob ≠ some g ∧ ∀ j (h : j < ls.length), w.cell? ⟨g, o + j, none⟩ = some (encT ls[j])) :
    Calls Tryz.prog 103 #[.pointer (some ⟨s, 0, none⟩), .slice A ls.length c] w fun e w' => e = .returned (.int .i64 ((insAllS xs ls).length - xs.length : Nat)) ∧ AddPS base w s ob xs ls w' := by
  have hs0 : s < w.heap.size := by obtain ⟨⟨v, hv, _⟩, _⟩ := h; exact blk_lt hv
  have H0 : Hid (AddPS base w s ob xs [] w) := ⟨ob, h, fun _ h _ => h, Fr.refl _ _⟩
  have HC := Lib.hid hc
  clear hc h
  go_enter Tryz.func103, Tryz.ntmps103
  go_wp2_with fail
  go_loopw [5, 14] (fun cm ct wr => ∃ k : Nat, ct = .int .i64 k ∧ k ≤ ls.length ∧ cm = .int .i64 ((insAllS xs (ls.take k)).length - xs.length : Nat) ∧ Hid (AddPS base w s ob xs (ls.take k) wr)) (fun _ ct _ => ls.length - (Go.RowKit.intOf ct).toNat)
  case atStart => exact ⟨0, rfl, Nat.zero_le _, by simp [insAllS], by simpa using H0⟩
  case round =>
    obtain ⟨k, rfl, hk, rfl, HA⟩ := hrel
    by_cases hlt : k < ls.length
    · obtain ⟨g, o, rfl, hg, hgs, hgo, hcell⟩ := HC.out (by omega)
      obtain ⟨ob', hset, hob', hfr⟩ := HA.out
      have e0 : wr.cell? ⟨g, o + k, none⟩ = some (Value.string (bs ls[k])) := (hfr.cell (p := ⟨g, o + k, none⟩) hg (by rintro (h | h); exact hgs h; exact hgo h)).trans (hcell k hlt)
      have htk : ls.take (k + 1) = ls.take k ++ [ls[k]] := List.take_succ_eq_append_getElem hlt
      obtain ⟨x, hx⟩ : ∃ x, ls[k] = x := ⟨_, rfl⟩
      rw [hx] at e0 htk
      obtain ⟨ys, hys⟩ : ∃ ys, insAllS xs (ls.take k) = ys := ⟨_, rfl⟩
      have hins : insAllS xs (ls.take (k + 1)) = insIS ys x := by rw [htk, insAll_snocS, hys]
      have hyl := insAll_lenS xs (ls.take k)
      rw [List.length_take, hys] at hyl
      have hy1 : ys.length ≤ 1000000 := by omega
      have hy2 : ys.length - xs.length ≤ 1000000 := by omega
      rw [hys] at hset ⊢
      obtain ⟨⟨v, hv, hvo, hown⟩, hne, hup⟩ := hset
      have hbs := bsearch_ownS hown hy1 hup x
      obtain ⟨av, cv, rfl⟩ := row_slice hown
      have c0 := blk_cell hv 0
      have f0 := blk_free hv 0
      obtain ⟨b, hb⟩ : ∃ b, ys.contains x = b := ⟨_, rfl⟩
      rw [hb] at hbs
      have hz := hfr.size
      have H := Lib.hid (And.intro hv (And.intro hvo (And.intro hown (And.intro hne (And.intro hup (And.intro hob' (And.intro hfr (And.intro hins (And.intro hyl hb)))))))))
      have HB := Lib.hid hbs
      clear hbs hv hvo hown hne hup hob' hfr hins hyl hb hys htk hx hcell
      go_wp2_with fail
      refine HB.out.mono ?_
      rintro e w1 ⟨rfl, q, rfl⟩
      cases b with
      | true =>
        go_wp2_with fail
        obtain ⟨hv, hvo, hown, hne, hup, hob', hfr, hins, hyl, hb⟩ := H.out
        have hi2 : insIS ys x = ys := by unfold insIS; rw [if_pos hb]
        have hnew : AddPS base w s ob xs (ls.take (k + 1)) (wr.drewN q) := by
          refine ⟨ob', ⟨⟨_, hv, hvo, ?_⟩, hne, ?_⟩, hob', hfr.drewN q⟩
          · rw [hins, hi2]; exact hown
          · rw [hins, hi2]; exact hup
        have HN := Lib.hid hnew
        have hlen : (insAllS xs (ls.take (k + 1))).length = ys.length := by rw [hins, hi2]
        have HL := Lib.hid hlen
        clear hnew hlen hv hvo hown hne hup hob' hfr hins hyl hb hi2
        go_roundw
        case rel => exact ⟨k + 1, by go_num, by omega, by rw [HL.out], HN⟩
        case measure => simp [Go.RowKit.intOf]; omega
      | false =>
        go_wp2_with fail
        obtain ⟨hv, hvo, hown, hne, hup, hob', hfr, hins, hyl, hb⟩ := H.out
        have hi2 : insIS ys x = ys.take (ys.countP (· < x)) ++ x :: ys.drop (ys.countP (· < x)) := by unfold insIS; rw [hb]; rfl
        have hil : (insIS ys x).length = ys.length + 1 := by rw [insI_lenS, hb]; rfl
        have hiu := insI_upS hup x
        obtain ⟨W2, hW2⟩ : ∃ W2, (wr.drewN q).alloc (Obj.cells #[Value.string (bs x)] 9) = W2 := ⟨_, rfl⟩
        have hsz : (wr.drewN q).heap.size = wr.heap.size := rfl
        have hf2 : Fr (fun k => k = s ∨ ob = some k) w W2 := by rw [← hW2]; exact (hfr.drewN q).alloc _
        have hv2 : W2.heap[s]? = some (.cells #[.slice av ys.length cv] 167 (0, 0)) := by rw [← hW2]; exact blk_alloc (by exact hv) _
        have hn2 : W2.heap[wr.heap.size]? = some (.cells #[encT x] 9 (0, 0)) := by rw [← hW2, ← hsz]; exact heap_alloc_new _ _
        have hbel : Below wr.heap.size wr W2 := by rw [← hW2]; exact Below.alloc (⟨rfl, rfl, rfl, Nat.le_refl _, fun _ _ => rfl⟩ : Below wr.heap.size wr (wr.drewN q)) (Nat.le_refl _) _
        have ho2 : OwnT base W2 (.slice av ys.length cv) ys := own_keptS hown fun g hg => hbel.block g (hown.lt g hg).2
        have hlt2 : ob' ≠ some wr.heap.size := fun e => by have := (hown.lt wr.heap.size (by rw [hvo, e])).2; omega
        have hsl := blk_lt hv2
        have hb2 : base ≤ W2.heap.size := by have := hf2.size; omega
        have HI := Lib.hid (insert_ownS ho2 hy1 _ (countP_leS ys x) x _ hn2 (by rw [hvo]; exact hlt2) hb2)
        rw [hW2]
        have H2 := Lib.hid (And.intro hf2 (And.intro hv2 (And.intro hil (And.intro hiu hi2))))
        clear hW2 hf2 hv2 hn2 hbel ho2 hlt2 hb2 hv hvo hown hne hup hob' hfr hins hyl hb hi2 hil hiu hsz c0 f0
        refine HI.out.mono ?_
        rintro e w3 ⟨⟨v', rfl, ho3, ht3⟩, hf3⟩
        obtain ⟨hv, hvo, hown, hne, hup, hob', hfr, hins, hyl, hb⟩ := H.out
        obtain ⟨hf2, hv2, hil, hiu, hi2⟩ := H2.out
        rw [← hi2] at ho3
        have hns : ¬ vB (.slice av ys.length cv) s := fun e => hne (hvo ▸ e)
        have hv3 := hf3.blk hv2 hns
        have c3 := blk_cell hv3 0
        have f3 := blk_free hv3 0
        obtain ⟨A', c', rfl⟩ := row_slice ho3
        have hns' : (Value.slice A' (insIS ys x).length c').ownBlock ≠ some s := fun e => hns (ht3 s e hsl)
        have hnew : AddPS base w s ob xs (ls.take (k + 1)) (w3.setCell ⟨s, 0, none⟩ (.slice A' (insIS ys x).length c')) := by
          have hf3' : Fr (fun k => k = s ∨ ob = some k) w w3 := hf2.trans2 hf3 fun k hk e => .inr (hob' k (hvo ▸ e) hk)
          refine ⟨_, ⟨⟨_, blk_set hv3 0 _, rfl, ?_⟩, hns', ?_⟩, ?_, hf3'.setCell _ (.inl rfl) _⟩
          · rw [hins]
            exact own_keptS ho3 fun g hg => Below.heap_setCell _ _ _ _ fun e => by cases e; exact hns' hg
          · rw [hins]; exact hiu
          · intro k2 hk2 hl2
            have := ht3 k2 hk2 (Nat.lt_of_lt_of_le hl2 hf2.size)
            exact hob' k2 (hvo ▸ this) hl2
        have HN := Lib.hid hnew
        have hlen : (insAllS xs (ls.take (k + 1))).length = ys.length + 1 := by rw [hins, hil]
        have HL := Lib.hid hlen
        have hyx : xs.length ≤ ys.length := hyl.2
        clear hnew hlen hv hvo hown hne hup hob' hfr hins hyl hb hi2 hil hiu hf2 hv2 ho3 ht3 hf3 hns hns' hv3
        go_wp2_with fail
        go_roundw
        case rel => exact ⟨k + 1, by go_num, by omega, by rw [HL.out]; rw [show ys.length + 1 - xs.length = (ys.length - xs.length) + 1 by omega]; go_num, HN⟩
        case measure => simp [Go.RowKit.intOf]; omega
    · obtain rfl : k = ls.length := by omega
      rw [List.take_length] at HA ⊢
      go_wp2_with fail
      go_ret
      exact ⟨rfl, HA.out⟩
end Go.Proofs.YtlkeomcillencaaGreat
end
section
/- Sets of texts: Remove. -/
namespace Go.Proofs.YtlkeomcillencaaGreat
open Go Go.RowKit Go.Lib Go.Sort Go.Shelf

/-- one thing less -/
def delIS (xs : List (List UInt8)) (x : List UInt8) : List (List UInt8) := if xs.contains x then xs.take (xs.countP (· < x)) ++ xs.drop (xs.countP (· < x) + 1) else xs
theorem countP_ltS {xs : List (List UInt8)} {x : List UInt8} (hx : x ∈ xs) : xs.countP (· < x) < xs.length := by
  have h := List.countP_le_length (p := fun y => decide (y < x)) (l := xs)
  rcases Nat.lt_or_ge (xs.countP fun y => decide (y < x)) xs.length with h' | h'
  · exact h'
  · have := List.countP_eq_length.1 (Nat.le_antisymm h h') x hx
    simp only [decide_eq_true_eq] at this
    exact absurd this (tirr x)
theorem delI_subS (xs : List (List UInt8)) (x : List UInt8) : (delIS xs x).Sublist xs := by
  unfold delIS
  split
  · conv => rhs; rw [← List.take_append_drop (xs.countP (· < x)) xs]
    exact List.Sublist.append (List.Sublist.refl _) (by rw [← List.drop_drop]; exact List.drop_sublist _ _)
  · exact List.Sublist.refl _
theorem delI_upS {xs : List (List UInt8)} (h : xs.Pairwise (· < ·)) (x : List UInt8) : (delIS xs x).Pairwise (· < ·) := h.sublist (delI_subS xs x)
theorem delI_lenS (xs : List (List UInt8)) (x : List UInt8) : (delIS xs x).length = if xs.contains x then xs.length - 1 else xs.length := by
  unfold delIS
  split
  · next hc =>
    have := countP_ltS (xs := xs) (x := x) (by simpa using hc)
    simp; omega
  · rfl
/-- many -/
def delAllS (xs ls : List (List UInt8)) : List (List UInt8) := ls.foldl delIS xs
theorem delAll_snocS (xs ls : List (List UInt8)) (x : List UInt8) : delAllS xs (ls ++ [x]) = delIS (delAllS xs ls) x := by simp [delAllS]
theorem delAll_lenS (xs : List (List UInt8)) : ∀ ls : List (List UInt8), (delAllS xs ls).length ≤ xs.length := by
  refine snoc_ind ?_ ?_
  · simp [delAllS]
  · intro l x ih
    rw [delAll_snocS]
    exact Nat.le_trans (delI_subS _ _).length_le ih

/-- behind some went -/
def RemPS (base : Nat) (w : World) (s : Nat) (ob : Option Nat) (xs ls : List (List UInt8)) (wr : World) : Prop :=
  ∃ ob', SetAtS base wr s ob' (delAllS xs ls) ∧ (∀ k, ob' = some k → k < w.heap.size → ob = some k) ∧ Fr (fun k => k = s ∨ ob = some k) w wr
set_option maxRecDepth 100000 in
set_option maxHeartbeats 4000000 in
theorem set_remS {base : Nat} {w : World} {s : Nat} {ob : Option Nat} {xs : List (List UInt8)} (h : SetAtS base w s ob xs) (hbw : base ≤ w.heap.size) (A : Option Addr) (ls : List (List UInt8)) (c : Nat) (hl : xs.length ≤ 1000000) (hll : ls.length ≤ 1000000)
    (hc : 0 < ls.length → ∃ g o, A = some ⟨g, o, none⟩ ∧ g < w.heap.size ∧ g ≠ s ∧ ob ≠ some g ∧ ∀ j (h : j < ls.length), w.cell? ⟨g, o + j, none⟩ = some (encT ls[j])) :
    Calls Tryz.prog 96 #[.pointer (some ⟨s, 0, none⟩), .slice A ls.length c] w fun e w' => e = .returned (.int .i64 (xs.length - (delAllS xs ls).length : Nat)) ∧ RemPS base w s ob xs ls w' := by
  have hs0 : s < w.heap.size := by obtain ⟨⟨v, hv, _⟩, _⟩ := h; exact blk_lt hv
  have H0 : Hid (RemPS base w s ob xs [] w) := ⟨ob, h, fun _ h _ => h, Fr.refl _ _⟩
  have HC := Lib.hid hc
  clear hc h
  go_enter Tryz.func96, Tryz.ntmps96
  go_wp2_with fail
  go_loopw [5, 14] (fun cm ct wr => ∃ k : Nat, ct = .int .i64 k ∧ k ≤ ls.length ∧ cm = .int .i64 (xs.length - (delAllS xs (ls.take k)).length : Nat) ∧ Hid (RemPS base w s ob xs (ls.take k) wr)) (fun _ ct _ => ls.length - (Go.RowKit.intOf ct).toNat)
  case atStart => exact ⟨0, rfl, Nat.zero_le _, by simp [delAllS], by simpa using H0⟩
  case round =>
    obtain ⟨k, rfl, hk, rfl, HA⟩ := hrel
    by_cases hlt : k < ls.length
    · obtain ⟨g, o, rfl, hg, hgs, hgo, hcell⟩ := HC.out (by omega)
      obtain ⟨ob', hset, hob', hfr⟩ := HA.out
      have e0 : wr.cell? ⟨g, o + k, none⟩ = some (Value.string (bs ls[k])) := (hfr.cell (p := ⟨g, o + k, none⟩) hg (by rintro (h | h); exact hgs h; exact hgo h)).trans (hcell k hlt)
      have htk : ls.take (k + 1) = ls.take k ++ [ls[k]] := List.take_succ_eq_append_getElem hlt
      obtain ⟨x, hx⟩ : ∃ x, ls[k] = x := ⟨_, rfl⟩
      rw [hx] at e0 htk
      obtain ⟨ys, hys⟩ : ∃ ys, delAllS xs (ls.take k) = ys := ⟨_, rfl⟩
      have hins : delAllS xs (ls.take (k + 1)) = delIS ys x := by rw [htk, delAll_snocS, hys]
      have hyl := delAll_lenS xs (ls.take k)
      rw [hys] at hyl
      have hy1 : ys.length ≤ 1000000 := by omega
      have hy2 : xs.length - ys.length ≤ 1000000 := by omega
      rw [hys] at hset ⊢
      obtain ⟨⟨v, hv, hvo, hown⟩, hne, hup⟩ := hset
      have hbs := bsearch_ownS hown hy1 hup x
      obtain ⟨av, cv, rfl⟩ := row_slice hown
      have c0 := blk_cell hv 0
      have f0 := blk_free hv 0
      obtain ⟨b, hb⟩ : ∃ b, ys.contains x = b := ⟨_, rfl⟩
      rw [hb] at hbs
      have hz := hfr.size
      have H := Lib.hid (And.intro hv (And.intro hvo (And.intro hown (And.intro hne (And.intro hup (And.intro hob' (And.intro hfr (And.intro hins (And.intro hyl hb)))))))))
      have HB := Lib.hid hbs
      clear hbs hv hvo hown hne hup hob' hfr hins hyl hb hys htk hx hcell
      go_wp2_with fail
      refine HB.out.mono ?_
      rintro e w1 ⟨rfl, q, rfl⟩
      cases b with
      | true =>
        obtain ⟨hv, hvo, hown, hne, hup, hob', hfr, hins, hyl, hb⟩ := H.out
        have hi2 : delIS ys x = ys.take (ys.countP (· < x)) ++ ys.drop (ys.countP (· < x) + 1) := by unfold delIS; rw [hb]; rfl
        have hlt3 : ys.countP (· < x) < ys.length := countP_ltS (by simpa using hb)
        have hil : (delIS ys x).length = ys.length - 1 := by rw [delI_lenS, hb]; rfl
        have hiu := delI_upS hup x
        have hw2 : (wr.drewN q).heap = wr.heap := rfl
        have HI := Lib.hid (delete_ownS (base := base) (w := wr.drewN q) (own_keptS hown fun g _ => by rw [hw2]) hy1 _ hlt3)
        obtain ⟨i, hi⟩ : ∃ i, ys.countP (fun y => decide (y < x)) = i := ⟨_, rfl⟩
        rw [hi] at hlt3 HI
        rw [hi]
        have H2 := Lib.hid (And.intro hil (And.intro hiu (And.intro hi2 hi)))
        clear hv hvo hown hne hup hob' hfr hins hyl hb hi2 hil hiu hw2 hi
        go_wp2_with fail
        refine HI.out.mono ?_
        rintro e w3 ⟨⟨v', rfl, ho3, ht3⟩, hf3⟩
        obtain ⟨hv, hvo, hown, hne, hup, hob', hfr, hins, hyl, hb⟩ := H.out
        obtain ⟨hil, hiu, hi2, hi⟩ := H2.out
        rw [← hi, ← hi2] at ho3
        have hf2 : Fr (fun k => k = s ∨ ob = some k) w (wr.drewN q) := hfr.drewN q
        have hsl : s < (wr.drewN q).heap.size := blk_lt hv
        have hns : ¬ vB (.slice av ys.length cv) s := fun e => hne (hvo ▸ e)
        have hv3 := hf3.blk (k := s) (o := .cells #[.slice av ys.length cv] 167 (0, 0)) hv hns
        have c3 := blk_cell hv3 0
        have f3 := blk_free hv3 0
        obtain ⟨A', c', rfl⟩ := row_slice ho3
        have hns' : (Value.slice A' (delIS ys x).length c').ownBlock ≠ some s := fun e => hns (ht3 s e hsl)
        have hnew : RemPS base w s ob xs (ls.take (k + 1)) (w3.setCell ⟨s, 0, none⟩ (.slice A' (delIS ys x).length c')) := by
          have hf3' : Fr (fun k => k = s ∨ ob = some k) w w3 := hf2.trans2 hf3 fun k hk e => .inr (hob' k (hvo ▸ e) hk)
          refine ⟨_, ⟨⟨_, blk_set hv3 0 _, rfl, ?_⟩, hns', ?_⟩, ?_, hf3'.setCell _ (.inl rfl) _⟩
          · rw [hins]
            exact own_keptS ho3 fun g hg => Below.heap_setCell _ _ _ _ fun e => by cases e; exact hns' hg
          · rw [hins]; exact hiu
          · intro k2 hk2 hl2
            have := ht3 k2 hk2 (Nat.lt_of_lt_of_le hl2 hf2.size)
            exact hob' k2 (hvo ▸ this) hl2
        have HN := Lib.hid hnew
        have hy0 : 1 ≤ ys.length := by omega
        have hlen : (delAllS xs (ls.take (k + 1))).length = ys.length - 1 := by rw [hins, hil]
        have HL := Lib.hid hlen
        have hyx : ys.length ≤ xs.length := hyl
        clear hnew hlen hv hvo hown hne hup hob' hfr hins hyl hb hi2 hil hiu hf2 hi ho3 ht3 hf3 hns hns' hv3
        go_wp2_with fail
        go_roundw
        case rel => exact ⟨k + 1, by go_num, by omega, by rw [HL.out]; rw [show xs.length - (ys.length - 1) = (xs.length - ys.length) + 1 by omega]; go_num, HN⟩
        case measure => simp [Go.RowKit.intOf]; omega
      | false =>
        go_wp2_with fail
        obtain ⟨hv, hvo, hown, hne, hup, hob', hfr, hins, hyl, hb⟩ := H.out
        have hi2 : delIS ys x = ys := by unfold delIS; rw [hb]; rfl
        have hnew : RemPS base w s ob xs (ls.take (k + 1)) (wr.drewN q) := by
          refine ⟨ob', ⟨⟨_, hv, hvo, ?_⟩, hne, ?_⟩, hob', hfr.drewN q⟩
          · rw [hins, hi2]; exact hown
          · rw [hins, hi2]; exact hup
        have HN := Lib.hid hnew
        have hlen : (delAllS xs (ls.take (k + 1))).length = ys.length := by rw [hins, hi2]
        have HL := Lib.hid hlen
        clear hnew hlen hv hvo hown hne hup hob' hfr hins hyl hb hi2
        go_roundw
        case rel => exact ⟨k + 1, by go_num, by omega, by rw [HL.out], HN⟩
        case measure => simp [Go.RowKit.intOf]; omega
    · obtain rfl : k = ls.length := by omega
      rw [List.take_length] at HA ⊢
      go_wp2_with fail
      go_ret
      exact ⟨rfl, HA.out⟩
end Go.Proofs.YtlkeomcillencaaGreat
end
