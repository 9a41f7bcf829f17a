/- Layer 10: the law's told over whatever tells; the document's All. -/
import Derived.Test.YteiiaocohpbanaaSetW
import Derived.Test.YteiiaocohpbanaaAppT
namespace Go.Proofs.Yteiiaocohpbanaa
set_option linter.unusedVariables false
set_option linter.unusedSimpArgs false
open Go Go.RowKit Go.Lib Go.Sort Go.Shelf
attribute [local go_sem] Oper.semAt_some

/-- a box with a row of numbers: its blocks are X -/
def BoxF (S base : Nat) (pre : List Int) (X : Nat → Prop) (W : World) : Prop := ∃ v, W.heap[S]? = some (.cells #[v] 26 (0, 0)) ∧ OwnI base W v pre ∧ S < base ∧ ∀ k, X k ↔ (k = S ∨ v.ownBlock = some k)
theorem boxF_stays (S base : Nat) : Stays (BoxF S base) := fun pre X V V' ⟨v, h1, h2, h3, h4⟩ hl hf =>
  ⟨v, hf.blk h1 (fun e => e ((h4 S).2 (.inl rfl))), own_kept h2 fun g hg => hf.block g (h2.lt g hg).2 fun e => e ((h4 g).2 (.inr hg)), h3, h4⟩
set_option maxRecDepth 100000 in
set_option maxHeartbeats 4000000 in
theorem told_F {w : World} {F : Value} {Y : Nat → Prop} {xs : List Int} (h : TellsF Try.prog encI w F Y xs) (hl : xs.length ≤ 1000000) (m : Nat) (hm : xs.length ≤ m) (hm2 : m ≤ 1000000) : Calls Try.prog 12 #[F, .int .i64 m] w (ToldP xs w) := by
  obtain ⟨gf, lb, rfl, hseq, hY, heg⟩ := h
  obtain ⟨i0, hi, hz0, hz1, hz2⟩ := info_parts Try.infoI
  refine (callsIn_wide (n := 20)).1 ?_
  refine callsIn_of_wp_marks Try.func12 rfl trivial ?_ rfl
  simp only [Try.ntmps12, List.size_toArray, List.length_cons, List.length_nil, Nat.reduceAdd, Nat.reduceSub, Array.replicate_succ, Array.replicate_zero, List.push_toArray, List.append_toArray, List.nil_append, List.cons_append]
  have hnil : ∀ W, (binOp BinOp.eql 34 (.func (.func gf) #[] lb) Value.nilFunc).run Try.prog W = .ok (.bool false) W := fun W => by rfl
  gi_wp2_with (simp only [hnil])
  obtain ⟨w1, hw1⟩ : ∃ w1, (((w.alloc (Obj.cells #[Value.int IntKind.i64 m] 3)).alloc (Obj.cells #[Value.slice none 0 0] 26)).alloc (Obj.cells #[Value.bool false] 4)).alloc (Obj.cells #[Value.slice none 0 0] 26) = w1 := ⟨_, rfl⟩
  rw [hw1]
  have z1 : w1.heap.size = w.heap.size + 4 := by rw [← hw1]; simp
  have f1 : Fr (fun _ => False) w w1 := by rw [← hw1]; exact ((((Fr.refl _ w).alloc _).alloc _).alloc _).alloc _
  have hb0 : w1.heap[w.heap.size]? = some (.cells #[.int .i64 m] 3 (0, 0)) := by rw [← hw1]; exact blk_alloc (blk_alloc (blk_alloc (heap_alloc_new w _) _) _) _
  have hb1 : w1.heap[w.heap.size + 1]? = some (.cells #[.slice none 0 0] 26 (0, 0)) := by rw [← hw1]; exact blk_alloc (blk_alloc (heap_alloc2_new w _ _) _) _
  have hb2 : w1.heap[w.heap.size + 2]? = some (.cells #[.bool false] 4 (0, 0)) := by rw [← hw1]; refine blk_alloc ?_ _; have := heap_alloc2_new (w.alloc (Obj.cells #[Value.int IntKind.i64 m] 3)) (Obj.cells #[Value.slice none 0 0] 26) (Obj.cells #[Value.bool false] 4); rwa [World.size_alloc] at this
  have hb3 : w1.heap[w.heap.size + 3]? = some (.cells #[.slice none 0 0] 26 (0, 0)) := by
    rw [← hw1]
    have := heap_alloc2_new ((w.alloc (Obj.cells #[Value.int IntKind.i64 m] 3)).alloc (Obj.cells #[Value.slice none 0 0] 26)) (Obj.cells #[Value.bool false] 4) (Obj.cells #[Value.slice none 0 0] 26)
    rwa [World.size_alloc, World.size_alloc] at this
  clear hw1
  have hsq := hseq.same fun b hb => f1.block b (hY b hb) fun e => e
  have H := Lib.hid (And.intro f1 (And.intro hb0 (And.intro hb1 (And.intro hb2 z1))))
  refine wpIn_rangeF (X := fun k => k = w.heap.size + 3) (Y := Y) (xs := xs) (encs := encI) (gf := gf) (lb := lb) (BoxF (w.heap.size + 3) w1.heap.size) (fun _ _ _ _ => False)
    rfl hsq (fun k hk => ⟨by omega, fun e => by have := hY k e; omega⟩) (fun b hb => by have := hY b hb; omega) (by omega) heg (fun _ => rfl)
    (boxF_stays _ _) (fun c s X1 V1 V2 h => h.elim) ⟨_, hb3, own_nil _ _, by omega, fun k => by simp [Value.ownBlock]⟩ ?round ?done (fun _ _ _ _ _ _ _ _ _ _ _ h => h.elim)
  case round =>
    rintro l pre x r X1 V K rb hl2 hpx hI hG hxl hF hlV hK
    dsimp only [encI]
    have HK := Lib.hid hK
    have HV := Lib.hid (And.intro hpx (And.intro hI (And.intro hG (And.intro hxl (And.intro hF (And.intro hlV hl2))))))
    clear hK hpx hI hG hxl hF hlV hl2 hsq hseq hY heg f1 hb0 hb1 hb2 hb3 z1
    gi_wp2_with fail
    refine HK.out _ _ (Fr.refl _ _) fun Vb hfb hzb hsb hrb => ?_
    clear HK K
    obtain ⟨hpx, ⟨vb, k3, o3, hSl, hX1⟩, hG, hxl, hF, hlV, hl2⟩ := HV.out
    obtain ⟨f1, hb0, hb1, hb2, z1⟩ := H.out
    have hpl : pre.length + 1 ≤ xs.length := by
      have := congrArg List.length hpx
      simp at this; omega
    have c0 := blk_cell (hfb.blk (hF.blk hb0 (by omega)) (by omega)) 0
    have k3b := hfb.blk k3 (by omega : ¬ w.heap.size + 3 = l)
    have o3b : OwnI w1.heap.size Vb vb pre := own_kept o3 fun g hg => hfb.block g (o3.lt g hg).2 fun e => hxl ((hX1 l).2 (.inr (e ▸ hg)))
    have c3 := blk_cell k3b 0
    have hzs : Vb.heap.size = V.heap.size := hzb
    have hbz : w1.heap.size ≤ Vb.heap.size := by omega
    have hor : Vb.ownsRow w1.heap.size 3 1 vb pre.length (pre.map (Value.int .i64)) := o3b
    have HO := Lib.hid hor
    have HE := Lib.hid (And.intro hX1 (And.intro hG (And.intro hxl (And.intro hfb (And.intro hrb (And.intro k3b (And.intro o3b (And.intro hzs (And.intro hlV (And.intro hSl hl2))))))))))
    clear hpx k3 o3 hSl hX1 hG hxl hF hlV hl2 f1 hb0 hb1 hb2 z1 k3b o3b hor hfb hzb hsb hrb hzs
    have hlen : ∀ W, (Builtin.len_ #[26] 3 #[vb]).run Try.prog W = .ok (.int .i64 pre.length) W := fun W => by obtain ⟨A, cp, rfl⟩ := row_slice HO.out; rfl
    gi_wp2_with (first | (gi_at_builtin; refine Hid.out ?_) | simp only [hlen])
    refine Lib.hid ?_
    refine wpListIn_one_t rfl _ _ 26 rfl w1.heap.size 3 i0 _ 1 8 Try.underlying26 hi hz0 hz1 hz2 rfl (by decide) _ _ _ rfl HO.out #[.int .i64 x] _ rfl rfl rfl (by intro u hu; simp at hu; subst hu; rfl) (by omega) (by decide) hbz ?_
    intro v1 W2 hown1 hfr1 htie
    obtain ⟨A1, c1', rfl⟩ := row_slice hown1
    have hn3 : ∀ k, vb.ownBlock = some k → k ≠ w.heap.size + 3 := fun k hk e => by have := (HO.out.lt k hk).1; have := HE.out.2.2.2.2.2.2.2.2.2.1; omega
    have e1 : W2.heap[w.heap.size + 3]? = some (.cells #[vb] 26 (0, 0)) := hfr1.blk HE.out.2.2.2.2.2.1 fun e => hn3 _ e rfl
    have g1 := blk_cell e1 0
    have g2 := blk_free e1 0
    have HN := Lib.hid hn3
    clear hn3
    gi_wp2_with fail
    obtain ⟨hX1, hG, hxl, hfb, hrb, k3b, o3b, hzs, hlV, hSl, hl2⟩ := HE.out
    have hn3 := HN.out
    have hown2 : OwnI w1.heap.size W2 (.slice A1 (pre.length + 1) c1') (pre ++ [x]) := by
      unfold OwnI; rw [List.length_append, List.map_append]; exact hown1
    have hnx : (Value.slice A1 (pre.length + 1) c1').ownBlock ≠ some (w.heap.size + 3) := fun e => by have := (hown2.lt _ e).1; omega
    have hfr : Fr (fun k => k = l ∨ X1 k) V (W2.setCell ⟨w.heap.size + 3, 0, none⟩ (.slice A1 (pre.length + 1) c1')) :=
      (((hfb.mono (Y := fun k => k = l ∨ X1 k) fun k _ e => .inl e).trans3 hfr1 fun k _ e => .inr ((hX1 k).2 (.inr e)))).setCell _ (.inr ((hX1 _).2 (.inl rfl))) _
    refine ⟨fun k => k = w.heap.size + 3 ∨ (Value.slice A1 (pre.length + 1) c1').ownBlock = some k, fun k hk => ?_, hfr, ?_, .slice A1 (pre.length + 1) c1', blk_set e1 0 _, ?_, hSl, fun k => Iff.rfl⟩
    · have hz2 := hfr1.size
      have hsz : (W2.setCell ⟨w.heap.size + 3, 0, none⟩ (.slice A1 (pre.length + 1) c1')).heap.size = W2.heap.size := by simp
      rw [hsz]
      rcases hk with rfl | hk
      · exact ⟨blk_lt e1, fun _ => (hX1 _).2 (.inl rfl)⟩
      · refine ⟨(hown2.lt k hk).2, fun hlt => ?_⟩
        rcases htie k hk with e | e
        · exact (hX1 k).2 (.inr e)
        · omega
    · have hl3 : ¬ vb.ownBlock = some l := fun e => hxl ((hX1 l).2 (.inr e))
      exact blk_other (hfr1.blk hrb hl3) _ (by simp; omega) _
    · exact own_kept hown2 fun g hg => heap_setCell_other W2 _ g _ fun e => by simp at e; exact hnx (e ▸ hg)
  case done =>
    rintro D X2 V hD hxD hG hF ⟨v, k3, o3, hSl, hX2⟩ hdef
    obtain ⟨A, cp, rfl⟩ := row_slice o3
    have k1 := hF.blk hb1 (by omega)
    have k2 := hF.blk hb2 (by omega)
    have c1 := blk_cell k1 0
    have f1' := blk_free k1 0
    have c2 := blk_cell k2 0
    have f2 := blk_free k2 0
    have c3 := blk_cell k3 0
    have HE := Lib.hid (And.intro k1 (And.intro k2 (And.intro k3 (And.intro o3 (And.intro hF (And.intro hdef (And.intro hxD (And.intro hX2 (And.intro hSl hD)))))))))
    clear k1 k2 k3 o3 hF hdef hxD hX2 hSl hD hG hsq hseq hY heg f1 hb0 hb1 hb2 hb3 z1
    gi_wp2_with fail
    obtain ⟨k1, k2, k3, o3, hF, hdef, hxD, hX2, hSl, hD⟩ := HE.out
    obtain ⟨f1, hb0, hb1, hb2, z1⟩ := H.out
    obtain ⟨W3, hW3⟩ : ∃ W3, (V.setCell ⟨w.heap.size + 1, 0, none⟩ (Value.slice A xs.length cp)).setCell ⟨w.heap.size + 1 + 1, 0, none⟩ (Value.bool true) = W3 := ⟨_, rfl⟩
    rw [hW3]
    have a1 : W3.heap[w.heap.size + 1]? = some (.cells #[.slice A xs.length cp] 26 (0, 0)) := by
      rw [← hW3]
      exact blk_other (blk_set k1 0 _) _ (by simp) _
    have a2 : W3.heap[w.heap.size + 2]? = some (.cells #[.bool true] 4 (0, 0)) := by
      rw [← hW3]
      exact blk_set (blk_other k2 _ (by simp) _) 0 _
    have a3 : W3.heap[D]? = some (.deferred (some [])) := by
      rw [← hW3]
      exact blk_other (blk_other hdef _ (by simp; omega) _) _ (by simp; omega) _
    have a4 : OwnI w1.heap.size W3 (.slice A xs.length cp) xs := own_kept o3 fun g hg => by
      have := (o3.lt g hg).1
      rw [← hW3]
      exact (heap_setCell_other _ _ g _ (by simp; omega)).trans (heap_setCell_other _ _ g _ (by simp; omega))
    have a5 : Below w.heap.size w W3 := by
      have h5 : Below w.heap.size w V := (f1.mono (Y := fun k => k = w.heap.size + 3) (fun _ _ h => h.elim)).trans3 hF (fun k _ e => e) |>.below (Nat.le_refl _) fun k hk e => by omega
      rw [← hW3]
      exact (h5.setCell (by simp) _).setCell (by simp; omega) _
    refine leaves_one D _ a3 fun w' hf => ?_
    have e1 := hf.blk a1 (by omega)
    have e2 := hf.blk a2 (by omega)
    refine ⟨_, results_box2 rfl _ _ (w.heap.size + 1) (w.heap.size + 2) _ _ _ _ rfl (blk_cell e1 0) rfl (blk_cell e2 0) Try.underlying26 rfl Try.underlying4 rfl, ⟨.slice A xs.length cp, rfl, ?_⟩, a5.trans (hf.below a5.size fun k _ e => by omega)⟩
    exact row_base' (own_kept a4 fun g hg => hf.block g (a4.lt g hg).2 fun e => hxD ((hX2 D).2 (.inr (e ▸ hg)))) (by omega)
set_option maxRecDepth 100000 in
set_option maxHeartbeats 4000000 in
theorem all10 {w : World} (A : Option Addr) (xs : List Int) (c : Nat) (hl : xs.length ≤ 100000) (hA : ReadsI w A xs) :
    Calls Try.prog 21 #[.slice A xs.length c] w (RowP w.heap.size (insAll [] xs) w) := by
  have HA := Lib.hid hA
  clear hA
  go_enter Try.func21, Try.ntmps21
  go_wp2_with fail
  have h00 : Hid (OwnI w.heap.size w (.slice none 0 0) (insAll [] (xs.take 0)) ∧ Below w.heap.size w w) := ⟨own_nil _ _, Below.refl _ _⟩
  go_loopw [3, 4] (fun v i wr => ∃ k : Nat, i = .int .i64 k ∧ k ≤ xs.length ∧ Hid (OwnI w.heap.size wr v (insAll [] (xs.take k)) ∧ Below w.heap.size w wr)) (fun _ i _ => xs.length - (intOf i).toNat)
  case atStart => exact ⟨0, rfl, Nat.zero_le _, h00⟩
  case round =>
    clear h00
    obtain ⟨k, rfl, hk, HQ⟩ := hrel
    by_cases hlt : k < xs.length
    · obtain ⟨g, o, rfl, hg, ha⟩ := HA.out (by omega)
      have a1 : wr.cell? ⟨g, o + k, none⟩ = some (.int .i64 xs[k]) := (World.cell?_of_block (w := w) (w' := wr) (a := ⟨g, o + k, none⟩) (HQ.out.2.block g hg)).trans (ha k hlt)
      have hst : insAll [] (xs.take (k + 1)) = insI (insAll [] (xs.take k)) xs[k] := by rw [List.take_succ_eq_append_getElem hlt, insAll_snoc]
      have hyl := (insAll_len [] (xs.take k)).1
      rw [List.length_take, List.length_nil] at hyl
      obtain ⟨y, hy⟩ : ∃ y, xs[k] = y := ⟨_, rfl⟩
      rw [hy] at a1 hst
      have HA1 := Lib.hid (add10 HQ.out.1 (insAll_up List.Pairwise.nil _) (by omega) HQ.out.2.size y)
      rw [← hst] at HA1
      have p1 : (k : Int) < (xs.length : Int) := by omega
      clear ha hy hst hyl
      go_wp2_with fail
      refine HA1.out.mono ?_
      rintro e w3 ⟨⟨v3, rfl, o3, t3⟩, b3⟩
      have HN : Hid (OwnI w.heap.size w3 v3 (insAll [] (xs.take (k + 1))) ∧ Below w.heap.size w w3) := ⟨o3, HQ.out.2.trans (b3.mono HQ.out.2.size)⟩
      clear o3 t3 b3 HA1
      go_wp2_with fail
      go_roundw
      case rel => exact ⟨k + 1, by go_num, by omega, HN⟩
      case measure => simp [intOf]; omega
    · obtain rfl : k = xs.length := by omega
      rw [List.take_length] at HQ
      have p1 : ¬ ((xs.length : Int) < (xs.length : Int)) := by omega
      go_wp2_with fail
      go_ret
      exact ⟨⟨u3, rfl, HQ.out.1⟩, HQ.out.2⟩
end Go.Proofs.Yteiiaocohpbanaa
