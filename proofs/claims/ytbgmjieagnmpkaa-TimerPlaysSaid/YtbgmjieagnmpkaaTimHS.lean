/- Layer 9, keys of kind string: Take. -/
import Derived.Test.YtbgmjieagnmpkaaTimGS
namespace Go.Proofs.Ytbgmjieagnmpkaa
set_option linter.unusedVariables false
set_option linter.unusedSimpArgs false
open Go Go.RowKit Go.Maps Go.Sort Go.Shelf Go.Lib
attribute [local go_sem] Oper.semAt_some

theorem Try.infoKS : (Try.prog.info? 9).map (fun i => (i.zero, i.size, i.bytes)) = some (some (.string ByteArray.empty), 1, 16) := by kernel_rfl
/-- a row of keys of the call's own -/
def OwnKS (base : Nat) (W : World) (v : Value) (xs : List KeyS) : Prop := W.ownsRow base 9 1 v xs.length (xs.map kVS)
theorem ownKS_nil (base : Nat) (w : World) : OwnKS base w (.slice none 0 0) [] := World.ownsRow_nil _ _ _ _
theorem ownKS_kept {base : Nat} {w W : World} {v : Value} {xs : List KeyS} (h : OwnKS base w v xs) (hs : ∀ g, v.ownBlock = some g → W.heap[g]? = w.heap[g]?) : OwnKS base W v xs := row_same h hs
theorem ownKS_snoc {base : Nat} {w : World} {v : Value} {xs : List KeyS} {x : KeyS} (h : w.ownsRow base 9 1 v (xs.length + 1) (xs.map kVS ++ [kVS x])) : OwnKS base w v (xs ++ [x]) := by
  unfold OwnKS; rw [List.length_append, List.map_append]; exact h
theorem ownKS_base {W : World} {base base' : Nat} {v : Value} {xs : List KeyS} (h : OwnKS base W v xs) (hb : base' ≤ base) : OwnKS base' W v xs := by
  obtain ⟨h1, h2⟩ := h
  refine ⟨h1, ?_⟩
  rcases h2 with h2 | ⟨g, cap, cur, h3, h4, h5⟩
  · exact .inl h2
  · exact .inr ⟨g, cap, cur, h3, by omega, h5⟩
/-- the entries whose keys haven't come -/
def remMS (T pre : List (KeyS × Int)) : List (KeyS × Int) := T.filter fun p => !(pre.any fun q => decide (q.1 = p.1))
theorem remMS_nil (T : List (KeyS × Int)) : remMS T [] = T := by simp [remMS]
theorem remMS_snoc (T pre : List (KeyS × Int)) (x : KeyS × Int) : remMS T (pre ++ [x]) = delM (remMS T pre) x.1 := by
  unfold remMS delM
  rw [List.filter_filter]
  congr 1
  funext p
  rw [List.any_append]
  by_cases e : x.1 = p.1
  · simp [e]
  · have : ¬ p.1 = x.1 := fun h => e h.symm
    simp [e, this]
theorem fst_injS {T : List (KeyS × Int)} (h : (T.map (·.1)).Nodup) {p q : KeyS × Int} (hp : p ∈ T) (hq : q ∈ T) (e : p.1 = q.1) : p = q := by
  induction T with
  | nil => cases hp
  | cons a r ih =>
    rw [List.map_cons, List.nodup_cons] at h
    rcases List.mem_cons.1 hp with e1 | hp2
    · rcases List.mem_cons.1 hq with e2 | hq2
      · rw [e1, e2]
      · exact (h.1 (List.mem_map.2 ⟨q, hq2, by rw [← e, e1]⟩)).elim
    · rcases List.mem_cons.1 hq with e2 | hq2
      · exact (h.1 (List.mem_map.2 ⟨p, hp2, by rw [e, e2]⟩)).elim
      · exact ih h.2 hp2 hq2
theorem remMS_due {T : List (KeyS × Int)} (h : (T.map (·.1)).Nodup) (now : Int) : remMS T (dueMS T now) = T.filter fun p => decide (now < p.2) := by
  unfold remMS
  apply List.filter_congr
  intro p hp
  by_cases e : p.2 ≤ now
  · have h1 : (dueMS T now).any (fun q => decide (q.1 = p.1)) = true := List.any_eq_true.2 ⟨p, dueMS_mem.2 ⟨hp, e⟩, by simp⟩
    rw [h1]
    have : ¬ now < p.2 := by omega
    simp [this]
  · have h1 : (dueMS T now).any (fun q => decide (q.1 = p.1)) = false := by
      rw [List.any_eq_false]
      intro q hq
      have hq := dueMS_mem.1 hq
      simp
      intro e2
      have := fst_injS h hq.1 hp e2
      subst this
      exact e hq.2
    rw [h1]
    have : now < p.2 := by omega
    simp [this]
/-- keys that came, and the table without them -/
def TakeIS (S base b : Nat) (T pre : List (KeyS × Int)) (X : Nat → Prop) (W : World) : Prop := ∃ v, W.heap[S]? = some (.cells #[v] 34 (0, 0)) ∧ OwnKS base W v (pre.map (·.1)) ∧ TabMS W b (remMS T pre) ∧ S < base ∧ b < base ∧ S ≠ b ∧ ∀ k, X k ↔ (k = S ∨ k = b ∨ v.ownBlock = some k)
theorem takeIS_stays (S base b : Nat) (T : List (KeyS × Int)) : Stays (TakeIS S base b T) := fun pre X V V' ⟨v, h1, h2, h3, h4, h5, h6, h7⟩ hl hf =>
  ⟨v, hf.blk h1 (fun e => e ((h7 S).2 (.inl rfl))), ownKS_kept h2 fun g hg => hf.block g (h2.lt g hg).2 fun e => e ((h7 g).2 (.inr (.inr hg))), tabMS_same h3 (hf.block b (tabMS_lt h3) fun e => e ((h7 b).2 (.inr (.inl rfl)))), h4, h5, h6, h7⟩
/-- what Take leaves -/
def TakePS (base t b : Nat) (T : List (KeyS × Int)) (now : Int) (w : World) (e : Ending) (w' : World) : Prop :=
  (∃ v, e = .returned v ∧ OwnKS w.heap.size w' v ((dueMS T now).map (·.1))) ∧ TabS base w' t b (T.filter fun p => decide (now < p.2)) ∧ Fr (fun j => j = b) w w'
set_option maxRecDepth 100000 in
set_option maxHeartbeats 8000000 in
theorem tim_takeS {base : Nat} {w : World} {t b : Nat} {T : List (KeyS × Int)} (h : TabS base w t b T) (hl : T.length ≤ 1000000) (now : Int) :
    Calls Try.prog 14 #[.pointer (some ⟨t, 0, none⟩), .int .i64 now] w (TakePS base t b T now w) := by
  obtain ⟨i0, hi, hz0, hz1, hz2⟩ := info_parts Try.infoKS
  have htl := tabS_lt h
  have hnd : (T.map (·.1)).Nodup := by obtain ⟨_, _, _, _, D, _, h2, _⟩ := h; exact h2.nodup
  have hok : OkTS T := by obtain ⟨_, _, _, _, D, _, _, h2⟩ := h; exact h2
  have htb := h.2.2.1
  obtain ⟨w1, hw1⟩ : ∃ w1, (w.alloc (Obj.cells #[Value.pointer (some ⟨t, 0, none⟩)] 25)).alloc (Obj.cells #[Value.slice none 0 0] 34) = w1 := ⟨_, rfl⟩
  have z1 : w1.heap.size = w.heap.size + 2 := by rw [← hw1]; simp
  have f1 : Fr (fun _ => False) w w1 := by rw [← hw1]; exact ((Fr.refl _ w).alloc _).alloc _
  have hb0 : w1.heap[w.heap.size]? = some (.cells #[.pointer (some ⟨t, 0, none⟩)] 25 (0, 0)) := by rw [← hw1]; exact blk_alloc (heap_alloc_new w _) _
  have hb1 : w1.heap[w.heap.size + 1]? = some (.cells #[.slice none 0 0] 34 (0, 0)) := by rw [← hw1]; exact heap_alloc2_new w _ _
  have ht1 := tabS_fr h f1 (fun e => e) fun e => e
  have hdue := tim_DueS (w := w1) (.inr ⟨base, t, b, rfl, ht1⟩) hnd hl now
  unfold DueFS at hdue
  have c0 := blk_cell hb0 0
  rw [← hw1] at c0
  have HW := Lib.hid (And.intro hw1 hdue)
  have H0 := Lib.hid (And.intro h (And.intro f1 (And.intro hb0 (And.intro hb1 (And.intro z1 (And.intro hnd (And.intro hok htb)))))))
  have hdl := dueMS_len T now
  obtain ⟨xs, hxs⟩ : ∃ xs, dueMS T now = xs := ⟨_, rfl⟩
  rw [hxs] at hdl HW
  have HX := Lib.hid hxs
  clear hw1 hdue h hxs hb0 hb1 ht1 z1 f1 hnd hok htb
  refine (callsIn_wide (n := 20)).1 ?_
  refine callsIn_of_wp_marks Try.func14 rfl trivial ?_ rfl
  simp only [Try.ntmps14, List.size_toArray, List.length_cons, List.length_nil, Nat.reduceAdd, Nat.reduceSub, Array.replicate_succ, Array.replicate_zero, List.push_toArray, List.append_toArray, List.nil_append, List.cons_append]
  gi_wp2_with fail
  rw [HW.out.1]
  refine ⟨trivial, (calls_wide (.inl rfl) HW.out.2).mono ?_⟩
  rintro e W2 ⟨⟨F, rfl, hT⟩, hB2⟩
  clear HW c0
  gi_wp2_with fail
  obtain ⟨Y, hYb, gf, lb, rfl, hseq, hYl, heg⟩ := taleRS_tells hT (Nat.le_trans hdl hl)
  obtain ⟨h, f1, hb0, hb1, z1, hnd, hok, htb⟩ := H0.out
  have hzz := hB2.size
  have f2 : Fr (fun _ => False) w1 W2 := Fr.of_below hB2
  have hb0 := f2.blk hb0 fun e => e
  have hb1 := f2.blk hb1 fun e => e
  have f12 := f1.trans f2
  have ht2 := tabS_fr h f12 (fun e => e) fun e => e
  have H := Lib.hid (And.intro h (And.intro ht2 (And.intro f12 (And.intro hb0 (And.intro hb1 (And.intro z1 (And.intro hnd (And.intro hok htb))))))))
  refine wpIn_rangeF (X := fun k => k = w.heap.size + 1 ∨ k = b) (Y := Y) (xs := xs) (encs := encAS) (gf := gf) (lb := lb) (TakeIS (w.heap.size + 1) W2.heap.size b T) (fun _ _ _ _ => False)
    rfl hseq (fun k hk => ⟨by rcases hk with e | e <;> omega, fun e => by have := hYb k e; rcases hk with e | e <;> omega⟩) hYl (by omega) heg (fun _ => rfl)
    (takeIS_stays _ _ _ _) (fun c s X1 V1 V2 h => h.elim) ⟨_, hb1, ownKS_nil _ _, by rw [remMS_nil]; exact ht2.2.2.2.2, by omega, by omega, by omega, fun k => by simp [Value.ownBlock]⟩ ?round ?done (fun _ _ _ _ _ _ _ _ _ _ _ h => h.elim)
  case round =>
    rintro l pre ⟨y, at_⟩ r X1 V K rb hl2 hpx hI hG hxl hF hlV hK
    dsimp only [encAS, kVS]
    have HK := Lib.hid hK
    have HV := Lib.hid (And.intro hpx (And.intro hI (And.intro hG (And.intro hxl (And.intro hF (And.intro hlV hl2))))))
    clear hK hpx hI hG hxl hF hlV hl2 hseq hYb hYl heg h f1 f2 f12 hb0 hb1 ht2 z1 hnd hok htb hT hB2 H0
    gi_wp2_with fail
    refine HK.out _ _ (Fr.refl _ _) fun Vb hfb hzb hsb hrb => ?_
    clear HK K
    obtain ⟨hpx, ⟨vb, k3, o3, hM, hSl, hbl, hSb, hX1⟩, hG, hxl, hF, hlV, hl2⟩ := HV.out
    obtain ⟨h, ht2, f12, hb0, hb1, z1, hnd, hok, htb⟩ := H.out
    have hyT : (y, at_) ∈ T := by
      have : (y, at_) ∈ xs := by rw [← hpx]; simp
      rw [← HX.out] at this
      exact (dueMS_mem.1 this).1
    have hyk := (hok _ hyT).1
    have hpl : pre.length + 1 ≤ xs.length := by
      have := congrArg List.length hpx
      simp at this; omega
    have htv : Vb.heap[t]? = some (.cells #[.map (some b)] 87 (0, 0)) := hfb.blk (hF.blk ht2.2.2.2.1 (by omega)) (by omega)
    have hMb : TabMS Vb b (remMS T pre) := tabMS_same hM (hfb.block b (tabMS_lt hM) (by omega))
    have hTb : TabS base Vb t b (remMS T pre) := ⟨h.1, h.2.1, htb, htv, hMb⟩
    have hstop := tim_stopS hTb hyk
    have c0 := blk_cell (hfb.blk (hF.blk hb0 (by omega)) (by omega)) 0
    have k3b := hfb.blk k3 (by omega : ¬ w.heap.size + 1 = l)
    have o3b : OwnKS W2.heap.size Vb vb (pre.map (·.1)) := ownKS_kept o3 fun g hg => hfb.block g (o3.lt g hg).2 fun e => hxl ((hX1 l).2 (.inr (.inr (e ▸ hg))))
    have hzs : Vb.heap.size = V.heap.size := hzb
    have HS := Lib.hid hstop
    have HE := Lib.hid (And.intro hX1 (And.intro hG (And.intro hxl (And.intro hfb (And.intro hrb (And.intro k3b (And.intro o3b (And.intro hzs (And.intro hlV (And.intro hSl (And.intro hbl (And.intro hSb hl2))))))))))))
    clear hpx k3 o3 hM hSl hbl hSb hX1 hG hxl hF hlV hl2 h ht2 f12 hb0 hb1 z1 hnd hok htb hyT hyk htv hMb hTb hstop k3b o3b hzs hfb hzb hsb hrb
    unfold kVS at HS
    gi_wp2_with fail
    refine ⟨trivial, (calls_wide (.inr ⟨l, rfl⟩) HS.out).mono ?_⟩
    rintro e W4 ⟨rfl, hT4, f4⟩
    obtain ⟨hX1, hG, hxl, hfb, hrb, k3b, o3b, hzs, hlV, hSl, hbl, hSb, hl2⟩ := HE.out
    have hvb : ∀ k, vb.ownBlock = some k → k ≠ b ∧ k ≠ w.heap.size + 1 := fun k hk => by have := (o3b.lt k hk).1; omega
    have k4 := f4.blk k3b hSb
    have o4 : OwnKS W2.heap.size W4 vb (pre.map (·.1)) := ownKS_kept o3b fun g hg => f4.block g (o3b.lt g hg).2 (hvb g hg).1
    have hor : W4.ownsRow W2.heap.size 9 1 vb pre.length ((pre.map (·.1)).map kVS) := by have := o4; unfold OwnKS at this; rwa [List.length_map] at this
    have c4 := blk_cell k4 0
    have hrb4 := f4.blk hrb (by omega : ¬ l = b)
    have hbz : W2.heap.size ≤ W4.heap.size := by have := f4.size; omega
    have HO := Lib.hid hor
    have HF := Lib.hid (And.intro hT4 (And.intro f4 (And.intro k4 (And.intro hrb4 hvb))))
    clear hX1 hG hxl hfb hrb k3b o3b hzs hlV hSl hbl hSb hl2 hvb k4 o4 hor hrb4 hT4 f4 HS
    have hlen : ∀ W, (Builtin.len_ #[34] 3 #[vb]).run Try.prog W = .ok (.int .i64 pre.length) W := fun W => by obtain ⟨A, cp, rfl⟩ := row_slice HO.out; rfl
    gi_wp2_with (first | (gi_at_builtin; refine Hid.out ?_) | simp only [hlen])
    refine Lib.hid ?_
    refine wpListIn_one_t rfl _ _ 34 rfl W2.heap.size 9 i0 _ 1 16 Try.underlying34 hi hz0 hz1 hz2 rfl (by decide) _ _ _ rfl HO.out #[.string (bs y)] _ rfl rfl rfl (by intro u hu; simp at hu; subst hu; rfl) (by omega) (by decide) hbz ?_
    intro v1 W5 hown1 hfr1 htie
    obtain ⟨A1, c1', rfl⟩ := row_slice hown1
    obtain ⟨hT4, f4, k4, hrb4, hvb⟩ := HF.out
    have e1 : W5.heap[w.heap.size + 1]? = some (.cells #[vb] 34 (0, 0)) := hfr1.blk k4 fun e => (hvb _ e).2 rfl
    have g1 := blk_cell e1 0
    have g2 := blk_free e1 0
    clear hT4 f4 k4 hrb4 hvb
    gi_wp2_with fail
    obtain ⟨hX1, hG, hxl, hfb, hrb, k3b, o3b, hzs, hlV, hSl, hbl, hSb, hl2⟩ := HE.out
    obtain ⟨hT4, f4, k4, hrb4, hvb⟩ := HF.out
    have hown2 : OwnKS W2.heap.size W5 (.slice A1 (pre.length + 1) c1') ((pre ++ [(y, at_)]).map (·.1)) := by
      rw [List.map_append]
      refine ownKS_snoc ?_
      rw [List.length_map]
      exact hown1
    have hnx : (Value.slice A1 (pre.length + 1) c1').ownBlock ≠ some (w.heap.size + 1) := fun e => by have := (hown2.lt _ e).1; omega
    have hnb : (Value.slice A1 (pre.length + 1) c1').ownBlock ≠ some b := fun e => by have := (hown2.lt _ e).1; omega
    have hM5 : TabMS W5 b (remMS T (pre ++ [(y, at_)])) := by
      rw [remMS_snoc]
      exact tabMS_same hT4.2.2.2.2 (hfr1.block b (tabMS_lt hT4.2.2.2.2) fun e => (hvb _ e).1 rfl)
    have hfr : Fr (fun k => k = l ∨ X1 k) V (W5.setCell ⟨w.heap.size + 1, 0, none⟩ (.slice A1 (pre.length + 1) c1')) :=
      (((hfb.mono (Y := fun k => k = l ∨ X1 k) fun k _ e => .inl e).trans3 f4 fun k _ e => .inr ((hX1 k).2 (.inr (.inl e)))).trans3 hfr1 fun k _ e => .inr ((hX1 k).2 (.inr (.inr e)))).setCell _ (.inr ((hX1 _).2 (.inl rfl))) _
    refine ⟨fun k => k = w.heap.size + 1 ∨ k = b ∨ (Value.slice A1 (pre.length + 1) c1').ownBlock = some k, fun k hk => ?_, hfr, ?_, .slice A1 (pre.length + 1) c1', blk_set e1 0 _, ?_, ?_, hSl, hbl, hSb, fun k => Iff.rfl⟩
    · have hz2 := hfr1.size
      have hz4 := f4.size
      have hsz : (W5.setCell ⟨w.heap.size + 1, 0, none⟩ (.slice A1 (pre.length + 1) c1')).heap.size = W5.heap.size := by simp
      rw [hsz]
      rcases hk with rfl | rfl | hk
      · exact ⟨blk_lt e1, fun _ => (hX1 _).2 (.inl rfl)⟩
      · exact ⟨tabMS_lt hM5, fun _ => (hX1 _).2 (.inr (.inl rfl))⟩
      · refine ⟨(hown2.lt k hk).2, fun hlt => ?_⟩
        rcases htie k hk with e | e
        · exact (hX1 k).2 (.inr (.inr e))
        · omega
    · have hl3 : ¬ vb.ownBlock = some l := fun e => hxl ((hX1 l).2 (.inr (.inr e)))
      exact blk_other (hfr1.blk hrb4 hl3) _ (by simp; omega) _
    · exact ownKS_kept hown2 fun g hg => heap_setCell_other W5 _ g _ fun e => by simp at e; exact hnx (e ▸ hg)
    · exact tabMS_same hM5 (heap_setCell_other W5 _ b _ fun e => by simp at e; exact hSb e.symm)
  case done =>
    rintro D X2 V hD hxD hG hF ⟨v, k3, o3, hM, hSl, hbl, hSb, hX2⟩ hdef
    have c3 := blk_cell k3 0
    rw [← HX.out, remMS_due hnd] at hM
    rw [← HX.out] at o3
    have hfw : Fr (fun j => j = b) w V := (f12.mono (Y := fun j => j = b) fun _ _ e => e.elim).trans3 hF fun k hk e => e.elim (fun e => by omega) id
    have hTV : TabS base V t b (T.filter fun p => decide (now < p.2)) := ⟨h.1, h.2.1, htb, hF.blk ht2.2.2.2.1 (by omega), hM⟩
    have hxv : ∀ k, X2 k ↔ (k = w.heap.size + 1 ∨ k = b ∨ v.ownBlock = some k) := hX2
    have HQ := Lib.hid (And.intro o3 (And.intro hTV (And.intro hfw (And.intro hdef (And.intro hD (And.intro hxD (And.intro hX2 (And.intro hzz (And.intro z1 htl)))))))))
    clear k3 o3 hM hSl hbl hSb hX2 hxv hfw hTV hdef hD hxD hG hF hseq hYb hYl heg h f1 f2 f12 hb0 hb1 ht2 z1 hnd hok htb hT hB2 H0 hzz htl
    gi_wp2_with fail
    obtain ⟨o3, hTV, hfw, hdef, hD, hxD, hX2, hzz, z1, htl⟩ := HQ.out
    refine leaves_one D _ hdef fun w' hf => ?_
    refine ⟨v, by simp [results, Try.results14, go_sem], ⟨v, rfl, ?_⟩, tabS_fr hTV hf (by omega) (by omega), hfw.trans3 hf fun k hk e => by omega⟩
    exact ownKS_base (ownKS_kept o3 fun g hg => hf.block g (o3.lt g hg).2 fun e => hxD ((hX2 D).2 (.inr (.inr (e ▸ hg))))) (by omega)
end Go.Proofs.Ytbgmjieagnmpkaa
