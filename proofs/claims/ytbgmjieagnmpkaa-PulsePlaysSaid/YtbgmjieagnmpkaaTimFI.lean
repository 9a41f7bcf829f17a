/- Layer 9, keys of kind int: due, up to the sort. -/
import Derived.Test.YtbgmjieagnmpkaaTimEI
import Derived.Test.YtbgmjieagnmpkaaAppT
import Derived.Test.YtbgmjieagnmpkaaRowK
import Derived.Test.YtbgmjieagnmpkaaShelf
import Derived.Shelf.SlSortCmp.NoneTotal
import Derived.Stop.RegionWithIn
import Derived.OwnWalk
namespace Go.Proofs.Ytbgmjieagnmpkaa
set_option linter.unusedVariables false
set_option linter.unusedSimpArgs false
open Go Go.RowKit Go.Maps Go.Sort Go.Shelf Go.Lib
attribute [local go_sem] Oper.semAt_some

theorem Try.infoRI : (Try.prog.info? 103).map (fun i => (i.zero, i.size, i.bytes)) = some (some (.agg #[.int .i64 0, .int .i64 0]), 2, 16) := by kernel_rfl
/-- a row of items of the call's own -/
def OwnRI (base : Nat) (W : World) (v : Value) (xs : List (KeyI × Int)) : Prop := W.ownsRow base 103 2 v xs.length (xs.flatMap encCI)
theorem ownRI_nil (base : Nat) (w : World) : OwnRI base w (.slice none 0 0) [] := World.ownsRow_nil _ _ _ _
theorem ownRI_kept {base : Nat} {w W : World} {v : Value} {xs : List (KeyI × Int)} (h : OwnRI base w v xs) (hs : ∀ g, v.ownBlock = some g → W.heap[g]? = w.heap[g]?) : OwnRI base W v xs := row_same h hs
theorem ownRI_snoc {base : Nat} {w : World} {v : Value} {xs : List (KeyI × Int)} {x : KeyI × Int} (h : w.ownsRow base 103 2 v (xs.length + 1) (xs.flatMap encCI ++ encCI x)) : OwnRI base w v (xs ++ [x]) := by
  unfold OwnRI; rw [List.length_append, List.flatMap_append]; simpa using h
/-- a box with what has come and is due -/
def BoxRI (S base : Nat) (now : Int) (pre : List (KeyI × Int)) (X : Nat → Prop) (W : World) : Prop := ∃ v, W.heap[S]? = some (.cells #[v] 123 (0, 0)) ∧ OwnRI base W v (pre.filter fun p => decide (p.2 ≤ now)) ∧ S < base ∧ ∀ k, X k ↔ (k = S ∨ v.ownBlock = some k)
theorem boxRI_stays (S base : Nat) (now : Int) : Stays (BoxRI S base now) := fun pre X V V' ⟨v, h1, h2, h3, h4⟩ hl hf =>
  ⟨v, hf.blk h1 (fun e => e ((h4 S).2 (.inl rfl))), ownRI_kept h2 fun g hg => hf.block g (h2.lt g hg).2 fun e => e ((h4 g).2 (.inr hg)), h3, h4⟩
/-- items, over a nil table too -/
def ItemsAtI (w : World) (p : Option Addr) (T : List (KeyI × Int)) : Prop := (p = none ∧ T = []) ∨ ∃ base t b, p = some ⟨t, 0, none⟩ ∧ TabI base w t b T
theorem itemsAtI_below {w w' : World} {p : Option Addr} {T : List (KeyI × Int)} (h : ItemsAtI w p T) (hb : Below w.heap.size w w') : ItemsAtI w' p T := by
  rcases h with h | ⟨base, t, b, h1, h2⟩
  · exact .inl h
  · exact .inr ⟨base, t, b, h1, tabI_below h2 hb⟩
theorem items_tellsI {w0 w w' : World} {p : Option Addr} {T : List (KeyI × Int)} (h : ItemsAtI w0 p T) (hb : Below w0.heap.size w0 w) (he : w' = w.alloc (.cells #[.pointer p] 49)) :
    ∃ Y : Nat → Prop, SeqP Try.prog 65 #[.pointer (some ⟨w.heap.size, 0, none⟩)] encItI Y T w' ∧ ∀ b, Y b → b = w.heap.size ∨ b < w0.heap.size := by
  have hn : w'.heap[w.heap.size]? = some (.cells #[.pointer p] 49 (0, 0)) := by rw [he]; exact heap_alloc_new w _
  rcases h with ⟨rfl, rfl⟩ | ⟨base, t, b, rfl, h2⟩
  · exact ⟨_, items_seq_nilI _ _ hn, fun b hb => .inl hb⟩
  · have h3 := tabI_lt h2
    have hz := hb.size
    refine ⟨_, items_seqI (base := base) w.heap.size t b T w' hn (by rw [he]; exact tabI_below (tabI_below h2 hb) ((Below.refl _ _).alloc (Nat.le_refl _) _)), fun k hk => ?_⟩
    rcases hk with e | e | e
    · exact .inl e
    · exact .inr (by omega)
    · exact .inr (by omega)
/-- what is due, handed back -/
def DuePI (T : List (KeyI × Int)) (now : Int) (w : World) (e : Ending) (w' : World) : Prop := (∃ v, e = .returned v ∧ OwnRI w.heap.size w' v (dueMI T now)) ∧ RowKit.Below w.heap.size w w'
theorem ownRI_base {W : World} {base base' : Nat} {v : Value} {xs : List (KeyI × Int)} (h : OwnRI base W v xs) (hb : base' ≤ base) : OwnRI base' W v xs := by
  obtain ⟨h1, h2⟩ := h
  refine ⟨h1, ?_⟩
  rcases h2 with h2 | ⟨g, cap, cur, h3, h4, h5⟩
  · exact .inl h2
  · exact .inr ⟨g, cap, cur, h3, by omega, h5⟩
/-- the sort's contract -/
def SortsRI : Prop := ∀ (base : Nat) (W : World) (v : Value) (xs : List (KeyI × Int)), OwnRI base W v xs → xs.length ≤ 1000000 →
    Calls Try.prog 73 #[v, .func (.func 50) #[] #[]] W fun e W' => e = .returned (.tuple #[]) ∧ OwnRI base W' v (sortTI xs) ∧ Fr (fun j => v.ownBlock = some j) W W'
set_option maxRecDepth 100000 in
set_option maxHeartbeats 8000000 in
theorem due_mainI {w : World} {p : Option Addr} {T : List (KeyI × Int)} (hsort : SortsRI) (h : ItemsAtI w p T) (hnd : (T.map (·.1)).Nodup) (hl : T.length ≤ 1000000) (now : Int) :
    Calls Try.prog 63 #[.pointer p, .int .i64 now] w (DuePI T now w) := by
  obtain ⟨i0, hi, hz0, hz1, hz2⟩ := info_parts Try.infoRI
  obtain ⟨w1, hw1⟩ : ∃ w1, (w.alloc (Obj.cells #[Value.int IntKind.i64 now] 3)).alloc (Obj.cells #[Value.slice none 0 0] 123) = w1 := ⟨_, rfl⟩
  have z1 : w1.heap.size = w.heap.size + 2 := by rw [← hw1]; simp
  have f1 : Fr (fun _ => False) w w1 := by rw [← hw1]; exact ((Fr.refl _ w).alloc _).alloc _
  have hb0 : w1.heap[w.heap.size]? = some (.cells #[.int .i64 now] 3 (0, 0)) := by rw [← hw1]; exact blk_alloc (heap_alloc_new w _) _
  have hb1 : w1.heap[w.heap.size + 1]? = some (.cells #[.slice none 0 0] 123 (0, 0)) := by rw [← hw1]; exact heap_alloc2_new w _ _
  have hcall := items_callI p w1
  obtain ⟨w2, hw2⟩ : ∃ w2, w1.alloc (.cells #[.pointer p] 49) = w2 := ⟨_, rfl⟩
  obtain ⟨Y, hsq, hY⟩ := items_tellsI h (f1.below (Nat.le_refl _) fun _ _ e => e.elim) hw2.symm
  rw [z1] at hsq hY
  rw [hw2] at hcall
  have f2 : Fr (fun _ => False) w1 w2 := by rw [← hw2]; exact (Fr.refl _ w1).alloc _
  have z2 : w2.heap.size = w.heap.size + 3 := by rw [← hw2]; simp; omega
  have hb0 := f2.blk hb0 fun e => e
  have hb1 := f2.blk hb1 fun e => e
  have f12 := f1.trans f2
  have HW := Lib.hid (And.intro hw1 hcall)
  clear hw1 hw2 hcall h
  refine (callsIn_wide (n := 20)).1 ?_
  refine callsIn_of_wp_marks Try.func63 rfl trivial ?_ rfl
  simp only [Try.ntmps63, List.size_toArray, List.length_cons, List.length_nil, Nat.reduceAdd, Nat.reduceSub, Array.replicate_succ, Array.replicate_zero, List.push_toArray, List.append_toArray, List.nil_append, List.cons_append]
  gi_wp2_with fail
  rw [HW.out.1]
  refine ⟨trivial, (calls_wide (.inl rfl) HW.out.2).mono ?_⟩
  rintro e W2 ⟨rfl, rfl⟩
  clear HW
  gi_wp2_with fail
  have H := Lib.hid (And.intro f12 (And.intro hb0 (And.intro hb1 (And.intro z2 (And.intro hsort hnd)))))
  refine wpIn_rangeP (X := fun k => k = w.heap.size + 1) (Y := Y) (xs := T) (encs := encItI) (gf := 65) (lb := #[.pointer (some ⟨w.heap.size + 2, 0, none⟩)]) (BoxRI (w.heap.size + 1) W2.heap.size now) (fun _ _ _ _ => False)
    rfl hsq (fun k hk => ⟨by omega, fun e => by have := hY k e; omega⟩) (fun b hb => by have := hY b hb; omega) (by omega) (enters_of Try.func65 (by kernel_rfl) rfl) (fun _ => rfl)
    (boxRI_stays _ _ _) (fun c s X1 V1 V2 h => h.elim) ⟨_, hb1, ownRI_nil _ _, by omega, fun k => by simp [Value.ownBlock]⟩ ?round ?done (fun _ _ _ _ _ _ _ _ _ _ _ h => h.elim)
  case round =>
    rintro l pre ⟨y, at_⟩ r X1 V K rb hl2 hpx hI hG hxl hF hlV hK
    dsimp only [encItI, kVI]
    have HK := Lib.hid hK
    have HV := Lib.hid (And.intro hpx (And.intro hI (And.intro hG (And.intro hxl (And.intro hF (And.intro hlV hl2))))))
    clear hK hpx hI hG hxl hF hlV hl2 hsq hY f1 f2 f12 hb0 hb1 z1 z2 hsort hnd
    gi_wp2_with fail
    refine HK.out _ _ ((Fr.refl _ _).alloc _) fun Vb hfb hzb hsb hrb => ?_
    clear HK K
    obtain ⟨hpx, ⟨vb, k3, o3, hSl, hX1⟩, hG, hxl, hF, hlV, hl2⟩ := HV.out
    obtain ⟨f12, hb0, hb1, z2, hsort, hnd⟩ := H.out
    have hpl : (pre.filter fun p => decide (p.2 ≤ now)).length ≤ T.length := by
      have h1 := List.length_filter_le (fun p : KeyI × Int => decide (p.2 ≤ now)) pre
      have := hpx.length_eq
      simp at this; omega
    have hzs : Vb.heap.size = V.heap.size + 1 := by rw [hzb]; simp
    have ki : Vb.heap[V.heap.size]? = some (.cells #[.int .i64 y, .int .i64 at_] 103 (0, 0)) := (hsb _ (by omega)).trans (heap_alloc_new V _)
    have ci0 := blk_cell ki 0
    have ci1 := blk_cell ki 1
    have c0 := blk_cell (hfb.blk (hF.blk hb0 (by omega)) (by omega)) 0
    have k3b := hfb.blk k3 (by omega : ¬ w.heap.size + 1 = l)
    have o3b : OwnRI W2.heap.size Vb vb (pre.filter fun p => decide (p.2 ≤ now)) := ownRI_kept o3 fun g hg => hfb.block g (o3.lt g hg).2 fun e => hxl ((hX1 l).2 (.inr (e ▸ hg)))
    have c3 := blk_cell k3b 0
    have hbz : W2.heap.size ≤ Vb.heap.size := by omega
    by_cases hle : at_ ≤ now
    · have hfl : (pre ++ [(y, at_)]).filter (fun p => decide (p.2 ≤ now)) = (pre.filter fun p => decide (p.2 ≤ now)) ++ [(y, at_)] := by rw [List.filter_append]; simp [hle]
      have hor : Vb.ownsRow W2.heap.size 103 2 vb (pre.filter fun p => decide (p.2 ≤ now)).length ((pre.filter fun p => decide (p.2 ≤ now)).flatMap encCI) := o3b
      have HO := Lib.hid hor
      clear hor
      have HE := Lib.hid (And.intro hX1 (And.intro hG (And.intro hxl (And.intro hfb (And.intro hrb (And.intro k3b (And.intro hfl (And.intro hzs (And.intro hlV (And.intro hSl hl2))))))))))
      obtain ⟨ps, hps⟩ : ∃ ps, (pre.filter fun p => decide (p.2 ≤ now)) = ps := ⟨_, rfl⟩
      rw [hps] at HO HE hpl
      clear hpx k3 o3 hSl hX1 hG hxl hF hlV hl2 f12 hb0 hb1 z2 hsort hnd k3b o3b hfb hzb hsb hrb hzs ki hfl hps
      have hlen : ∀ W, (Builtin.len_ #[123] 3 #[vb]).run Try.prog W = .ok (.int .i64 ps.length) W := fun W => by obtain ⟨A, cp, rfl⟩ := row_slice HO.out; rfl
      gi_wp2_with (first | (gi_at_builtin; refine Hid.out ?_) | simp only [hlen])
      refine Lib.hid ?_
      refine wpListIn_one_t rfl _ _ 123 rfl W2.heap.size 103 i0 _ 2 16 Try.underlying123 hi hz0 hz1 hz2 rfl (by decide) _ _ _ rfl HO.out #[.int .i64 y, .int .i64 at_] _ rfl rfl rfl (by intro u hu; simp at hu; rcases hu with rfl | rfl <;> rfl) (by omega) (by decide) hbz ?_
      intro v1 W3 hown1 hfr1 htie
      obtain ⟨A1, c1', rfl⟩ := row_slice hown1
      have hn3 : ∀ k, vb.ownBlock = some k → k ≠ w.heap.size + 1 := fun k hk e => by have := (HO.out.lt k hk).1; have := HE.out.2.2.2.2.2.2.2.2.2.1; omega
      have e1 : W3.heap[w.heap.size + 1]? = some (.cells #[vb] 123 (0, 0)) := hfr1.blk HE.out.2.2.2.2.2.1 fun e => hn3 _ e rfl
      have g1 := blk_cell e1 0
      have g2 := blk_free e1 0
      have HN := Lib.hid hn3
      clear hn3
      gi_wp2_with fail
      obtain ⟨hX1, hG, hxl, hfb, hrb, k3b, hfl, hzs, hlV, hSl, hl2⟩ := HE.out
      have hn3 := HN.out
      have hown2 : OwnRI W2.heap.size W3 (.slice A1 (ps.length + 1) c1') (ps ++ [(y, at_)]) := ownRI_snoc hown1
      have hnx : (Value.slice A1 (ps.length + 1) c1').ownBlock ≠ some (w.heap.size + 1) := fun e => by have := (hown2.lt _ e).1; omega
      have hfr : Fr (fun k => k = l ∨ X1 k) V (W3.setCell ⟨w.heap.size + 1, 0, none⟩ (.slice A1 (ps.length + 1) c1')) :=
        (((hfb.mono (Y := fun k => k = l ∨ X1 k) fun k _ e => .inl e).trans3 hfr1 fun k _ e => .inr ((hX1 k).2 (.inr e)))).setCell _ (.inr ((hX1 _).2 (.inl rfl))) _
      refine ⟨fun k => k = w.heap.size + 1 ∨ (Value.slice A1 (ps.length + 1) c1').ownBlock = some k, fun k hk => ?_, hfr, ?_, .slice A1 (ps.length + 1) c1', blk_set e1 0 _, ?_, hSl, fun k => Iff.rfl⟩
      · have hz2 := hfr1.size
        have hsz : (W3.setCell ⟨w.heap.size + 1, 0, none⟩ (.slice A1 (ps.length + 1) c1')).heap.size = W3.heap.size := by simp
        rw [hsz]
        rcases hk with rfl | hk
        · exact ⟨blk_lt e1, fun _ => (hX1 _).2 (.inl rfl)⟩
        · refine ⟨(hown2.lt k hk).2, fun hlt => ?_⟩
          rcases htie k hk with e | e
          · exact (hX1 k).2 (.inr e)
          · omega
      · have hl3 : ¬ vb.ownBlock = some l := fun e => hxl ((hX1 l).2 (.inr e))
        exact blk_other (hfr1.blk hrb hl3) _ (by simp; omega) _
      · rw [hfl]
        exact ownRI_kept hown2 fun g hg => heap_setCell_other W3 _ g _ fun e => by simp at e; exact hnx (e ▸ hg)
    · have hfl : (pre ++ [(y, at_)]).filter (fun p => decide (p.2 ≤ now)) = pre.filter fun p => decide (p.2 ≤ now) := by rw [List.filter_append]; simp [hle]
      have HE : Hid (∃ X2, GrowX X1 X2 V Vb ∧ Fr (fun k => k = l ∨ X1 k) V Vb ∧ Vb.heap[l]? = some (.loop rb) ∧ BoxRI (w.heap.size + 1) W2.heap.size now (pre ++ [(y, at_)]) X2 Vb) :=
        ⟨X1, fun k hk => ⟨by have := (hG k hk).1; omega, fun _ => hk⟩, hfb.mono fun k _ e => .inl e, hrb, vb, k3b, by rw [hfl]; exact o3b, hSl, hX1⟩
      clear hpx k3 o3 hSl hX1 hG hxl hF hlV hl2 f12 hb0 hb1 z2 hsort hnd k3b o3b hfb hzb hsb hrb hzs ki hfl
      gi_wp2_with fail
      exact HE.out
  case done =>
    rintro D ys X2 V hys hD hxD hG hF ⟨v, k3, o3, hSl, hX2⟩ hdef
    have hfl : (ys.filter fun p => decide (p.2 ≤ now)).length ≤ 1000000 := by
      have h1 := List.length_filter_le (fun p : KeyI × Int => decide (p.2 ≤ now)) ys
      have := hys.length_eq
      omega
    have hs := hsort W2.heap.size V v _ o3 hfl
    have c3 := blk_cell k3 0
    have hdu := dueMI_perm hnd hys now
    rw [hdu] at hs
    have HS := Lib.hid hs
    have HE := Lib.hid (And.intro k3 (And.intro o3 (And.intro hF (And.intro hdef (And.intro hxD (And.intro hX2 (And.intro hSl (And.intro hD (And.intro f12 z2)))))))))
    clear k3 o3 hF hdef hxD hX2 hSl hD hG hsq hY f1 f2 f12 hb0 hb1 z1 z2 hsort hnd hys hs hdu hfl hi hz0 hz1 hz2
    gi_wp2_with fail
    refine ⟨trivial, (calls_wide (.inl rfl) HS.out).mono ?_⟩
    rintro e W4 ⟨rfl, o4, f4⟩
    obtain ⟨k3, o3, hF, hdef, hxD, hX2, hSl, hD, f12, z2⟩ := HE.out
    have hns : ¬ v.ownBlock = some (w.heap.size + 1) := fun e => by have := (o3.lt _ e).1; omega
    have k4 := f4.blk k3 hns
    have c4 := blk_cell k4 0
    have d4 := f4.blk hdef fun e => hxD ((hX2 D).2 (.inr e))
    have b4 : RowKit.Below w.heap.size w W4 := by
      have h5 : Fr (fun k => k = w.heap.size + 1) w V := (f12.mono (Y := fun k => k = w.heap.size + 1) (fun _ _ h => h.elim)).trans3 hF fun k _ e => e
      exact (h5.trans3 f4 (Y := fun j => v.ownBlock = some j) fun k hk e => by have := (o3.lt k e).1; omega).below (Nat.le_refl _) fun k hk e => by omega
    have HQ := Lib.hid (And.intro o4 (And.intro d4 (And.intro b4 (And.intro hD (And.intro z2 (And.intro hxD hX2))))))
    clear k3 o3 hF hdef hxD hX2 hSl hD f12 z2 hns k4 d4 b4 o4 f4 c3
    gi_wp2_with fail
    obtain ⟨o4, d4, b4, hD, z2, hxD, hX2⟩ := HQ.out
    refine leaves_one D _ d4 fun w' hf => ?_
    refine ⟨v, by simp [results, Try.results63, go_sem], ⟨v, rfl, ?_⟩, b4.trans (hf.below b4.size fun k _ e => by omega)⟩
    exact ownRI_base (ownRI_kept o4 fun g hg => hf.block g (o4.lt g hg).2 fun e => hxD ((hX2 D).2 (.inr (e ▸ hg)))) (by omega)
theorem sortsI : SortsRI := fun base W v xs h hl => by
  have eg : ∀ args w, (callFunc 50 args).run Try.prog w = .ok (.enter 50 args) w := enters_of Try.func50 (by kernel_rfl) rfl
  have hc := sort_row (P := Try.prog) (f := 73) (e := 103) encCI 2 (fun _ => rfl) (by decide) sortTI (fun l => (sortTI_perm l).length_eq) (.func (.func 50) #[] #[])
    (fun g cap d w hH hg hd => AnyQ.slices_SortFunc_total Try.sortI 2 Try.isAgg103 Try.sizeOf103 encCI (fun _ => rfl) (fun x v hv => by simp [encCI] at hv; rcases hv with rfl | rfl <;> rfl) cmpTI swoI 50 #[] g 0 cap d w eg (fun _ _ _ _ x y => compare_itemsI x y _) hH hg hd totI)
    (fun w => AnyF.slices_SortFunc_none { Try.sortI with } none 0 _ w) h hl
  refine hc.mono ?_
  rintro e W' ⟨h1, h2, h3⟩
  refine ⟨h1, ?_, h3⟩
  unfold OwnRI
  rw [(sortTI_perm xs).length_eq]
  exact h2
theorem tim_dueI {w : World} {p : Option Addr} {T : List (KeyI × Int)} (h : ItemsAtI w p T) (hnd : (T.map (·.1)).Nodup) (hl : T.length ≤ 1000000) (now : Int) :
    Calls Try.prog 63 #[.pointer p, .int .i64 now] w (DuePI T now w) := due_mainI sortsI h hnd hl now
end Go.Proofs.Ytbgmjieagnmpkaa
