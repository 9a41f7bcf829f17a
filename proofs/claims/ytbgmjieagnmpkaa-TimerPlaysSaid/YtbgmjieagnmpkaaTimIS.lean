/- Layer 9, keys of kind string: Next; a nil table's Take. -/
import Derived.Test.YtbgmjieagnmpkaaTimHS
import Derived.RegionIn
namespace Go.Proofs.Ytbgmjieagnmpkaa
set_option linter.unusedVariables false
set_option linter.unusedSimpArgs false
open Go Go.RowKit Go.Maps Go.Sort Go.Shelf Go.Lib
attribute [local go_sem] Oper.semAt_some

/-- the first of some -/
def stepTS (m : Option (KeyS × Int)) (x : KeyS × Int) : Option (KeyS × Int) := match m with | none => some x | some y => if ltTS x y then some x else some y
def minTS (l : List (KeyS × Int)) : Option (KeyS × Int) := l.foldl stepTS none
theorem minTS_snoc (l : List (KeyS × Int)) (x : KeyS × Int) : minTS (l ++ [x]) = stepTS (minTS l) x := by simp [minTS]
theorem minTS_none (l : List (KeyS × Int)) : minTS l = none ↔ l = [] := by
  refine ⟨fun h => ?_, fun h => by subst h; rfl⟩
  by_cases e : l = []
  · exact e
  · obtain ⟨r, x, rfl⟩ : ∃ r x, l = r ++ [x] := ⟨l.dropLast, l.getLast e, (List.dropLast_concat_getLast e).symm⟩
    rw [minTS_snoc] at h
    unfold stepTS at h
    split at h
    · cases h
    · split at h <;> cases h
theorem minTS_some : ∀ (l : List (KeyS × Int)) (p : KeyS × Int), minTS l = some p → p ∈ l ∧ ∀ q ∈ l, ¬ ltTS q p := by
  refine snoc_ind ?_ ?_
  · intro p h; cases h
  · intro l x ih p h
    rw [minTS_snoc] at h
    unfold stepTS at h
    split at h
    · rename_i hn
      rw [minTS_none] at hn
      subst hn
      cases h
      refine ⟨by simp, fun q hq => ?_⟩
      simp at hq; subst hq
      exact ltTS_irr _
    · rename_i y hy
      obtain ⟨h1, h2⟩ := ih y hy
      split at h
      · rename_i hlt
        cases h
        refine ⟨by simp, fun q hq hq2 => ?_⟩
        rw [List.mem_append] at hq
        rcases hq with hq | hq
        · exact h2 q hq (ltTS_tr hq2 hlt)
        · simp at hq; subst hq; exact ltTS_irr _ hq2
      · rename_i hlt
        cases h
        refine ⟨by simp [h1], fun q hq hq2 => ?_⟩
        rw [List.mem_append] at hq
        rcases hq with hq | hq
        · exact h2 q hq hq2
        · simp at hq; subst hq; exact hlt hq2
def zeroKS : KeyS := []
def fstOS (m : Option (KeyS × Int)) : KeyS × Int := m.getD (zeroKS, 0)
theorem compare_frS (x y : KeyS × Int) (W : World) : Calls Try.prog 46 #[.agg (encCS x).toArray, .agg (encCS y).toArray] W fun e W' => e = .returned (.int .i64 (cmpTS x y)) ∧ Fr (fun _ => False) W W' :=
  (compare_itemsS x y W).mono fun e W' ⟨h, q, os, hw⟩ => ⟨h, by
    subst hw
    cases q with
    | zero => exact ⟨rfl, rfl, rfl, by simp [grow, World.drewN], fun k hk _ => Array.getElem?_append_left hk⟩
    | succ q => exact ⟨rfl, rfl, rfl, by simp [grow, World.drewN], fun k hk _ => Array.getElem?_append_left hk⟩⟩
theorem next_putS {W : World} {S : Nat} {a b c : Value} {t1 t2 : TypeId} (h1 : W.heap[S]? = some (.cells #[a, b] t1 (0, 0))) (h2 : W.heap[S + 1]? = some (.cells #[c] t2 (0, 0))) (u v x : Value) :
    (((W.setCell ⟨S, 0, none⟩ u).setCell ⟨S, 1, none⟩ v).setCell ⟨S + 1, 0, none⟩ x).heap[S]? = some (.cells #[u, v] t1 (0, 0)) ∧ (((W.setCell ⟨S, 0, none⟩ u).setCell ⟨S, 1, none⟩ v).setCell ⟨S + 1, 0, none⟩ x).heap[S + 1]? = some (.cells #[x] t2 (0, 0)) ∧
    Fr (fun k => k = S ∨ k = S + 1) W (((W.setCell ⟨S, 0, none⟩ u).setCell ⟨S, 1, none⟩ v).setCell ⟨S + 1, 0, none⟩ x) ∧ (((W.setCell ⟨S, 0, none⟩ u).setCell ⟨S, 1, none⟩ v).setCell ⟨S + 1, 0, none⟩ x).heap.size = W.heap.size :=
  ⟨blk_other (blk_set (blk_set h1 0 u) 1 v) _ (by simp) x, blk_set (blk_other (blk_other h2 _ (by simp) u) _ (by simp) v) 0 x, (((Fr.refl _ W).setCell _ (.inl rfl) u).setCell _ (.inl rfl) v).setCell _ (.inr rfl) x, by simp⟩
/-- two boxes: the first so far, and whether there is one -/
def NextIS (S base : Nat) (pre : List (KeyS × Int)) (X : Nat → Prop) (W : World) : Prop := W.heap[S]? = some (.cells #[kVS (fstOS (minTS pre)).1, .int .i64 (fstOS (minTS pre)).2] 93 (0, 0)) ∧ W.heap[S + 1]? = some (.cells #[.bool (minTS pre).isSome] 4 (0, 0)) ∧ S + 1 < base ∧ ∀ k, X k ↔ (k = S ∨ k = S + 1)
theorem nextIS_stays (S base : Nat) : Stays (NextIS S base) := fun pre X V V' ⟨h1, h2, h3, h4⟩ hl hf =>
  ⟨hf.blk h1 (fun e => e ((h4 S).2 (.inl rfl))), hf.blk h2 (fun e => e ((h4 _).2 (.inr rfl))), h3, h4⟩
/-- how a round ends -/
theorem next_endS {l S base : Nat} {rb : Loop} {X1 : Nat → Prop} {V Vb W' : World} {pre : List (KeyS × Int)} {x m : KeyS × Int} (hst : stepTS (minTS pre) x = some m) (h1 : W'.heap[S]? = some (.cells #[kVS m.1, .int .i64 m.2] 93 (0, 0))) (h2 : W'.heap[S + 1]? = some (.cells #[.bool true] 4 (0, 0)))
    (hf : Fr (fun k => k = S ∨ k = S + 1) Vb W') (hfb : Fr (fun k => k = l) V Vb) (hrb : Vb.heap[l]? = some (.loop rb)) (hG : ∀ k, X1 k → k < V.heap.size) (hSl : S + 1 < base) (hX1 : ∀ k, X1 k ↔ (k = S ∨ k = S + 1)) (hxl : ¬ X1 l) :
    ∃ X2, GrowX X1 X2 V W' ∧ Fr (fun k => k = l ∨ X1 k) V W' ∧ W'.heap[l]? = some (.loop rb) ∧ NextIS S base (pre ++ [x]) X2 W' := by
  have hl : ¬ (l = S ∨ l = S + 1) := fun e => hxl ((hX1 l).2 e)
  refine ⟨X1, fun k hk => ⟨Nat.lt_of_lt_of_le (hG k hk) (Nat.le_trans hfb.size hf.size), fun _ => hk⟩, (hfb.mono (Y := fun k => k = l ∨ X1 k) fun k _ e => .inl e).trans3 hf fun k _ e => .inr ((hX1 k).2 e), hf.blk hrb hl, ?_, ?_, hSl, hX1⟩
  · rw [minTS_snoc, hst]; exact h1
  · rw [minTS_snoc, hst]; exact h2
/-- what Next tells -/
def NextPS (T : List (KeyS × Int)) (w : World) (e : Ending) (w' : World) : Prop :=
  (∃ ys, ys.Perm T ∧ e = .returned (.tuple #[kVS (fstOS (minTS ys)).1, .int .i64 (fstOS (minTS ys)).2, .bool (minTS ys).isSome])) ∧ RowKit.Below w.heap.size w w'
set_option maxRecDepth 100000 in
set_option maxHeartbeats 8000000 in
theorem tim_nextS {w : World} {p : Option Addr} {T : List (KeyS × Int)} (h : ItemsAtS w p T) :
    Calls Try.prog 22 #[.pointer p] w (NextPS T w) := by
  obtain ⟨w1, hw1⟩ : ∃ w1, (w.alloc (Obj.cells #[Value.string ⟨#[]⟩, Value.int IntKind.i64 0] 93)).alloc (Obj.cells #[Value.bool false] 4) = w1 := ⟨_, rfl⟩
  have z1 : w1.heap.size = w.heap.size + 2 := by rw [← hw1]; simp
  have f1 : Fr (fun _ => False) w w1 := by rw [← hw1]; exact ((Fr.refl _ w).alloc _).alloc _
  have hb0 : w1.heap[w.heap.size]? = some (.cells #[Value.string ⟨#[]⟩, Value.int IntKind.i64 0] 93 (0, 0)) := by rw [← hw1]; exact blk_alloc (heap_alloc_new w _) _
  have hb1 : w1.heap[w.heap.size + 1]? = some (.cells #[.bool false] 4 (0, 0)) := by rw [← hw1]; exact heap_alloc2_new w _ _
  have hcall := items_callS p w1
  obtain ⟨w2, hw2⟩ : ∃ w2, w1.alloc (.cells #[.pointer p] 25) = w2 := ⟨_, rfl⟩
  obtain ⟨Y, hsq, hY⟩ := items_tellsS h (f1.below (Nat.le_refl _) fun _ _ e => e.elim) hw2.symm
  rw [z1] at hsq hY
  rw [hw2] at hcall
  have f2 : Fr (fun _ => False) w1 w2 := by rw [← hw2]; exact (Fr.refl _ w1).alloc _
  have z2 : w2.heap.size = w.heap.size + 3 := by rw [← hw2]; simp; omega
  have hb0 := f2.blk hb0 fun e => e
  have hb1 := f2.blk hb1 fun e => e
  have f12 := f1.trans f2
  have HW := Lib.hid (And.intro hw1 hcall)
  clear hw1 hw2 hcall h
  refine (callsIn_wide (n := 20)).1 ?_
  refine callsIn_of_wp_marks Try.func22 rfl trivial ?_ rfl
  simp only [Try.ntmps22, List.size_toArray, List.length_cons, List.length_nil, Nat.reduceAdd, Nat.reduceSub, Array.replicate_succ, Array.replicate_zero, List.push_toArray, List.append_toArray, List.nil_append, List.cons_append]
  gi_wp2_with fail
  rw [HW.out.1]
  refine ⟨trivial, (calls_wide (.inl rfl) HW.out.2).mono ?_⟩
  rintro e W2 ⟨rfl, rfl⟩
  clear HW
  gi_wp2_with fail
  have H := Lib.hid (And.intro f12 z2)
  refine wpIn_rangeP (X := fun k => k = w.heap.size ∨ k = w.heap.size + 1) (Y := Y) (xs := T) (encs := encItS) (gf := 58) (lb := #[.pointer (some ⟨w.heap.size + 2, 0, none⟩)]) (NextIS w.heap.size W2.heap.size) (fun _ _ _ _ => False)
    rfl hsq (fun k hk => ⟨by omega, fun e => by have := hY k e; omega⟩) (fun b hb => by have := hY b hb; omega) (by omega) (enters_of Try.func58 (by kernel_rfl) rfl) (fun _ => rfl)
    (nextIS_stays _ _) (fun c s X1 V1 V2 h => h.elim) ⟨hb0, hb1, by omega, fun k => Iff.rfl⟩ ?round ?done (fun _ _ _ _ _ _ _ _ _ _ _ h => h.elim)
  case round =>
    rintro l pre ⟨y, at_⟩ r X1 V K rb hl2 hpx hI hG hxl hF hlV hK
    dsimp only [encItS, kVS]
    have HK := Lib.hid hK
    have HV := Lib.hid (And.intro hpx (And.intro hI (And.intro hG (And.intro hxl (And.intro hF (And.intro hlV hl2))))))
    clear hK hpx hI hG hxl hF hlV hl2 hsq hY f1 f2 f12 hb0 hb1 z1 z2
    gi_wp2_with fail
    refine HK.out _ _ ((Fr.refl _ _).alloc _) fun Vb hfb hzb hsb hrb => ?_
    clear HK K
    obtain ⟨hpx, ⟨k1, k2, hSl, hX1⟩, hG, hxl, hF, hlV, hl2⟩ := HV.out
    obtain ⟨f12, z2⟩ := H.out
    have hzs : Vb.heap.size = V.heap.size + 1 := by rw [hzb]; simp
    have ki : Vb.heap[V.heap.size]? = some (.cells #[.string (bs y), .int .i64 at_] 93 (0, 0)) := (hsb _ (by omega)).trans (heap_alloc_new V _)
    have k1b := hfb.blk k1 (by omega : ¬ w.heap.size = l)
    have k2b := hfb.blk k2 (by omega : ¬ w.heap.size + 1 = l)
    have hsn := minTS_snoc pre (y, at_)
    obtain ⟨m, hm⟩ : ∃ m, minTS pre = m := ⟨_, rfl⟩
    rw [hm] at k1b k2b hsn
    have ci0 := blk_cell ki 0
    have ci1 := blk_cell ki 1
    have c0 := blk_cell k1b 0
    have c1 := blk_cell k1b 1
    have c2 := blk_cell k2b 0
    have HE := Lib.hid (And.intro k1b (And.intro k2b (And.intro hSl (And.intro hX1 (And.intro hG (And.intro hxl (And.intro hlV (And.intro hl2 (And.intro hfb (And.intro hrb (And.intro hzs (And.intro hsn ki))))))))))))
    clear k1b k2b k1 k2 hSl hX1 hG hxl hlV hl2 hfb hrb hzs hsn ki hsb hzb hF hpx f12 z2 hm
    cases m with
    | none =>
      have f0 := HE.out.1
      have f0a := blk_free f0 0
      have f0b := blk_free f0 1
      have f1a := blk_free HE.out.2.1 0
      have hzw : w.heap.size < Vb.heap.size := by have := blk_lt f0; omega
      clear f0
      dsimp only [fstOS, zeroKS, Option.getD, Option.isSome, kVS] at c0 c1 c2
      gi_wp2_with fail
      refine ⟨trivial, ?_⟩
      gi_wp2_with fail
      obtain ⟨k1b, k2b, hSl, hX1, hG, hxl, hlV, hl2, hfb, hrb, hzs, hsn, ki⟩ := HE.out
      obtain ⟨p1, p2, p3, p4⟩ := next_putS k1b k2b (.string (bs y)) (.int .i64 at_) (.bool true)
      exact next_endS (m := (y, at_)) (by rw [← minTS_snoc, hsn]; rfl) p1 p2 p3 hfb hrb (fun k hk => (hG k hk).1) hSl hX1 hxl
    | some y0 =>
      obtain ⟨y1, y2⟩ := y0
      dsimp only [fstOS, Option.getD, Option.isSome, kVS] at c0 c1 c2
      have hcmp := compare_frS (y, at_) (y1, y2) Vb
      obtain ⟨c, hc⟩ : ∃ c, cmpTS (y, at_) (y1, y2) = c := ⟨_, rfl⟩
      rw [hc] at hcmp
      have hlt : c < 0 ↔ ltTS (y, at_) (y1, y2) := by
        have := ltOfS (y, at_) (y1, y2)
        unfold ltOf at this
        rw [decide_eq_decide, hc] at this
        exact this
      dsimp only [encCS, kVS] at hcmp
      have HC := Lib.hid hcmp
      have HL := Lib.hid hlt
      clear hcmp hc hlt
      gi_wp2_with fail
      refine ⟨trivial, (calls_wide (.inr ⟨l, rfl⟩) HC.out).mono ?_⟩
      rintro e W4 ⟨rfl, f4⟩
      by_cases hneg : c < 0
      · have H0 := HE.out.1
        have ci0' := blk_cell (f4.blk HE.out.2.2.2.2.2.2.2.2.2.2.2.2 fun e => e) 0
        have ci1' := blk_cell (f4.blk HE.out.2.2.2.2.2.2.2.2.2.2.2.2 fun e => e) 1
        have f0 := f4.blk HE.out.1 fun e => e
        have f0a := blk_free f0 0
        have f0b := blk_free f0 1
        have g0 := blk_cell f0 0
        have g1 := blk_cell f0 1
        have f1 := f4.blk HE.out.2.1 fun e => e
        have f1a := blk_free f1 0
        have g2 := blk_cell f1 0
        dsimp only [fstOS, Option.getD, Option.isSome, kVS] at g0 g1 g2
        have HF := Lib.hid (And.intro f4 (And.intro f0 f1))
        clear f0 f1 f4 H0
        gi_wp2_with fail
        obtain ⟨k1b, k2b, hSl, hX1, hG, hxl, hlV, hl2, hfb, hrb, hzs, hsn, ki⟩ := HE.out
        obtain ⟨f4, f0, f1⟩ := HF.out
        obtain ⟨p1, p2, p3, p4⟩ := next_putS f0 f1 (.string (bs y)) (.int .i64 at_) (.bool true)
        exact next_endS (m := (y, at_)) (by rw [← minTS_snoc, hsn]; unfold stepTS; simp only []; rw [if_pos (HL.out.1 hneg)]) p1 p2 ((f4.mono fun _ _ e => e.elim).trans3 p3 fun k _ e => e) hfb hrb (fun k hk => (hG k hk).1) hSl hX1 hxl
      · have HF := Lib.hid f4
        clear f4
        gi_wp2_with fail
        obtain ⟨k1b, k2b, hSl, hX1, hG, hxl, hlV, hl2, hfb, hrb, hzs, hsn, ki⟩ := HE.out
        have f4 := HF.out
        exact next_endS (m := (y1, y2)) (by rw [← minTS_snoc, hsn]; unfold stepTS; simp only []; rw [if_neg (fun e => by have := HL.out.2 e; omega)]) (f4.blk k1b fun e => e) (f4.blk k2b fun e => e) (f4.mono fun _ _ e => e.elim) hfb hrb (fun k hk => (hG k hk).1) hSl hX1 hxl
  case done =>
    rintro D ys X2 V hys hD hxD hG hF ⟨k1, k2, hSl, hX2⟩ hdef
    have c0 := blk_cell k1 0
    have c1 := blk_cell k1 1
    have c2 := blk_cell k2 0
    have b4 : RowKit.Below w.heap.size w V := ((f12.mono (Y := fun k => k = w.heap.size ∨ k = w.heap.size + 1) fun _ _ e => e.elim).trans3 hF fun k _ e => e).below (Nat.le_refl _) fun k _ e => by omega
    obtain ⟨m, hm⟩ : ∃ m, fstOS (minTS ys) = m := ⟨_, rfl⟩
    obtain ⟨i, hi⟩ : ∃ i, (minTS ys).isSome = i := ⟨_, rfl⟩
    rw [hm] at c0 c1
    rw [hi] at c2
    have HQ := Lib.hid (And.intro hys (And.intro hdef (And.intro b4 (And.intro hD (And.intro hm hi)))))
    clear k1 k2 hSl hX2 hdef hxD hG hF hys b4 hD hm hi hsq hY f1 f2 f12 hb0 hb1 z1 z2
    dsimp only [kVS] at c0 c1 c2
    gi_wp2_with fail
    gi_region
    all_goals
      gi_wp2_with fail
      obtain ⟨hys, hdef, b4, hD, hm, hi⟩ := HQ.out
      have z2 := H.out.2
      refine leaves_one D _ hdef fun w' hf => ⟨.tuple #[kVS m.1, .int .i64 m.2, .bool i], by simp [results, Try.results22, go_sem, kVS], ⟨ys, hys, by rw [hm, hi]⟩, b4.drew.trans (hf.below b4.size fun k _ e => by omega)⟩
set_option maxRecDepth 100000 in
set_option maxHeartbeats 8000000 in
theorem tim_take_nilS (w : World) (now : Int) :
    Calls Try.prog 14 #[.pointer none, .int .i64 now] w fun e w' => e = .returned (.slice none 0 0) ∧ RowKit.Below w.heap.size w w' := by
  obtain ⟨w1, hw1⟩ : ∃ w1, (w.alloc (Obj.cells #[Value.pointer none] 25)).alloc (Obj.cells #[Value.slice none 0 0] 34) = w1 := ⟨_, rfl⟩
  have z1 : w1.heap.size = w.heap.size + 2 := by rw [← hw1]; simp
  have f1 : Fr (fun _ => False) w w1 := by rw [← hw1]; exact ((Fr.refl _ w).alloc _).alloc _
  have hb0 : w1.heap[w.heap.size]? = some (.cells #[.pointer none] 25 (0, 0)) := by rw [← hw1]; exact blk_alloc (heap_alloc_new w _) _
  have hb1 : w1.heap[w.heap.size + 1]? = some (.cells #[.slice none 0 0] 34 (0, 0)) := by rw [← hw1]; exact heap_alloc2_new w _ _
  have hdue := tim_DueS (w := w1) (T := []) (.inl ⟨rfl, rfl⟩) (by simp) (by simp) now
  unfold DueFS at hdue
  have c0 := blk_cell hb0 0
  rw [← hw1] at c0
  have HW := Lib.hid (And.intro hw1 hdue)
  have H0 := Lib.hid (And.intro f1 (And.intro hb1 z1))
  clear hw1 hdue hb0 hb1 z1 f1
  refine (callsIn_wide (n := 20)).1 ?_
  refine callsIn_of_wp_marks Try.func14 rfl trivial ?_ rfl
  simp only [Try.ntmps14, List.size_toArray, List.length_cons, List.length_nil, Nat.reduceAdd, Nat.reduceSub, Array.replicate_succ, Array.replicate_zero, List.push_toArray, List.append_toArray, List.nil_append, List.cons_append]
  gi_wp2_with fail
  rw [HW.out.1]
  refine ⟨trivial, (calls_wide (.inl rfl) HW.out.2).mono ?_⟩
  rintro e W2 ⟨⟨F, rfl, hT⟩, hB2⟩
  have hnil : dueMS [] now = [] := List.length_eq_zero_iff.1 (Nat.le_zero.1 (dueMS_len [] now))
  rw [hnil] at hT
  clear HW c0
  gi_wp2_with fail
  obtain ⟨Y, hYb, gf, lb, rfl, hseq, hYl, heg⟩ := taleRS_tells hT (by simp)
  obtain ⟨f1, hb1, z1⟩ := H0.out
  have hzz := hB2.size
  have f2 : Fr (fun _ => False) w1 W2 := Fr.of_below hB2
  have hb1 := f2.blk hb1 fun e => e
  have f12 := f1.trans f2
  refine wpIn_rangeF (X := fun k => k = w.heap.size + 1) (Y := Y) (xs := []) (encs := encAS) (gf := gf) (lb := lb) (fun pre X V => V.heap[w.heap.size + 1]? = some (.cells #[.slice none 0 0] 34 (0, 0)) ∧ X (w.heap.size + 1)) (fun _ _ _ _ => False)
    rfl hseq (fun k hk => ⟨by omega, fun e => by have := hYb k e; omega⟩) hYl (by omega) heg (fun _ => rfl)
    (fun s X V V' h hl hf => ⟨hf.blk h.1 fun e => e h.2, h.2⟩) (fun c s X1 V1 V2 h => h.elim) ⟨hb1, rfl⟩ ?round ?done (fun _ _ _ _ _ _ _ _ _ _ _ h => h.elim)
  case round =>
    rintro l pre x r X1 V K rb hl2 hpx
    exact absurd hpx (by simp)
  case done =>
    rintro D X2 V hD hxD hG hF ⟨k3, hX2⟩ hdef
    have c3 := blk_cell k3 0
    have b4 : RowKit.Below w.heap.size w V := ((f12.mono (Y := fun k => k = w.heap.size + 1) fun _ _ e => e.elim).trans3 hF fun k _ e => e).below (Nat.le_refl _) fun k _ e => by omega
    have HQ := Lib.hid (And.intro hdef (And.intro b4 hD))
    clear k3 hX2 hdef hD hxD hG hF hseq hYb hYl heg f1 f2 f12 hb1 hT hB2 H0 b4
    gi_wp2_with fail
    obtain ⟨hdef, b4, hD⟩ := HQ.out
    exact leaves_one D _ hdef fun w' hf => ⟨.slice none 0 0, by simp [results, Try.results14, go_sem], rfl, b4.trans (hf.below b4.size fun k _ e => by omega)⟩
end Go.Proofs.Ytbgmjieagnmpkaa
