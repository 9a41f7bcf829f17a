/- Texts of this proof, one behind the other. -/
import Derived.Test.YtnoeblnljfnecaaGreatDoorWishBothG7
import Derived.Test.YtnoeblnljfnecaaGreatDoorWishBothG9
import Derived.Test.YtnoeblnljfnecaaGreatDoorWishBothG10
import Derived.Shelf.RegionOpenPlain
section
/- Layer 11: Drop of a nil relation. -/
namespace Go.Proofs.YtnoeblnljfnecaaGreatDoor
set_option linter.unusedVariables false
set_option linter.unusedSimpArgs false
open Go Go.RowKit Go.Maps Go.Lib
attribute [local go_sem] Oper.semAt_some

set_option maxRecDepth 100000 in
set_option maxHeartbeats 4000000 in
theorem relDropNil (a : Int) (w : World) : Calls Tryz.prog 33 #[.pointer none, .int .i64 a] w fun e w' => e = .returned (.int .i64 0) ∧ Below w.heap.size w w' := by
  obtain ⟨w1, hw1⟩ : ∃ w1, ((w.alloc (Obj.cells #[Value.pointer none] 60)).alloc (Obj.cells #[Value.int .i64 a] 3)).alloc (Obj.cells #[Value.int .i64 0] 3) = w1 := ⟨_, rfl⟩
  have f1 : Fr (fun _ => False) w w1 := by rw [← hw1]; exact (((Fr.refl _ w).alloc _).alloc _).alloc _
  have z1 : w1.heap.size = w.heap.size + 3 := by rw [← hw1]; simp
  have k0 : w1.heap[w.heap.size]? = some (.cells #[.pointer none] 60 (0, 0)) := by rw [← hw1]; exact blk_alloc (blk_alloc (heap_alloc_new w _) _) _
  have k1 : w1.heap[w.heap.size + 1]? = some (.cells #[.int .i64 a] 3 (0, 0)) := by rw [← hw1]; exact blk_alloc (heap_alloc2_new w _ _) _
  have k2 : w1.heap[w.heap.size + 2]? = some (.cells #[.int .i64 0] 3 (0, 0)) := by
    rw [← hw1]
    have := heap_alloc2_new (w.alloc (Obj.cells #[Value.pointer none] 60)) (Obj.cells #[Value.int .i64 a] 3) (Obj.cells #[Value.int .i64 0] 3)
    rwa [World.size_alloc] at this
  have HOf := Lib.hid (relOfNilIS a w1)
  have c0 := blk_cell k0 0
  have c1 := blk_cell k1 0
  have HW := Lib.hid hw1
  have H := Lib.hid (And.intro f1 (And.intro z1 k2))
  clear hw1 f1 z1 k0 k1 k2
  refine (callsIn_wide (n := 30)).1 ?_
  refine callsIn_of_wp_marks Tryz.func33 rfl trivial ?_ rfl
  simp only [Tryz.ntmps33, List.size_toArray, List.length_cons, List.length_nil, Nat.reduceAdd, Nat.reduceSub, Array.replicate_succ, Array.replicate_zero, List.push_toArray, List.append_toArray, List.nil_append, List.cons_append]
  gi_wp2_with fail
  rw [HW.out]
  refine ⟨trivial, (calls_wide (.inl rfl) HOf.out).mono ?_⟩
  rintro e w2 ⟨⟨F, rfl, hT⟩, hb2⟩
  obtain ⟨f1, z1, k2⟩ := H.out
  have f2 : Fr (fun _ => False) w1 w2 := Fr.of_below hb2
  obtain ⟨Y, hYb, gf, lb, rfl, hseq, hYl, heg⟩ := tellsT_tale (show TaleT w1.heap.size w2 F [] from hT) (by decide)
  have q2 := f2.blk k2 fun e => e
  have z2 := f2.size
  have K := Lib.hid (And.intro f2 (And.intro hYb (And.intro hseq (And.intro hYl (And.intro heg (And.intro q2 z2))))))
  clear f1 z1 k2 f2 hb2 hT hYb hseq hYl heg q2 z2 c0 c1
  gi_wp2_with fail
  obtain ⟨f1, z1, k2⟩ := H.out
  obtain ⟨f2, hYb, hseq, hYl, heg, q2, z2⟩ := K.out
  refine wpIn_rangeF (X := fun _ => False) (Y := Y) (xs := []) (encs := encL) (gf := gf) (lb := lb) (fun pre X1 W => pre = []) (fun _ _ _ _ => False)
    rfl hseq (fun k hk => hk.elim) hYl (by omega) heg (fun _ => rfl)
    (fun s X1 V1 V2 h _ _ => h) (fun c s X1 V1 V2 h => h.elim) rfl ?round ?done (fun _ _ _ _ _ _ _ _ _ _ _ h => h.elim)
  case round =>
    rintro l pre x r X1 V KK rb hl2 hpx hI hG2 hxl hF hlV hK
    simp at hpx
  case done =>
    rintro D X2 V hD hxD hG2 hF _ hdef
    have cc2 := blk_cell (hF.blk q2 fun e => e) 0
    have HQ := Lib.hid (And.intro hD (And.intro hF hdef))
    clear hD hF hdef hxD hG2 f1 z1 k2 f2 hYb hseq hYl heg q2 z2
    gi_wp2_with fail
    obtain ⟨hD, hF, hdef⟩ := HQ.out
    obtain ⟨f1, z1, k2⟩ := H.out
    obtain ⟨f2, hYb, hseq, hYl, heg, q2, z2⟩ := K.out
    refine leaves_one D _ hdef fun w' hf => ⟨_, results_tmp rfl _ _ _, rfl, ?_⟩
    have h3 := ((f1.trans f2).trans hF).below (Nat.le_refl _) fun _ _ e => e.elim
    exact h3.trans (hf.below h3.size fun k _ e => by omega)
end Go.Proofs.YtnoeblnljfnecaaGreatDoor
end
section
/- A region that draws its order, anywhere: what reads, and calls that leave a class of worlds, in whatever order. -/
namespace Go.Proofs.YtnoeblnljfnecaaGreatDoor
open Go

section
variable {F : Fence} {n : Nat} {P : Program}
/-- all of it only reads, or calls what stays in the class -/
theorem wpIn_class_all {C : World → Prop} {id : Nat} {Q : Exit → Act → World → Prop} {a : Act} {w : World} {l : List Oper} (hm : P.follows .mixedOrders = true) (hnd : noDefer l.toArray = true) (hB : Region.lexB .any l.toArray = true) (hC : C w.drew)
    (h : wpQuietIn F n P l.toArray C (fun a' => ∀ w', C w' → Q .normal a' w') l a) : (Code.region id l.toArray true).wpIn F n P Q a w := by
  simp only [Region.lexB, Bool.and_eq_true] at hB
  refine wpIn_region_any hm (wpAnyIn_of_allQ (C := C) (Q := fun a' => ∀ w', C w' → Q .normal a' w') hnd (fun _ w' hw' h => h w' hw') _ _ _ _ hC ?_)
  have := wpAnyQIn_lex (F := F) (n := n) (P := P) (C := C) (md := .any) hB.1 l.toArray.toList 0 (Array.replicate l.toArray.size false) a (by simp) (by simpa using hB.2) (by simpa using h)
  simpa using this
/-- what reads ahead, or calls what stays in the class; what must come last behind it, in its order -/
theorem wpIn_class_tail {C : World → Prop} {id : Nat} {Q : Exit → Act → World → Prop} {a : Act} {w : World} {l : List Oper} (m : Nat) (hm : P.follows .mixedOrders = true) (hnd : noDefer l.toArray = true) (hB : Region.lexTailB .any l.toArray m = true) (hC : C w.drew)
    (h : wpQuietIn F n P l.toArray C (fun a' => ∀ w', C w' → wpListIn F n P l.toArray Q (l.drop m) a' w') (l.take m) a) : (Code.region id l.toArray true).wpIn F n P Q a w := by
  simp only [Region.lexTailB, Bool.and_eq_true, decide_eq_true_eq] at hB
  obtain ⟨⟨⟨⟨hsel, hn⟩, hs⟩, hc⟩, hlex⟩ := hB
  have htl : (l.take m).length = m := by simp at hn ⊢; omega
  have hdl : (l.drop m).length = l.toArray.size - m := by simp
  have inv0 : HeadInv .any l.toArray m (Array.replicate l.toArray.size false) :=
    ⟨by simp, fun j oj _ hl => (by rw [getD_replicate_false] at hl; cases hl), fun t _ ht => getD_in (by simpa using ht) (getD_replicate_false _ _)⟩
  have H := headQ_lex (F := F) (n := n) (P := P) (md := .any) (g := l.toArray.size - m) hsel hs hc hn (l.take m) 0 _ a (fun j hj => by
    have hj' : j < m := by rw [htl] at hj; exact hj
    simp [hj']) (by simpa using htl) inv0 (by rw [htl]; exact hlex) h
  refine wpIn_region_any hm ?_
  have := wpAnyIn_of_headQ (Q' := Q) (g := l.toArray.size - m) hnd (fun listed a' w' hw' hL => by
    have := wpAnyIn_of_seq (F := F) (n := n) (P := P) (md := .any) (Q' := Q) (l.drop m) m listed a' w' (fun j => by simp [List.getElem?_drop]) (by rw [hdl]; exact hL.1) (hL.2 w' hw')
    rwa [hdl] at this) _ _ _ _ hC H
  rw [htl, show m + (l.toArray.size - m) = l.toArray.size by simp at hn ⊢; omega] at this
  exact this
/-- one operation: one value, in every world of the class -/
theorem class_step (hF : ∀ f, F.fn f) {ops : Array Oper} {C : World → Prop} {Q : Act → Prop} {a : Act} {o : Oper} {rest : List Oper} (v : Value) (hw : Region.wanted o (yielded ops a.tmps) = true)
    (h1 : ∀ w, C w → o.quietAtIn F n P a C w v) (h2 : ∀ K : Act → Prop, (∀ a, wpQuietIn F n P ops C Q rest a → K a) → K (a.put o.dst v)) : wpQuietIn F n P ops C Q (o :: rest) a :=
  quiet_step_w hF fun K hK => by
    rw [if_pos hw]
    exact ⟨v, h1, h2 K hK⟩
end
end Go.Proofs.YtnoeblnljfnecaaGreatDoor
end
section
/- Layer 21: the lists: Clear. -/
namespace Go.Proofs.YtnoeblnljfnecaaGreatDoor
set_option linter.unusedVariables false
set_option linter.unusedSimpArgs false
open Go Go.RowKit Go.Maps Go.Lib
attribute [local go_sem] Oper.semAt_some

/-- what is spelled without these of a number's -/
def delsW (T : List (PlK × List UInt8)) (a : Int) (ha : (Lit.int .i64 a).wf = true) (pre : List (List UInt8)) : List (PlK × List UInt8) := pre.foldl (fun T f => if h : f.length ≤ maxLen then delM T ⟨(a, f), ha, h⟩ else T) T
theorem delsW_snoc (T : List (PlK × List UInt8)) (a : Int) (ha : (Lit.int .i64 a).wf = true) (pre : List (List UInt8)) {f : List UInt8} (h : f.length ≤ maxLen) : delsW T a ha (pre ++ [f]) = delM (delsW T a ha pre) ⟨(a, f), ha, h⟩ := by
  unfold delsW
  rw [List.foldl_append, List.foldl_cons, List.foldl_nil, dif_pos h]
theorem delsW_spell (a : Int) (ha : (Lit.int .i64 a).wf = true) : ∀ (pre : List (List UInt8)) (U : List WEnt) (T : List (PlK × List UInt8)), SpellW U T → (∀ f ∈ pre, f.length ≤ maxLen) → SpellW (U.filter fun u => decide (∀ f ∈ pre, fkW u ≠ (a, f))) (delsW T a ha pre)
  | [], U, T, h, _ => by
    rw [List.filter_eq_self.2 (fun u _ => by simp)]
    exact h
  | f :: r, U, T, h, hf => by
    have h1 := h.del ⟨(a, f), ha, hf f (List.mem_cons_self ..)⟩
    have h2 := delsW_spell a ha r _ _ h1 fun g hg => hf g (List.mem_cons_of_mem _ hg)
    have e : delsW T a ha (f :: r) = delsW (delM T ⟨(a, f), ha, hf f (List.mem_cons_self ..)⟩) a ha r := by
      unfold delsW
      rw [List.foldl_cons, dif_pos (hf f (List.mem_cons_self ..))]
    rw [e]
    rw [List.filter_filter] at h2
    refine cast ?_ h2
    congr 1
    refine List.filter_congr fun u _ => ?_
    rw [Bool.eq_iff_iff]
    simp only [Bool.and_eq_true, decide_eq_true_eq, List.mem_cons, forall_eq_or_imp]
    exact And.comm
theorem dels_all {U : List WEnt} {a : Int} {D : List (List UInt8)} (h : ∀ f, f ∈ D ↔ (a, f) ∈ U.map fkW) : (U.filter fun u => decide (∀ f ∈ D, fkW u ≠ (a, f))) = U.filter fun u => decide (u.1 ≠ a) := by
  refine List.filter_congr fun u hu => ?_
  rw [decide_eq_decide]
  constructor
  · intro h1 e
    exact h1 (foldL u.2) ((h _).2 (List.mem_map.2 ⟨u, hu, by unfold fkW; rw [e]⟩)) (by unfold fkW; rw [e])
  · intro h1 f _ e
    exact h1 (Prod.mk.inj e).1
/-- what Clear does -/
def ClrWs (base l : Nat) (Y : Nat → Prop) (most : Int) (U : List WEnt) (a : Int) (w : World) (e : Ending) (w' : World) : Prop :=
  ∃ Y' : Nat → Prop, ∃ D : List (List UInt8), D.Pairwise (· < ·) ∧ (∀ f, f ∈ D ↔ (a, f) ∈ U.map fkW) ∧ e = .returned (.int .i64 (D.length : Nat)) ∧ (∀ j, Y' j → Y j ∨ w.heap.size ≤ j) ∧ Fr Y w w' ∧ WisAt base w' l Y' most (U.filter fun u => decide (u.1 ≠ a))
/-- how far Clear has come -/
def ClrJ (b : Nat) (T : List (PlK × List UInt8)) (a : Int) (ha : (Lit.int .i64 a).wf = true) (pre : List (List UInt8)) (X : Nat → Prop) (W : World) : Prop := OwnMW W b (delsW T a ha pre) ∧ ∀ k, X k ↔ k = b
theorem clrJ_stays (b : Nat) (T : List (PlK × List UInt8)) (a : Int) (ha : (Lit.int .i64 a).wf = true) : Stays (ClrJ b T a ha) := fun pre X V V' ⟨h1, h2⟩ hl hf => ⟨ownMW_same h1 (hf.block b (ownMW_lt h1) fun e => e ((h2 b).2 rfl)), h2⟩
set_option maxRecDepth 100000 in
set_option maxHeartbeats 16000000 in
theorem wisClear {base : Nat} {w : World} {l : Nat} {Y : Nat → Prop} {most : Int} {U : List WEnt} (h : WisAt base w l Y most U) (hbw : base ≤ w.heap.size) (hU : U.length ≤ 80000) {a : Int} (ha : OkKIS a) :
    Calls Tryz.prog 11 #[.pointer (some ⟨l, 0, none⟩), .int .i64 a] w (ClrWs base l Y most U a w) := by
  obtain ⟨t, b, X, T, h1, h2, h3, h4, h5, h6, h7, h8, h9, h10, h11⟩ := h
  have ha2 : (Lit.int .i64 a).wf = true := ha
  obtain ⟨w1, hw1⟩ : ∃ w1, (w.alloc (Obj.cells #[Value.pointer (some ⟨l, 0, none⟩)] 25)).alloc (Obj.cells #[Value.int .i64 a] 3) = w1 := ⟨_, rfl⟩
  have f1 : Fr (fun _ => False) w w1 := by rw [← hw1]; exact ((Fr.refl _ w).alloc _).alloc _
  have z1 : w1.heap.size = w.heap.size + 2 := by rw [← hw1]; simp
  obtain ⟨B, hB⟩ : ∃ B, w.heap.size = B := ⟨_, rfl⟩
  rw [hB] at z1
  have k0 : w1.heap[B]? = some (.cells #[.pointer (some ⟨l, 0, none⟩)] 25 (0, 0)) := by rw [← hw1, ← hB]; exact blk_alloc (heap_alloc_new w _) _
  have k1 : w1.heap[B + 1]? = some (.cells #[.int .i64 a] 3 (0, 0)) := by rw [← hw1, ← hB]; exact heap_alloc2_new w _ _
  have hlB : l < B := by rw [← hB]; exact blk_lt h4
  have hbB : b < B := by rw [← hB]; exact ownMW_lt h6
  have hXl : ∀ j, X j → j < B := fun j hj => by rw [← hB]; exact (h5.lt hj).2
  have r1 := h5.fr f1 fun _ _ e => e
  have kl := f1.blk h4 fun e => e
  have m1 := ownMW_same h6 (f1.block b (ownMW_lt h6) fun e => e)
  obtain ⟨D, d1, d2, d3, d4⟩ := ofAtIS r1 (by simpa using (by omega : U.length ≤ 100000)) ha
  have hDl : D.length ≤ 80000 := by rw [List.length_map] at d3; omega
  have hDk : ∀ f ∈ D, f.length ≤ maxLen ∧ f.length ≤ 1000 := fun f hf => by
    obtain ⟨u, hu, e⟩ := List.mem_map.1 ((d2 f).1 hf)
    have := (h10 u hu).2
    have e2 := (Prod.mk.inj e).2
    rw [← e2, foldL_length]
    unfold maxLen
    omega
  have HBX : Hid (∀ V, Fr (fun _ => False) w1 V → V.cell? ⟨B, 0, none⟩ = some (.pointer (some ⟨l, 0, none⟩)) ∧ V.cell? ⟨B + 1, 0, none⟩ = some (.int .i64 a) ∧ V.heap[l]? = some (.cells #[.pointer (some ⟨t, 0, none⟩), .map (some b)] 62 (0, 0))) := fun V hV => ⟨blk_cell (hV.blk k0 fun e => e) 0, blk_cell (hV.blk k1 fun e => e) 0, hV.blk kl fun e => e⟩
  have HOf := Lib.hid d4
  have HW := Lib.hid hw1
  have HBB := Lib.hid hB
  have H := Lib.hid (And.intro h1 (And.intro h2 (And.intro h3 (And.intro h7 (And.intro h8 (And.intro h9 (And.intro h10 (And.intro h11 (And.intro f1 (And.intro z1 (And.intro k0 (And.intro k1 (And.intro kl (And.intro r1 (And.intro m1 (And.intro d1 (And.intro d2 (And.intro hDk (And.intro hlB (And.intro hbB hXl))))))))))))))))))))
  clear h1 h2 h3 h4 h5 h6 h7 h8 h9 h10 h11 f1 z1 k0 k1 kl r1 m1 d1 d2 d3 d4 hDk hw1 hB hlB hbB hXl
  refine (callsIn_wide (n := 30)).1 ?_
  refine callsIn_of_wp_marks Tryz.func11 rfl trivial ?_ rfl
  simp only [Tryz.ntmps11, List.size_toArray, List.length_cons, List.length_nil, Nat.reduceAdd, Nat.reduceSub, Array.replicate_succ, Array.replicate_zero, List.push_toArray, List.append_toArray, List.nil_append, List.cons_append]
  gi_wp2_with fail
  rw [HW.out, HBB.out]
  refine wpIn_class_tail (C := fun W => Fr (fun _ => False) w1 W) 3 (by kernel_rfl) (by kernel_rfl) (by kernel_rfl) ((Fr.refl (fun _ => False) w1).drew) ?_
  simp only [List.take_succ_cons, List.take_zero, List.drop_succ_cons, List.drop_zero]
  refine quiet_step_w (fun _ => trivial) (fun K hK => ?_)
  go_simp
  refine ⟨.pointer (some ⟨l, 0, none⟩), fun W hW => ?_, hK _ ?_⟩
  · obtain ⟨s0, s1, s2⟩ := HBX.out W hW; go_simp
  clear hK K
  refine quiet_step_w (fun _ => trivial) (fun K hK => ?_)
  go_simp
  refine ⟨.pointer (some ⟨t, 0, none⟩), fun W hW => ?_, hK _ ?_⟩
  · refine (calls_wide (.inl rfl) (wisRel (HBX.out W hW).2.2)).mono ?_
    rintro e W2 ⟨rfl, rfl⟩; exact ⟨rfl, hW⟩
  clear hK K
  refine quiet_step_w (fun _ => trivial) (fun K hK => ?_)
  go_simp
  refine ⟨.int .i64 a, fun W hW => ?_, hK _ ?_⟩
  · obtain ⟨s0, s1, s2⟩ := HBX.out W hW; go_simp
  clear hK K
  refine wpQuietIn_nil ?_
  intro V1 hV1
  have HV1 := Lib.hid hV1
  clear hV1
  gi_wp2_with fail
  refine ⟨trivial, (calls_wide (.inl rfl) (HOf.out V1 HV1.out)).mono ?_⟩
  rintro e w2 ⟨⟨F, rfl, hT⟩, hb2⟩
  have f2 : Fr (fun _ => False) w1 w2 := HV1.out.trans (Fr.of_below hb2)
  obtain ⟨Yt, hYb, gf, lb, rfl, hseq, hYl, heg⟩ := tellsT_tale (show TaleT V1.heap.size w2 F D from hT) (by omega)
  have hz2 := HV1.out.size
  have K := Lib.hid (And.intro f2 (And.intro hYb (And.intro hseq (And.intro hYl (And.intro heg hz2)))))
  clear f2 hb2 hT hYb hseq hYl heg hz2
  gi_wp2_with fail
  obtain ⟨h1, h2, h3, h7, h8, h9, h10, h11, f1, z1, k0, k1, kl, r1, m1, d1, d2, hDk, hlB, hbB, hXl⟩ := H.out
  obtain ⟨f2, hYb, hseq, hYl, heg, hz2⟩ := K.out
  have hz21 := f2.size
  refine wpIn_rangeF (X := fun k => k = b) (Y := Yt) (xs := D) (encs := encL) (gf := gf) (lb := lb) (ClrJ b T a ha2) (fun _ _ _ _ => False)
    rfl hseq (fun k hk => ⟨by omega, fun e => by have := hYb k e; omega⟩) hYl (by omega) heg (fun _ => rfl)
    (clrJ_stays _ _ _ _) (fun c s X1 V1 V2 h => h.elim) ⟨ownMW_same m1 (f2.block b (by omega) fun e => e), fun k => Iff.rfl⟩ ?round ?done (fun _ _ _ _ _ _ _ _ _ _ _ h => h.elim)
  case round =>
    rintro lp pre x r X1 V KK rb hl2 hpx hI hG2 hxl hF hlV hK
    dsimp only [encL]
    have HK := Lib.hid hK
    have HV := Lib.hid (And.intro hpx (And.intro hI (And.intro hG2 (And.intro hxl (And.intro hF (And.intro hlV hl2))))))
    clear hK hpx hI hG2 hxl hF hlV hl2 h1 h2 h3 h7 h8 h9 h10 h11 f1 z1 k0 k1 kl r1 m1 d1 d2 hDk hlB hbB hXl f2 hYb hseq hYl heg hz2 hz21
    gi_wp2_with fail
    refine HK.out _ _ (Fr.refl _ _) fun Vb hfb hzb hsb hrb => ?_
    clear HK KK
    obtain ⟨hpx, ⟨hm, hX1⟩, hG2, hxl, hF, hlV, hl2⟩ := HV.out
    obtain ⟨h1, h2, h3, h7, h8, h9, h10, h11, f1, z1, k0, k1, kl, r1, m1, d1, d2, hDk, hlB, hbB, hXl⟩ := H.out
    obtain ⟨f2, hYb, hseq, hYl, heg, hz2⟩ := K.out
    have hz21 := f2.size
    have hlb : ¬ b = lp := fun e => hxl ((hX1 lp).2 e.symm)
    have hmb := ownMW_same hm (hfb.block b (ownMW_lt hm) hlb)
    have hxk : x.length ≤ maxLen := (hDk x (by rw [← hpx]; simp)).1
    have HBV : Hid (∀ W, Fr (fun _ => False) Vb W → W.cell? ⟨B, 0, none⟩ = some (.pointer (some ⟨l, 0, none⟩)) ∧ W.cell? ⟨B + 1, 0, none⟩ = some (.int .i64 a) ∧ W.heap[l]? = some (.cells #[.pointer (some ⟨t, 0, none⟩), .map (some b)] 62 (0, 0))) := fun W hW => by
      have q0 := hW.blk (hfb.blk (hF.blk (f2.blk k0 fun e => e) (by omega : ¬ B = b)) (by omega : ¬ B = lp)) fun e => e
      have q1 := hW.blk (hfb.blk (hF.blk (f2.blk k1 fun e => e) (by omega : ¬ B + 1 = b)) (by omega : ¬ B + 1 = lp)) fun e => e
      have q2 := hW.blk (hfb.blk (hF.blk (f2.blk kl fun e => e) h3) (by omega : ¬ l = lp)) fun e => e
      exact ⟨blk_cell q0 0, blk_cell q1 0, q2⟩
    have HM : Hid (∀ W, Fr (fun _ => False) Vb W → ∃ w', (Builtin.delete_ #[59, 68] 0 #[.map (some b), .agg #[.int .i64 a, .string (bs x)]]).run Tryz.prog W = .ok (.tuple #[]) w' ∧ OwnMW w' b (delsW T a ha2 (pre ++ [x])) ∧ Fr (fun j => j = b) W w') := fun W hW => by
      rw [delsW_snoc T a ha2 pre hxk]
      exact delW (ownMW_same hmb (hW.block b (ownMW_lt hmb) fun e => e)) ⟨(a, x), ha2, hxk⟩ 0
    have HU := Lib.hid (And.intro hfb (And.intro hzb (And.intro hrb (And.intro hX1 (And.intro hG2 (And.intro hxl (And.intro hlb hbB)))))))
    clear hpx hm hX1 hG2 hxl hF hlV hl2 h1 h2 h3 h7 h8 h9 h10 h11 f1 z1 k0 k1 kl r1 m1 d1 d2 hDk hlB hbB hXl f2 hYb hseq hYl heg hz2 hz21 hlb hmb hxk hfb hzb hsb hrb
    gi_wp2_with fail
    refine wpIn_class_tail (C := fun W => Fr (fun _ => False) Vb W) 7 (by kernel_rfl) (by kernel_rfl) (by kernel_rfl) ((Fr.refl (fun _ => False) Vb).drew) ?_
    simp only [List.take_succ_cons, List.take_zero, List.drop_succ_cons, List.drop_zero]
    refine quiet_step_w (fun _ => trivial) (fun K hK => ?_)
    go_simp
    refine ⟨.pointer (some ⟨l, 0, none⟩), fun W hW => ?_, hK _ ?_⟩
    · obtain ⟨s0, s1, s2⟩ := HBV.out W hW; go_simp
    clear hK K
    refine quiet_step_w (fun _ => trivial) (fun K hK => ?_)
    go_simp
    first | refine ⟨_, fun _ _ => rfl, hK _ ?_⟩ | refine hK _ ?_
    clear hK K
    refine quiet_step_w (fun _ => trivial) (fun K hK => ?_)
    go_simp
    first | refine ⟨_, fun _ _ => rfl, hK _ ?_⟩ | refine hK _ ?_
    clear hK K
    refine quiet_step_w (fun _ => trivial) (fun K hK => ?_)
    go_simp
    refine ⟨.map (some b), fun W hW => ?_, hK _ ?_⟩
    · obtain ⟨s0, s1, s2⟩ := HBV.out W hW; have s3 := blk_cell s2 1; go_simp
    clear hK K
    refine quiet_step_w (fun _ => trivial) (fun K hK => ?_)
    go_simp
    refine ⟨.int .i64 a, fun W hW => ?_, hK _ ?_⟩
    · obtain ⟨s0, s1, s2⟩ := HBV.out W hW; go_simp
    clear hK K
    refine quiet_step_w (fun _ => trivial) (fun K hK => ?_)
    go_simp
    first | refine ⟨_, fun _ _ => rfl, hK _ ?_⟩ | refine hK _ ?_
    clear hK K
    refine quiet_step_w (fun _ => trivial) (fun K hK => ?_)
    go_simp
    first | refine ⟨_, fun _ _ => rfl, hK _ ?_⟩ | refine hK _ ?_
    clear hK K
    refine wpQuietIn_nil ?_
    intro W5 hW5
    obtain ⟨w6, hd6, m6, f6⟩ := HM.out W5 hW5
    have H5 := Lib.hid (And.intro hW5 (And.intro m6 f6))
    clear hW5 m6 f6
    gi_wp2_with fail
    obtain ⟨hW5, m6, f6⟩ := H5.out
    obtain ⟨hfb, hzb, hrb, hX1, hG2, hxl, hlb, hbB⟩ := HU.out
    have hf6 : Fr X1 Vb w6 := (hW5.mono (Y := X1) fun _ _ e => e.elim).trans3 f6 fun k _ e => (hX1 k).2 e
    refine ⟨X1, fun k hk => ⟨Nat.lt_of_lt_of_le (hG2 k hk).1 (Nat.le_trans hfb.size hf6.size), fun _ => hk⟩, (hfb.mono (Y := fun k => k = lp ∨ X1 k) fun k _ e => .inl e).trans3 hf6 fun k _ e => .inr e, hf6.blk hrb hxl, m6, hX1⟩
  case done =>
    rintro Dm X2 V hD hxD hG2 hF ⟨hm, hX2⟩ hdef
    have hFV : Fr (fun k => k = b) w1 V := (f2.mono (Y := fun k => k = b) fun _ _ e => e.elim).trans3 hF fun _ _ e => e
    have hrV := r1.fr hFV fun j hj e => h9 (e ▸ hj)
    have hklV := hFV.blk kl h3
    have HBV : Hid (∀ W, Fr (fun _ => False) V W → W.cell? ⟨B, 0, none⟩ = some (.pointer (some ⟨l, 0, none⟩)) ∧ W.cell? ⟨B + 1, 0, none⟩ = some (.int .i64 a) ∧ W.heap[l]? = some (.cells #[.pointer (some ⟨t, 0, none⟩), .map (some b)] 62 (0, 0))) := fun W hW => by
      have q0 := hW.blk (hFV.blk k0 (by omega : ¬ B = b)) fun e => e
      have q1 := hW.blk (hFV.blk k1 (by omega : ¬ B + 1 = b)) fun e => e
      exact ⟨blk_cell q0 0, blk_cell q1 0, hW.blk hklV fun e => e⟩
    have hok : ∀ p ∈ U.map fkW, OkKSI p.2 := fun p hp => by
      obtain ⟨u, hu, rfl⟩ := List.mem_map.1 hp
      exact okF (h10 u hu).2
    have HDr : Hid (∀ W, Fr (fun _ => False) V W → Calls Tryz.prog 33 #[.pointer (some ⟨t, 0, none⟩), .int .i64 a] W (DropR base t X most (U.map fkW) a W)) := fun W hW => relDrop (hrV.fr hW fun _ _ e => e) (by have := f1.size; have := hFV.size; have := hW.size; omega) (by simpa using (by omega : U.length ≤ 90000)) ha2 hok
    have HQ := Lib.hid (And.intro hD (And.intro hxD (And.intro hFV (And.intro hm (And.intro hX2 (And.intro hdef (And.intro hklV hz21)))))))
    clear hD hxD hG2 hF hm hX2 hdef hFV hrV hklV hok h1 h2 h3 h7 h8 h9 h10 h11 f1 z1 k0 k1 kl r1 m1 d1 d2 hDk hlB hbB hXl f2 hYb hseq hYl heg hz2 hz21
    gi_wp2_with fail
    refine wpIn_class_tail (C := fun W => Fr (fun _ => False) V W) 3 (by kernel_rfl) (by kernel_rfl) (by kernel_rfl) ((Fr.refl (fun _ => False) V).drew) ?_
    simp only [List.take_succ_cons, List.take_zero, List.drop_succ_cons, List.drop_zero]
    refine quiet_step_w (fun _ => trivial) (fun K hK => ?_)
    go_simp
    refine ⟨.pointer (some ⟨l, 0, none⟩), fun W hW => ?_, hK _ ?_⟩
    · obtain ⟨s0, s1, s2⟩ := HBV.out W hW; go_simp
    clear hK K
    refine quiet_step_w (fun _ => trivial) (fun K hK => ?_)
    go_simp
    refine ⟨.pointer (some ⟨t, 0, none⟩), fun W hW => ?_, hK _ ?_⟩
    · refine (calls_wide (.inl rfl) (wisRel (HBV.out W hW).2.2)).mono ?_
      rintro e W2 ⟨rfl, rfl⟩; exact ⟨rfl, hW⟩
    clear hK K
    refine quiet_step_w (fun _ => trivial) (fun K hK => ?_)
    go_simp
    refine ⟨.int .i64 a, fun W hW => ?_, hK _ ?_⟩
    · obtain ⟨s0, s1, s2⟩ := HBV.out W hW; go_simp
    clear hK K
    refine wpQuietIn_nil ?_
    intro W5 hW5
    have H5 := Lib.hid hW5
    clear hW5
    gi_wp2_with fail
    refine ⟨trivial, (calls_wide (.inl rfl) (HDr.out W5 H5.out)).mono ?_⟩
    rintro e W6 ⟨X6, D6, y1, y2, rfl, x6, f6, h6⟩
    have H6 := Lib.hid (And.intro y1 (And.intro y2 (And.intro x6 (And.intro f6 h6))))
    clear y1 y2 x6 f6 h6
    gi_wp2_with fail
    obtain ⟨y1, y2, x6, f6, h6⟩ := H6.out
    obtain ⟨hD, hxD, hFV, hm, hX2, hdef, hklV, hz21⟩ := HQ.out
    obtain ⟨h1, h2, h3, h7, h8, h9, h10, h11, f1, z1, k0, k1, kl, r1, m1, d1, d2, hDk, hlB, hbB, hXl⟩ := H.out
    have hB := HBB.out
    have hzV := hFV.size
    have hz5 := H5.out.size
    have hDX : ¬ X Dm := fun e => by have := hXl _ e; omega
    have fV6 : Fr X V W6 := (H5.out.mono (Y := X) fun _ _ e => e.elim).trans3 f6 fun _ _ e => e
    have hd6 := fV6.blk hdef hDX
    refine leaves_one Dm _ hd6 fun w' hf => ⟨_, results_tmp rfl _ _ _, fun j => j = l ∨ j = b ∨ X6 j, D6, y1, y2, rfl, fun j hj => ?_, ?_, ?_⟩
    · rcases hj with rfl | rfl | hj
      · exact .inl ((h11 _).2 (.inl rfl))
      · exact .inl ((h11 _).2 (.inr (.inl rfl)))
      · rcases x6 j hj with e | e
        · exact .inl ((h11 _).2 (.inr (.inr e)))
        · exact .inr (by omega)
    · exact (((f1.mono (Y := Y) fun _ _ e => e.elim).trans3 hFV fun k _ e => (h11 k).2 (.inr (.inl e))).trans3 fV6 fun k _ e => (h11 k).2 (.inr (.inr e))).trans3 hf fun k hk e => by omega
    · have nl : ¬ X6 l := fun e => by rcases x6 l e with e | e; exact h8 e; omega
      have nb : ¬ X6 b := fun e => by rcases x6 b e with e | e; exact h9 e; omega
      have hsp := delsW_spell a ha2 D U T h7 fun f hf => (hDk f hf).1
      rw [dels_all d2] at hsp
      refine ⟨t, b, X6, _, h1, h2, h3, hf.blk (fV6.blk hklV h8) (by omega), ?_, ownMW_same hm ?_, hsp, nl, nb, fun u hu => h10 u (List.mem_filter.1 hu).1, fun j => Iff.rfl⟩
      · rw [fk_drop]
        exact h6.fr hf fun j hj e => by rcases x6 j hj with e2 | e2; exact hDX (e ▸ e2); have := (fV6.blk hdef hDX); have := blk_lt hdef; omega
      · exact (hf.block b (by have := fV6.size; omega) (by omega)).trans (fV6.block b (by omega) h9)
end Go.Proofs.YtnoeblnljfnecaaGreatDoor
end
section
/- Layer 21: the document's lists: Add, Remove, Clear. -/
namespace Go.Proofs.YtnoeblnljfnecaaGreatDoor
set_option linter.unusedVariables false
set_option linter.unusedSimpArgs false
open Go Go.RowKit Go.Maps Go.Sort Go.Shelf Go.Lib

/-- the document's lists; the row lies from nb on -/
def RefNW (nb : Nat) (w : World) (x : Nat) (most : Int) (U : List WEnt) : Prop := ∃ A c, w.heap[x]? = some (.cells #[.int .i64 most, .slice A U.length c] 30 (0, 0)) ∧ OwnWR nb w (.slice A U.length c) U ∧ (Value.slice A U.length c).ownBlock ≠ some x
/-- what a step of the document's leaves -/
def StepW (x : Nat) (most : Int) (U U' : List WEnt) (w w' : World) : Prop := (U' = U ∧ Fr (fun _ => False) w w') ∨ (RefNW w.heap.size w' x most U' ∧ Fr (fun j => j = x) w w')
theorem StepW.fr {x : Nat} {most : Int} {U U' : List WEnt} {w w' : World} (h : StepW x most U U' w w') : Fr (fun j => j = x) w w' := by
  rcases h with ⟨_, h⟩ | ⟨_, h⟩
  · exact h.mono fun _ _ e => e.elim
  · exact h
theorem StepW.wr {base x : Nat} {most : Int} {U U' : List WEnt} {w w' : World} (h : StepW x most U U' w w') (h0 : RefWR base w x most U) : RefWR 0 w' x most U' := by
  rcases h with ⟨rfl, h⟩ | ⟨⟨A, c, h1, h2, h3⟩, _⟩
  · obtain ⟨_, A, c, h1, h2, h3⟩ := refWR_fr h0 h fun _ _ _ e => e
    exact ⟨Nat.zero_le _, A, c, h1, row_baseP h2 (Nat.zero_le _), h3⟩
  · exact ⟨Nat.zero_le _, A, c, h1, row_baseP h2 (Nat.zero_le _), h3⟩
theorem StepW.trans {x : Nat} {most : Int} {U U1 U2 : List WEnt} {w w1 w2 : World} (h : StepW x most U U1 w w1) (k : StepW x most U1 U2 w1 w2) (hx : x < w.heap.size) : StepW x most U U2 w w2 := by
  have fz := h.fr.size
  rcases k with ⟨rfl, k⟩ | ⟨⟨A, c, k1, k2, k3⟩, k4⟩
  · rcases h with ⟨rfl, h⟩ | ⟨⟨A, c, h1, h2, h3⟩, h4⟩
    · exact .inl ⟨rfl, h.trans k⟩
    · exact .inr ⟨⟨A, c, k.blk h1 fun e => e, ownWR_kept h2 fun g hg => k.block g (h2.lt g hg).2 fun e => e, h3⟩, h4.trans3 k fun _ _ e => e.elim⟩
  · exact .inr ⟨⟨A, c, k1, row_baseP k2 fz, k3⟩, h.fr.trans k4⟩
theorem fk_cut {U : List WEnt} (hn : (U.map fkW).Nodup) {i : Nat} (hi : i < U.length) {k : Int × List UInt8} (h : fkW U[i] = k) : (U.filter fun u => decide (fkW u ≠ k)) = U.take i ++ U.drop (i + 1) := by
  have hsp : U = U.take i ++ U[i] :: U.drop (i + 1) := by rw [← List.drop_eq_getElem_cons hi, List.take_append_drop]
  have hn2 := hn
  rw [hsp, List.map_append, List.map_cons, List.nodup_append, List.nodup_cons] at hn2
  obtain ⟨_, ⟨n2, _⟩, n3⟩ := hn2
  conv => lhs; rw [hsp]
  rw [List.filter_append, List.filter_cons_of_neg (by simp [h])]
  congr 1
  · refine List.filter_eq_self.2 fun u hu => ?_
    rw [decide_eq_true_eq, ← h]
    exact n3 _ (List.mem_map_of_mem hu) _ (by simp)
  · refine List.filter_eq_self.2 fun u hu => ?_
    rw [decide_eq_true_eq, ← h]
    intro e
    exact n2 (e ▸ List.mem_map_of_mem hu)
theorem slice_itemsW (g o n c : Nat) (hc : n ≤ c) (i : Nat) (hi : i < n) :
    (∀ W, (Instr.slice 28 (.slice (some ⟨g, o, none⟩) n c) none (some (.int .i64 i)) none).run Tryz.prog W = .ok (.slice (some ⟨g, o, none⟩) i c) W) ∧
    ∃ g1 o1, (∀ W, (Instr.slice 28 (.slice (some ⟨g, o, none⟩) n c) (some (.int .i64 ((i : Int) + 1))) none none).run Tryz.prog W = .ok (.slice (some ⟨g1, o1, none⟩) (n - (i + 1)) (c - (i + 1))) W) ∧ (i + 1 < n → g1 = g ∧ o1 = o + (i + 1) * 2) := by
  have hu : Tryz.prog.underlying 28 = some (.slice (Tryz.prog.elem 28)) := by kernel_rfl
  obtain ⟨i0, hi0, _, hz1, _⟩ := info_parts Tryz.infoWR
  have ht : ((i : Int) + 1).toNat = i + 1 := by omega
  refine ⟨fun W => ?_, ?_⟩
  · rw [run_slice_h W 28 _ _ _ hu _ _ (by omega) (by omega)]
    have h3 : ¬ (c = 0) := by omega
    simp [sliced, sizeOf, hi0, hz1, go_sem, h3, add_anyW, typeInfo]
  · by_cases h1 : c = i + 1
    · refine ⟨g, o, fun W => ?_, fun h2 => by omega⟩
      rw [run_slice_l W 28 _ _ _ hu _ _ (by omega) (by omega)]
      simp [sliced, sizeOf, hi0, hz1, go_sem, h1, ht, typeInfo]
    · refine ⟨g, o + (i + 1) * 2, fun W => ?_, fun h2 => ⟨rfl, rfl⟩⟩
      rw [run_slice_l W 28 _ _ _ hu _ _ (by omega) (by omega)]
      have h2 : ¬ c - (i + 1) = 0 := by omega
      simp [sliced, sizeOf, hi0, hz1, go_sem, h1, h2, ht, add_anyW, typeInfo]
theorem del_runsW {base : Nat} {w : World} {A : Option Addr} {c : Nat} {T : List WEnt} (h3 : OwnWR base w (.slice A T.length c) T) {i : Nat} (hi : i < T.length) (hl : T.length ≤ 1000000) :
    ∃ g g1 o1 A1 c1 A2 c2 W2 W3, A = some ⟨g, 0, none⟩ ∧ T.length ≤ c ∧
      (∀ W, (Instr.slice 28 (.slice (some ⟨g, 0, none⟩) T.length c) none (some (.int .i64 i)) none).run Tryz.prog W = .ok (.slice (some ⟨g, 0, none⟩) i c) W) ∧
      (∀ W, (Instr.slice 28 (.slice (some ⟨g, 0, none⟩) T.length c) (some (.int .i64 ((i : Int) + 1))) none none).run Tryz.prog W = .ok (.slice (some ⟨g1, o1, none⟩) (T.length - (i + 1)) (c - (i + 1))) W) ∧
      (Builtin.append_ #[28, 28] 28 #[.slice (some ⟨w.heap.size, 0, none⟩) 0 0, .slice (some ⟨g, 0, none⟩) i c]).run Tryz.prog (w.drew.alloc (.cells #[] 73)) = .ok (.slice A1 i c1) W2 ∧
      (Builtin.append_ #[28, 28] 28 #[.slice A1 i c1, .slice (some ⟨g1, o1, none⟩) (T.length - (i + 1)) (c - (i + 1))]).run Tryz.prog W2 = .ok (.slice A2 (T.take i ++ T.drop (i + 1)).length c2) W3 ∧
      OwnWR w.heap.size W3 (.slice A2 (T.take i ++ T.drop (i + 1)).length c2) (T.take i ++ T.drop (i + 1)) ∧ Fr (fun _ => False) w W2 ∧ Fr (fun _ => False) w W3 := by
  obtain ⟨i0, hi0, hz0, hz1, hz2⟩ := info_parts Tryz.infoWR
  have h3' := h3
  rcases h3.2 with ⟨_, hn⟩ | ⟨g, cap, cur, hv, hbg, hg, hnc, hcm, hcs, htake⟩
  · omega
  injection hv with q1 q2 q3
  subst q1
  subst q3
  obtain ⟨hs1, g1, o1, hs2, hg1⟩ := slice_itemsW g 0 T.length c hnc i hi
  obtain ⟨W1, hW1⟩ : ∃ W1, w.drew.alloc (.cells #[] 73) = W1 := ⟨_, rfl⟩
  have f1 : Fr (fun _ => False) w W1 := by rw [← hW1]; exact (Fr.refl _ w).drew.alloc _
  have z1 : W1.heap.size = w.heap.size + 1 := by rw [← hW1]; simp
  have kN : W1.heap[w.heap.size]? = some (.cells #[] 73 (0, 0)) := by rw [← hW1]; exact heap_alloc_new w.drew _
  have hown : W1.ownsRow w.heap.size 73 2 (.slice (some ⟨w.heap.size, 0, none⟩) 0 0) 0 [] := ⟨by simp, .inr ⟨w.heap.size, 0, #[], rfl, Nat.le_refl _, kN, by simp, by decide, by simp, by simp⟩⟩
  have hgl : g < w.heap.size := blk_lt hg
  have hcell : ∀ (W : World), Fr (fun _ => False) w W → ∀ j u, (T.flatMap encWR)[j]? = some u → W.cell? ⟨g, 0 + j, none⟩ = some u := fun W hf j u hu => by
    rw [hf.cell (p := ⟨g, 0 + j, none⟩) hgl (fun e => e)]
    have := h3'.cells (g := g) rfl j u hu
    rwa [add_anyW] at this
  have hsp1 : T.flatMap encWR = (T.take i).flatMap encWR ++ (T.drop i).flatMap encWR := by rw [← List.flatMap_append, List.take_append_drop]
  have hsp2 : T.flatMap encWR = (T.take (i + 1)).flatMap encWR ++ (T.drop (i + 1)).flatMap encWR := by rw [← List.flatMap_append, List.take_append_drop]
  have l1 : ((T.take i).flatMap encWR).length = i * 2 := by rw [encWR_len, List.length_take]; omega
  have l2 : ((T.take (i + 1)).flatMap encWR).length = (i + 1) * 2 := by rw [encWR_len, List.length_take]; omega
  have l3 : ((T.drop (i + 1)).flatMap encWR).length = (T.length - (i + 1)) * 2 := by rw [encWR_len, List.length_drop]
  have src1 : Src Tryz.prog 2 28 (.slice (some ⟨g, 0, none⟩) i c) i ((T.take i).flatMap encWR) W1 :=
    Src.ofSlice W1 Tryz.underlying28 ⟨g, 0, none⟩ i c _ l1 (fun j u hu => by
      rw [add_anyW]
      refine hcell W1 f1 j u ?_
      rw [hsp1, List.getElem?_append_left (by have := (List.getElem?_eq_some_iff.1 hu).1; omega)]
      exact hu) (encWR_one _)
  obtain ⟨v1, W2, hr1, r1, r2, r3⟩ := run_app_any (P := Tryz.prog) W1 w.heap.size 28 28 28 73 i0 _ 2 24 Tryz.underlying28 hi0 hz0 hz1 hz2 rfl _ 0 [] hown _ i _ src1 (by unfold maxLen; omega) (by omega) (by omega)
  obtain ⟨A1, c1, rfl⟩ := row_slice r1
  rw [Nat.zero_add, List.nil_append] at r1
  rw [Nat.zero_add] at hr1 r3
  have f2 : Fr (fun _ => False) w W2 := f1.trans3 r2 fun k hk e => by have : w.heap.size = k := Option.some.inj e; omega
  have src2 : Src Tryz.prog 2 28 (.slice (some ⟨g1, o1, none⟩) (T.length - (i + 1)) (c - (i + 1))) (T.length - (i + 1)) ((T.drop (i + 1)).flatMap encWR) W2 :=
    Src.ofSlice W2 Tryz.underlying28 ⟨g1, o1, none⟩ _ _ _ l3 (fun j u hu => by
      have hj := (List.getElem?_eq_some_iff.1 hu).1
      obtain ⟨rfl, rfl⟩ := hg1 (by omega)
      rw [add_anyW]
      have := hcell W2 f2 ((i + 1) * 2 + j) u (by rw [hsp2, List.getElem?_append_right (by omega), l2, Nat.add_sub_cancel_left]; exact hu)
      rwa [← Nat.add_assoc] at this) (encWR_one _)
  have hz2' := r2.size
  obtain ⟨v2, W3, hr2, s1, s2, s3⟩ := run_app_any (P := Tryz.prog) W2 w.heap.size 28 28 28 73 i0 _ 2 24 Tryz.underlying28 hi0 hz0 hz1 hz2 rfl _ i _ r1 _ (T.length - (i + 1)) _ src2 (by unfold maxLen; omega) (by omega) (by omega)
  obtain ⟨A2, c2, rfl⟩ := row_slice s1
  have hlen : (T.take i ++ T.drop (i + 1)).length = i + (T.length - (i + 1)) := by rw [List.length_append, List.length_take, List.length_drop]; omega
  have hfm : (T.take i ++ T.drop (i + 1)).flatMap encWR = (T.take i).flatMap encWR ++ (T.drop (i + 1)).flatMap encWR := List.flatMap_append
  refine ⟨g, g1, o1, A1, c1, A2, c2, W2, W3, rfl, hnc, hs1, hs2, hW1 ▸ hr1, by rw [hlen]; exact hr2, ?_, f2, ?_⟩
  · rw [hlen]
    exact ownWR_of s1 hlen.symm hfm.symm
  · exact f2.trans3 s2 fun k hk e => by
      rcases r3 k e with e2 | e2
      · have : w.heap.size = k := Option.some.inj e2; omega
      · omega
/-- Of, of names that are known -/
theorem refw_ofD {base : Nat} {w : World} {x : Nat} {most : Int} {U : List WEnt} (h : RefWR base w x most U) (hlen : U.length ≤ 900000) (hok : OkW U) (hnd : (U.map fkW).Nodup) {a : Int} {D : List (List UInt8)} (hD : NamesW U a D) :
    Calls Tryz.prog 21 #[.pointer (some ⟨x, 0, none⟩), .int .i64 a] w (NmsW D w) := (refw_of h hlen hok hnd a).mono fun e W' ⟨ns, h1, h2⟩ => by
  rw [names_one hnd hD h1]; exact h2
/-- what the document's Add leaves -/
def AddWR (x : Nat) (most : Int) (U : List WEnt) (a : Int) (n : List UInt8) (D : List (List UInt8)) (w : World) (e : Ending) (w' : World) : Prop :=
  ∃ c U', e = .returned (.int .i64 c) ∧ StepW x most U U' w w' ∧ (U' = U ∧ (c = 6 ∧ (a, foldL n) ∈ U.map fkW ∨ c = 7 ∧ (a, foldL n) ∉ U.map fkW ∧ most ≤ (D.length : Int)) ∨ U' = U ++ [(a, n)] ∧ c = 0 ∧ (a, foldL n) ∉ U.map fkW ∧ (D.length : Int) < most)
set_option maxRecDepth 100000 in
set_option maxHeartbeats 16000000 in
theorem refw_add {base : Nat} {w : World} {x : Nat} {most : Int} {U : List WEnt} (h : RefWR base w x most U) (hb : base ≤ w.heap.size) (hl : U.length ≤ 900000) (hok : OkW U) (hnd : (U.map fkW).Nodup) {a : Int} {n : List UInt8} (hn : n.length ≤ 1000) {D : List (List UInt8)} (hD : NamesW U a D) :
    Calls Tryz.prog 14 #[.pointer (some ⟨x, 0, none⟩), .int .i64 a, .string (bs n)] w (AddWR x most U a n D w) := by
  obtain ⟨i0, hi0, hz0, hz1, hz2⟩ := info_parts Tryz.infoWR
  have mixed : Tryz.prog.follows Departure.mixedOrders = true := by kernel_rfl
  have HH := Lib.hid h
  have HAt := Lib.hid (refw_at h (by omega) hok a hn)
  have HOf : Hid (∀ V : World, Fr (fun _ => False) w V → Calls Tryz.prog 21 #[.pointer (some ⟨x, 0, none⟩), .int .i64 a] V (NmsW D V)) := fun V hV => refw_ofD (refWR_fr h hV fun _ _ _ e => e) (by omega) hok hnd hD
  obtain ⟨h0, A, c, h2, h3, h4⟩ := h
  have HCX : Hid (∀ V, Fr (fun _ => False) w V → V.cell? ⟨x, 0, none⟩ = some (.int .i64 most)) := fun V hV => (blk_cell (hV.blk h2 fun e => e) 0).trans rfl
  clear h2 h3 h4 hD hok hnd
  obtain ⟨R, hR⟩ : ∃ R, AddWR x most U a n D w = R := ⟨_, rfl⟩
  have HR := Lib.hid hR
  rw [hR]
  clear hR
  go_enter Tryz.func14, Tryz.ntmps14
  go_wp2_with fail
  refine HAt.out.mono ?_
  rintro e w1 ⟨⟨k, rfl, hk⟩, b1⟩
  have F1 : Hid (Fr (fun _ => False) w w1) := Fr.of_below b1
  clear b1
  rcases hk with ⟨i, hi, rfl, e1, _⟩ | ⟨rfl, hno⟩
  · have q1 : (i : Int) ≥ 0 := by omega
    have hm : Hid ((a, foldL n) ∈ U.map fkW) := by rw [← e1]; exact List.mem_map_of_mem (List.getElem_mem hi)
    clear e1
    go_wp2_with fail
    rw [← HR.out]
    exact ⟨6, U, rfl, .inl ⟨rfl, F1.out⟩, .inl ⟨rfl, .inl ⟨rfl, hm.out⟩⟩⟩
  · have hnot := Lib.hid hno
    have cx1 := HCX.out w1.drew F1.out.drew
    clear hno
    go_wp2_with fail
    go_region_with_o (refine (HOf.out _ F1.out.drew).mono ?_; rintro e w2 ⟨⟨A2, c2, rfl, o2⟩, b2⟩; have f2 : Fr (fun _ => False) w w2 := F1.out.drew.trans (Fr.of_below b2); have cx2 := HCX.out w2 f2; have F2 := Lib.hid f2; clear o2 b2 f2)
    all_goals
      by_cases hfull : most ≤ (D.length : Int)
      · have q1 : decide (most ≤ (D.length : Int)) = true := decide_eq_true hfull
        have q2 : (D.length : Int) ≥ most := hfull
        go_wp2_with fail
        rw [← HR.out]
        exact ⟨7, U, rfl, .inl ⟨rfl, F2.out⟩, .inl ⟨rfl, .inr ⟨rfl, hnot.out, hfull⟩⟩⟩
      · have q1 : decide (most ≤ (D.length : Int)) = false := decide_eq_false hfull
        have q2 : ¬ (D.length : Int) ≥ most := hfull
        have cx0 : True := trivial
        have h9 := refWR_fr HH.out F2.out fun _ _ _ e => e
        have hb9 := F2.out.size
        obtain ⟨_, A, c, h2, h3, h4⟩ := h9
        have kN := heap_alloc_new w2 (.cells #[] 73)
        have kx := blk_alloc h2 (.cells #[] 73)
        have d1 := blk_cell kx 1
        have hxw1 : x < w2.heap.size := blk_lt h2
        have H3 := Lib.hid (And.intro h3 h4)
        clear h2 h3 h4 cx0 cx2
        go_wp2_with (at_builtin; refine Hid.out ?_)
        refine Lib.hid ?_
        obtain ⟨W2, hW2⟩ : ∃ W2, w2.alloc (.cells #[] 73) = W2 := ⟨_, rfl⟩
        have f2 : Fr (fun _ => False) w2 W2 := by rw [← hW2]; exact (Fr.refl _ _).alloc _
        have z2 : W2.heap.size = w2.heap.size + 1 := by rw [← hW2]; simp
        obtain ⟨h3, h4⟩ := H3.out
        have o2 : OwnWR base W2 (.slice A U.length c) U := ownWR_kept h3 fun g hg => f2.block g (h3.lt g hg).2 fun e => e
        rw [hW2] at kN kx ⊢
        have hown : W2.ownsRow w2.heap.size 73 2 (.slice (some ⟨w2.heap.size, 0, none⟩) 0 0) 0 [] := ⟨by simp, .inr ⟨w2.heap.size, 0, #[], rfl, Nat.le_refl _, kN, by simp, by decide, by simp, by simp⟩⟩
        refine wpList_app_u rfl _ _ 28 28 rfl w2.heap.size 73 i0 _ 2 24 Tryz.underlying28 hi0 hz0 hz1 hz2 rfl _ 0 [] rfl hown (.slice A U.length c) U.length (U.flatMap encWR) rfl (srcWR o2) (by omega) (by decide) (by omega) ?_
        intro v3 W3 o3 f3 t3
        obtain ⟨A3, c3, ev3⟩ := row_slice o3
        subst ev3
        rw [Nat.zero_add, List.nil_append] at o3
        rw [Nat.zero_add] at t3 ⊢
        have k3 := f3.blk kx (fun e => by have : w2.heap.size = x := Option.some.inj e; omega)
        have hz3 := f3.size
        have t3' : ∀ j, (Value.slice A3 U.length c3).ownBlock = some j → w2.heap.size ≤ j := fun j hj => by
          rcases t3 j hj with e | e
          · have : w2.heap.size = j := Option.some.inj e; omega
          · omega
        have H3 := Lib.hid (And.intro o3 (And.intro f2 (And.intro f3 t3')))
        clear hW2 o2 hown f3 t3 t3' d1 kN kx h3 h4 o3 f2
        go_wp2_with (at_builtin; refine Hid.out ?_)
        refine Lib.hid ?_
        refine wpList_one_t rfl _ _ 28 rfl w2.heap.size 73 i0 _ 2 24 Tryz.underlying28 hi0 hz0 hz1 hz2 rfl (by decide) _ U.length (U.flatMap encWR) rfl H3.out.1 #[.int .i64 a, .string (bs n)] W3.heap.size rfl rfl rfl (by intro u hu; simp at hu; rcases hu with rfl | rfl <;> rfl) (by omega) (by decide) (by omega) ?_
        intro v4 W4 o4 f4 t4
        obtain ⟨A4, c4, ev4⟩ := row_slice o4
        subst ev4
        obtain ⟨o3, f2, f3, t3'⟩ := H3.out
        have hlen : (U ++ [((a, n) : WEnt)]).length = U.length + 1 := by simp
        have o4' : OwnWR w2.heap.size W4 (.slice A4 (U.length + 1) c4) (U ++ [(a, n)]) := ownWR_of o4 hlen.symm (by rw [List.flatMap_append]; simp [encWR])
        have k4 := f4.blk k3 (fun e => by have := t3' x e; omega)
        have h4x : ∀ j, (Value.slice A4 (U.length + 1) c4).ownBlock = some j → w2.heap.size ≤ j := fun j hj => (o4'.lt j hj).1
        have fall : Fr (fun j => j = x) w2 W4 := ((f2.mono (Y := fun j => j = x) fun _ _ e => e.elim).trans3 f3 fun j hj e => by have : w2.heap.size = j := Option.some.inj e; omega).trans3 f4 fun j hj e => by have := t3' j e; omega
        have d4 := blk_cell k4 1
        have g4 := blk_free k4 1
        have H4 := Lib.hid (And.intro o4' (And.intro k4 (And.intro h4x fall)))
        clear o4 o4' t4 f4 o3 f2 f3 t3' h4x fall k4 k3 H3
        go_wp2_with fail
        rw [← HR.out]
        obtain ⟨o4', k4, h4x, fall⟩ := H4.out
        have hne : ∀ j, (Value.slice A4 (U.length + 1) c4).ownBlock = some j → j ≠ x := fun j hj e => by have := h4x j hj; omega
        refine ⟨0, U ++ [(a, n)], rfl, .inr ⟨?_, Fr.setCell (X := fun j => j = x) ((F2.out.mono (Y := fun j => j = x) fun _ _ e => e.elim).trans fall) ⟨x, 1, none⟩ rfl _⟩, .inr ⟨rfl, rfl, hnot.out, by omega⟩⟩
        refine ⟨A4, c4, ?_, ?_, ?_⟩
        · rw [hlen]
          exact (blk_set k4 1 _).trans rfl
        · rw [hlen]
          exact row_baseP (ownWR_kept o4' fun j hj => heap_setCell_other W4 _ j _ fun e => hne j hj (by simpa using e)) hb9
        · rw [hlen]
          exact fun e => hne x e rfl
/-- what the document's Remove leaves -/
def RemWR (x : Nat) (most : Int) (U : List WEnt) (a : Int) (f : List UInt8) (w : World) (e : Ending) (w' : World) : Prop := e = .returned (.bool (decide ((a, f) ∈ U.map fkW))) ∧ StepW x most U (U.filter fun u => decide (fkW u ≠ (a, f))) w w'
set_option maxRecDepth 100000 in
set_option maxHeartbeats 16000000 in
theorem refw_rem {base : Nat} {w : World} {x : Nat} {most : Int} {U : List WEnt} (h : RefWR base w x most U) (hl : U.length ≤ 900000) (hok : OkW U) (hnd : (U.map fkW).Nodup) (a : Int) {n : List UInt8} (hn : n.length ≤ 1000) :
    Calls Tryz.prog 10 #[.pointer (some ⟨x, 0, none⟩), .int .i64 a, .string (bs n)] w (RemWR x most U a (foldL n) w) := by
  have HAt := Lib.hid (refw_at h (by omega) hok a hn)
  have HH := Lib.hid (And.intro h hnd)
  clear h hok hnd
  obtain ⟨f, hf⟩ : ∃ f, foldL n = f := ⟨_, rfl⟩
  rw [hf] at HAt ⊢
  clear hf
  go_enter Tryz.func10, Tryz.ntmps10
  go_wp2_with fail
  refine HAt.out.mono ?_
  rintro e w' ⟨⟨k, rfl, hk⟩, b1⟩
  have F1 : Hid (Fr (fun _ => False) w w') := Fr.of_below b1
  clear b1
  rcases hk with ⟨i, hi, rfl, e1, _⟩ | ⟨rfl, hno⟩
  · have hcut := fk_cut HH.out.2 hi e1
    have hm : (a, f) ∈ U.map fkW := by rw [← e1]; exact List.mem_map_of_mem (List.getElem_mem hi)
    have HL := Lib.hid (And.intro hcut hm)
    obtain ⟨h0, A, c, h2, h3, h4⟩ := refWR_fr HH.out.1 F1.out fun _ _ _ e => e
    obtain ⟨g, g1, o1, A1, c1, A2, c2, W2, W3, rfl, hnc, hs1, hs2, hr1, hr2, ho, f2, f3⟩ := del_runsW h3 hi (by omega)
    have k1 := blk_alloc (blk_drew h2) (.cells #[] 73)
    have d0 := blk_cell (blk_drew h2) 1
    have d1 := blk_cell k1 1
    have k2 := f2.blk h2 fun e => e
    have d2 := blk_cell k2 1
    have k3 := f3.blk h2 fun e => e
    have d3 := blk_cell k3 1
    have g3 := blk_free k3 1
    have hp1 : ¬ ((i : Int) < 0) := by omega
    have hxl := blk_lt h2
    have HK := Lib.hid (And.intro k3 (And.intro ho (And.intro f3 hxl)))
    have hlt : IntKind.i64.wrap ((i : Int) + 1) = (i : Int) + 1 := IntWalk.i64_in _ ⟨by omega, by omega⟩
    have e1 : (Sem.run Tryz.prog (Builtin.append_ #[28, 28] 28 #[.slice (some ⟨w'.heap.size, 0, none⟩) 0 0, .slice (some ⟨g, 0, none⟩) i c]) (w'.alloc (.cells #[] 73)).drew).andThen (fun a w' => Result.ok (Next.value a) w') = .ok (.value (.slice A1 i c1)) W2 := by
      have e0 : (w'.alloc (.cells #[] 73)).drew = w'.drew.alloc (.cells #[] 73) := rfl
      rw [e0, hr1]; rfl
    have e2 : (Sem.run Tryz.prog (Builtin.append_ #[28, 28] 28 #[.slice A1 i c1, .slice (some ⟨g1, o1, none⟩) (U.length - (i + 1)) (c - (i + 1))]) W2).andThen (fun a w' => Result.ok (Next.value a) w') = .ok (.value (.slice A2 (U.take i ++ U.drop (i + 1)).length c2)) W3 := by rw [hr2]; rfl
    obtain ⟨W1, hW1⟩ : ∃ W1, (w'.alloc (.cells #[] 73)).drew = W1 := ⟨_, rfl⟩
    have hr1 : (Builtin.append_ #[28, 28] 28 #[.slice (some ⟨w'.heap.size, 0, none⟩) 0 0, .slice (some ⟨g, 0, none⟩) i c]).run Tryz.prog W1 = .ok (.slice A1 i c1) W2 := by rw [← hW1]; exact hr1
    have d1 : W1.cell? ⟨x, 1, none⟩ = #[Value.int .i64 most, Value.slice (some ⟨g, 0, none⟩) U.length c][1]? := by rw [← hW1]; exact d1
    have HW := Lib.hid hW1
    clear hW1
    obtain ⟨m, hm⟩ : ∃ m, U.length - (i + 1) = m := ⟨_, rfl⟩
    obtain ⟨m2, hm2⟩ : ∃ m2, c - (i + 1) = m2 := ⟨_, rfl⟩
    obtain ⟨m3, hm3⟩ : ∃ m3, (U.take i ++ U.drop (i + 1)).length = m3 := ⟨_, rfl⟩
    rw [hm, hm2] at hs2 e2 hr2
    rw [hm3] at e2 hr2
    have HM := Lib.hid hm3
    clear hm hm2 hm3 k1 k2 k3 ho f2 f3 h2 h3 h4 hcut hxl
    go_wp2_with fail
    clear e1 e2
    refine wp_region_z (S := fun V => V.cell? ⟨x, 1, none⟩ = some (.slice (some ⟨g, 0, none⟩) U.length c)) (z := 19) (by kernel_rfl) (by exact d0) (fun hHeld => ?_)
    refine wpAnyZ_read (i := 0) (oi := { dst := some 14, op := Go.Op.move (Go.Operand.tmp 0), type := 27, pos := "ref.go:81", after := #[], guard := none }) ?_ rfl (by kernel_rfl) (by kernel_rfl) (by kernel_rfl) (by kernel_rfl) (fun _ _ _ h => h) (by rfl) (by assumption) ?_ ?_
    rotate_left
    · (intro w0 hS0; go_simp <;> (try with_reducible rfl))
    try simp only [Act.put, List.setIfInBounds_toArray, List.set_cons_zero, List.set_cons_succ]
    refine wpAnyZ_read (i := 2) (oi := { dst := some 16, op := Go.Op.move (Go.Operand.tmp 0), type := 27, pos := "ref.go:81", after := #[], guard := none }) ?_ rfl (by kernel_rfl) (by kernel_rfl) (by kernel_rfl) (by kernel_rfl) (fun _ _ _ h => h) (by rfl) (by assumption) ?_ ?_
    rotate_left
    · (intro w0 hS0; go_simp <;> (try with_reducible rfl))
    try simp only [Act.put, List.setIfInBounds_toArray, List.set_cons_zero, List.set_cons_succ]
    refine wpAnyZ_read (i := 3) (oi := { dst := some 17, op := Go.Op.nilCheck (Go.Operand.tmp 16), type := 0, pos := "ref.go:81", after := #[{ on := 2, ground := Go.Ground.data }], guard := none }) ?_ rfl (by kernel_rfl) (by kernel_rfl) (by kernel_rfl) (by kernel_rfl) (fun _ _ _ h => h) (by rfl) (by assumption) ?_ ?_
    rotate_left
    · (intro w0 hS0; go_simp <;> (try with_reducible rfl))
    try simp only [Act.put, List.setIfInBounds_toArray, List.set_cons_zero, List.set_cons_succ]
    refine wpAnyZ_read (i := 4) (oi := { dst := some 18, op := Go.Op.fieldAddr 30 (Go.Operand.tmp 17) 1, type := 0, pos := "ref.go:81", after := #[{ on := 3, ground := Go.Ground.data }], guard := none }) ?_ rfl (by kernel_rfl) (by kernel_rfl) (by kernel_rfl) (by kernel_rfl) (fun _ _ _ h => h) (by rfl) (by assumption) ?_ ?_
    rotate_left
    · (intro w0 hS0; go_simp <;> (try with_reducible rfl))
    try simp only [Act.put, List.setIfInBounds_toArray, List.set_cons_zero, List.set_cons_succ]
    refine wpAnyZ_read (i := 6) (oi := { dst := some 20, op := Go.Op.move (Go.Operand.tmp 7), type := 3, pos := "ref.go:81", after := #[], guard := none }) ?_ rfl (by kernel_rfl) (by kernel_rfl) (by kernel_rfl) (by kernel_rfl) (fun _ _ _ h => h) (by rfl) (by assumption) ?_ ?_
    rotate_left
    · (intro w0 hS0; go_simp <;> (try with_reducible rfl))
    try simp only [Act.put, List.setIfInBounds_toArray, List.set_cons_zero, List.set_cons_succ]
    refine wpAnyZ_read (i := 9) (oi := { dst := some 23, op := Go.Op.move (Go.Operand.tmp 0), type := 27, pos := "ref.go:81", after := #[], guard := none }) ?_ rfl (by kernel_rfl) (by kernel_rfl) (by kernel_rfl) (by kernel_rfl) (fun _ _ _ h => h) (by rfl) (by assumption) ?_ ?_
    rotate_left
    · (intro w0 hS0; go_simp <;> (try with_reducible rfl))
    try simp only [Act.put, List.setIfInBounds_toArray, List.set_cons_zero, List.set_cons_succ]
    refine wpAnyZ_read (i := 10) (oi := { dst := some 24, op := Go.Op.nilCheck (Go.Operand.tmp 23), type := 0, pos := "ref.go:81", after := #[{ on := 9, ground := Go.Ground.data }], guard := none }) ?_ rfl (by kernel_rfl) (by kernel_rfl) (by kernel_rfl) (by kernel_rfl) (fun _ _ _ h => h) (by rfl) (by assumption) ?_ ?_
    rotate_left
    · (intro w0 hS0; go_simp <;> (try with_reducible rfl))
    try simp only [Act.put, List.setIfInBounds_toArray, List.set_cons_zero, List.set_cons_succ]
    refine wpAnyZ_read (i := 11) (oi := { dst := some 25, op := Go.Op.fieldAddr 30 (Go.Operand.tmp 24) 1, type := 0, pos := "ref.go:81", after := #[{ on := 10, ground := Go.Ground.data }], guard := none }) ?_ rfl (by kernel_rfl) (by kernel_rfl) (by kernel_rfl) (by kernel_rfl) (fun _ _ _ h => h) (by rfl) (by assumption) ?_ ?_
    rotate_left
    · (intro w0 hS0; go_simp <;> (try with_reducible rfl))
    try simp only [Act.put, List.setIfInBounds_toArray, List.set_cons_zero, List.set_cons_succ]
    refine wpAnyZ_read (i := 13) (oi := { dst := some 27, op := Go.Op.move (Go.Operand.tmp 7), type := 3, pos := "ref.go:81", after := #[], guard := none }) ?_ rfl (by kernel_rfl) (by kernel_rfl) (by kernel_rfl) (by kernel_rfl) (fun _ _ _ h => h) (by rfl) (by assumption) ?_ ?_
    rotate_left
    · (intro w0 hS0; go_simp <;> (try with_reducible rfl))
    try simp only [Act.put, List.setIfInBounds_toArray, List.set_cons_zero, List.set_cons_succ]
    refine wpAnyZ_read (i := 14) (oi := { dst := some 28, op := Go.Op.binOp Go.BinOp.add 3 (Go.Operand.tmp 27) (Go.Operand.const (Go.Value.int Go.IntKind.i64 1)) 3, type := 3, pos := "ref.go:81", after := #[{ on := 13, ground := Go.Ground.data }], guard := none }) ?_ rfl (by kernel_rfl) (by kernel_rfl) (by kernel_rfl) (by kernel_rfl) (fun _ _ _ h => h) (by rfl) (by assumption) ?_ ?_
    rotate_left
    · (intro w0 hS0; go_simp <;> (try with_reducible rfl))
    try simp only [Act.put, List.setIfInBounds_toArray, List.set_cons_zero, List.set_cons_succ]
    refine wpAnyZ_read (i := 5) (oi := { dst := some 19, op := Go.Op.load 28 (Go.Operand.tmp 18), type := 28, pos := "ref.go:81", after := #[{ on := 4, ground := Go.Ground.data }], guard := none }) ?_ rfl (by kernel_rfl) (by kernel_rfl) (by kernel_rfl) (by kernel_rfl) (fun _ _ _ h => h) (by rfl) (by assumption) ?_ ?_
    rotate_left
    · (intro w0 hS0; go_simp <;> (try with_reducible rfl))
    try simp only [Act.put, List.setIfInBounds_toArray, List.set_cons_zero, List.set_cons_succ]
    refine wpAnyZ_read (i := 7) (oi := { dst := some 21, op := Go.Op.slice 28 (Go.Operand.tmp 19) none (some (Go.Operand.tmp 20)) none, type := 28, pos := "ref.go:81", after := #[{ on := 5, ground := Go.Ground.data }, { on := 6, ground := Go.Ground.data }], guard := none }) ?_ rfl (by kernel_rfl) (by kernel_rfl) (by kernel_rfl) (by kernel_rfl) (fun _ _ _ h => h) (by rfl) (by assumption) ?_ ?_
    rotate_left
    · (intro w0 hS0; go_simp <;> (try with_reducible rfl))
    try simp only [Act.put, List.setIfInBounds_toArray, List.set_cons_zero, List.set_cons_succ]
    refine wpAnyZ_read (i := 12) (oi := { dst := some 26, op := Go.Op.load 28 (Go.Operand.tmp 25), type := 28, pos := "ref.go:81", after := #[{ on := 11, ground := Go.Ground.data }], guard := none }) ?_ rfl (by kernel_rfl) (by kernel_rfl) (by kernel_rfl) (by kernel_rfl) (fun _ _ _ h => h) (by rfl) (by assumption) ?_ ?_
    rotate_left
    · (intro w0 hS0; go_simp <;> (try with_reducible rfl))
    try simp only [Act.put, List.setIfInBounds_toArray, List.set_cons_zero, List.set_cons_succ]
    refine wpAnyZ_read (i := 15) (oi := { dst := some 29, op := Go.Op.slice 28 (Go.Operand.tmp 26) (some (Go.Operand.tmp 28)) none none, type := 28, pos := "ref.go:81", after := #[{ on := 12, ground := Go.Ground.data }, { on := 14, ground := Go.Ground.data }], guard := none }) ?_ rfl (by kernel_rfl) (by kernel_rfl) (by kernel_rfl) (by kernel_rfl) (fun _ _ _ h => h) (by rfl) (by assumption) ?_ ?_
    rotate_left
    · (intro w0 hS0; go_simp <;> (try with_reducible rfl))
    try simp only [Act.put, List.setIfInBounds_toArray, List.set_cons_zero, List.set_cons_succ]
    refine wpAnyZ_one (i := 1) (o := { dst := some 15, op := Go.Op.buildSlice 28 0 #[], type := 28, pos := "ref.go:81", after := #[], guard := none }) (by kernel_rfl) rfl (by rfl) (fun K hK => ?_)
    go_simp
    rw [HW.out]
    refine hK.out _ _ ?_ (fun hHeld => ?_)
    · exact d1
    clear hK K
    try simp only [Act.put, List.setIfInBounds_toArray, List.set_cons_zero, List.set_cons_succ]
    refine wpAnyZ_one (i := 8) (o := { dst := some 22, op := Go.Op.call { callee := Go.Callee.builtin Go.Builtin.append, args := #[Go.Operand.tmp 15, Go.Operand.tmp 21], argTypes := #[28, 28] }, type := 28, pos := "ref.go:81", after := #[{ on := 1, ground := Go.Ground.data }, { on := 7, ground := Go.Ground.data }], guard := none }) (by kernel_rfl) rfl (by rfl) (fun K hK => ?_)
    refine wp_app_run _ _ _ _ rfl hr1 ?_
    refine hK.out _ _ ?_ (fun hHeld => ?_)
    · exact d2
    clear hK K
    try simp only [Act.put, List.setIfInBounds_toArray, List.set_cons_zero, List.set_cons_succ]
    refine wpAnyZ_one (i := 16) (o := { dst := some 30, op := Go.Op.call { callee := Go.Callee.builtin Go.Builtin.append, args := #[Go.Operand.tmp 22, Go.Operand.tmp 29], argTypes := #[28, 28] }, type := 28, pos := "ref.go:81", after := #[{ on := 8, ground := Go.Ground.data }, { on := 15, ground := Go.Ground.data }, { on := 8, ground := Go.Ground.chain }], guard := none }) (by kernel_rfl) rfl (by rfl) (fun K hK => ?_)
    refine wp_app_run _ _ _ _ rfl hr2 ?_
    refine hK.out _ _ ?_ (fun hHeld => ?_)
    · exact d3
    clear hK K
    try simp only [Act.put, List.setIfInBounds_toArray, List.set_cons_zero, List.set_cons_succ]
    refine wpAnyZ_one (i := 17) (o := { dst := some 31, op := Go.Op.nilCheck (Go.Operand.tmp 14), type := 0, pos := "ref.go:81", after := #[{ on := 0, ground := Go.Ground.data }, { on := 0, ground := Go.Ground.phase }, { on := 1, ground := Go.Ground.phase }, { on := 2, ground := Go.Ground.phase }, { on := 3, ground := Go.Ground.phase }, { on := 4, ground := Go.Ground.phase }, { on := 5, ground := Go.Ground.phase }, { on := 6, ground := Go.Ground.phase }, { on := 7, ground := Go.Ground.phase }, { on := 8, ground := Go.Ground.phase }, { on := 9, ground := Go.Ground.phase }, { on := 10, ground := Go.Ground.phase }, { on := 11, ground := Go.Ground.phase }, { on := 12, ground := Go.Ground.phase }, { on := 13, ground := Go.Ground.phase }, { on := 14, ground := Go.Ground.phase }, { on := 15, ground := Go.Ground.phase }, { on := 16, ground := Go.Ground.phase }], guard := none }) (by kernel_rfl) rfl (by rfl) (fun K hK => ?_)
    go_simp
    refine hK.out _ _ ?_ (fun hHeld => ?_)
    · (first | assumption | trivial)
    clear hK K
    try simp only [Act.put, List.setIfInBounds_toArray, List.set_cons_zero, List.set_cons_succ]
    refine wpAnyZ_read (i := 18) (oi := { dst := some 32, op := Go.Op.fieldAddr 30 (Go.Operand.tmp 31) 1, type := 0, pos := "ref.go:81", after := #[{ on := 17, ground := Go.Ground.data }, { on := 0, ground := Go.Ground.phase }, { on := 1, ground := Go.Ground.phase }, { on := 2, ground := Go.Ground.phase }, { on := 3, ground := Go.Ground.phase }, { on := 4, ground := Go.Ground.phase }, { on := 5, ground := Go.Ground.phase }, { on := 6, ground := Go.Ground.phase }, { on := 7, ground := Go.Ground.phase }, { on := 8, ground := Go.Ground.phase }, { on := 9, ground := Go.Ground.phase }, { on := 10, ground := Go.Ground.phase }, { on := 11, ground := Go.Ground.phase }, { on := 12, ground := Go.Ground.phase }, { on := 13, ground := Go.Ground.phase }, { on := 14, ground := Go.Ground.phase }, { on := 15, ground := Go.Ground.phase }, { on := 16, ground := Go.Ground.phase }], guard := none }) ?_ rfl (by kernel_rfl) (by kernel_rfl) (by kernel_rfl) (by kernel_rfl) (fun _ _ _ h => h) (by rfl) (by assumption) ?_ ?_
    rotate_left
    · (intro w0 hS0; go_simp <;> (try with_reducible rfl))
    try simp only [Act.put, List.setIfInBounds_toArray, List.set_cons_zero, List.set_cons_succ]
    refine wpAnyZ_last (o := { dst := none, op := Go.Op.store 28 (Go.Operand.tmp 32) (Go.Operand.tmp 30), type := 0, pos := "ref.go:81", after := #[{ on := 18, ground := Go.Ground.data }, { on := 16, ground := Go.Ground.data }, { on := 16, ground := Go.Ground.chain }, { on := 0, ground := Go.Ground.phase }, { on := 1, ground := Go.Ground.phase }, { on := 2, ground := Go.Ground.phase }, { on := 3, ground := Go.Ground.phase }, { on := 4, ground := Go.Ground.phase }, { on := 5, ground := Go.Ground.phase }, { on := 6, ground := Go.Ground.phase }, { on := 7, ground := Go.Ground.phase }, { on := 8, ground := Go.Ground.phase }, { on := 9, ground := Go.Ground.phase }, { on := 10, ground := Go.Ground.phase }, { on := 11, ground := Go.Ground.phase }, { on := 12, ground := Go.Ground.phase }, { on := 13, ground := Go.Ground.phase }, { on := 14, ground := Go.Ground.phase }, { on := 15, ground := Go.Ground.phase }, { on := 16, ground := Go.Ground.phase }], guard := none }) (by kernel_rfl) rfl (by rfl) (fun K hK => ?_)
    go_simp
    refine hK.out _ _ ?_
    clear hK K
    try simp only [Act.put, List.setIfInBounds_toArray, List.set_cons_zero, List.set_cons_succ]
    refine wpAnyZ_done (by kernel_rfl) ?_ _
    go_wp2_with fail
    go_ret
    obtain ⟨k3, ho, f3, hxl⟩ := HK.out
    have hm3 := HM.out
    have hne : ∀ j, (Value.slice A2 m3 c2).ownBlock = some j → j ≠ x := fun j hj e => by
      rw [← hm3] at hj
      have := (ho.lt j hj).1
      omega
    refine ⟨by rw [decide_eq_true HL.out.2]; rfl, .inr ⟨?_, Fr.setCell (X := fun j => j = x) ((F1.out.trans f3).mono fun _ _ e => e.elim) ⟨x, 1, none⟩ rfl _⟩⟩
    rw [HL.out.1]
    refine ⟨A2, c2, ?_, ?_, ?_⟩
    · rw [hm3]
      exact (blk_set k3 1 _).trans rfl
    · rw [hm3]
      exact row_baseP (ownWR_kept (by rw [hm3] at ho; exact ho) fun j hj => heap_setCell_other W3 _ j _ fun e => hne j hj (by simpa using e)) F1.out.size
    · rw [hm3]
      exact fun e => hne x e rfl
  · have HN := Lib.hid hno
    clear hno
    go_wp2_with fail
    go_ret
    exact ⟨by rw [decide_eq_false HN.out]; rfl, .inl ⟨fk_not HN.out, F1.out⟩⟩
/-- what is left when so many were taken away -/
def leftW (U : List WEnt) (a : Int) (fs : List (List UInt8)) : List WEnt := U.filter fun u => decide (∀ f ∈ fs, fkW u ≠ (a, f))
theorem leftW_nil (U : List WEnt) (a : Int) : leftW U a [] = U := List.filter_eq_self.2 fun u _ => by simp
theorem leftW_snoc (U : List WEnt) (a : Int) (fs : List (List UInt8)) (f : List UInt8) : leftW U a (fs ++ [f]) = (leftW U a fs).filter fun u => decide (fkW u ≠ (a, f)) := by
  unfold leftW
  rw [List.filter_filter]
  refine List.filter_congr fun u _ => ?_
  rw [Bool.eq_iff_iff]
  simp only [Bool.and_eq_true, decide_eq_true_eq, List.mem_append, List.mem_singleton]
  constructor
  · exact fun h => ⟨h f (.inr rfl), fun g hg => h g (.inl hg)⟩
  · rintro ⟨h1, h2⟩ g (hg | rfl)
    · exact h2 g hg
    · exact h1
def ClrWR (x : Nat) (most : Int) (U : List WEnt) (a : Int) (D : List (List UInt8)) (w : World) (e : Ending) (w' : World) : Prop := e = .returned (.int .i64 D.length) ∧ StepW x most U (U.filter fun u => decide (u.1 ≠ a)) w w'
set_option maxRecDepth 100000 in
set_option maxHeartbeats 16000000 in
theorem refw_clear {base : Nat} {w : World} {x : Nat} {most : Int} {U : List WEnt} (h : RefWR base w x most U) (hl : U.length ≤ 900000) (hok : OkW U) (hnd : (U.map fkW).Nodup) {a : Int} {D : List (List UInt8)} (hD : NamesW U a D) :
    Calls Tryz.prog 12 #[.pointer (some ⟨x, 0, none⟩), .int .i64 a] w (ClrWR x most U a D w) := by
  have HOf := Lib.hid (refw_ofD h (by omega) hok hnd hD)
  have hxl : x < w.heap.size := refWR_lt h
  have hDl := namesW_len hD
  have hDn : ∀ n ∈ D, n.length ≤ 1000 := fun n hn => (hok _ ((hD.mem n).1 hn)).2
  have hall : leftW U a (D.map foldL) = U.filter fun u => decide (u.1 ≠ a) := dels_all fun f => by
    simp only [List.mem_map]
    constructor
    · rintro ⟨n, hn, rfl⟩; exact ⟨(a, n), (hD.mem n).1 hn, rfl⟩
    · rintro ⟨u, hu, e⟩
      obtain ⟨e1, e2⟩ := Prod.mk.inj e
      exact ⟨u.2, (hD.mem _).2 (by rw [← e1]; exact hu), e2⟩
  have HH := Lib.hid (And.intro h (And.intro hok (And.intro hnd (And.intro hDn (And.intro hall hxl)))))
  clear h hok hnd hD hDn hall hxl
  go_enter Tryz.func12, Tryz.ntmps12
  go_wp2_with fail
  refine HOf.out.mono ?_
  rintro e w1 ⟨⟨A1, c1, rfl, o1⟩, b1⟩
  have S1 : Hid (StepW x most U (leftW U a ((D.map foldL).take 0)) w w1) := .inl ⟨by rw [List.take_zero, leftW_nil], Fr.of_below b1⟩
  have O1 := Lib.hid o1
  have B1 := Lib.hid b1
  clear o1 b1
  go_wp2_with fail
  go_loopw [6] (fun i wr => ∃ j : Nat, i = .int .i64 j ∧ j ≤ D.length ∧ Hid (StepW x most U (leftW U a ((D.map foldL).take j)) w wr ∧ Fr (fun k => k = x) w1 wr)) (fun i _ => D.length - (RowKit.intOf i).toNat)
  case atStart => exact ⟨0, rfl, Nat.zero_le _, S1.out, Fr.refl _ _⟩
  case round =>
    obtain ⟨j, rfl, hj, HF⟩ := hrel
    clear S1
    by_cases hlt : j < D.length
    · obtain ⟨g, o, rfl, hg, hcell⟩ := reads_ownT O1.out (by omega)
      have hgx : ¬ g = x := fun e => by
        have hr := O1.out
        rcases hr.2 with ⟨e2, _⟩ | ⟨g2, cap, cur, e2, h3, _⟩
        · cases e2
        · cases e2; have := HH.out.2.2.2.2.2; omega
      have c1' : wr.cell? ⟨g, o + j, none⟩ = some (.string (bs D[j])) := (HF.out.2.cell (p := ⟨g, o + j, none⟩) hg hgx).trans (hcell j hlt)
      have hnl : D[j].length ≤ 1000 := HH.out.2.2.2.1 _ (List.getElem_mem hlt)
      have htk : (D.map foldL).take (j + 1) = (D.map foldL).take j ++ [foldL D[j]] := by rw [List.take_succ_eq_append_getElem (by simpa using hlt), List.getElem_map]
      obtain ⟨n, hn⟩ : ∃ n, D[j] = n := ⟨_, rfl⟩
      rw [hn] at c1' hnl htk
      obtain ⟨V, hV⟩ : ∃ V, leftW U a ((D.map foldL).take j) = V := ⟨_, rfl⟩
      have hVs : List.Sublist V U := by rw [← hV]; exact List.filter_sublist
      have hS := HF.out.1
      rw [hV] at hS
      have HRm := Lib.hid (refw_rem (hS.wr HH.out.1) (by have := hVs.length_le; omega) (fun u hu => HH.out.2.1 u (hVs.subset hu)) ((hVs.map fkW).nodup HH.out.2.2.1) a hnl)
      have p0 : (j : Int) < (D.length : Int) := by omega
      have r0 : (0 : Int) ≤ (j : Int) := by omega
      have HV := Lib.hid (And.intro hV (And.intro htk hS))
      clear hcell hg hgx hn hV hVs hS htk
      go_wp2_with fail
      refine HRm.out.mono ?_
      rintro e w2 ⟨rfl, hst⟩
      have HN : Hid (StepW x most U (leftW U a ((D.map foldL).take (j + 1))) w w2 ∧ Fr (fun k => k = x) w1 w2) := by
        refine ⟨?_, HF.out.2.trans hst.fr⟩
        rw [HV.out.2.1, leftW_snoc, HV.out.1]
        exact HV.out.2.2.trans hst HH.out.2.2.2.2.2
      clear hst
      go_wp2_with fail
      go_roundw
      case rel => exact ⟨j + 1, by go_num, by omega, HN⟩
      case measure => simp [RowKit.intOf]; omega
    · obtain rfl : j = D.length := by omega
      have p1 : ¬ ((D.length : Int) < (D.length : Int)) := by omega
      have hS := HF.out.1
      rw [List.take_of_length_le (by simp), HH.out.2.2.2.2.1] at hS
      have HS := Lib.hid hS
      clear hS
      go_wp2_with fail
      go_ret
      exact ⟨rfl, HS.out⟩
end Go.Proofs.YtnoeblnljfnecaaGreatDoor
end
