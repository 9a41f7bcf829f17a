/- Texts of this proof, one behind the other. -/
import Derived.Test.YteiiaocohpbanaaGreatPairStaysG7
import Derived.Test.YteiiaocohpbanaaGreatPairStaysG4
import Derived.Test.YteiiaocohpbanaaGreatPairStaysG6
import Derived.Carry
section
/- Layer 11: the law's awake. -/
namespace Go.Proofs.YteiiaocohpbanaaGreat
set_option linter.unusedVariables false
set_option linter.unusedSimpArgs false
open Go Go.RowKit Go.Lib Go.Sort Go.Shelf Go.Maps

theorem fr_up {X : Nat → Prop} {B : Nat} {w w1 w2 : World} (hb : Below B w w1) (hB : B ≤ w.heap.size) (hx : ∀ j, X j → B ≤ j) (hf : Fr X w1 w2) : Below B w w2 := hb.trans (hf.below (Nat.le_trans hB hb.size) fun k _ e => hx k e)
theorem up_next {X X' : Nat → Prop} {B n : Nat} (hx : ∀ j, X j → B ≤ j) (hn : B ≤ n) (h : ∀ j, X' j → X j ∨ n ≤ j) : ∀ j, X' j → B ≤ j := fun j hj => by
  rcases h j hj with e | e
  · exact hx j e
  · omega
set_option maxRecDepth 100000 in
set_option maxHeartbeats 4000000 in
theorem awake11 (w : World) : Calls Tryz.prog 6 #[] w fun e w' => e = .returned (.bool true) ∧ Below w.heap.size w w' := by
  have HN := Lib.hid (relNewIS (most := 5) (by decide) w)
  have ok1 : Hid (OkKIS 1 ∧ OkKIS 2 ∧ OkKSI [97] ∧ OkKSI [98]) := by refine ⟨by unfold OkKIS; decide, by unfold OkKIS; decide, by unfold OkKSI maxLen; decide, by unfold OkKSI maxLen; decide⟩
  go_enter Tryz.func6, Tryz.ntmps6
  go_wp2_with fail
  refine HN.out.mono ?_
  rintro e w1 ⟨t, X1, rfl, h1, hx1, b1⟩
  have HA := Lib.hid (relAddIS h1 b1.size (by simp) (a := 1) ok1.out.1 (b := [97]) ok1.out.2.2.1)
  have H1 := Lib.hid (And.intro hx1 b1)
  clear h1 hx1 b1
  go_wp2_with fail
  refine HA.out.mono ?_
  intro e w2 hA
  obtain ⟨rfl, X2, hx2, f2, h2⟩ := hA.ok (by simp) [] List.Pairwise.nil (by simp) (by decide)
  have b2 := fr_up H1.out.2 (Nat.le_refl _) H1.out.1 f2
  have u2 := up_next H1.out.1 H1.out.2.size hx2
  have HA2 := Lib.hid (relAddIS h2 b2.size (by simp) (a := 2) ok1.out.2.1 (b := [98]) ok1.out.2.2.2)
  have H2 := Lib.hid (And.intro u2 b2)
  clear hA hx2 f2 h2 b2 u2 HA H1 HN
  go_wp2_with fail
  refine HA2.out.mono ?_
  intro e w3 hA
  obtain ⟨rfl, X3, hx3, f3, h3⟩ := hA.ok (by simp) [] List.Pairwise.nil (by simp) (by decide)
  have b3 := fr_up H2.out.2 (Nat.le_refl _) H2.out.1 f3
  have u3 := up_next H2.out.1 H2.out.2.size hx3
  have HA3 := Lib.hid (relAddIS h3 b3.size (by simp) (a := 1) ok1.out.1 (b := [98]) ok1.out.2.2.2)
  have H3 := Lib.hid (And.intro u3 b3)
  clear hA hx3 f3 h3 b3 u3 HA2 H2
  go_wp2_with fail
  refine HA3.out.mono ?_
  intro e w4 hA
  obtain ⟨rfl, X4, hx4, f4, h4⟩ := hA.ok (by simp) [[97]] (by simp) (by simp) (by decide)
  have b4 := fr_up H3.out.2 (Nat.le_refl _) H3.out.1 f4
  obtain ⟨xs, y1, y2, y3, y4⟩ := byAtIS h4 (by simp) (b := [98]) ok1.out.2.2.2
  obtain rfl : xs = [1, 2] := up_ext y1 (by decide) fun x => (y2 x).trans (by simp; omega)
  have HL := Lib.hid (lefts11 y4 (by decide) 9 (by decide) (by decide))
  have H4 := Lib.hid b4
  clear hA hx4 f4 h4 b4 HA3 H3 y1 y2 y3 y4
  go_wp2_with fail
  refine HL.out.mono ?_
  rintro e w5 ⟨⟨v5, rfl, h5⟩, hb5⟩
  obtain ⟨A5, c5, rfl⟩ := row_slice h5
  have hB5 : Below w.heap.size w w5 := H4.out.trans (hb5.mono H4.out.size)
  have hr5 : ReadsI w5 A5 [1, 2] := reads_ownI h5
  obtain ⟨W6, hW6⟩ : ∃ W6, w5.alloc (.cells #[.int .i64 1, .int .i64 2] 3) = W6 := ⟨_, rfl⟩
  have hb6 : Below w5.heap.size w5 W6 := by rw [← hW6]; exact (Below.refl _ _).alloc (Nat.le_refl _) _
  have hS := same10 (w := W6) A5 (some ⟨w5.heap.size, 0, none⟩) [1, 2] [1, 2] 2 2 c5 2 rfl rfl rfl (by decide) (hr5.below hb6) (by rw [← hW6]; exact reads_new fun j hj => by match j, hj with | 0, _ => rfl | 1, _ => rfl)
  have HS := Lib.hid hS
  have HW6 := Lib.hid hW6
  have H6 := Lib.hid (And.intro hB5 hb6)
  clear h5 hb5 hB5 hr5 hb6 hW6 hS
  go_wp2_with fail
  rw [HW6.out]
  refine HS.out.mono ?_
  rintro e w7 ⟨rfl, q, rfl⟩
  go_wp2_with fail
  go_ret
  obtain ⟨hB5, hb6⟩ := H6.out
  have h7 : Below w.heap.size w W6 := hB5.trans (hb6.mono hB5.size)
  exact ⟨by simp, h7.os, h7.tape, h7.output, h7.size, h7.block⟩
end Go.Proofs.YteiiaocohpbanaaGreat
end
section
/- Layer 11: a relation of numbers and texts: Drop. -/
namespace Go.Proofs.YteiiaocohpbanaaGreat
set_option linter.unusedVariables false
set_option linter.unusedSimpArgs false
open Go Go.RowKit Go.Maps Go.Lib
attribute [local go_sem] Oper.semAt_some

def dropL (L : List (Int × List UInt8)) (a : Int) (pre : List (List UInt8)) : List (Int × List UInt8) := pre.foldl (fun M b => lessLIS M a b) L
theorem dropL_snoc (L : List (Int × List UInt8)) (a : Int) (pre : List (List UInt8)) (x : List UInt8) : dropL L a (pre ++ [x]) = lessLIS (dropL L a pre) a x := by unfold dropL; rw [List.foldl_append]; rfl
theorem dropL_filter (a : Int) : ∀ (pre : List (List UInt8)) (L : List (Int × List UInt8)), dropL L a pre = L.filter fun p => decide (∀ b ∈ pre, p ≠ (a, b))
  | [], L => by
    unfold dropL
    rw [List.foldl_nil, List.filter_eq_self.2]
    intro p _; simp
  | x :: r, L => by
    show dropL (lessLIS L a x) a r = _
    rw [dropL_filter a r]
    unfold lessLIS
    rw [List.filter_filter]
    refine List.filter_congr fun p _ => ?_
    simp [Bool.and_comm]
theorem dropL_all {L : List (Int × List UInt8)} {a : Int} {xs : List (List UInt8)} (h : ∀ b, b ∈ xs ↔ (a, b) ∈ L) : dropL L a xs = L.filter fun p => decide (p.1 ≠ a) := by
  rw [dropL_filter]
  refine List.filter_congr fun p hp => ?_
  rw [decide_eq_decide]
  constructor
  · intro h1 e
    exact h1 p.2 ((h p.2).2 (by rw [← e]; exact hp)) (by rw [← e])
  · intro h1 b _ e
    exact h1 (by rw [e])
theorem dropL_len (L : List (Int × List UInt8)) (a : Int) (pre : List (List UInt8)) : (dropL L a pre).length ≤ L.length := by rw [dropL_filter]; exact List.length_filter_le _ _
theorem dropL_ok {L : List (Int × List UInt8)} {a : Int} {pre : List (List UInt8)} (h : L.Nodup) : (dropL L a pre).Nodup := by rw [dropL_filter]; exact h.sublist List.filter_sublist
/-- how far Drop has come -/
def DropJ (base B t : Nat) (a : Int) (most : Int) (L : List (Int × List UInt8)) (pre : List (List UInt8)) (X : Nat → Prop) (W : World) : Prop :=
  W.heap[B]? = some (.cells #[.pointer (some ⟨t, 0, none⟩)] 25 (0, 0)) ∧ W.heap[B + 1]? = some (.cells #[.int .i64 a] 3 (0, 0)) ∧ W.heap[B + 2]? = some (.cells #[.int .i64 (pre.length : Int)] 3 (0, 0)) ∧
    ∃ Xr, RelAtIS base W t Xr most (dropL L a pre) ∧ (∀ k, Xr k → k ≠ B ∧ k ≠ B + 1 ∧ k ≠ B + 2) ∧ ∀ k, X k ↔ (k = B ∨ k = B + 1 ∨ k = B + 2 ∨ Xr k)
theorem dropJ_stays (base B t : Nat) (a : Int) (most : Int) (L : List (Int × List UInt8)) : Stays (DropJ base B t a most L) := fun pre X V V' ⟨h1, h2, h3, Xr, h4, h5, h6⟩ hl hf =>
  ⟨hf.blk h1 (fun e => e ((h6 _).2 (.inl rfl))), hf.blk h2 (fun e => e ((h6 _).2 (.inr (.inl rfl)))), hf.blk h3 (fun e => e ((h6 _).2 (.inr (.inr (.inl rfl))))), Xr, h4.fr hf fun j hj e => e ((h6 j).2 (.inr (.inr (.inr hj)))), h5, h6⟩
/-- what Drop does -/
def DropR (base t : Nat) (X : Nat → Prop) (most : Int) (L : List (Int × List UInt8)) (a : Int) (w : World) (e : Ending) (w' : World) : Prop :=
  ∃ X' : Nat → Prop, ∃ xs : List (List UInt8), xs.Pairwise (· < ·) ∧ (∀ b, b ∈ xs ↔ (a, b) ∈ L) ∧ e = .returned (.int .i64 (xs.length : Nat)) ∧ (∀ j, X' j → X j ∨ w.heap.size ≤ j) ∧ Fr X w w' ∧ RelAtIS base w' t X' most (L.filter fun p => decide (p.1 ≠ a))
set_option maxRecDepth 100000 in
set_option maxHeartbeats 16000000 in
theorem relDrop {base : Nat} {w : World} {t : Nat} {X : Nat → Prop} {most : Int} {L : List (Int × List UInt8)} (h : RelAtIS base w t X most L) (hbw : base ≤ w.heap.size) (hL : L.length ≤ 90000) {a : Int} (ha : OkKIS a) (hok : ∀ p ∈ L, OkKSI p.2) :
    Calls Tryz.prog 11 #[.pointer (some ⟨t, 0, none⟩), .int .i64 a] w (DropR base t X most L a w) := by
  obtain ⟨b1, b2, T1, T2, hR, hX⟩ := h
  have hup := lkUpIS hR.m1 a
  have hmem := hR.h1 a
  have hlk := hR.keys.2.2.1 a
  obtain ⟨w1, hw1⟩ : ∃ w1, ((w.alloc (Obj.cells #[Value.pointer (some ⟨t, 0, none⟩)] 25)).alloc (Obj.cells #[Value.int .i64 a] 3)).alloc (Obj.cells #[Value.int .i64 0] 3) = w1 := ⟨_, rfl⟩
  have f1 : Fr (fun _ => False) w w1 := by rw [← hw1]; exact (((Fr.refl _ w).alloc _).alloc _).alloc _
  have z1 : w1.heap.size = w.heap.size + 3 := by rw [← hw1]; simp
  obtain ⟨B, hB⟩ : ∃ B, w.heap.size = B := ⟨_, rfl⟩
  rw [hB] at z1
  have k0 : w1.heap[B]? = some (.cells #[.pointer (some ⟨t, 0, none⟩)] 25 (0, 0)) := by rw [← hw1, ← hB]; exact blk_alloc (blk_alloc (heap_alloc_new w _) _) _
  have k1 : w1.heap[B + 1]? = some (.cells #[.int .i64 a] 3 (0, 0)) := by rw [← hw1, ← hB]; exact blk_alloc (heap_alloc2_new w _ _) _
  have k2 : w1.heap[B + 2]? = some (.cells #[.int .i64 0] 3 (0, 0)) := by
    rw [← hw1, ← hB]
    have := heap_alloc2_new (w.alloc (Obj.cells #[Value.pointer (some ⟨t, 0, none⟩)] 25)) (Obj.cells #[Value.int .i64 a] 3) (Obj.cells #[Value.int .i64 0] 3)
    rwa [World.size_alloc] at this
  have hR1 : RelStIS base w1 t b1 b2 most L T1 T2 := hR.same fun j hj => f1.block j (hR.lt hj).2 fun e => e
  have hAt1 : RelAtIS base w1 t X most L := ⟨b1, b2, T1, T2, hR1, hX⟩
  have hXl : ∀ j, X j → j < B := fun j hj => by rw [← hB]; exact (hR.lt ((hX j).1 hj)).2
  have HOf := Lib.hid (relOfIS hR1 (by omega) ha)
  obtain ⟨xs, hxs⟩ : ∃ xs, lk T1 a = xs := ⟨_, rfl⟩
  rw [hxs] at HOf hup hmem hlk
  have c0 := blk_cell k0 0
  have c1 := blk_cell k1 0
  have HW := Lib.hid hw1
  have H := Lib.hid (And.intro f1 (And.intro z1 (And.intro k0 (And.intro k1 (And.intro k2 (And.intro hup (And.intro hmem (And.intro hlk (And.intro hXl (And.intro hAt1 (And.intro ha hok)))))))))))
  have HBB := Lib.hid hB
  clear hw1 f1 z1 k0 k1 k2 hR1 hAt1 hXl hxs hup hmem hlk hR hX ha hok hB
  refine (callsIn_wide (n := 30)).1 ?_
  refine callsIn_of_wp_marks Tryz.func11 rfl trivial ?_ rfl
  simp only [Tryz.ntmps11, List.size_toArray, List.length_cons, List.length_nil, Nat.reduceAdd, Nat.reduceSub, Array.replicate_succ, Array.replicate_zero, List.push_toArray, List.append_toArray, List.nil_append, List.cons_append]
  gi_wp2_with fail
  rw [HW.out, HBB.out]
  refine ⟨trivial, (calls_wide (.inl rfl) HOf.out).mono ?_⟩
  rintro e w2 ⟨⟨F, rfl, hT⟩, hb2⟩
  obtain ⟨f1, z1, k0, k1, k2, hup, hmem, hlk, hXl, hAt, ha, hok⟩ := H.out
  have f2 : Fr (fun _ => False) w1 w2 := Fr.of_below hb2
  have hxl : xs.length ≤ 100000 := by omega
  obtain ⟨Y, hYb, gf, lb, rfl, hseq, hYl, heg⟩ := tellsT_tale (show TaleT w1.heap.size w2 F xs from hT) (by omega)
  have q0 := f2.blk k0 fun e => e
  have q1 := f2.blk k1 fun e => e
  have q2 := f2.blk k2 fun e => e
  have hAt2 := hAt.fr f2 fun _ _ e => e
  have z2 := f2.size
  have K := Lib.hid (And.intro f2 (And.intro hYb (And.intro hseq (And.intro hYl (And.intro heg (And.intro q0 (And.intro q1 (And.intro q2 (And.intro hAt2 z2)))))))))
  clear f1 z1 k0 k1 k2 hup hmem hlk hXl hAt ha hok f2 hb2 hT hYb hseq hYl heg q0 q1 q2 hAt2 z2 c0 c1
  gi_wp2_with fail
  obtain ⟨f1, z1, k0, k1, k2, hup, hmem, hlk, hXl, hAt, ha, hok⟩ := H.out
  obtain ⟨f2, hYb, hseq, hYl, heg, q0, q1, q2, hAt2, z2⟩ := K.out
  have hB := HBB.out
  have hnd := hAt2.nodup
  refine wpIn_rangeF (X := fun k => k = B ∨ k = B + 1 ∨ k = B + 2 ∨ X k) (Y := Y) (xs := xs) (encs := encL) (gf := gf) (lb := lb) (DropJ base B t a most L) (fun _ _ _ _ => False)
    rfl hseq (fun k hk => ⟨by rcases hk with e | e | e | e <;> first | omega | (have := hXl k e; omega), fun e => by have := hYb k e; rcases hk with e | e | e | e <;> first | omega | (have := hXl k e; omega)⟩) hYl (by omega) heg (fun _ => rfl)
    (dropJ_stays _ _ _ _ _ _) (fun c s X1 V1 V2 h => h.elim) ⟨q0, q1, q2, X, hAt2, fun k hk => by have := hXl k hk; omega, fun k => Iff.rfl⟩ ?round ?done (fun _ _ _ _ _ _ _ _ _ _ _ h => h.elim)
  case round =>
    rintro l pre x r X1 V KK rb hl2 hpx hI hG2 hxl hF hlV hK
    dsimp only [encL]
    have HK := Lib.hid hK
    have HV := Lib.hid (And.intro hpx (And.intro hI (And.intro hG2 (And.intro hxl (And.intro hF (And.intro hlV hl2))))))
    clear hK hpx hI hG2 hxl hF hlV hl2 f1 z1 k0 k1 k2 hup hmem hlk hXl hAt ha hok f2 hYb hseq hYl heg q0 q1 q2 hAt2 z2 hB hnd
    gi_wp2_with fail
    refine HK.out _ _ (Fr.refl _ _) fun Vb hfb hzb hsb hrb => ?_
    clear HK KK
    obtain ⟨hpx, ⟨j0, j1, j2, Xr, hr, hrn, hX1⟩, hG2, hxl, hF, hlV, hl2⟩ := HV.out
    obtain ⟨f1, z1, k0, k1, k2, hup, hmem, hlk, hXl, hAt, ha, hok⟩ := H.out
    obtain ⟨f2, hYb, hseq, hYl, heg, q0, q1, q2, hAt2, z2⟩ := K.out
    have hlX : ∀ k, X1 k → k ≠ l := fun k hk e => hxl (e ▸ hk)
    have v0 := hfb.blk j0 (hlX _ ((hX1 _).2 (.inl rfl)))
    have v1 := hfb.blk j1 (hlX _ ((hX1 _).2 (.inr (.inl rfl))))
    have v2 := hfb.blk j2 (hlX _ ((hX1 _).2 (.inr (.inr (.inl rfl)))))
    have hrb2 := hr.fr hfb fun j hj => hlX j ((hX1 _).2 (.inr (.inr (.inr hj))))
    have hbb : base ≤ Vb.heap.size := by have := hF.size; have := f1.size; have := hfb.size; omega
    have hxin : (a, x) ∈ dropL L a pre := by
      rw [dropL_filter, List.mem_filter]
      have hxx : x ∈ xs := by rw [← hpx]; simp
      refine ⟨(hmem x).1 hxx, ?_⟩
      simp only [decide_eq_true_eq]
      intro b hb e
      have hnd : xs.Nodup := up_nodupS hup
      rw [← hpx, List.nodup_append] at hnd
      exact hnd.2.2 b hb x (List.mem_cons_self ..) (Prod.mk.inj e).2.symm
    have hkx : OkKSI x := hok (a, x) ((hmem x).1 (by rw [← hpx]; simp))
    have HRm := Lib.hid (relRemIS hrb2 hbb (Nat.le_trans (dropL_len L a pre) hL) ha hkx)
    unfold RemRIS at HRm
    rw [decide_eq_true hxin] at HRm
    have cc0 := blk_cell v0 0
    have cc1 := blk_cell v1 0
    have hpl : pre.length < xs.length := by
      have := congrArg List.length hpx
      simp at this; omega
    have HU := Lib.hid (And.intro v0 (And.intro v1 (And.intro v2 (And.intro hfb (And.intro hzb (And.intro hrb (And.intro hrn hX1)))))))
    have HP := Lib.hid hpl
    clear hpx j0 j1 j2 hr hrn hX1 hG2 hxl hF hlV hl2 f1 z1 k0 k1 k2 hup hmem hlk hXl hAt ha hok f2 hYb hseq hYl heg q0 q1 q2 hAt2 z2 hlX v0 v1 v2 hfb hzb hrb hrb2 hbb hxin hkx hsb hpl
    gi_wp2_with fail
    refine ⟨trivial, (calls_wide (.inr ⟨l, rfl⟩) HRm.out).mono ?_⟩
    rintro e W6 ⟨rfl, Xr', hx6, f6, h6⟩
    obtain ⟨v0, v1, v2, hfb, hzb, hrb, hrn, hX1⟩ := HU.out
    have u0 := f6.blk v0 (fun e => (hrn _ e).1 rfl)
    have u1 := f6.blk v1 (fun e => (hrn _ e).2.1 rfl)
    have u2 := f6.blk v2 (fun e => (hrn _ e).2.2 rfl)
    have cc2 := blk_cell u2 0
    have dd2 := blk_free u2 0
    have m0 : (pre.length : Int) ≤ 100000 := by have := HP.out; omega
    have HS := Lib.hid (And.intro u0 (And.intro u1 (And.intro u2 (And.intro hx6 (And.intro f6 h6)))))
    clear v0 v1 v2 hfb hzb hrb hrn hX1 u0 u1 u2 hx6 f6 h6 cc0 cc1
    gi_wp2_with fail
    obtain ⟨v0, v1, v2, hfb, hzb, hrb, hrn, hX1⟩ := HU.out
    obtain ⟨u0, u1, u2, hx6, f6, h6⟩ := HS.out
    obtain ⟨hpx, _, hG2, hxl, hF, hlV, hl2⟩ := HV.out
    have hs7 : Fr (fun k => k = B + 2) W6 (W6.setCell ⟨B + 1 + 1, 0, none⟩ (.int .i64 ((pre.length : Int) + 1))) := Fr.setCell (X := fun k => k = B + 2) (Fr.refl _ W6) ⟨B + 1 + 1, 0, none⟩ rfl _
    have hf7 : Fr X1 Vb (W6.setCell ⟨B + 1 + 1, 0, none⟩ (.int .i64 ((pre.length : Int) + 1))) := (f6.mono (Y := X1) fun k _ e => (hX1 k).2 (.inr (.inr (.inr e)))).trans3 hs7 fun k _ e => (hX1 k).2 (.inr (.inr (.inl e)))
    have hlb := blk_lt v2
    have hXr' : ∀ k, Xr' k → k ≠ B ∧ k ≠ B + 1 ∧ k ≠ B + 2 := fun k hk => by
      rcases hx6 k hk with e | e
      · exact hrn k e
      · omega
    have hz7 := hs7.size
    have hz6 := f6.size
    have hzb2 := hfb.size
    refine ⟨fun k => k = B ∨ k = B + 1 ∨ k = B + 2 ∨ Xr' k, fun k hk => ⟨?_, fun hlt => ?_⟩, (hfb.mono (Y := fun k => k = l ∨ X1 k) fun k _ e => .inl e).trans3 hf7 fun k _ e => .inr e, hf7.blk hrb hxl, blk_other u0 _ (by show B ≠ B + 1 + 1; omega) _, blk_other u1 _ (by show B + 1 ≠ B + 1 + 1; omega) _, ?_, Xr', ?_, hXr', fun k => Iff.rfl⟩
    · rcases hk with rfl | rfl | rfl | hk
      · omega
      · omega
      · omega
      · have := (h6.lt hk).2; omega
    · rcases hk with rfl | rfl | rfl | hk
      · exact (hX1 _).2 (.inl rfl)
      · exact (hX1 _).2 (.inr (.inl rfl))
      · exact (hX1 _).2 (.inr (.inr (.inl rfl)))
      · rcases hx6 k hk with e | e
        · exact (hX1 _).2 (.inr (.inr (.inr e)))
        · omega
    · have := blk_set u2 0 (.int .i64 ((pre.length : Int) + 1))
      rw [List.length_append]
      exact this
    · rw [dropL_snoc]
      exact h6.fr hs7 fun j hj => (hXr' j hj).2.2
  case done =>
    rintro D X2 V hD hxD hG2 hF ⟨j0, j1, j2, Xr, hr, hrn, hX2⟩ hdef
    have cc2 := blk_cell j2 0
    have HQ := Lib.hid (And.intro hD (And.intro hxD (And.intro hG2 (And.intro hF (And.intro hr (And.intro hrn (And.intro hX2 hdef)))))))
    clear hD hxD hG2 hF hr hrn hX2 hdef j0 j1 j2 f1 z1 k0 k1 k2 hup hmem hlk hXl hAt ha hok f2 hYb hseq hYl heg q0 q1 q2 hAt2 z2 hB hnd
    gi_wp2_with fail
    obtain ⟨hD, hxD, hG2, hF, hr, hrn, hX2, hdef⟩ := HQ.out
    obtain ⟨f1, z1, k0, k1, k2, hup, hmem, hlk, hXl, hAt, ha, hok⟩ := H.out
    obtain ⟨f2, hYb, hseq, hYl, heg, q0, q1, q2, hAt2, z2⟩ := K.out
    have hB := HBB.out
    refine leaves_one D _ hdef fun w' hf => ⟨_, results_tmp rfl _ _ _, Xr, xs, hup, hmem, rfl, fun j hj => ?_, ?_, ?_⟩
    · by_cases e : j < w2.heap.size
      · rcases (hG2 j ((hX2 j).2 (.inr (.inr (.inr hj))))).2 e with e | e | e | e
        · exact absurd e (hrn j hj).1
        · exact absurd e (hrn j hj).2.1
        · exact absurd e (hrn j hj).2.2
        · exact .inl e
      · exact .inr (by omega)
    · refine (((f1.mono (Y := X) fun _ _ e => e.elim).trans3 f2 fun _ _ e => e.elim).trans3 hF fun k hk e => ?_).trans3 hf fun k hk e => ?_
      · rcases e with e | e | e | e
        · omega
        · omega
        · omega
        · exact e
      · omega
    · rw [← dropL_all hmem]
      exact hr.fr hf fun j hj e => hxD (e ▸ (hX2 j).2 (.inr (.inr (.inr hj))))
end Go.Proofs.YteiiaocohpbanaaGreat
end
section
/- Layer 11: maps of ints to sets of ints: lookups, fill, empty. -/
namespace Go.Proofs.YteiiaocohpbanaaGreat
set_option linter.unusedVariables false
set_option linter.unusedSimpArgs false
open Go Go.RowKit Go.Maps Go.Lib

def kVII (k : Int) : Value := .int .i64 k
def kLII (k : Int) : Lit := (Lit.int .i64 k)
def OkKII (k : Int) : Prop := (Lit.int .i64 k).wf = true
theorem kLII_inj : ∀ a b : Int, kLII a = kLII b → a = b := fun a b h => by simpa [kLII] using h
theorem kLII_key (k : Int) : WideAt.IsKeyLit (kLII k) := by simp [kLII, WideAt.IsKeyLit]
theorem keyedII : Keyed Tryz.prog 3 := int_keyed Tryz.underlying3
theorem keyOfII {k : Int} (h : OkKII k) : keyOf Tryz.prog 3 (kVII k) = some (kLII k) := keyOf_int_mk Tryz.underlying3 h
/-- block b is a map of these sets' blocks -/
def OwnMII (w : World) (b : Nat) (S : List (Int × Nat)) : Prop := (∃ D : DataW Unit, w.ownsMap Tryz.prog 3 ptrE b S.length D ∧ MapHas kLII vP D S) ∧ ∀ p ∈ S, OkKII p.1
theorem ownMII_lt {w : World} {b : Nat} {S : List (Int × Nat)} (h : OwnMII w b S) : b < w.heap.size := by
  obtain ⟨⟨D, h1, _⟩, _⟩ := h
  exact h1.lt
theorem ownMII_same {w w' : World} {b : Nat} {S : List (Int × Nat)} (h : OwnMII w b S) (he : w'.heap[b]? = w.heap[b]?) : OwnMII w' b S := by
  obtain ⟨⟨D, h1, h2⟩, h3⟩ := h
  exact ⟨⟨D, owns_sameP h1 he, h2⟩, h3⟩
theorem ownMII_nodup {w : World} {b : Nat} {S : List (Int × Nat)} (h : OwnMII w b S) : (S.map (·.1)).Nodup := by
  obtain ⟨⟨D, h1, h2⟩, h3⟩ := h
  exact h2.nodup
theorem ownMII_move {w : World} {b : Nat} {S : List (Int × Nat)} (h : OwnMII w b S) {k : Int} {s : Nat} (hl : lookM S k = some s) : OwnMII w b (setM S k s) := by
  obtain ⟨⟨D, h1, h2⟩, h3⟩ := h
  have hm := lookM_memP hl
  have hsz : (setM S k s).length = S.length := by
    have := len_delM h2.nodup k
    rw [if_pos (List.any_eq_true.2 ⟨_, hm, by simp⟩)] at this
    unfold setM
    unfold delM at this
    rw [List.length_append, List.length_singleton]; exact this
  have hsub : ∀ p ∈ setM S k s, p ∈ S := fun p hp => by
    rcases mem_setM.1 hp with ⟨hp, _⟩ | rfl
    · exact hp
    · exact hm
  refine ⟨⟨D, by rw [hsz]; exact h1, ⟨nodup_setM h2.nodup k s, fun p hp => h2.at_ p (hsub p hp), fun kl hk => ?_, by rw [hsz]; exact h2.size⟩⟩, fun p hp => h3 p (hsub p hp)⟩
  obtain ⟨p, hp, e⟩ := h2.only kl hk
  by_cases c : p.1 = k
  · exact ⟨(k, s), mem_setM.2 (.inr rfl), by rw [← e, c]⟩
  · exact ⟨p, mem_setM.2 (.inl ⟨hp, c⟩), e⟩
theorem mlookII {w : World} {b : Nat} {S : List (Int × Nat)} (h : OwnMII w b S) {k : Int} (hk : OkKII k) : (Instr.lookup 79 (.map (some b)) (kVII k) false).run Tryz.prog w = .ok (.pointer ((lookM S k).map fun s => ⟨s, 0, none⟩)) w := by
  obtain ⟨⟨D, a5, a6⟩, a7⟩ := h
  have hz : (zeroValue 83).run Tryz.prog w = .ok (.pointer none) w := by kernel_rfl
  obtain ⟨v, ps, h1, h2⟩ := a5.lookup keyedII Tryz.underlying79 hz (zd := .lit (.int .i64 (-1))) (zp := []) rfl (keyOfII hk)
  rw [h1]
  rw [a6.look kLII_inj] at h2
  cases hl : lookM S k with
  | none =>
    rw [hl] at h2
    rcases ptrE_inv h2 with ⟨rfl, _⟩ | ⟨s, _, e⟩
    · rfl
    · omega
  | some s =>
    rw [hl] at h2
    rcases ptrE_inv h2 with ⟨_, e⟩ | ⟨s2, rfl, e⟩
    · omega
    · obtain rfl : s = s2 := by omega
      rfl
theorem mputII {w : World} {b : Nat} {S : List (Int × Nat)} (h : OwnMII w b S) {k : Int} (hk : OkKII k) (s : Nat) (hl : S.length ≤ 1000000) :
    ∃ w', (Instr.mapUpdate 79 (.map (some b)) (kVII k) (.pointer (some ⟨s, 0, none⟩))).run Tryz.prog w = .ok () w' ∧ OwnMII w' b (setM S k s) ∧ Fr (fun j => j = b) w w' := by
  obtain ⟨⟨D, a5, a6⟩, a7⟩ := h
  obtain ⟨w', h1, h2, h3⟩ := a5.update keyedII Tryz.underlying79 (by unfold maxLen; omega) (keyOfII hk) (val := .pointer (some ⟨s, 0, none⟩)) (d := vP s) (ps := []) rfl
  have h6 := a6.put kLII_inj (a5.tidy keyedII) k (kLII_key k) s
  refine ⟨w', h1, ⟨⟨_, by rw [← h6.size]; exact owns_tightP h2, h6⟩, fun p hp => ?_⟩, (Fr.refl _ w).grown h3 fun j e => by cases e; exact .inr rfl⟩
  rcases mem_setM.1 hp with ⟨hp, _⟩ | rfl
  · exact a7 p hp
  · exact hk
theorem mdelII {w : World} {b : Nat} {S : List (Int × Nat)} (h : OwnMII w b S) {k : Int} (hk : OkKII k) (ty : TypeId) :
    ∃ w', (Builtin.delete_ #[79, 3] ty #[.map (some b), kVII k]).run Tryz.prog w = .ok (.tuple #[]) w' ∧ OwnMII w' b (delM S k) ∧ Fr (fun j => j = b) w w' := by
  obtain ⟨⟨D, a5, a6⟩, a7⟩ := h
  obtain ⟨w', h1, h2, h3⟩ := a5.drop keyedII Tryz.underlying79 (keyOfII hk) ty
  have h6 := a6.del kLII_inj (a5.tidy keyedII) k
  exact ⟨w', h1, ⟨⟨_, by rw [← h6.size]; exact owns_tightP h2, h6⟩, fun p hp => a7 p (mem_delM.1 hp).1⟩, (Fr.refl _ w).grown h3.grown fun j e => by cases e; exact .inr rfl⟩
/-- a map of sets as it lies -/
def MapStII (base : Nat) (w : World) (b : Nat) (T : List (Int × SetE (Int))) : Prop :=
  base ≤ b ∧ OwnMII w b (kp T) ∧ (∀ p ∈ T, SetAt base w p.2.s p.2.ob p.2.xs ∧ base ≤ p.2.s ∧ p.2.s ≠ b ∧ p.2.ob ≠ some b) ∧ AprT T
theorem setLtII {base : Nat} {w : World} {s : Nat} {ob : Option Nat} {xs : List (Int)} (h : SetAt base w s ob xs) : s < w.heap.size ∧ ∀ g, ob = some g → base ≤ g ∧ g < w.heap.size := by
  obtain ⟨⟨v, a, rfl, b⟩, c, d⟩ := h
  exact ⟨blk_lt a, fun g hg => b.lt g hg⟩
theorem blPII_lt {base : Nat} {w : World} {b : Nat} {T : List (Int × SetE (Int))} (h : MapStII base w b T) {j : Nat} (hj : BlP b T j) : base ≤ j ∧ j < w.heap.size := by
  obtain ⟨h1, h2, h3, h4⟩ := h
  rcases hj with rfl | ⟨p, hp, rfl | e⟩
  · exact ⟨h1, ownMII_lt h2⟩
  · exact ⟨(h3 p hp).2.1, (setLtII (h3 p hp).1).1⟩
  · exact (setLtII (h3 p hp).1).2 j e
theorem mapStII_same {base : Nat} {w w' : World} {b : Nat} {T : List (Int × SetE (Int))} (h : MapStII base w b T) (hs : ∀ j, BlP b T j → w'.heap[j]? = w.heap[j]?) : MapStII base w' b T := by
  obtain ⟨h1, h2, h3, h4⟩ := h
  exact ⟨h1, ownMII_same h2 (hs b (.inl rfl)), fun p hp => ⟨set_kept (h3 p hp).1 (hs _ (.inr ⟨p, hp, .inl rfl⟩)) fun g hg => hs g (.inr ⟨p, hp, .inr hg⟩), (h3 p hp).2⟩, h4⟩
theorem mapStII_fr {base : Nat} {w w' : World} {b : Nat} {T : List (Int × SetE (Int))} {X : Nat → Prop} (h : MapStII base w b T) (hf : Fr X w w') (hx : ∀ j, BlP b T j → ¬ X j) : MapStII base w' b T :=
  mapStII_same h fun j hj => hf.block j (blPII_lt h hj).2 (hx j hj)
theorem mapStII_nodup {base : Nat} {w : World} {b : Nat} {T : List (Int × SetE (Int))} (h : MapStII base w b T) : (T.map (·.1)).Nodup := by
  have := ownMII_nodup h.2.1
  unfold kp at this
  rwa [List.map_map] at this
/-- no set is empty -/
def NeTII (T : List (Int × SetE (Int))) : Prop := ∀ p ∈ T, p.2.xs ≠ []
/-- under one key stands something else now -/
def PutPII (base b : Nat) (T : List (Int × SetE (Int))) (k : Int) (zs : List (Int)) (w w' : World) : Prop :=
  ∃ T', MapStII base w' b T' ∧ (∀ j, lk T' j = if j = k then zs else lk T j) ∧ (NeTII T → NeTII T') ∧ Fr (BlP b T) w w' ∧ (∀ j, BlP b T' j → BlP b T j ∨ w.heap.size ≤ j) ∧ T'.length ≤ T.length + 1
/-- a set under a key turned, by a call that writes its blocks alone -/
theorem turnII {base : Nat} {w1 w' : World} {b : Nat} {T : List (Int × SetE (Int))} (h : MapStII base w1 b T) {k : Int} {e : SetE (Int)} (hl : lookM T k = some e) {ob' : Option Nat} {zs : List (Int)}
    (hs : SetAt base w' e.s ob' zs) (hnew : ∀ g, ob' = some g → g < w1.heap.size → e.ob = some g) (hf : Fr (fun j => j = e.s ∨ e.ob = some j) w1 w') :
    MapStII base w' b (setM T k ⟨e.s, ob', zs⟩) ∧ (∀ j, BlP b (setM T k ⟨e.s, ob', zs⟩) j → BlP b T j ∨ w1.heap.size ≤ j) := by
  obtain ⟨h1, h2, h3, h4⟩ := h
  have hm := lookM_memP hl
  have hne : ∀ p ∈ T, p.1 ≠ k → AprE p.2 e := fun p hp hpk => h4 p hp (k, e) hm hpk
  have hob : ∀ g, ob' = some g → e.ob = some g ∨ w1.heap.size ≤ g := fun g hg => by
    rcases Nat.lt_or_ge g w1.heap.size with h | h
    · exact .inl (hnew g hg h)
    · exact .inr h
  have hsz := fun p hp => setLtII (h3 p hp).1
  have hbl := ownMII_lt h2
  refine ⟨⟨h1, ?_, fun p hp => ?_, aprT_set h4 fun p hp hpk => ?_⟩, fun j hj => ?_⟩
  · rw [kp_set]
    refine ownMII_move (ownMII_same h2 (hf.block b hbl ?_)) (by rw [kp_look, hl]; rfl)
    rintro (e1 | e1)
    · exact (h3 _ hm).2.2.1 e1.symm
    · exact (h3 _ hm).2.2.2 e1
  · rcases mem_setM.1 hp with ⟨hp, hpk⟩ | rfl
    · have ha := hne p hp hpk
      refine ⟨set_kept (h3 p hp).1 (hf.block _ (hsz p hp).1 ?_) fun g hg => hf.block g ((hsz p hp).2 g hg).2 ?_, (h3 p hp).2⟩
      · rintro (e1 | e1)
        · exact ha.1 e1
        · exact ha.2.2.1 e1
      · rintro (e1 | e1)
        · exact ha.2.1 (e1 ▸ hg)
        · exact ha.2.2.2 g hg e1
    · refine ⟨hs, (h3 _ hm).2.1, (h3 _ hm).2.2.1, fun e1 => ?_⟩
      rcases hob b e1 with e2 | e2
      · exact (h3 _ hm).2.2.2 e2
      · omega
  · have ha := hne p hp hpk
    refine ⟨ha.1, ha.2.1, fun e1 => ?_, fun g hg e1 => ?_⟩
    · rcases hob _ e1 with e2 | e2
      · exact ha.2.2.1 e2
      · have := (hsz p hp).1; omega
    · rcases hob _ e1 with e2 | e2
      · exact ha.2.2.2 g hg e2
      · have := ((hsz p hp).2 g hg).2; omega
  · rcases hj with rfl | ⟨p, hp, hj⟩
    · exact .inl (.inl rfl)
    · rcases mem_setM.1 hp with ⟨hp, _⟩ | rfl
      · exact .inl (.inr ⟨p, hp, hj⟩)
      · rcases hj with rfl | hj
        · exact .inl (.inr ⟨(k, e), hm, .inl rfl⟩)
        · rcases hob j hj with e2 | e2
          · exact .inl (.inr ⟨(k, e), hm, .inr e2⟩)
          · exact .inr e2
end Go.Proofs.YteiiaocohpbanaaGreat
end
section
/- Layer 11: maps of ints to sets of ints: fill, empty. -/
namespace Go.Proofs.YteiiaocohpbanaaGreat
set_option linter.unusedVariables false
set_option linter.unusedSimpArgs false
open Go Go.RowKit Go.Maps Go.Lib

theorem set_baseII {b0 b1 : Nat} {w : World} {s : Nat} {ob : Option Nat} {xs : List (Int)} (h : SetAt b1 w s ob xs) (hb : b0 ≤ b1) : SetAt b0 w s ob xs := by
  obtain ⟨⟨v, h1, h2, h3⟩, h4, h5⟩ := h
  exact ⟨⟨v, h1, h2, row_baseP h3 hb⟩, h4, h5⟩
/-- a new empty set under a key that had none -/
theorem newII {base : Nat} {w w1 : World} {b : Nat} {T : List (Int × SetE (Int))} (h : MapStII base w b T) {k : Int} {s : Nat} {ob : Option Nat} (hs : SetAt w.heap.size w1 s ob []) (hsz : w.heap.size ≤ s) (hbw : base ≤ w.heap.size) (hf : Fr (fun _ => False) w w1) :
    (∀ w2, OwnMII w2 b (setM (kp T) k s) → Fr (fun j => j = b) w1 w2 → MapStII base w2 b (setM T k ⟨s, ob, []⟩)) ∧ ∀ j, BlP b (setM T k ⟨s, ob, []⟩) j → BlP b T j ∨ w.heap.size ≤ j := by
  have hlt : ∀ {j}, BlP b T j → j < w.heap.size := fun hj => (blPII_lt h hj).2
  have h' := mapStII_fr h hf fun _ _ e => e
  obtain ⟨h1, h2, h3, h4⟩ := h'
  have hob : ∀ g, ob = some g → w.heap.size ≤ g := fun g hg => ((setLtII hs).2 g hg).1
  refine ⟨fun w2 ho hf2 => ⟨h1, by rw [kp_set]; exact ho, fun p hp => ?_, aprT_set h4 fun p hp hpk => ?_⟩, fun j hj => ?_⟩
  · rcases mem_setM.1 hp with ⟨hp, hpk⟩ | rfl
    · obtain ⟨a1, a2, a3, a4⟩ := h3 p hp
      exact ⟨set_kept a1 (hf2.block _ (setLtII a1).1 a3) fun g hg => hf2.block g ((setLtII a1).2 g hg).2 (fun e => a4 (e ▸ hg)), a2, a3, a4⟩
    · have hb := hlt (.inl rfl : BlP b T b)
      refine ⟨set_kept (set_baseII hs hbw) (hf2.block _ (setLtII hs).1 (fun e => by have e : s = b := e; omega)) fun g hg => hf2.block g ((setLtII hs).2 g hg).2 (by have := hob g hg; omega), Nat.le_trans hbw hsz, fun e => by have e : s = b := e; omega, fun e => ?_⟩
      have := hob b e; omega
  · have q1 := hlt (.inr ⟨p, hp, .inl rfl⟩ : BlP b T p.2.s)
    have q2 := fun g (hg : p.2.ob = some g) => hlt (.inr ⟨p, hp, .inr hg⟩ : BlP b T g)
    refine ⟨fun e => by have e : p.2.s = s := e; omega, fun e => ?_, fun e => ?_, fun g hg e => ?_⟩
    · have := q2 s e; omega
    · have := hob _ e; omega
    · have := q2 _ hg; have := hob _ e; omega
  · rcases hj with rfl | ⟨p, hp, hj⟩
    · exact .inl (.inl rfl)
    · rcases mem_setM.1 hp with ⟨hp, _⟩ | rfl
      · exact .inl (.inr ⟨p, hp, hj⟩)
      · rcases hj with rfl | hj
        · exact .inr hsz
        · exact .inr (hob j hj)
theorem lkUpII {base : Nat} {w : World} {b : Nat} {T : List ((Int) × SetE (Int))} (h : MapStII base w b T) (k : Int) : (lk T k).Pairwise (· < ·) := by
  unfold lk
  cases hl : lookM T k with
  | none => exact List.Pairwise.nil
  | some e => exact (h.2.2.1 _ (lookM_memP hl)).1.2.2
theorem made_stII {base : Nat} {w : World} {b : Nat} (hb : base ≤ b) (h : ∃ n, w.ownsMap Tryz.prog 3 ptrE b n (.map [] : DataW Unit) ∧ n = 0) : MapStII base w b [] := by
  obtain ⟨n, h, rfl⟩ := h
  exact ⟨hb, ⟨⟨.map [], h, mapHas_empty _ _⟩, (fun p hp => by cases hp)⟩, (fun p hp => by cases hp), (fun p hp => by cases hp)⟩
theorem lk_noneII {T : List (Int × SetE (Int))} {k : Int} (h : lookM T k = none) : lk T k = [] := by unfold lk; rw [h]
theorem lk_someII {T : List (Int × SetE (Int))} {k : Int} {e : SetE (Int)} (h : lookM T k = some e) : lk T k = e.xs := by unfold lk; rw [h]
theorem lkHasII {T : List ((Int) × SetE (Int))} {a : Int} {b : Int} (h : b ∈ lk T a) : ∃ e, lookM T a = some e ∧ e.xs = lk T a := by
  unfold lk at h ⊢
  cases hl : lookM T a with
  | none => rw [hl] at h; cases h
  | some e => exact ⟨e, rfl, rfl⟩
theorem insAll1II (xs : List (Int)) (x : Int) : insAll xs [x] = insI xs x := rfl
theorem delAll1II (xs : List (Int)) (x : Int) : delAll xs [x] = delI xs x := rfl
theorem insNeII (xs : List (Int)) (x : Int) : insI xs x ≠ [] := fun e => by
  have := insI_len xs x
  rw [e] at this
  split at this
  · rename_i h; simp only [List.length_nil] at this
    have := List.eq_nil_of_length_eq_zero this.symm
    subst this; simp at h
  · simp at this
theorem neT_setII {T : List (Int × SetE (Int))} (h : NeTII T) {k : Int} {e : SetE (Int)} (he : e.xs ≠ []) : NeTII (setM T k e) := fun p hp => by
  rcases mem_setM.1 hp with ⟨hp, _⟩ | rfl
  · exact h p hp
  · exact he
set_option maxRecDepth 100000 in
set_option maxHeartbeats 4000000 in
theorem fillII {base : Nat} {w : World} {b : Nat} {T : List (Int × SetE (Int))} (h : MapStII base w b T) (hbw : base ≤ w.heap.size) {k : Int} (hk : OkKII k) (x : Int) (hT : T.length ≤ 100000) (hl : (lk T k).length ≤ 100000) :
    Calls Tryz.prog 42 #[.map (some b), .int .i64 k, .int .i64 x] w fun e w' => e = .returned (.tuple #[]) ∧ PutPII base b T k (insI (lk T k) x) w w' := by
  have hlook := mlookII h.2.1 hk
  rw [kp_look] at hlook
  cases hlk : lookM T k with
  | none =>
    rw [hlk] at hlook
    simp only [Option.map_none] at hlook
    have HOf := Lib.hid (set_of_none w)
    have HH := Lib.hid h
    have HK := Lib.hid hk
    have hlk0 := Lib.hid hlk
    have hl0 := lk_noneII hlk
    rw [hl0]
    have HL0 := Lib.hid hl0
    unfold kVII at hlook
    clear hlk h hk hl0
    go_enter Tryz.func42, Tryz.ntmps42
    go_wp2_with fail
    refine HOf.out.mono ?_
    rintro e w1 ⟨⟨s, ob, rfl, hs, hsz⟩, hb1⟩
    have hf1 := Fr.of_below (X := fun _ => False) hb1
    have ho1 := ownMII_same HH.out.2.1 (hf1.block b (ownMII_lt HH.out.2.1) fun e => e)
    obtain ⟨w2, hput, ho2, hf2⟩ := mputII ho1 HK.out s (by rw [kp_len]; omega)
    obtain ⟨hm, hbl⟩ := newII (k := k) HH.out hs hsz hbw hf1
    have hm2 := hm w2 ho2 hf2
    have hlook2 := mlookII hm2.2.1 HK.out
    rw [kp_look, lookM_set, if_pos rfl] at hlook2
    simp only [Option.map_some] at hlook2
    unfold kVII at hput hlook2
    obtain ⟨w3, hw3⟩ : ∃ w3, w2.alloc (Obj.cells #[.int .i64 x] 3) = w3 := ⟨_, rfl⟩
    have hf3 : Fr (fun _ => False) w2 w3 := by rw [← hw3]; exact (Fr.refl _ w2).alloc _
    have hm3 := mapStII_fr hm2 hf3 fun _ _ e => e
    have hn3 : w3.heap[w2.heap.size]? = some (.cells #[.int .i64 x] 3 (0, 0)) := by rw [← hw3]; exact heap_alloc_new w2 _
    have hz3 := blk_lt hn3
    have hmem : (k, (⟨s, ob, []⟩ : SetE (Int))) ∈ setM T k ⟨s, ob, []⟩ := mem_setM.2 (.inr rfl)
    have hset3 := (hm3.2.2.1 _ hmem).1
    have hz12 := hf2.size
    have hz01 := hf1.size
    have hlts := (setLtII hs).1
    have hltg := (setLtII hs).2
    have HAdd := Lib.hid (set_add hset3 (by have := hf3.size; omega) (some ⟨w2.heap.size, 0, none⟩) [x] 1 (by simp) (fun _ => ⟨_, _, rfl, hz3, by simp only []; omega, fun e => by have := (hltg _ e).2; omega, fun j hj => by
      obtain rfl : j = 0 := by simp at hj; omega
      exact blk_cell hn3 0⟩))
    have H := Lib.hid (And.intro hm3 (And.intro hbl (And.intro hf1 (And.intro hf2 hf3))))
    have HW := Lib.hid hw3
    clear hw3 hm3 hbl hf1 hf2 hf3 hm hm2 ho1 ho2 hb1 hs hn3 hz3 hset3 hmem hltg
    go_wp2_with fail
    rw [HW.out]
    refine HAdd.out.mono ?_
    rintro e w4 ⟨rfl, ob', hs4, hn4, hf4⟩
    obtain ⟨hm3, hbl, hf1, hf2, hf3⟩ := H.out
    obtain ⟨hm4, hbl4⟩ := turnII hm3 (k := k) (e := ⟨s, ob, []⟩) (by rw [lookM_set, if_pos rfl]) hs4 hn4 hf4
    have hlen : (setM (setM T k ⟨s, ob, []⟩) k (⟨s, ob', insAll [] [x]⟩ : SetE (Int))).length ≤ T.length + 1 := by rw [setM_setM]; exact len_setP _ _ _
    have hP : PutPII base b T k (insI [] x) w w4 := by
      refine ⟨_, hm4, fun j => ?_, fun hne => ?_, ?_, fun j hj => ?_, hlen⟩
      · rw [lk_set, lk_set]
        by_cases e : j = k
        · rw [if_pos e, if_pos e]; rfl
        · rw [if_neg e, if_neg e, if_neg e]
      · rw [setM_setM]
        exact neT_setII hne (insNeII [] x)
      · refine (((hf1.mono fun _ _ e => e.elim : Fr (BlP b T) w w1).trans3 hf2 fun j hj e => ?_).trans3 hf3 fun j hj e => e.elim).trans3 hf4 fun j hj e => ?_
        · subst e; exact .inl rfl
        · rcases e with rfl | e
          · omega
          · have := (hbl j (.inr ⟨_, mem_setM.2 (.inr rfl), .inr e⟩)).resolve_right (by omega)
            exact this
      · rcases hbl4 j hj with e | e
        · exact hbl j e
        · exact .inr (by have := hf3.size; omega)
    have HP := Lib.hid hP
    clear hP hm4 hbl4 hlen hm3 hbl hf1 hf2 hf3 hs4 hn4 hf4
    go_wp2_with fail
    go_end0
    exact ⟨rfl, HP.out⟩
  | some e =>
    rw [hlk] at hlook
    simp only [Option.map_some] at hlook
    rw [lk_someII hlk] at hl ⊢
    have hmem := lookM_memP hlk
    obtain ⟨w3, hw3⟩ : ∃ w3, w.alloc (Obj.cells #[.int .i64 x] 3) = w3 := ⟨_, rfl⟩
    have hf3 : Fr (fun _ => False) w w3 := by rw [← hw3]; exact (Fr.refl _ w).alloc _
    have hm3 := mapStII_fr h hf3 fun _ _ e => e
    have hn3 : w3.heap[w.heap.size]? = some (.cells #[.int .i64 x] 3 (0, 0)) := by rw [← hw3]; exact heap_alloc_new w _
    have hz3 := blk_lt hn3
    have hset3 := (hm3.2.2.1 _ hmem).1
    have hlts := (setLtII (h.2.2.1 _ hmem).1).1
    have hltg := (setLtII (h.2.2.1 _ hmem).1).2
    have HAdd := Lib.hid (set_add hset3 (by omega) (some ⟨w.heap.size, 0, none⟩) [x] 1 (by simp only [List.length_singleton]; omega) (fun _ => ⟨_, _, rfl, hz3, fun e1 => by have e1 : w.heap.size = e.s := e1; have hlts : e.s < w.heap.size := hlts; omega, fun e1 => by have := (hltg _ e1).2; omega, fun j hj => by
      obtain rfl : j = 0 := by simp at hj; omega
      exact blk_cell hn3 0⟩))
    obtain ⟨es, eob, exs⟩ := e
    have H := Lib.hid (And.intro hm3 (And.intro hlk hf3))
    have HW := Lib.hid hw3
    unfold kVII at hlook
    clear hw3 hm3 hf3 hn3 hz3 hset3 hmem hltg hlk h hlts
    dsimp only [] at HAdd hlook hl
    dsimp only []
    go_enter Tryz.func42, Tryz.ntmps42
    go_wp2_with fail
    rw [HW.out]
    refine HAdd.out.mono ?_
    rintro e w4 ⟨rfl, ob', hs4, hn4, hf4⟩
    obtain ⟨hm3, hlk, hf3⟩ := H.out
    obtain ⟨hm4, hbl4⟩ := turnII hm3 (k := k) (e := ⟨es, eob, exs⟩) hlk hs4 hn4 hf4
    have hmem := lookM_memP hlk
    have hP : PutPII base b T k (insI exs x) w w4 := by
      refine ⟨_, hm4, fun j => ?_, fun hne => ?_, ?_, fun j hj => ?_, len_setP _ _ _⟩
      · rw [lk_set]; rfl
      · exact neT_setII hne (insNeII exs x)
      · refine (hf3.mono fun _ _ e => e.elim : Fr (BlP b T) w w3).trans3 hf4 fun j hj e => ?_
        rcases e with rfl | e
        · exact .inr ⟨_, hmem, .inl rfl⟩
        · exact .inr ⟨_, hmem, .inr e⟩
      · rcases hbl4 j hj with e | e
        · exact .inl e
        · exact .inr (by have := hf3.size; omega)
    have HP := Lib.hid hP
    clear hP hm4 hbl4 hm3 hf3 hs4 hn4 hf4 hlk hmem
    go_wp2_with fail
    go_end0
    exact ⟨rfl, HP.out⟩
theorem delStII {base : Nat} {w w' : World} {b : Nat} {T : List (Int × SetE (Int))} (h : MapStII base w b T) {k : Int} (ho : OwnMII w' b (delM (kp T) k)) (hf : Fr (fun j => j = b) w w') : MapStII base w' b (delM T k) := by
  obtain ⟨h1, h2, h3, h4⟩ := h
  refine ⟨h1, by rw [kp_del]; exact ho, fun p hp => ?_, aprT_del h4 k⟩
  obtain ⟨a1, a2, a3, a4⟩ := h3 p (mem_delM.1 hp).1
  exact ⟨set_kept a1 (hf.block _ (setLtII a1).1 a3) fun g hg => hf.block g ((setLtII a1).2 g hg).2 (fun e => a4 (e ▸ hg)), a2, a3, a4⟩
set_option maxRecDepth 100000 in
set_option maxHeartbeats 4000000 in
theorem emptyII {base : Nat} {w : World} {b : Nat} {T : List (Int × SetE (Int))} (h : MapStII base w b T) (hbw : base ≤ w.heap.size) {k : Int} (hk : OkKII k) (x : Int) {e : SetE (Int)} (hlk : lookM T k = some e) (hl : e.xs.length ≤ 100000) :
    Calls Tryz.prog 44 #[.map (some b), .int .i64 k, .int .i64 x] w fun e' w' => e' = .returned (.tuple #[]) ∧ PutPII base b T k (delI (lk T k) x) w w' := by
  have hlook := mlookII h.2.1 hk
  rw [kp_look] at hlook
  rw [hlk] at hlook
  simp only [Option.map_some] at hlook
  rw [lk_someII hlk]
  have hmem := lookM_memP hlk
  obtain ⟨w3, hw3⟩ : ∃ w3, w.alloc (Obj.cells #[.int .i64 x] 3) = w3 := ⟨_, rfl⟩
  have hf3 : Fr (fun _ => False) w w3 := by rw [← hw3]; exact (Fr.refl _ w).alloc _
  have hm3 := mapStII_fr h hf3 fun _ _ e => e
  have hn3 : w3.heap[w.heap.size]? = some (.cells #[.int .i64 x] 3 (0, 0)) := by rw [← hw3]; exact heap_alloc_new w _
  have hz3 := blk_lt hn3
  have hset3 := (hm3.2.2.1 _ hmem).1
  have hlts := (setLtII (h.2.2.1 _ hmem).1).1
  have hltg := (setLtII (h.2.2.1 _ hmem).1).2
  have HRem := Lib.hid (set_rem hset3 (by omega) (some ⟨w.heap.size, 0, none⟩) [x] 1 (by dsimp only []; omega) (by simp) (fun _ => ⟨_, _, rfl, hz3, fun e1 => by have e1 : w.heap.size = e.s := e1; have hlts : e.s < w.heap.size := hlts; omega, fun e1 => by have := (hltg _ e1).2; omega, fun j hj => by
    obtain rfl : j = 0 := by simp at hj; omega
    exact blk_cell hn3 0⟩))
  obtain ⟨es, eob, exs⟩ := e
  have HK := Lib.hid hk
  have H := Lib.hid (And.intro hm3 (And.intro hlk hf3))
  have HW := Lib.hid hw3
  unfold kVII at hlook
  clear hw3 hm3 hf3 hn3 hz3 hset3 hmem hltg hlk h hlts hk
  dsimp only [] at HRem hlook hl
  dsimp only []
  obtain ⟨zs, hzs⟩ : ∃ zs, delI exs x = zs := ⟨_, rfl⟩
  rw [hzs]
  have HZ := Lib.hid hzs
  clear hzs
  go_enter Tryz.func44, Tryz.ntmps44
  go_wp2_with fail
  rw [HW.out]
  refine HRem.out.mono ?_
  rintro e w4 ⟨rfl, ob', hs4, hn4, hf4⟩
  obtain ⟨hm3, hlk, hf3⟩ := H.out
  obtain ⟨hm4, hbl4⟩ := turnII hm3 (k := k) (e := ⟨es, eob, exs⟩) hlk hs4 hn4 hf4
  have hmem := lookM_memP hlk
  rw [delAll1II, HZ.out] at hs4 hm4 hbl4
  have hlook4 := mlookII hm4.2.1 HK.out
  rw [kp_look, lookM_set, if_pos rfl] at hlook4
  simp only [Option.map_some] at hlook4
  unfold kVII at hlook4
  have hlen := set_len hs4
  have hfr : Fr (BlP b T) w w4 := (hf3.mono fun _ _ e => e.elim : Fr (BlP b T) w w3).trans3 hf4 fun j hj e => by
    rcases e with rfl | e
    · exact .inr ⟨_, hmem, .inl rfl⟩
    · exact .inr ⟨_, hmem, .inr e⟩
  have hbl : ∀ j, BlP b (setM T k ⟨es, ob', zs⟩) j → BlP b T j ∨ w.heap.size ≤ j := fun j hj => by
    rcases hbl4 j hj with e | e
    · exact .inl e
    · exact .inr (by have := hf3.size; omega)
  have HL := Lib.hid hlen
  by_cases h0 : zs.length = 0
  · obtain rfl := List.eq_nil_of_length_eq_zero h0
    obtain ⟨w5, hdel, ho5, hf5⟩ := mdelII hm4.2.1 HK.out 0
    have hP : PutPII base b T k [] w w5 := by
      refine ⟨_, delStII hm4 ho5 hf5, fun j => ?_, fun hne p hp => ?_, hfr.trans3 hf5 fun j hj e => e ▸ .inl rfl, fun j hj => ?_, ?_⟩
      · rw [lk_del, lk_set]
        by_cases e : j = k
        · simp only [if_pos e]
        · simp only [if_neg e]
      · obtain ⟨hp, hpk⟩ := mem_delM.1 hp
        rcases mem_setM.1 hp with ⟨hp, _⟩ | rfl
        · exact hne p hp
        · exact absurd rfl hpk
      · refine hbl j ?_
        rcases hj with rfl | ⟨p, hp, hj⟩
        · exact .inl rfl
        · exact .inr ⟨p, (mem_delM.1 hp).1, hj⟩
      · exact Nat.le_trans (List.length_filter_le _ _) (len_setP T k (⟨es, ob', []⟩ : SetE (Int)))
    have HP := Lib.hid hP
    unfold kVII at hdel
    clear hP hm4 hbl4 hm3 hf3 hs4 hn4 hf4 hlk hmem hfr hbl hlen ho5 hf5 h0
    go_wp2_with fail
    refine HL.out.mono ?_
    rintro e w6 ⟨rfl, rfl⟩
    go_wp2_with fail
    go_end0
    exact ⟨rfl, HP.out⟩
  · have hd : ((zs.length : Int) == 0) = false := by rw [beq_eq_false_iff_ne]; omega
    have hP : PutPII base b T k zs w w4 := by
      refine ⟨_, hm4, fun j => ?_, fun hne => ?_, hfr, hbl, len_setP _ _ _⟩
      · rw [lk_set]
      · exact neT_setII hne (fun e => h0 (by rw [show zs = [] from e]; rfl))
    have HP := Lib.hid hP
    clear hP hm4 hbl4 hm3 hf3 hs4 hn4 hf4 hlk hmem hfr hbl hlen h0
    go_wp2_with fail
    refine HL.out.mono ?_
    rintro e w6 ⟨rfl, rfl⟩
    go_wp2_with fail
    go_end0
    exact ⟨rfl, HP.out⟩
end Go.Proofs.YteiiaocohpbanaaGreat
end
section
/- Layer 11: a relation of ints and ints as it lies: New, rights, Has, Count, Len, Of, By. -/
namespace Go.Proofs.YteiiaocohpbanaaGreat
set_option linter.unusedVariables false
set_option linter.unusedSimpArgs false
open Go Go.RowKit Go.Maps Go.Lib

/-- a relation as it lies: its block, its maps, how many may be, the pairs as they came -/
structure RelStII (base : Nat) (w : World) (t b1 b2 : Nat) (most : Int) (L : List ((Int) × (Int))) (T1 : List ((Int) × SetE (Int))) (T2 : List ((Int) × SetE (Int))) : Prop where
  le : base ≤ t
  blk : w.heap[t]? = some (.cells #[.int .i64 most, .int .i64 L.length, .map (some b1), .map (some b2)] 81 (0, 0))
  m1 : MapStII base w b1 T1
  m2 : MapStII base w b2 T2
  n1 : NeTII T1
  n2 : NeTII T2
  ap : ∀ j, BlP b1 T1 j → ¬ BlP b2 T2 j
  t1 : ¬ BlP b1 T1 t
  t2 : ¬ BlP b2 T2 t
  h1 : ∀ a b, b ∈ lk T1 a ↔ (a, b) ∈ L
  h2 : ∀ a b, a ∈ lk T2 b ↔ (a, b) ∈ L
  nd : L.Nodup
theorem RelStII.same {base : Nat} {w w' : World} {t b1 b2 : Nat} {most : Int} {L : List ((Int) × (Int))} {T1 : List ((Int) × SetE (Int))} {T2 : List ((Int) × SetE (Int))} (h : RelStII base w t b1 b2 most L T1 T2)
    (hs : ∀ j, (j = t ∨ BlP b1 T1 j ∨ BlP b2 T2 j) → w'.heap[j]? = w.heap[j]?) : RelStII base w' t b1 b2 most L T1 T2 :=
  ⟨h.le, (hs t (.inl rfl)).trans h.blk, mapStII_same h.m1 fun j hj => hs j (.inr (.inl hj)), mapStII_same h.m2 fun j hj => hs j (.inr (.inr hj)), h.n1, h.n2, h.ap, h.t1, h.t2, h.h1, h.h2, h.nd⟩
theorem RelStII.lt {base : Nat} {w : World} {t b1 b2 : Nat} {most : Int} {L : List ((Int) × (Int))} {T1 : List ((Int) × SetE (Int))} {T2 : List ((Int) × SetE (Int))} (h : RelStII base w t b1 b2 most L T1 T2)
    {j : Nat} (hj : j = t ∨ BlP b1 T1 j ∨ BlP b2 T2 j) : base ≤ j ∧ j < w.heap.size := by
  rcases hj with rfl | hj | hj
  · exact ⟨h.le, blk_lt h.blk⟩
  · exact blPII_lt h.m1 hj
  · exact blPII_lt h.m2 hj
theorem RelStII.keys {base : Nat} {w : World} {t b1 b2 : Nat} {most : Int} {L : List ((Int) × (Int))} {T1 : List ((Int) × SetE (Int))} {T2 : List ((Int) × SetE (Int))} (h : RelStII base w t b1 b2 most L T1 T2) :
    T1.length ≤ L.length ∧ T2.length ≤ L.length ∧ (∀ a, (lk T1 a).length ≤ L.length) ∧ ∀ b, (lk T2 b).length ≤ L.length := by
  refine ⟨keys_le (mapStII_nodup h.m1) h.n1 fun a b hb => (h.h1 a b).1 hb, ?_, fun a => lk_le (up_nodup (lkUpII h.m1 a)) fun b hb => (h.h1 a b).1 hb, fun b => ?_⟩
  · have := keys_le (L := L.map fun p => (p.2, p.1)) (mapStII_nodup h.m2) h.n2 fun b a ha => List.mem_map.2 ⟨(a, b), (h.h2 a b).1 ha, rfl⟩
    simpa using this
  · have := lk_le (L := L.map fun p => (p.2, p.1)) (a := b) (up_nodup (lkUpII h.m2 b)) fun a ha => List.mem_map.2 ⟨(a, b), (h.h2 a b).1 ha, rfl⟩
    simpa using this
section
variable {base : Nat} {w : World} {t b1 b2 : Nat} {most : Int} {L : List ((Int) × (Int))} {T1 : List ((Int) × SetE (Int))} {T2 : List ((Int) × SetE (Int))}
set_option maxHeartbeats 1000000 in
theorem rightsII (h : RelStII base w t b1 b2 most L T1 T2) {a : Int} (ha : OkKII a) :
    Calls Tryz.prog 54 #[.pointer (some ⟨t, 0, none⟩), .int .i64 a] w fun e w' => e = .returned (.pointer ((lookM T1 a).map fun e => ⟨e.s, 0, none⟩)) ∧ w' = w := by
  have c2 := blk_cell h.blk 2
  have hlook := mlookII h.m1.2.1 ha
  rw [kp_look, Option.map_map] at hlook
  unfold kVII at hlook
  obtain ⟨p, hp⟩ : ∃ p, Option.map ((fun s => (⟨s, 0, none⟩ : Addr)) ∘ fun x => x.s) (lookM T1 a) = p := ⟨_, rfl⟩
  rw [hp] at hlook
  have HP := Lib.hid hp
  clear hp h
  go_enter Tryz.func54, Tryz.ntmps54
  go_wp2_with fail
  go_ret
  exact ⟨by rw [← HP.out]; rfl, rfl⟩
theorem hasEqII (h : RelStII base w t b1 b2 most L T1 T2) (a : Int) (b : Int) : (lk T1 a).contains b = decide ((a, b) ∈ L) := by
  rw [Bool.eq_iff_iff, List.contains_iff_mem, decide_eq_true_iff]
  exact h.h1 a b
set_option maxHeartbeats 1000000 in
theorem relHasII (h : RelStII base w t b1 b2 most L T1 T2) (hL : L.length ≤ 100000) {a : Int} (ha : OkKII a) (b : Int) :
    Calls Tryz.prog 40 #[.pointer (some ⟨t, 0, none⟩), .int .i64 a, .int .i64 b] w fun e w' => e = .returned (.bool (decide ((a, b) ∈ L))) ∧ ∃ q, w' = w.drewN q := by
  have hr := rightsII h ha
  have hq := hasEqII h a b
  have hk := (h.keys).2.2.1 a
  cases hl : lookM T1 a with
  | none =>
    rw [hl] at hr
    rw [lk_noneII hl] at hq
    rw [← hq]
    have HS := Lib.hid (set_has_nil b w)
    have HR := Lib.hid hr
    clear hr hq h hl
    go_enter Tryz.func40, Tryz.ntmps40
    go_wp2_with fail
    refine HR.out.mono ?_
    rintro e w1 ⟨rfl, rfl⟩
    go_wp2_with fail
    refine HS.out.mono ?_
    rintro e w2 ⟨rfl, rfl⟩
    go_wp2_with fail
    go_ret
    exact ⟨rfl, 0, rfl⟩
  | some e =>
    rw [hl] at hr
    rw [lk_someII hl] at hq hk
    rw [← hq]
    have HS := Lib.hid (set_has (h.m1.2.2.1 _ (lookM_memP hl)).1 (by dsimp only []; omega) b)
    have HR := Lib.hid hr
    obtain ⟨es, eob, exs⟩ := e
    dsimp only [Option.map_some] at HR HS
    dsimp only []
    obtain ⟨d, hd⟩ : ∃ d, exs.contains b = d := ⟨_, rfl⟩
    rw [hd] at HS ⊢
    clear hr hq h hl hd
    go_enter Tryz.func40, Tryz.ntmps40
    go_wp2_with fail
    refine HR.out.mono ?_
    rintro e w1 ⟨rfl, rfl⟩
    go_wp2_with fail
    refine HS.out.mono ?_
    rintro e w2 ⟨rfl, q, rfl⟩
    go_wp2_with fail
    go_ret
    exact ⟨rfl, q, rfl⟩
set_option maxHeartbeats 1000000 in
theorem relCountII (h : RelStII base w t b1 b2 most L T1 T2) {a : Int} (ha : OkKII a) :
    Calls Tryz.prog 41 #[.pointer (some ⟨t, 0, none⟩), .int .i64 a] w fun e w' => e = .returned (.int .i64 (lk T1 a).length) ∧ w' = w := by
  have hr := rightsII h ha
  cases hl : lookM T1 a with
  | none =>
    rw [hl] at hr
    rw [lk_noneII hl]
    have HS := Lib.hid (set_len_nil w)
    have HR := Lib.hid hr
    clear hr h hl
    go_enter Tryz.func41, Tryz.ntmps41
    go_wp2_with fail
    refine HR.out.mono ?_
    rintro e w1 ⟨rfl, rfl⟩
    go_wp2_with fail
    refine HS.out.mono ?_
    rintro e w2 ⟨rfl, rfl⟩
    go_wp2_with fail
    go_ret
    exact ⟨rfl, rfl⟩
  | some e =>
    rw [hl] at hr
    rw [lk_someII hl]
    have HS := Lib.hid (set_len (h.m1.2.2.1 _ (lookM_memP hl)).1)
    have HR := Lib.hid hr
    obtain ⟨es, eob, exs⟩ := e
    dsimp only [Option.map_some] at HR HS
    dsimp only []
    clear hr h hl
    go_enter Tryz.func41, Tryz.ntmps41
    go_wp2_with fail
    refine HR.out.mono ?_
    rintro e w1 ⟨rfl, rfl⟩
    go_wp2_with fail
    refine HS.out.mono ?_
    rintro e w2 ⟨rfl, rfl⟩
    go_wp2_with fail
    go_ret
    exact ⟨rfl, rfl⟩
set_option maxHeartbeats 1000000 in
theorem relLenII (h : RelStII base w t b1 b2 most L T1 T2) :
    Calls Tryz.prog 27 #[.pointer (some ⟨t, 0, none⟩)] w fun e w' => e = .returned (.int .i64 L.length) ∧ w' = w := by
  have c1 := blk_cell h.blk 1
  clear h
  go_enter Tryz.func27, Tryz.ntmps27
  go_wp2_with fail
  go_ret
  exact ⟨rfl, rfl⟩
set_option maxHeartbeats 1000000 in
theorem relByII (h : RelStII base w t b1 b2 most L T1 T2) (hL : L.length ≤ 100000) {b : Int} (hb : OkKII b) :
    Calls Tryz.prog 28 #[.pointer (some ⟨t, 0, none⟩), .int .i64 b] w (AllP (lk T2 b) w) := by
  have c3 := blk_cell h.blk 3
  have hlook := mlookII h.m2.2.1 hb
  rw [kp_look, Option.map_map] at hlook
  unfold kVII at hlook
  have hk := (h.keys).2.2.2 b
  have HA : Hid (Calls Tryz.prog 43 #[.pointer ((lookM T2 b).map fun e => ⟨e.s, 0, none⟩)] w (AllP (lk T2 b) w)) := by
    cases hl : lookM T2 b with
    | none => rw [lk_noneII hl]; exact set_all_nil w
    | some e => rw [lk_someII hl]; exact set_all (h.m2.2.2.1 _ (lookM_memP hl)).1 (by rw [lk_someII hl] at hk; exact Nat.le_trans hk (by omega))
  obtain ⟨p, hp⟩ : ∃ p, Option.map ((fun s => (⟨s, 0, none⟩ : Addr)) ∘ fun x => x.s) (lookM T2 b) = p := ⟨_, rfl⟩
  rw [hp] at hlook
  have hp2 : (lookM T2 b).map (fun e => (⟨e.s, 0, none⟩ : Addr)) = p := hp
  rw [hp2] at HA
  clear hp hp2 h
  go_enter Tryz.func28, Tryz.ntmps28
  go_wp2_with fail
  refine HA.out.mono ?_
  intro e w2 h
  obtain ⟨⟨F, rfl, h4⟩, h5⟩ := h
  have H2 := Lib.hid (And.intro h4 h5)
  clear h4 h5
  go_wp2_with fail
  go_ret
  exact ⟨⟨_, rfl, H2.out.1⟩, H2.out.2⟩
end
end Go.Proofs.YteiiaocohpbanaaGreat
end
section
/- Layer 11: a relation of ints and ints: New, Add, Remove; nil ones. -/
namespace Go.Proofs.YteiiaocohpbanaaGreat
set_option linter.unusedVariables false
set_option linter.unusedSimpArgs false
open Go Go.RowKit Go.Maps Go.Lib

/-- a relation, in words of the blocks that it has -/
def RelAtII (base : Nat) (w : World) (t : Nat) (X : Nat → Prop) (most : Int) (L : List ((Int) × (Int))) : Prop := ∃ b1 b2 T1 T2, RelStII base w t b1 b2 most L T1 T2 ∧ ∀ j, X j ↔ (j = t ∨ BlP b1 T1 j ∨ BlP b2 T2 j)
theorem RelAtII.same {base : Nat} {w w' : World} {t : Nat} {X : Nat → Prop} {most : Int} {L : List ((Int) × (Int))} (h : RelAtII base w t X most L) (hs : ∀ j, X j → w'.heap[j]? = w.heap[j]?) : RelAtII base w' t X most L := by
  obtain ⟨b1, b2, T1, T2, h1, h2⟩ := h
  exact ⟨b1, b2, T1, T2, h1.same fun j hj => hs j ((h2 j).2 hj), h2⟩
theorem RelAtII.lt {base : Nat} {w : World} {t : Nat} {X : Nat → Prop} {most : Int} {L : List ((Int) × (Int))} (h : RelAtII base w t X most L) {j : Nat} (hj : X j) : base ≤ j ∧ j < w.heap.size := by
  obtain ⟨b1, b2, T1, T2, h1, h2⟩ := h
  exact h1.lt ((h2 j).1 hj)
theorem RelAtII.fr {base : Nat} {w w' : World} {t : Nat} {X Z : Nat → Prop} {most : Int} {L : List ((Int) × (Int))} (h : RelAtII base w t X most L) (hf : Fr Z w w') (hz : ∀ j, X j → ¬ Z j) : RelAtII base w' t X most L := h.same fun j hj => hf.block j (h.lt hj).2 (hz j hj)
theorem RelAtII.own {base : Nat} {w : World} {t : Nat} {X : Nat → Prop} {most : Int} {L : List ((Int) × (Int))} (h : RelAtII base w t X most L) : X t := by
  obtain ⟨b1, b2, T1, T2, h1, h2⟩ := h
  exact (h2 t).2 (.inl rfl)
theorem RelAtII.nodup {base : Nat} {w : World} {t : Nat} {X : Nat → Prop} {most : Int} {L : List ((Int) × (Int))} (h : RelAtII base w t X most L) : L.Nodup := by
  obtain ⟨b1, b2, T1, T2, h1, h2⟩ := h
  exact h1.nd
/-- a new one -/
def NewRII (most : Int) (w : World) (e : Ending) (w' : World) : Prop := ∃ t X, e = .returned (.tuple #[.pointer (some ⟨t, 0, none⟩), .int .i64 0]) ∧ RelAtII w.heap.size w' t X most [] ∧ (∀ j, X j → w.heap.size ≤ j) ∧ Below w.heap.size w w'
set_option maxHeartbeats 1000000 in
theorem relNewII {most : Int} (hm : 0 ≤ most ∧ most ≤ 100000) (w : World) : Calls Tryz.prog 25 #[.int .i64 most] w (NewRII most w) := by
  have hmm := @run_makeMap Tryz.prog
  have p1 : decide (most < 0) = false := by simp; omega
  have p2 : decide (100000 < most) = false := by simp; omega
  have p3 : ¬ most < 0 := by omega
  have p4 : ¬ 100000 < most := by omega
  go_enter Tryz.func25, Tryz.ntmps25
  go_wp2_with fail
  go_ret2
  have z1 : (w.alloc (Obj.map #[] 0)).heap.size = w.heap.size + 1 := World.size_alloc _ _
  have z2 : ((w.alloc (Obj.map #[] 0)).alloc (Obj.map #[] 0)).heap.size = w.heap.size + 2 := by rw [World.size_alloc, World.size_alloc]
  refine ⟨w.heap.size + 2, fun j => j = w.heap.size + 2 ∨ j = w.heap.size ∨ j = w.heap.size + 1, rfl, ⟨w.heap.size, w.heap.size + 1, [], [], ⟨by omega, ?_, ?_, ?_, (fun p hp => by cases hp), (fun p hp => by cases hp), ?_, ?_, ?_, ?_, ?_, List.nodup_nil⟩, fun j => ?_⟩, fun j hj => by omega, (((Below.refl _ _).alloc (Nat.le_refl _) _).alloc (by omega) _).alloc (by omega) _⟩
  · have := heap_alloc_new ((w.alloc (Obj.map #[] 0)).alloc (Obj.map #[] 0)) (Obj.cells #[Value.int .i64 most, Value.int .i64 0, Value.map (some w.heap.size), Value.map (some (w.heap.size + 1))] 81)
    rwa [z2] at this
  · exact made_stII (Nat.le_refl _) ⟨0, ((World.ownsMap_made w _ _ _).alloc _).alloc _, rfl⟩
  · have := ((World.ownsMap_made (P := Tryz.prog) (w.alloc (Obj.map #[] 0)) 3 ptrE).alloc (Obj.cells #[Value.int .i64 most, Value.int .i64 0, Value.map (some w.heap.size), Value.map (some (w.heap.size + 1))] 81))
    rw [z1] at this
    exact made_stII (by omega) ⟨0, this, rfl⟩
  · rintro j (rfl | ⟨p, hp, _⟩) (h | ⟨p, hp, _⟩)
    · omega
    · cases hp
    · cases hp
    · cases hp
  · rintro (h | ⟨p, hp, _⟩)
    · omega
    · cases hp
  · rintro (h | ⟨p, hp, _⟩)
    · omega
    · cases hp
  · intro a b; simp [lk, lookM]
  · intro a b; simp [lk, lookM]
  · simp [BlP]
set_option maxHeartbeats 1000000 in
theorem relNewBadII {most : Int} (hm : most < 0 ∨ 100000 < most) (w : World) : Calls Tryz.prog 25 #[.int .i64 most] w fun e w' => e = .returned (.tuple #[.pointer none, .int .i64 2]) ∧ w' = w := by
  by_cases h0 : most < 0
  · have p1 : decide (most < 0) = true := by simp; omega
    go_enter Tryz.func25, Tryz.ntmps25
    go_wp2_with fail
    go_ret2
    exact ⟨rfl, rfl⟩
  · have p1 : decide (most < 0) = false := by simp; omega
    have p2 : decide (100000 < most) = true := by simp; omega
    have p4 : 100000 < most := by omega
    go_enter Tryz.func25, Tryz.ntmps25
    go_wp2_with fail
    go_ret2
    exact ⟨rfl, rfl⟩
theorem insMemII (xs : List (Int)) (x y : Int) : y ∈ insI xs x ↔ y = x ∨ y ∈ xs := insI_mem xs x y
/-- a pair came: the state of it -/
theorem add_stII {base : Nat} {w w1 w2 : World} {t b1 b2 : Nat} {most : Int} {L : List ((Int) × (Int))} {T1 : List ((Int) × SetE (Int))} {T2 : List ((Int) × SetE (Int))} (h : RelStII base w t b1 b2 most L T1 T2)
    {a : Int} {b : Int} (hn : (a, b) ∉ L) (h1 : PutPII base b1 T1 a (insI (lk T1 a) b) w w1) (h2 : PutPII base b2 T2 b (insI (lk T2 b) a) w1 w2) :
    ∃ X', RelAtII base (w2.setCell ⟨t, 1, none⟩ (.int .i64 ((L.length : Int) + 1))) t X' most (L ++ [(a, b)]) ∧ (∀ j, X' j → (j = t ∨ BlP b1 T1 j ∨ BlP b2 T2 j) ∨ w.heap.size ≤ j) ∧ Fr (fun j => j = t ∨ BlP b1 T1 j ∨ BlP b2 T2 j) w (w2.setCell ⟨t, 1, none⟩ (.int .i64 ((L.length : Int) + 1))) := by
  obtain ⟨T1', p1, p2, p3, p4, p5, p6⟩ := h1
  obtain ⟨T2', q1, q2, q3, q4, q5, q6⟩ := h2
  have hz := p4.size
  have l1 : ∀ j, BlP b1 T1 j → j < w.heap.size := fun j hj => (blPII_lt h.m1 hj).2
  have l2 : ∀ j, BlP b2 T2 j → j < w.heap.size := fun j hj => (blPII_lt h.m2 hj).2
  have l1' : ∀ j, BlP b1 T1' j → j < w1.heap.size := fun j hj => (blPII_lt p1 hj).2
  have lt := blk_lt h.blk
  have sep : ∀ j, BlP b1 T1' j → ¬ BlP b2 T2' j := fun j hj hj2 => by
    rcases p5 j hj with e | e
    · rcases q5 j hj2 with e2 | e2
      · exact h.ap j e e2
      · have := l1 j e; omega
    · rcases q5 j hj2 with e2 | e2
      · have := l2 j e2; omega
      · have := l1' j hj; omega
  have t1' : ¬ BlP b1 T1' t := fun e => by
    rcases p5 t e with e | e
    · exact h.t1 e
    · omega
  have t2' : ¬ BlP b2 T2' t := fun e => by
    rcases q5 t e with e | e
    · exact h.t2 e
    · omega
  have m1 : MapStII base w2 b1 T1' := mapStII_fr p1 q4 fun j hj e => by
    rcases p5 j hj with e1 | e1
    · exact h.ap j e1 e
    · have := l2 j e; omega
  have fc : Fr (fun j => j = t) w2 (w2.setCell ⟨t, 1, none⟩ (.int .i64 ((L.length : Int) + 1))) := Fr.setCell (X := fun j => j = t) (Fr.refl _ w2) _ rfl _
  have hb2 : w2.heap[t]? = some (.cells #[.int .i64 most, .int .i64 L.length, .map (some b1), .map (some b2)] 81 (0, 0)) := q4.blk (p4.blk h.blk h.t1) h.t2
  refine ⟨fun j => j = t ∨ BlP b1 T1' j ∨ BlP b2 T2' j, ⟨b1, b2, T1', T2', ⟨h.le, ?_, mapStII_fr m1 fc fun j hj e => t1' (e ▸ hj), mapStII_fr q1 fc fun j hj e => t2' (e ▸ hj), p3 h.n1, q3 h.n2, sep, t1', t2', fun a' b' => ?_, fun a' b' => ?_, ?_⟩, fun j => Iff.rfl⟩, fun j hj => ?_, ?_⟩
  · have := blk_set hb2 1 (.int .i64 ((L.length : Int) + 1))
    rw [this, List.length_append, List.length_singleton]
    rfl
  · rw [p2, List.mem_append, List.mem_singleton]
    by_cases e : a' = a
    · subst e
      rw [if_pos rfl, insI_mem, h.h1]
      simp [or_comm]
    · rw [if_neg e, h.h1]
      simp [e]
  · rw [q2, List.mem_append, List.mem_singleton]
    by_cases e : b' = b
    · subst e
      rw [if_pos rfl, insI_mem, h.h2]
      simp [or_comm]
    · rw [if_neg e, h.h2]
      simp [e]
  · rw [List.nodup_append]
    refine ⟨h.nd, by simp, fun x hx y hy e => ?_⟩
    rw [List.mem_singleton] at hy
    exact hn (by rw [← hy, ← e]; exact hx)
  · rcases hj with rfl | hj | hj
    · exact .inl (.inl rfl)
    · rcases p5 j hj with e | e
      · exact .inl (.inr (.inl e))
      · exact .inr e
    · rcases q5 j hj with e | e
      · exact .inl (.inr (.inr e))
      · exact .inr (by omega)
  · exact ((p4.mono fun j _ e => .inr (.inl e) : Fr (fun j => j = t ∨ BlP b1 T1 j ∨ BlP b2 T2 j) w w1).trans3 q4 fun j _ e => .inr (.inr e)).trans3 fc fun j _ e => .inl e
/-- what Add does -/
def AddRII (base t : Nat) (X : Nat → Prop) (most : Int) (L : List ((Int) × (Int))) (a : Int) (b : Int) (w : World) (e : Ending) (w' : World) : Prop :=
  ∃ X', (∀ j, X' j → X j ∨ w.heap.size ≤ j) ∧ Fr X w w' ∧
    (((a, b) ∈ L ∧ e = .returned (.int .i64 6) ∧ RelAtII base w' t X' most L) ∨
     ((a, b) ∉ L ∧ (∀ xs : List (Int), xs.Pairwise (· < ·) → (∀ x, x ∈ xs ↔ (a, x) ∈ L) → most ≤ xs.length) ∧ e = .returned (.int .i64 7) ∧ RelAtII base w' t X' most L) ∨
     ((a, b) ∉ L ∧ (∀ xs : List (Int), xs.Pairwise (· < ·) → (∀ x, x ∈ xs ↔ (a, x) ∈ L) → (xs.length : Int) < most) ∧ e = .returned (.int .i64 0) ∧ RelAtII base w' t X' most (L ++ [(a, b)])))
set_option maxRecDepth 100000 in
set_option maxHeartbeats 4000000 in
theorem relAddII {base : Nat} {w : World} {t : Nat} {X : Nat → Prop} {most : Int} {L : List ((Int) × (Int))} (h : RelAtII base w t X most L) (hbw : base ≤ w.heap.size) (hL : L.length ≤ 90000) {a : Int} (ha : OkKII a) {b : Int} (hb : OkKII b) :
    Calls Tryz.prog 26 #[.pointer (some ⟨t, 0, none⟩), .int .i64 a, .int .i64 b] w (AddRII base t X most L a b w) := by
  obtain ⟨b1, b2, T1, T2, hR, hX⟩ := h
  have HH := relHasII hR (by omega) ha b
  have hks := hR.keys
  obtain ⟨d, hd⟩ : ∃ d, decide ((a, b) ∈ L) = d := ⟨_, rfl⟩
  rw [hd] at HH
  have HHas := Lib.hid HH
  have H := Lib.hid (And.intro hR (And.intro hX hd))
  have HC : Hid (∀ V : World, V.heap = w.heap → Calls Tryz.prog 41 #[.pointer (some ⟨t, 0, none⟩), .int .i64 a] V fun e w' => e = .returned (.int .i64 (lk T1 a).length) ∧ w' = V) := fun V hV => relCountII (hR.same fun j _ => by rw [hV] : RelStII base V t b1 b2 most L T1 T2) ha
  have hsz := hks.2.2.1 a
  obtain ⟨n, hn⟩ : ∃ n, (lk T1 a).length = n := ⟨_, rfl⟩
  rw [hn] at HC hsz
  have HN := Lib.hid (And.intro hn hks)
  have HA := Lib.hid (And.intro ha hb)
  have c0 := blk_cell hR.blk 0
  have c1 := blk_cell hR.blk 1
  have c2 := blk_cell hR.blk 2
  have c3 := blk_cell hR.blk 3
  clear HH hR hX hd hks hn ha hb
  go_enter Tryz.func26, Tryz.ntmps26
  go_wp2_with fail
  refine HHas.out.mono ?_
  rintro e w1 ⟨rfl, q, rfl⟩
  have same : ∀ W : World, W.heap = w.heap → Fr (fun _ => False) w W → ∀ e, (((a, b) ∈ L ∧ e = .returned (.int .i64 6)) ∨ ((a, b) ∉ L ∧ (∀ xs : List (Int), xs.Pairwise (· < ·) → (∀ x, x ∈ xs ↔ (a, x) ∈ L) → most ≤ xs.length) ∧ e = .returned (.int .i64 7))) → AddRII base t X most L a b w e W := by
    intro W hW hf e he
    obtain ⟨hR, hX, hd⟩ := H.out
    have hAt : RelAtII base W t X most L := ⟨b1, b2, T1, T2, hR.same fun _ _ => by rw [hW], hX⟩
    refine ⟨X, fun j hj => .inl hj, hf.mono fun _ _ e => e.elim, ?_⟩
    rcases he with ⟨h1, rfl⟩ | ⟨h1, h2, rfl⟩
    · exact .inl ⟨h1, rfl, hAt⟩
    · exact .inr (.inl ⟨h1, h2, rfl, hAt⟩)
  have HS := Lib.hid same
  clear same
  cases d with
  | true =>
    go_wp2_with fail
    go_ret
    exact HS.out (w.drewN q) rfl ((Fr.refl _ w).drewN q) _ (.inl ⟨by simpa using H.out.2.2, rfl⟩)
  | false =>
    have hnot : (a, b) ∉ L := by simpa using H.out.2.2
    have HNot := Lib.hid hnot
    clear hnot
    go_wp2_with fail
    obtain ⟨W1, hW1⟩ : ∃ W1, w.drewN q = W1 := ⟨_, rfl⟩
    have e0 : W1.cell? ⟨t, 0, none⟩ = some (.int .i64 most) := by rw [← hW1]; exact c0
    have e2 : W1.cell? ⟨t, 2, none⟩ = some (.map (some b1)) := by rw [← hW1]; exact c2
    have hh : W1.heap = w.heap := by rw [← hW1]; rfl
    have HH := Lib.hid (And.intro hW1 hh)
    rw [hW1]
    clear c0 c1 c2 c3 hW1 hh
    by_cases hmost : most ≤ (n : Int)
    · have q1 : decide (most ≤ (n : Int)) = true := by simp; omega
      go_quiet ((go_at_call 41; exact Calls.quiet_of_same (HC.out _ HH.out.2)))
      go_wp2_with fail
      go_ret
      refine HS.out (W1.drewN nq) HH.out.2 (by rw [← HH.out.1]; exact ((Fr.refl _ w).drewN q).drewN nq) _ (.inr ⟨HNot.out, fun xs hx1 hx2 => ?_, rfl⟩)
      have e := up_ext hx1 (lkUpII H.out.1.m1 a) fun x => (hx2 x).trans (H.out.1.h1 a x).symm
      rw [e, HN.out.1]; exact hmost
    · have q1 : decide (most ≤ (n : Int)) = false := by simp; omega
      go_quiet ((go_at_call 41; exact Calls.quiet_of_same (HC.out _ HH.out.2)))
      obtain ⟨V, hV⟩ : ∃ V, W1.drewN nq = V := ⟨_, rfl⟩
      rw [hV]
      have v2 : V.cell? ⟨t, 2, none⟩ = some (.map (some b1)) := by rw [← hV]; exact e2
      have hVh : V.heap = w.heap := by rw [← hV]; exact HH.out.2
      have hVf : Fr (fun _ => False) w V := by rw [← hV, ← HH.out.1]; exact ((Fr.refl _ w).drewN q).drewN nq
      have hRV : RelStII base V t b1 b2 most L T1 T2 := H.out.1.same fun _ _ => by rw [hVh]
      have hbV : base ≤ V.heap.size := by rw [hVh]; exact hbw
      have HF := Lib.hid (fillII hRV.m1 hbV HA.out.1 b (Nat.le_trans HN.out.2.1 (by omega)) (Nat.le_trans (HN.out.2.2.2.1 a) (by omega)))
      have HV := Lib.hid (And.intro hRV (And.intro hVh (And.intro hVf hbV)))
      clear hV e0 e2 hVh hVf hRV hbV
      go_wp2_with fail
      refine HF.out.mono ?_
      rintro e w3 ⟨rfl, hP1⟩
      obtain ⟨hRV, hVh, hVf, hbV⟩ := HV.out
      obtain ⟨T1', p1, p2, p3, p4, p5, p6⟩ := id hP1
      have hb3 := p4.blk hRV.blk hRV.t1
      have c3 := blk_cell hb3 3
      have m2 : MapStII base w3 b2 T2 := mapStII_fr hRV.m2 p4 fun j hj e => hRV.ap j e hj
      have HF2 := Lib.hid (fillII m2 (Nat.le_trans hbV p4.size) HA.out.2 a (Nat.le_trans HN.out.2.2.1 (by omega)) (Nat.le_trans (HN.out.2.2.2.2 b) (by omega)))
      have HP := Lib.hid (And.intro hP1 (And.intro hb3 m2))
      clear hP1 p1 p2 p3 p4 p5 p6 hb3 m2 hRV hVh hVf hbV v2
      go_wp2_with fail
      refine HF2.out.mono ?_
      rintro e w4 ⟨rfl, hP2⟩
      obtain ⟨hRV, hVh, hVf, hbV⟩ := HV.out
      obtain ⟨hP1, hb3, m2⟩ := HP.out
      obtain ⟨T2', q1', q2, q3, q4, q5, q6⟩ := id hP2
      have hb4 := q4.blk hb3 hRV.t2
      have c1 := blk_cell hb4 1
      have f1 := blk_free hb4 1
      obtain ⟨X', hat, hx', hfr⟩ := add_stII hRV HNot.out hP1 hP2
      have hl1 : ¬ 9223372036854775807 < (L.length : Int) + 1 := by omega
      have hl2 : (L.length : Int) ≤ 100000 := by omega
      have hl3 : 0 ≤ (L.length : Int) := by omega
      have HE : Hid (AddRII base t X most L a b w (.returned (.int .i64 0)) (w4.setCell ⟨t, 1, none⟩ (.int .i64 ((L.length : Int) + 1)))) := by
        have hX := H.out.2.1
        refine ⟨X', fun j hj => ?_, ?_, .inr (.inr ⟨HNot.out, fun xs hx1 hx2 => ?_, rfl, hat⟩)⟩
        · rcases hx' j hj with e | e
          · exact .inl ((hX j).2 e)
          · exact .inr (by rw [← hVh]; exact e)
        · exact (hVf.mono fun _ _ e => e.elim : Fr X w V).trans3 hfr fun j _ e => (hX j).2 e
        · have e := up_ext hx1 (lkUpII H.out.1.m1 a) fun x => (hx2 x).trans (H.out.1.h1 a x).symm
          rw [e, HN.out.1]; omega
      clear hP1 hb3 m2 hP2 q1' q2 q3 q4 q5 q6 hb4 hat hx' hfr hRV hVh hVf hbV
      go_wp2_with fail
      go_ret
      exact HE.out
end Go.Proofs.YteiiaocohpbanaaGreat
end
