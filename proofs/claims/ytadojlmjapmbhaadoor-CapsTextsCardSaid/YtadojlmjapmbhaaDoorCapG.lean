/- Layer 12: All as a function that tells, in words of what is owned; Has. -/
import Derived.Test.YtadojlmjapmbhaaDoorCapB
import Derived.Test.YtadojlmjapmbhaaDoorRowT
namespace Go.Proofs.YtadojlmjapmbhaaDoor
set_option linter.unusedVariables false
set_option linter.unusedSimpArgs false
open Go Go.RowKit Go.Shelf Go.Lib
attribute [local go_sem] Oper.semAt_some

def knownY (b : Nat) : Prop := b = 0
theorem Known.lt {W : World} (h : Known W) : 0 < W.heap.size := cell_lt h.1
theorem Known.same {W W' : World} (h : Known W) (hs : W'.heap[(0 : Nat)]? = W.heap[(0 : Nat)]?) : Known W' := by
  unfold Known
  rw [World.cell?_of_block (w := W) (w' := W') (a := ⟨_, 0, none⟩) hs, World.cell?_of_block (w := W) (w' := W') (a := ⟨_, 1, none⟩) hs, World.cell?_of_block (w := W) (w' := W') (a := ⟨_, 2, none⟩) hs, World.cell?_of_block (w := W) (w' := W') (a := ⟨_, 3, none⟩) hs, World.cell?_of_block (w := W) (w' := W') (a := ⟨_, 4, none⟩) hs, World.cell?_of_block (w := W) (w' := W') (a := ⟨_, 5, none⟩) hs]
  exact h
set_option maxRecDepth 100000 in
set_option maxHeartbeats 8000000 in
theorem all_seqF (w : World) (hK : Known w) : SeqF Tryd.prog 22 #[] encCap knownY knownC w := fun l J Jx X V hs hYl hX hJ hJx hY h0 => by
  obtain ⟨q0, q1, q2, q3, q4, q5⟩ := hK.same (hs _ rfl)
  have HY := Lib.hid hY
  have HX := Lib.hid hX
  have HJ := Lib.hid hJ
  have h00 : Hid (∃ X1, GrowX X X1 V V ∧ Fr X V V ∧ J [] X1 V) := ⟨X, GrowX.refl fun k hk => (hX k hk).1, Fr.refl _ _, h0⟩
  clear hs hY hX h0 hJ hJx hYl
  refine (callsIn_wide (n := 20)).1 ?_
  refine callsIn_of_wp Tryd.func22 rfl trivial ?_ rfl
  simp only [Tryd.ntmps22, List.size_toArray, List.length_cons, List.length_nil, Nat.reduceAdd, Nat.reduceSub, Array.replicate_succ, Array.replicate_zero, List.push_toArray, List.append_toArray, List.nil_append, List.cons_append]
  gi_wp2_with fail
  gi_loopw [5] (fun i wr => ∃ k : Nat, i = .int .i64 k ∧ k ≤ 3 ∧ Hid (∃ X1, GrowX X X1 V wr ∧ Fr X V wr ∧ J (knownC.take k) X1 wr)) (fun i _ => 3 - (RowKit.intOf i).toNat)
  case atStart => exact ⟨0, rfl, by omega, h00⟩
  case round =>
    obtain ⟨k, rfl, hk, HJ2⟩ := hrel
    obtain ⟨X1, hg1, hf1, hj1⟩ := HJ2.out
    clear q0 q1 q2 q3 q4 q5 h00
    have hc0 := cap_at0; have hc1 := cap_at1; have hc2 := cap_at2
    have key : ∀ (e : CapE) (q : Nat), q < 3 → knownC.take q ++ e :: knownC.drop (q + 1) = knownC → k = q → ∃ wa, wr.alloc (Obj.cells #[.string e.1, .int .i64 e.2] 49) = wa ∧ Hid (knownC.take (q + 1) = knownC.take q ++ [e] ∧ GrowX X X1 V wa ∧ Fr X V wa) ∧ wa.heap[wr.heap.size]? = some (.cells #[.string e.1, .int .i64 e.2] 49 (0, 0)) ∧ YieldAt Fence.wide 0 Tryd.prog l (encCap e) wa fun e' V' => ∃ X2, GrowX X1 X2 wa V' ∧ Fr X1 wa V' ∧ ((e' = .returned (.bool true) ∧ J (knownC.take q ++ [e]) X2 V') ∨ (e' = .returned (.bool false) ∧ Jx (knownC.take q ++ [e]) X2 V')) := fun e q hq hsp hkq => by
      subst hkq
      obtain ⟨wa, hwa⟩ : ∃ wa, wr.alloc (Obj.cells #[.string e.1, .int .i64 e.2] 49) = wa := ⟨_, rfl⟩
      have fa : Fr (fun _ => False) wr wa := by rw [← hwa]; exact (Fr.refl _ wr).alloc _
      have hg2 : GrowX X X1 V wa := fun j hj => ⟨Nat.lt_of_lt_of_le (hg1 j hj).1 fa.size, (hg1 j hj).2⟩
      have hf2 : Fr X V wa := hf1.trans3 fa fun _ _ e => e.elim
      refine ⟨wa, hwa, ⟨?_, hg2, hf2⟩, by rw [← hwa]; exact heap_alloc_new _ _, HY.out (knownC.take k) e (knownC.drop (k + 1)) X1 wa hsp hg2 (HJ.out.fr hj1 (fun j hj => (hg1 j hj).1) fa fun _ e => e.elim) hf2⟩
      have h1 : (knownC.take k ++ e :: knownC.drop (k + 1)).take (k + 1) = knownC.take k ++ [e] := by
        have hl : (knownC.take k).length = k := by rw [List.length_take]; have : knownC.length = 3 := rfl; omega
        rw [List.take_append, hl, Nat.add_sub_cancel_left]
        rw [List.take_of_length_le (by omega)]
        rfl
      rw [hsp] at h1
      exact h1
    have HQ := Lib.hid (And.intro hg1 (And.intro hf1 hj1))
    clear hg1 hf1 hj1 HJ2
    rcases k with _ | _ | _ | _ | k
    · obtain ⟨wa, hwa, HT, ka, fn, tmps, assign, body, hy, hR⟩ := key (awayB, 1) 0 (by omega) rfl rfl
      dsimp only [encCap] at hy
      have c5 := blk_cell ka 0
      have c6 := blk_cell ka 1
      have HW := Lib.hid hwa
      clear key ka hwa
      gi_wp2_with (rw [HW.out])
      refine (round_wide (.inl rfl) hR).mono ?_
      rintro e W3 ⟨X2, g2, f2, (⟨rfl, hJ3⟩ | ⟨rfl, hJx3⟩)⟩
      · obtain ⟨htk, hg1, hf1⟩ := HT.out
        have hN : Hid (∃ X1, GrowX X X1 V W3 ∧ Fr X V W3 ∧ J (knownC.take 1) X1 W3) := ⟨X2, hg1.trans g2 hf1.size, hf1.trans3 f2 fun k hk e => (hg1 k e).2 hk, by rw [htk]; exact hJ3⟩
        clear htk hg1 hf1 g2 f2 hJ3 hR hy
        gi_wp2_with fail
        go_roundw
        case rel => exact ⟨1, by go_num, by omega, hN⟩
        case measure => simp [RowKit.intOf]
      · clear hR hy
        gi_wp2_with fail
        refine bodyPost_ret (results_none rfl _ _ _) rfl ?_
        obtain ⟨htk, hg1, hf1⟩ := HT.out
        exact ⟨⟨_, rfl⟩, X2, hg1.trans g2 hf1.size, hf1.trans3 f2 fun k hk e => (hg1 k e).2 hk, .inr ⟨_, knownC.drop 1, rfl, hJx3⟩⟩
    · obtain ⟨wa, hwa, HT, ka, fn, tmps, assign, body, hy, hR⟩ := key (echoB, 2) 1 (by omega) rfl rfl
      dsimp only [encCap] at hy
      have c5 := blk_cell ka 0
      have c6 := blk_cell ka 1
      have HW := Lib.hid hwa
      clear key ka hwa
      gi_wp2_with (rw [HW.out])
      refine (round_wide (.inl rfl) hR).mono ?_
      rintro e W3 ⟨X2, g2, f2, (⟨rfl, hJ3⟩ | ⟨rfl, hJx3⟩)⟩
      · obtain ⟨htk, hg1, hf1⟩ := HT.out
        have hN : Hid (∃ X1, GrowX X X1 V W3 ∧ Fr X V W3 ∧ J (knownC.take 2) X1 W3) := ⟨X2, hg1.trans g2 hf1.size, hf1.trans3 f2 fun k hk e => (hg1 k e).2 hk, by rw [htk]; exact hJ3⟩
        clear htk hg1 hf1 g2 f2 hJ3 hR hy
        gi_wp2_with fail
        go_roundw
        case rel => exact ⟨2, by go_num, by omega, hN⟩
        case measure => simp [RowKit.intOf]
      · clear hR hy
        gi_wp2_with fail
        refine bodyPost_ret (results_none rfl _ _ _) rfl ?_
        obtain ⟨htk, hg1, hf1⟩ := HT.out
        exact ⟨⟨_, rfl⟩, X2, hg1.trans g2 hf1.size, hf1.trans3 f2 fun k hk e => (hg1 k e).2 hk, .inr ⟨_, knownC.drop 2, rfl, hJx3⟩⟩
    · obtain ⟨wa, hwa, HT, ka, fn, tmps, assign, body, hy, hR⟩ := key (multiB, 4) 2 (by omega) rfl rfl
      dsimp only [encCap] at hy
      have c5 := blk_cell ka 0
      have c6 := blk_cell ka 1
      have HW := Lib.hid hwa
      clear key ka hwa
      gi_wp2_with (rw [HW.out])
      refine (round_wide (.inl rfl) hR).mono ?_
      rintro e W3 ⟨X2, g2, f2, (⟨rfl, hJ3⟩ | ⟨rfl, hJx3⟩)⟩
      · obtain ⟨htk, hg1, hf1⟩ := HT.out
        have hN : Hid (∃ X1, GrowX X X1 V W3 ∧ Fr X V W3 ∧ J (knownC.take 3) X1 W3) := ⟨X2, hg1.trans g2 hf1.size, hf1.trans3 f2 fun k hk e => (hg1 k e).2 hk, by rw [htk]; exact hJ3⟩
        clear htk hg1 hf1 g2 f2 hJ3 hR hy
        gi_wp2_with fail
        go_roundw
        case rel => exact ⟨3, by go_num, by omega, hN⟩
        case measure => simp [RowKit.intOf]
      · clear hR hy
        gi_wp2_with fail
        refine bodyPost_ret (results_none rfl _ _ _) rfl ?_
        obtain ⟨htk, hg1, hf1⟩ := HT.out
        exact ⟨⟨_, rfl⟩, X2, hg1.trans g2 hf1.size, hf1.trans3 f2 fun k hk e => (hg1 k e).2 hk, .inr ⟨_, knownC.drop 3, rfl, hJx3⟩⟩
    · clear key
      gi_wp2_with fail
      go_end0
      obtain ⟨hg1, hf1, hj1⟩ := HQ.out
      exact ⟨⟨_, rfl⟩, X1, hg1, hf1, .inl hj1⟩
    · omega

/-- is one of these asked for, and among those? -/
def hasV (h o : BitVec 64) : Bool := (knownC.any fun x => x.2 == IV o) && (h &&& o) != 0#64
theorem iv_zero (v : BitVec 64) : (IV v == 0) = (v == 0#64) := by
  have := IV_beq v 0#64
  rwa [show IV 0#64 = 0 by decide +kernel] at this
/-- the box of the answer -/
def HasI (S : Nat) (o : BitVec 64) (pre : List CapE) (X : Nat → Prop) (W : World) : Prop := (∀ y ∈ pre, y.2 ≠ IV o) ∧ W.heap[S]? = some (.cells #[.bool false] 4 (0, 0)) ∧ X S
theorem hasI_stays (S : Nat) (o : BitVec 64) : Stays (HasI S o) := fun pre X V V' ⟨h1, h2, h3⟩ hl hf => ⟨h1, hf.blk h2 fun e => e h3, h3⟩
def HasX (S : Nat) (b : Bool) (X : Nat → Prop) (W : World) : Prop := W.heap[S]? = some (.cells #[.bool b] 4 (0, 0)) ∧ X S
set_option maxRecDepth 100000 in
set_option maxHeartbeats 8000000 in
theorem has_any (h o : BitVec 64) (w : World) (hK : Known w) :
    Calls Tryd.prog 12 #[.int .i64 (IV h), .int .i64 (IV o)] w fun e w' => e = .returned (.bool (hasV h o)) ∧ Below w.heap.size w w' := by
  have hb := bits_and_v h o
  obtain ⟨b, hbb⟩ : ∃ b, ((h &&& o) != 0#64) = b := ⟨_, rfl⟩
  have he1 : (IV (h &&& o) == 0) = !b := by rw [iv_zero, ← hbb, bne, Bool.not_not]
  have he2 : (IV (h &&& o) != 0) = b := by rw [bne, he1, Bool.not_not]
  have HB := Lib.hid hbb
  clear hbb
  refine (callsIn_wide (n := 20)).1 ?_
  refine callsIn_of_wp_marks Tryd.func12 rfl trivial ?_ rfl
  simp only [Tryd.ntmps12, List.size_toArray, List.length_cons, List.length_nil, Nat.reduceAdd, Nat.reduceSub, Array.replicate_succ, Array.replicate_zero, List.push_toArray, List.append_toArray, List.nil_append, List.cons_append]
  gi_wp2_with fail
  refine ⟨trivial, (calls_wide (.inl rfl) (all_any _)).mono ?_⟩
  rintro e w2 ⟨rfl, hw2⟩
  have hb0 : w2.heap[w.heap.size]? = some (.cells #[.int .i64 (IV h)] 3 (0, 0)) := by rw [hw2]; exact blk_alloc (blk_alloc (heap_alloc_new w _) _) _
  have hb1 : w2.heap[w.heap.size + 1]? = some (.cells #[.int .i64 (IV o)] 3 (0, 0)) := by rw [hw2]; exact blk_alloc (heap_alloc2_new w _ _) _
  have hb2 : w2.heap[w.heap.size + 2]? = some (.cells #[.bool false] 4 (0, 0)) := by
    rw [hw2]
    have := heap_alloc2_new (w.alloc (.cells #[.int .i64 (IV h)] 3)) (.cells #[.int .i64 (IV o)] 3) (.cells #[.bool false] 4)
    rwa [World.size_alloc] at this
  have f2 : Fr (fun _ => False) w w2 := by rw [hw2]; exact (((Fr.refl _ w).alloc _).alloc _).alloc _
  have hz : w2.heap.size = w.heap.size + 3 := by rw [hw2]; simp
  have hK2 := hK.kept (f2.below (Nat.le_refl _) fun _ _ e => e.elim)
  have hKl := hK.lt
  clear hw2
  have H := Lib.hid (And.intro hb0 (And.intro hb1 (And.intro hb2 (And.intro f2 (And.intro hz (And.intro hK2 hKl))))))
  clear hb0 hb1 hb2 f2 hz hK2 hKl hK
  gi_wp2_with fail
  obtain ⟨hb0, hb1, hb2, f2, hz, hK2, hKl⟩ := H.out
  refine wpIn_rangeF (X := fun k => k = w.heap.size + 2) (Y := knownY) (xs := knownC) (encs := encCap) (gf := 22) (lb := #[]) (HasI (w.heap.size + 2) o) (fun c pre X1 W => (c = .ret ∧ ∃ y ∈ pre, y.2 = IV o) ∧ HasX (w.heap.size + 2) b X1 W)
    rfl (all_seqF w2 hK2) (fun k hk => ⟨by omega, fun e => by unfold knownY at e; omega⟩) (fun k hk => by unfold knownY at hk; omega) (by omega) (enters_of Tryd.func22 (by kernel_rfl) rfl) (fun _ => rfl)
    (hasI_stays _ _) (fun c s X1 V1 V2 hh h1 h2 => ⟨hh.1, h2.blk hh.2.1 fun e => e hh.2.2, hh.2.2⟩) ⟨fun y hy => (by cases hy), hb2, rfl⟩ ?round ?done ?stop
  case round =>
    rintro l pre ⟨nm, v⟩ r X1 V K rb hl2 hpx ⟨hI1, hI2, hI3⟩ hG hxl hF hlV hK
    dsimp only [encCap]
    have HK := Lib.hid hK
    have HV := Lib.hid (And.intro hpx (And.intro hI1 (And.intro hI2 (And.intro hI3 (And.intro hG (And.intro hxl (And.intro hF (And.intro hlV hl2))))))))
    clear hK hpx hI1 hI2 hI3 hG hxl hF hlV hl2 hb0 hb1 hb2 f2 hz hK2 hKl
    gi_wp2_with fail
    refine HK.out _ _ (Fr.refl _ _) fun Vb hfb hzb hsb hrb => ?_
    clear HK K
    obtain ⟨hpx, hI1, hI2, hI3, hG, hxl, hF, hlV, hl2⟩ := HV.out
    obtain ⟨hb0, hb1, hb2, f2, hz, hK2, hKl⟩ := H.out
    have k0 := hfb.blk (hF.blk hb0 (by omega)) (by omega)
    have k1 := hfb.blk (hF.blk hb1 (by omega)) (by omega)
    have k2 := hfb.blk hI2 (fun e => hxl (e ▸ hI3))
    have c0 := blk_cell k0 0
    have c1 := blk_cell k1 0
    have g2 := blk_free k2 0
    have d2 := blk_cell k2 0
    have hzs : Vb.heap.size = V.heap.size := hzb
    by_cases hv : v = IV o
    · have q1 : (v == IV o) = true := by simpa using hv
      have HE := Lib.hid (And.intro hv (And.intro hfb (And.intro hrb (And.intro hzs (And.intro k2 q1)))))
      clear hpx hI1 hI2 hG hF hb0 hb1 hb2 f2 hz hK2 hKl hfb hzb hsb hrb hzs k0 k1 k2 hv q1
      have q1 := HE.out.2.2.2.2.2
      gi_wp2_with fail
      obtain ⟨hv, hfb, hrb, hzs, k2, _⟩ := HE.out
      obtain ⟨_, _, _, _, hG, _, _, hlV, _⟩ := HV.out
      have hne : l ≠ w.heap.size + 2 := fun e => hxl (e ▸ hI3)
      refine ⟨X1, fun k hk => ⟨by simp; rw [hzs]; exact (hG k hk).1, fun _ => hk⟩, (hfb.mono (Y := fun k => k = l ∨ X1 k) fun k _ e => .inl e).setCell _ (.inr hI3) _, blk_other hrb _ (by simpa using hne) _, ⟨rfl, _, List.mem_append_right _ List.mem_cons_self, hv⟩, blk_set k2 0 _, hI3⟩
    · have q1 : (v == IV o) = false := by simpa using hv
      have HE := Lib.hid (And.intro hv (And.intro hfb (And.intro hrb (And.intro hzs (And.intro k2 q1)))))
      clear hpx hI1 hI2 hG hF hb0 hb1 hb2 f2 hz hK2 hKl hfb hzb hsb hrb hzs k0 k1 k2 hv q1
      have q1 := HE.out.2.2.2.2.2
      gi_wp2_with fail
      obtain ⟨hv, hfb, hrb, hzs, k2, _⟩ := HE.out
      obtain ⟨_, hI1, _, _, hG, _, _, hlV, _⟩ := HV.out
      refine ⟨X1, fun k hk => ⟨by rw [hzs]; exact (hG k hk).1, fun _ => hk⟩, hfb.mono (Y := fun k => k = l ∨ X1 k) fun k _ e => .inl e, hrb, fun y hy => ?_, k2, hI3⟩
      rw [List.mem_append, List.mem_singleton] at hy
      rcases hy with hy | rfl
      · exact hI1 y hy
      · exact hv
  case done =>
    rintro D X2 V hD hxD hG hF ⟨hI1, hI2, hI3⟩ hdef
    have g2 := blk_free hI2 0
    have d2 := blk_cell hI2 0
    have HE := Lib.hid (And.intro hI1 (And.intro hI2 (And.intro hF hdef)))
    clear hI1 hI2 hF hdef hG hb0 hb1 hb2 f2 hK2 hKl
    gi_wp2_with fail
    obtain ⟨hI1, hI2, hF, hdef⟩ := HE.out
    obtain ⟨hb0, hb1, hb2, f2, hz, hK2, hKl⟩ := H.out
    have hno : hasV h o = false := by
      unfold hasV
      rw [Bool.and_eq_false_iff]
      refine .inl (List.any_eq_false.2 fun y hy => ?_)
      simpa using hI1 y hy
    have hne : D ≠ w.heap.size + 2 := by omega
    refine leaves_one D _ (blk_other hdef _ (by simpa using hne) _) fun w' hf => ⟨_, res_in rfl _ _ (w.heap.size + 2) (.bool false) _ rfl ((blk_cell (hf.blk (blk_set hI2 0 _) fun e => hne e.symm) 0).trans rfl) rfl rfl, by rw [hno], ?_⟩
    refine Fr.below (X := fun k => w.heap.size ≤ k) ?_ (Nat.le_refl _) fun k hk e => by omega
    exact (((f2.mono (Y := fun k => w.heap.size ≤ k) fun _ _ e => e.elim).trans3 hF fun k _ e => by omega).setCell _ (by show w.heap.size ≤ w.heap.size + 2; omega) _).trans3 hf fun k _ e => by omega
  case stop =>
    rintro D c pre r X2 V hD hpr hxD hG hF ⟨⟨rfl, y, hy, hyo⟩, hI2, hI3⟩ hdef
    have hne : D ≠ w.heap.size + 2 := by omega
    have hyes : hasV h o = b := by
      unfold hasV
      rw [HB.out, List.any_eq_true.2 ⟨y, by rw [← hpr]; exact List.mem_append_left _ hy, by simpa using hyo⟩, Bool.true_and]
    refine wpIn_ret ?_
    refine leaves_one D _ hdef fun w' hf => ⟨_, res_in rfl _ _ (w.heap.size + 2) (.bool b) _ rfl ((blk_cell (hf.blk hI2 fun e => hne e.symm) 0).trans rfl) rfl rfl, by rw [hyes], ?_⟩
    refine Fr.below (X := fun k => w.heap.size ≤ k) ?_ (Nat.le_refl _) fun k hk e => by omega
    exact ((f2.mono (Y := fun k => w.heap.size ≤ k) fun _ _ e => e.elim).trans3 hF fun k _ e => by omega).trans3 hf fun k _ e => by omega
end Go.Proofs.YtadojlmjapmbhaaDoor
