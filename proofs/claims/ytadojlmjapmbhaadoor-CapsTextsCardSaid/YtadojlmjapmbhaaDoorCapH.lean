/- Layer 12: Text, and the answers' Text. -/
import Derived.Test.YtadojlmjapmbhaaDoorCapG
import Derived.Test.YtadojlmjapmbhaaDoorCapD
import Derived.Test.YtadojlmjapmbhaaDoorJoinT
namespace Go.Proofs.YtadojlmjapmbhaaDoor
set_option linter.unusedVariables false
set_option linter.unusedSimpArgs false
open Go Go.RowKit Go.Shelf Go.Lib
attribute [local go_sem] Oper.semAt_some

theorem cap_num {x : CapE} (h : x ∈ knownC) : IV (BitVec.ofInt 64 x.2) = x.2 := by
  simp only [knownC, List.mem_cons, List.not_mem_nil, or_false] at h
  rcases h with rfl | rfl | rfl <;> decide +kernel
/-- the names of those among these that are had -/
def rowOf (v : BitVec 64) (pre : List CapE) : List (List UInt8) := (pre.filter fun x => hasV v (BitVec.ofInt 64 x.2)).map fun x => x.1.data.toList
theorem rowOf_snoc (v : BitVec 64) (pre : List CapE) (x : CapE) : rowOf v (pre ++ [x]) = rowOf v pre ++ (if hasV v (BitVec.ofInt 64 x.2) then [x.1.data.toList] else []) := by
  unfold rowOf
  rw [List.filter_append, List.map_append]
  cases h : hasV v (BitVec.ofInt 64 x.2) <;> simp [List.filter, h]
theorem rowOf_len (v : BitVec 64) (pre : List CapE) : (rowOf v pre).length ≤ pre.length := by
  unfold rowOf
  rw [List.length_map]
  exact List.length_filter_le _ _
/-- the same of three answers -/
def txB (b0 b1 b2 : Bool) (k : Nat) : List UInt8 := Lib.join ((((knownC.zip [b0, b1, b2]).take k).filter (·.2)).map fun p => p.1.1.data.toList) [32]
theorem tx_row (v : BitVec 64) : Lib.join (rowOf v knownC) [32] = txB (hasV v 1#64) (hasV v 2#64) (hasV v 4#64) 3 := by
  have h1 : BitVec.ofInt 64 1 = 1#64 := by decide +kernel
  have h2 : BitVec.ofInt 64 2 = 2#64 := by decide +kernel
  have h4 : BitVec.ofInt 64 4 = 4#64 := by decide +kernel
  unfold rowOf txB knownC
  cases a : hasV v 1#64 <;> cases b : hasV v 2#64 <;> cases c : hasV v 4#64 <;> simp [List.filter, h1, h2, h4, a, b, c]
theorem tx_len (b0 b1 b2 : Bool) : ∀ k, k ≤ 3 → (txB b0 b1 b2 k).length ≤ 100 := by
  intro k hk
  have : k = 0 ∨ k = 1 ∨ k = 2 ∨ k = 3 := by omega
  rcases this with rfl | rfl | rfl | rfl <;> cases b0 <;> cases b1 <;> cases b2 <;> decide +kernel
theorem tx_0 (b0 b1 b2 : Bool) : txB b0 b1 b2 0 = [] := by cases b0 <;> cases b1 <;> cases b2 <;> rfl
theorem tx_1 (b0 b1 b2 : Bool) : txB b0 b1 b2 1 = if b0 then awayB.data.toList else txB b0 b1 b2 0 := by cases b0 <;> cases b1 <;> cases b2 <;> decide +kernel
theorem tx_2 (b0 b1 b2 : Bool) : txB b0 b1 b2 2 = if b1 then (if txB b0 b1 b2 1 = [] then echoB.data.toList else txB b0 b1 b2 1 ++ [32] ++ echoB.data.toList) else txB b0 b1 b2 1 := by cases b0 <;> cases b1 <;> cases b2 <;> decide +kernel
theorem tx_3 (b0 b1 b2 : Bool) : txB b0 b1 b2 3 = if b2 then (if txB b0 b1 b2 2 = [] then multiB.data.toList else txB b0 b1 b2 2 ++ [32] ++ multiB.data.toList) else txB b0 b1 b2 2 := by cases b0 <;> cases b1 <;> cases b2 <;> decide +kernel
theorem and_two (v : BitVec 64) (i : Nat) (m : BitVec 64) (hm : BitVec.twoPow 64 i = m) : v &&& m = if v.getLsbD i then m else 0#64 := by
  subst hm
  exact BitVec.and_twoPow v i
theorem bit_has (v : BitVec 64) : ((v &&& 1#64) == 1#64) = hasV v 1#64 ∧ ((v &&& 2#64) == 2#64) = hasV v 2#64 ∧ ((v &&& 4#64) == 4#64) = hasV v 4#64 := by
  have k1 : (knownC.any fun x => x.2 == IV 1#64) = true := by decide +kernel
  have k2 : (knownC.any fun x => x.2 == IV 2#64) = true := by decide +kernel
  have k4 : (knownC.any fun x => x.2 == IV 4#64) = true := by decide +kernel
  refine ⟨?_, ?_, ?_⟩
  · unfold hasV; rw [k1, and_two v 0 1#64 (by decide +kernel)]; cases v.getLsbD 0 <;> decide +kernel
  · unfold hasV; rw [k2, and_two v 1 2#64 (by decide +kernel)]; cases v.getLsbD 1 <;> decide +kernel
  · unfold hasV; rw [k4, and_two v 2 4#64 (by decide +kernel)]; cases v.getLsbD 2 <;> decide +kernel
def BoxC (S base : Nat) (v : BitVec 64) (pre : List CapE) (X : Nat → Prop) (W : World) : Prop := ∃ u, W.heap[S]? = some (.cells #[u] 34 (0, 0)) ∧ OwnT base W u (rowOf v pre) ∧ S < base ∧ ∀ k, X k ↔ (k = S ∨ u.ownBlock = some k)
theorem boxC_stays (S base : Nat) (v : BitVec 64) : Stays (BoxC S base v) := fun pre X V V' ⟨u, h1, h2, h3, h4⟩ hl hf =>
  ⟨u, hf.blk h1 (fun e => e ((h4 S).2 (.inl rfl))), ownT_kept h2 fun g hg => hf.block g (h2.lt g hg).2 fun e => e ((h4 g).2 (.inr hg)), h3, h4⟩
set_option maxRecDepth 100000 in
set_option maxHeartbeats 8000000 in
theorem textC_any (v : BitVec 64) (w : World) (hK : Known w) :
    Calls Tryd.prog 6 #[.int .i64 (IV v)] w fun e w' => e = .returned (.string (bs (txB (hasV v 1#64) (hasV v 2#64) (hasV v 4#64) 3))) ∧ RowKit.Below w.heap.size w w' := by
  obtain ⟨i0, hi, hz0, hz1, hz2⟩ := info_parts Tryd.infoT
  refine (callsIn_wide (n := 20)).1 ?_
  refine callsIn_of_wp_marks Tryd.func6 rfl trivial ?_ rfl
  simp only [Tryd.ntmps6, List.size_toArray, List.length_cons, List.length_nil, Nat.reduceAdd, Nat.reduceSub, Array.replicate_succ, Array.replicate_zero, List.push_toArray, List.append_toArray, List.nil_append, List.cons_append]
  gi_wp2_with fail
  refine ⟨trivial, (calls_wide (.inl rfl) (all_any _)).mono ?_⟩
  rintro e w1 ⟨rfl, hw1⟩
  have hb0 : w1.heap[w.heap.size]? = some (.cells #[.int .i64 (IV v)] 3 (0, 0)) := by rw [hw1]; exact blk_alloc (heap_alloc_new w _) _
  have hb1 : w1.heap[w.heap.size + 1]? = some (.cells #[.slice none 0 0] 34 (0, 0)) := by rw [hw1]; exact heap_alloc2_new w _ _
  have f1 : Fr (fun _ => False) w w1 := by rw [hw1]; exact ((Fr.refl _ w).alloc _).alloc _
  have z1 : w1.heap.size = w.heap.size + 2 := by rw [hw1]; simp
  have hK1 := hK.kept (f1.below (Nat.le_refl _) fun _ _ e => e.elim)
  have hKl := hK.lt
  have H := Lib.hid (And.intro hb0 (And.intro hb1 (And.intro f1 (And.intro z1 (And.intro hK1 hKl)))))
  clear hw1 hb0 hb1 f1 z1 hK1 hKl hK
  gi_wp2_with fail
  obtain ⟨hb0, hb1, f1, z1, hK1, hKl⟩ := H.out
  refine wpIn_rangeF (X := fun k => k = w.heap.size + 1) (Y := knownY) (xs := knownC) (encs := encCap) (gf := 22) (lb := #[]) (BoxC (w.heap.size + 1) w1.heap.size v) (fun _ _ _ _ => False)
    rfl (all_seqF w1 hK1) (fun k hk => ⟨by omega, fun e => by unfold knownY at e; omega⟩) (fun k hk => by unfold knownY at hk; omega) (by omega) (enters_of Tryd.func22 (by kernel_rfl) rfl) (fun _ => rfl)
    (boxC_stays _ _ _) (fun c s X1 V1 V2 h => h.elim) ⟨_, hb1, ownT_nil _ _, by omega, fun k => by simp [Value.ownBlock]⟩ ?round ?done (fun _ _ _ _ _ _ _ _ _ _ _ h => h.elim)
  case round =>
    rintro l pre ⟨nm, m⟩ r X1 V K rb hl2 hpx hI hG hxl hF hlV hK
    dsimp only [encCap]
    have HK := Lib.hid hK
    have HV := Lib.hid (And.intro hpx (And.intro hI (And.intro hG (And.intro hxl (And.intro hF (And.intro hlV hl2))))))
    clear hK hpx hI hG hxl hF hlV hl2 f1 hb0 hb1 z1 hK1 hKl
    gi_wp2_with fail
    refine HK.out _ _ (Fr.refl _ _) fun Vb hfb hzb hsb hrb => ?_
    clear HK K
    obtain ⟨hpx, ⟨vb, k3, o3, hSl, hX1⟩, hG, hxl, hF, hlV, hl2⟩ := HV.out
    obtain ⟨hb0, hb1, f1, z1, hK1, hKl⟩ := H.out
    have hmem : ((nm, m) : CapE) ∈ knownC := by rw [← hpx]; exact List.mem_append_right _ List.mem_cons_self
    have hnum := cap_num hmem
    have hpl : (rowOf v pre).length ≤ 3 := by
      have h1 := rowOf_len v pre
      have h2 := congrArg List.length hpx
      rw [List.length_append] at h2
      have : knownC.length = 3 := rfl
      omega
    have k0 := hfb.blk (hF.blk hb0 (by omega)) (by omega)
    have c0 := blk_cell k0 0
    have k3b := hfb.blk k3 (fun e => hxl ((hX1 l).2 (.inl e.symm)))
    have o3b : OwnT w1.heap.size Vb vb (rowOf v pre) := ownT_kept o3 fun g hg => hfb.block g (o3.lt g hg).2 fun e => hxl ((hX1 l).2 (.inr (e ▸ hg)))
    have c3 := blk_cell k3b 0
    have hzs : Vb.heap.size = V.heap.size := hzb
    have hbz : w1.heap.size ≤ Vb.heap.size := by omega
    have hKb : Known Vb := hK1.same ((hfb.block _ (by have := hF.size; omega) (by omega)).trans (hF.block _ (by omega) (by omega)))
    have hhas := has_any v (BitVec.ofInt 64 m) Vb hKb
    rw [hnum] at hhas
    obtain ⟨b, hb⟩ : ∃ b, hasV v (BitVec.ofInt 64 m) = b := ⟨_, rfl⟩
    rw [hb] at hhas
    have hsn := rowOf_snoc v pre (nm, m)
    dsimp only at hsn
    rw [hb] at hsn
    have HH := Lib.hid hhas
    have HE := Lib.hid (And.intro hX1 (And.intro hG (And.intro hxl (And.intro hfb (And.intro hrb (And.intro k3b (And.intro o3b (And.intro hzs (And.intro hlV (And.intro hSl (And.intro hl2 hsn)))))))))))
    clear hpx k3 o3 hSl hX1 hG hxl hF hlV hl2 f1 hb0 hb1 z1 k3b k0 o3b hfb hzb hsb hrb hzs hK1 hKl hKb hhas hnum hmem hb hsn
    gi_wp2_with fail
    refine ⟨trivial, (calls_wide (.inr ⟨l, rfl⟩) HH.out).mono ?_⟩
    rintro e W5 ⟨rfl, b5⟩
    have f5 : Fr (fun _ => False) Vb W5 := Fr.of_below b5
    have hz5 := f5.size
    have k5 := f5.blk HE.out.2.2.2.2.2.1 fun e => e
    have o5 : OwnT w1.heap.size W5 vb (rowOf v pre) := ownT_kept HE.out.2.2.2.2.2.2.1 fun g hg => f5.block g (HE.out.2.2.2.2.2.2.1.lt g hg).2 fun e => e
    have F5 := Lib.hid (And.intro f5 (And.intro k5 o5))
    have c3 := blk_cell k5 0
    clear b5 f5 k5 o5 HH c0
    cases b with
    | false =>
      gi_wp2_with fail
      obtain ⟨hX1, hG, hxl, hfb, hrb, k3b, o3b, hzs, hlV, hSl, hl2, hsn⟩ := HE.out
      obtain ⟨f5, k5, o5⟩ := F5.out
      refine ⟨X1, fun k hk => ⟨by have := (hG k hk).1; omega, fun _ => hk⟩, (hfb.mono (Y := fun k => k = l ∨ X1 k) fun k _ e => .inl e).trans3 f5 fun _ _ e => e.elim, f5.blk hrb fun e => e, vb, k5, ?_, hSl, hX1⟩
      rw [hsn, if_neg (by decide), List.append_nil]
      exact o5
    | true =>
      have hor : W5.ownsRow w1.heap.size 9 1 vb (rowOf v pre).length ((rowOf v pre).map encT) := F5.out.2.2
      have HO := Lib.hid hor
      have hb5 : w1.heap.size ≤ W5.heap.size := by omega
      clear hor
      gi_wp2_with (gi_at_builtin; refine Hid.out ?_)
      refine Lib.hid ?_
      refine wpListIn_one_t rfl _ _ 34 rfl w1.heap.size 9 i0 _ 1 16 Tryd.underlying34 hi hz0 hz1 hz2 rfl (by decide) _ _ _ rfl HO.out #[.string nm] _ rfl rfl rfl (by intro u hu; simp at hu; subst hu; rfl) (by omega) (by decide) hb5 ?_
      intro v1 W2 hown1 hfr1 htie
      obtain ⟨A1, c1', rfl⟩ := row_slice hown1
      have hn3 : ∀ k, vb.ownBlock = some k → k ≠ w.heap.size + 1 := fun k hk e => by have := (HO.out.lt k hk).1; have := HE.out.2.2.2.2.2.2.2.2.2.1; omega
      have e1 : W2.heap[w.heap.size + 1]? = some (.cells #[vb] 34 (0, 0)) := hfr1.blk F5.out.2.1 fun e => hn3 _ e rfl
      have g1 := blk_cell e1 0
      have g2 := blk_free e1 0
      have HN := Lib.hid hn3
      clear hn3
      gi_wp2_with fail
      obtain ⟨hX1, hG, hxl, hfb, hrb, k3b, o3b, hzs, hlV, hSl, hl2, hsn⟩ := HE.out
      obtain ⟨f5, k5, o5⟩ := F5.out
      have hn3 := HN.out
      rw [if_pos trivial] at hsn
      have hlen : (rowOf v (pre ++ [(nm, m)])).length = (rowOf v pre).length + 1 := by rw [hsn]; simp
      have hown2 : OwnT w1.heap.size W2 (.slice A1 ((rowOf v pre).length + 1) c1') (rowOf v (pre ++ [(nm, m)])) := by
        unfold OwnT; rw [hsn, List.length_append, List.map_append]; exact hown1
      have hnx : (Value.slice A1 ((rowOf v pre).length + 1) c1').ownBlock ≠ some (w.heap.size + 1) := fun e => by have := (hown2.lt _ e).1; omega
      have hfr : Fr (fun k => k = l ∨ X1 k) V (W2.setCell ⟨w.heap.size + 1, 0, none⟩ (.slice A1 ((rowOf v pre).length + 1) c1')) :=
        ((((hfb.mono (Y := fun k => k = l ∨ X1 k) fun k _ e => .inl e).trans3 f5 fun _ _ e => e.elim).trans3 hfr1 fun k _ e => .inr ((hX1 k).2 (.inr e)))).setCell _ (.inr ((hX1 _).2 (.inl rfl))) _
      refine ⟨fun k => k = w.heap.size + 1 ∨ (Value.slice A1 ((rowOf v pre).length + 1) c1').ownBlock = some k, fun k hk => ?_, hfr, ?_, .slice A1 ((rowOf v pre).length + 1) c1', blk_set e1 0 _, ?_, hSl, fun k => Iff.rfl⟩
      · have hz2 := hfr1.size
        have hsz : (W2.setCell ⟨w.heap.size + 1, 0, none⟩ (.slice A1 ((rowOf v pre).length + 1) c1')).heap.size = W2.heap.size := by simp
        rw [hsz]
        rcases hk with rfl | hk
        · exact ⟨blk_lt e1, fun _ => (hX1 _).2 (.inl rfl)⟩
        · refine ⟨(hown2.lt k hk).2, fun hlt => ?_⟩
          rcases htie k hk with e | e
          · exact (hX1 k).2 (.inr e)
          · omega
      · have hl3 : ¬ vb.ownBlock = some l := fun e => hxl ((hX1 l).2 (.inr e))
        exact blk_other (hfr1.blk (f5.blk hrb fun e => e) hl3) _ (by simp; omega) _
      · exact ownT_kept hown2 fun g hg => heap_setCell_other W2 _ g _ fun e => by simp at e; exact hnx (e ▸ hg)
  case done =>
    rintro D X2 V hD hxD hG hF ⟨u, k3, o3, hSl, hX2⟩ hdef
    obtain ⟨A, cp, rfl⟩ := row_slice o3
    have c3 := blk_cell k3 0
    have hbV : RowKit.Below w.heap.size w V := ((f1.mono (Y := fun k => w.heap.size ≤ k) fun _ _ e => e.elim).trans3 hF fun k _ e => (by show w.heap.size ≤ k; rw [show k = w.heap.size + 1 from e]; omega)).below (Nat.le_refl _) fun k hk e => absurd (show w.heap.size ≤ k from e) (by omega)
    have hjo := join_own o3 ⟨#[32]⟩ (by
      have h1 := tx_row v
      have h2 := tx_len (hasV v 1#64) (hasV v 2#64) (hasV v 4#64) 3 (by omega)
      have h3 : (⟨#[32]⟩ : ByteArray).data.toList = [32] := rfl
      rw [h3, h1]; omega) (Nat.le_trans (rowOf_len v knownC) (by decide))
    have h3 : (⟨#[32]⟩ : ByteArray).data.toList = [32] := rfl
    rw [h3, tx_row v] at hjo
    obtain ⟨n3, hn3⟩ : ∃ n3, (rowOf v knownC).length = n3 := ⟨_, rfl⟩
    rw [hn3] at c3 hjo
    have HJ := Lib.hid hjo
    have HE := Lib.hid (And.intro hbV hdef)
    clear k3 o3 hF hdef hxD hX2 hSl hG f1 hb0 hb1 z1 hK1 hKl hbV hjo h3 hn3
    gi_wp2_with fail
    refine ⟨trivial, (calls_wide (.inl rfl) HJ.out).mono ?_⟩
    rintro e W5 ⟨rfl, b5⟩
    have B5 := Lib.hid b5
    clear b5 c3
    gi_wp2_with fail
    obtain ⟨hbV, hdef⟩ := HE.out
    obtain ⟨_, _, _, z1, _, _⟩ := H.out
    have hb6 := hbV.trans (B5.out.mono hbV.size)
    refine leaves_one D _ ((Fr.of_below B5.out).blk (X := fun _ => False) hdef fun e => e) fun w' hf => ⟨_, results_tmp rfl _ _ _, rfl, hb6.trans (hf.below (Nat.le_trans hbV.size B5.out.size) fun k hk e => by omega)⟩
end Go.Proofs.YtadojlmjapmbhaaDoor
