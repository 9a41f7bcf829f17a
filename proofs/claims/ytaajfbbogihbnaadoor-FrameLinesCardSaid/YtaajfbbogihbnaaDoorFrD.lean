/- Layer 5: rows of lines of the call's own; slices.AppendSeq, slices.Collect of lines; Feed. -/
import Derived.Test.YtaajfbbogihbnaaDoorFrC
namespace Go.Proofs.YtaajfbbogihbnaaDoor
set_option linter.unusedVariables false
set_option linter.unusedSimpArgs false
open Go Go.RowKit Go.Lib
attribute [local go_sem] Oper.semAt_some

def encL2 (x : FSt) : List Value := [.string (bs x.1), .bool x.2]
def OwnLn (base : Nat) (W : World) (v : Value) (xs : List FSt) : Prop := W.ownsRow base 38 2 v xs.length (xs.flatMap encL2)
theorem Tryd.infoLn : (Tryd.prog.info? 38).map (fun i => (i.zero, i.size, i.bytes)) = some (some (.agg #[.string { data := #[] }, .bool false]), 2, 24) := by kernel_rfl
theorem ownLn_kept {base : Nat} {w W : World} {v : Value} {xs : List FSt} (h : OwnLn base w v xs) (hs : ∀ g, v.ownBlock = some g → W.heap[g]? = w.heap[g]?) : OwnLn base W v xs := row_same h hs
theorem ownLn_nil (base : Nat) (w : World) : OwnLn base w (.slice none 0 0) [] := World.ownsRow_nil _ _ _ _
theorem ownLn_snoc {base : Nat} {w : World} {v : Value} {xs : List FSt} {x : FSt} (h : w.ownsRow base 38 2 v (xs.length + 1) (xs.flatMap encL2 ++ encL2 x)) : OwnLn base w v (xs ++ [x]) := by
  unfold OwnLn; rw [List.length_append, List.flatMap_append]; simpa using h
theorem ownLn_base {W : World} {base base' : Nat} {v : Value} {xs : List FSt} (h : OwnLn base W v xs) (hb : base' ≤ base) : OwnLn base' W v xs := by
  obtain ⟨h1, h2⟩ := h
  refine ⟨h1, ?_⟩
  rcases h2 with h2 | ⟨g, cap, cur, h3, h4, h5⟩
  · exact .inl h2
  · exact .inr ⟨g, cap, cur, h3, by omega, h5⟩
theorem seqD_mono {α : Type} {P : Program} {g : Nat} {lb : Array Value} {encs : α → Array Value} {Y Z : Nat → Prop} {D : (Nat → Prop) → World → Prop} {xs : List α} {w w1 : World} (h : SeqD P g lb encs Y Z D xs w) (hf : Fr (fun _ => False) w w1) (hY : ∀ b, Y b ∨ Z b → b < w.heap.size) : SeqD P g lb encs Y Z D xs w1 :=
  fun l J Jx X V h1 h2 => h l J Jx X V (Nat.le_trans hf.size h1) fun b hb => (h2 b hb).trans (hf.block b (hY b hb) fun e => e)
/-- a slice in its box: what it holds, and which blocks are the body's -/
def BoxLn (S base : Nat) : List FSt → (Nat → Prop) → World → Prop := fun pre X V => ∃ v, V.heap[S]? = some (.cells #[v] 27 (0, 0)) ∧ OwnLn base V v pre ∧ S < base ∧ ∀ k, X k ↔ (k = S ∨ v.ownBlock = some k)
theorem boxLn_stays (S base : Nat) : Stays (BoxLn S base) := fun s X V V' ⟨v, h1, h2, h3, h4⟩ hl hf =>
  ⟨v, hf.blk h1 (fun e => e ((h4 S).2 (.inl rfl))), ownLn_kept h2 fun g hg => hf.block g (h2.lt g hg).2 (fun e => e ((h4 g).2 (.inr hg))), h3, h4⟩

set_option maxRecDepth 100000 in
set_option maxHeartbeats 8000000 in
theorem appendSeqLn {g : Nat} {lb : Array Value} {Y Z : Nat → Prop} {D : (Nat → Prop) → World → Prop} {xs : List FSt} (w : World) (hD : Rest D) (hseq : SeqD Tryd.prog g lb encLn Y Z D xs w) (hY : ∀ b, Y b ∨ Z b → b < w.heap.size)
    (eg : ∀ args v, (callFunc g args).run Tryd.prog v = .ok (.enter g args) v) (hxl : xs.length ≤ 1000000) :
    Calls Tryd.prog 18 #[.slice none 0 0, .func (.func g) #[] lb] w fun e w' => ∃ v X2, e = .returned v ∧ OwnLn w.heap.size w' v xs ∧ (∀ k, v.ownBlock = some k → X2 k) ∧ D X2 w' ∧ Fr Z w w' := by
  refine (callsIn_wide (n := 20)).1 ?_
  refine callsIn_of_wp_marks Tryd.func18 rfl trivial ?_ rfl
  simp only [Tryd.ntmps18, List.size_toArray, List.length_cons, List.length_nil, Nat.reduceAdd, Nat.reduceSub, Array.replicate_succ, Array.replicate_zero, List.push_toArray, List.append_toArray, List.nil_append, List.cons_append]
  obtain ⟨i0, hi, hz0, hz1, hz2⟩ := info_parts Tryd.infoLn
  obtain ⟨w1, hw1⟩ : ∃ w1, w.alloc (.cells #[.slice none 0 0] 27) = w1 := ⟨_, rfl⟩
  have f1 : Fr (fun _ => False) w w1 := by rw [← hw1]; exact (Fr.refl _ w).alloc _
  have z1 : w1.heap.size = w.heap.size + 1 := by rw [← hw1]; simp
  have k1 : w1.heap[w.heap.size]? = some (.cells #[.slice none 0 0] 27 (0, 0)) := by rw [← hw1]; exact World.alloc_heap_new w _
  have hseq1 := seqD_mono hseq f1 hY
  have HE := Lib.hid (And.intro f1 (And.intro z1 k1))
  clear hseq
  gi_wp2_with fail
  clear hw1 f1 k1
  refine wpIn_rangeD (X := fun k => k = w.heap.size) (Y := Y) (Z := Z) (xs := xs) (encs := encLn) (gf := g) (lb := lb) (BoxLn w.heap.size (w.heap.size + 1)) (fun _ _ _ _ => False)
    rfl hD hseq1 (fun k hk => ⟨by omega, fun e => by have := hY k e; omega⟩) (fun b hb => by have := hY b hb; omega) (by omega) eg (fun _ => rfl)
    (boxLn_stays _ _) (fun c s X1 V1 V2 h => h.elim) ⟨_, HE.out.2.2, ownLn_nil _ _, by omega, fun k => by simp [Value.ownBlock]⟩ ?round ?done (fun _ _ _ _ _ _ _ _ _ _ _ h => h.elim)
  case round =>
    rintro l pre x r X1 V K rb hl2 hpx hI hG hxl1 hF hlV hK
    dsimp only [encLn, lineV]
    have HK := Lib.hid hK
    have HV := Lib.hid (And.intro hpx (And.intro hI (And.intro hG (And.intro hxl1 (And.intro hF (And.intro hlV hl2))))))
    clear hK hpx hI hG hxl1 hF hlV hl2 hseq1
    gi_wp2_with fail
    refine HK.out _ _ ((Fr.refl _ V).alloc _) fun Vb hfb hzb hsb hrb => ?_
    clear HK K
    obtain ⟨hpx, ⟨vb, k3, o3, hS, hX1⟩, hG, hxl1, hF, hlV, hl2⟩ := HV.out
    have z1 := HE.out.2.1
    have hzs : Vb.heap.size = V.heap.size + 1 := by rw [hzb]; simp
    have hfv : Fr (fun k => k = l) V Vb := hfb
    have k5 : Vb.heap[V.heap.size]? = some (.cells #[.string (bs x.1), .bool x.2] 38 (0, 0)) := (hsb V.heap.size (by omega)).trans (World.alloc_heap_new V _)
    have hSl : w.heap.size ≠ l := fun e => hxl1 ((hX1 l).2 (.inl e.symm))
    have k3b := hfv.blk k3 hSl
    have o3b : OwnLn (w.heap.size + 1) Vb vb pre := ownLn_kept o3 fun g hg => hfv.block g (o3.lt g hg).2 fun e => hxl1 ((hX1 l).2 (.inr (e ▸ hg)))
    have c3 := blk_cell k3b 0
    have g3 := blk_free k3b 0
    have c50 := blk_cell k5 0
    have c51 := blk_cell k5 1
    simp only [List.getElem?_toArray, List.getElem?_cons_zero, List.getElem?_cons_succ] at c3 c50 c51
    have hpl : pre.length ≤ 1000000 := by
      have h2 : (pre ++ x :: r).length = xs.length := by rw [hpx]
      rw [List.length_append] at h2
      omega
    have hVw : w1.heap.size ≤ V.heap.size := hF.size
    have hbz : w.heap.size + 1 ≤ Vb.heap.size := by omega
    have HS := Lib.hid (And.intro hX1 (And.intro hG (And.intro hxl1 (And.intro hfv (And.intro hrb (And.intro k3b (And.intro o3b (And.intro hzs (And.intro hlV hSl)))))))))
    obtain ⟨Av, cv, ev⟩ := row_slice o3b
    subst ev
    have hor : Vb.ownsRow (w.heap.size + 1) 38 2 (.slice Av pre.length cv) pre.length (pre.flatMap encL2) := o3b
    have HO := Lib.hid hor
    clear hor hpx k3 o3 hS hX1 hG hxl1 hF hlV hl2 hfb hzb hsb hrb hfv k5 hSl k3b o3b hVw hzs
    gi_wp2_with (first | (gi_at_builtin; refine Hid.out ?_))
    refine Lib.hid ?_
    refine wpListIn_one_t rfl _ _ 27 rfl (w.heap.size + 1) 38 i0 _ 2 24 Tryd.underlying27 hi hz0 hz1 hz2 rfl (by decide) _ _ _ rfl HO.out #[.string (bs x.1), .bool x.2] _ rfl rfl rfl (by intro u hu; simp at hu; rcases hu with rfl | rfl <;> rfl) (by omega) (by decide) hbz ?_
    intro v1 W2 o1 f1 t1
    obtain ⟨A1, n1, rfl⟩ := row_slice o1
    obtain ⟨hX1, hG, hxl1, hfv, hrb, k3b, o3b, hzs, hlV, hSl⟩ := HS.out
    have hvS : (Value.slice Av pre.length cv).ownBlock ≠ some w.heap.size := fun e => by have := (o3b.lt _ e).1; omega
    have k6 := f1.blk k3b hvS
    have c6 := blk_cell k6 0
    have g6 := blk_free k6 0
    have HF := Lib.hid (And.intro o1 (And.intro f1 (And.intro t1 (And.intro hvS k6))))
    clear o1 f1 t1 hX1 hG hxl1 hfv hrb k3b o3b hzs hlV hSl hvS k6
    gi_wp2_with fail
    obtain ⟨hX1, hG, hxl1, hfv, hrb, k3b, o3b, hzs, hlV, hSl⟩ := HS.out
    obtain ⟨o1, f1, t1, hvS, k6⟩ := HF.out
    have o1' : OwnLn (w.heap.size + 1) W2 (.slice A1 (pre.length + 1) n1) (pre ++ [x]) := ownLn_snoc o1
    have hvl : (Value.slice Av pre.length cv).ownBlock ≠ some l := fun e => hxl1 ((hX1 l).2 (.inr e))
    have hsz : (W2.setCell ⟨w.heap.size, 0, none⟩ (.slice A1 (pre.length + 1) n1)).heap.size = W2.heap.size := by simp
    refine ⟨fun k => k = w.heap.size ∨ (Value.slice A1 (pre.length + 1) n1).ownBlock = some k, fun k hk => ?_, ?_, blk_other (f1.blk hrb hvl) _ (by simpa using fun e => hSl e.symm) _, .slice A1 (pre.length + 1) n1, blk_set k6 0 _, ownLn_kept o1' fun g hg => heap_setCell_other _ _ g _ (by have := (o1'.lt g hg).1; simp; omega), by omega, fun k => Iff.rfl⟩
    · rw [hsz]
      have hz2 := f1.size
      rcases hk with rfl | hk
      · exact ⟨blk_lt k6, fun _ => (hX1 _).2 (.inl rfl)⟩
      · refine ⟨(o1.lt k hk).2, fun hlt => ?_⟩
        rcases t1 k hk with e | e
        · exact (hX1 k).2 (.inr e)
        · omega
    · exact (((hfv.mono (Y := fun k => k = l ∨ X1 k) fun k _ e => .inl e)).trans3 f1 fun k _ e => .inr ((hX1 k).2 (.inr e))).setCell ⟨w.heap.size, 0, none⟩ (.inr ((hX1 _).2 (.inl rfl))) _
  case done =>
    rintro D' X2 V hD' hxD hG hF ⟨v, k3, o3, hS, hX2⟩ hd hdef
    obtain ⟨f1, z1, k1⟩ := HE.out
    obtain ⟨Av, cv, ev⟩ := row_slice o3
    subst ev
    have c3 := blk_cell k3 0
    have HD := Lib.hid (And.intro k3 (And.intro o3 (And.intro hX2 (And.intro hd (And.intro hdef (And.intro hxD (And.intro hF (And.intro f1 (And.intro z1 hD')))))))))
    clear k3 o3 hX2 hd hdef hxD hF f1 z1 k1 hD' hseq1 hG
    gi_wp2_with fail
    obtain ⟨k3, o3, hX2, hd, hdef, hxD, hF, f1, z1, hD'⟩ := HD.out
    refine leaves_one D' _ hdef (fun w' hf => ?_)
    refine ⟨_, results_tmp rfl _ _ _, ?_⟩
    refine ⟨_, X2, rfl, ownLn_base (ownLn_kept o3 fun g hg => hf.block g (o3.lt g hg).2 fun e => hxD (e ▸ (hX2 g).2 (.inr hg))) (by omega), fun k hk => (hX2 k).2 (.inr hk), ?_, ?_⟩
    · exact hD _ _ _ _ hd (fun k hk => .inl hk) (hf.mono fun k _ e => .inr e)
    · exact ((f1.mono fun _ _ e => e.elim).trans3 hF fun k hk e => by rcases e with e | e; omega; exact e).trans3 hf fun k hk e => by omega
end Go.Proofs.YtaajfbbogihbnaaDoor
