/- Texts of this proof, one behind the other. -/
import Derived.Test.YteiiaocohpbanaaGreatPairStaysG8
import Derived.Test.YteiiaocohpbanaaGreatPairStaysG9
import Derived.Below
import Derived.ChangeSame
section
/- Layer 11: PairStays. -/
namespace Go.Proofs.YteiiaocohpbanaaGreat
set_option linter.unusedVariables false
set_option linter.unusedSimpArgs false
open Go Go.RowKit Go.Maps Go.Lib Go.Sort Go.Shelf
attribute [local go_sem] Oper.semAt_some

/-- a relation of numbers with 7, in a box -/
structure FillP (w : World) (N t B1 : Nat) (X : Nat → Prop) (L : List (Int × Int)) (W : World) : Prop where
  rel : RelAtII N W t X 50 L
  seven : ∀ p ∈ L, p.2 = 7
  low : ∀ j, X j → N ≤ j
  box : W.heap[B1]? = some (.cells #[.pointer (some ⟨t, 0, none⟩)] 54 (0, 0))
  res : W.heap[w.heap.size]? = some (.cells #[.bool false] 4 (0, 0))
  fr : Fr (fun _ => False) w W
  far : w.heap.size < N ∧ N ≤ B1 ∧ ¬ X B1
theorem FillP.fr2 {w : World} {N t B1 : Nat} {X : Nat → Prop} {L : List (Int × Int)} {W W' : World} (h : FillP w N t B1 X L W) (hf : Fr (fun _ => False) W W') : FillP w N t B1 X L W' :=
  ⟨h.rel.fr hf (fun _ _ e => e), h.seven, h.low, hf.blk h.box (fun e => e), hf.blk h.res (fun e => e), h.fr.trans hf, h.far⟩
theorem FillP.put {w : World} {N t B1 : Nat} {X X' : Nat → Prop} {L L' : List (Int × Int)} {W W' : World} (h : FillP w N t B1 X L W) (hr : RelAtII N W' t X' 50 L') (hs : ∀ p ∈ L', p.2 = 7) (hx : ∀ j, X' j → X j ∨ W.heap.size ≤ j) (hf : Fr X W W') : FillP w N t B1 X' L' W' := by
  have hB := blk_lt h.box
  have hz := h.fr.size
  have hN := h.rel.lt h.rel.own
  refine ⟨hr, hs, fun j hj => ?_, hf.blk h.box h.far.2.2, hf.blk h.res (fun e => by have := h.low _ e; have := h.far.1; omega), h.fr.trans3 hf fun k hk e => by have := h.low k e; have := h.far.1; omega, h.far.1, h.far.2.1, fun e => ?_⟩
  · rcases hx j hj with e | e
    · exact h.low j e
    · have := h.far.2.1; omega
  · rcases hx _ e with e | e
    · exact h.far.2.2 e
    · omega
/-- how far the range has come -/
def RotJ (B3 N t : Nat) (bs : Nat → Prop) (L : List (Int × Int)) (pre : List Int) (X : Nat → Prop) (W : World) : Prop :=
  W.heap[B3]? = some (.cells #[.int .i64 (pre.length : Int)] 3 (0, 0)) ∧ ∃ Xr M, RelAtII N W t Xr 50 M ∧ RotL L pre M ∧ (∀ k, Xr k → N ≤ k ∧ k ≠ B3 ∧ ¬ bs k) ∧ ∀ k, X k ↔ (k = B3 ∨ Xr k)
theorem rotJ_stays (B3 N t : Nat) (bs : Nat → Prop) (L : List (Int × Int)) : Stays (RotJ B3 N t bs L) := fun pre X V V' ⟨h1, Xr, M, h2, h3, h4, h5⟩ hl hf =>
  ⟨hf.blk h1 (fun e => e ((h5 _).2 (.inl rfl))), Xr, M, h2.fr hf fun j hj e => e ((h5 j).2 (.inr hj)), h3, h4, h5⟩
set_option maxRecDepth 100000 in
set_option maxHeartbeats 16000000 in
theorem pairStays_walk (A : Option Addr) (la : List zinT) (ca : Nat) (w : World) (hz : ∀ x ∈ la, zinG x)
    (hA : 0 < la.length → ∃ g o, A = some ⟨g, o, none⟩ ∧ g < w.heap.size ∧ ∀ i (h : i < la.length) j u, (zinL la[i])[j]? = some u → w.cell? ⟨g, o + i * 1 + j, none⟩ = some u) :
    Calls Tryz.prog 5 #[.slice A la.length ca] w fun e w' => e = .returned (.bool true) ∧ RowKit.Below w.heap.size w w' := by
  have hcell : 0 < la.length → ∃ g o, A = some ⟨g, o, none⟩ ∧ ∀ i (h : i < la.length), w.cell? ⟨g, o + i, none⟩ = some (.int .i64 la[i]) := fun h0 => by
    obtain ⟨g, o, e, _, hc⟩ := hA h0
    exact ⟨g, o, e, fun i hi => by have := hc i hi 0 _ rfl; rwa [Nat.mul_one, Nat.add_zero] at this⟩
  obtain ⟨w1, hw1⟩ : ∃ w1, w.alloc (Obj.cells #[Value.bool false] 4) = w1 := ⟨_, rfl⟩
  have z1 : w1.heap.size = w.heap.size + 1 := by rw [← hw1]; simp
  have f1 : Fr (fun _ => False) w w1 := by rw [← hw1]; exact (Fr.refl _ w).alloc _
  have k1 : w1.heap[w.heap.size]? = some (.cells #[.bool false] 4 (0, 0)) := by rw [← hw1]; exact heap_alloc_new w _
  have HA := Lib.hid (awake11 w1)
  have HW := Lib.hid hw1
  have H1 := Lib.hid (And.intro z1 (And.intro f1 k1))
  have HC := Lib.hid (And.intro hcell hz)
  have HNew : Hid (∀ V, Calls Tryz.prog 25 #[.int .i64 50] V _) := fun V => relNewII (most := 50) (by decide) V
  clear hw1 z1 f1 k1 hcell hA hz
  refine (callsIn_wide (n := 30)).1 ?_
  refine callsIn_of_wp_marks Tryz.func5 rfl trivial ?_ rfl
  simp only [Tryz.ntmps5, List.size_toArray, List.length_cons, List.length_nil, Nat.reduceAdd, Nat.reduceSub, Array.replicate_succ, Array.replicate_zero, List.push_toArray, List.append_toArray, List.nil_append, List.cons_append]
  gi_wp2_with fail
  rw [HW.out]
  refine ⟨trivial, (calls_wide (.inl rfl) HA.out).mono ?_⟩
  rintro e w2 ⟨rfl, b2⟩
  have f2 : Fr (fun _ => False) w w2 := H1.out.2.1.trans (Fr.of_below b2)
  have k2 := (Fr.of_below (X := fun _ => False) b2).blk H1.out.2.2 fun e => e
  have c2 := blk_cell k2 0
  have d2 := blk_free k2 0
  have z2 : w.heap.size < w2.heap.size := blk_lt k2
  have H2 := Lib.hid (And.intro f2 k2)
  clear f2 k2 b2 HA HW H1
  have ends : ∀ W, (Fr (fun _ => False) w W ∧ W.heap[w.heap.size]? = some (.cells #[.bool false] 4 (0, 0))) → RowKit.Below w.heap.size w (W.setCell ⟨w.heap.size, 0, none⟩ (.bool true)) ∧ (W.setCell ⟨w.heap.size, 0, none⟩ (.bool true)).heap[w.heap.size]? = some (.cells #[.bool true] 4 (0, 0)) := fun W ⟨hf, hk⟩ =>
    ⟨(hf.below (Nat.le_refl _) fun _ _ e => e.elim).setCell (Nat.le_refl _) _, blk_set hk 0 _⟩
  have HE := Lib.hid ends
  clear ends
  by_cases h30 : (30 : Int) < (la.length : Int)
  · have q1 : decide ((30 : Int) < (la.length : Int)) = true := by simp; omega
    gi_wp2_with fail
    obtain ⟨p1, p2⟩ := HE.out _ H2.out
    refine leavesF [] _ List.nodup_nil (by simp) fun w' hf => ⟨_, results_box rfl _ _ w.heap.size (.bool true) _ rfl (blk_cell (hf.blk p2 (by simp)) 0) Tryz.underlying4 rfl, rfl, p1.trans (hf.below p1.size fun k _ e => by simp at e)⟩
  have q1 : decide ((30 : Int) < (la.length : Int)) = false := by simp; omega
  gi_wp2_with fail
  refine ⟨trivial, (calls_wide (.inl rfl) (HNew.out _)).mono ?_⟩
  rintro e w3 ⟨t, X3, rfl, h3, x3, b3⟩
  obtain ⟨w4, hw4⟩ : ∃ w4, w3.alloc (Obj.cells #[Value.pointer (some ⟨t, 0, none⟩)] 54) = w4 := ⟨_, rfl⟩
  have f4 : Fr (fun _ => False) w3 w4 := by rw [← hw4]; exact (Fr.refl _ w3).alloc _
  have k4 : w4.heap[w3.heap.size]? = some (.cells #[.pointer (some ⟨t, 0, none⟩)] 54 (0, 0)) := by rw [← hw4]; exact heap_alloc_new w3 _
  have G0 : Hid (FillP w w2.heap.size t w3.heap.size X3 [] w4) := ⟨h3.fr f4 (fun _ _ e => e), (fun p hp => by cases hp), x3, k4, f4.blk ((Fr.of_below (X := fun _ => False) b3).blk H2.out.2 fun e => e) fun e => e, (H2.out.1.trans (Fr.of_below b3)).trans f4, ⟨z2, b3.size, fun e => by have := (h3.lt e).2; omega⟩⟩
  obtain ⟨N, hN⟩ : ∃ N, w2.heap.size = N := ⟨_, rfl⟩
  obtain ⟨B1, hB1⟩ : ∃ B1, w3.heap.size = B1 := ⟨_, rfl⟩
  rw [hN, hB1] at G0
  have HW := Lib.hid (And.intro hw4 hB1)
  clear f4 k4 h3 x3 b3 HNew H2 hw4 c2 d2 z2 hN
  gi_wp2_with fail
  rw [HW.out.1]
  clear HW
  gi_loopw [5] (fun c7 wr => ∃ i : Nat, c7 = .int .i64 i ∧ i ≤ la.length ∧ Hid (∃ X L, L.length ≤ i ∧ FillP w N t B1 X L wr)) (fun c7 _ => la.length - (RowKit.intOf c7).toNat)
  case atStart => exact ⟨0, rfl, Nat.zero_le _, X3, [], by simp, G0.out⟩
  case round =>
    obtain ⟨i, rfl, hi, HB⟩ := hrel
    clear G0
    obtain ⟨X, L, hTl, hG⟩ := HB.out
    have cb := blk_cell hG.box 0
    have cr := blk_cell hG.res 0
    have dr := blk_free hG.res 0
    have HG := Lib.hid hG
    clear HB hG
    by_cases hlt : i < la.length
    · obtain ⟨g, o, rfl, hcell⟩ := HC.out.1 (by omega)
      have hc := hcell i hlt
      have hg := World.block_lt_of_cell? _ _ hc
      obtain ⟨s, hs⟩ : ∃ s : Int, la[i] = s := ⟨_, rfl⟩
      have hok : OkKII s := by rw [← hs]; exact HC.out.2 _ (List.getElem_mem _)
      rw [hs] at hc
      have e0 : wr.cell? ⟨g, o + i, none⟩ = some (.int .i64 s) := (HG.out.fr.cell (p := ⟨g, o + i, none⟩) hg fun e => e).trans hc
      have n1 : (i : Int) < (la.length : Int) := by omega
      have n2 : decide ((i : Int) < (la.length : Int)) = true := by simp; omega
      have n3 : ¬ (la.length : Int) ≤ (i : Int) := by omega
      clear hcell hc hg hs
      have HGd := Lib.hid (HG.out.fr2 ((Fr.refl (fun _ => False) wr).drew))
      have HP := Lib.hid (relAddII HGd.out.rel (by have := HGd.out.far; have := blk_lt HGd.out.box; omega) (by omega) hok (b := 7) (by unfold OkKII; decide))
      clear hok
      gi_wp2_with fail
      refine wpIn_noPanic ?_
      gi_region_with (first | (refine ⟨trivial, ?_⟩; gi_at_call 26; refine (calls_wide (.inl rfl) HP.out).mono ?_; rintro e w5 hP; obtain ⟨X5, c5, L5, rfl, p5, f5, r5, q5⟩ := AddRII.any hP; have G5 : Hid (∃ X L, L.length ≤ i + 1 ∧ FillP w N t B1 X L w5) := ⟨X5, L5, (by rcases q5 with ⟨rfl, _⟩ | ⟨rfl, _⟩; omega; rw [List.length_append, List.length_singleton]; omega), HGd.out.put r5 (fun p hp => by rcases q5 with ⟨rfl, _⟩ | ⟨rfl, _⟩; exact HGd.out.seven p hp; rcases List.mem_append.1 hp with e | e; exact HGd.out.seven p e; rw [List.mem_singleton.1 e]) p5 f5⟩; clear hP p5 f5 r5 q5))
      all_goals
        dsimp only [NoPanic]
        gi_wp2_with fail
        go_roundw
        case rel => exact ⟨i + 1, by go_num, by omega, G5⟩
        case measure => simp [RowKit.intOf]; omega
    · have n1 : ¬ (i : Int) < (la.length : Int) := by omega
      have n2 : decide ((i : Int) < (la.length : Int)) = false := by simp; omega
      have hTl : L.length ≤ 30 := by omega
      have HL := Lib.hid (lenAtII HG.out.rel)
      obtain ⟨n, hn⟩ : ∃ n, L.length = n := ⟨_, rfl⟩
      rw [hn] at HL
      obtain ⟨w7, hw7⟩ : ∃ w7, wr.alloc (Obj.cells #[Value.int .i64 (n : Int)] 3) = w7 := ⟨_, rfl⟩
      have f7 : Fr (fun _ => False) wr w7 := by rw [← hw7]; exact (Fr.refl _ wr).alloc _
      have k7 : w7.heap[wr.heap.size]? = some (.cells #[.int .i64 (n : Int)] 3 (0, 0)) := by rw [← hw7]; exact heap_alloc_new wr _
      have H7 := HG.out.fr2 f7
      have cb7 := blk_cell H7.box 0
      rw [← hw7] at cb7
      obtain ⟨xs, y1, y2, y3, y4⟩ := byAtII HG.out.rel (by omega) (b := 7) (by unfold OkKII; decide)
      have HBy := Lib.hid (y4 w7 f7)
      obtain ⟨B2, hB2⟩ : ∃ B2, wr.heap.size = B2 := ⟨_, rfl⟩
      have z7 : w7.heap.size = B2 + 1 := by rw [← hw7, ← hB2]; simp
      rw [hB2] at k7
      have hlt7 : B1 < B2 := by rw [← hB2]; exact blk_lt HG.out.box
      have hXB2 : ∀ j, X j → j < B2 := fun j hj => by rw [← hB2]; exact (HG.out.rel.lt hj).2
      have hxn : xs.length = n := by rw [← hn]; exact lefts_len HG.out.rel.nodup HG.out.seven (up_nodup y1) y2
      have HW7 := Lib.hid hw7
      have K7 := Lib.hid (And.intro H7 (And.intro k7 (And.intro z7 (And.intro hlt7 (And.intro hB2 (And.intro hXB2 (And.intro y1 (And.intro y2 (And.intro hxn hn)))))))))
      have hn30 : n ≤ 30 := by omega
      clear hw7 f7 k7 H7 hlt7 z7 hB2 hXB2 y1 y2 y3 y4 hxn hn
      gi_wp2_with fail
      refine ⟨trivial, (calls_wide (.inl rfl) HL.out).mono ?_⟩
      rintro e w6 ⟨rfl, rfl⟩
      gi_wp2_with fail
      rw [HW7.out, K7.out.2.2.2.2.1]
      refine ⟨trivial, (calls_wide (.inl rfl) HBy.out).mono ?_⟩
      rintro e w8 ⟨⟨F, rfl, hT⟩, b8⟩
      have f8 : Fr (fun _ => False) w7 w8 := Fr.of_below b8
      obtain ⟨Y, hYb, gf, lb, rfl, hseq, hYl, heg⟩ := tellsI_tale hT (by have := K7.out.2.2.2.2.2.2.2.2.1; omega)
      have hnil : ∀ W, (binOp BinOp.eql 59 (.func (.func gf) #[] lb) Value.nilFunc).run Tryz.prog W = .ok (.bool false) W := fun W => by rfl
      have H8 := K7.out.1.fr2 f8
      have k8 := f8.blk K7.out.2.1 fun e => e
      obtain ⟨w9, hw9⟩ : ∃ w9, w8.alloc (Obj.cells #[Value.int IntKind.i64 0] 3) = w9 := ⟨_, rfl⟩
      have f9 : Fr (fun _ => False) w8 w9 := by rw [← hw9]; exact (Fr.refl _ w8).alloc _
      obtain ⟨B3, hB3⟩ : ∃ B3, w8.heap.size = B3 := ⟨_, rfl⟩
      have k9 : w9.heap[B3]? = some (.cells #[.int .i64 0] 3 (0, 0)) := by rw [← hw9, ← hB3]; exact heap_alloc_new w8 _
      have z9 : w9.heap.size = B3 + 1 := by rw [← hw9, ← hB3]; simp
      have H9 := H8.fr2 f9
      have k29 := f9.blk k8 fun e => e
      have hs8 := f8.size
      have HW9 := Lib.hid (And.intro hw9 hB3)
      have K9 := Lib.hid (And.intro H9 (And.intro k9 (And.intro z9 (And.intro k29 (And.intro hs8 (And.intro hYb (And.intro hseq (And.intro hYl (And.intro heg f9)))))))))
      clear H8 k8 hw9 f9 k9 z9 H9 k29 hT b8 f8 hs8 HW7 HBy HL cb7 cb cr dr hYb hseq hYl heg
      gi_wp2_with (simp only [hnil])
      rw [HW9.out.1]
      obtain ⟨H9, k9, z9, k29, hs8, hYb, hseq, hYl, heg, f9⟩ := K9.out
      obtain ⟨H7, k7, z7, hlt7, hB2, hXB2, y1, y2, hxn, hn⟩ := K7.out
      have hB3 := HW9.out.2
      have hs9 : ∀ b2, Y b2 → w9.heap[b2]? = w8.heap[b2]? := fun b2 hb2 => f9.block b2 (hYl b2 hb2) fun e => e
      have hseq9 : SeqF Tryz.prog gf lb encI Y xs w9 := hseq.same hs9
      have hfar := H9.far
      refine wpIn_rangeF (X := fun k => k = B3 ∨ X k) (Y := Y) (xs := xs) (encs := encI) (gf := gf) (lb := lb) (RotJ B3 N t (fun k => k = B1 ∨ k = B2) L) (fun _ _ _ _ => False)
        rfl hseq9 (fun k hk => ⟨by rcases hk with e | e <;> first | omega | (have := hXB2 k e; omega), fun e => by have := hYb k e; have := hYl k e; rcases hk with e | e <;> first | omega | (have := hXB2 k e; omega)⟩) (fun b2 hb2 => by have := hYl b2 hb2; omega) (by omega) heg (fun _ => rfl)
        (rotJ_stays _ _ _ _ _) (fun c s X1 V1 V2 h => h.elim) ⟨k9, X, L, H9.rel, rot_start H9.rel.nodup H9.seven, fun k hk => ⟨H9.low k hk, by have := hXB2 k hk; omega, fun e => by have := hXB2 k hk; rcases e with e | e; exact hfar.2.2 (e ▸ hk); omega⟩, fun k => Iff.rfl⟩ ?round ?done (fun _ _ _ _ _ _ _ _ _ _ _ h => h.elim)
      case round =>
        rintro l pre x r X1 V K rb hl2 hpx hI hG2 hxl hF hlV hK
        dsimp only [encI]
        have HK := Lib.hid hK
        have HV := Lib.hid (And.intro hpx (And.intro hI (And.intro hG2 (And.intro hxl (And.intro hF (And.intro hlV hl2))))))
        clear hK hpx hI hG2 hxl hF hlV hl2 H9 k9 z9 k29 hs8 hYb hseq hYl heg f9 H7 k7 z7 hlt7 hB2 hXB2 y1 y2 hxn hn hB3 hs9 hseq9 hfar
        gi_wp2_with fail
        refine HK.out _ _ (Fr.refl _ _) fun Vb hfb hzb hsb hrb => ?_
        clear HK K
        obtain ⟨hpx, ⟨j3, Xr, M, hr, hM, hrn, hX1⟩, hG2, hxl, hF, hlV, hl2⟩ := HV.out
        obtain ⟨H9, k9, z9, k29, hs8, hYb, hseq, hYl, heg, f9⟩ := K9.out
        obtain ⟨H7, k7, z7, hlt7, hB2, hXB2, y1, y2, hxn, hn⟩ := K7.out
        have hB3 := HW9.out.2
        have hfar := H9.far
        have hlX : ∀ k, X1 k → k ≠ l := fun k hk e => hxl (e ▸ hk)
        have hno : ∀ k, (k = B3 ∨ X k) → k < w9.heap.size := fun k hk => by rcases hk with e | e; omega; have := hXB2 k e; omega
        have v3 := hfb.blk j3 (hlX _ ((hX1 _).2 (.inl rfl)))
        have v1 := hfb.blk (hF.blk H9.box (fun e => by rcases e with e | e; omega; exact hfar.2.2 e)) (by omega : ¬ B1 = l)
        have v2 := hfb.blk (hF.blk k29 (fun e => by rcases e with e | e; omega; have := hXB2 _ e; omega)) (by omega : ¬ B2 = l)
        have hrb2 := hr.fr hfb fun j hj => hlX j ((hX1 _).2 (.inr hj))
        have hVs : w9.heap.size ≤ Vb.heap.size := Nat.le_trans hF.size hfb.size
        have hNV : N ≤ Vb.heap.size := by omega
        have hxx : x ∈ xs := by rw [← hpx]; simp
        have hx7 : (x, 7) ∈ L := (y2 x).1 hxx
        have hxp : x ∉ pre := fun e => by
          have hnd : xs.Nodup := up_nodup y1
          rw [← hpx, List.nodup_append] at hnd
          exact hnd.2.2 x e x (List.mem_cons_self ..) rfl
        obtain ⟨m7, m8, mm⟩ := rot_less hM hx7 hxp
        have hML : M.length ≤ 30 := by rw [hM.len]; omega
        have hokx : OkKII x := by
          obtain ⟨b1, b2, T1, T2, hst, _⟩ := HG.out.rel
          obtain ⟨e1, hl1, _⟩ := lkHasII ((hst.h1 x 7).2 hx7)
          exact hst.m1.2.1.2 (x, e1.s) (List.mem_map.2 ⟨_, lookM_memP hl1, rfl⟩)
        have HRm := Lib.hid (relRemII hrb2 hNV (by omega) hokx (b := 7) (by unfold OkKII; decide))
        unfold RemRII at HRm
        rw [decide_eq_true m7] at HRm
        have hpl : pre.length < xs.length := by
          have := congrArg List.length hpx
          simp at this; omega
        have cc3 := blk_cell v3 0
        have cc2 := blk_cell v2 0
        have cc1 := blk_cell v1 0
        have s0 : ¬ (n : Int) < (pre.length : Int) := by omega
        have s1 : decide ((n : Int) < (pre.length : Int)) = false := by simp; omega
        have HU := Lib.hid (And.intro v3 (And.intro v1 (And.intro v2 (And.intro hfb (And.intro hzb (And.intro hrb (And.intro hrn (And.intro hX1 (And.intro hNV (And.intro m7 (And.intro m8 (And.intro mm (And.intro hML (And.intro hokx (And.intro hM (And.intro hx7 (And.intro hxp (And.intro hG2 (And.intro hxl (And.intro hF (And.intro hlV (And.intro hl2 (And.intro hpl hno)))))))))))))))))))))))
        have p0 : (pre.length : Int) ≤ 30 := by omega
        clear hpx j3 hr hM hrn hX1 hG2 hxl hF hlV hl2 H9 k9 z9 k29 hs8 hYb hseq hYl heg f9 H7 k7 z7 hlt7 hB2 hXB2 y1 y2 hxn hn hB3 hfar hlX hno v3 v1 v2 hrb2 hVs hNV hxx hx7 hxp m7 m8 mm hML hokx hpl hfb hzb hrb hsb
        gi_wp2_with fail
        refine ⟨trivial, (calls_wide (.inr ⟨l, rfl⟩) HRm.out).mono ?_⟩
        rintro e W5 ⟨rfl, Xr5, x5, f5, h5⟩
        obtain ⟨v3, v1, v2, hfb, hzb, hrb, hrn, hX1, hNV, m7, m8, mm, hML, hokx, hM, hx7, hxp, hG2, hxl, hF, hlV, hl2, hpl, hno⟩ := HU.out
        have hlb3 := blk_lt v3
        have hlb1 := blk_lt v1
        have hlb2 := blk_lt v2
        have hrn5 : ∀ k, Xr5 k → N ≤ k ∧ k ≠ B3 ∧ ¬ (k = B1 ∨ k = B2) := fun k hk => by
          rcases x5 k hk with e | e
          · exact hrn k e
          · omega
        have u3 := f5.blk v3 (fun e => (hrn _ e).2.1 rfl)
        have u1 := f5.blk v1 (fun e => (hrn _ e).2.2 (.inl rfl))
        have u2 := f5.blk v2 (fun e => (hrn _ e).2.2 (.inr rfl))
        have cc5 := blk_cell u1 0
        have HAd := Lib.hid (relAddII h5 (Nat.le_trans hNV f5.size) (Nat.le_trans (List.length_filter_le _ _) (by omega)) hokx (b := 8) (by unfold OkKII; decide))
        have HS5 := Lib.hid (And.intro u3 (And.intro u1 (And.intro u2 (And.intro x5 (And.intro f5 (And.intro h5 (And.intro hrn5 (And.intro hlb3 (And.intro hlb1 hlb2)))))))))
        clear v3 v1 v2 hfb hzb hrb hrn hX1 hNV m7 m8 mm hML hokx hM hx7 hxp hG2 hxl hF hlV hl2 hpl hno u3 u1 u2 x5 f5 h5 hrn5 hlb3 hlb1 hlb2 cc1 cc2 cc3
        gi_wp2_with fail
        refine ⟨trivial, (calls_wide (.inr ⟨l, rfl⟩) HAd.out).mono ?_⟩
        intro e W6 hA6
        obtain ⟨v3, v1, v2, hfb, hzb, hrb, hrn, hX1, hNV, m7, m8, mm, hML, hokx, hM, hx7, hxp, hG2, hxl, hF, hlV, hl2, hpl, hno⟩ := HU.out
        obtain ⟨u3, u1, u2, x5, f5, h5, hrn5, hlb3, hlb1, hlb2⟩ := HS5.out
        obtain ⟨rfl, Xr6, x6, f6, h6⟩ := hA6.ok m8 [] List.Pairwise.nil mm (by decide)
        have hs5 := f5.size
        have hrn6 : ∀ k, Xr6 k → N ≤ k ∧ k ≠ B3 ∧ ¬ (k = B1 ∨ k = B2) := fun k hk => by
          rcases x6 k hk with e | e
          · exact hrn5 k e
          · omega
        have t3 := f6.blk u3 (fun e => (hrn5 _ e).2.1 rfl)
        have cc6 := blk_cell t3 0
        have dd6 := blk_free t3 0
        have HS6 := Lib.hid (And.intro t3 (And.intro x6 (And.intro f6 (And.intro h6 hrn6))))
        clear v3 v1 v2 hfb hzb hrb hrn hX1 hNV m7 m8 mm hML hokx hM hx7 hxp hG2 hxl hF hlV hl2 hpl hno u3 u1 u2 x5 f5 h5 hrn5 hlb3 hlb1 hlb2 t3 x6 f6 h6 hrn6 hA6 hs5 cc5
        gi_wp2_with fail
        obtain ⟨v3, v1, v2, hfb, hzb, hrb, hrn, hX1, hNV, m7, m8, mm, hML, hokx, hM, hx7, hxp, hG2, hxl, hF, hlV, hl2, hpl, hno⟩ := HU.out
        obtain ⟨u3, u1, u2, x5, f5, h5, hrn5, hlb3, hlb1, hlb2⟩ := HS5.out
        obtain ⟨t3, x6, f6, h6, hrn6⟩ := HS6.out
        have hs7 : Fr (fun k => k = B3) W6 (W6.setCell ⟨B3, 0, none⟩ (.int .i64 ((pre.length : Int) + 1))) := Fr.setCell (X := fun k => k = B3) (Fr.refl _ W6) ⟨B3, 0, none⟩ rfl _
        have hf6 : Fr X1 Vb W6 := (f5.mono (Y := X1) fun k _ e => (hX1 k).2 (.inr e)).trans3 f6 fun k hk e => by
          rcases x5 k e with e | e
          · exact (hX1 k).2 (.inr e)
          · omega
        have hf7 : Fr X1 Vb (W6.setCell ⟨B3, 0, none⟩ (.int .i64 ((pre.length : Int) + 1))) := hf6.trans3 hs7 fun k _ e => (hX1 k).2 (.inl e)
        have e5 := f5.size
        have e6 := f6.size
        have e7 := hs7.size
        have eb := hfb.size
        refine ⟨fun k => k = B3 ∨ Xr6 k, fun k hk => ⟨?_, fun hlt => ?_⟩, (hfb.mono (Y := fun k => k = l ∨ X1 k) fun k _ e => .inl e).trans3 hf7 fun k _ e => .inr e, hf7.blk hrb hxl, ?_, Xr6, _, h6.fr hs7 fun j hj => (hrn6 j hj).2.1, rot_next hM hx7 hxp, hrn6, fun k => Iff.rfl⟩
        · rcases hk with rfl | hk
          · omega
          · have := (h6.lt hk).2; omega
        · rcases hk with rfl | hk
          · exact (hX1 _).2 (.inl rfl)
          · rcases x6 k hk with e | e
            · rcases x5 k e with e | e
              · exact (hX1 _).2 (.inr e)
              · omega
            · omega
        · rw [List.length_append]
          exact blk_set t3 0 _
      case done =>
        rintro D X2 V hD hxD hG2 hF ⟨j3, Xr, M, hr, hM, hrn, hX2⟩ hdef
        have q1V := hF.blk H9.box (fun e => by rcases e with e | e; omega; exact hfar.2.2 e)
        have q2V := hF.blk k29 (fun e => by rcases e with e | e; omega; have := hXB2 _ e; omega)
        have q0V := hF.blk H9.res (fun e => by rcases e with e | e; omega; have := H9.low _ e; omega)
        have hbV : Fr (fun _ => False) w V := H9.fr.trans3 hF fun k hk e => by
          rcases e with e | e
          · have := H9.fr.size; omega
          · have := H9.low k e; omega
        have hDw : w.heap.size < D := by have := blk_lt H9.res; omega
        have hMn : M.length = n := by rw [hM.len, hn]
        rw [hxn] at j3
        have HQ := Lib.hid (And.intro hdef (And.intro hbV (And.intro hDw (And.intro q0V (And.intro q1V (And.intro q2V (And.intro j3 (And.intro hr hMn))))))))
        clear hdef hbV hDw q0V q1V q2V j3 hr hM hrn hX2 hMn hD hxD hG2 hF H9 k9 z9 k29 hs8 hYb hseq hYl heg f9 H7 k7 z7 hlt7 hB2 hXB2 y1 y2 hxn hn hB3 hs9 hseq9 hfar
        have HR0 : Hid (∀ W, Calls Tryz.prog 14 #[.pointer none, .int .i64 1, .int .i64 0] W (Told11R [] W)) := fun W => rights11 (fun V _ => relOfNilIS 1 V) (by decide) 0 (by decide) (by decide)
        have HL0 : Hid (∀ W, Calls Tryz.prog 15 #[.pointer none, .string (bs []), .int .i64 0] W (Told11L [] W)) := fun W => lefts11 (fun V _ => relByNilIS [] V) (by decide) 0 (by decide) (by decide)
        gi_wp2_with fail
        refine ⟨trivial, (calls_wide (.inl rfl) (HR0.out _)).mono ?_⟩
        rintro e V3 ⟨⟨v3, rfl, o3⟩, b3⟩
        obtain ⟨A3, c3, rfl⟩ := row_slice o3
        have HV3 := Lib.hid b3
        clear o3 b3
        gi_wp2_with fail
        refine ⟨trivial, (calls_wide (.inl rfl) (HL0.out _)).mono ?_⟩
        rintro e V4 ⟨⟨v4, rfl, o4⟩, b4⟩
        obtain ⟨A4, c4, rfl⟩ := row_slice o4
        have HV4 : Hid (Fr (fun _ => False) V V4) := (Fr.of_below HV3.out).trans (Fr.of_below b4)
        clear o4 b4
        have HSB : Hid (∀ W, Fr (fun _ => False) V4 W → W.heap[B3]? = some (.cells #[.int .i64 (n : Int)] 3 (0, 0)) ∧ W.heap[B2]? = some (.cells #[.int .i64 (n : Int)] 3 (0, 0)) ∧ W.heap[B1]? = some (.cells #[.pointer (some ⟨t, 0, none⟩)] 54 (0, 0)) ∧ RelAtII N W t Xr 50 M) := fun W hW => by
          obtain ⟨hdef, hbV, hDw, q0V, q1V, q2V, j3, hr, hMn⟩ := HQ.out
          have hf := HV4.out.trans hW
          exact ⟨hf.blk j3 fun e => e, hf.blk q2V fun e => e, hf.blk q1V fun e => e, hr.fr hf fun _ _ e => e⟩
        gi_wp2_with fail
        refine wpIn_class_tail (C := fun W => Fr (fun _ => False) V4 W) 53 (by kernel_rfl) (by kernel_rfl) (by kernel_rfl) ((Fr.refl (fun _ => False) V4).drew) ?_
        simp only [List.take_succ_cons, List.take_zero, List.drop_succ_cons, List.drop_zero]
        refine quiet_step_w (fun _ => trivial) (fun K hK => ?_)
        go_simp
        refine ⟨.int .i64 (n : Int), fun W hW => ?_, hK _ ?_⟩
        · obtain ⟨s0, s1, s2, s3⟩ := HSB.out W hW; have d0 := blk_cell s0 0; go_simp
        clear hK K
        refine quiet_step_w (fun _ => trivial) (fun K hK => ?_)
        go_simp
        refine ⟨.int .i64 (n : Int), fun W hW => ?_, hK _ ?_⟩
        · obtain ⟨s0, s1, s2, s3⟩ := HSB.out W hW; have d0 := blk_cell s1 0; go_simp
        clear hK K
        refine quiet_step_w (fun _ => trivial) (fun K hK => ?_)
        go_simp
        first | refine ⟨_, fun _ _ => rfl, hK _ ?_⟩ | refine hK _ ?_
        clear hK K
        refine quiet_step_w (fun _ => trivial) (fun K hK => ?_)
        go_simp
        first | refine ⟨_, fun _ _ => rfl, hK _ ?_⟩ | refine hK _ ?_
        clear hK K
        refine quiet_step_w (fun _ => trivial) (fun K hK => ?_)
        go_simp
        refine ⟨.pointer (some ⟨t, 0, none⟩), fun W hW => ?_, hK _ ?_⟩
        · obtain ⟨s0, s1, s2, s3⟩ := HSB.out W hW; have d0 := blk_cell s2 0; go_simp
        clear hK K
        refine quiet_step_w (fun _ => trivial) (fun K hK => ?_)
        go_simp
        refine ⟨.int .i64 (n : Int), fun W hW => ?_, hK _ ?_⟩
        · refine ((calls_wide (.inl rfl) (lenAtII (HSB.out W hW).2.2.2))).mono ?_
          rintro e W2 ⟨rfl, rfl⟩; exact ⟨by rw [HQ.out.2.2.2.2.2.2.2.2], hW⟩
        clear hK K
        refine quiet_step_w (fun _ => trivial) (fun K hK => ?_)
        go_simp
        refine ⟨.int .i64 (n : Int), fun W hW => ?_, hK _ ?_⟩
        · obtain ⟨s0, s1, s2, s3⟩ := HSB.out W hW; have d0 := blk_cell s1 0; go_simp
        clear hK K
        refine quiet_step_w (fun _ => trivial) (fun K hK => ?_)
        go_simp
        first | refine ⟨_, fun _ _ => rfl, hK _ ?_⟩ | refine hK _ ?_
        clear hK K
        refine quiet_step_w (fun _ => trivial) (fun K hK => ?_)
        go_simp
        first | refine ⟨_, fun _ _ => rfl, hK _ ?_⟩ | refine hK _ ?_
        clear hK K
        refine quiet_step_w (fun _ => trivial) (fun K hK => ?_)
        go_simp
        first | refine ⟨_, fun _ _ => rfl, hK _ ?_⟩ | refine hK _ ?_
        clear hK K
        refine quiet_step_w (fun _ => trivial) (fun K hK => ?_)
        go_simp
        first | refine ⟨_, fun _ _ => rfl, hK _ ?_⟩ | refine hK _ ?_
        clear hK K
        refine quiet_step_w (fun _ => trivial) (fun K hK => ?_)
        go_simp
        first | refine ⟨_, fun _ _ => rfl, hK _ ?_⟩ | refine hK _ ?_
        clear hK K
        refine quiet_step_w (fun _ => trivial) (fun K hK => ?_)
        go_simp
        first | refine ⟨_, fun _ _ => rfl, hK _ ?_⟩ | refine hK _ ?_
        clear hK K
        refine quiet_step_w (fun _ => trivial) (fun K hK => ?_)
        go_simp
        first | refine ⟨_, fun _ _ => rfl, hK _ ?_⟩ | refine hK _ ?_
        clear hK K
        refine quiet_step_w (fun _ => trivial) (fun K hK => ?_)
        go_simp
        first | refine ⟨_, fun _ _ => rfl, hK _ ?_⟩ | refine hK _ ?_
        clear hK K
        refine quiet_step_w (fun _ => trivial) (fun K hK => ?_)
        go_simp
        first | refine ⟨_, fun _ _ => rfl, hK _ ?_⟩ | refine hK _ ?_
        clear hK K
        refine quiet_step_w (fun _ => trivial) (fun K hK => ?_)
        go_simp
        first | refine ⟨_, fun _ _ => rfl, hK _ ?_⟩ | refine hK _ ?_
        clear hK K
        refine quiet_step_w (fun _ => trivial) (fun K hK => ?_)
        go_simp
        first | refine ⟨_, fun _ _ => rfl, hK _ ?_⟩ | refine hK _ ?_
        clear hK K
        refine quiet_step_w (fun _ => trivial) (fun K hK => ?_)
        go_simp
        first | refine ⟨_, fun _ _ => rfl, hK _ ?_⟩ | refine hK _ ?_
        clear hK K
        refine quiet_step_w (fun _ => trivial) (fun K hK => ?_)
        go_simp
        first | refine ⟨_, fun _ _ => rfl, hK _ ?_⟩ | refine hK _ ?_
        clear hK K
        refine quiet_step_w (fun _ => trivial) (fun K hK => ?_)
        go_simp
        first | refine ⟨_, fun _ _ => rfl, hK _ ?_⟩ | refine hK _ ?_
        clear hK K
        refine quiet_step_w (fun _ => trivial) (fun K hK => ?_)
        go_simp
        first | refine ⟨_, fun _ _ => rfl, hK _ ?_⟩ | refine hK _ ?_
        clear hK K
        refine quiet_step_w (fun _ => trivial) (fun K hK => ?_)
        go_simp
        first | refine ⟨_, fun _ _ => rfl, hK _ ?_⟩ | refine hK _ ?_
        clear hK K
        refine quiet_step_w (fun _ => trivial) (fun K hK => ?_)
        go_simp
        first | refine ⟨_, fun _ _ => rfl, hK _ ?_⟩ | refine hK _ ?_
        clear hK K
        refine quiet_step_w (fun _ => trivial) (fun K hK => ?_)
        go_simp
        first | refine ⟨_, fun _ _ => rfl, hK _ ?_⟩ | refine hK _ ?_
        clear hK K
        refine quiet_step_w (fun _ => trivial) (fun K hK => ?_)
        go_simp
        refine ⟨.int .i64 1, fun W hW => ?_, hK _ ?_⟩
        · refine ((calls_wide (.inl rfl) (relAddNilIS 1 [] W))).mono ?_
          rintro e W2 ⟨rfl, rfl⟩; exact ⟨rfl, hW⟩
        clear hK K
        refine quiet_step_w (fun _ => trivial) (fun K hK => ?_)
        go_simp
        first | refine ⟨_, fun _ _ => rfl, hK _ ?_⟩ | refine hK _ ?_
        clear hK K
        refine quiet_step_w (fun _ => trivial) (fun K hK => ?_)
        go_simp
        first | refine ⟨_, fun _ _ => rfl, hK _ ?_⟩ | refine hK _ ?_
        clear hK K
        refine quiet_step_w (fun _ => trivial) (fun K hK => ?_)
        go_simp
        first | refine ⟨_, fun _ _ => rfl, hK _ ?_⟩ | refine hK _ ?_
        clear hK K
        refine quiet_step_w (fun _ => trivial) (fun K hK => ?_)
        go_simp
        first | refine ⟨_, fun _ _ => rfl, hK _ ?_⟩ | refine hK _ ?_
        clear hK K
        refine quiet_step_w (fun _ => trivial) (fun K hK => ?_)
        go_simp
        refine ⟨.bool false, fun W hW => ?_, hK _ ?_⟩
        · refine ((calls_wide (.inl rfl) (relRemNilIS 1 [] W))).mono ?_
          rintro e W2 ⟨rfl, rfl⟩; exact ⟨rfl, hW⟩
        clear hK K
        refine quiet_step_w (fun _ => trivial) (fun K hK => ?_)
        go_simp
        first | refine ⟨_, fun _ _ => rfl, hK _ ?_⟩ | refine hK _ ?_
        clear hK K
        refine quiet_step_w (fun _ => trivial) (fun K hK => ?_)
        go_simp
        first | refine ⟨_, fun _ _ => rfl, hK _ ?_⟩ | refine hK _ ?_
        clear hK K
        refine quiet_step_w (fun _ => trivial) (fun K hK => ?_)
        go_simp
        first | refine ⟨_, fun _ _ => rfl, hK _ ?_⟩ | refine hK _ ?_
        clear hK K
        refine quiet_step_w (fun _ => trivial) (fun K hK => ?_)
        go_simp
        first | refine ⟨_, fun _ _ => rfl, hK _ ?_⟩ | refine hK _ ?_
        clear hK K
        refine quiet_step_w (fun _ => trivial) (fun K hK => ?_)
        go_simp
        refine ⟨.int .i64 0, fun W hW => ?_, hK _ ?_⟩
        · refine ((calls_wide (.inl rfl) (relDropNil 1 W))).mono ?_
          rintro e W2 ⟨rfl, b⟩; exact ⟨rfl, hW.trans (Fr.of_below b)⟩
        clear hK K
        refine quiet_step_w (fun _ => trivial) (fun K hK => ?_)
        go_simp
        first | refine ⟨_, fun _ _ => rfl, hK _ ?_⟩ | refine hK _ ?_
        clear hK K
        refine quiet_step_w (fun _ => trivial) (fun K hK => ?_)
        go_simp
        first | refine ⟨_, fun _ _ => rfl, hK _ ?_⟩ | refine hK _ ?_
        clear hK K
        refine quiet_step_w (fun _ => trivial) (fun K hK => ?_)
        go_simp
        first | refine ⟨_, fun _ _ => rfl, hK _ ?_⟩ | refine hK _ ?_
        clear hK K
        refine quiet_step_w (fun _ => trivial) (fun K hK => ?_)
        go_simp
        first | refine ⟨_, fun _ _ => rfl, hK _ ?_⟩ | refine hK _ ?_
        clear hK K
        refine quiet_step_w (fun _ => trivial) (fun K hK => ?_)
        go_simp
        refine ⟨.bool false, fun W hW => ?_, hK _ ?_⟩
        · refine ((calls_wide (.inl rfl) (relHasNilIS 1 [] W))).mono ?_
          rintro e W2 ⟨rfl, rfl⟩; exact ⟨rfl, hW⟩
        clear hK K
        refine quiet_step_w (fun _ => trivial) (fun K hK => ?_)
        go_simp
        first | refine ⟨_, fun _ _ => rfl, hK _ ?_⟩ | refine hK _ ?_
        clear hK K
        refine quiet_step_w (fun _ => trivial) (fun K hK => ?_)
        go_simp
        first | refine ⟨_, fun _ _ => rfl, hK _ ?_⟩ | refine hK _ ?_
        clear hK K
        refine quiet_step_w (fun _ => trivial) (fun K hK => ?_)
        go_simp
        first | refine ⟨_, fun _ _ => rfl, hK _ ?_⟩ | refine hK _ ?_
        clear hK K
        refine quiet_step_w (fun _ => trivial) (fun K hK => ?_)
        go_simp
        first | refine ⟨_, fun _ _ => rfl, hK _ ?_⟩ | refine hK _ ?_
        clear hK K
        refine quiet_step_w (fun _ => trivial) (fun K hK => ?_)
        go_simp
        refine ⟨.int .i64 0, fun W hW => ?_, hK _ ?_⟩
        · refine ((calls_wide (.inl rfl) (relCountNilIS 1 W))).mono ?_
          rintro e W2 ⟨rfl, rfl⟩; exact ⟨rfl, hW⟩
        clear hK K
        refine quiet_step_w (fun _ => trivial) (fun K hK => ?_)
        go_simp
        first | refine ⟨_, fun _ _ => rfl, hK _ ?_⟩ | refine hK _ ?_
        clear hK K
        refine quiet_step_w (fun _ => trivial) (fun K hK => ?_)
        go_simp
        first | refine ⟨_, fun _ _ => rfl, hK _ ?_⟩ | refine hK _ ?_
        clear hK K
        refine quiet_step_w (fun _ => trivial) (fun K hK => ?_)
        go_simp
        first | refine ⟨_, fun _ _ => rfl, hK _ ?_⟩ | refine hK _ ?_
        clear hK K
        refine quiet_step_w (fun _ => trivial) (fun K hK => ?_)
        go_simp
        first | refine ⟨_, fun _ _ => rfl, hK _ ?_⟩ | refine hK _ ?_
        clear hK K
        refine quiet_step_w (fun _ => trivial) (fun K hK => ?_)
        go_simp
        refine ⟨.int .i64 0, fun W hW => ?_, hK _ ?_⟩
        · refine ((calls_wide (.inl rfl) (relLenNilIS W))).mono ?_
          rintro e W2 ⟨rfl, rfl⟩; exact ⟨rfl, hW⟩
        clear hK K
        refine quiet_step_w (fun _ => trivial) (fun K hK => ?_)
        go_simp
        first | refine ⟨_, fun _ _ => rfl, hK _ ?_⟩ | refine hK _ ?_
        clear hK K
        refine quiet_step_w (fun _ => trivial) (fun K hK => ?_)
        go_simp
        first | refine ⟨_, fun _ _ => rfl, hK _ ?_⟩ | refine hK _ ?_
        clear hK K
        refine wpQuietIn_nil ?_
        intro W hW
        obtain ⟨hdef, hbV, hDw, q0V, q1V, q2V, j3, hr, hMn⟩ := HQ.out
        have hf := HV4.out.trans hW
        have q0W := hf.blk q0V fun e => e
        have c0 := blk_cell q0W 0
        have d0 := blk_free q0W 0
        have HZ := Lib.hid (And.intro (hf.blk hdef fun e => e) (And.intro (hbV.trans hf) (And.intro q0W hDw)))
        clear hdef hbV hDw q0V q1V q2V j3 hr hMn hf q0W
        gi_wp2_with fail
        obtain ⟨hdef, hbW, q0W, hDw⟩ := HZ.out
        have d5 := blk_other hdef ⟨w.heap.size, 0, none⟩ (by show D ≠ w.heap.size; omega) (Value.bool true)
        have kr5 := blk_set q0W 0 (Value.bool true)
        refine leaves_one D _ d5 fun w' hf => ⟨_, results_box rfl _ _ w.heap.size (.bool true) _ rfl (blk_cell (hf.blk kr5 (by omega)) 0) Tryz.underlying4 rfl, rfl, ?_⟩
        have b5 := (hbW.below (Nat.le_refl _) (fun _ _ e => e.elim)).setCell (p := ⟨w.heap.size, 0, none⟩) (Nat.le_refl _) (Value.bool true)
        exact b5.trans (hf.below b5.size fun k _ e => by omega)
end Go.Proofs.YteiiaocohpbanaaGreat
end
section
/- A law's last step where the call has made memory of its own, of whatever sort: what lay before lies as it lay, so each argument reads as it read. -/
namespace Go.Proofs.YteiiaocohpbanaaGreat
open Go Go.RowKit Go.WideShapes Go.ChangeShapes

theorem post_below {H : Type} {enc : TypeId × Value → H} {P : Program} {f : Func} {s : ChangeSpec} {apart fresh handsOn again : Bool} {W W' : World} {args : Array Value} {v : Value} {ds gs : List (DataW H)} {all pa pv : List MemPlace}
    (hW : DataW.Whole enc P f.params.toList s.vars apart W args.toList ds gs all)
    (hr : ∀ (b : Nat) (sp : Nat → Bool) (hd : Bool), DataW.TrodAll enc P W' b sp hd f.resultTypes.toList (v.resultList f.resultTypes.size) (s.fn H (ds ++ gs)).results [])
    (ha : ∀ sp : Nat → Bool, (∀ p ∈ all, sp p.block = true) → DataW.TrodAll enc P W' 0 sp true f.params.toList args.toList (s.fn H (ds ++ gs)).args pa)
    (hv : ∀ sp : Nat → Bool, (∀ p ∈ all, sp p.block = true) → DataW.TrodVars enc P W' sp s.vars (s.fn H (ds ++ gs)).vars pv)
    (hpl : all = pa ++ pv) (hB : Below W.heap.size W W')
    (hok : ∀ (j : Nat) (t : TypeId) (r : Value), f.resultTypes[j]? = some t → (v.resultList f.resultTypes.size)[j]? = some r → Value.okWide P W' .any 0 t r) :
    s.post enc P f apart fresh handsOn again W args v W' := by
  have low : ∀ p ∈ all, p.block < W.heap.size := fun p hp => hW.lt p hp
  refine ⟨ds, gs, all, [], pa, pv, hW, hr _ _ _, ha (fun b => decide (b < W.heap.size)) fun p hp => by simpa using low p hp, hv (fun b => decide (b < W.heap.size)) fun p hp => by simpa using low p hp,
    World.keptBut_mono (fun p hp => ⟨hp, .inr (by rw [hpl, List.mem_append] at hp; exact hp)⟩) (hB.frame (· ∈ all)), fun _ => ?_⟩
  obtain ⟨_, _, _, _, _, hfrozen, hapart⟩ := hW
  have same : ∀ p : MemPlace, p ∈ ([] ++ pa) ++ pv → p ∈ all := fun p hp => by rw [hpl]; simpa using hp
  refine ⟨hok, _, _, ([] ++ pa) ++ pv, ⟨[] ++ pa, pv, trodAll_append (ha _ fun _ _ => rfl) (hr _ _ _), hv _ fun _ _ => rfl, rfl, fun b off hp => ?_, fun h => ?_⟩, fun p hp _ => ?_⟩
  · rw [hB.frozen (low _ (same _ hp))]
    exact hfrozen b off (same _ hp)
  · have := hapart h
    rw [hpl] at this
    simpa using this
  · rw [hpl]
    simpa using hp
end Go.Proofs.YteiiaocohpbanaaGreat
end
