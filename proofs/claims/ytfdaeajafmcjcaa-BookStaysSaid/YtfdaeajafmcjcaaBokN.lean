/- Layer 2: BookStays. -/
import Derived.Test.YtfdaeajafmcjcaaBokM
import Derived.Test.YtfdaeajafmcjcaaRangeT
namespace Go.Proofs.Ytfdaeajafmcjcaa
set_option linter.unusedVariables false
set_option linter.unusedSimpArgs false
open Go Go.RowKit Go.Maps Go.Sort Go.Shelf Go.Lib
attribute [local go_sem] Oper.semAt_some

theorem lt_of_cellN {W : World} {g o : Nat} {v : Value} (h : W.cell? ⟨g, o, none⟩ = some v) : g < W.heap.size := World.block_lt_of_cell? _ _ h
/-- a book of short names, each its own thing, in a box -/
structure FillS (w : World) (N t b B1 : Nat) (T : List (KeyB × Ent VS)) (W : World) : Prop where
  bok : BokS N W t b 100 T
  stay : Stay T
  box : W.heap[B1]? = some (.cells #[.pointer (some ⟨t, 0, none⟩)] 50 (0, 0))
  res : W.heap[w.heap.size]? = some (.cells #[.bool false] 4 (0, 0))
  fr : Fr (fun _ => False) w W
  far : w.heap.size < N ∧ B1 ≠ b ∧ w.heap.size < B1 ∧ t < B1
theorem FillS.fr2 {w : World} {N t b B1 : Nat} {T : List (KeyB × Ent VS)} {W W' : World} (h : FillS w N t b B1 T W) (hf : Fr (fun _ => False) W W') : FillS w N t b B1 T W' :=
  ⟨bokS_fr h.bok hf (fun e => e) fun e => e, h.stay, hf.blk h.box fun e => e, hf.blk h.res fun e => e, h.fr.trans hf, h.far⟩
theorem FillS.put {w : World} {N t b B1 : Nat} {T T' : List (KeyB × Ent VS)} {W W' : World} (h : FillS w N t b B1 T W) (hk : BokS N W' t b 100 T') (hs : Stay T') (hf : Fr (fun j => j = b) W W') : FillS w N t b B1 T' W' :=
  ⟨hk, hs, hf.blk h.box h.far.2.1, hf.blk h.res (by have := h.bok.2.1; have := h.far.1; omega), h.fr.trans3 hf fun k hk2 e => by have := h.bok.2.1; have := h.far.1; omega, h.far⟩
/-- the name that was told last -/
def lastN (pre : List (Ent VS)) : ByteArray := match pre.getLast? with | some e => e.name | none => ⟨#[]⟩
theorem lastN_snoc (pre : List (Ent VS)) (e : Ent VS) : lastN (pre ++ [e]) = e.name := by simp [lastN]
def blkN (B3 t b : Nat) : Nat → Prop := fun k => k = B3 ∨ k = B3 + 1 ∨ k = B3 + 2 ∨ k = b ∨ k = t
/-- how far the range has come: how many, the last, all well; the book without those -/
def StayJ (B3 N t b : Nat) (T2 : List (KeyB × Ent VS)) (pre : List (Ent VS)) (X : Nat → Prop) (W : World) : Prop :=
  W.heap[B3]? = some (.cells #[.int .i64 (pre.length : Int)] 3 (0, 0)) ∧ W.heap[B3 + 1]? = some (.cells #[.string (lastN pre)] 9 (0, 0)) ∧ W.heap[B3 + 2]? = some (.cells #[.bool true] 4 (0, 0)) ∧ BokS N W t b 100 (leftS T2 pre) ∧ ∀ k, X k ↔ blkN B3 t b k
theorem stayJ_stays (B3 N t b : Nat) (T2 : List (KeyB × Ent VS)) : Stays (StayJ B3 N t b T2) := fun pre X V V' ⟨h1, h2, h3, h4, h5⟩ hl hf =>
  ⟨hf.blk h1 (fun e => e ((h5 _).2 (.inl rfl))), hf.blk h2 (fun e => e ((h5 _).2 (.inr (.inl rfl)))), hf.blk h3 (fun e => e ((h5 _).2 (.inr (.inr (.inl rfl))))), bokS_fr h4 hf (fun e => e ((h5 _).2 (.inr (.inr (.inr (.inr rfl)))))) (fun e => e ((h5 _).2 (.inr (.inr (.inr (.inl rfl)))))), h5⟩
/-- what each told entry is -/
theorem told_is {T : List (KeyB × Ent VS)} {R : List (Ent VS)} (hR : R.Perm (wantES [] T)) (hs : Stay T) (hk : ∀ p ∈ T, p.2.fold = foldL p.2.name.data.toList) {e : Ent VS} (he : e ∈ R) : e.name = e.thing ∧ e.name.size ≤ 30 ∧ e.fold = foldL e.name.data.toList := by
  have h1 := hR.mem_iff.1 he
  unfold wantES at h1
  obtain ⟨p, hp, rfl⟩ := List.mem_map.1 h1
  have h2 := (List.mem_filter.1 hp).1
  exact ⟨(hs p h2).1, (hs p h2).2, hk p h2⟩
theorem want_all (T : List (KeyB × Ent VS)) : wantES [] T = T.map (·.2) := by
  unfold wantES
  rw [List.filter_eq_self.2]
  intro p hp
  simp
theorem stay_end {T T2 : List (KeyB × Ent VS)} {R : List (Ent VS)} {k : KeyB} {v : Ent VS} (hR : R.Perm (wantES [] T)) (hk : ∀ p ∈ T, p.1 = foldL p.2.name.data.toList) (h2 : setM T k v = T2) (hn : (T2.map (·.1)).Nodup) : (leftS T2 R).length ≤ 1 := by
  refine left_one (leftS_nodup hn R) k fun p hp => ?_
  obtain ⟨h3, h4⟩ := leftS_mem.1 hp
  rw [← h2] at h3
  unfold setM at h3
  rcases List.mem_append.1 h3 with h3 | h3
  · have h5 := (List.mem_filter.1 h3).1
    refine absurd (hk p h5) (h4 p.2 ?_)
    rw [hR.mem_iff, want_all]
    exact List.mem_map_of_mem h5
  · simp at h3; rw [h3]
set_option maxRecDepth 100000 in
set_option maxHeartbeats 16000000 in
theorem bookStays_walk (A : Option Addr) (ss : List ByteArray) (c : Nat) (more : ByteArray) (w : World) (hcell : 0 < ss.length → ∃ g o, A = some ⟨g, o, none⟩ ∧ ∀ i (h : i < ss.length), w.cell? ⟨g, o + i, none⟩ = some (.string ss[i])) :
    Calls Try.prog 4 #[.slice A ss.length c, .string more] w fun e w' => e = .returned (.bool true) ∧ RowKit.Below w.heap.size w w' := by
  obtain ⟨w1, hw1⟩ : ∃ w1, w.alloc (Obj.cells #[Value.bool false] 4) = w1 := ⟨_, rfl⟩
  have z1 : w1.heap.size = w.heap.size + 1 := by rw [← hw1]; simp
  have f1 : Fr (fun _ => False) w w1 := by rw [← hw1]; exact (Fr.refl _ w).alloc _
  have k1 : w1.heap[w.heap.size]? = some (.cells #[.bool false] 4 (0, 0)) := by rw [← hw1]; exact heap_alloc_new w _
  have HA := Lib.hid (awake02 w1)
  have HW := Lib.hid hw1
  have H1 := Lib.hid (And.intro z1 (And.intro f1 k1))
  have HC := Lib.hid hcell
  have HNew : Hid (∀ V, Calls Try.prog 20 #[.int .i64 100] V _) := fun V => bok_newS (most := 100) (by decide) V
  clear hw1 z1 f1 k1 hcell
  refine (callsIn_wide (n := 30)).1 ?_
  refine callsIn_of_wp_marks Try.func4 rfl trivial ?_ rfl
  simp only [Try.ntmps4, List.size_toArray, List.length_cons, List.length_nil, Nat.reduceAdd, Nat.reduceSub, Array.replicate_succ, Array.replicate_zero, List.push_toArray, List.append_toArray, List.nil_append, List.cons_append]
  gi_wp2_with fail
  rw [HW.out]
  refine ⟨trivial, (calls_wide (.inl rfl) HA.out).mono ?_⟩
  rintro e w2 ⟨rfl, b2⟩
  have f2 : Fr (fun _ => False) w w2 := H1.out.2.1.trans (Fr.of_below b2)
  have k2 := (Fr.of_below (X := fun _ => False) b2).blk H1.out.2.2 fun e => e
  have c2 := blk_cell k2 0
  have d2 := blk_free k2 0
  have z2 : w.heap.size < w2.heap.size := blk_lt k2
  have H2 := Lib.hid (And.intro f2 k2)
  clear f2 k2 b2 HA HW H1
  have ends : ∀ W, (Fr (fun _ => False) w W ∧ W.heap[w.heap.size]? = some (.cells #[.bool false] 4 (0, 0))) → RowKit.Below w.heap.size w (W.setCell ⟨w.heap.size, 0, none⟩ (.bool true)) ∧ (W.setCell ⟨w.heap.size, 0, none⟩ (.bool true)).heap[w.heap.size]? = some (.cells #[.bool true] 4 (0, 0)) := fun W ⟨hf, hk⟩ =>
    ⟨(hf.below (Nat.le_refl _) fun _ _ e => e.elim).setCell (Nat.le_refl _) _, blk_set hk 0 _⟩
  have HE := Lib.hid ends
  clear ends
  by_cases h40 : (40 : Int) < (ss.length : Int)
  · have q1 : decide ((40 : Int) < (ss.length : Int)) = true := by simp; omega
    gi_wp2_with fail
    obtain ⟨p1, p2⟩ := HE.out _ H2.out
    refine leavesF [] _ List.nodup_nil (by simp) fun w' hf => ⟨_, results_box rfl _ _ w.heap.size (.bool true) _ rfl (blk_cell (hf.blk p2 (by simp)) 0) Try.underlying4 rfl, rfl, p1.trans (hf.below p1.size fun k _ e => by simp at e)⟩
  have q1 : decide ((40 : Int) < (ss.length : Int)) = false := by simp; omega
  by_cases h30 : (30 : Int) < (more.size : Int)
  · have q2 : decide ((30 : Int) < (more.size : Int)) = true := by simp; omega
    gi_wp2_with fail
    obtain ⟨p1, p2⟩ := HE.out _ H2.out
    refine leavesF [] _ List.nodup_nil (by simp) fun w' hf => ⟨_, results_box rfl _ _ w.heap.size (.bool true) _ rfl (blk_cell (hf.blk p2 (by simp)) 0) Try.underlying4 rfl, rfl, p1.trans (hf.below p1.size fun k _ e => by simp at e)⟩
  have q2 : decide ((30 : Int) < (more.size : Int)) = false := by simp; omega
  gi_wp2_with fail
  refine ⟨trivial, (calls_wide (.inl rfl) (HNew.out _)).mono ?_⟩
  rintro e w3 ⟨t, b, rfl, h3, b3⟩
  obtain ⟨w4, hw4⟩ : ∃ w4, w3.alloc (Obj.cells #[Value.pointer (some ⟨t, 0, none⟩)] 50) = w4 := ⟨_, rfl⟩
  have f4 : Fr (fun _ => False) w3 w4 := by rw [← hw4]; exact (Fr.refl _ w3).alloc _
  have k4 : w4.heap[w3.heap.size]? = some (.cells #[.pointer (some ⟨t, 0, none⟩)] 50 (0, 0)) := by rw [← hw4]; exact heap_alloc_new w3 _
  have hb := (bokS_lt h3).2
  have G0 : Hid (FillS w w2.heap.size t b w3.heap.size [] w4) := ⟨bokS_fr h3 f4 (fun e => e) fun e => e, (fun p hp => by cases hp), k4, f4.blk ((Fr.of_below (X := fun _ => False) b3).blk H2.out.2 fun e => e) fun e => e, (H2.out.1.trans (Fr.of_below b3)).trans f4, ⟨z2, by omega, by have := b3.size; omega, (bokS_lt h3).1⟩⟩
  obtain ⟨N, hN⟩ : ∃ N, w2.heap.size = N := ⟨_, rfl⟩
  obtain ⟨B1, hB1⟩ : ∃ B1, w3.heap.size = B1 := ⟨_, rfl⟩
  rw [hN, hB1] at G0
  have HW := Lib.hid (And.intro hw4 hB1)
  clear f4 k4 h3 b3 HNew H2 hw4 c2 d2 z2 hN hb
  gi_wp2_with fail
  rw [HW.out.1]
  clear HW
  gi_loopw [7] (fun c7 wr => ∃ i : Nat, c7 = .int .i64 i ∧ i ≤ ss.length ∧ Hid (∃ T, T.length ≤ i ∧ FillS w N t b B1 T wr)) (fun c7 _ => ss.length - (RowKit.intOf c7).toNat)
  case atStart => exact ⟨0, rfl, Nat.zero_le _, [], by simp, G0.out⟩
  case round =>
    obtain ⟨i, rfl, hi, HB⟩ := hrel
    clear G0
    obtain ⟨T, hTl, hG⟩ := HB.out
    have cb := blk_cell hG.box 0
    have cr := blk_cell hG.res 0
    have dr := blk_free hG.res 0
    have HG := Lib.hid hG
    clear HB hG
    by_cases hlt : i < ss.length
    · obtain ⟨g, o, rfl, hcell⟩ := HC.out (by omega)
      have hc := hcell i hlt
      have hg := lt_of_cellN hc
      obtain ⟨s, hs⟩ : ∃ s, ss[i] = s := ⟨_, rfl⟩
      rw [hs] at hc
      have e0 : wr.cell? ⟨g, o + i, none⟩ = some (.string s) := (HG.out.fr.cell (p := ⟨g, o + i, none⟩) hg fun e => e).trans hc
      have n1 : (i : Int) < (ss.length : Int) := by omega
      have n2 : decide ((i : Int) < (ss.length : Int)) = true := by simp; omega
      have n3 : ¬ (ss.length : Int) ≤ (i : Int) := by omega
      clear hcell hc hg hs
      by_cases hs30 : (30 : Int) < (s.size : Int)
      · have q3 : decide ((30 : Int) < (s.size : Int)) = true := by simp; omega
        gi_wp2_with fail
        obtain ⟨p1, p2⟩ := HE.out _ ⟨HG.out.fr, HG.out.res⟩
        refine leavesF [] _ List.nodup_nil (by simp) fun w' hf => ⟨_, results_box rfl _ _ w.heap.size (.bool true) _ rfl (blk_cell (hf.blk p2 (by simp)) 0) Try.underlying4 rfl, rfl, p1.trans (hf.below p1.size fun k _ e => by simp at e)⟩
      · have q3 : decide ((30 : Int) < (s.size : Int)) = false := by simp; omega
        have HGd := Lib.hid (HG.out.fr2 ((Fr.refl (fun _ => False) wr).drew))
        have HP := Lib.hid (bok_putS HGd.out.bok (name := s) (v := s) (by omega) (by unfold OkVS; omega) (by omega))
        unfold thVS at HP
        gi_wp2_with fail
        refine wpIn_noPanic ?_
        gi_region_with (first | (refine ⟨trivial, ?_⟩; gi_at_call 21; refine (calls_wide (.inl rfl) HP.out).mono ?_; rintro e w5 hP; obtain ⟨rfl, h5, f5⟩ := putS_room hP (by omega); have G5 : Hid (∃ T, T.length ≤ i + 1 ∧ FillS w N t b B1 T w5) := ⟨_, Nat.le_trans (setS_len _ _ _) (by omega), HGd.out.put h5 (stay_set HGd.out.stay (by omega) _) f5⟩; clear hP h5 f5) | fail)
        all_goals
          dsimp only [NoPanic]
          gi_wp2_with fail
          go_roundw
          case rel => exact ⟨i + 1, by go_num, by omega, G5⟩
          case measure => simp [RowKit.intOf]; omega
    · have hiS : i = ss.length := by omega
      have n1 : ¬ (i : Int) < (ss.length : Int) := by omega
      have n2 : decide ((i : Int) < (ss.length : Int)) = false := by simp; omega
      have hTl : T.length ≤ 40 := by omega
      have HL := Lib.hid (bok_lenS HG.out.bok)
      obtain ⟨w7, hw7⟩ : ∃ w7, wr.alloc (Obj.cells #[Value.int .i64 (T.length : Int)] 3) = w7 := ⟨_, rfl⟩
      have f7 : Fr (fun _ => False) wr w7 := by rw [← hw7]; exact (Fr.refl _ wr).alloc _
      have k7 : w7.heap[wr.heap.size]? = some (.cells #[.int .i64 (T.length : Int)] 3 (0, 0)) := by rw [← hw7]; exact heap_alloc_new wr _
      have H7 := HG.out.fr2 f7
      have cb7 := blk_cell H7.box 0
      rw [← hw7] at cb7
      have HAll := Lib.hid (all_bookS H7.bok (by omega))
      obtain ⟨B2, hB2⟩ : ∃ B2, wr.heap.size = B2 := ⟨_, rfl⟩
      have z7 : w7.heap.size = B2 + 1 := by rw [← hw7, ← hB2]; simp
      rw [hB2] at k7
      have hlt7 : B1 < B2 := by rw [← hB2]; exact blk_lt HG.out.box
      have HW7 := Lib.hid hw7
      have K7 := Lib.hid (And.intro H7 (And.intro k7 (And.intro z7 (And.intro hlt7 hB2))))
      clear hw7 f7 k7 H7 hlt7 z7 hB2
      gi_wp2_with fail
      refine ⟨trivial, (calls_wide (.inl rfl) HL.out).mono ?_⟩
      rintro e w6 ⟨rfl, rfl⟩
      gi_wp2_with fail
      rw [HW7.out]
      refine ⟨trivial, (calls_wide (.inl rfl) HAll.out).mono ?_⟩
      rintro e w8 ⟨⟨F, R, rfl, hT, hR1, hR2⟩, f8⟩
      have hRl : R.length ≤ 40 := by
        have h1 := hR2.length_eq
        have h2 := wantES_len [] T
        omega
      obtain ⟨Y, hYb, gf, lb, rfl, hseq, hYl, heg⟩ := taleES_tells hT (by omega)
      have hnil : ∀ W, (binOp BinOp.eql 55 (.func (.func gf) #[] lb) Value.nilFunc).run Try.prog W = .ok (.bool false) W := fun W => by rfl
      have H8 := K7.out.1.fr2 f8
      have cb8 := blk_cell H8.box 0
      have HPut := Lib.hid (bok_putS H8.bok (name := more) (v := ⟨#[]⟩) (by omega) (by unfold OkVS; decide) (by omega))
      unfold thVS at HPut
      have K8 := Lib.hid (And.intro H8 (And.intro hT (And.intro hR1 (And.intro hR2 (f8.blk K7.out.2.1 fun e => e)))))
      have HS8 := Lib.hid (And.intro hYb (And.intro hseq (And.intro hYl heg)))
      clear H8 hT hR1 hR2 f8 HW7 HAll HL cb7 cb cr dr hseq hYb hYl heg
      gi_wp2_with (simp only [hnil])
      refine ⟨trivial, (calls_wide (.inl rfl) HPut.out).mono ?_⟩
      rintro e w9 hP
      obtain ⟨rfl, h9, f9⟩ := putS_room hP (by omega)
      obtain ⟨H8, hT, hR1, hR2, k8⟩ := K8.out
      obtain ⟨H7, k7, z7, hlt7, hB2⟩ := K7.out
      have hbl := bokS_lt H7.bok
      have hbB : b < B2 := by have := (bokS_lt HG.out.bok).2; omega
      have htB : t < B2 := by have := (bokS_lt HG.out.bok).1; omega
      have hk8 := H8.bok.2.1
      obtain ⟨T2, hT2⟩ : ∃ T2, setM T (foldL more.data.toList) ⟨more, foldL more.data.toList, ⟨#[]⟩⟩ = T2 := ⟨_, rfl⟩
      rw [hT2] at h9
      obtain ⟨w10, hw10⟩ : ∃ w10, ((w9.alloc (Obj.cells #[Value.int IntKind.i64 0] 3)).alloc (Obj.cells #[Value.string ⟨#[]⟩] 9)).alloc (Obj.cells #[Value.bool true] 4) = w10 := ⟨_, rfl⟩
      have f10 : Fr (fun _ => False) w9 w10 := by rw [← hw10]; exact (((Fr.refl _ w9).alloc _).alloc _).alloc _
      have z10 : w10.heap.size = w9.heap.size + 3 := by rw [← hw10]; simp
      obtain ⟨B3, hB3⟩ : ∃ B3, w9.heap.size = B3 := ⟨_, rfl⟩
      have k3 : w10.heap[B3]? = some (.cells #[.int .i64 0] 3 (0, 0)) := by rw [← hw10, ← hB3]; exact blk_alloc (blk_alloc (heap_alloc_new w9 _) _) _
      have k4 : w10.heap[B3 + 1]? = some (.cells #[.string ⟨#[]⟩] 9 (0, 0)) := by rw [← hw10, ← hB3]; exact blk_alloc (heap_alloc2_new w9 _ _) _
      have k5 : w10.heap[B3 + 2]? = some (.cells #[.bool true] 4 (0, 0)) := by
        rw [← hw10, ← hB3]
        have := heap_alloc2_new (w9.alloc (Obj.cells #[Value.int IntKind.i64 0] 3)) (Obj.cells #[Value.string ⟨#[]⟩] 9) (Obj.cells #[Value.bool true] 4)
        rwa [World.size_alloc] at this
      have hz89 := f9.size
      have f910 : Fr (fun j => j = b) w8 w10 := f9.trans3 f10 fun _ _ e => e.elim
      have hT10 := taleES_fr hT f910 fun k hk _ e => by omega
      have q1 := f910.blk H8.box H8.far.2.1
      have q2 := f910.blk H8.res (by have := H8.far.1; omega)
      have q3 := f910.blk k8 (by omega)
      have hfw : Fr (fun _ => False) w w10 := H8.fr.trans3 f910 fun k hk e => by have := H8.far.1; omega
      have hb10 := bokS_fr h9 f10 (fun e => e) fun e => e
      have HW := Lib.hid (And.intro hw10 (And.intro hB3 hB2))
      have KK := Lib.hid (And.intro hT10 (And.intro q1 (And.intro q2 (And.intro q3 (And.intro hfw (And.intro hb10 (And.intro k3 (And.intro k4 (And.intro k5 (And.intro z10 (And.intro hR1 (And.intro hR2 (And.intro H8.stay (And.intro hT2 h9))))))))))))))
      have hfT : ∀ p ∈ T, p.2.fold = foldL p.2.name.data.toList := by
        obtain ⟨D, _, _, a7⟩ := H8.bok.2.2.2.2
        exact fun p hp => (a7 p hp).2.1.trans (a7 p hp).2.2.1.symm
      have HI := Lib.hid (fun e (he : e ∈ R) => told_is hR2 H8.stay hfT he)
      have hz78 : w7.heap.size ≤ w8.heap.size := by have := blk_lt k8; omega
      have hno : b < w8.heap.size ∧ t < w8.heap.size := by have := bokS_lt H8.bok; omega
      have hBN : B1 < w8.heap.size := blk_lt H8.box
      have hfar := H8.far
      have hNb := H8.bok.1
      have hNt := H8.bok.2.1
      have hNN : t ≠ b := H8.bok.2.2.1
      have HF := Lib.hid (And.intro hz78 (And.intro hno (And.intro hBN (And.intro hfar (And.intro hNb (And.intro hNt (And.intro hNN (And.intro hz89 (And.intro z7 (And.intro hbB (And.intro htB (And.intro hlt7 (And.intro hTl f910)))))))))))))
      clear H7 H8 hT hR1 hR2 k8 k7 z7 hlt7 hB2 hbl hbB htB hk8 hT2 hw10 f10 z10 hB3 k3 k4 k5 hz89 f910 hT10 q1 q2 q3 hfw hb10 h9 f9 hfT hz78 hno hBN hfar hNb hNt hNN HPut K8 hP hi hiS
      gi_wp2_with (simp only [hnil])
      rw [HW.out.1, HW.out.2.1, HW.out.2.2]
      obtain ⟨hT10, q1, q2, q3, hfw, hb10, k3, k4, k5, z10, hR1, hR2, hst, hT2, h9⟩ := KK.out
      obtain ⟨hz78, hno, hBN, hfar, hNb, hNt, hNN, hz89, z7, hbB, htB, hlt7, hTl, f910⟩ := HF.out
      have hB3 := HW.out.2.1
      obtain ⟨hYb, hseq, hYl, heg⟩ := HS8.out
      have hs8 : ∀ b2, Y b2 → w10.heap[b2]? = w8.heap[b2]? := fun b2 hb2 => f910.block b2 (hYl b2 hb2) (by have := hYb b2 hb2; omega)
      have hseq10 : SeqF Try.prog gf lb encPS Y R w10 := fun l J Jx X V hs => hseq l J Jx X V fun b2 hb2 => (hs b2 hb2).trans (hs8 b2 hb2)
      refine wpIn_rangeF (X := blkN B3 t b) (Y := Y) (xs := R) (encs := encPS) (gf := gf) (lb := lb) (StayJ B3 N t b T2) (fun _ _ _ _ => False)
        rfl hseq10 (fun k hk => ⟨by rcases hk with e | e | e | e | e <;> omega, fun e => by have := hYb k e; have := hYl k e; rcases hk with e | e | e | e | e <;> omega⟩) (fun b2 hb2 => by have := hYl b2 hb2; omega) (by omega) heg (fun _ => rfl)
        (stayJ_stays _ _ _ _ _) (fun c s X1 V1 V2 h => h.elim) ⟨k3, k4, k5, hb10, fun k => Iff.rfl⟩ ?round ?done (fun _ _ _ _ _ _ _ _ _ _ _ h => h.elim)
      case round =>
        rintro l pre ⟨nm, fd, th⟩ r X1 V K rb hl2 hpx hI hG2 hxl hF hlV hK
        dsimp only [encPS, thVS]
        obtain ⟨e1, e2, e3⟩ := HI.out ⟨nm, fd, th⟩ (by rw [← hpx]; simp)
        obtain rfl : nm = th := e1
        have HK := Lib.hid hK
        have HV := Lib.hid (And.intro hpx (And.intro hI (And.intro hG2 (And.intro hxl (And.intro hF (And.intro hlV (And.intro hl2 (And.intro e2 e3))))))))
        clear e2 e3 hK hpx hI hG2 hxl hF hlV hl2 hseq hseq10 hs8 hYb hYl heg hT10 q1 q2 q3 hfw hb10 k3 k4 k5 z10 hR1 hR2 hst hT2 h9 hz78 hno hBN hfar hNb hNt hNN hz89 z7 hbB htB hlt7 hTl f910 hB3
        gi_wp2_with fail
        refine HK.out _ _ (Fr.refl _ _) fun Vb hfb hzb hsb hrb => ?_
        clear HK K
        obtain ⟨hpx, ⟨k3, k4, k5, hbk, hX1⟩, hG2, hxl, hF, hlV, hl2, e2, e3⟩ := HV.out
        obtain ⟨hT10, q1, q2, q3, hfw, hb10, _, _, _, z10, hR1, hR2, hst, hT2, h9⟩ := KK.out
        obtain ⟨hz78, hno, hBN, hfar, hNb, hNt, hNN, hz89, z7, hbB, htB, hlt7, hTl, f910⟩ := HF.out
        have hB3 := HW.out.2.1
        have k3b := hfb.blk k3 (by omega : ¬ B3 = l)
        have k4b := hfb.blk k4 (by omega : ¬ B3 + 1 = l)
        have k5b := hfb.blk k5 (by omega : ¬ B3 + 2 = l)
        have hbkb := bokS_fr hbk hfb (by omega : ¬ t = l) (by omega : ¬ b = l)
        have q1b := hfb.blk (hF.blk q1 (by unfold blkN; omega)) (by omega : ¬ B1 = l)
        have q3b := hfb.blk (hF.blk q3 (by unfold blkN; omega)) (by omega : ¬ B2 = l)
        have hpl : pre.length < R.length := by
          have := congrArg List.length hpx
          simp at this; omega
        have hRn : R.length ≤ T.length := by
          have h1 := hR2.length_eq
          have h2 := wantES_len [] T
          omega
        have ck := blk_cell k3b 0
        have cl := blk_cell k4b 0
        have cg := blk_cell k5b 0
        have cb := blk_cell q1b 0
        have cn := blk_cell q3b 0
        have dk := blk_free k3b 0
        have dl := blk_free k4b 0
        have dg0 := blk_free k5b 0
        have hK5 := Lib.hid (And.intro k3b (And.intro k4b (And.intro k5b (And.intro hbkb (And.intro q1b (And.intro q3b (And.intro hfb (And.intro hrb (And.intro hX1 (And.intro hG2 (And.intro hxl (And.intro hF (And.intro hlV (And.intro hl2 (And.intro e2 (And.intro e3 (And.intro hpx (And.intro hpl hRn))))))))))))))))))
        clear hT10 q1 q2 q3 hfw hb10 z10 hR1 hR2 hst hT2 h9 hz78 hno hBN hfar hNb hNt hNN hz89 z7 hbB htB hlt7 f910 hB3 k3 k4 k5 hbk hX1 hG2 hxl hF hlV hl2 e2 e3 k3b k4b k5b hbkb q1b q3b hfb hrb hzb hsb hpx
        by_cases hp0 : pre = []
        · have hp1 : (pre.length : Int) = 0 := by simp [hp0]
          gi_wp2_with fail
          refine ⟨trivial, ?_⟩
          obtain ⟨k3b, k4b, k5b, hbkb, q1b, q3b, hfb, hrb, hX1, hG2, hxl, hF, hlV, hl2, e2, e3, hpx, hpl, hRn⟩ := hK5.out
          obtain ⟨hz78, hno, hBN, hfar, hNb, hNt, hNN, hz89, z7, hbB, htB, hlt7, hTl, f910⟩ := HF.out
          have hB3 := HW.out.2.1
          have fX : Fr (fun _ => False) Vb Vb := Fr.refl _ _
          have k3x := fX.blk k3b fun e => e
          have k4x := fX.blk k4b fun e => e
          have k5x := fX.blk k5b fun e => e
          have q1x := fX.blk q1b fun e => e
          have q3x := fX.blk q3b fun e => e
          have hbkx := bokS_fr hbkb fX (fun e => e) fun e => e
          obtain ⟨W5, hW5⟩ : ∃ W5, Vb.setCell ⟨B3 + 1 + 1, 0, none⟩ (.bool true) = W5 := ⟨_, rfl⟩
          have f5 : Fr (fun k => k = B3 + 2) Vb W5 := by rw [← hW5]; exact Fr.setCell (X := fun k => k = B3 + 2) (Fr.refl _ Vb) ⟨B3 + 1 + 1, 0, none⟩ rfl _
          have k3y := f5.blk k3x (by omega : ¬ B3 = B3 + 2)
          have k4y := f5.blk k4x (by omega : ¬ B3 + 1 = B3 + 2)
          have k5y : W5.heap[B3 + 2]? = some (.cells #[.bool true] 4 (0, 0)) := by rw [← hW5]; exact blk_set k5x 0 _
          have q1y := f5.blk q1x (by omega : ¬ B1 = B3 + 2)
          have q3y := f5.blk q3x (by omega : ¬ B2 = B3 + 2)
          have hbky := bokS_fr hbkx f5 (by omega : ¬ t = B3 + 2) (by omega : ¬ b = B3 + 2)
          have cb5 := blk_cell q1y 0
          rw [← hW5] at cb5
          have HD := Lib.hid (bok_delS hbky (name := nm) (by omega))
          have HW5 := Lib.hid hW5
          have HY := Lib.hid (And.intro fX (And.intro f5 (And.intro k3y (And.intro k4y (And.intro k5y (And.intro q1y q3y))))))
          clear k3b k4b k5b hbkb q1b q3b hfb hrb hX1 hG2 hxl hF hlV hl2 e2 e3 hpx hz78 hno hBN hfar hNb hNt hNN hz89 z7 hbB htB hlt7 f910 hB3 fX k3x k4x k5x q1x q3x hbkx hW5 f5 k3y k4y k5y q1y q3y hbky
          gi_wp2_with fail
          rw [HW5.out]
          refine ⟨trivial, (calls_wide (.inr ⟨l, rfl⟩) HD.out).mono ?_⟩
          rintro e W6 ⟨rfl, h6, f6⟩
          obtain ⟨fX, f5, k3y, k4y, k5y, q1y, q3y⟩ := HY.out
          obtain ⟨hz78, hno, hBN, hfar, hNb, hNt, hNN, hz89, z7, hbB, htB, hlt7, hTl, f910⟩ := HF.out
          have hB3 := HW.out.2.1
          have k3z := f6.blk k3y (by omega : ¬ B3 = b)
          have k4z := f6.blk k4y (by omega : ¬ B3 + 1 = b)
          have k5z := f6.blk k5y (by omega : ¬ B3 + 2 = b)
          have q3z := f6.blk q3y (by omega : ¬ B2 = b)
          have ck6 := blk_cell k3z 0
          have cl6 := blk_cell k4z 0
          have cn6 := blk_cell q3z 0
          have dk6 := blk_free k3z 0
          have dl6 := blk_free k4z 0
          have m0 : ¬ (T.length : Int) < (1 : Int) := by omega
          have m1 : decide ((T.length : Int) < (1 : Int)) = false := by simp; omega
          have HZ := Lib.hid (And.intro h6 (And.intro f6 (And.intro k3z (And.intro k4z (And.intro k5z q3z)))))
          have cn7 : ((W6.setCell ⟨B3 + 1, 0, none⟩ (.string nm)).setCell ⟨B3, 0, none⟩ (.int .i64 ((1 : Int)))).cell? ⟨B2, 0, none⟩ = some (.int .i64 (T.length : Int)) := blk_cell (blk_other (blk_other q3z ⟨B3 + 1, 0, none⟩ (by show B2 ≠ B3 + 1; omega) _) ⟨B3, 0, none⟩ (by show B2 ≠ B3; omega) _) 0
          have ck7 : (W6.setCell ⟨B3 + 1, 0, none⟩ (.string nm)).cell? ⟨B3, 0, none⟩ = some (.int .i64 (pre.length : Int)) := blk_cell (blk_other k3z ⟨B3 + 1, 0, none⟩ (by show B3 ≠ B3 + 1; omega) _) 0
          have dk7 : (W6.setCell ⟨B3 + 1, 0, none⟩ (.string nm)).frozen? ⟨B3, 0, none⟩ = false := blk_free (blk_other k3z ⟨B3 + 1, 0, none⟩ (by show B3 ≠ B3 + 1; omega) _) 0
          have ck8 : ((W6.setCell ⟨B3 + 1, 0, none⟩ (.string nm)).setCell ⟨B3, 0, none⟩ (.int .i64 ((1 : Int)))).cell? ⟨B3, 0, none⟩ = some (.int .i64 (1 : Int)) := blk_cell (blk_set (blk_other k3z ⟨B3 + 1, 0, none⟩ (by show B3 ≠ B3 + 1; omega) (.string nm)) 0 (.int .i64 ((1 : Int)))) 0
          clear h6 f6 k3z k4z k5z q3z fX f5 k3y k4y k5y q1y q3y hz78 hno hBN hfar hNb hNt hNN hz89 z7 hbB htB hlt7 f910 hB3
          gi_wp2_with fail
          obtain ⟨fX, f5, _, _, _, _, _⟩ := HY.out
          obtain ⟨h6, f6, k3z, k4z, k5z, q3z⟩ := HZ.out
          obtain ⟨k3b, k4b, k5b, hbkb, q1b, q3b, hfb, hrb, hX1, hG2, hxl, hF, hlV, hl2, e2, e3, hpx, hpl, hRn⟩ := hK5.out
          obtain ⟨hz78, hno, hBN, hfar, hNb, hNt, hNN, hz89, z7, hbB, htB, hlt7, hTl, f910⟩ := HF.out
          have hB3 := HW.out.2.1
          have hlen : ((pre ++ [(⟨nm, fd, nm⟩ : Ent VS)]).length : Int) = (1 : Int) := by simp [hp0]
          have hf3 : Fr X1 Vb ((W6.setCell ⟨B3 + 1, 0, none⟩ (.string nm)).setCell ⟨B3, 0, none⟩ (.int .i64 ((1 : Int)))) :=
            ((((fX.mono (Y := X1) fun _ _ e => e.elim).trans3 f5 fun k _ e => (hX1 k).2 (.inr (.inr (.inl e)))).trans3 f6 fun k _ e => (hX1 k).2 (.inr (.inr (.inr (.inl e))))).setCell ⟨B3 + 1, 0, none⟩ ((hX1 _).2 (.inr (.inl rfl))) _).setCell ⟨B3, 0, none⟩ ((hX1 _).2 (.inl rfl)) _
          have hs : Fr (fun k => k = B3 ∨ k = B3 + 1) W6 ((W6.setCell ⟨B3 + 1, 0, none⟩ (.string nm)).setCell ⟨B3, 0, none⟩ (.int .i64 ((1 : Int)))) := (Fr.setCell (X := fun k => k = B3 ∨ k = B3 + 1) (Fr.refl _ W6) ⟨B3 + 1, 0, none⟩ (.inr rfl) _).setCell ⟨B3, 0, none⟩ (.inl rfl) _
          refine ⟨X1, fun k hk => ⟨Nat.lt_of_lt_of_le (hG2 k hk).1 (Nat.le_trans hfb.size hf3.size), fun _ => hk⟩, (hfb.mono (Y := fun k => k = l ∨ X1 k) fun k _ e => .inl e).trans3 hf3 fun k _ e => .inr e, hf3.blk hrb hxl, ?_, ?_, ?_, ?_, hX1⟩
          · rw [hlen]; exact blk_set (blk_other k3z ⟨B3 + 1, 0, none⟩ (by show B3 ≠ B3 + 1; omega) _) 0 _
          · rw [lastN_snoc]; exact blk_other (blk_set k4z 0 _) ⟨B3, 0, none⟩ (by show B3 + 1 ≠ B3; omega) _
          · exact blk_other (blk_other k5z ⟨B3 + 1, 0, none⟩ (by show B3 + 2 ≠ B3 + 1; omega) _) ⟨B3, 0, none⟩ (by show B3 + 2 ≠ B3; omega) _
          · rw [leftS_snoc]; exact bokS_fr h6 hs (by omega) (by omega)
        · have hp1 : ¬ (pre.length : Int) = 0 := by
            have := List.length_pos_iff.2 hp0
            omega
          have hp2 : decide ((pre.length : Int) = 0) = false := by simp [hp0]
          gi_wp2_with fail
          obtain ⟨a0, ha0, hls⟩ : ∃ a0, a0 ∈ pre ∧ lastN pre = a0.name := by
            obtain ⟨a0, h0⟩ : ∃ a0, pre.getLast? = some a0 := by
              cases h0 : pre.getLast? with
              | none => exact absurd (List.getLast?_eq_none_iff.1 h0) hp0
              | some a0 => exact ⟨a0, rfl⟩
            exact ⟨a0, List.mem_of_getLast? h0, by unfold lastN; rw [h0]⟩
          have hpx := hK5.out.2.2.2.2.2.2.2.2.2.2.2.2.2.2.2.2.1
          have ha1 := HI.out a0 (by rw [← hpx]; exact List.mem_append_left _ ha0)
          have hlt0 : a0.fold < fd := by
            have hR1 := KK.out.2.2.2.2.2.2.2.2.2.2.1
            rw [← hpx, List.pairwise_append] at hR1
            exact hR1.2.2 a0 ha0 _ (List.mem_cons_self ..)
          have e3 := hK5.out.2.2.2.2.2.2.2.2.2.2.2.2.2.2.2.1
          have e2 := hK5.out.2.2.2.2.2.2.2.2.2.2.2.2.2.2.1
          have hcmp : cmpF (lastN pre).data.toList nm.data.toList = -1 := by
            refine cmp_told ?_
            rw [hls, ← ha1.2.2, ← e3]
            exact hlt0
          refine ⟨trivial, (calls_wide (.inr ⟨l, rfl⟩) (refcompare (lastN pre) nm Vb (by rw [hls]; omega) (by omega))).mono ?_⟩
          rintro e Vc ⟨rfl, bc⟩
          rw [hcmp]
          have HB := Lib.hid (Fr.of_below (X := fun _ => False) bc)
          have dg1 := blk_free (HB.out.blk hK5.out.2.2.1 fun e => e) 0
          have cg1 := blk_cell (HB.out.blk hK5.out.2.2.1 fun e => e) 0
          clear bc hcmp ha1 hlt0 hls ha0 hpx e2 e3
          obtain ⟨k3b, k4b, k5b, hbkb, q1b, q3b, hfb, hrb, hX1, hG2, hxl, hF, hlV, hl2, e2, e3, hpx, hpl, hRn⟩ := hK5.out
          obtain ⟨hz78, hno, hBN, hfar, hNb, hNt, hNN, hz89, z7, hbB, htB, hlt7, hTl, f910⟩ := HF.out
          have hB3 := HW.out.2.1
          have fX : Fr (fun _ => False) Vb Vc := HB.out
          have k3x := fX.blk k3b fun e => e
          have k4x := fX.blk k4b fun e => e
          have k5x := fX.blk k5b fun e => e
          have q1x := fX.blk q1b fun e => e
          have q3x := fX.blk q3b fun e => e
          have hbkx := bokS_fr hbkb fX (fun e => e) fun e => e
          obtain ⟨W5, hW5⟩ : ∃ W5, Vc.setCell ⟨B3 + 1 + 1, 0, none⟩ (.bool true) = W5 := ⟨_, rfl⟩
          have f5 : Fr (fun k => k = B3 + 2) Vc W5 := by rw [← hW5]; exact Fr.setCell (X := fun k => k = B3 + 2) (Fr.refl _ Vc) ⟨B3 + 1 + 1, 0, none⟩ rfl _
          have k3y := f5.blk k3x (by omega : ¬ B3 = B3 + 2)
          have k4y := f5.blk k4x (by omega : ¬ B3 + 1 = B3 + 2)
          have k5y : W5.heap[B3 + 2]? = some (.cells #[.bool true] 4 (0, 0)) := by rw [← hW5]; exact blk_set k5x 0 _
          have q1y := f5.blk q1x (by omega : ¬ B1 = B3 + 2)
          have q3y := f5.blk q3x (by omega : ¬ B2 = B3 + 2)
          have hbky := bokS_fr hbkx f5 (by omega : ¬ t = B3 + 2) (by omega : ¬ b = B3 + 2)
          have cb5 := blk_cell q1y 0
          rw [← hW5] at cb5
          have HD := Lib.hid (bok_delS hbky (name := nm) (by omega))
          have HW5 := Lib.hid hW5
          have HY := Lib.hid (And.intro fX (And.intro f5 (And.intro k3y (And.intro k4y (And.intro k5y (And.intro q1y q3y))))))
          clear k3b k4b k5b hbkb q1b q3b hfb hrb hX1 hG2 hxl hF hlV hl2 e2 e3 hpx hz78 hno hBN hfar hNb hNt hNN hz89 z7 hbB htB hlt7 f910 hB3 fX k3x k4x k5x q1x q3x hbkx hW5 f5 k3y k4y k5y q1y q3y hbky
          gi_wp2_with fail
          rw [HW5.out]
          refine ⟨trivial, (calls_wide (.inr ⟨l, rfl⟩) HD.out).mono ?_⟩
          rintro e W6 ⟨rfl, h6, f6⟩
          obtain ⟨fX, f5, k3y, k4y, k5y, q1y, q3y⟩ := HY.out
          obtain ⟨hz78, hno, hBN, hfar, hNb, hNt, hNN, hz89, z7, hbB, htB, hlt7, hTl, f910⟩ := HF.out
          have hB3 := HW.out.2.1
          have k3z := f6.blk k3y (by omega : ¬ B3 = b)
          have k4z := f6.blk k4y (by omega : ¬ B3 + 1 = b)
          have k5z := f6.blk k5y (by omega : ¬ B3 + 2 = b)
          have q3z := f6.blk q3y (by omega : ¬ B2 = b)
          have ck6 := blk_cell k3z 0
          have cl6 := blk_cell k4z 0
          have cn6 := blk_cell q3z 0
          have dk6 := blk_free k3z 0
          have dl6 := blk_free k4z 0
          have m0 : ¬ (T.length : Int) < ((pre.length : Int) + 1) := by omega
          have m1 : decide ((T.length : Int) < ((pre.length : Int) + 1)) = false := by simp; omega
          have HZ := Lib.hid (And.intro h6 (And.intro f6 (And.intro k3z (And.intro k4z (And.intro k5z q3z)))))
          have cn7 : ((W6.setCell ⟨B3 + 1, 0, none⟩ (.string nm)).setCell ⟨B3, 0, none⟩ (.int .i64 (((pre.length : Int) + 1)))).cell? ⟨B2, 0, none⟩ = some (.int .i64 (T.length : Int)) := blk_cell (blk_other (blk_other q3z ⟨B3 + 1, 0, none⟩ (by show B2 ≠ B3 + 1; omega) _) ⟨B3, 0, none⟩ (by show B2 ≠ B3; omega) _) 0
          have ck7 : (W6.setCell ⟨B3 + 1, 0, none⟩ (.string nm)).cell? ⟨B3, 0, none⟩ = some (.int .i64 (pre.length : Int)) := blk_cell (blk_other k3z ⟨B3 + 1, 0, none⟩ (by show B3 ≠ B3 + 1; omega) _) 0
          have dk7 : (W6.setCell ⟨B3 + 1, 0, none⟩ (.string nm)).frozen? ⟨B3, 0, none⟩ = false := blk_free (blk_other k3z ⟨B3 + 1, 0, none⟩ (by show B3 ≠ B3 + 1; omega) _) 0
          have ck8 : ((W6.setCell ⟨B3 + 1, 0, none⟩ (.string nm)).setCell ⟨B3, 0, none⟩ (.int .i64 (((pre.length : Int) + 1)))).cell? ⟨B3, 0, none⟩ = some (.int .i64 ((pre.length : Int) + 1)) := blk_cell (blk_set (blk_other k3z ⟨B3 + 1, 0, none⟩ (by show B3 ≠ B3 + 1; omega) (.string nm)) 0 (.int .i64 (((pre.length : Int) + 1)))) 0
          clear h6 f6 k3z k4z k5z q3z fX f5 k3y k4y k5y q1y q3y hz78 hno hBN hfar hNb hNt hNN hz89 z7 hbB htB hlt7 f910 hB3
          gi_wp2_with fail
          obtain ⟨fX, f5, _, _, _, _, _⟩ := HY.out
          obtain ⟨h6, f6, k3z, k4z, k5z, q3z⟩ := HZ.out
          obtain ⟨k3b, k4b, k5b, hbkb, q1b, q3b, hfb, hrb, hX1, hG2, hxl, hF, hlV, hl2, e2, e3, hpx, hpl, hRn⟩ := hK5.out
          obtain ⟨hz78, hno, hBN, hfar, hNb, hNt, hNN, hz89, z7, hbB, htB, hlt7, hTl, f910⟩ := HF.out
          have hB3 := HW.out.2.1
          have hlen : ((pre ++ [(⟨nm, fd, nm⟩ : Ent VS)]).length : Int) = ((pre.length : Int) + 1) := by simp [hp0]
          have hf3 : Fr X1 Vb ((W6.setCell ⟨B3 + 1, 0, none⟩ (.string nm)).setCell ⟨B3, 0, none⟩ (.int .i64 (((pre.length : Int) + 1)))) :=
            ((((fX.mono (Y := X1) fun _ _ e => e.elim).trans3 f5 fun k _ e => (hX1 k).2 (.inr (.inr (.inl e)))).trans3 f6 fun k _ e => (hX1 k).2 (.inr (.inr (.inr (.inl e))))).setCell ⟨B3 + 1, 0, none⟩ ((hX1 _).2 (.inr (.inl rfl))) _).setCell ⟨B3, 0, none⟩ ((hX1 _).2 (.inl rfl)) _
          have hs : Fr (fun k => k = B3 ∨ k = B3 + 1) W6 ((W6.setCell ⟨B3 + 1, 0, none⟩ (.string nm)).setCell ⟨B3, 0, none⟩ (.int .i64 (((pre.length : Int) + 1)))) := (Fr.setCell (X := fun k => k = B3 ∨ k = B3 + 1) (Fr.refl _ W6) ⟨B3 + 1, 0, none⟩ (.inr rfl) _).setCell ⟨B3, 0, none⟩ (.inl rfl) _
          refine ⟨X1, fun k hk => ⟨Nat.lt_of_lt_of_le (hG2 k hk).1 (Nat.le_trans hfb.size hf3.size), fun _ => hk⟩, (hfb.mono (Y := fun k => k = l ∨ X1 k) fun k _ e => .inl e).trans3 hf3 fun k _ e => .inr e, hf3.blk hrb hxl, ?_, ?_, ?_, ?_, hX1⟩
          · rw [hlen]; exact blk_set (blk_other k3z ⟨B3 + 1, 0, none⟩ (by show B3 ≠ B3 + 1; omega) _) 0 _
          · rw [lastN_snoc]; exact blk_other (blk_set k4z 0 _) ⟨B3, 0, none⟩ (by show B3 + 1 ≠ B3; omega) _
          · exact blk_other (blk_other k5z ⟨B3 + 1, 0, none⟩ (by show B3 + 2 ≠ B3 + 1; omega) _) ⟨B3, 0, none⟩ (by show B3 + 2 ≠ B3; omega) _
          · rw [leftS_snoc]; exact bokS_fr h6 hs (by omega) (by omega)
      case done =>
        rintro D X2 V hD hxD hG2 hF ⟨j3, j4, j5, hbk, hX2⟩ hdef
        have q1V := hF.blk q1 (by unfold blkN; omega)
        have q2V := hF.blk q2 (by unfold blkN; omega)
        have q3V := hF.blk q3 (by unfold blkN; omega)
        have hRT : R.length = T.length := by rw [hR2.length_eq, want_all, List.length_map]
        have hkT : ∀ p ∈ T, p.1 = foldL p.2.name.data.toList := by
          obtain ⟨D0, _, _, a7⟩ := HG.out.bok.2.2.2.2
          exact fun p hp => (a7 p hp).2.2.1.symm
        have hn2 : (T2.map (·.1)).Nodup := by
          obtain ⟨D0, _, a6, _⟩ := h9.2.2.2.2
          exact a6.nodup
        have hle := stay_end hR2 hkT hT2 hn2
        have HL := Lib.hid (bok_lenS hbk)
        obtain ⟨z, hz⟩ : ∃ z, (leftS T2 R).length = z := ⟨_, rfl⟩
        rw [hz] at HL hle
        have hbV : Fr (fun _ => False) w V := hfw.trans3 hF fun k hk e => by rcases e with e | e | e | e | e <;> omega
        rw [hRT] at j3
        have c0 := blk_cell j3 0
        have c1 := blk_cell j5 0
        have c2 := blk_cell q1V 0
        have c3 := blk_cell q3V 0
        have c4 := blk_cell q2V 0
        have d4 := blk_free q2V 0
        have m0 : (z : Int) ≤ 1 := by omega
        have m1 : decide ((z : Int) ≤ 1) = true := by simp; omega
        have hDw : w.heap.size < D := by have := hbV.size; omega
        have HQ := Lib.hid (And.intro hdef (And.intro hbV (And.intro hDw q2V)))
        clear j3 j4 j5 hbk hX2 hdef hxD hG2 hF q1V q2V q3V hRT hkT hn2 hle hz hbV hDw hD hseq hseq10 hs8 hYb hYl heg hT10 q1 q2 q3 hfw hb10 k3 k4 k5 z10 hR1 hR2 hst hT2 h9 hz78 hno hBN hfar hNb hNt hNN hz89 z7 hbB htB hlt7 hTl f910 hB3
        gi_wp2_with fail
        refine ⟨trivial, (calls_wide (.inl rfl) HL.out).mono ?_⟩
        rintro e V2 ⟨rfl, rfl⟩
        gi_wp2_with fail
        obtain ⟨hdef, hbV, hDw, q2V⟩ := HQ.out
        have d5 := blk_other hdef ⟨w.heap.size, 0, none⟩ (by show D ≠ w.heap.size; omega) (Value.bool true)
        have kr5 := blk_set q2V 0 (Value.bool true)
        refine leaves_one D _ d5 fun w' hf => ⟨_, results_box rfl _ _ w.heap.size (.bool true) _ rfl (blk_cell (hf.blk kr5 (by omega)) 0) Try.underlying4 rfl, rfl, ?_⟩
        have b5 := (hbV.below (Nat.le_refl _) (fun _ _ e => e.elim)).setCell (p := ⟨w.heap.size, 0, none⟩) (Nat.le_refl _) (Value.bool true)
        exact b5.trans (hf.below b5.size fun k _ e => by omega)
end Go.Proofs.Ytfdaeajafmcjcaa
