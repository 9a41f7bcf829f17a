/- Texts of this proof, one behind the other. -/
import Derived.Test.YtlkeomcillencaaGreatRoomsOrderG17
set_option linter.unusedVariables false
set_option linter.unusedSimpArgs false
section
/- Layer 20: RoomsOrder. -/
namespace Go.Proofs.YtlkeomcillencaaGreat
open Go Go.RowKit Go.Maps Go.Sort Go.Shelf Go.Lib
attribute [local go_sem] Oper.semAt_some

theorem part_on {n base : Nat} {mr mj mb : Int} {R : Nat} {A : List Rm} {w0 w : World} (h : RsOn n base mr mj mb R A w0 w) (h0 : base ≤ w0.heap.size) (hn : n ≤ 80000) {id : Int} (hid : OkKIS id) {nm : List UInt8} (hnm : nm.length ≤ 1000) :
    Calls Tryz.prog 10 #[.pointer (some ⟨R, 0, none⟩), .int .i64 id, .string (bs nm)] w fun e w' => (∃ bo, e = .returned (.bool bo)) ∧ RsOn n base mr mj mb R (partA A id (foldL nm)) w0 w' := by
  obtain ⟨t, b, tr, X, C, Q, L, h1, h2, rfl⟩ := h.st
  refine (part_w h1 h2 hn hid hnm).mono fun e w' ⟨he, Q', k1, k2, k3⟩ => ⟨⟨_, he⟩, ?_⟩
  rw [← k3]; exact h.step h0 h1 k1 k2
theorem RsOn.more {n base : Nat} {mr mj mb : Int} {R : Nat} {A : List Rm} {w0 w : World} (h : RsOn n base mr mj mb R A w0 w) : RsOn (n + 1) base mr mj mb R A w0 w := by
  obtain ⟨⟨t, b, tr, X, C, Q, L, h1, h2, h3⟩, h4⟩ := h
  exact ⟨⟨t, b, tr, X, C, Q, L, h1, h2.more (Nat.le_succ n), h3⟩, h4⟩
theorem cmp_less {a b : List UInt8} (h : foldL a < foldL b) : cmpF a b = -1 := by
  unfold cmpF
  refine (less_cmpL _ _).1 ?_
  rw [bytesLess_eq]
  exact decide_eq_true h
theorem map_key_inj {Q : List RmE} (hk : (Q.map keyE).Nodup) : ∀ {A B : List RmE}, (∀ e ∈ A, e ∈ Q) → (∀ e ∈ B, e ∈ Q) → A.map keyE = B.map keyE → A = B
  | [], [], _, _, _ => rfl
  | [], _ :: _, _, _, h => by cases h
  | _ :: _, [], _, _, h => by cases h
  | a :: A, b :: B, h1, h2, h => by
    rw [List.map_cons, List.map_cons] at h
    injection h with h3 h4
    have e1 := getE_of hk (h1 a (List.mem_cons_self ..))
    have e2 := getE_of hk (h2 b (List.mem_cons_self ..))
    rw [h3, e2] at e1
    cases e1
    rw [map_key_inj hk (fun e he => h1 e (List.mem_cons_of_mem _ he)) (fun e he => h2 e (List.mem_cons_of_mem _ he)) h4]
/-- somebody's rooms stand among all in their order -/
theorem own_filter {Q S1 S2 : List RmE} (hk : (Q.map keyE).Nodup) {id : Int} (h1 : S1.Pairwise fun x y => keyE x < keyE y) (h2 : S1.Perm Q) (h3 : S2.Pairwise fun x y => keyE x < keyE y) (h4 : S2.Perm (ofQ Q id)) : S2 = S1.filter fun e => hasM e.r.mem id := by
  refine map_key_inj hk (fun e he => (List.mem_filter.1 (h4.mem_iff.1 he)).1) (fun e he => h2.mem_iff.1 (List.mem_filter.1 he).1) (up_extS ?_ ?_ fun k => ?_)
  · rw [List.pairwise_map]; exact h3
  · rw [List.pairwise_map]; exact h1.filter _
  · rw [List.mem_map, List.mem_map]
    constructor
    · rintro ⟨e, he, rfl⟩
      have := List.mem_filter.1 (h4.mem_iff.1 he)
      exact ⟨e, List.mem_filter.2 ⟨h2.mem_iff.2 this.1, this.2⟩, rfl⟩
    · rintro ⟨e, he, rfl⟩
      have := List.mem_filter.1 he
      exact ⟨e, h4.mem_iff.2 (List.mem_filter.2 ⟨h2.mem_iff.1 this.1, this.2⟩), rfl⟩
/-- the name told last -/
def lastN (S : List RmE) : Nat → List UInt8
  | 0 => []
  | k + 1 => ((S[k]?).map (·.r.nm)).getD []
def mineN (S : List RmE) (id : Int) (k : Nat) : List (List UInt8) := ((S.take k).filter fun e => hasM e.r.mem id).map (·.r.nm)
theorem mineN_succ {S : List RmE} {id : Int} {k : Nat} (h : k < S.length) : mineN S id (k + 1) = if hasM S[k].r.mem id = true then mineN S id k ++ [S[k].r.nm] else mineN S id k := by
  unfold mineN
  rw [List.take_succ_eq_append_getElem h, List.filter_append, List.map_append]
  by_cases hb : hasM S[k].r.mem id = true
  · rw [if_pos hb, List.filter_cons_of_pos (by simpa using hb)]; rfl
  · rw [if_neg hb, List.filter_cons_of_neg (by simpa using hb)]; simp
theorem lastN_succ {S : List RmE} {k : Nat} (h : k < S.length) : lastN S (k + 1) = S[k].r.nm := by
  show ((S[k]?).map (·.r.nm)).getD [] = _
  rw [List.getElem?_eq_getElem h]; rfl
theorem mineN_len (S : List RmE) (id : Int) (k : Nat) : (mineN S id k).length ≤ S.length := by
  unfold mineN
  rw [List.length_map]
  exact Nat.le_trans (List.length_filter_le _ _) (by rw [List.length_take]; exact Nat.min_le_right _ _)
/-- three boxes: mine, last, n -/
def OrdJ (Nm base : Nat) (id : Int) (S : List RmE) (pre : List Nat) (X : Nat → Prop) (W : World) : Prop :=
  ∃ vm, W.heap[Nm]? = some (.cells #[vm] 68 (0, 0)) ∧ OwnT base W vm (mineN S id pre.length) ∧ W.heap[Nm + 1]? = some (.cells #[.string (bs (lastN S pre.length))] 9 (0, 0)) ∧ W.heap[Nm + 2]? = some (.cells #[.int .i64 (pre.length : Int)] 3 (0, 0)) ∧ Nm + 2 < base ∧ ∀ k, X k ↔ (k = Nm ∨ k = Nm + 1 ∨ k = Nm + 2 ∨ vm.ownBlock = some k)
theorem ordJ_stays (Nm base : Nat) (id : Int) (S : List RmE) : Stays (OrdJ Nm base id S) := fun pre X V V' ⟨vm, h1, h2, h3, h4, h5, h6⟩ hl hf =>
  ⟨vm, hf.blk h1 (fun e => e ((h6 _).2 (.inl rfl))), ownT_kept h2 fun g hg => hf.block g (h2.lt g hg).2 fun e => e ((h6 g).2 (.inr (.inr (.inr hg)))), hf.blk h3 (fun e => e ((h6 _).2 (.inr (.inl rfl)))), hf.blk h4 (fun e => e ((h6 _).2 (.inr (.inr (.inl rfl))))), h5, h6⟩
set_option maxRecDepth 100000 in
set_option maxHeartbeats 32000000 in
theorem roomsOrder_main (A : Option Addr) (l : List zraT) (cc : Nat) (id : Int) (hid : OkKIS id) (w : World) (hA : ActRs w A l) :
    Calls Tryz.prog 6 #[.slice A l.length cc, .int .i64 id] w fun e w' => e = .returned (.bool true) ∧ RowKit.Below w.heap.size w w' := by
  obtain ⟨i0, iz, iz0, iz1, iz2⟩ := info_parts Tryz.infoT
  obtain ⟨N, hN⟩ : ∃ N, w.heap.size = N := ⟨_, rfl⟩
  obtain ⟨W0, hW0⟩ : ∃ W0, (w.alloc (.cells #[.int .i64 id] 3)).alloc (.cells #[.bool false] 4) = W0 := ⟨_, rfl⟩
  have b0 : RowKit.Below w.heap.size w W0 := by rw [← hW0]; exact ((Below.refl _ w).alloc (Nat.le_refl _) _).alloc (by simp) _
  have k0 : W0.heap[N]? = some (.cells #[.int .i64 id] 3 (0, 0)) := by rw [← hW0, ← hN]; exact blk_alloc (heap_alloc_new w _) _
  have k1 : W0.heap[N + 1]? = some (.cells #[.bool false] 4 (0, 0)) := by rw [← hW0, ← hN]; exact heap_alloc2_new w _ _
  have z0 : W0.heap.size = N + 2 := by rw [← hW0, ← hN]; simp
  have H0 := Lib.hid (And.intro b0 (And.intro k0 (And.intro k1 (And.intro z0 hN))))
  have HW := Lib.hid (And.intro hN hW0)
  have HA := Lib.hid hA
  have HID := Lib.hid hid
  clear b0 k0 k1 z0 hN hW0 hA hid
  refine (callsIn_wide (n := 30)).1 ?_
  refine callsIn_of_wp_marks Tryz.func6 rfl trivial ?_ rfl
  simp only [Tryz.ntmps6, List.size_toArray, List.length_cons, List.length_nil, Nat.reduceAdd, Nat.reduceSub, Array.replicate_succ, Array.replicate_zero, List.push_toArray, List.append_toArray, List.nil_append, List.cons_append]
  gi_wp2_with fail
  rw [HW.out.1]
  rw [HW.out.2]
  refine ⟨trivial, (calls_wide (.inl rfl) (awake20 W0)).mono ?_⟩
  rintro e w1 ⟨rfl, b1⟩
  have hb1 : RowKit.Below w.heap.size w w1 := H0.out.1.trans (b1.mono H0.out.1.size)
  have k0 := (Fr.of_below (X := fun _ => False) b1).blk H0.out.2.1 fun e => e
  have k1 := (Fr.of_below (X := fun _ => False) b1).blk H0.out.2.2.1 fun e => e
  have z1 := b1.size
  have H1 := Lib.hid (And.intro hb1 (And.intro k0 (And.intro k1 (show N + 2 ≤ w1.heap.size by have := H0.out.2.2.2.1; omega))))
  clear b1 hb1 k0 k1 z1 HW
  gi_wp2_with fail
  refine ⟨trivial, (calls_wide (.inl rfl) (great20 HA.out w1 H1.out.1)).mono ?_⟩
  rintro e w1 ⟨rfl, rfl⟩
  obtain ⟨gr, hgr⟩ : ∃ gr, greatRs l = gr := ⟨_, rfl⟩
  rw [hgr]
  have HGR := Lib.hid hgr
  clear hgr
  cases gr with
  | true =>
    have c0 := blk_cell H1.out.2.2.1 0
    have d0 := blk_free H1.out.2.2.1 0
    have kk := blk_set H1.out.2.2.1 0 (.bool true)
    have hbb := H1.out.1.setCell (p := ⟨N + 1, 0, none⟩) (by have := H0.out.2.2.2.2; show w.heap.size ≤ N + 1; omega) (.bool true)
    have HK := Lib.hid (And.intro kk hbb)
    clear kk hbb
    gi_wp2_with fail
    obtain ⟨p1, p2⟩ := HK.out
    exact leavesF [] _ List.nodup_nil (by simp) fun w' hf => ⟨_, results_box rfl _ _ (N + 1) (.bool true) _ rfl (blk_cell (hf.blk p1 (by simp)) 0) Tryz.underlying4 rfl, rfl, p2.trans (hf.below p2.size fun k _ e => by simp at e)⟩
  | false =>
  have hlim := greatRs_no HGR.out
  have HN := Lib.hid (new_on (mr := 50) (mj := 50) (by decide) (by decide) 3 w1)
  unfold cfgV at HN
  have HLim := Lib.hid hlim
  have hl40 := hlim.1
  clear hlim
  gi_wp2_with fail
  refine ⟨trivial, (calls_wide (.inl rfl) HN.out).mono ?_⟩
  rintro e w2 ⟨R, rfl, h2⟩
  have G0 : Hid (∃ A2, RsOn 0 w1.heap.size 50 50 3 R A2 w1 w2) := Lib.hid ⟨[], h2⟩
  clear h2 HN
  gi_wp2_with fail
  gi_loopw [6] (fun c8 wr => ∃ i : Nat, c8 = .int .i64 i ∧ i ≤ l.length ∧ Hid (∃ A2, RsOn i w1.heap.size 50 50 3 R A2 w1 wr)) (fun c8 _ => l.length - (RowKit.intOf c8).toNat)
  case atStart => exact ⟨0, rfl, Nat.zero_le _, G0⟩
  case round =>
    obtain ⟨i, rfl, hi, HB⟩ := hrel
    clear G0
    obtain ⟨A2, hon⟩ := HB.out
    have hbw : RowKit.Below w.heap.size w wr := H1.out.1.trans (hon.up.mono H1.out.1.size)
    have HG := Lib.hid (And.intro hon hbw)
    clear HB hon hbw
    by_cases hlt : i < l.length
    · obtain ⟨ga, o, rfl, hat⟩ := actRs_at HA.out (by omega)
      obtain ⟨s0, hs0⟩ : ∃ s0, l[i].1 = s0 := ⟨_, rfl⟩
      obtain ⟨s1, hs1⟩ : ∃ s1, l[i].2.1 = s1 := ⟨_, rfl⟩
      obtain ⟨s2, hs2⟩ : ∃ s2, l[i].2.2 = s2 := ⟨_, rfl⟩
      have HAT : Hid (∀ W, Fr (fun _ => False) wr W → W.cell? ⟨ga, o + i * 3 + 1, none⟩ = some (.int .i64 s1) ∧ W.cell? ⟨ga, o + i * 3 + 2, none⟩ = some (.string s2)) := Lib.hid fun W hW => by
        obtain ⟨c1, c2, c3⟩ := hat W (HG.out.2.trans (hW.below HG.out.2.size fun _ _ e => e.elim)) i hlt
        rw [hs1] at c2; rw [hs2] at c3
        exact ⟨c2, c3⟩
      obtain ⟨cK, _, _⟩ := hat wr HG.out.2 i hlt
      rw [hs0] at cK
      have hok : OkKIS s1 := by rw [← hs1]; exact (HA.out.1 _ (List.getElem_mem hlt)).2.1
      have hnm : s2.data.toList.length ≤ 1000 := by have := HLim.out.2 _ (List.getElem_mem hlt); rw [hs2] at this; rw [Array.length_toList]; show s2.size ≤ 1000; omega
      have n1 : (i : Int) < (l.length : Int) := by omega
      have n2 : decide ((i : Int) < (l.length : Int)) = true := by simp; omega
      have n3 : ¬ (l.length : Int) ≤ (i : Int) := by omega
      have HOK := Lib.hid (And.intro hok hnm)
      clear hat hok hnm hs1 hs2 hs0
      by_cases hk1 : s0 = 1
      · subst hk1
        gi_wp2_with fail
        refine wpIn_class_tail (C := fun W => Fr (fun _ => False) wr W) 11 (by kernel_rfl) (by kernel_rfl) (by kernel_rfl) ((Fr.refl (fun _ => False) wr).drew) ?_
        simp only [List.take_succ_cons, List.take_zero, List.drop_succ_cons, List.drop_zero]
        refine quiet_step_w (fun _ => trivial) (fun K hK => ?_)
        go_simp
        first | refine ⟨_, fun _ _ => rfl, hK _ ?_⟩ | refine hK _ ?_
        clear hK K
        refine quiet_step_w (fun _ => trivial) (fun K hK => ?_)
        go_simp
        first | refine ⟨_, fun _ _ => rfl, hK _ ?_⟩ | refine hK _ ?_
        clear hK K
        refine quiet_step_w (fun _ => trivial) (fun K hK => ?_)
        go_simp
        first | refine ⟨_, fun _ _ => rfl, hK _ ?_⟩ | refine hK _ ?_
        clear hK K
        refine quiet_step_w (fun _ => trivial) (fun K hK => ?_)
        go_simp
        first | refine ⟨_, fun _ _ => rfl, hK _ ?_⟩ | refine hK _ ?_
        clear hK K
        refine quiet_step_w (fun _ => trivial) (fun K hK => ?_)
        go_simp
        first | refine ⟨_, fun _ _ => rfl, hK _ ?_⟩ | refine hK _ ?_
        clear hK K
        refine quiet_step_w (fun _ => trivial) (fun K hK => ?_)
        go_simp
        refine ⟨.int .i64 s1, fun W hW => ?_, hK _ ?_⟩
        · obtain ⟨q1, q2⟩ := HAT.out W hW; go_simp
        clear hK K
        refine quiet_step_w (fun _ => trivial) (fun K hK => ?_)
        go_simp
        first | refine ⟨_, fun _ _ => rfl, hK _ ?_⟩ | refine hK _ ?_
        clear hK K
        refine quiet_step_w (fun _ => trivial) (fun K hK => ?_)
        go_simp
        first | refine ⟨_, fun _ _ => rfl, hK _ ?_⟩ | refine hK _ ?_
        clear hK K
        refine quiet_step_w (fun _ => trivial) (fun K hK => ?_)
        go_simp
        first | refine ⟨_, fun _ _ => rfl, hK _ ?_⟩ | refine hK _ ?_
        clear hK K
        refine quiet_step_w (fun _ => trivial) (fun K hK => ?_)
        go_simp
        first | refine ⟨_, fun _ _ => rfl, hK _ ?_⟩ | refine hK _ ?_
        clear hK K
        refine quiet_step_w (fun _ => trivial) (fun K hK => ?_)
        go_simp
        refine ⟨.string s2, fun W hW => ?_, hK _ ?_⟩
        · obtain ⟨q1, q2⟩ := HAT.out W hW; go_simp
        clear hK K
        refine wpQuietIn_nil ?_
        intro V1 hV1
        have h5 : RsOn i w1.heap.size 50 50 3 R A2 w1 V1 := HG.out.1.below (hV1.below (Nat.le_refl _) fun _ _ e => e.elim)
        have HJ := Lib.hid (part_on h5 (Nat.le_refl _) (by omega) HOK.out.1 HOK.out.2)
        rw [show bs s2.data.toList = s2 from rfl] at HJ
        clear hV1 h5
        gi_wp2_with fail
        refine ⟨trivial, (calls_wide (.inl rfl) HJ.out).mono ?_⟩
        rintro e w5 ⟨⟨bo, rfl⟩, h6⟩
        have G5 : Hid (∃ A2, RsOn (i + 1) w1.heap.size 50 50 3 R A2 w1 w5) := Lib.hid ⟨_, h6.more⟩
        clear h6 HJ
        gi_wp2_with fail
        go_roundw
        case rel => exact ⟨i + 1, by go_num, by omega, G5⟩
        case measure => simp [RowKit.intOf]; omega
      · have hk2 : (s0 == 1) = false := by simpa using hk1
        gi_wp2_with fail
        refine wpIn_class_tail (C := fun W => Fr (fun _ => False) wr W) 11 (by kernel_rfl) (by kernel_rfl) (by kernel_rfl) ((Fr.refl (fun _ => False) wr).drew) ?_
        simp only [List.take_succ_cons, List.take_zero, List.drop_succ_cons, List.drop_zero]
        refine quiet_step_w (fun _ => trivial) (fun K hK => ?_)
        go_simp
        first | refine ⟨_, fun _ _ => rfl, hK _ ?_⟩ | refine hK _ ?_
        clear hK K
        refine quiet_step_w (fun _ => trivial) (fun K hK => ?_)
        go_simp
        first | refine ⟨_, fun _ _ => rfl, hK _ ?_⟩ | refine hK _ ?_
        clear hK K
        refine quiet_step_w (fun _ => trivial) (fun K hK => ?_)
        go_simp
        first | refine ⟨_, fun _ _ => rfl, hK _ ?_⟩ | refine hK _ ?_
        clear hK K
        refine quiet_step_w (fun _ => trivial) (fun K hK => ?_)
        go_simp
        first | refine ⟨_, fun _ _ => rfl, hK _ ?_⟩ | refine hK _ ?_
        clear hK K
        refine quiet_step_w (fun _ => trivial) (fun K hK => ?_)
        go_simp
        first | refine ⟨_, fun _ _ => rfl, hK _ ?_⟩ | refine hK _ ?_
        clear hK K
        refine quiet_step_w (fun _ => trivial) (fun K hK => ?_)
        go_simp
        refine ⟨.int .i64 s1, fun W hW => ?_, hK _ ?_⟩
        · obtain ⟨q1, q2⟩ := HAT.out W hW; go_simp
        clear hK K
        refine quiet_step_w (fun _ => trivial) (fun K hK => ?_)
        go_simp
        first | refine ⟨_, fun _ _ => rfl, hK _ ?_⟩ | refine hK _ ?_
        clear hK K
        refine quiet_step_w (fun _ => trivial) (fun K hK => ?_)
        go_simp
        first | refine ⟨_, fun _ _ => rfl, hK _ ?_⟩ | refine hK _ ?_
        clear hK K
        refine quiet_step_w (fun _ => trivial) (fun K hK => ?_)
        go_simp
        first | refine ⟨_, fun _ _ => rfl, hK _ ?_⟩ | refine hK _ ?_
        clear hK K
        refine quiet_step_w (fun _ => trivial) (fun K hK => ?_)
        go_simp
        first | refine ⟨_, fun _ _ => rfl, hK _ ?_⟩ | refine hK _ ?_
        clear hK K
        refine quiet_step_w (fun _ => trivial) (fun K hK => ?_)
        go_simp
        refine ⟨.string s2, fun W hW => ?_, hK _ ?_⟩
        · obtain ⟨q1, q2⟩ := HAT.out W hW; go_simp
        clear hK K
        refine wpQuietIn_nil ?_
        intro V1 hV1
        have h5 : RsOn i w1.heap.size 50 50 3 R A2 w1 V1 := HG.out.1.below (hV1.below (Nat.le_refl _) fun _ _ e => e.elim)
        have HJ := Lib.hid (join_on h5 (Nat.le_refl _) (by omega) HOK.out.1 HOK.out.2)
        rw [show bs s2.data.toList = s2 from rfl] at HJ
        clear hV1 h5
        gi_wp2_with fail
        refine ⟨trivial, (calls_wide (.inl rfl) HJ.out).mono ?_⟩
        intro e w5 hj
        obtain ⟨pp, mm, rfl, h6⟩ := hj.ret
        have G5 : Hid (∃ A2, RsOn (i + 1) w1.heap.size 50 50 3 R A2 w1 w5) := Lib.hid ⟨_, h6⟩
        clear h6 HJ hj
        gi_wp2_with fail
        go_roundw
        case rel => exact ⟨i + 1, by go_num, by omega, G5⟩
        case measure => simp [RowKit.intOf]; omega
    · have n1 : ¬ (i : Int) < (l.length : Int) := by omega
      have n2 : decide ((i : Int) < (l.length : Int)) = false := by simp; omega
      obtain ⟨t, b, tr, X, C, Q, L, h1, hlg, hQA⟩ := HG.out.1.st
      have hq40 : Q.length ≤ 40 := by have := hlg.qlen; omega
      have hupW := HG.out.1.up
      have kI := (Fr.of_below (X := fun _ => False) (hupW.mono (Nat.le_refl _))).blk H1.out.2.1 fun e => e
      have kB := (Fr.of_below (X := fun _ => False) (hupW.mono (Nat.le_refl _))).blk H1.out.2.2.1 fun e => e
      have HI0 := Lib.hid (fun W (hW : Fr (fun _ => False) wr W) => blk_cell (hW.blk kI fun e => e) 0)
      have HAl := Lib.hid (fun W (hW : Fr (fun _ => False) wr W) => all_any (h1.fr hW fun _ _ e => e) (by omega))
      have HOf := Lib.hid (fun W (hW : Fr (fun _ => False) wr W) => of_any (h1.fr hW fun _ _ e => e) hlg (by omega) HID.out)
      have K1 := Lib.hid (And.intro h1 (And.intro hlg (And.intro hq40 (And.intro hupW (And.intro kI kB)))))
      clear h1 hlg hQA hupW kI kB
      gi_wp2_with fail
      refine wpIn_noPanic ?_
      refine wpIn_region_i (S := fun W => W.cell? ⟨N, 0, none⟩ = some (.int .i64 id)) 6 (by kernel_rfl) (by exact HI0.out _ (Fr.refl _ wr).drew) (fun hHeld => ?_)
      refine wpAnyI_read (i := 0) (oi := { dst := some 59, op := Go.Op.move (Go.Operand.tmp 5), type := 25, pos := "law.go:210", after := #[], guard := none }) ?_ (fun _ => trivial) (by kernel_rfl) rfl (by kernel_rfl) (by kernel_rfl) (by kernel_rfl) (by kernel_rfl) (fun _ _ _ h => h) (by rfl) (by assumption) ?_ ?_
      rotate_left
      · (intro w0 hS0; go_simp <;> (try with_reducible rfl))
      try simp only [Act.put, List.setIfInBounds_toArray, List.set_cons_zero, List.set_cons_succ]
      refine wpAnyI_read (i := 2) (oi := { dst := some 61, op := Go.Op.move (Go.Operand.tmp 5), type := 25, pos := "law.go:210", after := #[], guard := none }) ?_ (fun _ => trivial) (by kernel_rfl) rfl (by kernel_rfl) (by kernel_rfl) (by kernel_rfl) (by kernel_rfl) (fun _ _ _ h => h) (by rfl) (by assumption) ?_ ?_
      rotate_left
      · (intro w0 hS0; go_simp <;> (try with_reducible rfl))
      try simp only [Act.put, List.setIfInBounds_toArray, List.set_cons_zero, List.set_cons_succ]
      refine wpAnyI_read (i := 3) (oi := { dst := some 62, op := Go.Op.load 3 (Go.Operand.tmp 3), type := 3, pos := "law.go:210", after := #[], guard := none }) ?_ (fun _ => trivial) (by kernel_rfl) rfl (by kernel_rfl) (by kernel_rfl) (by kernel_rfl) (by kernel_rfl) (fun _ _ _ h => h) (by rfl) (by assumption) ?_ ?_
      rotate_left
      · (intro w0 hS0; (try dsimp only at hS0); go_simp <;> (try with_reducible rfl))
      try simp only [Act.put, List.setIfInBounds_toArray, List.set_cons_zero, List.set_cons_succ]
      refine wpAnyI_one (i := 1) (o := { dst := some 60, op := Go.Op.call { callee := Go.Callee.value (Go.Operand.func 24), args := #[Go.Operand.tmp 59], argTypes := #[25] }, type := 52, pos := "law.go:210", after := #[{ on := 0, ground := Go.Ground.data }], guard := none }) (by kernel_rfl) rfl (by rfl) (fun K hK => ?_)
      go_simp
      refine ⟨trivial, (calls_wide (.inl rfl) (HAl.out _ (Fr.refl _ wr).drew)).mono ?_⟩
      rintro e w5 ⟨⟨F1, S1, rfl, hT1, hS1, hS2⟩, b5⟩
      have f5 : Fr (fun _ => False) wr w5 := (Fr.refl (fun _ => False) wr).drew.trans (Fr.of_below b5)
      have H5 := Lib.hid (And.intro (show TalePr wr.heap.size w5 F1 (S1.map (·.B)) from hT1) (And.intro hS1 (And.intro hS2 f5)))
      clear hT1 hS1 hS2 b5 f5
      gi_wp2_with fail
      refine hK.out _ _ ?_ (fun hHeld => ?_)
      · exact HI0.out _ H5.out.2.2.2
      clear hK K
      try simp only [Act.put, List.setIfInBounds_toArray, List.set_cons_zero, List.set_cons_succ]
      refine wpAnyI_one (i := 4) (o := { dst := some 63, op := Go.Op.call { callee := Go.Callee.value (Go.Operand.func 25), args := #[Go.Operand.tmp 61, Go.Operand.tmp 62], argTypes := #[25, 3] }, type := 52, pos := "law.go:210", after := #[{ on := 2, ground := Go.Ground.data }, { on := 3, ground := Go.Ground.data }, { on := 1, ground := Go.Ground.chain }], guard := none }) (by kernel_rfl) rfl (by rfl) (fun K hK => ?_)
      go_simp
      refine ⟨trivial, (calls_wide (.inl rfl) (HOf.out _ H5.out.2.2.2)).mono ?_⟩
      rintro e w6 ⟨⟨F2, S2, rfl, hT2, hS3, hS4⟩, b6⟩
      have f6 : Fr (fun _ => False) wr w6 := H5.out.2.2.2.trans (Fr.of_below b6)
      have H6 := Lib.hid (And.intro hT2 (And.intro hS3 (And.intro hS4 (And.intro f6 b6))))
      clear hT2 hS3 hS4 b6 f6
      gi_wp2_with fail
      refine hK.out _ _ ?_ (fun hHeld => ?_)
      · exact HI0.out _ H6.out.2.2.2.1
      clear hK K
      try simp only [Act.put, List.setIfInBounds_toArray, List.set_cons_zero, List.set_cons_succ]
      refine wpAnyI_read (i := 5) (oi := { dst := some 7, op := Go.Op.assign (Go.Operand.tmp 60), type := 52, pos := "law.go:210", after := #[{ on := 1, ground := Go.Ground.data }, { on := 4, ground := Go.Ground.chain }, { on := 0, ground := Go.Ground.phase }, { on := 1, ground := Go.Ground.phase }, { on := 2, ground := Go.Ground.textOnly Go.Departure.lateStores }, { on := 3, ground := Go.Ground.textOnly Go.Departure.lateStores }, { on := 4, ground := Go.Ground.textOnly Go.Departure.lateStoresUnsure }], guard := none }) ?_ (fun _ => trivial) (by kernel_rfl) rfl (by kernel_rfl) (by kernel_rfl) (by kernel_rfl) (by kernel_rfl) (fun _ _ _ h => h) (by rfl) (by assumption) ?_ ?_
      rotate_left
      · (intro w0 hS0; go_simp <;> (try with_reducible rfl))
      try simp only [Act.put, List.setIfInBounds_toArray, List.set_cons_zero, List.set_cons_succ]
      refine wpAnyI_last (o := { dst := some 8, op := Go.Op.assign (Go.Operand.tmp 63), type := 52, pos := "law.go:210", after := #[{ on := 4, ground := Go.Ground.data }, { on := 5, ground := Go.Ground.chain }, { on := 0, ground := Go.Ground.phase }, { on := 1, ground := Go.Ground.phase }, { on := 2, ground := Go.Ground.phase }, { on := 3, ground := Go.Ground.phase }, { on := 4, ground := Go.Ground.phase }, { on := 5, ground := Go.Ground.phase }], guard := none }) (by kernel_rfl) rfl (by rfl) (fun K hK => ?_)
      go_simp
      refine hK.out _ _ ?_
      clear hK K
      try simp only [Act.put, List.setIfInBounds_toArray, List.set_cons_zero, List.set_cons_succ]
      refine wpAnyI_done (by kernel_rfl) ?_ _
      dsimp only [NoPanic]
      obtain ⟨h1, hlg, _, hupW, kI, kB⟩ := K1.out
      obtain ⟨hT1, hS1, hS2, f5⟩ := H5.out
      obtain ⟨hT2, hS3, hS4, f6, b6⟩ := H6.out
      have hSl : S1.length = Q.length := hS2.length_eq
      have hS1l : S1.length ≤ 40 := by have := K1.out.2.2.1; omega
      have hfil := own_filter h1.keys hS1 hS2 hS3 hS4
      obtain ⟨Y1, hY1b, gf1, lb1, rfl, hsq1, hY1l, heg1⟩ := tellsPr_tale hT1 (by rw [List.length_map]; omega)
      obtain ⟨Y2, hY2b, gf2, lb2, rfl, hsq2, hY2l, heg2⟩ := tellsPr_tale hT2 (by rw [List.length_map, hfil]; have := List.length_filter_le (fun e : RmE => hasM e.r.mem id) S1; omega)
      have hnil1 : ∀ W, (binOp BinOp.eql 52 (.func (.func gf1) #[] lb1) Value.nilFunc).run Tryz.prog W = .ok (.bool false) W := fun W => by rfl
      have hnil2 : ∀ W, (binOp BinOp.eql 52 (.func (.func gf2) #[] lb2) Value.nilFunc).run Tryz.prog W = .ok (.bool false) W := fun W => by rfl
      obtain ⟨Nm, hNm⟩ : ∃ Nm, w6.heap.size = Nm := ⟨_, rfl⟩
      obtain ⟨W7, hW7⟩ : ∃ W7, ((w6.alloc (Obj.cells #[Value.slice none 0 0] 68)).alloc (Obj.cells #[.string ⟨#[]⟩] 9 )).alloc (Obj.cells #[Value.int .i64 0] 3) = W7 := ⟨_, rfl⟩
      have f7 : Fr (fun _ => False) w6 W7 := by rw [← hW7]; exact (((Fr.refl _ w6).alloc _).alloc _).alloc _
      have z7 : W7.heap.size = Nm + 3 := by rw [← hW7, ← hNm]; simp
      have k70 : W7.heap[Nm]? = some (.cells #[.slice none 0 0] 68 (0, 0)) := by rw [← hW7, ← hNm]; exact blk_alloc (blk_alloc (heap_alloc_new w6 _) _) _
      have k71 : W7.heap[Nm + 1]? = some (.cells #[.string ⟨#[]⟩] 9 (0, 0)) := by rw [← hW7, ← hNm]; exact blk_alloc (heap_alloc2_new w6 _ _) _
      have k72 : W7.heap[Nm + 2]? = some (.cells #[.int .i64 0] 3 (0, 0)) := by
        rw [← hW7, ← hNm]
        have := heap_alloc2_new (w6.alloc (Obj.cells #[Value.slice none 0 0] 68)) (Obj.cells #[.string ⟨#[]⟩] 9 ) (Obj.cells #[Value.int .i64 0] 3)
        rwa [World.size_alloc] at this
      have h7 := (h1.fr f6 fun _ _ e => e).fr f7 fun _ _ e => e
      have hC : ∀ k, wr.heap.size ≤ k → C k = tag0 := h1.cN
      have z6 := f6.size
      have z56 := b6.size
      have hwr6 : wr.heap.size ≤ w5.heap.size := f5.size
      have kI7 := f7.blk (f6.blk kI fun e => e) fun e => e
      have kB7 := f7.blk (f6.blk kB fun e => e) fun e => e
      have hNI : N + 1 < wr.heap.size := blk_lt kB
      have hsq17 := (hsq1.same fun b2 hb2 => b6.block b2 (hY1l b2 hb2)).same fun b2 hb2 => f7.block b2 (by have := hY1l b2 hb2; omega) fun e => e
      have hsq27 := hsq2.same fun b2 hb2 => f7.block b2 (hY2l b2 hb2) fun e => e
      have hYa : ∀ k, Y1 k → k < Nm := fun k hk => by have := hY1l k hk; omega
      have hYb2 : ∀ k, Y2 k → k < Nm := fun k hk => by have := hY2l k hk; omega
      have hwN : wr.heap.size ≤ Nm := by omega
      have bw7 : RowKit.Below w.heap.size w W7 := (HG.out.2.trans ((f6.below (Nat.le_refl _) fun _ _ e => e.elim).mono HG.out.2.size)).trans ((f7.below (Nat.le_refl _) fun _ _ e => e.elim).mono (by have := HG.out.2.size; omega))
      have hSQ : ∀ e ∈ S1, e ∈ Q := fun e he => hS2.mem_iff.1 he
      have HW7 := Lib.hid (And.intro hW7 hNm)
      have K7 := Lib.hid (And.intro k70 (And.intro k71 (And.intro k72 (And.intro z7 (And.intro h7 (And.intro hC (And.intro kI7 (And.intro kB7 (And.intro hNI (And.intro hsq17 (And.intro hsq27 (And.intro hYa (And.intro hYb2 (And.intro hwN (And.intro bw7 (And.intro hSQ (And.intro heg1 (And.intro heg2 (And.intro hfil (And.intro hS1 (And.intro hSl hlg)))))))))))))))))))))
      clear hT1 hS1 hS2 f5 hT2 hS3 hS4 f6 b6 hSl hfil hY1b hsq1 hY1l hY2b hsq2 hY2l hW7 hNm f7 z7 k70 k71 k72 h7 hC z6 z56 hwr6 kI7 kB7 hNI hsq17 hsq27 hYa hYb2 hwN bw7 hSQ heg1 heg2 h1 hlg hupW kI kB HAl HOf
      gi_wp2_with (simp only [hnil1, hnil2])
      rw [HW7.out.2]
      rw [HW7.out.1]
      obtain ⟨k70, k71, k72, z7, h7, hC, kI7, kB7, hNI, hsq17, hsq27, hYa, hYb2, hwN, bw7, hSQ, heg1, heg2, hfil, hS1, hSl, hlg⟩ := K7.out
      refine wpIn_rangeF (X := fun k => k = Nm ∨ k = Nm + 1 ∨ k = Nm + 2) (Y := Y1) (xs := S1.map (·.B)) (encs := encRm) (gf := gf1) (lb := lb1) (OrdJ Nm W7.heap.size id S1) (fun _ _ _ _ => False)
        rfl hsq17 (fun k hk => ⟨by omega, fun e => by have := hYa k e; omega⟩) (fun b2 hb2 => by have := hYa b2 hb2; omega) (by omega) heg1 (fun _ => rfl)
        (ordJ_stays _ _ _ _) (fun c s X1 V1 V2 h => h.elim) ⟨_, k70, ownT_nil _ _, k71, k72, by omega, fun k => by simp [Value.ownBlock]⟩ ?round ?done (fun _ _ _ _ _ _ _ _ _ _ _ h => h.elim)
      case round =>
        rintro l2 pre x r X1 V KK rb hl2 hpx hI hG2 hxl hF hlV hK
        dsimp only [encRm]
        have HKK := Lib.hid hK
        have HV := Lib.hid (And.intro hpx (And.intro hI (And.intro hG2 (And.intro hxl (And.intro hF (And.intro hlV hl2))))))
        clear hK hpx hI hG2 hxl hF hlV hl2 k70 k71 k72 z7 h7 hC kI7 kB7 hNI hsq17 hsq27 hYa hYb2 hwN bw7 hSQ heg1 heg2 hfil hS1 hSl hlg
        gi_wp2_with fail
        refine HKK.out _ _ (Fr.refl _ _) fun Vb hfb hzb hsb hrb => ?_
        clear HKK KK
        obtain ⟨hpx, ⟨vm, j0, oj, j1, j2, hSl2, hX1⟩, hG2, hxl, hF, hlV, hl2⟩ := HV.out
        obtain ⟨k70, k71, k72, z7, h7, hC, kI7, kB7, hNI, hsq17, hsq27, hYa, hYb2, hwN, bw7, hSQ, heg1, heg2, hfil, hS1, hSl, hlg⟩ := K7.out
        obtain ⟨kk, hkk⟩ : ∃ kk, pre.length = kk := ⟨_, rfl⟩
        rw [hkk] at oj j1 j2
        have hpl : kk < S1.length := by
          have := congrArg List.length hpx
          simp at this; omega
        obtain ⟨e, he⟩ : ∃ e, S1[kk] = e := ⟨_, rfl⟩
        have hxe : x = e.B := by
          have h5 : (S1.map (·.B))[kk]'(by simpa using hpl) = x := by
            subst hkk
            have : (pre ++ x :: r)[pre.length]'(by simp) = x := by simp
            rw [← this]
            congr 1
            exact hpx.symm
          rw [← h5, List.getElem_map, he]
        subst hxe
        have heS : e ∈ S1 := by rw [← he]; exact List.getElem_mem _
        have heQ := hSQ e heS
        have hll : ∀ k, k = l2 → ¬ X1 k := fun k e2 h5 => hxl (e2 ▸ h5)
        have v0 := hfb.blk j0 (fun e2 => hll _ e2 ((hX1 _).2 (.inl rfl)))
        have v1 := hfb.blk j1 (fun e2 => hll _ e2 ((hX1 _).2 (.inr (.inl rfl))))
        have v2 := hfb.blk j2 (fun e2 => hll _ e2 ((hX1 _).2 (.inr (.inr (.inl rfl)))))
        have ov : OwnT W7.heap.size Vb vm (mineN S1 id kk) := ownT_kept oj fun g hg => hfb.block g (oj.lt g hg).2 fun e2 => hll _ e2 ((hX1 g).2 (.inr (.inr (.inr hg))))
        have vI := hfb.blk (hF.blk kI7 (by omega)) (by omega : ¬ N = l2)
        have hb : RsPh w1.heap.size Vb R t b tr X C 50 50 3 Q L := (h7.fr hF fun k hk e2 => hk (hC k (by omega))).fr hfb fun k hk e2 => hk (hC k (by have : k = l2 := e2; omega))
        have hroom := hb.each e heQ
        have hml : e.r.mem.length ≤ 1000000 := by have := hlg.mlen e heQ; omega
        have hnl : e.r.nm.length ≤ 1000 := hlg.nms e heQ
        obtain ⟨nx, hnx⟩ : ∃ nx, e.r.nm = nx := ⟨_, rfl⟩
        obtain ⟨ml, hmle⟩ : ∃ ml, e.r.mem.length = ml := ⟨_, rfl⟩
        obtain ⟨lastn, hlastn⟩ : ∃ lastn, lastN S1 kk = lastn := ⟨_, rfl⟩
        have hml0 : ml ≠ 0 := fun e2 => hlg.full e heQ (List.eq_nil_of_length_eq_zero (hmle.trans e2))
        rw [hlastn] at v1
        have HFx := Lib.hid (fun W (hW : Fr (fun _ => False) Vb W) => (And.intro (blk_cell (hW.blk v2 fun e => e) 0) (And.intro (blk_cell (hW.blk v1 fun e => e) 0) (And.intro (blk_cell (hW.blk vI fun e => e) 0) (blk_cell (hW.blk v0 fun e => e) 0)))))
        have HRx := Lib.hid (fun W (hW : Fr (fun _ => False) Vb W) => hroom.fr hW fun _ _ e => e)
        have HLenx : Hid (∀ W, Fr (fun _ => False) Vb W → Calls Tryz.prog 33 #[.pointer (some ⟨e.B, 0, none⟩)] W fun e2 w' => e2 = .returned (.int .i64 ml) ∧ w' = W) := Lib.hid fun W hW => by rw [← hmle]; exact rlen_any (HRx.out W hW)
        have HNmx : Hid (∀ W, Fr (fun _ => False) Vb W → Calls Tryz.prog 16 #[.pointer (some ⟨e.B, 0, none⟩)] W fun e2 w' => e2 = .returned (.string (bs nx)) ∧ w' = W) := Lib.hid fun W hW => by rw [← hnx]; exact name_any (HRx.out W hW).1
        have HMb := Lib.hid (fun W (hW : Fr (fun _ => False) Vb W) => member_any2 (HRx.out W hW) id hml)
        have p50 : ¬ ((50 : Int) < (kk : Int)) := by omega
        have p51 : decide ((50 : Int) < (kk : Int)) = false := by simp; omega
        have p60 : (((ml : Nat) : Int) == 0) = false := by simp; exact hml0
        have hzV : Vb.heap.size = V.heap.size := hzb
        have hownm : ∀ k, vm.ownBlock = some k → W7.heap.size ≤ k := fun k hk => (ov.lt k hk).1
        have fin : ∀ (Wm : World) (vm' : Value), Wm.heap[Nm]? = some (.cells #[vm'] 68 (0, 0)) → OwnT W7.heap.size Wm vm' (mineN S1 id (kk + 1)) → Wm.heap[Nm + 1]? = some (.cells #[.string (bs lastn)] 9 (0, 0)) → Wm.heap[Nm + 2]? = some (.cells #[.int .i64 (kk : Int)] 3 (0, 0)) → Fr (fun k => k = l2 ∨ X1 k) V Wm → Wm.heap[l2]? = some (.loop rb) → (∀ k, vm'.ownBlock = some k → k < V.heap.size → X1 k) →
            ∃ X2, GrowX X1 X2 V ((Wm.setCell ⟨Nm + 1, 0, none⟩ (.string (bs nx))).setCell ⟨Nm + 1 + 1, 0, none⟩ (.int .i64 ((kk : Int) + 1))) ∧ Fr (fun k => k = l2 ∨ X1 k) V ((Wm.setCell ⟨Nm + 1, 0, none⟩ (.string (bs nx))).setCell ⟨Nm + 1 + 1, 0, none⟩ (.int .i64 ((kk : Int) + 1))) ∧ ((Wm.setCell ⟨Nm + 1, 0, none⟩ (.string (bs nx))).setCell ⟨Nm + 1 + 1, 0, none⟩ (.int .i64 ((kk : Int) + 1))).heap[l2]? = some (.loop rb) ∧ OrdJ Nm W7.heap.size id S1 (pre ++ [e.B]) X2 ((Wm.setCell ⟨Nm + 1, 0, none⟩ (.string (bs nx))).setCell ⟨Nm + 1 + 1, 0, none⟩ (.int .i64 ((kk : Int) + 1))) := by
          intro Wm vm' a0 ao a1 a2 af al at_
          have g1 : Fr (fun k => k = Nm + 1 ∨ k = Nm + 2) Wm ((Wm.setCell ⟨Nm + 1, 0, none⟩ (.string (bs nx))).setCell ⟨Nm + 1 + 1, 0, none⟩ (.int .i64 ((kk : Int) + 1))) := ((Fr.refl (fun k => k = Nm + 1 ∨ k = Nm + 2) Wm).setCell ⟨Nm + 1, 0, none⟩ (.inl rfl) _).setCell ⟨Nm + 1 + 1, 0, none⟩ (.inr rfl) _
          have zs := g1.size
          have za := af.size
          have hlx1 : ¬ (l2 = Nm + 1 ∨ l2 = Nm + 2) := fun e2 => by
            rcases e2 with e2 | e2
            · exact hxl ((hX1 l2).2 (.inr (.inl e2)))
            · exact hxl ((hX1 l2).2 (.inr (.inr (.inl e2))))
          refine ⟨fun k => k = Nm ∨ k = Nm + 1 ∨ k = Nm + 2 ∨ vm'.ownBlock = some k, fun k hk => ⟨?_, fun hlt => ?_⟩, af.trans3 g1 fun k _ e2 => ?_, g1.blk al hlx1, vm', g1.blk a0 (by omega), ?_, ?_, ?_, hSl2, fun k => Iff.rfl⟩
          · refine Nat.lt_of_lt_of_le ?_ zs
            rcases hk with rfl | rfl | rfl | hk
            · exact blk_lt a0
            · exact blk_lt a1
            · exact blk_lt a2
            · exact (ao.lt k hk).2
          · rcases hk with rfl | rfl | rfl | hk
            · exact (hX1 _).2 (.inl rfl)
            · exact (hX1 _).2 (.inr (.inl rfl))
            · exact (hX1 _).2 (.inr (.inr (.inl rfl)))
            · exact at_ k hk hlt
          · rcases e2 with e2 | e2
            · exact .inr ((hX1 _).2 (.inr (.inl e2)))
            · exact .inr ((hX1 _).2 (.inr (.inr (.inl e2))))
          · rw [List.length_append, List.length_singleton, hkk]
            exact ownT_kept ao fun g hg => g1.block g (ao.lt g hg).2 (by have := (ao.lt g hg).1; omega)
          · rw [List.length_append, List.length_singleton, hkk, lastN_succ hpl, he, hnx]
            exact blk_other (blk_set a1 0 _) _ (by show Nm + 1 ≠ Nm + 1 + 1; omega) _
          · rw [List.length_append, List.length_singleton, hkk]
            exact blk_set (blk_other a2 _ (by show Nm + 1 + 1 ≠ Nm + 1; omega) _) 0 _
        have HFin := Lib.hid fin
        have hcmp : 0 < kk → foldL lastn < foldL nx := fun h0 => by
          rw [← hlastn, ← hnx, ← he]
          obtain ⟨k2, rfl⟩ : ∃ k2, kk = k2 + 1 := ⟨kk - 1, by omega⟩
          rw [lastN_succ (by omega)]
          exact (List.pairwise_iff_getElem.1 hS1) k2 (k2 + 1) (by omega) hpl (by omega)
        have hlastl : lastn.length ≤ 1000 := by
          rw [← hlastn]
          cases kk with
          | zero => simp [lastN]
          | succ k2 =>
            rw [lastN_succ (by omega)]
            exact hlg.nms _ (hSQ _ (List.getElem_mem _))
        have he2 : S1[kk]? = some e := by rw [List.getElem?_eq_getElem hpl, he]
        have HE0 := Lib.hid (And.intro v0 (And.intro ov (And.intro v1 (And.intro v2 (And.intro hfb (And.intro hrb (And.intro hX1 (And.intro hxl (And.intro hownm (And.intro (show pre.length = kk from hkk) (And.intro hzV (And.intro (show kk < S1.length from hpl) (And.intro he2 (And.intro hnx (And.intro hcmp (And.intro hlastl (And.intro hnl hSl2)))))))))))))))))
        have hW7z : W7.heap.size ≤ Vb.heap.size := by have := hF.size; omega
        have HBl : Hid (e.B < Nm) := Lib.hid (Nat.lt_of_lt_of_le (Nat.lt_of_not_le fun e2 => by have h9 := hC e.B e2; rw [hb.cE e heQ e.B (.inl rfl)] at h9; cases h9) hwN)
        have hkk40 : kk ≤ 40 := by omega
        have hz7N : Nm + 2 < W7.heap.size := by omega
        clear hpx j0 oj j1 j2 hSl2 hX1 hG2 hxl hF hlV hl2 k70 k71 k72 z7 h7 hC kI7 kB7 hNI hsq17 hsq27 hYa hYb2 hwN bw7 hSQ heg1 heg2 hfil hS1 hSl hlg hkk he2 he heS heQ hll v0 v1 v2 ov vI hb hroom hml hnl hnx hmle hlastn hml0 hzV hownm fin hcmp hlastl hfb hzb hsb hrb hpl
        by_cases hkz : kk = 0
        · subst hkz
          have pz : ((0 : Nat) : Int) = 0 := rfl
          rw [pz] at HFx
          have z50 : ¬ ((50 : Int) < 0) := by omega
          gi_wp2_with fail
          refine wpIn_class_all (C := fun W => Fr (fun _ => False) Vb W) (by kernel_rfl) (by kernel_rfl) (by kernel_rfl) ((Fr.refl (fun _ => False) Vb).drew) ?_
          refine quiet_step_w (fun _ => trivial) (fun K hK => ?_)
          go_simp
          refine ⟨.int .i64 0, fun W hW => ?_, hK _ ?_⟩
          · obtain ⟨q1, q2, q3, q4⟩ := HFx.out W hW; go_simp
          clear hK K
          refine quiet_step_w (fun _ => trivial) (fun K hK => ?_)
          go_simp
          first | refine ⟨_, fun _ _ => rfl, hK _ ?_⟩ | refine hK _ ?_
          clear hK K
          refine quiet_step_w (fun _ => trivial) (fun K hK => ?_)
          go_simp
          first | refine ⟨_, fun _ _ => rfl, hK _ ?_⟩ | refine hK _ ?_
          clear hK K
          refine quiet_step_w (fun _ => trivial) (fun K hK => ?_)
          go_simp
          first | refine ⟨_, fun _ _ => rfl, hK _ ?_⟩ | refine hK _ ?_
          clear hK K
          refine quiet_step_w (fun _ => trivial) (fun K hK => ?_)
          go_simp
          refine ⟨.int .i64 ml, fun W hW => ?_, hK _ ?_⟩
          · refine (calls_wide (.inr ⟨l2, rfl⟩) (HLenx.out W hW)).mono ?_
            rintro e W2 ⟨rfl, rfl⟩; exact ⟨rfl, hW⟩
          clear hK K
          refine quiet_step_w (fun _ => trivial) (fun K hK => ?_)
          go_simp
          first | refine ⟨_, fun _ _ => rfl, hK _ ?_⟩ | refine hK _ ?_
          clear hK K
          refine quiet_step_w (fun _ => trivial) (fun K hK => ?_)
          go_simp
          first | refine ⟨_, fun _ _ => rfl, hK _ ?_⟩ | refine hK _ ?_
          clear hK K
          refine quiet_step_w (fun _ => trivial) (fun K hK => ?_)
          go_simp
          first | refine ⟨_, fun _ _ => rfl, hK _ ?_⟩ | refine hK _ ?_
          clear hK K
          refine quiet_step_w (fun _ => trivial) (fun K hK => ?_)
          go_simp
          refine ⟨.int .i64 0, fun W hW => ?_, hK _ ?_⟩
          · obtain ⟨q1, q2, q3, q4⟩ := HFx.out W hW; go_simp
          clear hK K
          refine quiet_step_w (fun _ => trivial) (fun K hK => ?_)
          go_simp
          first | refine ⟨_, fun _ _ => rfl, hK _ ?_⟩ | refine hK _ ?_
          clear hK K
          refine quiet_step_w (fun _ => trivial) (fun K hK => ?_)
          go_simp
          first | refine ⟨_, fun _ _ => rfl, hK _ ?_⟩ | refine hK _ ?_
          clear hK K
          refine quiet_step_w (fun _ => trivial) (fun K hK => ?_)
          go_simp
          refine hK _ ?_
          clear hK K
          refine quiet_step_w (fun _ => trivial) (fun K hK => ?_)
          go_simp
          refine hK _ ?_
          clear hK K
          refine quiet_step_w (fun _ => trivial) (fun K hK => ?_)
          go_simp
          refine hK _ ?_
          clear hK K
          refine quiet_step_w (fun _ => trivial) (fun K hK => ?_)
          go_simp
          refine hK _ ?_
          clear hK K
          refine quiet_step_w (fun _ => trivial) (fun K hK => ?_)
          go_simp
          refine hK _ ?_
          clear hK K
          refine quiet_step_w (fun _ => trivial) (fun K hK => ?_)
          go_simp
          first | refine ⟨_, fun _ _ => rfl, hK _ ?_⟩ | refine hK _ ?_
          clear hK K
          refine quiet_step_w (fun _ => trivial) (fun K hK => ?_)
          go_simp
          first | refine ⟨_, fun _ _ => rfl, hK _ ?_⟩ | refine hK _ ?_
          clear hK K
          refine wpQuietIn_nil ?_
          intro V1 hV1
          have HV1 := Lib.hid hV1
          have cI := (HFx.out V1 hV1).2.2.1
          have HM := Lib.hid (HMb.out V1 hV1)
          clear hV1
          obtain ⟨m0, hm0⟩ : ∃ m0 : Mem, (if hasM e.r.mem id then e.r.mem.getD (ixM e.r.mem id) default else (0, false, false)) = m0 := ⟨_, rfl⟩
          rw [hm0] at HM
          obtain ⟨hb0, hhb⟩ : ∃ hb0, hasM e.r.mem id = hb0 := ⟨_, rfl⟩
          rw [hhb] at HM
          have HHB := Lib.hid hhb
          clear hm0 hhb
          unfold memV at HM
          gi_wp2_with fail
          refine ⟨trivial, (calls_wide (.inr ⟨l2, rfl⟩) HM.out).mono ?_⟩
          rintro e4 V2 ⟨rfl, bb2⟩
          have f2 : Fr (fun _ => False) Vb V2 := HV1.out.trans (Fr.of_below bb2)
          obtain ⟨W5, hW5⟩ : ∃ W5, V2.alloc (.cells #[.int .i64 m0.1, .bool m0.2.1, .bool m0.2.2] 71) = W5 := ⟨_, rfl⟩
          have f5 : Fr (fun _ => False) Vb W5 := by rw [← hW5]; exact f2.alloc _
          have HW5 := Lib.hid (And.intro hW5 f5)
          clear bb2 f2 hW5 f5 HM cI
          cases hb0 with
          | false =>
            have HN5 := Lib.hid (HNmx.out W5 HW5.out.2)
            gi_wp2_with fail
            rw [HW5.out.1]
            refine ⟨trivial, (calls_wide (.inr ⟨l2, rfl⟩) HN5.out).mono ?_⟩
            rintro e5 V5 ⟨rfl, rfl⟩
            obtain ⟨v0, ov, v1, v2, hfb, hrb, hX1, hxl, hownm, hkk, hzV, hpl, he, hnx, hcmp, hlastl, hnl, hSl2⟩ := HE0.out
            have u0 := HW5.out.2.blk v0 fun e => e
            have u1 := HW5.out.2.blk v1 fun e => e
            have u2 := HW5.out.2.blk v2 fun e => e
            have uo : OwnT W7.heap.size V5 vm (mineN S1 id 0) := ownT_kept ov fun g hg => HW5.out.2.block g (ov.lt g hg).2 fun e => e
            have hsu : mineN S1 id (0 + 1) = mineN S1 id 0 := by
              have e9 : S1[0] = e := by rw [List.getElem?_eq_getElem hpl] at he; cases he; rfl
              rw [mineN_succ hpl, e9, if_neg (by rw [HHB.out]; simp)]
            rw [← hsu] at uo
            have hfin := HFin.out V5 vm u0 uo u1 u2 ((hfb.mono (Y := fun k => k = l2 ∨ X1 k) fun k _ e => .inl e).trans3 HW5.out.2 fun _ _ e => e.elim) (HW5.out.2.blk hrb fun e => e) (fun k hk hlt => (hX1 k).2 (.inr (.inr (.inr hk))))
            have c1 := blk_cell u1 0
            have d1 := blk_free u1 0
            have c2 := blk_cell u2 0
            have d2 := blk_free u2 0
            have HFi := Lib.hid hfin
            clear u0 u1 u2 uo hsu hfin v0 ov v1 v2 hfb hrb hX1 hxl hownm hkk hzV hpl he hnx hcmp hlastl hnl hSl2 HN5
            gi_wp2_with fail
            exact HFi.out
          | true =>
            gi_wp2_with fail
            rw [HW5.out.1]
            obtain ⟨v0, ov, v1, v2, hfb, hrb, hX1, hxl, hownm, hkk, hzV, hpl, he, hnx, hcmp, hlastl, hnl, hSl2⟩ := HE0.out
            obtain ⟨mm, hmm⟩ : ∃ mm, mineN S1 id 0 = mm := ⟨_, rfl⟩
            have hmml : mm.length ≤ 40 := by rw [← hmm]; have := mineN_len S1 id 0; omega
            rw [hmm] at ov
            have f5 := HW5.out.2
            have uo : OwnT W7.heap.size W5 vm mm := ownT_kept ov fun g hg => f5.block g (ov.lt g hg).2 fun e => e
            have hor : W5.ownsRow W7.heap.size 9 1 vm mm.length (mm.map encT) := uo
            have hnn : ∀ k, vm.ownBlock = some k → k ≠ Nm ∧ k ≠ Nm + 1 ∧ k ≠ Nm + 2 := fun k hk => by have := hownm k hk; omega
            have HNN := Lib.hid hnn
            have u0 := f5.blk v0 fun e => e
            have HE := Lib.hid (And.intro u0 trivial)
            have HBM := Lib.hid (fun W (hW : Fr (fun k => vm.ownBlock = some k) W5 W) => blk_cell (hW.blk u0 fun e2 => (hnn _ e2).1 rfl) 0)
            have HRm := Lib.hid (fun W (hW : Fr (fun k => vm.ownBlock = some k) W5 W) => hW.blk (HRx.out W5 f5).1 (fun e2 => by have := hownm _ e2; have := HBl.out; omega))
            have HNmR : Hid (∀ W, Fr (fun k => vm.ownBlock = some k) W5 W → Calls Tryz.prog 16 #[.pointer (some ⟨e.B, 0, none⟩)] W fun e2 w' => e2 = .returned (.string (bs nx)) ∧ w' = W) := Lib.hid fun W hW => by rw [← hnx]; exact name_any (HRm.out W hW)
            have HO := Lib.hid (run_one_t (W := W5.drew) W7.heap.size 68 68 9 i0 _ 1 16 Tryz.underlying68 iz iz0 iz1 iz2 rfl (by decide) vm mm.length _ (row_same hor fun g _ => rfl) #[encT nx] rfl (by intro u hu; simp at hu; subst hu; rfl) (by omega) (by decide) (Nat.le_trans hW7z f5.size))
            have HMM := Lib.hid (And.intro hmm hmml)
            clear v0 ov v1 v2 hfb hrb hX1 hxl hownm hkk hzV hpl he hnx hcmp hlastl hnl hSl2 hmm hmml uo hor hnn u0 f5
            unfold encT at HO
            refine wpIn_noPanic ?_
            refine wpIn_region_i (S := fun W => Fr (fun k => vm.ownBlock = some k) W5 W) 5 (by kernel_rfl) (by exact (Fr.refl _ W5).drew) (fun hHeld => ?_)
            refine wpAnyI_read (i := 1) (oi := { dst := some 98, op := Go.Op.move (Go.Operand.tmp 12), type := 37, pos := "law.go:222", after := #[], guard := none }) ?_ (fun _ => trivial) (by kernel_rfl) rfl (by kernel_rfl) (by kernel_rfl) (by kernel_rfl) (by kernel_rfl) (fun _ _ _ h => h) (by rfl) (by assumption) ?_ ?_
            rotate_left
            · (intro w0 hS0; go_simp <;> (try with_reducible rfl))
            try simp only [Act.put, List.setIfInBounds_toArray, List.set_cons_zero, List.set_cons_succ]
            refine wpAnyI_read (i := 0) (oi := { dst := some 97, op := Go.Op.load 68 (Go.Operand.tmp 9), type := 68, pos := "law.go:222", after := #[], guard := none }) ?_ (fun _ => trivial) (by kernel_rfl) rfl (by kernel_rfl) (by kernel_rfl) (by kernel_rfl) (by kernel_rfl) (fun _ _ _ h => h) (by rfl) (by assumption) ?_ ?_
            rotate_left
            · (intro w0 hS0; have s0 := HBM.out w0 hS0; go_simp <;> (try with_reducible rfl))
            try simp only [Act.put, List.setIfInBounds_toArray, List.set_cons_zero, List.set_cons_succ]
            refine wpAnyI_one (i := 2) (o := { dst := some 99, op := Go.Op.call { callee := Go.Callee.value (Go.Operand.func 16), args := #[Go.Operand.tmp 98], argTypes := #[37] }, type := 9, pos := "law.go:222", after := #[{ on := 1, ground := Go.Ground.data }], guard := none }) (by kernel_rfl) rfl (by rfl) (fun K hK => ?_)
            go_simp
            refine ⟨trivial, (calls_wide (.inr ⟨l2, rfl⟩) (HNmR.out _ (Fr.refl _ W5).drew)).mono ?_⟩
            rintro e Wn ⟨rfl, rfl⟩
            gi_wp2_with fail
            refine hK.out _ _ ?_ (fun hHeld => ?_)
            · exact (Fr.refl _ W5).drew
            clear hK K
            try simp only [Act.put, List.setIfInBounds_toArray, List.set_cons_zero, List.set_cons_succ]
            refine wpAnyI_one (i := 3) (o := { dst := some 100, op := Go.Op.buildSlice 68 1 #[(0, Go.Operand.tmp 99)], type := 68, pos := "law.go:222", after := #[{ on := 2, ground := Go.Ground.data }], guard := none }) (by kernel_rfl) rfl (by rfl) (fun K hK => ?_)
            go_simp
            refine hK.out _ _ ?_ (fun hHeld => ?_)
            · exact (show Fr (fun k => vm.ownBlock = some k) W5 _ from (Fr.refl _ W5).drew).alloc _
            clear hK K
            try simp only [Act.put, List.setIfInBounds_toArray, List.set_cons_zero, List.set_cons_succ]
            refine wpAnyI_one (i := 4) (o := { dst := some 101, op := Go.Op.call { callee := Go.Callee.builtin Go.Builtin.append, args := #[Go.Operand.tmp 97, Go.Operand.tmp 100], argTypes := #[68, 68] }, type := 68, pos := "law.go:222", after := #[{ on := 0, ground := Go.Ground.data }, { on := 3, ground := Go.Ground.data }, { on := 2, ground := Go.Ground.chain }], guard := none }) (by kernel_rfl) rfl (by rfl) (fun K hK => ?_)
            obtain ⟨v1, W6, hr6, hown1, hfr1, htie⟩ := HO.out
            have hfrA : Fr (fun k => vm.ownBlock = some k) W5 W6 := ((Fr.refl _ W5).drew).trans3 hfr1 fun _ _ e => e
            refine wpIn_app_run _ _ _ _ rfl (v := v1) (W' := W6) (by exact hr6) ?_
            refine hK.out _ _ ?_ (fun hHeld => ?_)
            · exact hfrA
            clear hK K
            try simp only [Act.put, List.setIfInBounds_toArray, List.set_cons_zero, List.set_cons_succ]
            obtain ⟨A1, c1', rfl⟩ := row_slice hown1
            have e1 : W6.heap[Nm]? = some (.cells #[vm] 68 (0, 0)) := hfrA.blk HE.out.1 fun e => HNN.out _ e |>.1 rfl
            have g1 := blk_cell e1 0
            have g2 := blk_free e1 0
            refine wpAnyI_last (o := { dst := none, op := Go.Op.store 68 (Go.Operand.tmp 9) (Go.Operand.tmp 101), type := 0, pos := "law.go:222", after := #[{ on := 4, ground := Go.Ground.data }, { on := 4, ground := Go.Ground.chain }, { on := 0, ground := Go.Ground.phase }, { on := 1, ground := Go.Ground.phase }, { on := 2, ground := Go.Ground.phase }, { on := 3, ground := Go.Ground.phase }, { on := 4, ground := Go.Ground.phase }], guard := none }) (by kernel_rfl) rfl (by rfl) (fun K hK => ?_)
            go_simp
            refine hK.out _ _ ?_
            clear hK K
            try simp only [Act.put, List.setIfInBounds_toArray, List.set_cons_zero, List.set_cons_succ]
            refine wpAnyI_done (by kernel_rfl) ?_ _
            dsimp only [NoPanic]
            obtain ⟨v0, ov, v1, v2, hfb, hrb, hX1, hxl, hownm, hkk, hzV, hpl, he, hnx, hcmp, hlastl, hnl, hSl2⟩ := HE0.out
            have hnn := HNN.out
            have f5 := HW5.out.2
            have a1 := hfrA.blk (f5.blk v1 fun e => e) fun e2 => (hnn _ e2).2.1 rfl
            have a2 := hfrA.blk (f5.blk v2 fun e => e) fun e2 => (hnn _ e2).2.2 rfl
            have t0 : (W6.setCell ⟨Nm, 0, none⟩ (.slice A1 (mm.length + 1) c1')).heap[Nm]? = some (.cells #[.slice A1 (mm.length + 1) c1'] 68 (0, 0)) := blk_set e1 0 _
            have t1 := blk_other a1 ⟨Nm, 0, none⟩ (by show Nm + 1 ≠ Nm; omega) (.slice A1 (mm.length + 1) c1')
            have t2 := blk_other a2 ⟨Nm, 0, none⟩ (by show Nm + 2 ≠ Nm; omega) (.slice A1 (mm.length + 1) c1')
            have hBe : e.B ≠ Nm := by have := HBl.out; omega
            have tB := blk_other (HRm.out W6 hfrA) ⟨Nm, 0, none⟩ hBe (.slice A1 (mm.length + 1) c1')
            have HN7 := name_any tB
            rw [hnx] at HN7
            have hown2 : OwnT W7.heap.size W6 (.slice A1 (mm.length + 1) c1') (mm ++ [nx]) := ownT_snoc hown1
            have hsu : mineN S1 id (0 + 1) = mm ++ [nx] := by
              have e9 : S1[0] = e := by rw [List.getElem?_eq_getElem hpl] at he; cases he; rfl
              rw [mineN_succ hpl, e9, if_pos HHB.out, HMM.out.1, hnx]
            have hnx2 : (Value.slice A1 (mm.length + 1) c1').ownBlock ≠ some Nm := fun e2 => by have := (hown2.lt _ e2).1; omega
            have hown3 : OwnT W7.heap.size (W6.setCell ⟨Nm, 0, none⟩ (.slice A1 (mm.length + 1) c1')) (.slice A1 (mm.length + 1) c1') (mineN S1 id (0 + 1)) := by
              rw [hsu]; exact ownT_kept hown2 fun g hg => heap_setCell_other W6 _ g _ fun e2 => by simp at e2; exact hnx2 (e2 ▸ hg)
            have hlN : l2 ≠ Nm := fun e2 => hxl ((hX1 l2).2 (.inl e2))
            have hfin := HFin.out (W6.setCell ⟨Nm, 0, none⟩ (.slice A1 (mm.length + 1) c1')) _ t0 hown3 t1 t2
              ((((hfb.mono (Y := fun k => k = l2 ∨ X1 k) fun k _ e => .inl e).trans3 f5 fun _ _ e => e.elim).trans3 hfrA fun k _ e2 => .inr ((hX1 k).2 (.inr (.inr (.inr e2))))).setCell _ (.inr ((hX1 _).2 (.inl rfl))) _)
              (blk_other (hfrA.blk (f5.blk hrb fun e => e) fun e2 => hxl ((hX1 l2).2 (.inr (.inr (.inr e2))))) _ hlN _)
              (fun k hk hlt => by
                rcases htie k hk with e2 | e2
                · exact (hX1 k).2 (.inr (.inr (.inr e2)))
                · have e3 : W5.heap.size ≤ k := e2
                  have := f5.size
                  omega)
            have c1 := blk_cell t1 0
            have d1 := blk_free t1 0
            have c2 := blk_cell t2 0
            have d2 := blk_free t2 0
            have HFi := Lib.hid hfin
            have HN8 := Lib.hid HN7
            clear hnn f5 a1 a2 t0 t1 t2 hBe tB HN7 hown2 hsu hnx2 hown3 hlN hfin v0 ov v1 v2 hfb hrb hX1 hxl hownm hkk hzV hpl he hnx hcmp hlastl hnl hSl2 HO hown1 hfr1 htie e1 g1 g2 hfrA hr6
            gi_wp2_with fail
            refine ⟨trivial, (calls_wide (.inr ⟨l2, rfl⟩) HN8.out).mono ?_⟩
            rintro e5 V5 ⟨rfl, rfl⟩
            gi_wp2_with fail
            exact HFi.out
        · have hkp : 0 < kk := by omega
          have hkp1 : (0 : Int) < (kk : Int) := by omega
          have hkp2 : decide ((0 : Int) < (kk : Int)) = true := by simp; omega
          have HCmx : Hid (∀ W, Calls Tryz.prog 34 #[.string (bs lastn), .string (bs nx)] W fun e2 w' => e2 = .returned (.int .i64 (-1)) ∧ RowKit.Below W.heap.size W w') := Lib.hid fun W => by
            have h9 := HE0.out
            have := refcompare (bs lastn) (bs nx) W (by have := h9.2.2.2.2.2.2.2.2.2.2.2.2.2.2.2.1; simp; omega) (by have := h9.2.2.2.2.2.2.2.2.2.2.2.2.2.2.2.2.1; rw [h9.2.2.2.2.2.2.2.2.2.2.2.2.2.1] at this; simp; omega)
            rw [bs_toList, bs_toList, cmp_less (h9.2.2.2.2.2.2.2.2.2.2.2.2.2.2.1 hkp)] at this
            exact this
          gi_wp2_with fail
          refine wpIn_class_all (C := fun W => Fr (fun _ => False) Vb W) (by kernel_rfl) (by kernel_rfl) (by kernel_rfl) ((Fr.refl (fun _ => False) Vb).drew) ?_
          refine quiet_step_w (fun _ => trivial) (fun K hK => ?_)
          go_simp
          refine ⟨.int .i64 kk, fun W hW => ?_, hK _ ?_⟩
          · obtain ⟨q1, q2, q3, q4⟩ := HFx.out W hW; go_simp
          clear hK K
          refine quiet_step_w (fun _ => trivial) (fun K hK => ?_)
          go_simp
          first | refine ⟨_, fun _ _ => rfl, hK _ ?_⟩ | refine hK _ ?_
          clear hK K
          refine quiet_step_w (fun _ => trivial) (fun K hK => ?_)
          go_simp
          first | refine ⟨_, fun _ _ => rfl, hK _ ?_⟩ | refine hK _ ?_
          clear hK K
          refine quiet_step_w (fun _ => trivial) (fun K hK => ?_)
          go_simp
          first | refine ⟨_, fun _ _ => rfl, hK _ ?_⟩ | refine hK _ ?_
          clear hK K
          refine quiet_step_w (fun _ => trivial) (fun K hK => ?_)
          go_simp
          refine ⟨.int .i64 ml, fun W hW => ?_, hK _ ?_⟩
          · refine (calls_wide (.inr ⟨l2, rfl⟩) (HLenx.out W hW)).mono ?_
            rintro e W2 ⟨rfl, rfl⟩; exact ⟨rfl, hW⟩
          clear hK K
          refine quiet_step_w (fun _ => trivial) (fun K hK => ?_)
          go_simp
          first | refine ⟨_, fun _ _ => rfl, hK _ ?_⟩ | refine hK _ ?_
          clear hK K
          refine quiet_step_w (fun _ => trivial) (fun K hK => ?_)
          go_simp
          first | refine ⟨_, fun _ _ => rfl, hK _ ?_⟩ | refine hK _ ?_
          clear hK K
          refine quiet_step_w (fun _ => trivial) (fun K hK => ?_)
          go_simp
          first | refine ⟨_, fun _ _ => rfl, hK _ ?_⟩ | refine hK _ ?_
          clear hK K
          refine quiet_step_w (fun _ => trivial) (fun K hK => ?_)
          go_simp
          refine ⟨.int .i64 kk, fun W hW => ?_, hK _ ?_⟩
          · obtain ⟨q1, q2, q3, q4⟩ := HFx.out W hW; go_simp
          clear hK K
          refine quiet_step_w (fun _ => trivial) (fun K hK => ?_)
          go_simp
          first | refine ⟨_, fun _ _ => rfl, hK _ ?_⟩ | refine hK _ ?_
          clear hK K
          refine quiet_step_w (fun _ => trivial) (fun K hK => ?_)
          go_simp
          first | refine ⟨_, fun _ _ => rfl, hK _ ?_⟩ | refine hK _ ?_
          clear hK K
          refine quiet_step_w (fun _ => trivial) (fun K hK => ?_)
          go_simp
          refine ⟨.string (bs lastn), fun W hW => ?_, hK _ ?_⟩
          · obtain ⟨q1, q2, q3, q4⟩ := HFx.out W hW; go_simp
          clear hK K
          refine quiet_step_w (fun _ => trivial) (fun K hK => ?_)
          go_simp
          first | refine ⟨_, fun _ _ => rfl, hK _ ?_⟩ | refine hK _ ?_
          clear hK K
          refine quiet_step_w (fun _ => trivial) (fun K hK => ?_)
          go_simp
          refine ⟨.string (bs nx), fun W hW => ?_, hK _ ?_⟩
          · refine (calls_wide (.inr ⟨l2, rfl⟩) (HNmx.out W hW)).mono ?_
            rintro e W2 ⟨rfl, rfl⟩; exact ⟨rfl, hW⟩
          clear hK K
          refine quiet_step_w (fun _ => trivial) (fun K hK => ?_)
          go_simp
          refine ⟨.int .i64 (-1), fun W hW => ?_, hK _ ?_⟩
          · refine (calls_wide (.inr ⟨l2, rfl⟩) (HCmx.out W)).mono ?_
            rintro e W2 ⟨rfl, bb⟩; exact ⟨rfl, hW.trans (Fr.of_below bb)⟩
          clear hK K
          refine quiet_step_w (fun _ => trivial) (fun K hK => ?_)
          go_simp
          first | refine ⟨_, fun _ _ => rfl, hK _ ?_⟩ | refine hK _ ?_
          clear hK K
          refine quiet_step_w (fun _ => trivial) (fun K hK => ?_)
          go_simp
          first | refine ⟨_, fun _ _ => rfl, hK _ ?_⟩ | refine hK _ ?_
          clear hK K
          refine quiet_step_w (fun _ => trivial) (fun K hK => ?_)
          go_simp
          first | refine ⟨_, fun _ _ => rfl, hK _ ?_⟩ | refine hK _ ?_
          clear hK K
          refine wpQuietIn_nil ?_
          intro V1 hV1
          have HV1 := Lib.hid hV1
          have cI := (HFx.out V1 hV1).2.2.1
          have HM := Lib.hid (HMb.out V1 hV1)
          clear hV1
          obtain ⟨m0, hm0⟩ : ∃ m0 : Mem, (if hasM e.r.mem id then e.r.mem.getD (ixM e.r.mem id) default else (0, false, false)) = m0 := ⟨_, rfl⟩
          rw [hm0] at HM
          obtain ⟨hb0, hhb⟩ : ∃ hb0, hasM e.r.mem id = hb0 := ⟨_, rfl⟩
          rw [hhb] at HM
          have HHB := Lib.hid hhb
          clear hm0 hhb
          unfold memV at HM
          gi_wp2_with fail
          refine ⟨trivial, (calls_wide (.inr ⟨l2, rfl⟩) HM.out).mono ?_⟩
          rintro e4 V2 ⟨rfl, bb2⟩
          have f2 : Fr (fun _ => False) Vb V2 := HV1.out.trans (Fr.of_below bb2)
          obtain ⟨W5, hW5⟩ : ∃ W5, V2.alloc (.cells #[.int .i64 m0.1, .bool m0.2.1, .bool m0.2.2] 71) = W5 := ⟨_, rfl⟩
          have f5 : Fr (fun _ => False) Vb W5 := by rw [← hW5]; exact f2.alloc _
          have HW5 := Lib.hid (And.intro hW5 f5)
          clear bb2 f2 hW5 f5 HM cI
          cases hb0 with
          | false =>
            have HN5 := Lib.hid (HNmx.out W5 HW5.out.2)
            gi_wp2_with fail
            rw [HW5.out.1]
            refine ⟨trivial, (calls_wide (.inr ⟨l2, rfl⟩) HN5.out).mono ?_⟩
            rintro e5 V5 ⟨rfl, rfl⟩
            obtain ⟨v0, ov, v1, v2, hfb, hrb, hX1, hxl, hownm, hkk, hzV, hpl, he, hnx, hcmp, hlastl, hnl, hSl2⟩ := HE0.out
            have u0 := HW5.out.2.blk v0 fun e => e
            have u1 := HW5.out.2.blk v1 fun e => e
            have u2 := HW5.out.2.blk v2 fun e => e
            have uo : OwnT W7.heap.size V5 vm (mineN S1 id kk) := ownT_kept ov fun g hg => HW5.out.2.block g (ov.lt g hg).2 fun e => e
            have hsu : mineN S1 id (kk + 1) = mineN S1 id kk := by
              have e9 : S1[kk] = e := by rw [List.getElem?_eq_getElem hpl] at he; cases he; rfl
              rw [mineN_succ hpl, e9, if_neg (by rw [HHB.out]; simp)]
            rw [← hsu] at uo
            have hfin := HFin.out V5 vm u0 uo u1 u2 ((hfb.mono (Y := fun k => k = l2 ∨ X1 k) fun k _ e => .inl e).trans3 HW5.out.2 fun _ _ e => e.elim) (HW5.out.2.blk hrb fun e => e) (fun k hk hlt => (hX1 k).2 (.inr (.inr (.inr hk))))
            have c1 := blk_cell u1 0
            have d1 := blk_free u1 0
            have c2 := blk_cell u2 0
            have d2 := blk_free u2 0
            have HFi := Lib.hid hfin
            clear u0 u1 u2 uo hsu hfin v0 ov v1 v2 hfb hrb hX1 hxl hownm hkk hzV hpl he hnx hcmp hlastl hnl hSl2 HN5
            gi_wp2_with fail
            exact HFi.out
          | true =>
            gi_wp2_with fail
            rw [HW5.out.1]
            obtain ⟨v0, ov, v1, v2, hfb, hrb, hX1, hxl, hownm, hkk, hzV, hpl, he, hnx, hcmp, hlastl, hnl, hSl2⟩ := HE0.out
            obtain ⟨mm, hmm⟩ : ∃ mm, mineN S1 id kk = mm := ⟨_, rfl⟩
            have hmml : mm.length ≤ 40 := by rw [← hmm]; have := mineN_len S1 id kk; omega
            rw [hmm] at ov
            have f5 := HW5.out.2
            have uo : OwnT W7.heap.size W5 vm mm := ownT_kept ov fun g hg => f5.block g (ov.lt g hg).2 fun e => e
            have hor : W5.ownsRow W7.heap.size 9 1 vm mm.length (mm.map encT) := uo
            have hnn : ∀ k, vm.ownBlock = some k → k ≠ Nm ∧ k ≠ Nm + 1 ∧ k ≠ Nm + 2 := fun k hk => by have := hownm k hk; omega
            have HNN := Lib.hid hnn
            have u0 := f5.blk v0 fun e => e
            have HE := Lib.hid (And.intro u0 trivial)
            have HBM := Lib.hid (fun W (hW : Fr (fun k => vm.ownBlock = some k) W5 W) => blk_cell (hW.blk u0 fun e2 => (hnn _ e2).1 rfl) 0)
            have HRm := Lib.hid (fun W (hW : Fr (fun k => vm.ownBlock = some k) W5 W) => hW.blk (HRx.out W5 f5).1 (fun e2 => by have := hownm _ e2; have := HBl.out; omega))
            have HNmR : Hid (∀ W, Fr (fun k => vm.ownBlock = some k) W5 W → Calls Tryz.prog 16 #[.pointer (some ⟨e.B, 0, none⟩)] W fun e2 w' => e2 = .returned (.string (bs nx)) ∧ w' = W) := Lib.hid fun W hW => by rw [← hnx]; exact name_any (HRm.out W hW)
            have HO := Lib.hid (run_one_t (W := W5.drew) W7.heap.size 68 68 9 i0 _ 1 16 Tryz.underlying68 iz iz0 iz1 iz2 rfl (by decide) vm mm.length _ (row_same hor fun g _ => rfl) #[encT nx] rfl (by intro u hu; simp at hu; subst hu; rfl) (by omega) (by decide) (Nat.le_trans hW7z f5.size))
            have HMM := Lib.hid (And.intro hmm hmml)
            clear v0 ov v1 v2 hfb hrb hX1 hxl hownm hkk hzV hpl he hnx hcmp hlastl hnl hSl2 hmm hmml uo hor hnn u0 f5
            unfold encT at HO
            refine wpIn_noPanic ?_
            refine wpIn_region_i (S := fun W => Fr (fun k => vm.ownBlock = some k) W5 W) 5 (by kernel_rfl) (by exact (Fr.refl _ W5).drew) (fun hHeld => ?_)
            refine wpAnyI_read (i := 1) (oi := { dst := some 98, op := Go.Op.move (Go.Operand.tmp 12), type := 37, pos := "law.go:222", after := #[], guard := none }) ?_ (fun _ => trivial) (by kernel_rfl) rfl (by kernel_rfl) (by kernel_rfl) (by kernel_rfl) (by kernel_rfl) (fun _ _ _ h => h) (by rfl) (by assumption) ?_ ?_
            rotate_left
            · (intro w0 hS0; go_simp <;> (try with_reducible rfl))
            try simp only [Act.put, List.setIfInBounds_toArray, List.set_cons_zero, List.set_cons_succ]
            refine wpAnyI_read (i := 0) (oi := { dst := some 97, op := Go.Op.load 68 (Go.Operand.tmp 9), type := 68, pos := "law.go:222", after := #[], guard := none }) ?_ (fun _ => trivial) (by kernel_rfl) rfl (by kernel_rfl) (by kernel_rfl) (by kernel_rfl) (by kernel_rfl) (fun _ _ _ h => h) (by rfl) (by assumption) ?_ ?_
            rotate_left
            · (intro w0 hS0; have s0 := HBM.out w0 hS0; go_simp <;> (try with_reducible rfl))
            try simp only [Act.put, List.setIfInBounds_toArray, List.set_cons_zero, List.set_cons_succ]
            refine wpAnyI_one (i := 2) (o := { dst := some 99, op := Go.Op.call { callee := Go.Callee.value (Go.Operand.func 16), args := #[Go.Operand.tmp 98], argTypes := #[37] }, type := 9, pos := "law.go:222", after := #[{ on := 1, ground := Go.Ground.data }], guard := none }) (by kernel_rfl) rfl (by rfl) (fun K hK => ?_)
            go_simp
            refine ⟨trivial, (calls_wide (.inr ⟨l2, rfl⟩) (HNmR.out _ (Fr.refl _ W5).drew)).mono ?_⟩
            rintro e Wn ⟨rfl, rfl⟩
            gi_wp2_with fail
            refine hK.out _ _ ?_ (fun hHeld => ?_)
            · exact (Fr.refl _ W5).drew
            clear hK K
            try simp only [Act.put, List.setIfInBounds_toArray, List.set_cons_zero, List.set_cons_succ]
            refine wpAnyI_one (i := 3) (o := { dst := some 100, op := Go.Op.buildSlice 68 1 #[(0, Go.Operand.tmp 99)], type := 68, pos := "law.go:222", after := #[{ on := 2, ground := Go.Ground.data }], guard := none }) (by kernel_rfl) rfl (by rfl) (fun K hK => ?_)
            go_simp
            refine hK.out _ _ ?_ (fun hHeld => ?_)
            · exact (show Fr (fun k => vm.ownBlock = some k) W5 _ from (Fr.refl _ W5).drew).alloc _
            clear hK K
            try simp only [Act.put, List.setIfInBounds_toArray, List.set_cons_zero, List.set_cons_succ]
            refine wpAnyI_one (i := 4) (o := { dst := some 101, op := Go.Op.call { callee := Go.Callee.builtin Go.Builtin.append, args := #[Go.Operand.tmp 97, Go.Operand.tmp 100], argTypes := #[68, 68] }, type := 68, pos := "law.go:222", after := #[{ on := 0, ground := Go.Ground.data }, { on := 3, ground := Go.Ground.data }, { on := 2, ground := Go.Ground.chain }], guard := none }) (by kernel_rfl) rfl (by rfl) (fun K hK => ?_)
            obtain ⟨v1, W6, hr6, hown1, hfr1, htie⟩ := HO.out
            have hfrA : Fr (fun k => vm.ownBlock = some k) W5 W6 := ((Fr.refl _ W5).drew).trans3 hfr1 fun _ _ e => e
            refine wpIn_app_run _ _ _ _ rfl (v := v1) (W' := W6) (by exact hr6) ?_
            refine hK.out _ _ ?_ (fun hHeld => ?_)
            · exact hfrA
            clear hK K
            try simp only [Act.put, List.setIfInBounds_toArray, List.set_cons_zero, List.set_cons_succ]
            obtain ⟨A1, c1', rfl⟩ := row_slice hown1
            have e1 : W6.heap[Nm]? = some (.cells #[vm] 68 (0, 0)) := hfrA.blk HE.out.1 fun e => HNN.out _ e |>.1 rfl
            have g1 := blk_cell e1 0
            have g2 := blk_free e1 0
            refine wpAnyI_last (o := { dst := none, op := Go.Op.store 68 (Go.Operand.tmp 9) (Go.Operand.tmp 101), type := 0, pos := "law.go:222", after := #[{ on := 4, ground := Go.Ground.data }, { on := 4, ground := Go.Ground.chain }, { on := 0, ground := Go.Ground.phase }, { on := 1, ground := Go.Ground.phase }, { on := 2, ground := Go.Ground.phase }, { on := 3, ground := Go.Ground.phase }, { on := 4, ground := Go.Ground.phase }], guard := none }) (by kernel_rfl) rfl (by rfl) (fun K hK => ?_)
            go_simp
            refine hK.out _ _ ?_
            clear hK K
            try simp only [Act.put, List.setIfInBounds_toArray, List.set_cons_zero, List.set_cons_succ]
            refine wpAnyI_done (by kernel_rfl) ?_ _
            dsimp only [NoPanic]
            obtain ⟨v0, ov, v1, v2, hfb, hrb, hX1, hxl, hownm, hkk, hzV, hpl, he, hnx, hcmp, hlastl, hnl, hSl2⟩ := HE0.out
            have hnn := HNN.out
            have f5 := HW5.out.2
            have a1 := hfrA.blk (f5.blk v1 fun e => e) fun e2 => (hnn _ e2).2.1 rfl
            have a2 := hfrA.blk (f5.blk v2 fun e => e) fun e2 => (hnn _ e2).2.2 rfl
            have t0 : (W6.setCell ⟨Nm, 0, none⟩ (.slice A1 (mm.length + 1) c1')).heap[Nm]? = some (.cells #[.slice A1 (mm.length + 1) c1'] 68 (0, 0)) := blk_set e1 0 _
            have t1 := blk_other a1 ⟨Nm, 0, none⟩ (by show Nm + 1 ≠ Nm; omega) (.slice A1 (mm.length + 1) c1')
            have t2 := blk_other a2 ⟨Nm, 0, none⟩ (by show Nm + 2 ≠ Nm; omega) (.slice A1 (mm.length + 1) c1')
            have hBe : e.B ≠ Nm := by have := HBl.out; omega
            have tB := blk_other (HRm.out W6 hfrA) ⟨Nm, 0, none⟩ hBe (.slice A1 (mm.length + 1) c1')
            have HN7 := name_any tB
            rw [hnx] at HN7
            have hown2 : OwnT W7.heap.size W6 (.slice A1 (mm.length + 1) c1') (mm ++ [nx]) := ownT_snoc hown1
            have hsu : mineN S1 id (kk + 1) = mm ++ [nx] := by
              have e9 : S1[kk] = e := by rw [List.getElem?_eq_getElem hpl] at he; cases he; rfl
              rw [mineN_succ hpl, e9, if_pos HHB.out, HMM.out.1, hnx]
            have hnx2 : (Value.slice A1 (mm.length + 1) c1').ownBlock ≠ some Nm := fun e2 => by have := (hown2.lt _ e2).1; omega
            have hown3 : OwnT W7.heap.size (W6.setCell ⟨Nm, 0, none⟩ (.slice A1 (mm.length + 1) c1')) (.slice A1 (mm.length + 1) c1') (mineN S1 id (kk + 1)) := by
              rw [hsu]; exact ownT_kept hown2 fun g hg => heap_setCell_other W6 _ g _ fun e2 => by simp at e2; exact hnx2 (e2 ▸ hg)
            have hlN : l2 ≠ Nm := fun e2 => hxl ((hX1 l2).2 (.inl e2))
            have hfin := HFin.out (W6.setCell ⟨Nm, 0, none⟩ (.slice A1 (mm.length + 1) c1')) _ t0 hown3 t1 t2
              ((((hfb.mono (Y := fun k => k = l2 ∨ X1 k) fun k _ e => .inl e).trans3 f5 fun _ _ e => e.elim).trans3 hfrA fun k _ e2 => .inr ((hX1 k).2 (.inr (.inr (.inr e2))))).setCell _ (.inr ((hX1 _).2 (.inl rfl))) _)
              (blk_other (hfrA.blk (f5.blk hrb fun e => e) fun e2 => hxl ((hX1 l2).2 (.inr (.inr (.inr e2))))) _ hlN _)
              (fun k hk hlt => by
                rcases htie k hk with e2 | e2
                · exact (hX1 k).2 (.inr (.inr (.inr e2)))
                · have e3 : W5.heap.size ≤ k := e2
                  have := f5.size
                  omega)
            have c1 := blk_cell t1 0
            have d1 := blk_free t1 0
            have c2 := blk_cell t2 0
            have d2 := blk_free t2 0
            have HFi := Lib.hid hfin
            have HN8 := Lib.hid HN7
            clear hnn f5 a1 a2 t0 t1 t2 hBe tB HN7 hown2 hsu hnx2 hown3 hlN hfin v0 ov v1 v2 hfb hrb hX1 hxl hownm hkk hzV hpl he hnx hcmp hlastl hnl hSl2 HO hown1 hfr1 htie e1 g1 g2 hfrA hr6
            gi_wp2_with fail
            refine ⟨trivial, (calls_wide (.inr ⟨l2, rfl⟩) HN8.out).mono ?_⟩
            rintro e5 V5 ⟨rfl, rfl⟩
            gi_wp2_with fail
            exact HFi.out
      case done =>
        rintro D1 X2 V hD1 hxD1 hG2 hF ⟨vm, j0, oj, j1, j2, hSl2, hX2⟩ hdef1
        have hmine : mineN S1 id (S1.map (·.B)).length = S2.map (·.r.nm) := by
          unfold mineN
          rw [List.length_map, List.take_length, hfil]
        rw [hmine] at oj
        obtain ⟨nmn, hnmn⟩ : ∃ nmn, S2.length = nmn := ⟨_, rfl⟩
        obtain ⟨nq, hnq⟩ : ∃ nq, Q.length = nq := ⟨_, rfl⟩
        obtain ⟨Am, cm, rfl⟩ := row_slice oj
        rw [List.length_map, hnmn] at oj j0
        rw [List.length_map, hSl, hnq] at j2
        have hnm40 : nmn ≤ 40 := by rw [← hnmn, hfil]; have := List.length_filter_le (fun e : RmE => hasM e.r.mem id) S1; omega
        have hown40 : ∀ k, (Value.slice Am nmn cm).ownBlock = some k → W7.heap.size ≤ k := fun k hk => (oj.lt k hk).1
        have hrd : 0 < nmn → ∃ g o, Am = some ⟨g, o, none⟩ ∧ g < V.heap.size ∧ ∀ j (hj : j < S2.length), V.cell? ⟨g, o + j, none⟩ = some (.string (bs S2[j].r.nm)) := fun h0 => by
          obtain ⟨g, o, h5, h6, h8⟩ := reads_ownT oj (by rw [List.length_map, hnmn]; exact h0)
          exact ⟨g, o, h5, h6, fun j hj => by have := h8 j (by rw [List.length_map]; exact hj); rw [List.getElem_map] at this; exact this⟩
        have hS2Q : ∀ e ∈ S2, e ∈ Q := fun e he => by rw [hfil] at he; exact hSQ e (List.mem_filter.1 he).1
        have hV : RsPh w1.heap.size V R t b tr X C 50 50 3 Q L := h7.fr hF fun k hk e2 => hk (hC k (by omega))
        have hzV := hF.size
        have kIV := hF.blk kI7 (by omega)
        have kBV := hF.blk kB7 (by omega)
        have hsqV := hsq27.same fun b2 hb2 => hF.block b2 (by have := hYb2 b2 hb2; omega) (by have := hYb2 b2 hb2; omega)
        have bwV : RowKit.Below w.heap.size w V := bw7.trans (hF.below bw7.size fun k hk e2 => by have := H0.out.2.2.2.2; omega)
        obtain ⟨Nk, hNk⟩ : ∃ Nk, V.heap.size = Nk := ⟨_, rfl⟩
        obtain ⟨W8, hW8⟩ : ∃ W8, V.alloc (.cells #[.int .i64 0] 3) = W8 := ⟨_, rfl⟩
        have f8 : Fr (fun _ => False) V W8 := by rw [← hW8]; exact (Fr.refl _ V).alloc _
        have k8 : W8.heap[Nk]? = some (.cells #[.int .i64 0] 3 (0, 0)) := by rw [← hW8, ← hNk]; exact heap_alloc_new V _
        have z8 : W8.heap.size = Nk + 1 := by rw [← hW8, ← hNk]; simp
        have hsq8 := hsqV.same fun b2 hb2 => f8.block b2 (by have := hYb2 b2 hb2; omega) fun e => e
        have hdN1 : D1 < Nk := by rw [← hNk]; exact blk_lt hdef1
        have hownl : ∀ k, (Value.slice Am nmn cm).ownBlock = some k → k < Nk := fun k hk => by rw [← hNk]; exact (oj.lt k hk).2
        have hD1w : W7.heap.size ≤ D1 := by omega
        have HW8 := Lib.hid (And.intro hW8 hNk)
        have K8 := Lib.hid (And.intro k8 (And.intro z8 (And.intro hsq8 (And.intro (f8.blk j0 fun e => e) (And.intro (f8.blk j2 fun e => e) (And.intro (hV.fr f8 fun _ _ e => e) (And.intro (f8.blk kBV fun e => e) (And.intro (f8.blk hdef1 fun e => e) (And.intro hdN1 (And.intro hown40 (And.intro hownl (And.intro (show 0 < nmn → ∃ g o, Am = some ⟨g, o, none⟩ ∧ g < Nk ∧ ∀ j (hj : j < S2.length), W8.cell? ⟨g, o + j, none⟩ = some (.string (bs S2[j].r.nm)) from fun h0 => by
          obtain ⟨g, o, h5, h6, h8⟩ := hrd h0
          exact ⟨g, o, h5, by omega, fun j hj => (f8.cell (p := ⟨g, o + j, none⟩) h6 fun e => e).trans (h8 j hj)⟩) (And.intro hS2Q (And.intro (bwV.trans ((f8.below (Nat.le_refl _) fun _ _ e => e.elim).mono bwV.size)) (And.intro hYb2 (And.intro hC (And.intro hwN (And.intro z7 (And.intro heg2 (And.intro (show Nm + 3 ≤ Nk by omega) (And.intro (And.intro hnmn hnq) (And.intro (And.intro hNI hD1w) hlg))))))))))))))))))))))
        clear j0 oj j1 j2 hSl2 hX2 hdef1 hmine hnmn hnq hown40 hrd hS2Q hV hzV kIV kBV hsqV bwV hNk hW8 f8 k8 z8 hsq8 hdN1 hownl hD1w hD1 hxD1 hG2 hF k70 k71 k72 z7 h7 hC kI7 kB7 hNI hsq17 hsq27 hYa hYb2 hwN bw7 hSQ heg1 heg2 hfil hS1 hSl hlg
        gi_wp2_with fail
        rw [HW8.out.2]
        rw [HW8.out.1]
        obtain ⟨k8, z8, hsq8, m0, m2, hV8, kB8, hd8, hdN1, hown40, hownl, hrd, hS2Q, bw8, hYb2, hC, hwN, z7, heg2, hNmk, ⟨hnmn, hnq⟩, ⟨hNI, hD1w⟩, hlg⟩ := K8.out
        refine wpIn_rangeF (X := fun k => k = Nk) (Y := Y2) (xs := S2.map (·.B)) (encs := encRm) (gf := gf2) (lb := lb2) (CntJ Nk) (fun _ _ _ _ => False)
          rfl hsq8 (fun k hk => ⟨by omega, fun e => by have := hYb2 k e; omega⟩) (fun b2 hb2 => by have := hYb2 b2 hb2; omega) (by omega) heg2 (fun _ => rfl)
          (cntJ_stays _) (fun c s X1 V1 V2 h => h.elim) ⟨k8, fun k => Iff.rfl⟩ ?round ?done (fun _ _ _ _ _ _ _ _ _ _ _ h => h.elim)
        case round =>
          rintro l3 pre x r X1 V' KK rb hl2 hpx hI hG2 hxl hF hlV hK
          dsimp only [encRm]
          have HKK := Lib.hid hK
          have HV := Lib.hid (And.intro hpx (And.intro hI (And.intro hG2 (And.intro hxl (And.intro hF (And.intro hlV hl2))))))
          clear hK hpx hI hG2 hxl hF hlV hl2 k8 z8 hsq8 m0 m2 hV8 kB8 hd8 hdN1 hown40 hownl hrd hS2Q bw8 hYb2 hC hwN z7 heg2 hNmk hnmn hnq hNI hD1w hlg
          gi_wp2_with fail
          refine HKK.out _ _ (Fr.refl _ _) fun Vb hfb hzb hsb hrb => ?_
          clear HKK KK
          obtain ⟨hpx, ⟨j2, hX1⟩, hG2, hxl, hF, hlV, hl2⟩ := HV.out
          obtain ⟨k8, z8, hsq8, m0, m2, hV8, kB8, hd8, hdN1, hown40, hownl, hrd, hS2Q, bw8, hYb2, hC, hwN, z7, heg2, hNmk, ⟨hnmn, hnq⟩, ⟨hNI, hD1w⟩, hlg⟩ := K8.out
          obtain ⟨kk, hkk⟩ : ∃ kk, pre.length = kk := ⟨_, rfl⟩
          rw [hkk] at j2
          have hpl : kk < S2.length := by
            have := congrArg List.length hpx
            simp at this; omega
          obtain ⟨e, he⟩ : ∃ e, S2[kk] = e := ⟨_, rfl⟩
          have hxe : x = e.B := by
            have h5 : (S2.map (·.B))[kk]'(by simpa using hpl) = x := by
              subst hkk
              have : (pre ++ x :: r)[pre.length]'(by simp) = x := by simp
              rw [← this]
              congr 1
              exact hpx.symm
            rw [← h5, List.getElem_map, he]
          subst hxe
          have heQ := hS2Q e (by rw [← he]; exact List.getElem_mem _)
          have v2 := hfb.blk j2 (fun e2 => hxl ((hX1 l3).2 (show l3 = Nk from e2.symm)))
          have v0 := hfb.blk (hF.blk m0 (by omega)) (by omega : ¬ Nm = l3)
          have hb : RsPh w1.heap.size Vb R t b tr X C 50 50 3 Q L := (hV8.fr hF fun k hk e2 => hk (hC k (by have : k = Nk := e2; omega))).fr hfb fun k hk e2 => hk (hC k (by have : k = l3 := e2; omega))
          have hroom := hb.each e heQ
          obtain ⟨ny, hny⟩ : ∃ ny, e.r.nm = ny := ⟨_, rfl⟩
          obtain ⟨gm, om, rfl, hgm, hcm⟩ := hrd (by omega)
          have hck := hcm kk hpl
          rw [he, hny] at hck
          have hcb : Vb.cell? ⟨gm, om + kk, none⟩ = some (.string (bs ny)) := ((hfb.cell (p := ⟨gm, om + kk, none⟩) (by show gm < V'.heap.size; have := hF.size; omega) (by show ¬ gm = l3; omega)).trans (hF.cell (p := ⟨gm, om + kk, none⟩) (by show gm < W8.heap.size; omega) (by show ¬ gm = Nk; omega))).trans hck
          have hgV : gm < Vb.heap.size := by have := hF.size; have := hfb.size; omega
          have HFy := Lib.hid (fun W (hW : Fr (fun _ => False) Vb W) => (And.intro (blk_cell (hW.blk v2 fun e => e) 0) (And.intro (blk_cell (hW.blk v0 fun e => e) 0) ((hW.cell (p := ⟨gm, om + kk, none⟩) hgV fun e => e).trans hcb))))
          have HNmy : Hid (∀ W, Fr (fun _ => False) Vb W → Calls Tryz.prog 16 #[.pointer (some ⟨e.B, 0, none⟩)] W fun e2 w' => e2 = .returned (.string (bs ny)) ∧ w' = W) := Lib.hid fun W hW => by rw [← hny]; exact name_any (hroom.fr hW fun _ _ e => e).1
          have p1 : ¬ (nmn : Int) ≤ (kk : Int) := by omega
          have p2 : decide ((nmn : Int) ≤ (kk : Int)) = false := by simp; omega
          have p3 : (kk : Int) < (nmn : Int) := by omega
          have p4 : (kk : Int) ≤ 1000000 := by omega
          have HE := Lib.hid (And.intro v2 (And.intro hX1 (And.intro hG2 (And.intro hxl (And.intro hfb (And.intro hrb hkk))))))
          clear hpx j2 hX1 hG2 hxl hF hlV hl2 k8 z8 hsq8 m0 m2 hV8 kB8 hd8 hdN1 hown40 hownl hrd hS2Q bw8 hYb2 hC hwN z7 heg2 hNmk hnmn hnq hNI hD1w hlg hkk hpl he heQ v2 v0 hb hroom hny hgm hcm hck hcb hgV hfb hzb hsb hrb
          gi_wp2_with fail
          refine wpIn_class_all (C := fun W => Fr (fun _ => False) Vb W) (by kernel_rfl) (by kernel_rfl) (by kernel_rfl) ((Fr.refl (fun _ => False) Vb).drew) ?_
          refine quiet_step_w (fun _ => trivial) (fun K hK => ?_)
          go_simp
          refine ⟨.int .i64 kk, fun W hW => ?_, hK _ ?_⟩
          · obtain ⟨q1, q2, q3⟩ := HFy.out W hW; go_simp
          clear hK K
          refine quiet_step_w (fun _ => trivial) (fun K hK => ?_)
          go_simp
          refine ⟨.slice (some ⟨gm, om, none⟩) nmn cm, fun W hW => ?_, hK _ ?_⟩
          · obtain ⟨q1, q2, q3⟩ := HFy.out W hW; go_simp
          clear hK K
          refine quiet_step_w (fun _ => trivial) (fun K hK => ?_)
          go_simp
          first | refine ⟨_, fun _ _ => rfl, hK _ ?_⟩ | refine hK _ ?_
          clear hK K
          refine quiet_step_w (fun _ => trivial) (fun K hK => ?_)
          go_simp
          refine ⟨.bool false, fun W hW => ?_, hK _ ?_⟩
          · (first | rfl | (simp; done) | (simp; omega))
          clear hK K
          refine quiet_step_w (fun _ => trivial) (fun K hK => ?_)
          go_simp
          first | refine ⟨_, fun _ _ => rfl, hK _ ?_⟩ | refine hK _ ?_
          clear hK K
          refine quiet_step_w (fun _ => trivial) (fun K hK => ?_)
          go_simp
          first | refine ⟨_, fun _ _ => rfl, hK _ ?_⟩ | refine hK _ ?_
          clear hK K
          refine quiet_step_w (fun _ => trivial) (fun K hK => ?_)
          go_simp
          refine ⟨.string (bs ny), fun W hW => ?_, hK _ ?_⟩
          · refine (calls_wide (.inr ⟨l3, rfl⟩) (HNmy.out W hW)).mono ?_
            rintro e2 W2 ⟨rfl, rfl⟩; exact ⟨rfl, hW⟩
          clear hK K
          refine quiet_step_w (fun _ => trivial) (fun K hK => ?_)
          go_simp
          refine ⟨.slice (some ⟨gm, om, none⟩) nmn cm, fun W hW => ?_, hK _ ?_⟩
          · obtain ⟨q1, q2, q3⟩ := HFy.out W hW; go_simp
          clear hK K
          refine quiet_step_w (fun _ => trivial) (fun K hK => ?_)
          go_simp
          refine ⟨.int .i64 kk, fun W hW => ?_, hK _ ?_⟩
          · obtain ⟨q1, q2, q3⟩ := HFy.out W hW; go_simp
          clear hK K
          refine quiet_step_w (fun _ => trivial) (fun K hK => ?_)
          go_simp
          first | refine ⟨_, fun _ _ => rfl, hK _ ?_⟩ | refine hK _ ?_
          clear hK K
          refine quiet_step_w (fun _ => trivial) (fun K hK => ?_)
          go_simp
          refine ⟨.string (bs ny), fun W hW => ?_, hK _ ?_⟩
          · obtain ⟨q1, q2, q3⟩ := HFy.out W hW; go_simp
          clear hK K
          refine quiet_step_w (fun _ => trivial) (fun K hK => ?_)
          go_simp
          first | refine ⟨_, fun _ _ => rfl, hK _ ?_⟩ | refine hK _ ?_
          clear hK K
          refine quiet_step_w (fun _ => trivial) (fun K hK => ?_)
          go_simp
          first | refine ⟨_, fun _ _ => rfl, hK _ ?_⟩ | refine hK _ ?_
          clear hK K
          refine wpQuietIn_nil ?_
          intro V1 hV1
          obtain ⟨v2, hX1, hG2, hxl, hfb, hrb, hkk⟩ := HE.out
          have u2 := hV1.blk v2 fun e => e
          have c2 := blk_cell u2 0
          have d2 := blk_free u2 0
          have hf3 : Fr X1 Vb (V1.setCell ⟨Nk, 0, none⟩ (.int .i64 ((kk : Int) + 1))) := ((hV1.mono (Y := X1) fun _ _ e => e.elim)).setCell _ ((hX1 _).2 rfl) _
          have hfin : ∃ X2, GrowX X1 X2 V' (V1.setCell ⟨Nk, 0, none⟩ (.int .i64 ((kk : Int) + 1))) ∧ Fr (fun k => k = l3 ∨ X1 k) V' (V1.setCell ⟨Nk, 0, none⟩ (.int .i64 ((kk : Int) + 1))) ∧ (V1.setCell ⟨Nk, 0, none⟩ (.int .i64 ((kk : Int) + 1))).heap[l3]? = some (.loop rb) ∧ CntJ Nk (pre ++ [e.B]) X2 (V1.setCell ⟨Nk, 0, none⟩ (.int .i64 ((kk : Int) + 1))) := by
            refine ⟨X1, fun k hk => ⟨Nat.lt_of_lt_of_le (hG2 k hk).1 (Nat.le_trans hfb.size hf3.size), fun _ => hk⟩, (hfb.mono (Y := fun k => k = l3 ∨ X1 k) fun k _ e => .inl e).trans3 hf3 fun k _ e => .inr e, hf3.blk hrb hxl, ?_, hX1⟩
            have := blk_set u2 0 (.int .i64 ((kk : Int) + 1))
            rw [List.length_append, hkk]
            exact this
          have HFi := Lib.hid hfin
          clear v2 hX1 hG2 hxl hfb hrb hkk u2 hf3 hfin hV1
          gi_wp2_with fail
          exact HFi.out
        case done =>
          rintro D2 X2 V9 hD2 hxD2 hG2 hF ⟨j2, hX2⟩ hdef2
          rw [List.length_map, hnmn] at j2
          have v0 := hF.blk m0 (by omega)
          have vn := hF.blk m2 (by omega)
          have vB := hF.blk kB8 (by omega)
          have vd := hF.blk hd8 (by omega)
          have hV9 : RsPh w1.heap.size V9 R t b tr X C 50 50 3 Q L := hV8.fr hF fun k hk e2 => hk (hC k (by have : k = Nk := e2; omega))
          have bV9 : RowKit.Below w.heap.size w V9 := bw8.trans (hF.below bw8.size fun k hk e2 => by have e3 : k = Nk := e2; have := H0.out.2.2.2.2; omega)
          have HFz := Lib.hid (fun W (hW : Fr (fun _ => False) V9 W) => (And.intro (blk_cell (hW.blk j2 fun e => e) 0) (And.intro (blk_cell (hW.blk v0 fun e => e) 0) (blk_cell (hW.blk vn fun e => e) 0))))
          have HLz : Hid (∀ W, Fr (fun _ => False) V9 W → Calls Tryz.prog 20 #[.pointer (some ⟨R, 0, none⟩)] W fun e2 w' => e2 = .returned (.int .i64 nq) ∧ w' = W) := Lib.hid fun W hW => by rw [← hnq]; exact len_any (hV9.fr hW fun _ _ e => e)
          have HQ := Lib.hid (And.intro vB (And.intro vd (And.intro hdef2 (And.intro bV9 (And.intro (show D2 ≠ D1 by omega) (And.intro (show N + 1 ≠ D1 ∧ N + 1 ≠ D2 by omega) (show w.heap.size ≤ D1 ∧ w.heap.size ≤ D2 by have := H0.out.2.2.2.2; omega)))))))
          clear hD2 hxD2 hG2 hF j2 hX2 hdef2 v0 vn vB vd hV9 bV9 k8 z8 hsq8 m0 m2 hV8 kB8 hd8 hdN1 hown40 hownl hrd hS2Q bw8 hYb2 hC hwN z7 heg2 hNmk hnmn hnq hNI hD1w hlg
          gi_wp2_with fail
          refine wpIn_class_tail (C := fun W => Fr (fun _ => False) V9 W) 10 (by kernel_rfl) (by kernel_rfl) (by kernel_rfl) ((Fr.refl (fun _ => False) V9).drew) ?_
          simp only [List.take_succ_cons, List.take_zero, List.drop_succ_cons, List.drop_zero]
          refine quiet_step_w (fun _ => trivial) (fun K hK => ?_)
          go_simp
          refine ⟨.int .i64 nmn, fun W hW => ?_, hK _ ?_⟩
          · obtain ⟨q1, q2, q3⟩ := HFz.out W hW; go_simp
          clear hK K
          refine quiet_step_w (fun _ => trivial) (fun K hK => ?_)
          go_simp
          refine ⟨.slice Am nmn cm, fun W hW => ?_, hK _ ?_⟩
          · obtain ⟨q1, q2, q3⟩ := HFz.out W hW; go_simp
          clear hK K
          refine quiet_step_w (fun _ => trivial) (fun K hK => ?_)
          go_simp
          first | refine ⟨_, fun _ _ => rfl, hK _ ?_⟩ | refine hK _ ?_
          clear hK K
          refine quiet_step_w (fun _ => trivial) (fun K hK => ?_)
          go_simp
          first | refine ⟨_, fun _ _ => rfl, hK _ ?_⟩ | refine hK _ ?_
          clear hK K
          refine quiet_step_w (fun _ => trivial) (fun K hK => ?_)
          go_simp
          first | refine ⟨_, fun _ _ => rfl, hK _ ?_⟩ | refine hK _ ?_
          clear hK K
          refine quiet_step_w (fun _ => trivial) (fun K hK => ?_)
          go_simp
          refine ⟨.int .i64 nq, fun W hW => ?_, hK _ ?_⟩
          · obtain ⟨q1, q2, q3⟩ := HFz.out W hW; go_simp
          clear hK K
          refine quiet_step_w (fun _ => trivial) (fun K hK => ?_)
          go_simp
          first | refine ⟨_, fun _ _ => rfl, hK _ ?_⟩ | refine hK _ ?_
          clear hK K
          refine quiet_step_w (fun _ => trivial) (fun K hK => ?_)
          go_simp
          refine ⟨.int .i64 nq, fun W hW => ?_, hK _ ?_⟩
          · refine (calls_wide (.inl rfl) (HLz.out W hW)).mono ?_
            rintro e2 W2 ⟨rfl, rfl⟩; exact ⟨rfl, hW⟩
          clear hK K
          refine quiet_step_w (fun _ => trivial) (fun K hK => ?_)
          go_simp
          first | refine ⟨_, fun _ _ => rfl, hK _ ?_⟩ | refine hK _ ?_
          clear hK K
          refine quiet_step_w (fun _ => trivial) (fun K hK => ?_)
          go_simp
          first | refine ⟨_, fun _ _ => rfl, hK _ ?_⟩ | refine hK _ ?_
          clear hK K
          refine wpQuietIn_nil ?_
          intro V10 hV10
          obtain ⟨vB, vd, hdef2, bV9, hD12, hND, hwD⟩ := HQ.out
          have uB := hV10.blk vB fun e => e
          have ud := hV10.blk vd fun e => e
          have ud2 := hV10.blk hdef2 fun e => e
          have b10 := bV9.trans ((hV10.below (Nat.le_refl _) fun _ _ e => e.elim).mono bV9.size)
          have cB := blk_cell uB 0
          have dB := blk_free uB 0
          obtain ⟨W12, hW12⟩ : ∃ W12, V10.setCell ⟨N + 1, 0, none⟩ (Value.bool true) = W12 := ⟨_, rfl⟩
          have e3 : W12.heap[N + 1]? = some (.cells #[.bool true] 4 (0, 0)) := by rw [← hW12]; exact blk_set uB 0 _
          have d31 : W12.heap[D1]? = some (.deferred (some [])) := by rw [← hW12]; exact blk_other ud _ (fun e2 => hND.1 e2.symm) _
          have d32 : W12.heap[D2]? = some (.deferred (some [])) := by rw [← hW12]; exact blk_other ud2 _ (fun e2 => hND.2 e2.symm) _
          have f5 : RowKit.Below w.heap.size w W12 := by rw [← hW12]; exact b10.setCell (by show w.heap.size ≤ N + 1; have := H0.out.2.2.2.2; omega) _
          have HZ := Lib.hid (And.intro hW12 (And.intro e3 (And.intro d31 (And.intro d32 f5))))
          clear vB vd hdef2 bV9 uB ud ud2 b10 hW12 e3 d31 d32 f5
          gi_wp2_with fail
          obtain ⟨hW12, e3, d31, d32, f5⟩ := HZ.out
          (try rw [hW12])
          refine leavesF [D2, D1] _ (by simpa using hD12) (fun D hD => by
            simp only [List.mem_cons, List.not_mem_nil, or_false] at hD
            rcases hD with rfl | rfl
            · exact d32
            · exact d31) fun w' hf => ?_
          have e4 := hf.blk e3 (by simp; omega)
          exact ⟨.bool true, results_box rfl _ _ (N + 1) _ _ rfl (blk_cell e4 0) Tryz.underlying4 rfl, rfl, f5.trans (hf.below f5.size fun k _ e2 => by simp at e2; rcases e2 with rfl | rfl; exact hwD.2; exact hwD.1)⟩
end Go.Proofs.YtlkeomcillencaaGreat
end
