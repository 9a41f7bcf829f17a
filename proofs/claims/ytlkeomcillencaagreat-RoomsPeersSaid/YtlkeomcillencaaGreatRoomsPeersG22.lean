/- Texts of this proof, one behind the other. -/
import Derived.Test.YtlkeomcillencaaGreatRoomsPeersG20
import Derived.Test.YtlkeomcillencaaGreatRoomsPeersG21
import Derived.Below
import Derived.ChangeSame
set_option linter.unusedVariables false
set_option linter.unusedSimpArgs false
section
/- Layer 20: RoomsStay. -/
namespace Go.Proofs.YtlkeomcillencaaGreat
open Go Go.RowKit Go.Maps Go.Sort Go.Shelf Go.Lib
attribute [local go_sem] Oper.semAt_some

theorem wf8s {a : Int} (h : (Lit.int .u8 a).wf = true) : 0 ≤ a ∧ a ≤ 255 := by
  simp only [Lit.wf, IntKind.has, Bool.and_eq_true, decide_eq_true_eq] at h
  exact ⟨h.1, h.2⟩
theorem count_on {n base : Nat} {mr mj mb : Int} {R : Nat} {A : List Rm} {w0 w : World} (h : RsOn n base mr mj mb R A w0 w) (hn : n ≤ 90000) {id : Int} (hid : OkKIS id) : Calls Tryz.prog 21 #[.pointer (some ⟨R, 0, none⟩), .int .i64 id] w fun e w' => e = .returned (.int .i64 (ofA A id).length) ∧ w' = w := by
  obtain ⟨t, b, tr, X, C, Q, L, h1, h2, rfl⟩ := h.st
  rw [ofA_map, List.length_map]
  exact count_any h1 h2 hid hn
/-- a box that counts what is told -/
def CntJ {α : Type} (S : Nat) (pre : List α) (X : Nat → Prop) (W : World) : Prop := W.heap[S]? = some (.cells #[.int .i64 (pre.length : Int)] 3 (0, 0)) ∧ ∀ k, X k ↔ k = S
theorem cntJ_stays {α : Type} (S : Nat) : Stays (CntJ (α := α) S) := fun pre X V V' ⟨h1, h2⟩ hl hf => ⟨hf.blk h1 (fun e => e ((h2 S).2 rfl)), h2⟩
/-- who leaves: the state of the second loop -/
def LvS (base n : Nat) (p g : Int) (R : Nat) (C : Nat → Tag) (l : List zraT) (i : Nat) (Wr W : World) : Prop :=
  ∃ t b tr X C' Q' L', RsPh base W R t b tr X C' p g 3 Q' L' ∧ RsLg n Q' L' ∧ Onto C C' Wr W ∧ ∀ j k, (j, k) ∈ L' → ∃ q, ∃ h : q < l.length, i ≤ q ∧ l[q].2.1 = j
set_option maxRecDepth 100000 in
set_option maxHeartbeats 16000000 in
theorem roomsStay_main (A : Option Addr) (l : List zraT) (cc : Nat) (p g : Int) (hp : 0 ≤ p ∧ p ≤ 255) (hg : 0 ≤ g ∧ g ≤ 255) (w : World) (hA : ActRs w A l) :
    Calls Tryz.prog 5 #[.int .u8 p, .int .u8 g, .slice A l.length cc] w fun e w' => e = .returned (.bool true) ∧ RowKit.Below w.heap.size w w' := by
  have hwp : IntKind.i64.wrap p = p := IntWalk.i64_in _ ⟨by omega, by omega⟩
  have hwg : IntKind.i64.wrap g = g := IntWalk.i64_in _ ⟨by omega, by omega⟩
  obtain ⟨N, hN⟩ : ∃ N, w.heap.size = N := ⟨_, rfl⟩
  obtain ⟨W0, hW0⟩ : ∃ W0, w.alloc (.cells #[.bool false] 4) = W0 := ⟨_, rfl⟩
  have b0 : RowKit.Below w.heap.size w W0 := by rw [← hW0]; exact (Below.refl _ w).alloc (Nat.le_refl _) _
  have k0 : W0.heap[N]? = some (.cells #[.bool false] 4 (0, 0)) := by rw [← hW0, ← hN]; exact heap_alloc_new w _
  have z0 : W0.heap.size = N + 1 := by rw [← hW0, ← hN]; simp
  have H0 := Lib.hid (And.intro b0 (And.intro k0 (And.intro z0 hN)))
  have HW := Lib.hid (And.intro hN hW0)
  have HA := Lib.hid hA
  have HPG := Lib.hid (And.intro hp hg)
  clear b0 k0 z0 hN hW0 hA hp hg
  refine (callsIn_wide (n := 30)).1 ?_
  refine callsIn_of_wp_marks Tryz.func5 rfl trivial ?_ rfl
  simp only [Tryz.ntmps5, List.size_toArray, List.length_cons, List.length_nil, Nat.reduceAdd, Nat.reduceSub, Array.replicate_succ, Array.replicate_zero, List.push_toArray, List.append_toArray, List.nil_append, List.cons_append]
  gi_wp2_with fail
  rw [HW.out.1]
  rw [HW.out.2]
  refine ⟨trivial, (calls_wide (.inl rfl) (awake20 W0)).mono ?_⟩
  rintro e w1 ⟨rfl, b1⟩
  have hb1 : RowKit.Below w.heap.size w w1 := H0.out.1.trans (b1.mono H0.out.1.size)
  have k1 := (Fr.of_below (X := fun _ => False) b1).blk H0.out.2.1 fun e => e
  have z1 := b1.size
  have H1 := Lib.hid (And.intro hb1 (And.intro k1 (show N + 1 ≤ w1.heap.size by have := H0.out.2.2.1; omega)))
  clear b1 hb1 k1 z1 HW
  gi_wp2_with fail
  refine ⟨trivial, (calls_wide (.inl rfl) (great20 HA.out w1 H1.out.1)).mono ?_⟩
  rintro e w1 ⟨rfl, rfl⟩
  obtain ⟨gr, hgr⟩ : ∃ gr, greatRs l = gr := ⟨_, rfl⟩
  rw [hgr]
  have HGR := Lib.hid hgr
  clear hgr
  cases gr with
  | true =>
    have c0 := blk_cell H1.out.2.1 0
    have d0 := blk_free H1.out.2.1 0
    have kk := blk_set H1.out.2.1 0 (.bool true)
    have hbb := H1.out.1.setCell (p := ⟨N, 0, none⟩) (by have := H0.out.2.2.2; show w.heap.size ≤ N; omega) (.bool true)
    have HK := Lib.hid (And.intro kk hbb)
    clear kk hbb
    gi_wp2_with fail
    obtain ⟨p1, p2⟩ := HK.out
    exact leavesF [] _ List.nodup_nil (by simp) fun w' hf => ⟨_, results_box rfl _ _ N (.bool true) _ rfl (blk_cell (hf.blk p1 (by simp)) 0) Tryz.underlying4 rfl, rfl, p2.trans (hf.below p2.size fun k _ e => by simp at e)⟩
  | false =>
  have hlim := greatRs_no HGR.out
  have hNw := H0.out.2.2.2
  have HN := Lib.hid (new_on (mr := p) (mj := g) ⟨HPG.out.1.1, by have := HPG.out.1.2; omega⟩ ⟨HPG.out.2.1, by have := HPG.out.2.2; omega⟩ 3 w1)
  unfold cfgV at HN
  have HLim := Lib.hid hlim
  have hl40 := hlim.1
  clear hlim hNw
  gi_wp2_with fail
  (try rw [hwp])
  (try rw [hwg])
  refine ⟨trivial, (calls_wide (.inl rfl) HN.out).mono ?_⟩
  rintro e w2 ⟨R, rfl, h2⟩
  have G0 : Hid (∃ A2, RsOn 0 w1.heap.size p g 3 R A2 w1 w2 ∧ InvA p g A2 ∧ ∀ j, onA A2 j → ∃ q, ∃ h : q < l.length, q < 0 ∧ l[q].2.1 = j) := Lib.hid ⟨[], h2, ⟨by have := HPG.out.1.1; simp; omega, fun j => by have := HPG.out.2.1; simp [ofA]; omega⟩, fun j hj => by obtain ⟨r, hr, _⟩ := hj; cases hr⟩
  clear h2 HN
  gi_wp2_with fail
  gi_loopw [8] (fun c8 wr => ∃ i : Nat, c8 = .int .i64 i ∧ i ≤ l.length ∧ Hid (∃ A2, RsOn i w1.heap.size p g 3 R A2 w1 wr ∧ InvA p g A2 ∧ ∀ j, onA A2 j → ∃ q, ∃ h : q < l.length, q < i ∧ l[q].2.1 = j)) (fun c8 _ => l.length - (RowKit.intOf c8).toNat)
  case atStart => exact ⟨0, rfl, Nat.zero_le _, G0⟩
  case round =>
    obtain ⟨i, rfl, hi, HB⟩ := hrel
    clear G0
    obtain ⟨A2, hon, hinv, honA⟩ := HB.out
    have hbw : RowKit.Below w.heap.size w wr := H1.out.1.trans (hon.up.mono H1.out.1.size)
    have HG := Lib.hid (And.intro hon (And.intro hinv (And.intro honA hbw)))
    clear HB hon hinv honA hbw
    by_cases hlt : i < l.length
    · obtain ⟨ga, o, rfl, hat⟩ := actRs_at HA.out (by omega)
      obtain ⟨s1, hs1⟩ : ∃ s1, l[i].2.1 = s1 := ⟨_, rfl⟩
      obtain ⟨s2, hs2⟩ : ∃ s2, l[i].2.2 = s2 := ⟨_, rfl⟩
      have HAT : Hid (∀ W, Fr (fun _ => False) wr W → W.cell? ⟨ga, o + i * 3 + 1, none⟩ = some (.int .i64 s1) ∧ W.cell? ⟨ga, o + i * 3 + 2, none⟩ = some (.string s2)) := Lib.hid fun W hW => by
        obtain ⟨c1, c2, c3⟩ := hat W (HG.out.2.2.2.trans (hW.below HG.out.2.2.2.size fun _ _ e => e.elim)) i hlt
        rw [hs1] at c2; rw [hs2] at c3
        exact ⟨c2, c3⟩
      have hok : OkKIS s1 := by rw [← hs1]; exact (HA.out.1 _ (List.getElem_mem hlt)).2.1
      have hnm : s2.data.toList.length ≤ 1000 := by have := HLim.out.2 _ (List.getElem_mem hlt); rw [hs2] at this; rw [Array.length_toList]; show s2.size ≤ 1000; omega
      have n1 : (i : Int) < (l.length : Int) := by omega
      have n2 : decide ((i : Int) < (l.length : Int)) = true := by simp; omega
      have n3 : ¬ (l.length : Int) ≤ (i : Int) := by omega
      have HOK := Lib.hid (And.intro hok (And.intro hnm hs1))
      clear hat hok hnm hs1 hs2
      gi_wp2_with fail
      refine wpIn_class_tail (C := fun W => Fr (fun _ => False) wr W) 11 (by kernel_rfl) (by kernel_rfl) (by kernel_rfl) ((Fr.refl (fun _ => False) wr).drew) ?_
      simp only [List.take_succ_cons, List.take_zero, List.drop_succ_cons, List.drop_zero]
      refine quiet_step_w (fun _ => trivial) (fun K hK => ?_)
      go_simp
      first | refine ⟨_, fun _ _ => rfl, hK _ ?_⟩ | refine hK _ ?_
      clear hK K
      refine quiet_step_w (fun _ => trivial) (fun K hK => ?_)
      go_simp
      first | refine ⟨_, fun _ _ => rfl, hK _ ?_⟩ | refine hK _ ?_
      clear hK K
      refine quiet_step_w (fun _ => trivial) (fun K hK => ?_)
      go_simp
      first | refine ⟨_, fun _ _ => rfl, hK _ ?_⟩ | refine hK _ ?_
      clear hK K
      refine quiet_step_w (fun _ => trivial) (fun K hK => ?_)
      go_simp
      first | refine ⟨_, fun _ _ => rfl, hK _ ?_⟩ | refine hK _ ?_
      clear hK K
      refine quiet_step_w (fun _ => trivial) (fun K hK => ?_)
      go_simp
      first | refine ⟨_, fun _ _ => rfl, hK _ ?_⟩ | refine hK _ ?_
      clear hK K
      refine quiet_step_w (fun _ => trivial) (fun K hK => ?_)
      go_simp
      refine ⟨.int .i64 s1, fun W hW => ?_, hK _ ?_⟩
      · obtain ⟨q1, q2⟩ := HAT.out W hW; go_simp
      clear hK K
      refine quiet_step_w (fun _ => trivial) (fun K hK => ?_)
      go_simp
      first | refine ⟨_, fun _ _ => rfl, hK _ ?_⟩ | refine hK _ ?_
      clear hK K
      refine quiet_step_w (fun _ => trivial) (fun K hK => ?_)
      go_simp
      first | refine ⟨_, fun _ _ => rfl, hK _ ?_⟩ | refine hK _ ?_
      clear hK K
      refine quiet_step_w (fun _ => trivial) (fun K hK => ?_)
      go_simp
      first | refine ⟨_, fun _ _ => rfl, hK _ ?_⟩ | refine hK _ ?_
      clear hK K
      refine quiet_step_w (fun _ => trivial) (fun K hK => ?_)
      go_simp
      first | refine ⟨_, fun _ _ => rfl, hK _ ?_⟩ | refine hK _ ?_
      clear hK K
      refine quiet_step_w (fun _ => trivial) (fun K hK => ?_)
      go_simp
      refine ⟨.string s2, fun W hW => ?_, hK _ ?_⟩
      · obtain ⟨q1, q2⟩ := HAT.out W hW; go_simp
      clear hK K
      refine wpQuietIn_nil ?_
      intro V1 hV1
      have h5 : RsOn i w1.heap.size p g 3 R A2 w1 V1 := HG.out.1.below (hV1.below (Nat.le_refl _) fun _ _ e => e.elim)
      have HJ := Lib.hid (join_on h5 (Nat.le_refl _) (by omega) HOK.out.1 HOK.out.2.1)
      rw [show bs s2.data.toList = s2 from rfl] at HJ
      clear hV1 h5
      gi_wp2_with fail
      refine ⟨trivial, (calls_wide (.inl rfl) HJ.out).mono ?_⟩
      intro e w5 hj
      obtain ⟨pp, mm, rfl, h6⟩ := hj.ret
      have hinv6 := joinA_inv (mb := 3) (id := s1) (nm := s2.data.toList) HG.out.1.keys HG.out.2.1
      have hon6 : ∀ j, onA (joinA p g 3 A2 s1 s2.data.toList).1 j → ∃ q, ∃ h : q < l.length, q < i + 1 ∧ l[q].2.1 = j := fun j hjj => by
        rcases joinA_on hjj with a | a
        · obtain ⟨q, q1, q2, q3⟩ := HG.out.2.2.1 j a
          exact ⟨q, q1, by omega, q3⟩
        · exact ⟨i, hlt, by omega, by rw [HOK.out.2.2, a]⟩
      obtain ⟨A3, hA3⟩ : ∃ A3, (joinA p g 3 A2 s1 s2.data.toList).1 = A3 := ⟨_, rfl⟩
      rw [hA3] at h6 hinv6 hon6
      have HL := Lib.hid (len_on h6)
      have HCt := Lib.hid (count_on h6 (by omega) HOK.out.1)
      obtain ⟨nl, hnl⟩ : ∃ nl, A3.length = nl := ⟨_, rfl⟩
      obtain ⟨nc, hnc⟩ : ∃ nc, (ofA A3 s1).length = nc := ⟨_, rfl⟩
      have v1 := hinv6.1
      have v2 := hinv6.2 s1
      rw [hnl] at HL v1
      rw [hnc] at HCt v2
      have p1 : ¬ p < (nl : Int) := by omega
      have p2 : decide (p < (nl : Int)) = false := by simp; omega
      have p3 : ¬ g < (nc : Int) := by omega
      have p4 : decide (g < (nc : Int)) = false := by simp; omega
      have hbw5 : RowKit.Below w.heap.size w w5 := H1.out.1.trans (h6.up.mono H1.out.1.size)
      obtain ⟨ga', o', hge, hat⟩ := actRs_at HA.out (by omega)
      obtain ⟨_, cI, _⟩ := hat w5 hbw5 i hlt
      rw [HOK.out.2.2] at cI
      injection hge with hge
      injection hge with e1 e2 _
      subst e1; subst e2
      have G5 : Hid (∃ A2, RsOn (i + 1) w1.heap.size p g 3 R A2 w1 w5 ∧ InvA p g A2 ∧ ∀ j, onA A2 j → ∃ q, ∃ h : q < l.length, q < i + 1 ∧ l[q].2.1 = j) := Lib.hid ⟨A3, h6, hinv6, hon6⟩
      clear h6 hinv6 hon6 hA3 hnl hnc v1 v2 hbw5 hat hj HJ
      gi_wp2_with fail
      refine ⟨trivial, (calls_wide (.inl rfl) HL.out).mono ?_⟩
      rintro e w6 ⟨rfl, rfl⟩
      gi_wp2_with fail
      (try rw [hwp])
      gi_wp2_with fail
      refine ⟨trivial, (calls_wide (.inl rfl) HCt.out).mono ?_⟩
      rintro e w6 ⟨rfl, rfl⟩
      gi_wp2_with fail
      (try rw [hwg])
      gi_wp2_with fail
      go_roundw
      case rel => exact ⟨i + 1, by go_num, by omega, G5⟩
      case measure => simp [RowKit.intOf]; omega
    · have n1 : ¬ (i : Int) < (l.length : Int) := by omega
      have n2 : decide ((i : Int) < (l.length : Int)) = false := by simp; omega
      obtain ⟨t, b, tr, X, C, Q, L, h1, hlg, hQA⟩ := HG.out.1.st
      have hq40 : Q.length ≤ 40 := by have := hlg.qlen; omega
      have hLon : ∀ j k, (j, k) ∈ L → ∃ q, ∃ h : q < l.length, 0 ≤ q ∧ l[q].2.1 = j := fun j k hjk => by
        obtain ⟨e, he, _, hm⟩ := (hlg.pairs j k).1 hjk
        obtain ⟨q, hq, _, e2⟩ := HG.out.2.2.1 j ⟨e.r, by rw [← hQA]; exact List.mem_map_of_mem he, hm⟩
        exact ⟨q, hq, Nat.zero_le _, e2⟩
      have HAl := Lib.hid (all_any h1 (by omega))
      have hupW := HG.out.1.up
      have hkN := (Fr.of_below (X := fun _ => False) (hupW.mono (Nat.le_refl _))).blk H1.out.2.1 fun e => e
      have K1 := Lib.hid (And.intro h1 (And.intro hlg (And.intro hq40 (And.intro hLon (And.intro hupW hkN)))))
      clear h1 hlg hQA hq40 hLon hupW hkN
      gi_wp2_with fail
      refine ⟨trivial, (calls_wide (.inl rfl) HAl.out).mono ?_⟩
      rintro e w5 ⟨⟨F, S, rfl, hT, hS1, hS2⟩, b5⟩
      have hSl : S.length = Q.length := hS2.length_eq
      obtain ⟨h1, hlg, hq40, hLon, hupW, hkN⟩ := K1.out
      have h5 := h1.below b5
      obtain ⟨Y, hYb, gf, lb, rfl, hseq, hYl, heg⟩ := tellsPr_tale hT (by rw [List.length_map]; omega)
      obtain ⟨bs5, hbs5⟩ : ∃ bs5, S.map (·.B) = bs5 := ⟨_, rfl⟩
      obtain ⟨nq, hnq⟩ : ∃ nq, Q.length = nq := ⟨_, rfl⟩
      have hbl : bs5.length = nq := by rw [← hbs5, List.length_map, hSl, hnq]
      rw [hbs5] at hseq
      have HLn := Lib.hid (len_any h5)
      rw [hnq] at HLn
      obtain ⟨Nb, hNb⟩ : ∃ Nb, w5.heap.size = Nb := ⟨_, rfl⟩
      obtain ⟨Wr, hWr⟩ : ∃ Wr, w5.alloc (.cells #[.int .i64 (nq : Int)] 3) = Wr := ⟨_, rfl⟩
      have fr : Fr (fun _ => False) w5 Wr := by rw [← hWr]; exact (Fr.refl _ w5).alloc _
      have kr : Wr.heap[Nb]? = some (.cells #[.int .i64 (nq : Int)] 3 (0, 0)) := by rw [← hWr, ← hNb]; exact heap_alloc_new w5 _
      have zr : Wr.heap.size = Nb + 1 := by rw [← hWr, ← hNb]; simp
      have f5 : Fr (fun _ => False) wr w5 := Fr.of_below b5
      have hkr := fr.blk (f5.blk hkN fun e => e) fun e => e
      have hr := h5.fr fr fun _ _ e => e
      have hsqr := hseq.same fun b2 hb2 => fr.block b2 (hYl b2 hb2) fun e => e
      have hCt : ∀ k, wr.heap.size ≤ k → C k = tag0 := h1.cN
      have hz5 := b5.size
      have hWrz : wr.heap.size ≤ Nb := by omega
      have hYn : ∀ k, Y k → wr.heap.size ≤ k ∧ k < Nb := fun k hk => ⟨hYb k hk, by have := hYl k hk; omega⟩
      have hbr : RowKit.Below w1.heap.size w1 Wr := (hupW.trans (b5.mono hupW.size)).trans ((fr.below (Nat.le_refl _) fun _ _ e => e.elim).mono (by have := hupW.size; omega))
      have HWr := Lib.hid (And.intro hWr hNb)
      have K2 := Lib.hid (And.intro kr (And.intro zr (And.intro hkr (And.intro hsqr (And.intro hCt (And.intro hWrz (And.intro hYn (And.intro hbr (And.intro heg (And.intro hbl hq40))))))))))
      have G1 : Hid (LvS w1.heap.size i p g R C l 0 Wr Wr) := Lib.hid ⟨t, b, tr, X, C, Q, L, hr, hlg, Onto.refl C Wr, hLon⟩
      have hnil : ∀ W, (binOp BinOp.eql 52 (.func (.func gf) #[] lb) Value.nilFunc).run Tryz.prog W = .ok (.bool false) W := fun W => by rfl
      have hnq40 : nq ≤ 40 := by omega
      clear hT hS1 hS2 b5 hSl h1 hlg hq40 hLon hupW hkN h5 hYb hseq hYl hbs5 hnq fr kr zr f5 hkr hr hsqr hCt hz5 hWrz hYn hbr heg hWr hNb HAl hbl
      gi_wp2_with fail
      refine ⟨trivial, (calls_wide (.inl rfl) HLn.out).mono ?_⟩
      rintro e w6 ⟨rfl, rfl⟩
      clear HLn
      gi_wp2_with fail
      rw [HWr.out.2]
      rw [HWr.out.1]
      gi_loopw [11] (fun c8 wq => ∃ m : Nat, c8 = .int .i64 m ∧ m ≤ l.length ∧ Hid (LvS w1.heap.size i p g R C l m Wr wq)) (fun c8 _ => l.length - (RowKit.intOf c8).toNat)
      case atStart => exact ⟨0, rfl, Nat.zero_le _, G1⟩
      case round =>
        obtain ⟨m, rfl, hm, HB2⟩ := hrel
        clear G1
        obtain ⟨t3, b3, tr3, X3, C3, Q3, L3, h3, hl3, o3, hid3⟩ := HB2.out
        obtain ⟨kr, zr, hkr, hsqr, hCt, hWrz, hYn, hbr, heg, hbl, hq40⟩ := K2.out
        have hbW : RowKit.Below w1.heap.size w1 wr := hbr.trans (o3.2.below hbr.size fun k hk e => Nat.le_of_not_lt fun e2 => e (by
          have e3 := h3.cB k e2
          rwa [o3.1 k hk] at e3))
        have hbw3 : RowKit.Below w.heap.size w wr := H1.out.1.trans (hbW.mono H1.out.1.size)
        have HG3 := Lib.hid (And.intro h3 (And.intro hl3 (And.intro o3 (And.intro hid3 (And.intro hbW hbw3)))))
        clear HB2 h3 hl3 o3 hid3 hbW hbw3 kr zr hkr hsqr hCt hWrz hYn hbr heg hbl hq40
        by_cases hlt2 : m < l.length
        · obtain ⟨ga, o, rfl, hat⟩ := actRs_at HA.out (by omega)
          obtain ⟨s1, hs1⟩ : ∃ s1, l[m].2.1 = s1 := ⟨_, rfl⟩
          obtain ⟨c1, c2, c3⟩ := hat wr HG3.out.2.2.2.2.2 m hlt2
          rw [hs1] at c2
          have hok : OkKIS s1 := by rw [← hs1]; exact (HA.out.1 _ (List.getElem_mem hlt2)).2.1
          have m1 : (m : Int) < (l.length : Int) := by omega
          have m2 : decide ((m : Int) < (l.length : Int)) = true := by simp; omega
          have m3 : ¬ (l.length : Int) ≤ (m : Int) := by omega
          have HLv := Lib.hid (leave_w HG3.out.1 HG3.out.2.1 (by omega) hok)
          have HOK := Lib.hid (And.intro hok (And.intro hs1 hat))
          clear hat hok hs1 c1 c3
          gi_wp2_with fail
          refine ⟨trivial, (calls_wide (.inl rfl) HLv.out).mono ?_⟩
          rintro e w7 ⟨xs, Q4, x1, x2, rfl, hto, hl4, hmp⟩
          obtain ⟨t4, b4, tr4, X4, C4, h4, o4⟩ := hto.onto
          obtain ⟨h3, hl3, o3, hid3, hbW, hbw3⟩ := HG3.out
          have o34 := o3.trans o4
          have hbW4 : RowKit.Below w1.heap.size w1 w7 := h3.up o4.2 (Nat.le_refl _) hbW (Nat.le_refl _)
          have hbw4 : RowKit.Below w.heap.size w w7 := H1.out.1.trans (hbW4.mono H1.out.1.size)
          have hid4 : ∀ j k, (j, k) ∈ dropL L3 s1 xs → ∃ q, ∃ h : q < l.length, m + 1 ≤ q ∧ l[q].2.1 = j := fun j k hjk => by
            have hin : (j, k) ∈ L3 := by rw [dropL_filter] at hjk; exact (List.mem_filter.1 hjk).1
            have hne : j ≠ s1 := fun e => dropL_pairs x2 k (e ▸ hjk)
            obtain ⟨q, q1, q2, q3⟩ := hid3 j k hin
            refine ⟨q, q1, ?_, q3⟩
            by_cases e : q = m
            · subst e; exact absurd (q3.symm.trans HOK.out.2.1) hne
            · omega
          have hc0 : (ofQ Q4 s1).length = 0 := by
            refine List.length_eq_zero_iff.2 (List.filter_eq_nil_iff.2 fun e he hm2 => ?_)
            exact dropL_pairs x2 (keyE e) ((hl4.pairs _ _).2 ⟨e, he, rfl, hm2⟩)
          have HCt := Lib.hid (count_any h4 hl4 HOK.out.1 (by omega))
          rw [hc0] at HCt
          obtain ⟨_, cI, _⟩ := HOK.out.2.2 w7 hbw4 m hlt2
          rw [HOK.out.2.1] at cI
          have G6 : Hid (LvS w1.heap.size i p g R C l (m + 1) Wr w7) := Lib.hid ⟨t4, b4, tr4, X4, C4, Q4, _, h4, hl4, o34, hid4⟩
          clear x1 x2 hto hl4 hmp h4 o4 h3 hl3 o3 hid3 hbW hbw3 o34 hbW4 hbw4 hid4 hc0 HLv c2
          gi_wp2_with fail
          refine ⟨trivial, (calls_wide (.inl rfl) HCt.out).mono ?_⟩
          rintro e w8 ⟨rfl, rfl⟩
          gi_wp2_with fail
          go_roundw
          case rel => exact ⟨m + 1, by go_num, by omega, G6⟩
          case measure => simp [RowKit.intOf]; omega
        · have m1 : ¬ (m : Int) < (l.length : Int) := by omega
          have m2 : decide ((m : Int) < (l.length : Int)) = false := by simp; omega
          obtain ⟨h3, hl3, o3, hid3, hbW, hbw3⟩ := HG3.out
          obtain ⟨kr, zr, hkr, hsqr, hCt, hWrz, hYn, hbr, heg, hbl, hq40⟩ := K2.out
          have hQ3 : Q3.length = 0 := by
            cases Q3 with
            | nil => rfl
            | cons e r =>
              exfalso
              have hf := hl3.full e (List.mem_cons_self ..)
              cases hm3 : e.r.mem with
              | nil => exact hf hm3
              | cons a ar =>
                have hh : hasM e.r.mem a.1 = true := hasM_mem.2 ⟨a, by rw [hm3]; exact List.mem_cons_self .., rfl⟩
                obtain ⟨q, q1, q2, _⟩ := hid3 a.1 (keyE e) ((hl3.pairs _ _).2 ⟨e, List.mem_cons_self .., rfl, hh⟩)
                omega
          have HLn := Lib.hid (len_any h3)
          rw [hQ3] at HLn
          have tagY : ∀ k, Y k → C k = tag0 := fun k hk => hCt k (hYn k hk).1
          have hsq3 := hsqr.same fun b2 hb2 => o3.2.block b2 (by have := hYn b2 hb2; omega) (by simp [tagY b2 hb2])
          have kn3 := o3.2.blk kr (by rw [hCt Nb hWrz]; simp)
          have hN3 : wr.heap[N]? = some (.cells #[.bool false] 4 (0, 0)) := (Fr.of_below (X := fun _ => False) (hbW.mono (Nat.le_refl _))).blk H1.out.2.1 fun e => e
          obtain ⟨Nk, hNk⟩ : ∃ Nk, wr.heap.size = Nk := ⟨_, rfl⟩
          obtain ⟨W9, hW9⟩ : ∃ W9, wr.alloc (.cells #[.int .i64 0] 3) = W9 := ⟨_, rfl⟩
          have f9 : Fr (fun _ => False) wr W9 := by rw [← hW9]; exact (Fr.refl _ wr).alloc _
          have k9 : W9.heap[Nk]? = some (.cells #[.int .i64 0] 3 (0, 0)) := by rw [← hW9, ← hNk]; exact heap_alloc_new wr _
          have z9 : W9.heap.size = Nk + 1 := by rw [← hW9, ← hNk]; simp
          have hNbk : Nb < Nk := by have := o3.2.size; omega
          have hsq9 := hsq3.same fun b2 hb2 => f9.block b2 (by have := hYn b2 hb2; omega) fun e => e
          have kn9 := f9.blk kn3 fun e => e
          have hN9 := f9.blk hN3 fun e => e
          have hNn : N < w1.heap.size := blk_lt H1.out.2.1
          have hw1N : w1.heap.size ≤ Nb := by have := HG.out.1.up.size; omega
          have hb9 : RowKit.Below w.heap.size w W9 := hbw3.trans ((f9.below (Nat.le_refl _) fun _ _ e => e.elim).mono hbw3.size)
          have HW9 := Lib.hid (And.intro hW9 hNk)
          have K9 := Lib.hid (And.intro k9 (And.intro z9 (And.intro hNbk (And.intro hsq9 (And.intro kn9 (And.intro hN9 (And.intro hNn (And.intro hw1N (And.intro hb9 (And.intro hYn (And.intro heg hbl)))))))))))
          clear h3 hl3 o3 hid3 hbW hbw3 kr zr hkr hsqr hCt hWrz hYn hbr heg hbl hq40 hQ3 tagY hsq3 kn3 hN3 hNk hW9 f9 k9 z9 hNbk hsq9 kn9 hN9 hNn hw1N hb9
          gi_wp2_with (simp only [hnil])
          refine ⟨trivial, (calls_wide (.inl rfl) HLn.out).mono ?_⟩
          rintro e w8 ⟨rfl, rfl⟩
          gi_wp2_with fail
          rw [HW9.out.2]
          rw [HW9.out.1]
          obtain ⟨k9, z9, hNbk, hsq9, kn9, hN9, hNn, hw1N, hb9, hYn, heg, hbl⟩ := K9.out
          refine wpIn_rangeF (X := fun k => k = Nk) (Y := Y) (xs := bs5) (encs := encRm) (gf := gf) (lb := lb) (CntJ Nk) (fun _ _ _ _ => False)
            rfl hsq9 (fun k hk => ⟨by omega, fun e => by have := hYn k e; omega⟩) (fun b2 hb2 => by have := hYn b2 hb2; omega) (by omega) heg (fun _ => rfl)
            (cntJ_stays _) (fun c s X1 V1 V2 h => h.elim) ⟨k9, fun k => Iff.rfl⟩ ?round ?done (fun _ _ _ _ _ _ _ _ _ _ _ h => h.elim)
          case round =>
            rintro lo pre x r X1 V KK rb hl2 hpx hI hG2 hxl hF hlV hK
            dsimp only [encRm]
            have HKK := Lib.hid hK
            have HV := Lib.hid (And.intro hpx (And.intro hI (And.intro hG2 (And.intro hxl (And.intro hF (And.intro hlV hl2))))))
            clear hK hpx hI hG2 hxl hF hlV hl2 k9 z9 hNbk hsq9 kn9 hN9 hNn hw1N hb9 hYn heg hbl
            gi_wp2_with fail
            refine HKK.out _ _ (Fr.refl _ _) fun Vb hfb hzb hsb hrb => ?_
            clear HKK KK
            obtain ⟨hpx, ⟨j2, hX1⟩, hG2, hxl, hF, hlV, hl2⟩ := HV.out
            obtain ⟨k9, z9, hNbk, hsq9, kn9, hN9, hNn, hw1N, hb9, hYn, heg, hbl⟩ := K9.out
            have hpl : pre.length + 1 ≤ nq := by
              have := congrArg List.length hpx
              simp at this; omega
            have v2 := hfb.blk j2 (fun e => hxl ((hX1 lo).2 (show lo = Nk from e.symm)))
            have vn := hfb.blk (hF.blk kn9 (by omega)) (by omega : ¬ Nb = lo)
            have cc2 := blk_cell v2 0
            have dd2 := blk_free v2 0
            have ccn := blk_cell vn 0
            have p1 : ¬ (nq : Int) < (pre.length : Int) + 1 := by omega
            have p2 : decide ((nq : Int) < (pre.length : Int) + 1) = false := by simp; omega
            have p3 : (pre.length : Int) ≤ 100000 := by omega
            have HE := Lib.hid (And.intro v2 (And.intro hX1 (And.intro hG2 (And.intro hxl (And.intro hfb (And.intro hrb (And.intro hzb (show Nb < Nk from hNbk))))))))
            clear hpx j2 hX1 hG2 hxl hF hlV hl2 k9 z9 hsq9 kn9 hN9 hNn hw1N hb9 hYn heg hbl v2 vn hfb hrb hzb hsb hpl
            gi_wp2_with fail
            obtain ⟨v2, hX1, hG2, hxl, hfb, hrb, hzb, hNbk⟩ := HE.out
            have hf3 : Fr X1 Vb (Vb.setCell ⟨Nk, 0, none⟩ (.int .i64 ((pre.length : Int) + 1))) := (Fr.refl X1 Vb).setCell _ ((hX1 _).2 rfl) _
            refine ⟨X1, fun k hk => ⟨Nat.lt_of_lt_of_le (hG2 k hk).1 (Nat.le_trans hfb.size hf3.size), fun _ => hk⟩, (hfb.mono (Y := fun k => k = lo ∨ X1 k) fun k _ e => .inl e).trans3 hf3 fun k _ e => .inr e, hf3.blk hrb hxl, ?_, hX1⟩
            have := blk_set v2 0 (.int .i64 ((pre.length : Int) + 1))
            rw [List.length_append]
            exact this
          case done =>
            rintro D X2 V hD hxD hG2 hF ⟨j2, hX2⟩ hdef
            have vn := hF.blk kn9 (by omega)
            have v0 := hF.blk hN9 (by omega)
            have bV : RowKit.Below w.heap.size w V := hb9.trans (hF.below hb9.size fun k hk e => by have e2 : k = Nk := e; have := H0.out.2.2.2; omega)
            rw [hbl] at j2
            have HV := Lib.hid (And.intro j2 (And.intro vn (And.intro v0 (And.intro bV (And.intro hdef (And.intro (show N ≠ D by omega) (And.intro (show w.heap.size ≤ D by have := hb9.size; have := H0.out.2.2.2; omega) (show Nb ≠ D by omega))))))))
            have HG9 := Lib.hid (get_nil (bs [35, 97]) V)
            clear hD hxD hG2 hF j2 hX2 hdef k9 z9 hNbk hsq9 kn9 hN9 hNn hw1N hb9 hYn heg hbl vn v0 bV
            gi_wp2_with fail
            refine ⟨trivial, (calls_wide (.inl rfl) HG9.out).mono ?_⟩
            rintro e V1 ⟨rfl, bb1⟩
            have HB1 := Lib.hid bb1
            have HJn := Lib.hid (join_nil 1 [35, 97] (by decide) V1)
            clear bb1 HG9
            gi_wp2_with fail
            refine ⟨trivial, (calls_wide (.inl rfl) HJn.out).mono ?_⟩
            rintro e V2 ⟨rfl, bb2⟩
            have HB2 := Lib.hid (HB1.out.trans (bb2.mono HB1.out.size))
            have HPn := Lib.hid (peers_nil 1 V2)
            clear bb2 HJn
            gi_wp2_with fail
            refine ⟨trivial, (calls_wide (.inl rfl) HPn.out).mono ?_⟩
            rintro e V3 ⟨⟨F3, Y3, rfl, hT3⟩, bb3⟩
            have HB3 := Lib.hid (HB2.out.trans (bb3.mono HB2.out.size))
            have HNu := Lib.hid (numbers_F hT3 (by simp) 0 (by simp) (by omega))
            clear bb3 hT3 HPn
            gi_wp2_with fail
            refine ⟨trivial, (calls_wide (.inl rfl) HNu.out).mono ?_⟩
            rintro e V4 ⟨⟨v4, rfl, ho4⟩, bb4⟩
            have HB4 := Lib.hid (HB3.out.trans (bb4.mono HB3.out.size))
            obtain ⟨A4, c4, rfl⟩ := row_slice ho4
            have f4 : Fr (fun _ => False) V V4 := Fr.of_below HB4.out
            have ck := blk_cell (f4.blk HV.out.1 fun e => e) 0
            have cn := blk_cell (f4.blk HV.out.2.1 fun e => e) 0
            have HPt := Lib.hid (part_nil 1 [35, 97] (by decide) V4)
            clear bb4 ho4 f4 HNu
            gi_wp2_with fail
            refine ⟨trivial, (calls_wide (.inl rfl) HPt.out).mono ?_⟩
            rintro e V5 ⟨rfl, bb⟩
            have HB5 := Lib.hid (HB4.out.trans (bb.mono HB4.out.size))
            have HLn2 := Lib.hid (leave_nil 1 V5)
            clear bb HPt ck cn
            gi_wp2_with fail
            refine ⟨trivial, (calls_wide (.inl rfl) HLn2.out).mono ?_⟩
            rintro e V6 ⟨rfl, bb⟩
            have HB6 := Lib.hid (HB5.out.trans (bb.mono HB5.out.size))
            have HCn := Lib.hid (count_nil 1 V6)
            clear bb HLn2
            gi_wp2_with fail
            refine ⟨trivial, (calls_wide (.inl rfl) HCn.out).mono ?_⟩
            rintro e V6 ⟨rfl, rfl⟩
            have HLe := Lib.hid (len_nil V6)
            clear HCn
            gi_wp2_with fail
            refine ⟨trivial, (calls_wide (.inl rfl) HLe.out).mono ?_⟩
            rintro e V6 ⟨rfl, rfl⟩
            have HCo := Lib.hid (common_nil 1 1 V6)
            clear HLe
            gi_wp2_with fail
            refine ⟨trivial, (calls_wide (.inl rfl) HCo.out).mono ?_⟩
            rintro e V7 ⟨rfl, bb⟩
            have HB7 := Lib.hid (HB6.out.trans (bb.mono HB6.out.size))
            have HAn := Lib.hid (all_nil V7)
            clear bb HCo
            gi_wp2_with fail
            refine ⟨trivial, (calls_wide (.inl rfl) HAn.out).mono ?_⟩
            rintro e V8 ⟨⟨F8, rfl, hT8⟩, bb⟩
            have HB8 := Lib.hid (HB7.out.trans (bb.mono HB7.out.size))
            have HS8 := Lib.hid (same_nil hT8)
            clear bb hT8 HAn
            gi_wp2_with fail
            refine ⟨trivial, (calls_wide (.inl rfl) HS8.out).mono ?_⟩
            rintro e V9 ⟨rfl, bb⟩
            have HB9 := Lib.hid (HB8.out.trans (bb.mono HB8.out.size))
            have HOn := Lib.hid (of_nil 1 V9)
            clear bb HS8
            gi_wp2_with fail
            refine ⟨trivial, (calls_wide (.inl rfl) HOn.out).mono ?_⟩
            rintro e V10 ⟨⟨F10, rfl, hT10⟩, bb⟩
            have HB10 := Lib.hid (HB9.out.trans (bb.mono HB9.out.size))
            have HS10 := Lib.hid (same_nil hT10)
            clear bb hT10 HOn
            gi_wp2_with fail
            refine ⟨trivial, (calls_wide (.inl rfl) HS10.out).mono ?_⟩
            rintro e V11 ⟨rfl, bb⟩
            have hB := HB10.out.trans (bb.mono HB10.out.size)
            have f11 : Fr (fun _ => False) V V11 := Fr.of_below hB
            have v0 := f11.blk HV.out.2.2.1 fun e => e
            have vd := f11.blk HV.out.2.2.2.2.1 fun e => e
            have d0 := blk_free v0 0
            have c0 := blk_cell v0 0
            have HQ := Lib.hid (And.intro v0 (And.intro vd (HV.out.2.2.2.1.trans (hB.mono HV.out.2.2.2.1.size))))
            clear bb hB f11 v0 vd HS10
            gi_wp2_with fail
            obtain ⟨v0, vd, hB⟩ := HQ.out
            have hND := HV.out.2.2.2.2.2.1
            have hNw := H0.out.2.2.2
            obtain ⟨W12, hW12⟩ : ∃ W12, V11.setCell ⟨N, 0, none⟩ (Value.bool true) = W12 := ⟨_, rfl⟩
            have e3 : W12.heap[N]? = some (.cells #[.bool true] 4 (0, 0)) := by rw [← hW12]; exact blk_set v0 0 _
            have d3 : W12.heap[D]? = some (.deferred (some [])) := by rw [← hW12]; exact blk_other vd _ (fun e => hND e.symm) _
            have f5 : RowKit.Below w.heap.size w W12 := by rw [← hW12]; exact hB.setCell (by show w.heap.size ≤ N; omega) _
            (try rw [hW12])
            refine leaves_one D _ d3 fun w' hf => ?_
            have e4 := hf.blk e3 hND
            have hDw : w.heap.size ≤ D := HV.out.2.2.2.2.2.2.1
            exact ⟨.bool true, results_box rfl _ _ N _ _ rfl (blk_cell e4 0) Tryz.underlying4 rfl, rfl, f5.trans (hf.below f5.size fun k _ e => by have e2 : k = D := e; omega)⟩
end Go.Proofs.YtlkeomcillencaaGreat
end
section
/- Layer 20: RoomsPeers. -/
namespace Go.Proofs.YtlkeomcillencaaGreat
open Go Go.RowKit Go.Maps Go.Sort Go.Shelf Go.Lib
attribute [local go_sem] Oper.semAt_some

set_option maxRecDepth 100000 in
set_option maxHeartbeats 32000000 in
theorem roomsPeers_main (A : Option Addr) (l : List zraT) (cc : Nat) (ia ib : Int) (hia : OkKIS ia) (hib : OkKIS ib) (w : World) (hA : ActRs w A l) :
    Calls Tryz.prog 4 #[.slice A l.length cc, .int .i64 ia, .int .i64 ib] w fun e w' => e = .returned (.bool true) ∧ RowKit.Below w.heap.size w w' := by
  have HA := Lib.hid hA
  have HID := Lib.hid (And.intro hia hib)
  clear hA hia hib
  refine (callsIn_wide (n := 30)).1 ?_
  refine callsIn_of_wp_marks Tryz.func4 rfl trivial ?_ rfl
  simp only [Tryz.ntmps4, List.size_toArray, List.length_cons, List.length_nil, Nat.reduceAdd, Nat.reduceSub, Array.replicate_succ, Array.replicate_zero, List.push_toArray, List.append_toArray, List.nil_append, List.cons_append]
  gi_wp2_with fail
  refine ⟨trivial, (calls_wide (.inl rfl) (awake20 w)).mono ?_⟩
  rintro e w1 ⟨rfl, b1⟩
  have H1 := Lib.hid b1
  clear b1
  gi_wp2_with fail
  refine ⟨trivial, (calls_wide (.inl rfl) (great20 HA.out w1 H1.out)).mono ?_⟩
  rintro e w1 ⟨rfl, rfl⟩
  obtain ⟨gr, hgr⟩ : ∃ gr, greatRs l = gr := ⟨_, rfl⟩
  rw [hgr]
  have HGR := Lib.hid hgr
  clear hgr
  cases gr with
  | true =>
    gi_wp2_with fail
    exact leavesF [] _ List.nodup_nil (by simp) fun w' hf => ⟨.bool true, by simp [results, Tryz.results4, go_sem], rfl, H1.out.trans (hf.below H1.out.size fun k _ e => by simp at e)⟩
  | false =>
  have hlim := greatRs_no HGR.out
  have HN := Lib.hid (new_on (mr := 50) (mj := 50) (by decide) (by decide) 3 w1)
  unfold cfgV at HN
  have HLim := Lib.hid hlim
  have hl40 := hlim.1
  clear hlim
  gi_wp2_with fail
  refine ⟨trivial, (calls_wide (.inl rfl) HN.out).mono ?_⟩
  rintro e w2 ⟨R, rfl, h2⟩
  obtain ⟨P, hP⟩ : ∃ P, w2.heap.size = P := ⟨_, rfl⟩
  obtain ⟨w3, hw3⟩ : ∃ w3, w2.alloc (rdO 50 50 3 (.slice none 0 0)) = w3 := ⟨_, rfl⟩
  have G0 : Hid (∃ A2 Xs, Two20 0 0 w1.heap.size 50 50 3 R P A2 Xs w1 w3 ∧ RelL A2 Xs) := Lib.hid ⟨[], [], by rw [← hw3, ← hP]; exact two_new h2 rfl h2.up.size, trivial⟩
  have HW := Lib.hid (And.intro hP hw3)
  unfold rdO at HW
  clear h2 HN hP hw3
  gi_wp2_with fail
  rw [HW.out.1]
  rw [HW.out.2]
  clear HW
  gi_loopw [9] (fun c8 wr => ∃ i : Nat, c8 = .int .i64 i ∧ i ≤ l.length ∧ Hid (∃ A2 Xs, Two20 i i w1.heap.size 50 50 3 R P A2 Xs w1 wr ∧ RelL A2 Xs)) (fun c8 _ => l.length - (RowKit.intOf c8).toNat)
  case atStart => exact ⟨0, rfl, Nat.zero_le _, G0⟩
  case round =>
    obtain ⟨i, rfl, hi, HB⟩ := hrel
    clear G0
    have HG : Hid ((∃ A2 Xs, Two20 i i w1.heap.size 50 50 3 R P A2 Xs w1 wr ∧ RelL A2 Xs) ∧ RowKit.Below w.heap.size w wr) := Lib.hid ⟨HB.out, by
      obtain ⟨A2, Xs, h, _⟩ := HB.out
      exact H1.out.trans (h.up.mono H1.out.size)⟩
    clear HB
    by_cases hlt : i < l.length
    · obtain ⟨ga, o, rfl, hat⟩ := actRs_at HA.out (by omega)
      obtain ⟨s0, hs0⟩ : ∃ s0, l[i].1 = s0 := ⟨_, rfl⟩
      obtain ⟨s1, hs1⟩ : ∃ s1, l[i].2.1 = s1 := ⟨_, rfl⟩
      obtain ⟨s2, hs2⟩ : ∃ s2, l[i].2.2 = s2 := ⟨_, rfl⟩
      have HATB : Hid (∀ W, RowKit.Below w.heap.size w W → W.cell? ⟨ga, o + i * 3 + 1, none⟩ = some (.int .i64 s1) ∧ W.cell? ⟨ga, o + i * 3 + 2, none⟩ = some (.string s2)) := Lib.hid fun W hW => by
        obtain ⟨c1, c2, c3⟩ := hat W hW i hlt
        rw [hs1] at c2; rw [hs2] at c3
        exact ⟨c2, c3⟩
      have HAT : Hid (∀ W, Fr (fun _ => False) wr W → W.cell? ⟨ga, o + i * 3 + 1, none⟩ = some (.int .i64 s1) ∧ W.cell? ⟨ga, o + i * 3 + 2, none⟩ = some (.string s2)) := Lib.hid fun W hW => HATB.out W (HG.out.2.trans (hW.below HG.out.2.size fun _ _ e => e.elim))
      obtain ⟨cK, _, _⟩ := hat wr HG.out.2 i hlt
      rw [hs0] at cK
      have hok : OkKIS s1 := by rw [← hs1]; exact (HA.out.1 _ (List.getElem_mem hlt)).2.1
      have hnm : s2.data.toList.length ≤ 1000 := by have := HLim.out.2 _ (List.getElem_mem hlt); rw [hs2] at this; rw [Array.length_toList]; show s2.size ≤ 1000; omega
      have n1 : (i : Int) < (l.length : Int) := by omega
      have n2 : decide ((i : Int) < (l.length : Int)) = true := by simp; omega
      have n3 : ¬ (l.length : Int) ≤ (i : Int) := by omega
      have HOK := Lib.hid (And.intro hok hnm)
      clear hat hok hnm hs1 hs2 hs0
      by_cases hk1 : s0 = 1
      · subst hk1
        gi_wp2_with fail
        refine wpIn_class_tail (C := fun W => Fr (fun _ => False) wr W) 11 (by kernel_rfl) (by kernel_rfl) (by kernel_rfl) ((Fr.refl (fun _ => False) wr).drew) ?_
        simp only [List.take_succ_cons, List.take_zero, List.drop_succ_cons, List.drop_zero]
        refine quiet_step_w (fun _ => trivial) (fun K hK => ?_)
        go_simp
        first | refine ⟨_, fun _ _ => rfl, hK _ ?_⟩ | refine hK _ ?_
        clear hK K
        refine quiet_step_w (fun _ => trivial) (fun K hK => ?_)
        go_simp
        first | refine ⟨_, fun _ _ => rfl, hK _ ?_⟩ | refine hK _ ?_
        clear hK K
        refine quiet_step_w (fun _ => trivial) (fun K hK => ?_)
        go_simp
        first | refine ⟨_, fun _ _ => rfl, hK _ ?_⟩ | refine hK _ ?_
        clear hK K
        refine quiet_step_w (fun _ => trivial) (fun K hK => ?_)
        go_simp
        first | refine ⟨_, fun _ _ => rfl, hK _ ?_⟩ | refine hK _ ?_
        clear hK K
        refine quiet_step_w (fun _ => trivial) (fun K hK => ?_)
        go_simp
        first | refine ⟨_, fun _ _ => rfl, hK _ ?_⟩ | refine hK _ ?_
        clear hK K
        refine quiet_step_w (fun _ => trivial) (fun K hK => ?_)
        go_simp
        refine ⟨.int .i64 s1, fun W hW => ?_, hK _ ?_⟩
        · obtain ⟨q1, q2⟩ := HAT.out W hW; go_simp
        clear hK K
        refine quiet_step_w (fun _ => trivial) (fun K hK => ?_)
        go_simp
        first | refine ⟨_, fun _ _ => rfl, hK _ ?_⟩ | refine hK _ ?_
        clear hK K
        refine quiet_step_w (fun _ => trivial) (fun K hK => ?_)
        go_simp
        first | refine ⟨_, fun _ _ => rfl, hK _ ?_⟩ | refine hK _ ?_
        clear hK K
        refine quiet_step_w (fun _ => trivial) (fun K hK => ?_)
        go_simp
        first | refine ⟨_, fun _ _ => rfl, hK _ ?_⟩ | refine hK _ ?_
        clear hK K
        refine quiet_step_w (fun _ => trivial) (fun K hK => ?_)
        go_simp
        first | refine ⟨_, fun _ _ => rfl, hK _ ?_⟩ | refine hK _ ?_
        clear hK K
        refine quiet_step_w (fun _ => trivial) (fun K hK => ?_)
        go_simp
        refine ⟨.string s2, fun W hW => ?_, hK _ ?_⟩
        · obtain ⟨q1, q2⟩ := HAT.out W hW; go_simp
        clear hK K
        refine wpQuietIn_nil ?_
        intro V1 hV1
        obtain ⟨A2, Xs, htw, hre⟩ := HG.out.1
        have h5 := htw.below (hV1.below (Nat.le_refl _) fun _ _ e => e.elim)
        have HJ := Lib.hid (two_part_p h5 (Nat.le_refl _) (by omega) HOK.out.1 HOK.out.2)
        rw [show bs s2.data.toList = s2 from rfl] at HJ
        have HRE := Lib.hid hre
        clear hV1 h5 htw hre
        gi_wp2_with fail
        refine ⟨trivial, (calls_wide (.inl rfl) HJ.out).mono ?_⟩
        rintro e w5 ⟨⟨bo, rfl⟩, h6⟩
        have hbw5 : RowKit.Below w.heap.size w w5 := H1.out.trans (h6.up.mono H1.out.size)
        have HAT5 : Hid (∀ W, Fr (fun _ => False) w5 W → W.cell? ⟨ga, o + i * 3 + 1, none⟩ = some (.int .i64 s1) ∧ W.cell? ⟨ga, o + i * 3 + 2, none⟩ = some (.string s2)) := Lib.hid fun W hW => HATB.out W (hbw5.trans (hW.below hbw5.size fun _ _ e => e.elim))
        have H6 := Lib.hid h6
        clear h6 hbw5 HJ
        gi_wp2_with fail
        refine wpIn_class_tail (C := fun W => Fr (fun _ => False) w5 W) 11 (by kernel_rfl) (by kernel_rfl) (by kernel_rfl) ((Fr.refl (fun _ => False) w5).drew) ?_
        simp only [List.take_succ_cons, List.take_zero, List.drop_succ_cons, List.drop_zero]
        refine quiet_step_w (fun _ => trivial) (fun K hK => ?_)
        go_simp
        first | refine ⟨_, fun _ _ => rfl, hK _ ?_⟩ | refine hK _ ?_
        clear hK K
        refine quiet_step_w (fun _ => trivial) (fun K hK => ?_)
        go_simp
        first | refine ⟨_, fun _ _ => rfl, hK _ ?_⟩ | refine hK _ ?_
        clear hK K
        refine quiet_step_w (fun _ => trivial) (fun K hK => ?_)
        go_simp
        first | refine ⟨_, fun _ _ => rfl, hK _ ?_⟩ | refine hK _ ?_
        clear hK K
        refine quiet_step_w (fun _ => trivial) (fun K hK => ?_)
        go_simp
        first | refine ⟨_, fun _ _ => rfl, hK _ ?_⟩ | refine hK _ ?_
        clear hK K
        refine quiet_step_w (fun _ => trivial) (fun K hK => ?_)
        go_simp
        first | refine ⟨_, fun _ _ => rfl, hK _ ?_⟩ | refine hK _ ?_
        clear hK K
        refine quiet_step_w (fun _ => trivial) (fun K hK => ?_)
        go_simp
        refine ⟨.int .i64 s1, fun W hW => ?_, hK _ ?_⟩
        · obtain ⟨q1, q2⟩ := HAT5.out W hW; go_simp
        clear hK K
        refine quiet_step_w (fun _ => trivial) (fun K hK => ?_)
        go_simp
        first | refine ⟨_, fun _ _ => rfl, hK _ ?_⟩ | refine hK _ ?_
        clear hK K
        refine quiet_step_w (fun _ => trivial) (fun K hK => ?_)
        go_simp
        first | refine ⟨_, fun _ _ => rfl, hK _ ?_⟩ | refine hK _ ?_
        clear hK K
        refine quiet_step_w (fun _ => trivial) (fun K hK => ?_)
        go_simp
        first | refine ⟨_, fun _ _ => rfl, hK _ ?_⟩ | refine hK _ ?_
        clear hK K
        refine quiet_step_w (fun _ => trivial) (fun K hK => ?_)
        go_simp
        first | refine ⟨_, fun _ _ => rfl, hK _ ?_⟩ | refine hK _ ?_
        clear hK K
        refine quiet_step_w (fun _ => trivial) (fun K hK => ?_)
        go_simp
        refine ⟨.string s2, fun W hW => ?_, hK _ ?_⟩
        · obtain ⟨q1, q2⟩ := HAT5.out W hW; go_simp
        clear hK K
        refine wpQuietIn_nil ?_
        intro V2 hV2
        have h7 := H6.out.below (hV2.below (Nat.le_refl _) fun _ _ e => e.elim)
        have HJ := Lib.hid (two_part_d h7 (Nat.le_refl _) (by omega) s1 HOK.out.2)
        rw [show bs s2.data.toList = s2 from rfl] at HJ
        clear hV2 h7
        gi_wp2_with fail
        refine ⟨trivial, (calls_wide (.inl rfl) HJ.out).mono ?_⟩
        rintro e w6 ⟨⟨bo2, rfl⟩, h8⟩
        have G5 : Hid (∃ A2 Xs, Two20 (i + 1) (i + 1) w1.heap.size 50 50 3 R P A2 Xs w1 w6 ∧ RelL A2 Xs) := Lib.hid ⟨_, _, h8.more, HRE.out.part s1 _⟩
        clear h8 HJ H6
        gi_wp2_with fail
        go_roundw
        case rel => exact ⟨i + 1, by go_num, by omega, G5⟩
        case measure => simp [RowKit.intOf]; omega
      · have hk2 : (s0 == 1) = false := by simpa using hk1
        gi_wp2_with fail
        refine wpIn_class_tail (C := fun W => Fr (fun _ => False) wr W) 11 (by kernel_rfl) (by kernel_rfl) (by kernel_rfl) ((Fr.refl (fun _ => False) wr).drew) ?_
        simp only [List.take_succ_cons, List.take_zero, List.drop_succ_cons, List.drop_zero]
        refine quiet_step_w (fun _ => trivial) (fun K hK => ?_)
        go_simp
        first | refine ⟨_, fun _ _ => rfl, hK _ ?_⟩ | refine hK _ ?_
        clear hK K
        refine quiet_step_w (fun _ => trivial) (fun K hK => ?_)
        go_simp
        first | refine ⟨_, fun _ _ => rfl, hK _ ?_⟩ | refine hK _ ?_
        clear hK K
        refine quiet_step_w (fun _ => trivial) (fun K hK => ?_)
        go_simp
        first | refine ⟨_, fun _ _ => rfl, hK _ ?_⟩ | refine hK _ ?_
        clear hK K
        refine quiet_step_w (fun _ => trivial) (fun K hK => ?_)
        go_simp
        first | refine ⟨_, fun _ _ => rfl, hK _ ?_⟩ | refine hK _ ?_
        clear hK K
        refine quiet_step_w (fun _ => trivial) (fun K hK => ?_)
        go_simp
        first | refine ⟨_, fun _ _ => rfl, hK _ ?_⟩ | refine hK _ ?_
        clear hK K
        refine quiet_step_w (fun _ => trivial) (fun K hK => ?_)
        go_simp
        refine ⟨.int .i64 s1, fun W hW => ?_, hK _ ?_⟩
        · obtain ⟨q1, q2⟩ := HAT.out W hW; go_simp
        clear hK K
        refine quiet_step_w (fun _ => trivial) (fun K hK => ?_)
        go_simp
        first | refine ⟨_, fun _ _ => rfl, hK _ ?_⟩ | refine hK _ ?_
        clear hK K
        refine quiet_step_w (fun _ => trivial) (fun K hK => ?_)
        go_simp
        first | refine ⟨_, fun _ _ => rfl, hK _ ?_⟩ | refine hK _ ?_
        clear hK K
        refine quiet_step_w (fun _ => trivial) (fun K hK => ?_)
        go_simp
        first | refine ⟨_, fun _ _ => rfl, hK _ ?_⟩ | refine hK _ ?_
        clear hK K
        refine quiet_step_w (fun _ => trivial) (fun K hK => ?_)
        go_simp
        first | refine ⟨_, fun _ _ => rfl, hK _ ?_⟩ | refine hK _ ?_
        clear hK K
        refine quiet_step_w (fun _ => trivial) (fun K hK => ?_)
        go_simp
        refine ⟨.string s2, fun W hW => ?_, hK _ ?_⟩
        · obtain ⟨q1, q2⟩ := HAT.out W hW; go_simp
        clear hK K
        refine wpQuietIn_nil ?_
        intro V1 hV1
        obtain ⟨A2, Xs, htw, hre⟩ := HG.out.1
        have h5 := htw.below (hV1.below (Nat.le_refl _) fun _ _ e => e.elim)
        have HJ := Lib.hid (two_join_p h5 (Nat.le_refl _) (by omega) HOK.out.1 HOK.out.2)
        rw [show bs s2.data.toList = s2 from rfl] at HJ
        have HRE := Lib.hid hre
        clear hV1 h5 htw hre
        gi_wp2_with fail
        refine ⟨trivial, (calls_wide (.inl rfl) HJ.out).mono ?_⟩
        rintro e w5 ⟨⟨p1, m1, rfl⟩, h6⟩
        have hbw5 : RowKit.Below w.heap.size w w5 := H1.out.trans (h6.up.mono H1.out.size)
        have HAT5 : Hid (∀ W, Fr (fun _ => False) w5 W → W.cell? ⟨ga, o + i * 3 + 1, none⟩ = some (.int .i64 s1) ∧ W.cell? ⟨ga, o + i * 3 + 2, none⟩ = some (.string s2)) := Lib.hid fun W hW => HATB.out W (hbw5.trans (hW.below hbw5.size fun _ _ e => e.elim))
        have H6 := Lib.hid h6
        clear h6 hbw5 HJ
        gi_wp2_with fail
        refine wpIn_class_tail (C := fun W => Fr (fun _ => False) w5 W) 11 (by kernel_rfl) (by kernel_rfl) (by kernel_rfl) ((Fr.refl (fun _ => False) w5).drew) ?_
        simp only [List.take_succ_cons, List.take_zero, List.drop_succ_cons, List.drop_zero]
        refine quiet_step_w (fun _ => trivial) (fun K hK => ?_)
        go_simp
        first | refine ⟨_, fun _ _ => rfl, hK _ ?_⟩ | refine hK _ ?_
        clear hK K
        refine quiet_step_w (fun _ => trivial) (fun K hK => ?_)
        go_simp
        first | refine ⟨_, fun _ _ => rfl, hK _ ?_⟩ | refine hK _ ?_
        clear hK K
        refine quiet_step_w (fun _ => trivial) (fun K hK => ?_)
        go_simp
        first | refine ⟨_, fun _ _ => rfl, hK _ ?_⟩ | refine hK _ ?_
        clear hK K
        refine quiet_step_w (fun _ => trivial) (fun K hK => ?_)
        go_simp
        first | refine ⟨_, fun _ _ => rfl, hK _ ?_⟩ | refine hK _ ?_
        clear hK K
        refine quiet_step_w (fun _ => trivial) (fun K hK => ?_)
        go_simp
        first | refine ⟨_, fun _ _ => rfl, hK _ ?_⟩ | refine hK _ ?_
        clear hK K
        refine quiet_step_w (fun _ => trivial) (fun K hK => ?_)
        go_simp
        refine ⟨.int .i64 s1, fun W hW => ?_, hK _ ?_⟩
        · obtain ⟨q1, q2⟩ := HAT5.out W hW; go_simp
        clear hK K
        refine quiet_step_w (fun _ => trivial) (fun K hK => ?_)
        go_simp
        first | refine ⟨_, fun _ _ => rfl, hK _ ?_⟩ | refine hK _ ?_
        clear hK K
        refine quiet_step_w (fun _ => trivial) (fun K hK => ?_)
        go_simp
        first | refine ⟨_, fun _ _ => rfl, hK _ ?_⟩ | refine hK _ ?_
        clear hK K
        refine quiet_step_w (fun _ => trivial) (fun K hK => ?_)
        go_simp
        first | refine ⟨_, fun _ _ => rfl, hK _ ?_⟩ | refine hK _ ?_
        clear hK K
        refine quiet_step_w (fun _ => trivial) (fun K hK => ?_)
        go_simp
        first | refine ⟨_, fun _ _ => rfl, hK _ ?_⟩ | refine hK _ ?_
        clear hK K
        refine quiet_step_w (fun _ => trivial) (fun K hK => ?_)
        go_simp
        refine ⟨.string s2, fun W hW => ?_, hK _ ?_⟩
        · obtain ⟨q1, q2⟩ := HAT5.out W hW; go_simp
        clear hK K
        refine wpQuietIn_nil ?_
        intro V2 hV2
        have h7 := H6.out.below (hV2.below (Nat.le_refl _) fun _ _ e => e.elim)
        have HJ := Lib.hid (two_join_d h7 (Nat.le_refl _) (by omega) s1 HOK.out.2)
        rw [show bs s2.data.toList = s2 from rfl] at HJ
        clear hV2 h7
        gi_wp2_with fail
        refine ⟨trivial, (calls_wide (.inl rfl) HJ.out).mono ?_⟩
        rintro e w6 ⟨⟨p2, m2, rfl⟩, h8⟩
        have G5 : Hid (∃ A2 Xs, Two20 (i + 1) (i + 1) w1.heap.size 50 50 3 R P A2 Xs w1 w6 ∧ RelL A2 Xs) := Lib.hid ⟨_, _, h8, (HRE.out.join 50 50 3 s1 _).1⟩
        clear h8 HJ H6
        gi_wp2_with fail
        go_roundw
        case rel => exact ⟨i + 1, by go_num, by omega, G5⟩
        case measure => simp [RowKit.intOf]; omega
    · have n1 : ¬ (i : Int) < (l.length : Int) := by omega
      have n2 : decide ((i : Int) < (l.length : Int)) = false := by simp; omega
      obtain ⟨A2, Xs, htw, hre⟩ := HG.out.1
      obtain ⟨t, b, tr, X, C, Q, L, v, D, E, h1, h2, h3, h4, h5, h6, h7⟩ := htw.st
      have hi40 : i ≤ 900 := by omega
      obtain ⟨cm, hcm⟩ : ∃ cm, comA A2 ia ib = cm := ⟨_, rfl⟩
      have HPe := Lib.hid (peers_any h1 h2 hi40 HID.out.1)
      have HPd := Lib.hid (fun W (hW : Fr (fun _ => False) wr W) => refPeers_any (h4.fr hW fun _ _ e => e) h5 hi40 ia)
      have HCo : Hid (∀ W, Fr (fun _ => False) wr W → Calls Tryz.prog 30 #[.pointer (some ⟨R, 0, none⟩), .int .i64 ia, .int .i64 ib] W fun e w' => e = .returned (.bool cm) ∧ RowKit.Below W.heap.size W w') := Lib.hid fun W hW => by
        have := common_any (h1.fr hW fun _ _ e => e) h2 hi40 HID.out.1 HID.out.2
        rw [common_map, h3, hcm] at this
        exact this
      have HCr : Hid (∀ W, Fr (fun _ => False) wr W → Calls Tryz.prog 30 #[.pointer (some ⟨R, 0, none⟩), .int .i64 ib, .int .i64 ia] W fun e w' => e = .returned (.bool cm) ∧ RowKit.Below W.heap.size W w') := Lib.hid fun W hW => by
        have := common_any (h1.fr hW fun _ _ e => e) h2 hi40 HID.out.2 HID.out.1
        rw [common_map, h3, comA_comm, hcm] at this
        exact this
      have HCd : Hid (∀ W, Fr (fun _ => False) wr W → Calls Tryz.prog 31 #[.pointer (some ⟨P, 0, none⟩), .int .i64 ia, .int .i64 ib] W fun e w' => e = .returned (.bool cm) ∧ w' = W) := Lib.hid fun W hW => by
        have := refCommon_any (h4.fr hW fun _ _ e => e) h5 (by omega) ia ib
        rw [commonD_map (by rw [h6]; exact hre), hcm] at this
        exact this
      have HM := Lib.hid (And.intro hre (And.intro h6 (And.intro h3 (And.intro h2 hcm))))
      clear htw hre h1 h2 h3 h4 h5 h6 h7 hcm
      gi_wp2_with fail
      refine ⟨trivial, (calls_wide (.inl rfl) HPe.out).mono ?_⟩
      rintro e w5 ⟨⟨F, Y, ps, rfl, hT, hup, hmem, hlen⟩, b5⟩
      have hfew := peers_few HM.out.2.2.2.1 hup hmem
      have HNm : Hid (Calls Tryz.prog 26 #[F, .int .i64 99] w5 (ToldP ps w5)) := Lib.hid (numbers_F hT hlen 99 (by omega) (by omega))
      have hmemA : ∀ j, j ∈ ps ↔ j ≠ ia ∧ ∃ r ∈ A2, hasM r.mem ia = true ∧ hasM r.mem j = true := fun j => by
        rw [hmem]
        constructor
        · rintro ⟨a, e, b, c⟩; exact ⟨a, e.r, by rw [← HM.out.2.2.1]; exact List.mem_map_of_mem b, c⟩
        · rintro ⟨a, r, b, c⟩
          rw [← HM.out.2.2.1] at b
          obtain ⟨e, he, rfl⟩ := List.mem_map.1 b
          exact ⟨a, e, he, c⟩
      have HPs := Lib.hid (And.intro hup (And.intro hmemA (show ps.length ≤ 900 by omega)))
      have HF5 := Lib.hid (Fr.of_below (X := fun _ => False) b5)
      clear hT hup hmem hlen b5 hfew hmemA HPe
      gi_wp2_with fail
      refine ⟨trivial, (calls_wide (.inl rfl) HNm.out).mono ?_⟩
      rintro e w6 ⟨⟨v6, rfl, o6⟩, b6⟩
      obtain ⟨A6, c6, rfl⟩ := row_slice o6
      have HF6 := Lib.hid (HF5.out.trans (Fr.of_below (X := fun _ => False) b6))
      have HR6 := Lib.hid (fun W (hW : Fr (fun _ => False) w6 W) => reads_ownI (row_same o6 fun g hg => hW.block g (World.ownsRow.lt o6 g hg).2 fun e => e))
      clear o6 b6 HNm
      by_cases hab : ia = ib
      · have q1 : (ia == ib) = true := by simpa using hab
        clear hab
        cases cm with
        | true =>
          gi_wp2_with fail
          refine ⟨trivial, (calls_wide (.inl rfl) (HPd.out w6 HF6.out)).mono ?_⟩
          rintro e w7 ⟨⟨v7, xs, rfl, o7, u7, l7, m7⟩, b7⟩
          have hps : ps = xs := peers_same HM.out.1 HM.out.2.1 HPs.out.1 HPs.out.2.1 u7 m7
          subst hps
          obtain ⟨A7, c7, rfl⟩ := row_slice o7
          have f67 : Fr (fun _ => False) w6 w7 := Fr.of_below b7
          have HF7 := Lib.hid (HF6.out.trans f67)
          have HSm := Lib.hid (same10_eq A6 A7 ps ps c6 c7 rfl (by have := HPs.out.2.2; omega) (HR6.out w7 f67) (reads_ownI o7))
          have HF67 := Lib.hid f67
          rw [decide_eq_true (rfl : ps = ps)] at HSm
          clear o7 u7 l7 m7 b7 f67
          gi_wp2_with fail
          refine ⟨trivial, (calls_wide (.inl rfl) HSm.out).mono ?_⟩
          rintro e w8 ⟨rfl, q8, hq8⟩
          have HF8 : Hid (Fr (fun _ => False) wr w8) := Lib.hid (by rw [hq8]; exact HF7.out.drewN q8)
          have HF68 : Hid (Fr (fun _ => False) w6 w8) := Lib.hid (by rw [hq8]; exact HF67.out.drewN q8)
          clear hq8 HSm
          gi_wp2_with fail
          refine ⟨trivial, (calls_wide (.inl rfl) (HCo.out w8 HF8.out)).mono ?_⟩
          rintro e w9 ⟨rfl, b9⟩
          have HF9 := Lib.hid (HF8.out.trans (Fr.of_below b9))
          have HF69 := Lib.hid (HF68.out.trans (Fr.of_below b9))
          clear b9
          gi_wp2_with fail
          refine ⟨trivial, (calls_wide (.inl rfl) (HCd.out w9 HF9.out)).mono ?_⟩
          rintro e w9' ⟨rfl, rfl⟩
          gi_wp2_with fail
          refine ⟨trivial, (calls_wide (.inl rfl) (HCr.out w9' HF9.out)).mono ?_⟩
          rintro e w10 ⟨rfl, b10⟩
          have HF10 := Lib.hid (HF9.out.trans (Fr.of_below b10))
          have HF610 := Lib.hid (HF69.out.trans (Fr.of_below b10))
          clear b10
          gi_wp2_with fail
          refine ⟨trivial, (calls_wide (.inl rfl) (HCo.out w10 HF10.out)).mono ?_⟩
          rintro e w11 ⟨rfl, b11⟩
          have HF11 := Lib.hid (HF10.out.trans (Fr.of_below b11))
          have HF611 := Lib.hid (HF610.out.trans (Fr.of_below b11))
          clear b11
          gi_wp2_with fail
          refine ⟨trivial, ?_⟩
          gi_wp2_with fail
          refine ⟨trivial, ?_⟩
          gi_wp2_with fail
          exact leavesF [] _ List.nodup_nil (by simp) fun w' hf => ⟨.bool true, by simp [results, Tryz.results4, go_sem], rfl, (HG.out.2.trans (HF11.out.below HG.out.2.size fun _ _ e => e.elim)).trans (hf.below (Nat.le_trans HG.out.2.size HF11.out.size) fun k _ e => by simp at e)⟩
        | false =>
          gi_wp2_with fail
          refine ⟨trivial, (calls_wide (.inl rfl) (HPd.out w6 HF6.out)).mono ?_⟩
          rintro e w7 ⟨⟨v7, xs, rfl, o7, u7, l7, m7⟩, b7⟩
          have hps : ps = xs := peers_same HM.out.1 HM.out.2.1 HPs.out.1 HPs.out.2.1 u7 m7
          subst hps
          obtain ⟨A7, c7, rfl⟩ := row_slice o7
          have f67 : Fr (fun _ => False) w6 w7 := Fr.of_below b7
          have HF7 := Lib.hid (HF6.out.trans f67)
          have HSm := Lib.hid (same10_eq A6 A7 ps ps c6 c7 rfl (by have := HPs.out.2.2; omega) (HR6.out w7 f67) (reads_ownI o7))
          have HF67 := Lib.hid f67
          rw [decide_eq_true (rfl : ps = ps)] at HSm
          clear o7 u7 l7 m7 b7 f67
          gi_wp2_with fail
          refine ⟨trivial, (calls_wide (.inl rfl) HSm.out).mono ?_⟩
          rintro e w8 ⟨rfl, q8, hq8⟩
          have HF8 : Hid (Fr (fun _ => False) wr w8) := Lib.hid (by rw [hq8]; exact HF7.out.drewN q8)
          have HF68 : Hid (Fr (fun _ => False) w6 w8) := Lib.hid (by rw [hq8]; exact HF67.out.drewN q8)
          clear hq8 HSm
          gi_wp2_with fail
          refine ⟨trivial, (calls_wide (.inl rfl) (HCo.out w8 HF8.out)).mono ?_⟩
          rintro e w9 ⟨rfl, b9⟩
          have HF9 := Lib.hid (HF8.out.trans (Fr.of_below b9))
          have HF69 := Lib.hid (HF68.out.trans (Fr.of_below b9))
          clear b9
          gi_wp2_with fail
          refine ⟨trivial, (calls_wide (.inl rfl) (HCd.out w9 HF9.out)).mono ?_⟩
          rintro e w9' ⟨rfl, rfl⟩
          gi_wp2_with fail
          refine ⟨trivial, (calls_wide (.inl rfl) (HCr.out w9' HF9.out)).mono ?_⟩
          rintro e w10 ⟨rfl, b10⟩
          have HF10 := Lib.hid (HF9.out.trans (Fr.of_below b10))
          have HF610 := Lib.hid (HF69.out.trans (Fr.of_below b10))
          clear b10
          gi_wp2_with fail
          refine ⟨trivial, (calls_wide (.inl rfl) (HCo.out w10 HF10.out)).mono ?_⟩
          rintro e w11 ⟨rfl, b11⟩
          have HF11 := Lib.hid (HF10.out.trans (Fr.of_below b11))
          have HF611 := Lib.hid (HF610.out.trans (Fr.of_below b11))
          clear b11
          gi_wp2_with fail
          refine ⟨trivial, ?_⟩
          gi_wp2_with fail
          refine ⟨trivial, ?_⟩
          gi_wp2_with fail
          exact leavesF [] _ List.nodup_nil (by simp) fun w' hf => ⟨.bool true, by simp [results, Tryz.results4, go_sem], rfl, (HG.out.2.trans (HF11.out.below HG.out.2.size fun _ _ e => e.elim)).trans (hf.below (Nat.le_trans HG.out.2.size HF11.out.size) fun k _ e => by simp at e)⟩
      · have q1 : (ia == ib) = false := by simpa using hab
        have HCn := Lib.hid ((peers_has HPs.out.2.1 hab).trans HM.out.2.2.2.2)
        clear hab
        cases cm with
        | true =>
          gi_wp2_with fail
          refine ⟨trivial, (calls_wide (.inl rfl) (HPd.out w6 HF6.out)).mono ?_⟩
          rintro e w7 ⟨⟨v7, xs, rfl, o7, u7, l7, m7⟩, b7⟩
          have hps : ps = xs := peers_same HM.out.1 HM.out.2.1 HPs.out.1 HPs.out.2.1 u7 m7
          subst hps
          obtain ⟨A7, c7, rfl⟩ := row_slice o7
          have f67 : Fr (fun _ => False) w6 w7 := Fr.of_below b7
          have HF7 := Lib.hid (HF6.out.trans f67)
          have HSm := Lib.hid (same10_eq A6 A7 ps ps c6 c7 rfl (by have := HPs.out.2.2; omega) (HR6.out w7 f67) (reads_ownI o7))
          have HF67 := Lib.hid f67
          rw [decide_eq_true (rfl : ps = ps)] at HSm
          clear o7 u7 l7 m7 b7 f67
          gi_wp2_with fail
          refine ⟨trivial, (calls_wide (.inl rfl) HSm.out).mono ?_⟩
          rintro e w8 ⟨rfl, q8, hq8⟩
          have HF8 : Hid (Fr (fun _ => False) wr w8) := Lib.hid (by rw [hq8]; exact HF7.out.drewN q8)
          have HF68 : Hid (Fr (fun _ => False) w6 w8) := Lib.hid (by rw [hq8]; exact HF67.out.drewN q8)
          clear hq8 HSm
          gi_wp2_with fail
          refine ⟨trivial, (calls_wide (.inl rfl) (HCo.out w8 HF8.out)).mono ?_⟩
          rintro e w9 ⟨rfl, b9⟩
          have HF9 := Lib.hid (HF8.out.trans (Fr.of_below b9))
          have HF69 := Lib.hid (HF68.out.trans (Fr.of_below b9))
          clear b9
          gi_wp2_with fail
          refine ⟨trivial, (calls_wide (.inl rfl) (HCd.out w9 HF9.out)).mono ?_⟩
          rintro e w9' ⟨rfl, rfl⟩
          gi_wp2_with fail
          refine ⟨trivial, (calls_wide (.inl rfl) (HCr.out w9' HF9.out)).mono ?_⟩
          rintro e w10 ⟨rfl, b10⟩
          have HF10 := Lib.hid (HF9.out.trans (Fr.of_below b10))
          have HF610 := Lib.hid (HF69.out.trans (Fr.of_below b10))
          clear b10
          gi_wp2_with fail
          refine ⟨trivial, (calls_wide (.inl rfl) (HCo.out w10 HF10.out)).mono ?_⟩
          rintro e w11 ⟨rfl, b11⟩
          have HF11 := Lib.hid (HF10.out.trans (Fr.of_below b11))
          have HF611 := Lib.hid (HF610.out.trans (Fr.of_below b11))
          clear b11
          gi_wp2_with fail
          have HHs := Lib.hid (has10 A6 ps c6 ib (by have := HPs.out.2.2; omega) (HR6.out w11 HF611.out))
          rw [HCn.out] at HHs
          refine ⟨trivial, (calls_wide (.inl rfl) HHs.out).mono ?_⟩
          rintro e w11 ⟨rfl, rfl⟩
          gi_wp2_with fail
          refine ⟨trivial, (calls_wide (.inl rfl) (HCo.out w11 HF11.out)).mono ?_⟩
          rintro e w12 ⟨rfl, b12⟩
          have HF12 := Lib.hid (HF11.out.trans (Fr.of_below b12))
          clear b12
          gi_wp2_with fail
          exact leavesF [] _ List.nodup_nil (by simp) fun w' hf => ⟨.bool true, by simp [results, Tryz.results4, go_sem], rfl, (HG.out.2.trans (HF12.out.below HG.out.2.size fun _ _ e => e.elim)).trans (hf.below (Nat.le_trans HG.out.2.size HF12.out.size) fun k _ e => by simp at e)⟩
        | false =>
          gi_wp2_with fail
          refine ⟨trivial, (calls_wide (.inl rfl) (HPd.out w6 HF6.out)).mono ?_⟩
          rintro e w7 ⟨⟨v7, xs, rfl, o7, u7, l7, m7⟩, b7⟩
          have hps : ps = xs := peers_same HM.out.1 HM.out.2.1 HPs.out.1 HPs.out.2.1 u7 m7
          subst hps
          obtain ⟨A7, c7, rfl⟩ := row_slice o7
          have f67 : Fr (fun _ => False) w6 w7 := Fr.of_below b7
          have HF7 := Lib.hid (HF6.out.trans f67)
          have HSm := Lib.hid (same10_eq A6 A7 ps ps c6 c7 rfl (by have := HPs.out.2.2; omega) (HR6.out w7 f67) (reads_ownI o7))
          have HF67 := Lib.hid f67
          rw [decide_eq_true (rfl : ps = ps)] at HSm
          clear o7 u7 l7 m7 b7 f67
          gi_wp2_with fail
          refine ⟨trivial, (calls_wide (.inl rfl) HSm.out).mono ?_⟩
          rintro e w8 ⟨rfl, q8, hq8⟩
          have HF8 : Hid (Fr (fun _ => False) wr w8) := Lib.hid (by rw [hq8]; exact HF7.out.drewN q8)
          have HF68 : Hid (Fr (fun _ => False) w6 w8) := Lib.hid (by rw [hq8]; exact HF67.out.drewN q8)
          clear hq8 HSm
          gi_wp2_with fail
          refine ⟨trivial, (calls_wide (.inl rfl) (HCo.out w8 HF8.out)).mono ?_⟩
          rintro e w9 ⟨rfl, b9⟩
          have HF9 := Lib.hid (HF8.out.trans (Fr.of_below b9))
          have HF69 := Lib.hid (HF68.out.trans (Fr.of_below b9))
          clear b9
          gi_wp2_with fail
          refine ⟨trivial, (calls_wide (.inl rfl) (HCd.out w9 HF9.out)).mono ?_⟩
          rintro e w9' ⟨rfl, rfl⟩
          gi_wp2_with fail
          refine ⟨trivial, (calls_wide (.inl rfl) (HCr.out w9' HF9.out)).mono ?_⟩
          rintro e w10 ⟨rfl, b10⟩
          have HF10 := Lib.hid (HF9.out.trans (Fr.of_below b10))
          have HF610 := Lib.hid (HF69.out.trans (Fr.of_below b10))
          clear b10
          gi_wp2_with fail
          refine ⟨trivial, (calls_wide (.inl rfl) (HCo.out w10 HF10.out)).mono ?_⟩
          rintro e w11 ⟨rfl, b11⟩
          have HF11 := Lib.hid (HF10.out.trans (Fr.of_below b11))
          have HF611 := Lib.hid (HF610.out.trans (Fr.of_below b11))
          clear b11
          gi_wp2_with fail
          have HHs := Lib.hid (has10 A6 ps c6 ib (by have := HPs.out.2.2; omega) (HR6.out w11 HF611.out))
          rw [HCn.out] at HHs
          refine ⟨trivial, (calls_wide (.inl rfl) HHs.out).mono ?_⟩
          rintro e w11 ⟨rfl, rfl⟩
          gi_wp2_with fail
          refine ⟨trivial, (calls_wide (.inl rfl) (HCo.out w11 HF11.out)).mono ?_⟩
          rintro e w12 ⟨rfl, b12⟩
          have HF12 := Lib.hid (HF11.out.trans (Fr.of_below b12))
          clear b12
          gi_wp2_with fail
          exact leavesF [] _ List.nodup_nil (by simp) fun w' hf => ⟨.bool true, by simp [results, Tryz.results4, go_sem], rfl, (HG.out.2.trans (HF12.out.below HG.out.2.size fun _ _ e => e.elim)).trans (hf.below (Nat.le_trans HG.out.2.size HF12.out.size) fun k _ e => by simp at e)⟩

end Go.Proofs.YtlkeomcillencaaGreat
end
section
/- A law's last step where the call has made memory of its own, of whatever sort: what lay before lies as it lay, so each argument reads as it read. -/
namespace Go.Proofs.YtlkeomcillencaaGreat
open Go Go.RowKit Go.WideShapes Go.ChangeShapes

theorem post_below {H : Type} {enc : TypeId × Value → H} {P : Program} {f : Func} {s : ChangeSpec} {apart fresh handsOn again : Bool} {W W' : World} {args : Array Value} {v : Value} {ds gs : List (DataW H)} {all pa pv : List MemPlace}
    (hW : DataW.Whole enc P f.params.toList s.vars apart W args.toList ds gs all)
    (hr : ∀ (b : Nat) (sp : Nat → Bool) (hd : Bool), DataW.TrodAll enc P W' b sp hd f.resultTypes.toList (v.resultList f.resultTypes.size) (s.fn H (ds ++ gs)).results [])
    (ha : ∀ sp : Nat → Bool, (∀ p ∈ all, sp p.block = true) → DataW.TrodAll enc P W' 0 sp true f.params.toList args.toList (s.fn H (ds ++ gs)).args pa)
    (hv : ∀ sp : Nat → Bool, (∀ p ∈ all, sp p.block = true) → DataW.TrodVars enc P W' sp s.vars (s.fn H (ds ++ gs)).vars pv)
    (hpl : all = pa ++ pv) (hB : Below W.heap.size W W')
    (hok : ∀ (j : Nat) (t : TypeId) (r : Value), f.resultTypes[j]? = some t → (v.resultList f.resultTypes.size)[j]? = some r → Value.okWide P W' .any 0 t r) :
    s.post enc P f apart fresh handsOn again W args v W' := by
  have low : ∀ p ∈ all, p.block < W.heap.size := fun p hp => hW.lt p hp
  refine ⟨ds, gs, all, [], pa, pv, hW, hr _ _ _, ha (fun b => decide (b < W.heap.size)) fun p hp => by simpa using low p hp, hv (fun b => decide (b < W.heap.size)) fun p hp => by simpa using low p hp,
    World.keptBut_mono (fun p hp => ⟨hp, .inr (by rw [hpl, List.mem_append] at hp; exact hp)⟩) (hB.frame (· ∈ all)), fun _ => ?_⟩
  obtain ⟨_, _, _, _, _, hfrozen, hapart⟩ := hW
  have same : ∀ p : MemPlace, p ∈ ([] ++ pa) ++ pv → p ∈ all := fun p hp => by rw [hpl]; simpa using hp
  refine ⟨hok, _, _, ([] ++ pa) ++ pv, ⟨[] ++ pa, pv, trodAll_append (ha _ fun _ _ => rfl) (hr _ _ _), hv _ fun _ _ => rfl, rfl, fun b off hp => ?_, fun h => ?_⟩, fun p hp _ => ?_⟩
  · rw [hB.frozen (low _ (same _ hp))]
    exact hfrozen b off (same _ hp)
  · have := hapart h
    rw [hpl] at this
    simpa using this
  · rw [hpl]
    simpa using hp
end Go.Proofs.YtlkeomcillencaaGreat
end
