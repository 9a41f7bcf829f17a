/- Texts of this proof, one behind the other. -/
import Derived.Test.YtlkeomcillencaaGreatRoomsPeersG13
import Derived.Test.YtlkeomcillencaaGreatRoomsPeersG9
import Derived.Test.YtlkeomcillencaaGreatRoomsPeersG6
import Derived.Test.YtlkeomcillencaaGreatRoomsPeersG7
import Derived.OwnWalk
set_option linter.unusedVariables false
set_option linter.unusedSimpArgs false
section
/- Layer 20: Of. -/
namespace Go.Proofs.YtlkeomcillencaaGreat
open Go Go.RowKit Go.Maps Go.Sort Go.Shelf Go.Lib
attribute [local go_sem] Oper.semAt_some

/-- where the room under a folded name lies -/
def bkE (Q : List RmE) (k : List UInt8) : Nat := ((getE Q k).map (·.B)).getD 0
/-- what Of gives -/
def OfRs (Q : List RmE) (id : Int) (w : World) (e : Ending) (w' : World) : Prop := (∃ (F : Value) (S : List RmE), e = .returned F ∧ TalePr w.heap.size w' F (S.map (·.B)) ∧ (S.Pairwise fun x y => keyE x < keyE y) ∧ S.Perm (ofQ Q id)) ∧ RowKit.Below w.heap.size w w'
/-- somebody's folded names, rising, and the rooms that they mean -/
theorem ofQ_row {n : Nat} {Q : List RmE} {L : List (Int × List UInt8)} (hl : RsLg n Q L) (hk : (Q.map keyE).Nodup) {id : Int} {xs : List (List UInt8)} (h1 : xs.Pairwise (· < ·)) (h2 : ∀ k, k ∈ xs ↔ (id, k) ∈ L) :
    ∃ S : List RmE, S.Perm (ofQ Q id) ∧ S.map keyE = xs ∧ xs.map (bkE Q) = S.map (·.B) ∧ (S.Pairwise fun x y => keyE x < keyE y) ∧ (∀ k ∈ xs, foldL k = k ∧ ∃ e, getE Q k = some e ∧ e ∈ Q) ∧ (∀ e ∈ S, e ∈ Q ∧ hasM e.r.mem id = true) := by
  obtain ⟨S, s1, s2⟩ := perm_map_lift (hl.of_perm hk h1 h2) _ rfl
  have hSQ : ∀ e ∈ S, e ∈ Q ∧ hasM e.r.mem id = true := fun e he => by
    have := s1.mem_iff.1 he
    exact ⟨(List.mem_filter.1 this).1, (List.mem_filter.1 this).2⟩
  have hget : ∀ e ∈ S, getE Q (keyE e) = some e := fun e he => getE_of hk (hSQ e he).1
  refine ⟨S, s1, s2, ?_, ?_, fun k hk2 => ?_, hSQ⟩
  · rw [← s2, List.map_map]
    refine List.map_congr_left fun e he => ?_
    show bkE Q (keyE e) = e.B
    unfold bkE
    rw [hget e he]; rfl
  · rw [← s2, List.pairwise_map] at h1
    exact h1
  · rw [← s2] at hk2
    obtain ⟨e, he, rfl⟩ := List.mem_map.1 hk2
    exact ⟨by unfold keyE; exact foldL_idem _, e, hget e he, (hSQ e he).1⟩
set_option maxRecDepth 100000 in
set_option maxHeartbeats 8000000 in
theorem of_any {base : Nat} {w : World} {R t b tr : Nat} {X : Nat → Prop} {C : Nat → Tag} {mr mj mb : Int} {Q : List RmE} {L : List (Int × List UInt8)} (h : RsPh base w R t b tr X C mr mj mb Q L) {n : Nat} (hl : RsLg n Q L) (hn : n ≤ 80000) {id : Int} (hid : OkKIS id) :
    Calls Tryz.prog 25 #[.pointer (some ⟨R, 0, none⟩), .int .i64 id] w (OfRs Q id w) := by
  obtain ⟨i0, hi, hz0, hz1, hz2⟩ := info_parts Tryz.infoPr
  obtain ⟨xs, x1, x2, x3, x4⟩ := ofAtIS h.rel (by have := hl.llen; omega) hid
  obtain ⟨S, hS1, hS2, hSB, hSk, hSx, hSQ⟩ := ofQ_row hl h.keys x1 x2
  have hxl : xs.length ≤ 100000 := by have := hl.llen; omega
  have hnx : ∀ k ∈ xs, k.length ≤ 1000000 := fun k hk => by have := hl.keyLen ((x2 k).1 hk); omega
  obtain ⟨N, hN⟩ : ∃ N, w.heap.size = N := ⟨_, rfl⟩
  obtain ⟨w1, hw1⟩ : ∃ w1, (w.alloc (Obj.cells #[.pointer (some ⟨R, 0, none⟩)] 25)).alloc (Obj.cells #[Value.slice none 0 0] 104) = w1 := ⟨_, rfl⟩
  have z1 : w1.heap.size = N + 2 := by rw [← hw1, ← hN]; simp
  have f1 : Fr (fun _ => False) w w1 := by rw [← hw1]; exact ((Fr.refl _ w).alloc _).alloc _
  have hb0 : w1.heap[N]? = some (.cells #[.pointer (some ⟨R, 0, none⟩)] 25 (0, 0)) := by rw [← hw1, ← hN]; exact blk_alloc (heap_alloc_new w _) _
  have hb1 : w1.heap[N + 1]? = some (.cells #[.slice none 0 0] 104 (0, 0)) := by rw [← hw1, ← hN]; exact heap_alloc2_new w _ _
  have h1 := h.fr f1 fun _ _ e => e
  have hC : ∀ k, N ≤ k → C k = tag0 := fun k hk => h.cN k (by omega)
  have HR := Lib.hid (joined_any h1)
  have HA := Lib.hid (x4 w1 f1)
  have H := Lib.hid (And.intro f1 (And.intro hb0 (And.intro hb1 (And.intro z1 (And.intro h1 (And.intro hC (And.intro hSB (And.intro hSk (And.intro hSx (And.intro hnx hS1))))))))))
  have HW := Lib.hid (And.intro hN hw1)
  have c0 := blk_cell hb0 0
  clear h h1 f1 hb0 hb1 z1 hw1 hl hn hid x1 x2 x3 x4 hS2 hSB hSk hSx hSQ hS1 hN hC hnx
  refine (callsIn_wide (n := 20)).1 ?_
  refine callsIn_of_wp_marks Tryz.func25 rfl trivial ?_ rfl
  simp only [Tryz.ntmps25, List.size_toArray, List.length_cons, List.length_nil, Nat.reduceAdd, Nat.reduceSub, Array.replicate_succ, Array.replicate_zero, List.push_toArray, List.append_toArray, List.nil_append, List.cons_append]
  gi_wp2_with fail
  rw [HW.out.1]
  rw [HW.out.2]
  refine ⟨trivial, (calls_wide (.inl rfl) HR.out).mono ?_⟩
  rintro e w2 ⟨rfl, rfl⟩
  clear HR c0
  gi_wp2_with fail
  refine ⟨trivial, (calls_wide (.inl rfl) HA.out).mono ?_⟩
  rintro e w3 ⟨⟨F, rfl, hT⟩, hb3⟩
  clear HA
  have f3 : Fr (fun _ => False) w2 w3 := Fr.of_below hb3
  obtain ⟨Y, hYb, gf, lb, rfl, hseq, hYl, heg⟩ := tellsT_tale (show TaleT w2.heap.size w3 F xs from hT) (by omega)
  obtain ⟨f1, hb0, hb1, z1, h1, hC, hSB, hSk, hSx, hnx, hS1⟩ := H.out
  have z3 := f3.size
  have j0 := f3.blk hb0 fun e => e
  have j1 := f3.blk hb1 fun e => e
  have h3 := h1.fr f3 fun _ _ e => e
  have hY3 : ∀ k, Y k → N + 2 ≤ k := fun k hk => by have := hYb k hk; omega
  have hN := HW.out.1
  have K := Lib.hid (And.intro f3 (And.intro j0 (And.intro j1 (And.intro h3 (And.intro z3 hN)))))
  clear hT hb3 f1 hb0 hb1 h1 HW
  gi_wp2_with fail
  refine wpIn_rangeF (X := fun k => k = N + 1) (Y := Y) (xs := xs) (encs := encL) (gf := gf) (lb := lb) (BoxPr (N + 1) w3.heap.size (List.map (bkE Q))) (fun _ _ _ _ => False)
    rfl hseq (fun k hk => ⟨by omega, fun e => by have := hY3 k e; omega⟩) hYl (by omega) heg (fun _ => rfl)
    (boxPr_stays _ _ _) (fun c s X1 V1 V2 h => h.elim) ⟨_, j1, ownPr_nil _ _, by omega, fun k => by simp [Value.ownBlock]⟩ ?round ?done (fun _ _ _ _ _ _ _ _ _ _ _ h => h.elim)
  case round =>
    rintro l pre x r X1 V KK rb hl2 hpx hI hG hxl2 hF hlV hK
    have hxm : x ∈ xs := by rw [← hpx]; simp
    obtain ⟨hfx, f, hgx, hfQ⟩ := hSx x hxm
    have hxlen := hnx x hxm
    dsimp only [encL]
    have HK := Lib.hid hK
    have HV := Lib.hid (And.intro hpx (And.intro hI (And.intro hG (And.intro hxl2 (And.intro hF (And.intro hlV hl2))))))
    have HX := Lib.hid (And.intro hfx (And.intro hgx hxlen))
    clear hK hpx hI hG hxl2 hF hlV hl2 hseq hYl heg hYb hY3 z1 z3 j0 j1 h3 hSB hSk hSx hS1 hC f3 hN hxm hfx hgx hfQ hxlen hnx
    gi_wp2_with fail
    refine HK.out _ _ (Fr.refl _ _) fun Vb hfb hzb hsb hrb => ?_
    clear HK KK
    obtain ⟨hpx, ⟨vb, k3, o3, hSl, hX1⟩, hG, hxl2, hF, hlV, hl2⟩ := HV.out
    obtain ⟨f3, j0, j1, h3, z3, hN⟩ := K.out
    have z1 := H.out.2.2.2.1
    have hC := H.out.2.2.2.2.2.1
    have hpl : pre.length + 1 ≤ xs.length := by
      have := congrArg List.length hpx
      simp at this; omega
    have k3b := hfb.blk k3 (by omega : ¬ N + 1 = l)
    have o3b : OwnPr w3.heap.size Vb vb (pre.map (bkE Q)) := ownPr_kept o3 fun g hg => hfb.block g (o3.lt g hg).2 fun e => hxl2 ((hX1 l).2 (.inr (e ▸ hg)))
    have v0 := hfb.blk (hF.blk j0 (by omega)) (by omega : ¬ N = l)
    have cc0 := blk_cell v0 0
    have hVz := hF.size
    have hb : RsPh base Vb R t b tr X C mr mj mb Q L := (h3.fr hF fun k hk e => hk (hC k (by omega))).fr hfb fun k hk e => hk (hC k (by have : k = l := e; omega))
    have HGt := Lib.hid (get_any hb x HX.out.2.2)
    unfold GetP at HGt
    rw [HX.out.1, HX.out.2.1] at HGt
    dsimp only [ptE, Option.map_some, Option.map_none, Option.isSome_some, Option.isSome_none] at HGt
    have hzs : Vb.heap.size = V.heap.size := hzb
    have HU := Lib.hid (And.intro k3b (And.intro o3b (And.intro hfb (And.intro hrb (And.intro hzs (And.intro hpl (And.intro hpx (And.intro hSl (And.intro hX1 (And.intro hG (And.intro hxl2 (And.intro hF (And.intro hlV hl2)))))))))))))
    clear hpx k3 o3 hSl hX1 hG hxl2 hF hlV hl2 f3 j0 j1 h3 z3 hN z1 hC k3b o3b v0 hVz hb hfb hzb hsb hrb hzs hpl
    gi_wp2_with fail
    refine ⟨trivial, (calls_wide (.inr ⟨l, rfl⟩) HGt.out).mono ?_⟩
    rintro e W1 ⟨rfl, bw⟩
    obtain ⟨k3b, o3b, hfb, hrb, hzs, hpl, hpx, hSl, hX1, hG, hxl2, hF, hlV, hl2⟩ := HU.out
    have fw : Fr (fun _ => False) Vb W1 := Fr.of_below bw
    have k3c := fw.blk k3b fun e => e
    have o3c : OwnPr w3.heap.size W1 vb (pre.map (bkE Q)) := ownPr_kept o3b fun g hg => fw.block g (o3b.lt g hg).2 fun e => e
    have hrc := fw.blk hrb fun e => e
    have hzc := fw.size
    have c3 := blk_cell k3c 0
    have hVz := hF.size
    have hbz : w3.heap.size ≤ W1.heap.size := by omega
    have hfc : Fr (fun k => k = l) V W1 := hfb.trans3 fw fun _ _ e => e.elim
    obtain ⟨ps, hps⟩ : ∃ ps, pre.map (bkE Q) = ps := ⟨_, rfl⟩
    have hpsl : ps.length ≤ 1000000 := by rw [← hps, List.length_map]; omega
    rw [hps] at o3c
    have hor : W1.ownsRow w3.heap.size 37 1 vb ps.length (ps.map encPr) := o3c
    have HO := Lib.hid hor
    obtain ⟨B, hB⟩ : ∃ B, f.B = B := ⟨_, rfl⟩
    rw [hB]
    have hbk : bkE Q x = B := by unfold bkE; rw [HX.out.2.1, ← hB]; rfl
    have HE := Lib.hid (And.intro (And.intro hX1 hbk) (And.intro hG (And.intro hxl2 (And.intro hfc (And.intro hrc (And.intro k3c (And.intro o3c (And.intro hzc (And.intro hlV (And.intro hSl (And.intro hl2 hps)))))))))))
    have hzV : V.heap.size ≤ W1.heap.size := by omega
    have HZ := Lib.hid hzV
    clear hX1 hbk hG hxl2 hfc hrc k3c o3c hzc hlV hSl hl2 hps hor hpx hF fw bw hfb hrb hzs hpl k3b o3b cc0 hVz hB HGt hzV
    have hlen : ∀ W, (Builtin.len_ #[104] 3 #[vb]).run Tryz.prog W = .ok (.int .i64 ps.length) W := fun W => by obtain ⟨A, cp, rfl⟩ := row_slice HO.out; rfl
    gi_wp2_with (first | (gi_at_builtin; refine Hid.out ?_) | simp only [hlen])
    refine Lib.hid ?_
    refine wpListIn_one_t rfl _ _ 104 rfl w3.heap.size 37 i0 _ 1 8 Tryz.underlying104 hi hz0 hz1 hz2 rfl (by decide) _ _ _ rfl HO.out #[.pointer (some ⟨B, 0, none⟩)] _ rfl rfl rfl (by intro u hu; simp at hu; subst hu; rfl) (by omega) (by decide) hbz ?_
    intro v1 W2 hown1 hfr1 htie
    obtain ⟨A1, c1', rfl⟩ := row_slice hown1
    have hn3 : ∀ k, vb.ownBlock = some k → k ≠ N + 1 := fun k hk e => by have := (HO.out.lt k hk).1; have := HE.out.2.2.2.2.2.2.2.2.2.1; omega
    have e1 : W2.heap[N + 1]? = some (.cells #[vb] 104 (0, 0)) := hfr1.blk HE.out.2.2.2.2.2.1 fun e => hn3 _ e rfl
    have g1 := blk_cell e1 0
    have g2 := blk_free e1 0
    have HNn := Lib.hid hn3
    clear hn3
    gi_wp2_with fail
    obtain ⟨⟨hX1, hbk⟩, hG, hxl2, hfc, hrc, k3c, o3c, hzc, hlV, hSl, hl2, hps⟩ := HE.out
    have hn3 := HNn.out
    have hown2 : OwnPr w3.heap.size W2 (.slice A1 (ps.length + 1) c1') (ps ++ [B]) := ownPr_snoc hown1
    have hnx : (Value.slice A1 (ps.length + 1) c1').ownBlock ≠ some (N + 1) := fun e => by have := (hown2.lt _ e).1; omega
    have hfr : Fr (fun k => k = l ∨ X1 k) V (W2.setCell ⟨N + 1, 0, none⟩ (.slice A1 (ps.length + 1) c1')) :=
      (((hfc.mono (Y := fun k => k = l ∨ X1 k) fun k _ e => .inl e).trans3 hfr1 fun k _ e => .inr ((hX1 k).2 (.inr e)))).setCell _ (.inr ((hX1 _).2 (.inl rfl))) _
    refine ⟨fun k => k = N + 1 ∨ (Value.slice A1 (ps.length + 1) c1').ownBlock = some k, fun k hk => ?_, hfr, ?_, .slice A1 (ps.length + 1) c1', blk_set e1 0 _, ?_, hSl, fun k => Iff.rfl⟩
    · have hz2 := hfr1.size
      have hzV := HZ.out
      have hsz : (W2.setCell ⟨N + 1, 0, none⟩ (.slice A1 (ps.length + 1) c1')).heap.size = W2.heap.size := by simp
      rw [hsz]
      rcases hk with rfl | hk
      · exact ⟨blk_lt e1, fun _ => (hX1 _).2 (.inl rfl)⟩
      · refine ⟨(hown2.lt k hk).2, fun hlt => ?_⟩
        rcases htie k hk with e | e
        · exact (hX1 k).2 (.inr e)
        · omega
    · have hl3 : ¬ vb.ownBlock = some l := fun e => hxl2 ((hX1 l).2 (.inr e))
      exact blk_other (hfr1.blk hrc hl3) _ (by simp; omega) _
    · have hmap : (pre ++ [x]).map (bkE Q) = ps ++ [B] := by rw [List.map_append, hps, List.map_cons, hbk]; rfl
      rw [hmap]
      exact ownPr_kept hown2 fun g hg => heap_setCell_other W2 _ g _ fun e => by simp at e; exact hnx (e ▸ hg)
  case done =>
    rintro D X2 V hD hxD hG hF ⟨v, k3, o3, hSl, hX2⟩ hdef
    obtain ⟨A, cp, rfl⟩ := row_slice o3
    rw [hSB] at o3 k3 hX2
    obtain ⟨sb, hsb⟩ : ∃ sb, S.map (·.B) = sb := ⟨_, rfl⟩
    rw [hsb] at o3 k3 hX2
    have HSB := Lib.hid hsb
    clear hsb
    have c3 := blk_cell k3 0
    have HV := Lib.hid (values_callsPr A sb.length cp V)
    have HE := Lib.hid (And.intro k3 (And.intro o3 (And.intro hF (And.intro hdef (And.intro hxD (And.intro hX2 (And.intro hSl hD)))))))
    clear k3 o3 hF hdef hxD hX2 hSl hD hG hseq hYl heg hYb hY3 z1 z3 j0 j1 h3 hSB hSk hSx hS1 hC f3 hN hnx
    gi_wp2_with fail
    refine ⟨trivial, (calls_wide (.inl rfl) HV.out).mono ?_⟩
    intro e W4 hv
    obtain ⟨k3, o3, hF, hdef, hxD, hX2, hSl, hD⟩ := HE.out
    have hV3 : w3.heap.size ≤ V.heap.size := hF.size
    obtain ⟨F, rfl, hT, hb⟩ := tale_ofPr hV3 o3 hv
    have d4 := (Fr.of_below (X := fun _ => False) hb).blk hdef fun e => e
    have HQ := Lib.hid (And.intro hT (And.intro hb d4))
    clear k3 o3 hF hdef hxD hX2 hSl hD hT hb d4 hv c3 HV hV3
    gi_wp2_with fail
    obtain ⟨hT, hb, d4⟩ := HQ.out
    obtain ⟨k3, o3, hF, hdef, hxD, hX2, hSl, hD⟩ := HE.out
    obtain ⟨f3, j0, j1, h3, z3, hN⟩ := K.out
    obtain ⟨f1, hb0, hb1, z1, h1, hC, hSB, hSk, hSx, hnx, hS1⟩ := H.out
    have f4 : RowKit.Below w.heap.size w W4 := by
      have h5 : Fr (fun k => k = N + 1) w V := ((f1.mono (Y := fun k => k = N + 1) fun _ _ e => e.elim).trans3 f3 fun _ _ e => e.elim).trans3 hF fun k _ e => e
      exact (h5.below (Nat.le_refl _) fun k hk e => by omega).trans (hb.mono h5.size)
    refine leaves_one D _ d4 fun w' hf => ?_
    refine ⟨F, by simp [results, Tryz.results25, go_sem], ⟨F, S, rfl, ?_, hSk, hS1⟩, f4.trans (hf.below f4.size fun k _ e => by omega)⟩
    rw [HSB.out]
    obtain ⟨B, v, t1, t2, t3, t4, t5⟩ := hT
    have hBn : B ≠ D := fun e => by rw [e, d4] at t3; cases t3
    refine ⟨B, v, by omega, t2, hf.blk t3 hBn, t4, ownPr_base (ownPr_kept t5 fun g hg => hf.block g (t5.lt g hg).2 fun e => ?_) (by omega)⟩
    rcases t5.2 with ⟨q1, _⟩ | ⟨g2, cap, cur, q1, _, q2, _⟩
    · rw [q1] at hg; cases hg
    · rw [q1] at hg; cases hg
      have e2 : g2 = D := e
      rw [e2, d4] at q2; cases q2
end Go.Proofs.YtlkeomcillencaaGreat
end
section
/- Layer 11: a relation of numbers and texts: Drop. -/
namespace Go.Proofs.YtlkeomcillencaaGreat
open Go Go.RowKit Go.Maps Go.Lib
attribute [local go_sem] Oper.semAt_some

def dropL (L : List (Int × List UInt8)) (a : Int) (pre : List (List UInt8)) : List (Int × List UInt8) := pre.foldl (fun M b => lessLIS M a b) L
theorem dropL_snoc (L : List (Int × List UInt8)) (a : Int) (pre : List (List UInt8)) (x : List UInt8) : dropL L a (pre ++ [x]) = lessLIS (dropL L a pre) a x := by unfold dropL; rw [List.foldl_append]; rfl
theorem dropL_filter (a : Int) : ∀ (pre : List (List UInt8)) (L : List (Int × List UInt8)), dropL L a pre = L.filter fun p => decide (∀ b ∈ pre, p ≠ (a, b))
  | [], L => by
    unfold dropL
    rw [List.foldl_nil, List.filter_eq_self.2]
    intro p _; simp
  | x :: r, L => by
    show dropL (lessLIS L a x) a r = _
    rw [dropL_filter a r]
    unfold lessLIS
    rw [List.filter_filter]
    refine List.filter_congr fun p _ => ?_
    simp [Bool.and_comm]
theorem dropL_all {L : List (Int × List UInt8)} {a : Int} {xs : List (List UInt8)} (h : ∀ b, b ∈ xs ↔ (a, b) ∈ L) : dropL L a xs = L.filter fun p => decide (p.1 ≠ a) := by
  rw [dropL_filter]
  refine List.filter_congr fun p hp => ?_
  rw [decide_eq_decide]
  constructor
  · intro h1 e
    exact h1 p.2 ((h p.2).2 (by rw [← e]; exact hp)) (by rw [← e])
  · intro h1 b _ e
    exact h1 (by rw [e])
theorem dropL_len (L : List (Int × List UInt8)) (a : Int) (pre : List (List UInt8)) : (dropL L a pre).length ≤ L.length := by rw [dropL_filter]; exact List.length_filter_le _ _
theorem dropL_ok {L : List (Int × List UInt8)} {a : Int} {pre : List (List UInt8)} (h : L.Nodup) : (dropL L a pre).Nodup := by rw [dropL_filter]; exact h.sublist List.filter_sublist
/-- how far Drop has come -/
def DropJ (base B t : Nat) (a : Int) (most : Int) (L : List (Int × List UInt8)) (pre : List (List UInt8)) (X : Nat → Prop) (W : World) : Prop :=
  W.heap[B]? = some (.cells #[.pointer (some ⟨t, 0, none⟩)] 76 (0, 0)) ∧ W.heap[B + 1]? = some (.cells #[.int .i64 a] 3 (0, 0)) ∧ W.heap[B + 2]? = some (.cells #[.int .i64 (pre.length : Int)] 3 (0, 0)) ∧
    ∃ Xr, RelAtIS base W t Xr most (dropL L a pre) ∧ (∀ k, Xr k → k ≠ B ∧ k ≠ B + 1 ∧ k ≠ B + 2) ∧ ∀ k, X k ↔ (k = B ∨ k = B + 1 ∨ k = B + 2 ∨ Xr k)
theorem dropJ_stays (base B t : Nat) (a : Int) (most : Int) (L : List (Int × List UInt8)) : Stays (DropJ base B t a most L) := fun pre X V V' ⟨h1, h2, h3, Xr, h4, h5, h6⟩ hl hf =>
  ⟨hf.blk h1 (fun e => e ((h6 _).2 (.inl rfl))), hf.blk h2 (fun e => e ((h6 _).2 (.inr (.inl rfl)))), hf.blk h3 (fun e => e ((h6 _).2 (.inr (.inr (.inl rfl))))), Xr, h4.fr hf fun j hj e => e ((h6 j).2 (.inr (.inr (.inr hj)))), h5, h6⟩
/-- what Drop does -/
def DropR (base t : Nat) (X : Nat → Prop) (most : Int) (L : List (Int × List UInt8)) (a : Int) (w : World) (e : Ending) (w' : World) : Prop :=
  ∃ X' : Nat → Prop, ∃ xs : List (List UInt8), xs.Pairwise (· < ·) ∧ (∀ b, b ∈ xs ↔ (a, b) ∈ L) ∧ e = .returned (.int .i64 (xs.length : Nat)) ∧ (∀ j, X' j → X j ∨ w.heap.size ≤ j) ∧ Fr X w w' ∧ RelAtIS base w' t X' most (L.filter fun p => decide (p.1 ≠ a))
end Go.Proofs.YtlkeomcillencaaGreat
end
section
/- Layer 20: what Part makes of the rooms, as a list. -/
namespace Go.Proofs.YtlkeomcillencaaGreat
open Go Go.RowKit Go.Maps Go.Lib

/-- a room of which somebody is no member any more; none, if nobody is left -/
def partR (id : Int) (k : List UInt8) (r : Rm) : Option Rm := if foldL r.nm = k ∧ hasM r.mem id = true then (if delMb r.mem id = [] then none else some (dropR r id)) else some r
def partA (A : List Rm) (id : Int) (k : List UInt8) : List Rm := A.filterMap (partR id k)
/-- parted from one behind the other -/
def leaveA (A : List Rm) (id : Int) (ks : List (List UInt8)) : List Rm := ks.foldl (fun A k => partA A id k) A
theorem leaveA_snoc (A : List Rm) (id : Int) (ks : List (List UInt8)) (k : List UInt8) : leaveA A id (ks ++ [k]) = partA (leaveA A id ks) id k := by unfold leaveA; rw [List.foldl_append]; rfl
theorem partR_oth {id : Int} {k : List UInt8} {r : Rm} (h : foldL r.nm ≠ k) : partR id k r = some r := if_neg fun e => h e.1
theorem partR_no {id : Int} {k : List UInt8} {r : Rm} (h : hasM r.mem id = false) : partR id k r = some r := if_neg fun e => by rw [h] at e; cases e.2
theorem filterMap_same {α : Type} {g : α → Option α} : ∀ {A : List α}, (∀ a ∈ A, g a = some a) → A.filterMap g = A
  | [], _ => rfl
  | a :: A, h => by
    rw [List.filterMap_cons_some (h a (List.mem_cons_self ..)), filterMap_same fun x hx => h x (List.mem_cons_of_mem _ hx)]
theorem partA_mid {Q1 Q2 : List RmE} {f : RmE} {id : Int} (hk : ((Q1 ++ f :: Q2).map keyE).Nodup) : partA ((Q1 ++ f :: Q2).map (·.r)) id (keyE f) = Q1.map (·.r) ++ ((partR id (keyE f) f.r).toList ++ Q2.map (·.r)) := by
  have h1 : (Q1.map (·.r)).filterMap (partR id (keyE f)) = Q1.map (·.r) := filterMap_same fun a ha => by
    obtain ⟨e, he, rfl⟩ := List.mem_map.1 ha
    exact partR_oth (keys_oth hk (.inl he))
  have h2 : (Q2.map (·.r)).filterMap (partR id (keyE f)) = Q2.map (·.r) := filterMap_same fun a ha => by
    obtain ⟨e, he, rfl⟩ := List.mem_map.1 ha
    exact partR_oth (keys_oth hk (.inr he))
  unfold partA
  rw [List.map_append, List.filterMap_append, h1, List.map_cons]
  congr 1
  cases hp : partR id (keyE f) f.r with
  | none => rw [List.filterMap_cons_none hp, h2]; rfl
  | some r => rw [List.filterMap_cons_some hp, h2]; rfl
theorem partA_not {n : Nat} {Q : List RmE} {L : List (Int × List UInt8)} (hl : RsLg n Q L) {id : Int} {k : List UInt8} (h : (id, k) ∉ L) : partA (Q.map (·.r)) id k = Q.map (·.r) := filterMap_same fun a ha => by
  obtain ⟨e, he, rfl⟩ := List.mem_map.1 ha
  refine if_neg fun e2 => h ((hl.pairs id k).2 ⟨e, he, e2.1, e2.2⟩)
/-- Part, in one word -/
def PartW (base R n : Nat) (C : Nat → Tag) (mr mj mb : Int) (Q : List RmE) (L : List (Int × List UInt8)) (id : Int) (k : List UInt8) (w : World) (e : Ending) (w' : World) : Prop :=
  e = .returned (.bool (decide ((id, k) ∈ L))) ∧ ∃ Q', RsTo base R C mr mj mb Q' (lessLIS L id k) w w' ∧ RsLg n Q' (lessLIS L id k) ∧ Q'.map (·.r) = partA (Q.map (·.r)) id k
theorem PartP.to {base : Nat} {w w' : World} {e : Ending} {R t b tr n : Nat} {X : Nat → Prop} {C : Nat → Tag} {mr mj mb : Int} {Q : List RmE} {L : List (Int × List UInt8)} (h : RsPh base w R t b tr X C mr mj mb Q L) (hl : RsLg n Q L) {id : Int} {k : List UInt8} (hp : PartP base R C mr mj mb Q L id k w e w') : PartW base R n C mr mj mb Q L id k w e w' := by
  rcases hp with ⟨h1, rfl, h2⟩ | ⟨Q1, f, Q2, rfl, rfl, hm, rfl, hc⟩
  · refine ⟨by rw [decide_eq_false h1], Q, ?_, ?_, (partA_not hl h1).symm⟩
    · rw [lessNotIS h1]; exact h2
    · rw [lessNotIS h1]; exact hl
  · have hin : (id, keyE f) ∈ L := (hl.pairs _ _).2 ⟨f, by simp, rfl, hm⟩
    have hu : UpM f.r.mem := (h.each f (by simp)).2.2.2.2.2.2
    have hkk := h.keys
    rcases hc with ⟨hd, hto⟩ | ⟨hd, q', hto⟩
    · refine ⟨by rw [decide_eq_true hin], Q1 ++ Q2, hto, lg_gone hl hkk hu hm hd, ?_⟩
      have : partR id (keyE f) f.r = none := by unfold partR; rw [if_pos ⟨rfl, hm⟩, if_pos hd]
      rw [partA_mid hkk, this, List.map_append]; rfl
    · refine ⟨by rw [decide_eq_true hin], _, hto, lg_drop hl hkk hu hm hd q', ?_⟩
      have : partR id (keyE f) f.r = some (dropR f.r id) := by unfold partR; rw [if_pos ⟨rfl, hm⟩, if_neg hd]
      rw [partA_mid hkk, this, List.map_append]; rfl
theorem part_w {base : Nat} {w : World} {R t b tr n : Nat} {X : Nat → Prop} {C : Nat → Tag} {mr mj mb : Int} {Q : List RmE} {L : List (Int × List UInt8)} (h : RsPh base w R t b tr X C mr mj mb Q L) (hl : RsLg n Q L) (hn : n ≤ 80000) {id : Int} (hid : OkKIS id) {nm : List UInt8} (hnm : nm.length ≤ 1000) :
    Calls Tryz.prog 10 #[.pointer (some ⟨R, 0, none⟩), .int .i64 id, .string (bs nm)] w (PartW base R n C mr mj mb Q L id (foldL nm) w) := (part_any h hl hn hid hnm).mono fun e w' hp => hp.to h hl
/-- Join, as a list -/
def addA (A : List Rm) (id : Int) (k : List UInt8) : List Rm := A.map fun r => if foldL r.nm = k then addR r id false else r
def getA (A : List Rm) (k : List UInt8) : Option Rm := A.find? fun r => decide (foldL r.nm = k)
def ofA (A : List Rm) (id : Int) : List Rm := A.filter fun r => hasM r.mem id
theorem getA_map (Q : List RmE) (k : List UInt8) : getA (Q.map (·.r)) k = (getE Q k).map (·.r) := by unfold getA getE; rw [List.find?_map]; rfl
theorem ofA_map (Q : List RmE) (id : Int) : ofA (Q.map (·.r)) id = (ofQ Q id).map (·.r) := by unfold ofA ofQ; rw [List.filter_map]; rfl
/-- what there is behind Join, and what it answers -/
def joinA (mr mj mb : Int) (A : List Rm) (id : Int) (nm : List UInt8) : List Rm × Option Rm :=
  match getA A (foldL nm) with
  | some r => if hasM r.mem id then (A, some r) else if mj ≤ ((ofA A id).length : Int) then (A, none) else (addA A id (foldL nm), some (addR r id false))
  | none => if mj ≤ ((ofA A id).length : Int) ∨ mr ≤ (A.length : Int) then (A, none) else (A ++ [addR (rm0 nm mb) id true], some (addR (rm0 nm mb) id true))
/-- Join, in one word: the room that is given is that of the name -/
def JoinW (base R n : Nat) (C : Nat → Tag) (mr mj mb : Int) (Q : List RmE) (L : List (Int × List UInt8)) (id : Int) (nm : List UInt8) (w : World) (e : Ending) (w' : World) : Prop :=
  ∃ Q' L', RsTo base R C mr mj mb Q' L' w w' ∧ RsLg (n + 1) Q' L' ∧ Q'.map (·.r) = (joinA mr mj mb (Q.map (·.r)) id nm).1 ∧
    ((joinA mr mj mb (Q.map (·.r)) id nm).2 = none ∧ e = .returned (.tuple #[.pointer none, .int .i64 405]) ∨ ∃ f ∈ Q', (joinA mr mj mb (Q.map (·.r)) id nm).2 = some f.r ∧ e = .returned (.tuple #[.pointer (some ⟨f.B, 0, none⟩), .int .i64 0]))
theorem addA_mid {Q1 Q2 : List RmE} {f : RmE} {id : Int} (hk : ((Q1 ++ f :: Q2).map keyE).Nodup) : addA ((Q1 ++ f :: Q2).map (·.r)) id (keyE f) = Q1.map (·.r) ++ addR f.r id false :: Q2.map (·.r) := by
  have same : ∀ (P : List RmE), (∀ e ∈ P, keyE e ≠ keyE f) → addA (P.map (·.r)) id (keyE f) = P.map (·.r) := fun P hP => by
    unfold addA
    rw [List.map_map]
    refine List.map_congr_left fun e he => ?_
    show (if foldL e.r.nm = keyE f then _ else _) = _
    exact if_neg (hP e he)
  have h1 := same Q1 fun e he => keys_oth hk (.inl he)
  have h2 := same Q2 fun e he => keys_oth hk (.inr he)
  unfold addA at h1 h2 ⊢
  rw [List.map_append, List.map_append, h1, List.map_cons, List.map_cons, h2, if_pos (show foldL f.r.nm = keyE f from rfl)]
theorem JoinP.to {base : Nat} {w w' : World} {e : Ending} {R t b tr n : Nat} {X : Nat → Prop} {C : Nat → Tag} {mr mj mb : Int} {Q : List RmE} {L : List (Int × List UInt8)} (h : RsPh base w R t b tr X C mr mj mb Q L) (hl : RsLg n Q L) {id : Int} {nm : List UInt8} (hnm : nm.length ≤ 1000) (hp : JoinP base R C mr mj mb Q L id nm w e w') : JoinW base R n C mr mj mb Q L id nm w e w' := by
  have hof : (ofA (Q.map (·.r)) id).length = (ofQ Q id).length := by rw [ofA_map, List.length_map]
  rcases hp with ⟨f, hg, hm, rfl, hto⟩ | ⟨hm, hfull, rfl, hto⟩ | ⟨Q1, f, Q2, q', rfl, hk, hm, hlt, rfl, hto⟩ | ⟨hg, hlt, hq, B, q, rfl, hto⟩
  · have hj : joinA mr mj mb (Q.map (·.r)) id nm = (Q.map (·.r), some f.r) := by unfold joinA; rw [getA_map, hg]; simp only [Option.map_some]; rw [if_pos hm]
    exact ⟨Q, L, hto, hl.more (Nat.le_succ n), by rw [hj], .inr ⟨f, (getE_mem hg).1, by rw [hj], rfl⟩⟩
  · have hj : joinA mr mj mb (Q.map (·.r)) id nm = (Q.map (·.r), none) := by
      unfold joinA
      rw [getA_map]
      cases hg : getE Q (foldL nm) with
      | some f =>
        simp only [Option.map_some]
        rw [hm f hg, hof]
        rcases hfull with a | ⟨a, _⟩
        · rw [if_neg (by simp), if_pos a]
        · rw [hg] at a; cases a
      | none =>
        simp only [Option.map_none]
        rw [hof, List.length_map]
        refine if_pos ?_
        rcases hfull with a | ⟨_, a⟩
        · exact .inl a
        · exact .inr a
    exact ⟨Q, L, hto, hl.more (Nat.le_succ n), by rw [hj], .inl ⟨by rw [hj], rfl⟩⟩
  · have hkk := h.keys
    have hg := getE_of hkk (e := f) (by simp)
    rw [hk] at hg
    have hj : joinA mr mj mb ((Q1 ++ f :: Q2).map (·.r)) id nm = (addA ((Q1 ++ f :: Q2).map (·.r)) id (foldL nm), some (addR f.r id false)) := by
      unfold joinA; rw [getA_map, hg]; simp only [Option.map_some]
      rw [hm, hof, if_neg (by simp), if_neg (by omega)]
    refine ⟨_, _, hto, ?_, ?_, .inr ⟨⟨f.B, q', addR f.r id false⟩, by simp, by rw [hj], rfl⟩⟩
    · rw [← hk]; exact lg_upd hl hm q' false
    · rw [hj, ← hk, addA_mid hkk, List.map_append, List.map_cons]
  · have hj : joinA mr mj mb (Q.map (·.r)) id nm = (Q.map (·.r) ++ [addR (rm0 nm mb) id true], some (addR (rm0 nm mb) id true)) := by
      unfold joinA; rw [getA_map, hg]; simp only [Option.map_none]
      rw [hof, List.length_map, if_neg (by omega)]
    exact ⟨_, _, hto, lg_new hl nm hnm mb B q true, by rw [hj, List.map_append]; rfl, .inr ⟨⟨B, q, addR (rm0 nm mb) id true⟩, by simp, by rw [hj], rfl⟩⟩
theorem join_w {base : Nat} {w : World} {R t b tr n : Nat} {X : Nat → Prop} {C : Nat → Tag} {mr mj mb : Int} {Q : List RmE} {L : List (Int × List UInt8)} (h : RsPh base w R t b tr X C mr mj mb Q L) (hl : RsLg n Q L) (hn : n ≤ 80000) {id : Int} (hid : OkKIS id) {nm : List UInt8} (hnm : nm.length ≤ 1000) :
    Calls Tryz.prog 14 #[.pointer (some ⟨R, 0, none⟩), .int .i64 id, .string (bs nm)] w (JoinW base R n C mr mj mb Q L id nm w) := (join_any h hl hn hid hnm).mono fun e w' hp => hp.to h hl hnm
end Go.Proofs.YtlkeomcillencaaGreat
end
section
/- Layer 20: Leave. -/
namespace Go.Proofs.YtlkeomcillencaaGreat
open Go Go.RowKit Go.Maps Go.Lib
attribute [local go_sem] Oper.semAt_some

theorem dropL_pairs {L : List (Int × List UInt8)} {id : Int} {xs : List (List UInt8)} (h : ∀ b, b ∈ xs ↔ (id, b) ∈ L) (k : List UInt8) : (id, k) ∉ dropL L id xs := by
  rw [dropL_all h, List.mem_filter]
  simp
/-- how far Leave has come -/
def LeaJ (base N R n : Nat) (C : Nat → Tag) (S0 : Nat) (mr mj mb : Int) (Q : List RmE) (L : List (Int × List UInt8)) (id : Int) (pre : List (List UInt8)) (X : Nat → Prop) (W : World) : Prop :=
  W.heap[N + 2]? = some (.cells #[.int .i64 (pre.length : Int)] 3 (0, 0)) ∧ ∃ t b tr Xr C' Q', RsPh base W R t b tr Xr C' mr mj mb Q' (dropL L id pre) ∧ (∀ k, k < S0 → C' k = C k) ∧ RsLg n Q' (dropL L id pre) ∧ Q'.map (·.r) = leaveA (Q.map (·.r)) id pre ∧ ∀ k, X k ↔ (k = N + 2 ∨ C' k ≠ tag0)
theorem leaJ_stays (base N R n : Nat) (C : Nat → Tag) (S0 : Nat) (mr mj mb : Int) (Q : List RmE) (L : List (Int × List UInt8)) (id : Int) : Stays (LeaJ base N R n C S0 mr mj mb Q L id) := fun pre X V V' ⟨h1, t, b, tr, Xr, C', Q', h2, h3, h4, h5, h6⟩ hl hf =>
  ⟨hf.blk h1 (fun e => e ((h6 _).2 (.inl rfl))), t, b, tr, Xr, C', Q', h2.fr hf fun k hk e => e ((h6 k).2 (.inr hk)), h3, h4, h5, h6⟩
/-- what Leave does -/
def LeaveW (base R n : Nat) (C : Nat → Tag) (mr mj mb : Int) (Q : List RmE) (L : List (Int × List UInt8)) (id : Int) (w : World) (e : Ending) (w' : World) : Prop :=
  ∃ xs Q' , xs.Pairwise (· < ·) ∧ (∀ k, k ∈ xs ↔ (id, k) ∈ L) ∧ e = .returned (.int .i64 (xs.length : Nat)) ∧ RsTo base R C mr mj mb Q' (dropL L id xs) w w' ∧ RsLg n Q' (dropL L id xs) ∧ Q'.map (·.r) = leaveA (Q.map (·.r)) id xs
set_option maxRecDepth 100000 in
set_option maxHeartbeats 16000000 in
theorem leave_w {base : Nat} {w : World} {R t b tr n : Nat} {X : Nat → Prop} {C : Nat → Tag} {mr mj mb : Int} {Q : List RmE} {L : List (Int × List UInt8)} (h : RsPh base w R t b tr X C mr mj mb Q L) (hl : RsLg n Q L) (hn : n ≤ 80000) {id : Int} (hid : OkKIS id) :
    Calls Tryz.prog 12 #[.pointer (some ⟨R, 0, none⟩), .int .i64 id] w (LeaveW base R n C mr mj mb Q L id w) := by
  obtain ⟨xs, x1, x2, x3, x4⟩ := ofAtIS h.rel (by have := hl.llen; omega) hid
  obtain ⟨S, hS1, hS2, hSB, hSk, hSx, hSQ⟩ := ofQ_row hl h.keys x1 x2
  have hxl : xs.length ≤ 80000 := by have := hl.llen; omega
  have hnx : ∀ k ∈ xs, k.length ≤ 1000 ∧ foldL k = k := fun k hk => ⟨hl.keyLen ((x2 k).1 hk), (hSx k hk).1⟩
  obtain ⟨N, hN⟩ : ∃ N, w.heap.size = N := ⟨_, rfl⟩
  obtain ⟨w1, hw1⟩ : ∃ w1, ((w.alloc (Obj.cells #[.pointer (some ⟨R, 0, none⟩)] 25)).alloc (Obj.cells #[Value.int .i64 id] 3)).alloc (Obj.cells #[Value.int .i64 0] 3) = w1 := ⟨_, rfl⟩
  have z1 : w1.heap.size = N + 3 := by rw [← hw1, ← hN]; simp
  have f1 : Fr (fun _ => False) w w1 := by rw [← hw1]; exact (((Fr.refl _ w).alloc _).alloc _).alloc _
  have k0 : w1.heap[N]? = some (.cells #[.pointer (some ⟨R, 0, none⟩)] 25 (0, 0)) := by rw [← hw1, ← hN]; exact blk_alloc (blk_alloc (heap_alloc_new w _) _) _
  have k1 : w1.heap[N + 1]? = some (.cells #[.int .i64 id] 3 (0, 0)) := by rw [← hw1, ← hN]; exact blk_alloc (heap_alloc2_new w _ _) _
  have k2 : w1.heap[N + 2]? = some (.cells #[.int .i64 0] 3 (0, 0)) := by
    rw [← hw1, ← hN]
    have := heap_alloc2_new (w.alloc (Obj.cells #[.pointer (some ⟨R, 0, none⟩)] 25)) (Obj.cells #[Value.int .i64 id] 3) (Obj.cells #[Value.int .i64 0] 3)
    rwa [World.size_alloc] at this
  have h1 := h.fr f1 fun _ _ e => e
  have hC : ∀ k, N ≤ k → C k = tag0 := fun k hk => h.cN k (by omega)
  have HBX := Lib.hid (fun W (hW : Fr (fun _ => False) w1 W) => (And.intro (blk_cell (hW.blk k0 fun e => e) 0) (And.intro (blk_cell (hW.blk k1 fun e => e) 0) (h1.fr hW fun _ _ e => e))))
  have H := Lib.hid (And.intro f1 (And.intro k0 (And.intro k1 (And.intro k2 (And.intro z1 (And.intro h1 (And.intro hC (And.intro x1 (And.intro x2 (And.intro hnx (And.intro hl (And.intro hid hn))))))))))))
  have HA := Lib.hid x4
  have HW := Lib.hid hw1
  have HBB := Lib.hid hN
  clear h h1 f1 k0 k1 k2 z1 hw1 hl hn hid x1 x2 x3 x4 hS2 hSB hSk hSx hSQ hS1 hN hC hnx
  refine (callsIn_wide (n := 30)).1 ?_
  refine callsIn_of_wp_marks Tryz.func12 rfl trivial ?_ rfl
  simp only [Tryz.ntmps12, List.size_toArray, List.length_cons, List.length_nil, Nat.reduceAdd, Nat.reduceSub, Array.replicate_succ, Array.replicate_zero, List.push_toArray, List.append_toArray, List.nil_append, List.cons_append]
  gi_wp2_with fail
  rw [HW.out, HBB.out]
  refine wpIn_class_tail (C := fun W => Fr (fun _ => False) w1 W) 3 (by kernel_rfl) (by kernel_rfl) (by kernel_rfl) ((Fr.refl (fun _ => False) w1).drew) ?_
  simp only [List.take_succ_cons, List.take_zero, List.drop_succ_cons, List.drop_zero]
  refine quiet_step_w (fun _ => trivial) (fun K hK => ?_)
  go_simp
  refine ⟨.pointer (some ⟨R, 0, none⟩), fun W hW => ?_, hK _ ?_⟩
  · obtain ⟨s0, s1, s2⟩ := HBX.out W hW; go_simp
  clear hK K
  refine quiet_step_w (fun _ => trivial) (fun K hK => ?_)
  go_simp
  refine ⟨.pointer (some ⟨tr, 0, none⟩), fun W hW => ?_, hK _ ?_⟩
  · refine (calls_wide (.inl rfl) (joined_any (HBX.out W hW).2.2)).mono ?_
    rintro e W2 ⟨rfl, rfl⟩; exact ⟨rfl, hW⟩
  clear hK K
  refine quiet_step_w (fun _ => trivial) (fun K hK => ?_)
  go_simp
  refine ⟨.int .i64 id, fun W hW => ?_, hK _ ?_⟩
  · obtain ⟨s0, s1, s2⟩ := HBX.out W hW; go_simp
  clear hK K
  refine wpQuietIn_nil ?_
  intro V1 hV1
  have HV1 := Lib.hid hV1
  clear hV1
  have HOf := Lib.hid (HA.out V1 (H.out.1.trans HV1.out))
  clear HA
  gi_wp2_with fail
  refine ⟨trivial, (calls_wide (.inl rfl) HOf.out).mono ?_⟩
  rintro e w2 ⟨⟨F, rfl, hT⟩, hb2⟩
  clear HOf
  obtain ⟨f1, k0, k1, k2, z1, h1, hC, x1, x2, hnx, hl, hid, hn⟩ := H.out
  have fV := HV1.out
  have zV := fV.size
  have f2 : Fr (fun _ => False) w1 w2 := fV.trans (Fr.of_below hb2)
  have z2 : V1.heap.size ≤ w2.heap.size := hb2.size
  obtain ⟨Y, hYb, gf, lb, rfl, hseq, hYl, heg⟩ := tellsT_tale (show TaleT V1.heap.size w2 F xs from hT) (by omega)
  have q0 := f2.blk k0 fun e => e
  have q1 := f2.blk k1 fun e => e
  have q2 := f2.blk k2 fun e => e
  have h2 := h1.fr f2 fun _ _ e => e
  have hY3 : ∀ k, Y k → N + 3 ≤ k := fun k hk => by have := hYb k hk; omega
  have hXs : ∀ k, (k = N + 2 ∨ C k ≠ tag0) → k < N + 3 := fun k hk => by
    rcases hk with e | e
    · omega
    · exact Nat.lt_of_not_le fun e2 => e (hC k (by omega))
  have hNS : N + 3 ≤ w2.heap.size := by omega
  have K := Lib.hid (And.intro f2 (And.intro q0 (And.intro q1 (And.intro q2 (And.intro h2 (And.intro hNS (And.intro hY3 hXs)))))))
  clear f1 k0 k1 k2 z1 h1 x1 x2 hnx hid hn hT hb2 fV zV f2 z2 HBX
  gi_wp2_with fail
  have hB := HBB.out
  refine wpIn_rangeF (X := fun k => k = N + 2 ∨ C k ≠ tag0) (Y := Y) (xs := xs) (encs := encL) (gf := gf) (lb := lb) (LeaJ base N R n C w2.heap.size mr mj mb Q L id) (fun _ _ _ _ => False)
    rfl hseq (fun k hk => ⟨by have := hXs k hk; omega, fun e => by have := hY3 k e; have := hXs k hk; omega⟩) hYl (by omega) heg (fun _ => rfl)
    (leaJ_stays _ _ _ _ _ _ _ _ _ _ _ _) (fun c s X1 V1 V2 h => h.elim) ⟨q2, t, b, tr, X, C, Q, h2, fun _ _ => rfl, hl, rfl, fun k => Iff.rfl⟩ ?round ?done (fun _ _ _ _ _ _ _ _ _ _ _ h => h.elim)
  case round =>
    rintro l pre x r X1 V KK rb hl2 hpx hI hG2 hxl3 hF hlV hK
    dsimp only [encL]
    have HK := Lib.hid hK
    have HV := Lib.hid (And.intro hpx (And.intro hI (And.intro hG2 (And.intro hxl3 (And.intro hF (And.intro hlV hl2))))))
    clear hK hpx hI hG2 hxl3 hF hlV hl2 hC hl hseq hYl heg hYb q0 q1 q2 h2 hY3 hXs hNS hB
    gi_wp2_with fail
    refine HK.out _ _ (Fr.refl _ _) fun Vb hfb hzb hsb hrb => ?_
    clear HK KK
    obtain ⟨hpx, ⟨j2, t', b', tr', Xr, C', Q', hr, hc, hlg, hmap, hX1⟩, hG2, hxl3, hF, hlV, hl2⟩ := HV.out
    obtain ⟨f1, k0, k1, k2, z1, h1, hC, x1, x2, hnx, hl, hid, hn⟩ := H.out
    obtain ⟨f2, q0, q1, q2, h2, hNS, hY3, hXs⟩ := K.out
    have hlX : ∀ k, X1 k → k ≠ l := fun k hk e => hxl3 (e ▸ hk)
    have hX0 : ∀ k, (k = N + 2 ∨ C k ≠ tag0) → k ≠ N ∧ k ≠ N + 1 := fun k hk => by
      rcases hk with e | e
      · omega
      · exact ⟨fun e2 => e (hC k (by omega)), fun e2 => e (hC k (by omega))⟩
    have v0 := hfb.blk (hF.blk q0 fun e => (hX0 _ e).1 rfl) (by omega : ¬ N = l)
    have v1 := hfb.blk (hF.blk q1 fun e => (hX0 _ e).2 rfl) (by omega : ¬ N + 1 = l)
    have v2 := hfb.blk j2 (hlX _ ((hX1 _).2 (.inl rfl)))
    have hrb2 := hr.fr hfb fun k hk => hlX k ((hX1 k).2 (.inr hk))
    have hxm : x ∈ xs := by rw [← hpx]; simp
    have HP := Lib.hid (part_w hrb2 hlg hn hid (hnx x hxm).1)
    rw [(hnx x hxm).2] at HP
    have cc0 := blk_cell v0 0
    have cc1 := blk_cell v1 0
    have hpl : pre.length < xs.length := by
      have := congrArg List.length hpx
      simp at this; omega
    have HU := Lib.hid (And.intro v2 (And.intro hfb (And.intro hzb (And.intro hrb (And.intro hc (And.intro hmap (And.intro hX1 (And.intro hrb2 (And.intro hG2 (And.intro hxl3 (And.intro hlV (And.intro hpl hF))))))))))))
    clear hpx j2 hr hc hlg hmap hX1 hG2 hxl3 hF hlV hl2 f1 k0 k1 k2 z1 h1 hC x1 x2 hnx hl hid hn f2 q0 q1 q2 h2 hNS hY3 hXs hlX hX0 v0 v1 v2 hfb hzb hrb hsb hrb2 hxm hpl
    gi_wp2_with fail
    refine ⟨trivial, (calls_wide (.inr ⟨l, rfl⟩) HP.out).mono ?_⟩
    rintro e W6 ⟨rfl, Q6, hto, hlg6, hmap6⟩
    obtain ⟨t6, b6, tr6, X6, C6, h6, o6⟩ := hto.onto
    obtain ⟨v2, hfb, hzb, hrb, hc, hmap, hX1, hrb2, hG2, hxl3, hlV, hpl, hF⟩ := HU.out
    obtain ⟨f2, q0, q1, q2, h2, hNS, hY3, hXs⟩ := K.out
    have hC := H.out.2.2.2.2.2.2.1
    have hN2 : C' (N + 2) = tag0 := by rw [hc _ (by omega)]; exact hC _ (by omega)
    have hCl : C' l = tag0 := Decidable.byContradiction fun e => hxl3 ((hX1 l).2 (.inr e))
    have u2 := o6.2.blk v2 (by rw [hN2]; simp)
    have url := o6.2.blk hrb (by rw [hCl]; simp)
    have cc2 := blk_cell u2 0
    have dd2 := blk_free u2 0
    have m0 : (pre.length : Int) ≤ 100000 := by have := H.out.2.2.2.2.2.2.2.2.2.2.2.2; omega
    have HS := Lib.hid (And.intro u2 (And.intro url (And.intro h6 (And.intro o6 (And.intro hlg6 (And.intro hmap6 hN2))))))
    clear v2 hfb hzb hrb hc hmap hX1 hrb2 hG2 hxl3 hlV hpl hF f2 q0 q1 q2 h2 hNS hY3 hXs hC hN2 hCl u2 url hto hlg6 hmap6 h6 o6 cc0 cc1 HP
    gi_wp2_with fail
    obtain ⟨v2, hfb, hzb, hrb, hc, hmap, hX1, hrb2, hG2, hxl3, hlV, hpl, hF⟩ := HU.out
    obtain ⟨u2, url, h6, o6, hlg6, hmap6, hN2⟩ := HS.out
    obtain ⟨f2, q0, q1, q2, h2, hNS, hY3, hXs⟩ := K.out
    have hs7 : Fr (fun k => k = N + 2) W6 (W6.setCell ⟨N + 1 + 1, 0, none⟩ (.int .i64 ((pre.length : Int) + 1))) := Fr.setCell (X := fun k => k = N + 2) (Fr.refl _ W6) ⟨N + 1 + 1, 0, none⟩ rfl _
    have hf7 : Fr X1 Vb (W6.setCell ⟨N + 1 + 1, 0, none⟩ (.int .i64 ((pre.length : Int) + 1))) := (o6.2.mono (Y := X1) fun k _ e => (hX1 k).2 (.inr e)).trans3 hs7 fun k _ e => (hX1 k).2 (.inl e)
    have hFz := hF.size
    have hbz : Vb.heap.size = V.heap.size := hzb
    have hN6 : C6 (N + 2) = tag0 := by rw [o6.1 _ (by omega)]; exact hN2
    have hz7 := hf7.size
    refine ⟨fun k => k = N + 2 ∨ C6 k ≠ tag0, fun k hk => ⟨?_, fun hlt => ?_⟩, (hfb.mono (Y := fun k => k = l ∨ X1 k) fun k _ e => .inl e).trans3 hf7 fun k _ e => .inr e, hf7.blk hrb hxl3, ?_, t6, b6, tr6, X6, C6, Q6, ?_, fun k hk => ?_, ?_, ?_, fun k => Iff.rfl⟩
    · have hs8 := hs7.size
      rcases hk with rfl | hk
      · have := blk_lt u2; omega
      · have := (h6.lt hk).2; omega
    · rcases hk with rfl | hk
      · exact (hX1 _).2 (.inl rfl)
      · exact (hX1 k).2 (.inr (by rw [o6.1 k (by omega)] at hk; exact hk))
    · have := blk_set u2 0 (.int .i64 ((pre.length : Int) + 1))
      rw [List.length_append]
      exact this
    · rw [dropL_snoc]
      exact h6.fr hs7 fun k hk e => hk (by rw [show k = N + 2 from e]; exact hN6)
    · rw [o6.1 k (by omega), hc k hk]
    · rw [dropL_snoc]; exact hlg6
    · rw [leaveA_snoc, ← hmap]; exact hmap6
  case done =>
    rintro D X2 V hD hxD hG2 hF ⟨j2, t', b', tr', Xr, C', Q', hr, hc, hlg, hmap, hX2⟩ hdef
    have cc2 := blk_cell j2 0
    have HQ := Lib.hid (And.intro hD (And.intro hxD (And.intro hG2 (And.intro hF (And.intro hr (And.intro hc (And.intro hlg (And.intro hmap (And.intro hX2 hdef)))))))))
    clear hD hxD hG2 hF hr hc hlg hmap hX2 hdef j2 hC hl hseq hYl heg hYb q0 q1 q2 h2 hY3 hXs hNS hB
    gi_wp2_with fail
    obtain ⟨hD, hxD, hG2, hF, hr, hc, hlg, hmap, hX2, hdef⟩ := HQ.out
    obtain ⟨f1, k0, k1, k2, z1, h1, hC, x1, x2, hnx, hl, hid, hn⟩ := H.out
    obtain ⟨f2, q0, q1, q2, h2, hNS, hY3, hXs⟩ := K.out
    have hB := HBB.out
    refine leaves_one D _ hdef fun w' hf => ⟨_, results_tmp rfl _ _ _, xs, Q', x1, x2, rfl, ⟨t', b', tr', Xr, C', ?_, fun k hk => hc k (by omega), ?_⟩, hlg, hmap⟩
    · exact hr.fr hf fun k hk e => hxD ((hX2 D).2 (.inr (by rw [← show k = D from e]; exact hk)))
    · refine (((f1.mono (Y := fun k => C k ≠ tag0) fun _ _ e => e.elim).trans3 f2 fun _ _ e => e.elim).trans3 hF fun k hk e => ?_).trans3 hf fun k hk e => ?_
      · rcases e with e | e
        · omega
        · exact e
      · have : k = D := e
        omega
end Go.Proofs.YtlkeomcillencaaGreat
end
section
/- Layer 10: Union. -/
namespace Go.Proofs.YtlkeomcillencaaGreat
open Go Go.RowKit Go.Lib Go.Sort Go.Shelf

theorem Tryz.infoFn : (Tryz.prog.info? 60).map (fun i => (i.zero, i.size, i.bytes)) = some (some .nilFunc, 1, 8) := by kernel_rfl
/-- a row of functions -/
def OwnF (base : Nat) (W : World) (v : Value) (Fs : List Value) : Prop := W.ownsRow base 60 1 v Fs.length Fs
theorem own_type {W : World} {base : Nat} {e : TypeId} {size : Nat} {v : Value} {n : Nat} {xs : List Value} (hown : W.ownsRow base e size v n xs) (k : Nat) (hk : v.ownBlock = some k) : ∃ cur, W.heap[k]? = some (.cells cur e (0, 0)) := by
  rcases hown.2 with ⟨rfl, _⟩ | ⟨g, cap, cur, rfl, _, h3, _⟩
  · cases hk
  · cases hk; exact ⟨_, h3⟩
theorem tale_fr {base b : Nat} {w w' : World} {F v : Value} {xs : List Int} {ys : List Value} {n : Nat} (h : TaleAt base w F xs) (ho : w.ownsRow b 60 1 v n ys) (hf : Fr (fun k => v.ownBlock = some k) w w') : TaleAt base w' F xs := by
  obtain ⟨B, u, h0, h1, h2, h3, h4⟩ := h
  refine ⟨B, u, h0, h1, hf.blk h2 fun e => ?_, h3, own_kept h4 fun g hg => hf.block g (h4.lt g hg).2 fun e => ?_⟩
  · obtain ⟨c1, k1⟩ := own_type ho B e
    rw [h2] at k1; cases k1
  · obtain ⟨c1, k1⟩ := own_type ho g e
    obtain ⟨c2, k2⟩ := own_type h4 g hg
    rw [k1] at k2; cases k2
theorem tale_base {base base' : Nat} {w : World} {F : Value} {xs : List Int} (h : TaleAt base w F xs) (hb : base' ≤ base) : TaleAt base' w F xs := by
  obtain ⟨B, u, h0, h1, h2, h3, h4⟩ := h
  exact ⟨B, u, Nat.le_trans hb h0, h1, h2, h3, row_base' h4 hb⟩
/-- a pointer to a set, or none -/
def PtrAt (w : World) (p : Value) (xs : List Int) : Prop := (p = .pointer none ∧ xs = []) ∨ ∃ s ob base, p = .pointer (some ⟨s, 0, none⟩) ∧ SetAt base w s ob xs
theorem ptr_below {w W : World} {p : Value} {xs : List Int} (h : PtrAt w p xs) (hb : Below w.heap.size w W) : PtrAt W p xs := by
  rcases h with h | ⟨s, ob, base, h1, h2⟩
  · exact .inl h
  · exact .inr ⟨s, ob, base, h1, set_below h2 hb⟩
theorem ptr_all {w : World} {p : Value} {xs : List Int} (h : PtrAt w p xs) (hl : xs.length ≤ 1000000) : Calls Tryz.prog 88 #[p] w (AllP xs w) := by
  rcases h with ⟨rfl, rfl⟩ | ⟨s, ob, base, rfl, h2⟩
  · exact set_all_nil w
  · exact set_all h2 hl
/-- the tales so far -/
def UniG (w : World) (xss : List (List Int)) (k : Nat) (v : Value) (W : World) : Prop :=
  (∃ Fs : List Value, Fs.length = k ∧ OwnF w.heap.size W v Fs ∧ ∀ (j : Nat) (F : Value), Fs[j]? = some F → ∃ xs, xss[j]? = some xs ∧ TaleAt w.heap.size W F xs) ∧ Below w.heap.size w W
set_option maxRecDepth 100000 in
set_option maxHeartbeats 4000000 in
theorem set_union {w : World} (A : Option Addr) (xss : List (List Int)) (c : Nat) (hn : xss.length ≤ 1000) (hl : xss.flatten.length ≤ 1000000)
    (hc : 0 < xss.length → ∃ g o, A = some ⟨g, o, none⟩ ∧ g < w.heap.size ∧ ∀ j (h : j < xss.length), ∃ p, w.cell? ⟨g, o + j, none⟩ = some p ∧ PtrAt w p xss[j]) :
    Calls Tryz.prog 63 #[.slice A xss.length c] w (AllP (normI xss.flatten) w) := by
  obtain ⟨i0, hi, hz0, hz1, hz2⟩ := info_parts Tryz.infoFn
  have HC := Lib.hid hc
  clear hc
  have hl1 : ∀ k (h : k < xss.length), (xss[k]).length ≤ 1000000 := fun k h => by
    have h1 := List.length_flatten (L := xss)
    have h2 := List.Sublist.length_le (List.sublist_flatten_of_mem (List.getElem_mem h))
    omega
  have HL := Lib.hid hl1
  clear hl1
  go_enter Tryz.func63, Tryz.ntmps63
  go_wp2_with (at_make; refine wpList_make_own _ rfl _ _ 152 rfl w.heap.size 60 i0 .nilFunc 1 Tryz.underlying152 hi hz0 hz1 .i64 .i64 (xss.length : Int) xss.length rfl rfl rfl (by rw [hz2]; omega) (by unfold maxLen; omega) (Nat.le_refl _) ?_; intro w1 hown hgrow)
  have hU0 : UniG w xss 0 (.slice (some ⟨w.heap.size, 0, none⟩) 0 xss.length) w1 := ⟨⟨[], rfl, hown, fun j F h => by cases h⟩, (Below.refl _ _).grown hgrow (Nat.le_refl _) (fun k e => by cases e)⟩
  have HU := Lib.hid hU0
  clear hU0 hown hgrow
  go_loopw [3, 11] (fun v ct wr => ∃ k : Nat, ct = .int .i64 k ∧ k ≤ xss.length ∧ Hid (UniG w xss k v wr)) (fun _ ct _ => xss.length - (Go.RowKit.intOf ct).toNat)
  case atStart => exact ⟨0, rfl, Nat.zero_le _, HU⟩
  case round =>
    clear HU
    obtain ⟨k, rfl, hk, HU⟩ := hrel
    by_cases hlt : k < xss.length
    · obtain ⟨g, o, rfl, hg, hcell⟩ := HC.out (by omega)
      obtain ⟨p, hp, hP⟩ := hcell k hlt
      obtain ⟨⟨Fs, hFl, hOw, hT⟩, hB⟩ := HU.out
      have e0 : wr.cell? ⟨g, o + k, none⟩ = some p := (World.cell?_of_block (w := w) (w' := wr) (a := ⟨g, o + k, none⟩) (hB.block g hg)).trans hp
      have hA := ptr_all (ptr_below hP hB) (HL.out k hlt)
      have hwz := hB.size
      have HA := Lib.hid hA
      clear hcell hp hP hOw hT hB hA
      go_wp2_with fail
      refine HA.out.mono ?_
      rintro e w2 ⟨⟨F, rfl, BB, uu, q0, rfl, q1⟩, hb2⟩
      have hF : TaleAt wr.heap.size w2 (Value.func (.func 116) #[] #[.pointer (some ⟨BB, 0, none⟩)]) xss[k] := ⟨BB, uu, q0, rfl, q1⟩
      clear q0 q1
      obtain ⟨⟨Fs', hFl', hOw, hT⟩, hB⟩ := HU.out
      have hOw2 : w2.ownsRow w.heap.size 60 1 u3 Fs'.length Fs' := row_same hOw fun g hg => hb2.block g (hOw.lt g hg).2
      have hw2z := hb2.size
      have hk3 : Fs'.length ≤ 1000 := by omega
      have HO := Lib.hid hOw2
      have H := Lib.hid (And.intro hF hb2)
      have hT' := hT
      have hB' := hB
      clear hOw hT hB hOw2 hF hb2
      go_wp2_with (at_builtin; refine Hid.out ?_)
      refine Lib.hid ?_
      refine wpList_app_fr rfl _ _ 152 rfl w.heap.size 60 i0 _ 1 8 Tryz.underlying152 hi hz0 hz1 hz2 rfl (by decide) u3 Fs'.length Fs' rfl HO.out #[(Value.func (.func 116) #[] #[.pointer (some ⟨BB, 0, none⟩)])] _ rfl rfl rfl (by intro u hu; simp at hu; subst hu; rfl) (by omega) (by decide) (by omega) ?_
      intro v1 W2 hown1 hfr1
      have hnew : UniG w xss (k + 1) v1 W2 := by
        obtain ⟨hF, hb2⟩ := H.out
        have hB2 := hB'.trans (hb2.mono hwz)
        refine ⟨⟨Fs' ++ [(Value.func (.func 116) #[] #[.pointer (some ⟨BB, 0, none⟩)])], by simp [hFl'], by unfold OwnF; rw [List.length_append]; exact hown1, fun j G hj => ?_⟩, hB2.trans (hfr1.below hB2.size fun i _ e => (HO.out.lt i e).1)⟩
        by_cases hjk : j < k
        · rw [List.getElem?_append_left (by omega)] at hj
          obtain ⟨xs, h1, h2⟩ := hT' j G hj
          exact ⟨xs, h1, tale_fr (tale_below h2 hb2 (Nat.le_refl _)) HO.out hfr1⟩
        · rw [List.getElem?_append_right (by omega)] at hj
          obtain ⟨e1, e2⟩ := List.getElem?_eq_some_iff.1 hj
          simp at e1
          obtain rfl : j = k := by omega
          simp at e2
          subst e2
          exact ⟨xss[j], List.getElem?_eq_getElem hlt, tale_base (tale_fr hF HO.out hfr1) hwz⟩
      have HN := Lib.hid hnew
      clear hnew hown1 hfr1
      go_wp2_with fail
      go_roundw
      case rel => exact ⟨k + 1, by go_num, by omega, HN⟩
      case measure => simp [Go.RowKit.intOf]; omega
    · obtain rfl : k = xss.length := by omega
      obtain ⟨⟨Fs, hFl, hOw, hT⟩, hB⟩ := HU.out
      obtain ⟨A1, c1, rfl⟩ := row_slice hOw
      rw [hFl] at hOw
      have hG := gather_of (w := wr) A1 xss c1 hn hl (fun h0 => by
        rcases hOw.2 with ⟨h1, h2⟩ | ⟨g, cap, cur, h1, h3, h4, h5, _, h6, h7⟩
        · omega
        · injection h1 with q1 q2 q3
          subst q1
          rw [Nat.mul_one] at h6 h7
          refine ⟨g, 0, rfl, blk_lt h4, fun j hj => ?_⟩
          have hj2 : j < Fs.length := by omega
          obtain ⟨xs, k1, k2⟩ := hT j Fs[j] (List.getElem?_eq_getElem hj2)
          have hx : xss[j] = xs := by rw [List.getElem?_eq_getElem hj] at k1; exact Option.some.inj k1
          refine ⟨Fs[j], ?_, tells_tale (hx ▸ k2) (HL.out j hj)⟩
          rw [Nat.zero_add, blk_cell h4 j, ← Array.getElem?_toList]
          have := congrArg (fun l => l[j]?) h7
          rw [List.getElem?_take_of_lt (by omega), List.getElem?_eq_getElem hj2] at this
          exact this) _ rfl
      have HG := Lib.hid hG
      have HB := Lib.hid hB
      have hz := hB.size
      rw [hFl]
      clear hOw hT hB hG
      go_wp2_with fail
      refine HG.out.mono ?_
      rintro e w2 ⟨⟨v2, rfl, h1⟩, h2⟩
      obtain ⟨A2, c2, rfl⟩ := row_slice h1
      have HV := Lib.hid (values_calls A2 (compact (xss.flatten.mergeSort fun x y => decide (x ≤ y))).length c2 w2)
      have H := Lib.hid (And.intro h1 h2)
      clear h1 h2
      go_wp2_with fail
      refine HV.out.mono ?_
      intro e w3 h
      obtain ⟨⟨F, rfl, h4⟩, h5⟩ := all_of (row_base' H.out.1 hz) (HB.out.trans (H.out.2.mono hz)) h
      have H2 := Lib.hid (And.intro h4 h5)
      clear h h4 h5
      go_wp2_with fail
      go_ret
      exact ⟨⟨_, rfl, H2.out.1⟩, H2.out.2⟩
end Go.Proofs.YtlkeomcillencaaGreat
end
