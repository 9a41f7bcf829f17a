/- Layer 16: take, Due. -/
import Derived.Test.YtbgmjieagnmpkaaPulB
import Derived.Test.YtbgmjieagnmpkaaRound
namespace Go.Proofs.Ytbgmjieagnmpkaa
set_option linter.unusedVariables false
set_option linter.unusedSimpArgs false
open Go Go.RowKit Go.Maps Go.Sort Go.Shelf Go.Lib
attribute [local go_sem] Oper.semAt_some

/-- a box with what came so far -/
def BoxD (S base : Nat) (rows : Tab → List (Int × Int)) (pre : Tab) (X : Nat → Prop) (W : World) : Prop := ∃ v, W.heap[S]? = some (.cells #[v] 111 (0, 0)) ∧ OwnD base W v (rows pre) ∧ S < base ∧ ∀ k, X k ↔ (k = S ∨ v.ownBlock = some k)
theorem boxD_stays (S base : Nat) (rows : Tab → List (Int × Int)) : Stays (BoxD S base rows) := fun pre X V V' ⟨v, h1, h2, h3, h4⟩ hl hf =>
  ⟨v, hf.blk h1 (fun e => e ((h4 S).2 (.inl rfl))), ownD_kept h2 fun g hg => hf.block g (h2.lt g hg).2 fun e => e ((h4 g).2 (.inr hg)), h3, h4⟩
/-- the round's end, where one more came -/
theorem boxD_end {S base : Nat} {rows : Tab → List (Int × Int)} {pre : Tab} {x : Int × Int} {y : Int × Int} {X1 : Nat → Prop} {V Vb W3 : World} {vb : Value} {l : Nat} {rb : Loop} {A1 : Option Addr} {c1 n : Nat} (hnl : (rows pre).length = n)
    (hr : rows (pre ++ [x]) = rows pre ++ [y]) (hX1 : ∀ k, X1 k ↔ (k = S ∨ vb.ownBlock = some k)) (hG : ∀ k, X1 k → k < V.heap.size) (hxl : ¬ X1 l) (hfb : Fr (fun k => k = l) V Vb) (hrb : Vb.heap[l]? = some (.loop rb)) (hSl : S < base)
    (hn3 : ∀ k, vb.ownBlock = some k → k ≠ S) (hown : W3.ownsRow base 115 2 (.slice A1 (n + 1) c1) (n + 1) ((rows pre).flatMap encD ++ encD y)) (hfr1 : Fr (fun j => vb.ownBlock = some j) Vb W3)
    (htie : ∀ k, (Value.slice A1 (n + 1) c1).ownBlock = some k → vb.ownBlock = some k ∨ Vb.heap.size ≤ k) (e1 : W3.heap[S]? = some (.cells #[vb] 111 (0, 0))) :
    ∃ X2, GrowX X1 X2 V (W3.setCell ⟨S, 0, none⟩ (.slice A1 (n + 1) c1)) ∧ Fr (fun k => k = l ∨ X1 k) V (W3.setCell ⟨S, 0, none⟩ (.slice A1 (n + 1) c1)) ∧ (W3.setCell ⟨S, 0, none⟩ (.slice A1 (n + 1) c1)).heap[l]? = some (.loop rb) ∧ BoxD S base rows (pre ++ [x]) X2 (W3.setCell ⟨S, 0, none⟩ (.slice A1 (n + 1) c1)) := by
  subst hnl
  have hown2 : OwnD base W3 (.slice A1 ((rows pre).length + 1) c1) (rows pre ++ [y]) := ownD_snoc hown
  have hnx : (Value.slice A1 ((rows pre).length + 1) c1).ownBlock ≠ some S := fun e => by have := (hown2.lt _ e).1; omega
  have hfr : Fr (fun k => k = l ∨ X1 k) V (W3.setCell ⟨S, 0, none⟩ (.slice A1 ((rows pre).length + 1) c1)) :=
    (((hfb.mono (Y := fun k => k = l ∨ X1 k) fun k _ e => .inl e).trans3 hfr1 fun k _ e => .inr ((hX1 k).2 (.inr e)))).setCell _ (.inr ((hX1 _).2 (.inl rfl))) _
  have hlS : l ≠ S := fun e => hxl ((hX1 l).2 (.inl e))
  refine ⟨fun k => k = S ∨ (Value.slice A1 ((rows pre).length + 1) c1).ownBlock = some k, fun k hk => ?_, hfr, ?_, .slice A1 ((rows pre).length + 1) c1, blk_set e1 0 _, ?_, hSl, fun k => Iff.rfl⟩
  · have hz2 := hfr1.size
    have hzb := hfb.size
    have hsz : (W3.setCell ⟨S, 0, none⟩ (.slice A1 ((rows pre).length + 1) c1)).heap.size = W3.heap.size := by simp
    rw [hsz]
    rcases hk with rfl | hk
    · exact ⟨blk_lt e1, fun _ => (hX1 _).2 (.inl rfl)⟩
    · refine ⟨(hown2.lt k hk).2, fun hlt => ?_⟩
      rcases htie k hk with e | e
      · exact (hX1 k).2 (.inr e)
      · omega
  · have hl3 : ¬ vb.ownBlock = some l := fun e => hxl ((hX1 l).2 (.inr e))
    exact blk_other (hfr1.blk hrb hl3) _ (by simpa using hlS) _
  · rw [hr]
    exact ownD_kept hown2 fun g hg => heap_setCell_other W3 _ g _ fun e => by simp at e; exact hnx (e ▸ hg)
/-- between the loops -/
structure MidD (w1 : World) (S b0 : Nat) (v : Value) (R : List (Int × Int)) (V : World) : Prop where
  fr : Fr (fun k => k = S) w1 V
  box : V.heap[S]? = some (.cells #[v] 111 (0, 0))
  own : OwnD b0 V v R
theorem MidD.go {w1 V V' : World} {S b0 : Nat} {v : Value} {R : List (Int × Int)} (h : MidD w1 S b0 v R V) (hf : Fr (fun _ => False) V V') : MidD w1 S b0 v R V' :=
  ⟨h.fr.trans3 hf fun _ _ e => e.elim, hf.blk h.box fun e => e, ownD_kept h.own fun g hg => hf.block g (h.own.lt g hg).2 fun e => e⟩
theorem size_drewN (w : World) (n : Nat) : (w.drewN n).heap.size = w.heap.size := by cases n <;> rfl
/-- a box with what came so far, and the tables turned -/
def BoxQ (S base qb ab : Nat) (r0 : List (Int × Int)) (gr now : Int) (Q A pre : Tab) (X : Nat → Prop) (W : World) : Prop := ∃ v, W.heap[S]? = some (.cells #[v] 111 (0, 0)) ∧ OwnD base W v (r0 ++ pre.map (rowQ gr now)) ∧ TabMI W qb (pre.foldl (stepQ gr now) Q) ∧ TabMI W ab (pre.foldl (stepA gr now) A) ∧ ∀ k, X k ↔ (k = S ∨ k = qb ∨ k = ab ∨ v.ownBlock = some k)
theorem boxQ_stays (S base qb ab : Nat) (r0 : List (Int × Int)) (gr now : Int) (Q A : Tab) : Stays (BoxQ S base qb ab r0 gr now Q A) := fun pre X V V' ⟨v, h1, h2, h3, h4, h5⟩ hl hf =>
  ⟨v, hf.blk h1 (fun e => e ((h5 S).2 (.inl rfl))), ownD_kept h2 fun g hg => hf.block g (h2.lt g hg).2 fun e => e ((h5 g).2 (.inr (.inr (.inr hg)))), tabMI_same h3 (hf.block qb (tabMI_lt h3) fun e => e ((h5 qb).2 (.inr (.inl rfl)))), tabMI_same h4 (hf.block ab (tabMI_lt h4) fun e => e ((h5 ab).2 (.inr (.inr (.inl rfl))))), h5⟩
theorem PulG.turn {base : Nat} {W W1 : World} {B : PB} {pg gr rg : Int} {L Q A Q1 A1 : Tab} {X : Nat → Prop} (h : PulG base W B pg gr rg L Q A) (hf : Fr X W W1) (hx : ∀ k, X k → k ≠ B.p ∧ k ≠ B.l ∧ k ≠ B.lb ∧ k ≠ B.q ∧ k ≠ B.a) (hq : TabMI W1 B.qb Q1) (ha : TabMI W1 B.ab A1) (sq : SmallT Q1) (sa : SmallT A1) : PulG base W1 B pg gr rg L Q1 A1 :=
  ⟨h.bp, hf.blk h.box fun e => (hx _ e).1 rfl, tabI_fr h.tl hf (fun e => (hx _ e).2.1 rfl) fun e => (hx _ e).2.2.1 rfl, ⟨h.tq.1, h.tq.2.1, h.tq.2.2.1, hf.blk h.tq.2.2.2.1 fun e => (hx _ e).2.2.2.1 rfl, hq⟩, ⟨h.ta.1, h.ta.2.1, h.ta.2.2.1, hf.blk h.ta.2.2.2.1 fun e => (hx _ e).2.2.2.2 rfl, ha⟩, h.far, h.pb, h.sl, sq, sa⟩
theorem smallT_takeQ {gr now : Int} {pre Q : Tab} (h : SmallT Q) : SmallT (pre.foldl (stepQ gr now) Q) := fun p hp => h p ((mem_takeQ gr now pre Q p).1 hp).1
theorem smallT_takeA {gr now : Int} : ∀ {pre A : Tab}, SmallT A → (∀ q ∈ pre, -1000000000000 ≤ q.2 + gr ∧ q.2 + gr ≤ 1000000000000) → SmallT (pre.foldl (stepA gr now) A)
  | [], A, h, _ => h
  | q :: r, A, h, hq => by
    rw [List.foldl_cons]
    refine smallT_takeA ?_ fun x hx => hq x (List.mem_cons_of_mem _ hx)
    unfold stepA
    split
    · exact h
    · exact smallT_set h (hq q (List.mem_cons_self ..))
/-- the round's end of the third loop -/
theorem boxQ_fin {S b0 qb ab : Nat} {r0 : List (Int × Int)} {gr now : Int} {Q A pre : Tab} {x : Int × Int} {X1 : Nat → Prop} {V Vc W' : World} {vb v' : Value} {l : Nat} {rb : Loop}
    (hX1 : ∀ k, X1 k ↔ (k = S ∨ k = qb ∨ k = ab ∨ vb.ownBlock = some k)) (hxl : ¬ X1 l) (hf : Fr (fun k => k = l) V Vc) (hf2 : Fr (fun k => k = S ∨ k = qb ∨ k = ab ∨ vb.ownBlock = some k) Vc W') (hrb : Vc.heap[l]? = some (.loop rb))
    (box : W'.heap[S]? = some (.cells #[v'] 111 (0, 0))) (own : OwnD b0 W' v' (r0 ++ (pre ++ [x]).map (rowQ gr now))) (tq : TabMI W' qb ((pre ++ [x]).foldl (stepQ gr now) Q)) (ta : TabMI W' ab ((pre ++ [x]).foldl (stepA gr now) A))
    (tie : ∀ k, v'.ownBlock = some k → vb.ownBlock = some k ∨ Vc.heap.size ≤ k) :
    ∃ X2, GrowX X1 X2 V W' ∧ Fr (fun k => k = l ∨ X1 k) V W' ∧ W'.heap[l]? = some (.loop rb) ∧ BoxQ S b0 qb ab r0 gr now Q A (pre ++ [x]) X2 W' := by
  refine ⟨fun k => k = S ∨ k = qb ∨ k = ab ∨ v'.ownBlock = some k, fun k hk => ?_, (hf.mono (Y := fun k => k = l ∨ X1 k) fun k _ e => .inl e).trans3 hf2 fun k _ e => .inr ((hX1 k).2 e), hf2.blk hrb fun e => hxl ((hX1 l).2 e), v', box, own, tq, ta, fun k => Iff.rfl⟩
  rcases hk with rfl | rfl | rfl | hk
  · exact ⟨blk_lt box, fun _ => (hX1 _).2 (.inl rfl)⟩
  · exact ⟨tabMI_lt tq, fun _ => (hX1 _).2 (.inr (.inl rfl))⟩
  · exact ⟨tabMI_lt ta, fun _ => (hX1 _).2 (.inr (.inr (.inl rfl)))⟩
  · refine ⟨(own.lt k hk).2, fun hlt => ?_⟩
    rcases tie k hk with e | e
    · exact (hX1 k).2 (.inr (.inr (.inr e)))
    · have := hf.size; omega
/-- what is due, handed back -/
def TakeG (base : Nat) (B : PB) (pg gr rg : Int) (L Q A : Tab) (now : Int) (w : World) (e : Ending) (w' : World) : Prop :=
  (∃ v R, e = .returned v ∧ OwnD w.heap.size w' v R ∧ (R.Pairwise fun x y => x.1 < y.1) ∧ (∀ p, p ∈ R ↔ p ∈ rowsP gr now (dueMI L now) (dueMI A now) (dueMI Q now)) ∧ R.length ≤ 1000000) ∧ PulG base w' B pg gr rg L ((dueMI Q now).foldl (stepQ gr now) Q) ((dueMI Q now).foldl (stepA gr now) A) ∧ Fr B.X w w'
theorem due_tab {base : Nat} {W V : World} {t b : Nat} {T : Tab} (h : TabI base W t b T) (hf : Fr (fun _ => False) W V) (hl : T.length ≤ 1000000) (now : Int) : Calls Try.prog 47 #[.pointer (some ⟨t, 0, none⟩), .int .i64 now] V (DueFI T now V) :=
  tim_DueI (.inr ⟨base, t, b, rfl, tabI_fr h hf (fun e => e) fun e => e⟩) (by obtain ⟨_, _, _, _, D, _, h2, _⟩ := h; exact h2.nodup) hl now
set_option maxRecDepth 100000 in
set_option maxHeartbeats 8000000 in
theorem pul_take {base : Nat} {w : World} {B : PB} {pg gr rg : Int} {L Q A : Tab} (h : PulG base w B pg gr rg L Q A) (hd : (∀ i v u, (i, v) ∈ L → (i, u) ∉ A) ∧ (∀ i v u, (i, v) ∈ L → (i, u) ∉ Q) ∧ (∀ i v u, (i, v) ∈ A → (i, u) ∉ Q)) {now : Int} (hn : 0 ≤ now ∧ now ≤ 100000000000) (hl : L.length ≤ 1000 ∧ Q.length ≤ 1000 ∧ A.length ≤ 1000) :
    Calls Try.prog 54 #[.pointer (some ⟨B.p, 0, none⟩), .int .i64 now] w (TakeG base B pg gr rg L Q A now w) := by
  obtain ⟨i0, hi, hz0, hz1, hz2⟩ := info_parts Try.infoDD
  have mixed : (Try.prog).follows Departure.mixedOrders = true := by kernel_rfl
  obtain ⟨S, hS⟩ : ∃ S, w.heap.size + 2 = S := ⟨_, rfl⟩
  obtain ⟨b0, hb0⟩ : ∃ b0, w.heap.size + 3 = b0 := ⟨_, rfl⟩
  obtain ⟨w1, hw1⟩ : ∃ w1, ((w.alloc (Obj.cells #[Value.pointer (some ⟨B.p, 0, none⟩)] 58)).alloc (Obj.cells #[Value.int IntKind.i64 now] 3)).alloc (Obj.cells #[Value.slice none 0 0] 111) = w1 := ⟨_, rfl⟩
  have z1 : w1.heap.size = b0 := by rw [← hw1, ← hb0]; simp
  have f1 : Fr (fun _ => False) w w1 := by rw [← hw1]; exact (((Fr.refl _ w).alloc _).alloc _).alloc _
  have k0 : w1.heap[w.heap.size]? = some (.cells #[.pointer (some ⟨B.p, 0, none⟩)] 58 (0, 0)) := by rw [← hw1]; exact blk_alloc (blk_alloc (heap_alloc_new w _) _) _
  have k1 : w1.heap[w.heap.size + 1]? = some (.cells #[.int .i64 now] 3 (0, 0)) := by rw [← hw1]; exact blk_alloc (heap_alloc2_new w _ _) _
  have k2 : w1.heap[S]? = some (.cells #[.slice none 0 0] 111 (0, 0)) := by
    rw [← hw1, ← hS]
    have := heap_alloc_new ((w.alloc (Obj.cells #[Value.pointer (some ⟨B.p, 0, none⟩)] 58)).alloc (Obj.cells #[Value.int IntKind.i64 now] 3)) (Obj.cells #[Value.slice none 0 0] 111)
    rwa [World.size_alloc, World.size_alloc] at this
  have h1 := h.fr f1 fun k e => e.elim
  have c0 := blk_cell k0 0
  have c1 := blk_cell k1 0
  have cp := blk_cell h1.box 3
  have HW := Lib.hid hw1
  have HD := Lib.hid (fun n => due_tab h1.tl ((Fr.refl (fun _ => False) w1).drewN n) (by omega) now)
  have H1 := Lib.hid (And.intro f1 (And.intro k0 (And.intro k1 (And.intro k2 (And.intro h1 (And.intro hd h.lt))))))
  clear hw1 k0 k1 k2 h1 f1 h hd
  refine (callsIn_wide (n := 20)).1 ?_
  refine callsIn_of_wp_marks Try.func54 rfl trivial ?_ rfl
  simp only [Try.ntmps54, List.size_toArray, List.length_cons, List.length_nil, Nat.reduceAdd, Nat.reduceSub, Array.replicate_succ, Array.replicate_zero, List.push_toArray, List.append_toArray, List.nil_append, List.cons_append]
  gi_wp2_with fail
  rw [HW.out]
  refine wpIn_quiet_tail 5 (by kernel_rfl) (by kernel_rfl) (by kernel_rfl) ?_
  simp only [List.take_succ_cons, List.take_zero, List.drop_succ_cons, List.drop_zero]
  repeat (refine quiet_step_w (fun _ => trivial) (fun K hK => ?_); go_simp; refine hK _ ?_; clear hK K)
  refine wpQuietIn_nil ?_
  intro _ hw'
  obtain ⟨nq, hw''⟩ := hw'
  subst hw''
  gi_wp2_with fail
  refine ⟨trivial, (calls_wide (.inl rfl) (HD.out nq)).mono ?_⟩
  rintro e W2 ⟨⟨F, rfl, hT⟩, hB⟩
  obtain ⟨f1, k0, k1, k2, h1, hd, hlt⟩ := H1.out
  have m2 : MidD w1 S b0 (.slice none 0 0) [] W2 := (MidD.mk (Fr.refl _ w1) k2 (ownD_nil _ _)).go (((Fr.refl (fun _ => False) w1).drewN nq).trans (Fr.of_below hB))
  obtain ⟨Y, hYb, gf, lb, rfl, hseq, hYl, heg⟩ := taleRI_tells hT (Nat.le_trans (dueMI_len L now) (by omega))
  rw [size_drewN] at hYb
  have hzW : w1.heap.size ≤ W2.heap.size := by have := hB.size; rwa [size_drewN] at this
  have M2 := Lib.hid m2
  clear hT hB c0 c1 cp f1 k0 k1 k2 h1 hd HD HW
  gi_wp2_with fail
  refine wpIn_rangeF (X := fun k => k = S) (Y := Y) (xs := dueMI L now) (encs := encAI) (gf := gf) (lb := lb) (BoxD S b0 (fun pre => pre.map fun p => (p.1, (1 : Int)))) (fun _ _ _ _ => False)
    rfl hseq (fun k hk => ⟨by omega, fun e => by have := hYb k e; omega⟩) hYl (by omega) heg (fun _ => rfl)
    (boxD_stays _ _ _) (fun c s X1 V1 V2 h => h.elim) ⟨_, m2.box, m2.own, by omega, fun k => by simp [Value.ownBlock]⟩ ?round ?done (fun _ _ _ _ _ _ _ _ _ _ _ h => h.elim)
  case round =>
    rintro l pre ⟨y, at_⟩ r X1 V K rb hl2 hpx hI hG hxl hF hlV hK
    dsimp only [encAI, kVI]
    have hpl : pre.length ≤ 1000 := by
      have h1 := congrArg List.length hpx
      have h2 := dueMI_len L now
      simp at h1; omega
    have hll := dueMI_len L now
    have HK := Lib.hid hK
    have HV := Lib.hid (And.intro hI (And.intro hG (And.intro hxl (And.intro hF (And.intro hlV hl2)))))
    clear hK hpx hI hG hxl hF hlV hl2 hseq hYb hYl heg m2 M2
    gi_wp2_with fail
    refine HK.out _ _ (Fr.refl _ _) fun Vb hfb hzb hsb hrb => ?_
    clear HK K
    obtain ⟨⟨vb, k3, o3, hSl, hX1⟩, hG, hxl, hF, hlV, hl2⟩ := HV.out
    have k3b := hfb.blk k3 (fun e => hxl ((hX1 l).2 (.inl e.symm)))
    have o3b := ownD_kept o3 fun g hg => hfb.block g (o3.lt g hg).2 fun e => hxl ((hX1 l).2 (.inr (e ▸ hg)))
    have c3 := blk_cell k3b 0
    have hbz : b0 ≤ Vb.heap.size := by have := hF.size; have := hfb.size; omega
    have hrl : (pre.map fun p => (p.1, (1 : Int))).length ≤ 3000 := by simp only [List.length_append, List.length_map]; omega
    obtain ⟨nr, hnr⟩ : ∃ nr, (pre.map fun p => (p.1, (1 : Int))).length = nr := ⟨_, rfl⟩
    have HO : Hid (Vb.ownsRow b0 115 2 vb nr ((pre.map fun p => (p.1, (1 : Int))).flatMap encD)) := by rw [← hnr]; exact o3b
    rw [hnr] at hrl
    have HK3 := Lib.hid k3b
    have HSl := Lib.hid hSl
    have HNR := Lib.hid hnr
    have HE := Lib.hid (And.intro hX1 (And.intro hG (And.intro hxl (And.intro hfb (And.intro hrb (And.intro k3b (And.intro hlV (And.intro hSl hl2))))))))
    clear HV k3 o3 hSl hX1 hG hxl hF hlV hl2 k3b o3b hfb hzb hsb hrb hnr
    have hlen : ∀ W, (Builtin.len_ #[111] 3 #[vb]).run Try.prog W = .ok (.int .i64 nr) W := fun W => by obtain ⟨A, cp, rfl⟩ := row_slice HO.out; rfl
    gi_wp2_with (first | (gi_at_builtin; refine Hid.out ?_) | simp only [hlen])
    refine Lib.hid ?_
    refine wpListIn_one_t rfl _ _ 111 rfl b0 115 i0 _ 2 16 Try.underlying111 hi hz0 hz1 hz2 rfl (by decide) _ _ _ rfl HO.out #[.int .i64 y, .int .i64 1] _ rfl rfl rfl (by intro u hu; simp at hu; rcases hu with rfl | rfl <;> rfl) (by omega) (by decide) hbz ?_
    intro v1 W3 hown1 hfr1 htie
    obtain ⟨A1, c1', rfl⟩ := row_slice hown1
    have hn3 : ∀ k, vb.ownBlock = some k → k ≠ S := fun k hk e => by have := (HO.out.lt k hk).1; have := HSl.out; omega
    have e1 : W3.heap[S]? = some (.cells #[vb] 111 (0, 0)) := hfr1.blk HK3.out fun e => hn3 _ e rfl
    have g1 := blk_cell e1 0
    have g2 := blk_free e1 0
    have HN := Lib.hid (And.intro hn3 (And.intro hown1 (And.intro hfr1 (And.intro htie e1))))
    clear hn3 hown1 hfr1 htie e1 hlen
    gi_wp2_with fail
    obtain ⟨hX1, hG, hxl, hfb, hrb, k3b, hlV, hSl, hl2⟩ := HE.out
    obtain ⟨hn3, hown1, hfr1, htie, e1⟩ := HN.out
    exact boxD_end HNR.out (rows := fun pre => pre.map fun p => (p.1, (1 : Int))) (x := (y, at_)) (y := (y, 1)) (by simp) hX1 (fun k hk => (hG k hk).1) hxl hfb hrb hSl hn3 hown1 hfr1 htie e1
  case done =>
    rintro D1 X2 V2 hD1 hxD hG hF ⟨v1, k3, o3, hSl, hX2⟩ hdef
    have m3 : MidD w1 S b0 v1 ((dueMI L now).map fun p => (p.1, (1 : Int))) V2 := ⟨m2.fr.trans3 hF fun _ _ e => e, k3, o3⟩
    have hD1v : ¬ v1.ownBlock = some D1 := fun e => hxD ((hX2 D1).2 (.inr e))
    obtain ⟨f1, k0, k1, k2, h1, hd, hlt⟩ := H1.out
    have hV2 := h1.fr m3.fr fun k e => by subst e; omega
    have c0 := blk_cell (m3.fr.blk k0 (by omega)) 0
    have c1 := blk_cell (m3.fr.blk k1 (by omega)) 0
    have cp := blk_cell hV2.box 5
    have HD := Lib.hid (fun n => due_tab hV2.ta ((Fr.refl (fun _ => False) V2).drewN n) (by omega) now)
    have M3 := Lib.hid (And.intro m3 (And.intro hdef hD1v))
    have hzV2 : w1.heap.size ≤ V2.heap.size := m3.fr.size
    clear hseq hYb hYl heg m2 M2 hD1v hxD hG hF k3 o3 hSl hX2 hdef m3 f1 k0 k1 k2 h1 hd hV2
    gi_wp2_with fail
    refine wpIn_quiet_tail 5 (by kernel_rfl) (by kernel_rfl) (by kernel_rfl) ?_
    simp only [List.take_succ_cons, List.take_zero, List.drop_succ_cons, List.drop_zero]
    repeat (refine quiet_step_w (fun _ => trivial) (fun K hK => ?_); go_simp; refine hK _ ?_; clear hK K)
    refine wpQuietIn_nil ?_
    intro _ hw'
    obtain ⟨nq, hw''⟩ := hw'
    subst hw''
    gi_wp2_with fail
    refine ⟨trivial, (calls_wide (.inl rfl) (HD.out nq)).mono ?_⟩
    rintro e W3 ⟨⟨F, rfl, hT⟩, hB⟩
    have m4 := M3.out.1.go (((Fr.refl (fun _ => False) V2).drewN nq).trans (Fr.of_below hB))
    have hdef := (((Fr.refl (fun _ => False) V2).drewN nq).trans (Fr.of_below hB)).blk M3.out.2.1 fun e => e
    have hD1v := M3.out.2.2
    obtain ⟨Y, hYb, gf, lb, rfl, hseq, hYl, heg⟩ := taleRI_tells hT (Nat.le_trans (dueMI_len A now) (by omega))
    rw [size_drewN] at hYb
    have hzW3 : V2.heap.size ≤ W3.heap.size := by have := hB.size; rwa [size_drewN] at this
    have hvl : ∀ k, v1.ownBlock = some k → b0 ≤ k ∧ k < V2.heap.size := fun k hk => M3.out.1.own.lt k hk
    have M4 := Lib.hid (And.intro m4 (And.intro hdef hD1v))
    clear hT hB c0 c1 cp HD M3
    gi_wp2_with fail
    refine wpIn_rangeF (X := fun k => k = S ∨ v1.ownBlock = some k) (Y := Y) (xs := dueMI A now) (encs := encAI) (gf := gf) (lb := lb) (BoxD S b0 (fun pre => (dueMI L now).map (fun p => (p.1, (1 : Int))) ++ pre.map fun p => (p.1, (3 : Int)))) (fun _ _ _ _ => False)
      rfl hseq (fun k hk => ⟨by rcases hk with e | e; omega; have := hvl k e; omega, fun e => by have := hYb k e; rcases hk with e | e; omega; have := hvl k e; omega⟩) hYl (by omega) heg (fun _ => rfl)
      (boxD_stays _ _ _) (fun c s X1 V1 V2 h => h.elim) ⟨_, m4.box, by simpa using m4.own, by omega, fun k => Iff.rfl⟩ ?round ?done (fun _ _ _ _ _ _ _ _ _ _ _ h => h.elim)
    case round =>
      rintro l pre ⟨y, at_⟩ r X1 V K rb hl2 hpx hI hG hxl hF hlV hK
      dsimp only [encAI, kVI]
      have hpl : pre.length ≤ 1000 := by
        have h1 := congrArg List.length hpx
        have h2 := dueMI_len A now
        simp at h1; omega
      have hll := dueMI_len L now
      have HK := Lib.hid hK
      have HV := Lib.hid (And.intro hI (And.intro hG (And.intro hxl (And.intro hF (And.intro hlV hl2)))))
      clear hK hpx hI hG hxl hF hlV hl2 hseq hYb hYl heg m4 M4 hvl hdef hD1v
      gi_wp2_with fail
      refine HK.out _ _ (Fr.refl _ _) fun Vb hfb hzb hsb hrb => ?_
      clear HK K
      obtain ⟨⟨vb, k3, o3, hSl, hX1⟩, hG, hxl, hF, hlV, hl2⟩ := HV.out
      have k3b := hfb.blk k3 (fun e => hxl ((hX1 l).2 (.inl e.symm)))
      have o3b := ownD_kept o3 fun g hg => hfb.block g (o3.lt g hg).2 fun e => hxl ((hX1 l).2 (.inr (e ▸ hg)))
      have c3 := blk_cell k3b 0
      have hbz : b0 ≤ Vb.heap.size := by have := hF.size; have := hfb.size; omega
      have hrl : ((dueMI L now).map (fun p => (p.1, (1 : Int))) ++ pre.map fun p => (p.1, (3 : Int))).length ≤ 3000 := by simp only [List.length_append, List.length_map]; omega
      obtain ⟨nr, hnr⟩ : ∃ nr, ((dueMI L now).map (fun p => (p.1, (1 : Int))) ++ pre.map fun p => (p.1, (3 : Int))).length = nr := ⟨_, rfl⟩
      have HO : Hid (Vb.ownsRow b0 115 2 vb nr (((dueMI L now).map (fun p => (p.1, (1 : Int))) ++ pre.map fun p => (p.1, (3 : Int))).flatMap encD)) := by rw [← hnr]; exact o3b
      rw [hnr] at hrl
      have HK3 := Lib.hid k3b
      have HSl := Lib.hid hSl
      have HNR := Lib.hid hnr
      have HE := Lib.hid (And.intro hX1 (And.intro hG (And.intro hxl (And.intro hfb (And.intro hrb (And.intro k3b (And.intro hlV (And.intro hSl hl2))))))))
      clear HV k3 o3 hSl hX1 hG hxl hF hlV hl2 k3b o3b hfb hzb hsb hrb hnr
      have hlen : ∀ W, (Builtin.len_ #[111] 3 #[vb]).run Try.prog W = .ok (.int .i64 nr) W := fun W => by obtain ⟨A, cp, rfl⟩ := row_slice HO.out; rfl
      gi_wp2_with (first | (gi_at_builtin; refine Hid.out ?_) | simp only [hlen])
      refine Lib.hid ?_
      refine wpListIn_one_t rfl _ _ 111 rfl b0 115 i0 _ 2 16 Try.underlying111 hi hz0 hz1 hz2 rfl (by decide) _ _ _ rfl HO.out #[.int .i64 y, .int .i64 3] _ rfl rfl rfl (by intro u hu; simp at hu; rcases hu with rfl | rfl <;> rfl) (by omega) (by decide) hbz ?_
      intro v1 W3 hown1 hfr1 htie
      obtain ⟨A1, c1', rfl⟩ := row_slice hown1
      have hn3 : ∀ k, vb.ownBlock = some k → k ≠ S := fun k hk e => by have := (HO.out.lt k hk).1; have := HSl.out; omega
      have e1 : W3.heap[S]? = some (.cells #[vb] 111 (0, 0)) := hfr1.blk HK3.out fun e => hn3 _ e rfl
      have g1 := blk_cell e1 0
      have g2 := blk_free e1 0
      have HN := Lib.hid (And.intro hn3 (And.intro hown1 (And.intro hfr1 (And.intro htie e1))))
      clear hn3 hown1 hfr1 htie e1 hlen
      gi_wp2_with fail
      obtain ⟨hX1, hG, hxl, hfb, hrb, k3b, hlV, hSl, hl2⟩ := HE.out
      obtain ⟨hn3, hown1, hfr1, htie, e1⟩ := HN.out
      exact boxD_end HNR.out (rows := fun pre => (dueMI L now).map (fun p => (p.1, (1 : Int))) ++ pre.map fun p => (p.1, (3 : Int))) (x := (y, at_)) (y := (y, 3)) (by simp) hX1 (fun k hk => (hG k hk).1) hxl hfb hrb hSl hn3 hown1 hfr1 htie e1
    case done =>
      rintro D2 X2 V4 hD2 hxD hG hF ⟨v2, k3, o3, hSl, hX2⟩ hdef2
      obtain ⟨R2, hR2⟩ : ∃ R2, (dueMI L now).map (fun p => (p.1, (1 : Int))) ++ (dueMI A now).map (fun p => (p.1, (3 : Int))) = R2 := ⟨_, rfl⟩
      have hRl : R2.length ≤ 2000 := by
        have e1 := dueMI_len L now
        have e2 := dueMI_len A now
        rw [← hR2]; simp; omega
      have m5 : MidD w1 S b0 v2 R2 V4 := ⟨m4.fr.trans3 hF fun k hk e => e.elim id fun e => by have := hvl k e; omega, k3, by rw [← hR2]; exact o3⟩
      have hl1 := blk_lt hdef
      have hd1 := hF.blk hdef (fun e => e.elim (fun e => by omega) hD1v)
      have hD2v : ¬ v2.ownBlock = some D2 := fun e => hxD ((hX2 D2).2 (.inr e))
      have hD1v2 : ¬ v2.ownBlock = some D1 := fun e => ((hG D1 ((hX2 D1).2 (.inr e))).2 hl1).elim (fun e => by omega) hD1v
      have hD12 : D1 ≠ D2 := by omega
      obtain ⟨f1, k0, k1, k2, h1, hd, hlt⟩ := H1.out
      have hV4 := h1.fr m5.fr fun k e => by subst e; omega
      have c0 := blk_cell (m5.fr.blk k0 (by omega)) 0
      have c1 := blk_cell (m5.fr.blk k1 (by omega)) 0
      have cp := blk_cell hV4.box 4
      have HD := Lib.hid (fun n => due_tab hV4.tq ((Fr.refl (fun _ => False) V4).drewN n) (by omega) now)
      have M5 := Lib.hid (And.intro m5 (And.intro hd1 (And.intro hdef2 (And.intro hD1v2 (And.intro hD2v (And.intro hD12 (And.intro hR2 (And.intro hD1 hD2))))))))
      have hzV4 : w1.heap.size ≤ V4.heap.size := m5.fr.size
      clear hseq hYb hYl heg m4 M4 hD1v hxD hG hF k3 o3 hSl hX2 hdef hdef2 m5 f1 k0 k1 k2 h1 hd hV4 hl1 hd1 hD2v hD1v2 hD12 hR2 hvl
      gi_wp2_with fail
      refine wpIn_quiet_tail 5 (by kernel_rfl) (by kernel_rfl) (by kernel_rfl) ?_
      simp only [List.take_succ_cons, List.take_zero, List.drop_succ_cons, List.drop_zero]
      repeat (refine quiet_step_w (fun _ => trivial) (fun K hK => ?_); go_simp; refine hK _ ?_; clear hK K)
      refine wpQuietIn_nil ?_
      intro _ hw'
      obtain ⟨nq, hw''⟩ := hw'
      subst hw''
      gi_wp2_with fail
      refine ⟨trivial, (calls_wide (.inl rfl) (HD.out nq)).mono ?_⟩
      rintro e W5 ⟨⟨F, rfl, hT⟩, hB⟩
      have f45 : Fr (fun _ => False) V4 W5 := ((Fr.refl (fun _ => False) V4).drewN nq).trans (Fr.of_below hB)
      have m6 := M5.out.1.go f45
      obtain ⟨Y, hYb, gf, lb, rfl, hseq, hYl, heg⟩ := taleRI_tells hT (Nat.le_trans (dueMI_len Q now) (by omega))
      rw [size_drewN] at hYb
      have hzW5 : V4.heap.size ≤ W5.heap.size := f45.size
      have hvl : ∀ k, v2.ownBlock = some k → b0 ≤ k ∧ k < V4.heap.size := fun k hk => M5.out.1.own.lt k hk
      obtain ⟨f1, k0, k1, k2, h1, hd, hlt⟩ := H1.out
      have h5 := h1.fr m6.fr fun k e => by subst e; omega
      have H5 := Lib.hid (And.intro m6 (And.intro f45 h5))
      have hge : ∀ k, (k = S ∨ k = B.qb ∨ k = B.ab ∨ v2.ownBlock = some k) → k < V4.heap.size := fun k e => by
        rcases e with e | e | e | e
        · omega
        · omega
        · omega
        · exact (hvl k e).2
      clear hT hB c0 c1 cp HD f1 k0 k1 k2 h1 hd f45
      gi_wp2_with fail
      refine wpIn_rangeF (X := fun k => k = S ∨ k = B.qb ∨ k = B.ab ∨ v2.ownBlock = some k) (Y := Y) (xs := dueMI Q now) (encs := encAI) (gf := gf) (lb := lb) (BoxQ S b0 B.qb B.ab R2 gr now Q A) (fun _ _ _ _ => False)
        rfl hseq (fun k hk => ⟨by have := hge k hk; omega, fun e => by have := hYb k e; have := hge k hk; omega⟩) hYl (by omega) heg (fun _ => rfl)
        (boxQ_stays _ _ _ _ _ _ _ _ _) (fun c s X1 V1 V2 h => h.elim) ⟨_, m6.box, by simpa using m6.own, h5.tq.2.2.2.2, h5.ta.2.2.2.2, fun k => Iff.rfl⟩ ?round ?done (fun _ _ _ _ _ _ _ _ _ _ _ h => h.elim)
      case round =>
        rintro l pre ⟨y, at_⟩ r X1 V K rb hl2 hpx hI hG hxl hF hlV hK
        dsimp only [encAI, kVI]
        have hym : (y, at_) ∈ dueMI Q now := by rw [← hpx]; simp
        have hpm : ∀ q ∈ pre, q ∈ dueMI Q now := fun q hq => by rw [← hpx]; exact List.mem_append_left _ hq
        have hpl : pre.length ≤ 1000 := by
          have h1 := congrArg List.length hpx
          have h2 := dueMI_len Q now
          simp at h1; omega
        have HK := Lib.hid hK
        have HV := Lib.hid (And.intro hI (And.intro hG (And.intro hxl (And.intro hF (And.intro hlV (And.intro hl2 (And.intro hym hpm)))))))
        clear hK hpx hI hG hxl hF hlV hl2 hseq hYb hYl heg m6 h5 hvl hge hym hpm
        gi_wp2_with fail
        refine HK.out _ _ (Fr.refl _ _) fun Vb hfb hzb hsb hrb => ?_
        clear HK K
        obtain ⟨⟨vb, k3, o3, hq3, ha3, hX1⟩, hG, hxl, hF, hlV, hl2, hym, hpm⟩ := HV.out
        obtain ⟨m6, f45, h5⟩ := H5.out
        obtain ⟨f1, k0, k1, k2, h1, hd, hlt⟩ := H1.out
        have hFw : Fr (fun k => k = S ∨ k = B.qb ∨ k = B.ab) w1 Vb := by
          have e1 : Fr (fun k => k = S ∨ k = B.qb ∨ k = B.ab) w1 V := (m6.fr.mono (Y := fun k => k = S ∨ k = B.qb ∨ k = B.ab) fun k _ e => .inl e).trans3 hF fun k hk e => by
            rcases e with e | e | e | e
            · exact .inl e
            · exact .inr (.inl e)
            · exact .inr (.inr e)
            · have := (m6.own.lt k e).1; omega
          exact e1.trans3 hfb fun k hk e => by omega
        have hqy := dueMI_mem.1 hym
        have hby := h1.sq _ hqy.1
        have hoy : OkKI y := by obtain ⟨_, _, _, _, D, _, _, h2⟩ := h1.tq; exact (h2 _ hqy.1).1
        have hpb := h1.pb
        have hsA : SmallT (pre.foldl (stepA gr now) A) := smallT_takeA h1.sa fun q hq => by
          have e1 := dueMI_mem.1 (hpm q hq)
          have e2 := h1.sq _ e1.1
          omega
        have hgV : PulG base Vb B pg gr rg L (pre.foldl (stepQ gr now) Q) (pre.foldl (stepA gr now) A) := h1.turn hFw (fun k e => by
            have hf := h1.far
            have ht1 := h1.tq.2.2.1
            have ht2 := h1.ta.2.2.1
            rcases e with rfl | rfl | rfl
            · omega
            · exact ⟨hf.1.2.1.symm, hf.2.1.1.symm, hf.2.2.2.2.1.symm, ht1.symm, hf.2.2.2.1.2.symm⟩
            · exact ⟨hf.1.2.2.symm, hf.2.1.2.symm, hf.2.2.2.2.2.1.symm, hf.2.2.1.2.symm, ht2.symm⟩) (tabMI_same hq3 (hfb.block _ (tabMI_lt hq3) fun e => hxl ((hX1 _).2 (.inr (.inl e.symm))))) (tabMI_same ha3 (hfb.block _ (tabMI_lt ha3) fun e => hxl ((hX1 _).2 (.inr (.inr (.inl e.symm)))))) (smallT_takeQ h1.sq) hsA
        have kN := hFw.blk k0 (fun e => by rcases e with e | e | e <;> omega)
        have kM := hFw.blk k1 (fun e => by rcases e with e | e | e <;> omega)
        have c0 := blk_cell kN 0
        have c1 := blk_cell kM 0
        have cg := blk_cell hgV.box 1
        have hw : IntKind.i64.wrap (at_ + gr) = at_ + gr := IntWalk.i64_in _ ⟨by dsimp only at hby; omega, by dsimp only at hby hqy; omega⟩
        have k3b := hfb.blk k3 (fun e => hxl ((hX1 l).2 (.inl e.symm)))
        have o3b := ownD_kept o3 fun g hg => hfb.block g (o3.lt g hg).2 fun e => hxl ((hX1 l).2 (.inr (.inr (.inr (e ▸ hg)))))
        have hbz : b0 ≤ Vb.heap.size := by have := hFw.size; omega
        have hbat : -1000000000000 ≤ at_ ∧ at_ ≤ now := ⟨hby.1, hqy.2⟩
        have hlA := len_takeA gr now pre A
        have HP := Lib.hid (And.intro hgV (And.intro k3b (And.intro o3b (And.intro hfb (And.intro hrb (And.intro hX1 (And.intro hxl (And.intro hlV (And.intro hoy (And.intro hlA (And.intro kN (And.intro kM hl2))))))))))))
        clear HV k3 o3 hq3 ha3 hX1 hG hxl hF hlV hl2 hym hpm m6 f45 h5 f1 k0 k1 k2 h1 hd hFw hqy hby hoy hsA hgV k3b o3b hfb hzb hsb hrb hlA kN kM
        by_cases hle : at_ + gr ≤ now
        · gi_wp2_with fail
          refine wpIn_quiet_all (by kernel_rfl) (by kernel_rfl) (by kernel_rfl) ?_
          repeat (refine quiet_step_w (fun _ => trivial) (fun K hK => ?_); go_simp; refine hK _ ?_; clear hK K)
          refine wpQuietIn_nil ?_
          intro _ hw'
          obtain ⟨nq, hw''⟩ := hw'
          subst hw''
          obtain ⟨Vc, hVc⟩ : ∃ Vc, Vb.drewN nq = Vc := ⟨_, rfl⟩
          have fc : Fr (fun _ => False) Vb Vc := by rw [← hVc]; exact (Fr.refl _ Vb).drewN nq
          rw [hVc]
          obtain ⟨hgV, k3b, o3b, hfb, hrb, hX1, hxl, hlV, hoy, hlA, kN, kM, hl2⟩ := HP.out
          have k3c := fc.blk k3b fun e => e
          have o3c := ownD_kept o3b fun g hg => fc.block g (o3b.lt g hg).2 fun e => e
          have hfc : Fr (fun k => k = l) V Vc := hfb.trans3 fc fun _ _ e => e.elim
          have hrc := fc.blk hrb fun e => e
          have hgc := hgV.fr fc fun k e => e.elim
          have kNc := fc.blk kN fun e => e
          have kMc := fc.blk kM fun e => e
          have hbz : b0 ≤ Vc.heap.size := by have := fc.size; omega
          have hrl : (R2 ++ pre.map (rowQ gr now)).length ≤ 3000 := by simp only [List.length_append, List.length_map]; omega
          obtain ⟨nr, hnr⟩ : ∃ nr, (R2 ++ pre.map (rowQ gr now)).length = nr := ⟨_, rfl⟩
          have HO : Hid (Vc.ownsRow b0 115 2 vb nr ((R2 ++ pre.map (rowQ gr now)).flatMap encD)) := by rw [← hnr]; exact o3c
          rw [hnr] at hrl
          have HK3 := Lib.hid k3c
          have HSl : Hid (S < b0) := by show S < b0; omega
          have HE := Lib.hid (And.intro hnr (And.intro hgc (And.intro k3c (And.intro hfc (And.intro hrc (And.intro hX1 (And.intro hxl (And.intro hoy (And.intro hlA (And.intro kNc (And.intro kMc (And.intro hl2 hlV))))))))))))
          clear hVc fc hgV k3b o3b hfb hrb hX1 hxl hlV hoy hlA kN kM k3c o3c hfc hrc hgc kNc kMc hnr hl2 HP c0 c1 cg
          have c3 := blk_cell HK3.out 0
          have hlen : ∀ W, (Builtin.len_ #[111] 3 #[vb]).run Try.prog W = .ok (.int .i64 nr) W := fun W => by obtain ⟨A, cp, rfl⟩ := row_slice HO.out; rfl
          gi_wp2_with (first | (gi_at_builtin; refine Hid.out ?_) | simp only [hlen])
          refine Lib.hid ?_
          refine wpListIn_one_t rfl _ _ 111 rfl b0 115 i0 _ 2 16 Try.underlying111 hi hz0 hz1 hz2 rfl (by decide) _ _ _ rfl HO.out #[.int .i64 y, .int .i64 3] _ rfl rfl rfl (by intro u hu; simp at hu; rcases hu with rfl | rfl <;> rfl) (by omega) (by decide) hbz ?_
          intro v1 W3 hown1 hfr1 htie
          obtain ⟨A1, c1', rfl⟩ := row_slice hown1
          have hn3 : ∀ k, vb.ownBlock = some k → k ≠ S := fun k hk e => by have := (HO.out.lt k hk).1; have := HSl.out; omega
          have e1 : W3.heap[S]? = some (.cells #[vb] 111 (0, 0)) := hfr1.blk HK3.out fun e => hn3 _ e rfl
          have g1 := blk_cell e1 0
          have g2 := blk_free e1 0
          have HN := Lib.hid (And.intro hn3 (And.intro hown1 (And.intro hfr1 (And.intro htie e1))))
          clear hn3 hown1 hfr1 htie e1 hlen
          have rq : rowQ gr now (y, at_) = (y, 3) := by unfold rowQ; rw [if_pos hle]
          have sq : stepQ gr now (pre.foldl (stepQ gr now) Q) (y, at_) = pre.foldl (stepQ gr now) Q := by unfold stepQ; rw [if_pos hle]
          have sA : stepA gr now (pre.foldl (stepA gr now) A) (y, at_) = pre.foldl (stepA gr now) A := by unfold stepA; rw [if_pos hle]
          have HR := Lib.hid (And.intro rq (And.intro sq sA))
          clear rq sq sA
          gi_wp2_with fail
          obtain ⟨hnr, hgc, k3c, hfc, hrc, hX1, hxl, hoy, hlA, kNc, kMc, hl2, hlV⟩ := HE.out
          obtain ⟨hn3, hown1, hfr1, htie, e1⟩ := HN.out
          have hlt := H1.out.2.2.2.2.2.2
          have hown2 : OwnD b0 W3 (.slice A1 (nr + 1) c1') (R2 ++ pre.map (rowQ gr now) ++ [(y, 3)]) := by
            have := hown1
            rw [← hnr] at this ⊢
            exact ownD_snoc this
          have hnx : (Value.slice A1 (nr + 1) c1').ownBlock ≠ some S := fun e => by have := (hown2.lt _ e).1; have := HSl.out; omega
          obtain ⟨W4, hW4⟩ : ∃ W4, W3.setCell ⟨S, 0, none⟩ (.slice A1 (nr + 1) c1') = W4 := ⟨_, rfl⟩
          have box4 : W4.heap[S]? = some (.cells #[.slice A1 (nr + 1) c1'] 111 (0, 0)) := by rw [← hW4]; exact blk_set e1 0 _
          have own4 : OwnD b0 W4 (.slice A1 (nr + 1) c1') (R2 ++ pre.map (rowQ gr now) ++ [(y, 3)]) := by rw [← hW4]; exact ownD_kept hown2 fun g hg => heap_setCell_other W3 _ g _ fun e => by simp at e; exact hnx (e ▸ hg)
          have f34 : Fr (fun k => k = S ∨ vb.ownBlock = some k) Vc W4 := by rw [← hW4]; exact (hfr1.mono (Y := fun k => k = S ∨ vb.ownBlock = some k) fun k _ e => .inr e).setCell _ (.inl rfl) _
          have hvb : ∀ k, vb.ownBlock = some k → b0 ≤ k := fun k hk => (HO.out.lt k hk).1
          have hg4 := hgc.fr f34 fun k e => by
            rcases e with e | e
            · omega
            · have := hvb k e; omega
          obtain ⟨rq, sq, sA⟩ := HR.out
          rw [hW4]
          refine boxQ_fin hX1 hxl hfc (f34.mono fun k _ e => e.elim (fun e => .inl e) fun e => .inr (.inr (.inr e))) hrc box4 ?_ ?_ ?_ htie
          · rw [List.map_append, ← List.append_assoc]; simp only [List.map_cons, List.map_nil]; rw [rq]; exact own4
          · rw [List.foldl_append]; simp only [List.foldl_cons, List.foldl_nil]; rw [sq]; exact hg4.tq.2.2.2.2
          · rw [List.foldl_append]; simp only [List.foldl_cons, List.foldl_nil]; rw [sA]; exact hg4.ta.2.2.2.2
        · gi_wp2_with fail
          refine wpIn_quiet_all (by kernel_rfl) (by kernel_rfl) (by kernel_rfl) ?_
          repeat (refine quiet_step_w (fun _ => trivial) (fun K hK => ?_); go_simp; refine hK _ ?_; clear hK K)
          refine wpQuietIn_nil ?_
          intro _ hw'
          obtain ⟨nq, hw''⟩ := hw'
          subst hw''
          obtain ⟨Vc, hVc⟩ : ∃ Vc, Vb.drewN nq = Vc := ⟨_, rfl⟩
          have fc : Fr (fun _ => False) Vb Vc := by rw [← hVc]; exact (Fr.refl _ Vb).drewN nq
          rw [hVc]
          obtain ⟨hgV, k3b, o3b, hfb, hrb, hX1, hxl, hlV, hoy, hlA, kN, kM, hl2⟩ := HP.out
          have k3c := fc.blk k3b fun e => e
          have o3c := ownD_kept o3b fun g hg => fc.block g (o3b.lt g hg).2 fun e => e
          have hfc : Fr (fun k => k = l) V Vc := hfb.trans3 fc fun _ _ e => e.elim
          have hrc := fc.blk hrb fun e => e
          have hgc := hgV.fr fc fun k e => e.elim
          have kNc := fc.blk kN fun e => e
          have kMc := fc.blk kM fun e => e
          have hbz : b0 ≤ Vc.heap.size := by have := fc.size; omega
          have hrl : (R2 ++ pre.map (rowQ gr now)).length ≤ 3000 := by simp only [List.length_append, List.length_map]; omega
          obtain ⟨nr, hnr⟩ : ∃ nr, (R2 ++ pre.map (rowQ gr now)).length = nr := ⟨_, rfl⟩
          have HO : Hid (Vc.ownsRow b0 115 2 vb nr ((R2 ++ pre.map (rowQ gr now)).flatMap encD)) := by rw [← hnr]; exact o3c
          rw [hnr] at hrl
          have HK3 := Lib.hid k3c
          have HSl : Hid (S < b0) := by show S < b0; omega
          have HE := Lib.hid (And.intro hnr (And.intro hgc (And.intro k3c (And.intro hfc (And.intro hrc (And.intro hX1 (And.intro hxl (And.intro hoy (And.intro hlA (And.intro kNc (And.intro kMc (And.intro hl2 hlV))))))))))))
          clear hVc fc hgV k3b o3b hfb hrb hX1 hxl hlV hoy hlA kN kM k3c o3c hfc hrc hgc kNc kMc hnr hl2 HP c0 c1 cg
          have c3 := blk_cell HK3.out 0
          have hlen : ∀ W, (Builtin.len_ #[111] 3 #[vb]).run Try.prog W = .ok (.int .i64 nr) W := fun W => by obtain ⟨A, cp, rfl⟩ := row_slice HO.out; rfl
          gi_wp2_with (first | (gi_at_builtin; refine Hid.out ?_) | simp only [hlen])
          refine Lib.hid ?_
          refine wpListIn_one_t rfl _ _ 111 rfl b0 115 i0 _ 2 16 Try.underlying111 hi hz0 hz1 hz2 rfl (by decide) _ _ _ rfl HO.out #[.int .i64 y, .int .i64 2] _ rfl rfl rfl (by intro u hu; simp at hu; rcases hu with rfl | rfl <;> rfl) (by omega) (by decide) hbz ?_
          intro v1 W3 hown1 hfr1 htie
          obtain ⟨A1, c1', rfl⟩ := row_slice hown1
          have hn3 : ∀ k, vb.ownBlock = some k → k ≠ S := fun k hk e => by have := (HO.out.lt k hk).1; have := HSl.out; omega
          have e1 : W3.heap[S]? = some (.cells #[vb] 111 (0, 0)) := hfr1.blk HK3.out fun e => hn3 _ e rfl
          have g1 := blk_cell e1 0
          have g2 := blk_free e1 0
          have HN := Lib.hid (And.intro hn3 (And.intro hown1 (And.intro hfr1 (And.intro htie e1))))
          clear hn3 hown1 hfr1 htie e1 hlen
          obtain ⟨hnr, hgc, k3c, hfc, hrc, hX1, hxl, hoy, hlA, kNc, kMc, hl2, hlV⟩ := HE.out
          obtain ⟨hn3, hown1, hfr1, htie, e1⟩ := HN.out
          have hlt := H1.out.2.2.2.2.2.2
          have hown2 : OwnD b0 W3 (.slice A1 (nr + 1) c1') (R2 ++ pre.map (rowQ gr now) ++ [(y, 2)]) := by
            have := hown1
            rw [← hnr] at this ⊢
            exact ownD_snoc this
          have hnx : (Value.slice A1 (nr + 1) c1').ownBlock ≠ some S := fun e => by have := (hown2.lt _ e).1; have := HSl.out; omega
          obtain ⟨W4, hW4⟩ : ∃ W4, W3.setCell ⟨S, 0, none⟩ (.slice A1 (nr + 1) c1') = W4 := ⟨_, rfl⟩
          have box4 : W4.heap[S]? = some (.cells #[.slice A1 (nr + 1) c1'] 111 (0, 0)) := by rw [← hW4]; exact blk_set e1 0 _
          have own4 : OwnD b0 W4 (.slice A1 (nr + 1) c1') (R2 ++ pre.map (rowQ gr now) ++ [(y, 2)]) := by rw [← hW4]; exact ownD_kept hown2 fun g hg => heap_setCell_other W3 _ g _ fun e => by simp at e; exact hnx (e ▸ hg)
          have f34 : Fr (fun k => k = S ∨ vb.ownBlock = some k) Vc W4 := by rw [← hW4]; exact (hfr1.mono (Y := fun k => k = S ∨ vb.ownBlock = some k) fun k _ e => .inr e).setCell _ (.inl rfl) _
          have hvb : ∀ k, vb.ownBlock = some k → b0 ≤ k := fun k hk => (HO.out.lt k hk).1
          have hg4 := hgc.fr f34 fun k e => by
            rcases e with e | e
            · omega
            · have := hvb k e; omega
          have k4N := f34.blk kNc (fun e => by rcases e with e | e; omega; have := hvb _ e; omega)
          have c0 := blk_cell k4N 0
          have cq := blk_cell hg4.box 4
          have HS := Lib.hid (tim_stopI hg4.tq hoy)
          have H4 := Lib.hid (And.intro box4 (And.intro own4 (And.intro f34 (And.intro hvb (And.intro hg4 (And.intro hlt k4N))))))
          clear hnr hgc k3c hfc hrc hX1 hxl hoy hlA kNc kMc hl2 hlV hn3 hown1 hfr1 htie e1 hlt hown2 hnx box4 own4 f34 hvb hg4 k4N
          unfold kVI at HS
          gi_wp2_with fail
          refine ⟨trivial, (calls_wide (.inr ⟨l, rfl⟩) HS.out).mono ?_⟩
          rintro e W5 ⟨rfl, t5, f5⟩
          obtain ⟨hnr, hgc, k3c, hfc, hrc, hX1, hxl, hoy, hlA, kNc, kMc, hl2, hlV⟩ := HE.out
          obtain ⟨box4, own4, f34, hvb, hg4, hlt, k4N⟩ := H4.out
          have hg5 := hg4.setQ t5 f5 (smallT_del hg4.sq y)
          have k5N := f5.blk k4N (by omega)
          have c0 := blk_cell k5N 0
          have cg := blk_cell hg5.box 1
          have ca := blk_cell hg5.box 5
          have hset : ∀ n, Calls Try.prog 24 #[.pointer (some ⟨B.a, 0, none⟩), .int .i64 y, .int .i64 (at_ + gr)] (W5.drewN n) fun e w' => e = .returned (.tuple #[]) ∧ TabI base w' B.a B.ab (setM (pre.foldl (stepA gr now) A) y (at_ + gr)) ∧ Fr (fun j => j = B.ab) (W5.drewN n) w' := fun n =>
            tim_setI (tabI_fr hg5.ta ((Fr.refl (fun _ => False) W5).drewN n) (fun e => e) fun e => e) hoy (WalkArith.wf_i64 ⟨by omega, by omega⟩) (by omega)
          have H5' := Lib.hid (And.intro hg5 f5)
          have HSet := Lib.hid hset
          clear hnr hgc k3c hfc hrc hX1 hxl hoy hlA kNc kMc hl2 hlV box4 own4 f34 hvb hg4 hlt k4N hg5 k5N t5 f5 HS cq hset hW4
          gi_wp2_with fail
          refine wpIn_quiet_tail 11 (by kernel_rfl) (by kernel_rfl) (by kernel_rfl) ?_
          simp only [List.take_succ_cons, List.take_zero, List.drop_succ_cons, List.drop_zero]
          repeat (refine quiet_step_w (fun _ => trivial) (fun K hK => ?_); go_simp; refine hK _ ?_; clear hK K)
          refine wpQuietIn_nil ?_
          intro _ hw'
          obtain ⟨nq2, hw''⟩ := hw'
          subst hw''
          gi_wp2_with fail
          refine ⟨trivial, (calls_wide (.inr ⟨l, rfl⟩) (HSet.out nq2)).mono ?_⟩
          rintro e W6 ⟨rfl, t6, f6⟩
          have H6 := Lib.hid (And.intro t6 f6)
          clear t6 f6 c0 cg ca
          gi_wp2_with fail
          obtain ⟨t6, f6⟩ := H6.out
          obtain ⟨hnr, hgc, k3c, hfc, hrc, hX1, hxl, hoy, hlA, kNc, kMc, hl2, hlV⟩ := HE.out
          obtain ⟨box4, own4, f34, hvb, hg4, hlt, k4N⟩ := H4.out
          obtain ⟨hg5, f5⟩ := H5'.out
          obtain ⟨hn3, hown1, hfr1, htie, e1⟩ := HN.out
          have rq : rowQ gr now (y, at_) = (y, 2) := by unfold rowQ; rw [if_neg (show ¬ ((y, at_) : Int × Int).2 + gr ≤ now from by dsimp only; omega)]
          have sq : stepQ gr now (pre.foldl (stepQ gr now) Q) (y, at_) = delM (pre.foldl (stepQ gr now) Q) y := by unfold stepQ; rw [if_neg (show ¬ ((y, at_) : Int × Int).2 + gr ≤ now from by dsimp only; omega)]
          have sA : stepA gr now (pre.foldl (stepA gr now) A) (y, at_) = setM (pre.foldl (stepA gr now) A) y (at_ + gr) := by unfold stepA; rw [if_neg (show ¬ ((y, at_) : Int × Int).2 + gr ≤ now from by dsimp only; omega)]
          have f46 : Fr (fun k => k = B.qb ∨ k = B.ab) W4 W6 := ((f5.mono (Y := fun k => k = B.qb ∨ k = B.ab) fun k _ e => .inl e).drewN nq2).trans3 (f6.mono (Y := fun k => k = B.qb ∨ k = B.ab) fun k _ e => .inr e) fun k _ e => e
          have box6 := f46.blk box4 (fun e => by rcases e with e | e <;> omega)
          have own6 := ownD_kept own4 fun g hg => f46.block g (own4.lt g hg).2 fun e => by have := (own4.lt g hg).1; rcases e with e | e <;> omega
          have tq6 : TabMI W6 B.qb (delM (pre.foldl (stepQ gr now) Q) y) := tabMI_same hg5.tq.2.2.2.2 (f6.block B.qb (by rw [size_drewN]; exact tabMI_lt hg5.tq.2.2.2.2) hg5.far.2.2.2.2.2.2)
          refine boxQ_fin hX1 hxl hfc ((f34.mono (Y := fun k => k = S ∨ k = B.qb ∨ k = B.ab ∨ vb.ownBlock = some k) fun k _ e => e.elim (fun e => .inl e) fun e => .inr (.inr (.inr e))).trans3 f46 fun k _ e => e.elim (fun e => .inr (.inl e)) fun e => .inr (.inr (.inl e))) hrc box6 ?_ ?_ ?_ htie
          · rw [List.map_append, ← List.append_assoc]; simp only [List.map_cons, List.map_nil]; rw [rq]; exact own6
          · rw [List.foldl_append]; simp only [List.foldl_cons, List.foldl_nil]; rw [sq]; exact tq6
          · rw [List.foldl_append]; simp only [List.foldl_cons, List.foldl_nil]; rw [sA]; exact t6.2.2.2.2
      case done =>
        rintro D3 X3 V5 hD3 hxD hG hF ⟨v3, k3, o3, hq3, ha3, hX3⟩ hdef3
        obtain ⟨m5, hd1, hd2, hD1v2, hD2v, hD12, hR2, hD1, hD2⟩ := M5.out
        obtain ⟨m6, f45, h5⟩ := H5.out
        obtain ⟨f1, k0, k1, k2, h1, hd, hlt⟩ := H1.out
        have hlD1 := blk_lt hd1
        have hlD2 := blk_lt hd2
        have hgeD : ∀ D, b0 ≤ D → D < W5.heap.size → ¬ v2.ownBlock = some D → ¬ (D = S ∨ D = B.qb ∨ D = B.ab ∨ v2.ownBlock = some D) := fun D hb hl hn e => by
          rcases e with e | e | e | e
          · omega
          · omega
          · omega
          · exact hn e
        have g1 := hF.blk (f45.blk hd1 fun e => e) (hgeD D1 (by omega) (by omega) hD1v2)
        have g2 := hF.blk (f45.blk hd2 fun e => e) (hgeD D2 (by omega) (by omega) hD2v)
        have hrows : R2 ++ (dueMI Q now).map (rowQ gr now) = rowsP gr now (dueMI L now) (dueMI A now) (dueMI Q now) := by rw [← hR2]; rfl
        rw [hrows] at o3
        have hlen : (rowsP gr now (dueMI L now) (dueMI A now) (dueMI Q now)).length ≤ 3000 := by
          have e1 := dueMI_len L now
          have e2 := dueMI_len A now
          have e3 := dueMI_len Q now
          unfold rowsP
          simp only [List.length_append, List.length_map]
          omega
        have nd : ∀ {t b : Nat} {T : Tab}, TabI base w1 t b T → (T.map (·.1)).Nodup := fun h => by obtain ⟨_, _, _, _, D, _, h2, _⟩ := h; exact h2.nodup
        have ndd : ∀ {t b : Nat} {T : Tab}, TabI base w1 t b T → ((dueMI T now).map (·.1)).Nodup := fun {t b T} h => by
          unfold dueMI
          exact ((sortTI_perm _).map _).nodup_iff.2 ((nd h).sublist ((List.filter_sublist).map _))
        have hnd := rowsP_nodup (gr := gr) (now := now) hd (ndd h1.tl) (ndd h1.ta) (ndd h1.tq) (fun p hp => (dueMI_mem.1 hp).1) (fun p hp => (dueMI_mem.1 hp).1) (fun p hp => (dueMI_mem.1 hp).1)
        have HS := Lib.hid (sort_due o3 hnd (by omega))
        have hvo : ∀ k, v3.ownBlock = some k → b0 ≤ k := fun k hk => (o3.lt k hk).1
        have hv3 : ∀ D, W5.heap.size ≤ D ∨ (b0 ≤ D ∧ ¬ v2.ownBlock = some D) → ¬ X3 D → ¬ v3.ownBlock = some D := fun D _ hx e => hx ((hX3 D).2 (.inr (.inr (.inr e))))
        have hx12 : ∀ D, b0 ≤ D → D < W5.heap.size → ¬ v2.ownBlock = some D → ¬ v3.ownBlock = some D := fun D hb hl hn e => hgeD D hb hl hn ((hG D ((hX3 D).2 (.inr (.inr (.inr e))))).2 hl)
        have n1 := hx12 D1 (by omega) (by omega) hD1v2
        have n2 := hx12 D2 (by omega) (by omega) hD2v
        have n3 : ¬ v3.ownBlock = some D3 := fun e => hxD ((hX3 D3).2 (.inr (.inr (.inr e))))
        have hFw : Fr (fun k => k = S ∨ k = B.qb ∨ k = B.ab) w1 V5 := (m6.fr.mono (Y := fun k => k = S ∨ k = B.qb ∨ k = B.ab) fun k _ e => .inl e).trans3 hF fun k hk e => by
          rcases e with e | e | e | e
          · exact .inl e
          · exact .inr (.inl e)
          · exact .inr (.inr e)
          · have := (m6.own.lt k e).1; omega
        have hsA : SmallT ((dueMI Q now).foldl (stepA gr now) A) := smallT_takeA h1.sa fun q hq => by
          have e1 := dueMI_mem.1 hq
          have e2 := h1.sq _ e1.1
          have e3 := h1.pb
          omega
        have hgV : PulG base V5 B pg gr rg L ((dueMI Q now).foldl (stepQ gr now) Q) ((dueMI Q now).foldl (stepA gr now) A) := h1.turn hFw (fun k e => by
            have hf := h1.far
            have ht1 := h1.tq.2.2.1
            have ht2 := h1.ta.2.2.1
            rcases e with rfl | rfl | rfl
            · omega
            · exact ⟨hf.1.2.1.symm, hf.2.1.1.symm, hf.2.2.2.2.1.symm, ht1.symm, hf.2.2.2.1.2.symm⟩
            · exact ⟨hf.1.2.2.symm, hf.2.1.2.symm, hf.2.2.2.2.2.1.symm, hf.2.2.1.2.symm, ht2.symm⟩) hq3 ha3 (smallT_takeQ h1.sq) hsA
        have c3 := blk_cell k3 0
        have hwV : Fr B.X w V5 := (f1.mono (Y := B.X) fun _ _ e => e.elim).trans3 hFw fun k hk e => by
          rcases e with e | e | e
          · omega
          · exact .inr (.inl e)
          · exact .inr (.inr e)
        have H7 := Lib.hid (And.intro k3 (And.intro hgV (And.intro hwV (And.intro g1 (And.intro g2 (And.intro hdef3 (And.intro n1 (And.intro n2 (And.intro n3 (And.intro hvo (And.intro hlen (And.intro hlt (And.intro hD12 (And.intro hD1 (And.intro hD2 (And.intro hD3 (And.intro hlD1 hlD2)))))))))))))))))
        clear k3 hgV hwV g1 g2 hdef3 n1 n2 n3 hvo hlen hlt hD12 hD1 hD2 hD3 hlD1 hlD2 hsA hFw hx12 hv3 hnd ndd nd o3 hrows hgeD f1 k0 k1 k2 h1 hd m6 f45 h5 m5 hd1 hd2 hD1v2 hD2v hR2 hxD hG hF hq3 ha3 hX3 hseq hYb hYl heg hvl hge
        gi_wp2_with fail
        refine ⟨trivial, (calls_wide (.inl rfl) HS.out).mono ?_⟩
        rintro e W7 ⟨rfl, ⟨R, oR, hR1, hR3, hR4⟩, f7⟩
        obtain ⟨k3, hgV, hwV, g1, g2, g3, n1, n2, n3, hvo, hlen, hlt, hD12, hD1, hD2, hD3, hlD1, hlD2⟩ := H7.out
        have k7 := f7.blk k3 (fun e => by have := hvo _ e; omega)
        have c7 := blk_cell k7 0
        have g1 := f7.blk g1 n1
        have g2 := f7.blk g2 n2
        have g3 := f7.blk g3 n3
        have hg7 := hgV.fr f7 fun k e => by have := hvo k e; omega
        have hw7 : Fr B.X w W7 := hwV.trans3 f7 fun k hk e => by have := hvo k e; omega
        have H8 := Lib.hid (And.intro oR (And.intro hR1 (And.intro hR3 (And.intro hR4 (And.intro g1 (And.intro g2 (And.intro g3 (And.intro hg7 (And.intro hw7 (And.intro n1 (And.intro n2 n3)))))))))))
        clear k3 hgV hwV g1 g2 g3 n1 n2 n3 hvo hlen hlt hD12 hD1 hD2 hD3 hlD1 hlD2 k7 hg7 hw7 oR hR1 hR3 hR4 f7 c3 HS
        gi_wp2_with fail
        obtain ⟨oR, hR1, hR3, hR4, g1, g2, g3, hg7, hw7, n1, n2, n3⟩ := H8.out
        obtain ⟨k3, hgV, hwV, g1', g2', g3', n1', n2', n3', hvo, hlen, hlt, hD12, hD1, hD2, hD3, hlD1, hlD2⟩ := H7.out
        refine leavesF [D3, D2, D1] _ (by simp; omega) (fun D hD => ?_) fun w' hf => ?_
        · simp only [List.mem_cons, List.not_mem_nil, or_false] at hD
          rcases hD with rfl | rfl | rfl
          · exact g3
          · exact g2
          · exact g1
        · have hDs : ∀ k, k ∈ [D3, D2, D1] → b0 ≤ k ∧ ¬ v3.ownBlock = some k := fun k hk => by
            simp only [List.mem_cons, List.not_mem_nil, or_false] at hk
            rcases hk with rfl | rfl | rfl
            · exact ⟨by omega, n3⟩
            · exact ⟨by omega, n2⟩
            · exact ⟨by omega, n1⟩
          refine ⟨v3, by simp [results, Try.results54, go_sem], ⟨v3, R, rfl, ?_, hR1, hR3, by omega⟩, hg7.fr hf fun k e => by have := (hDs k e).1; omega, hw7.trans3 hf fun k hk e => by have := (hDs k e).1; omega⟩
          exact ownD_base (ownD_kept oR fun g hg => hf.block g (oR.lt g hg).2 fun e => (hDs g e).2 hg) (by omega)
end Go.Proofs.Ytbgmjieagnmpkaa
