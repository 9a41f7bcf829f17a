/- Texts of this proof, one behind the other. -/
import Derived.Test.YtlkeomcillencaaGreatRoomsPlayG16
import Derived.Test.YtlkeomcillencaaGreatRoomsPlayG12
import Derived.OwnWalk
import Derived.Test.YtlkeomcillencaaGreatRoomsPlayG7
import Derived.Test.YtlkeomcillencaaGreatRoomsPlayG2
import Derived.BigQuiet
import Derived.Shelf.RegionOpenPlain
set_option linter.unusedVariables false
set_option linter.unusedSimpArgs false
section
/- Layer 20: Leave. -/
namespace Go.Proofs.YtlkeomcillencaaGreat
open Go Go.RowKit Go.Maps Go.Lib
attribute [local go_sem] Oper.semAt_some

theorem dropL_pairs {L : List (Int × List UInt8)} {id : Int} {xs : List (List UInt8)} (h : ∀ b, b ∈ xs ↔ (id, b) ∈ L) (k : List UInt8) : (id, k) ∉ dropL L id xs := by
  rw [dropL_all h, List.mem_filter]
  simp
/-- how far Leave has come -/
def LeaJ (base N R n : Nat) (C : Nat → Tag) (S0 : Nat) (mr mj mb : Int) (Q : List RmE) (L : List (Int × List UInt8)) (id : Int) (pre : List (List UInt8)) (X : Nat → Prop) (W : World) : Prop :=
  W.heap[N + 2]? = some (.cells #[.int .i64 (pre.length : Int)] 3 (0, 0)) ∧ ∃ t b tr Xr C' Q', RsPh base W R t b tr Xr C' mr mj mb Q' (dropL L id pre) ∧ (∀ k, k < S0 → C' k = C k) ∧ RsLg n Q' (dropL L id pre) ∧ Q'.map (·.r) = leaveA (Q.map (·.r)) id pre ∧ ∀ k, X k ↔ (k = N + 2 ∨ C' k ≠ tag0)
theorem leaJ_stays (base N R n : Nat) (C : Nat → Tag) (S0 : Nat) (mr mj mb : Int) (Q : List RmE) (L : List (Int × List UInt8)) (id : Int) : Stays (LeaJ base N R n C S0 mr mj mb Q L id) := fun pre X V V' ⟨h1, t, b, tr, Xr, C', Q', h2, h3, h4, h5, h6⟩ hl hf =>
  ⟨hf.blk h1 (fun e => e ((h6 _).2 (.inl rfl))), t, b, tr, Xr, C', Q', h2.fr hf fun k hk e => e ((h6 k).2 (.inr hk)), h3, h4, h5, h6⟩
/-- what Leave does -/
def LeaveW (base R n : Nat) (C : Nat → Tag) (mr mj mb : Int) (Q : List RmE) (L : List (Int × List UInt8)) (id : Int) (w : World) (e : Ending) (w' : World) : Prop :=
  ∃ xs Q' , xs.Pairwise (· < ·) ∧ (∀ k, k ∈ xs ↔ (id, k) ∈ L) ∧ e = .returned (.int .i64 (xs.length : Nat)) ∧ RsTo base R C mr mj mb Q' (dropL L id xs) w w' ∧ RsLg n Q' (dropL L id xs) ∧ Q'.map (·.r) = leaveA (Q.map (·.r)) id xs
set_option maxRecDepth 100000 in
set_option maxHeartbeats 16000000 in
theorem leave_w {base : Nat} {w : World} {R t b tr n : Nat} {X : Nat → Prop} {C : Nat → Tag} {mr mj mb : Int} {Q : List RmE} {L : List (Int × List UInt8)} (h : RsPh base w R t b tr X C mr mj mb Q L) (hl : RsLg n Q L) (hn : n ≤ 80000) {id : Int} (hid : OkKIS id) :
    Calls Tryz.prog 12 #[.pointer (some ⟨R, 0, none⟩), .int .i64 id] w (LeaveW base R n C mr mj mb Q L id w) := by
  obtain ⟨xs, x1, x2, x3, x4⟩ := ofAtIS h.rel (by have := hl.llen; omega) hid
  obtain ⟨S, hS1, hS2, hSB, hSk, hSx, hSQ⟩ := ofQ_row hl h.keys x1 x2
  have hxl : xs.length ≤ 80000 := by have := hl.llen; omega
  have hnx : ∀ k ∈ xs, k.length ≤ 1000 ∧ foldL k = k := fun k hk => ⟨hl.keyLen ((x2 k).1 hk), (hSx k hk).1⟩
  obtain ⟨N, hN⟩ : ∃ N, w.heap.size = N := ⟨_, rfl⟩
  obtain ⟨w1, hw1⟩ : ∃ w1, ((w.alloc (Obj.cells #[.pointer (some ⟨R, 0, none⟩)] 25)).alloc (Obj.cells #[Value.int .i64 id] 3)).alloc (Obj.cells #[Value.int .i64 0] 3) = w1 := ⟨_, rfl⟩
  have z1 : w1.heap.size = N + 3 := by rw [← hw1, ← hN]; simp
  have f1 : Fr (fun _ => False) w w1 := by rw [← hw1]; exact (((Fr.refl _ w).alloc _).alloc _).alloc _
  have k0 : w1.heap[N]? = some (.cells #[.pointer (some ⟨R, 0, none⟩)] 25 (0, 0)) := by rw [← hw1, ← hN]; exact blk_alloc (blk_alloc (heap_alloc_new w _) _) _
  have k1 : w1.heap[N + 1]? = some (.cells #[.int .i64 id] 3 (0, 0)) := by rw [← hw1, ← hN]; exact blk_alloc (heap_alloc2_new w _ _) _
  have k2 : w1.heap[N + 2]? = some (.cells #[.int .i64 0] 3 (0, 0)) := by
    rw [← hw1, ← hN]
    have := heap_alloc2_new (w.alloc (Obj.cells #[.pointer (some ⟨R, 0, none⟩)] 25)) (Obj.cells #[Value.int .i64 id] 3) (Obj.cells #[Value.int .i64 0] 3)
    rwa [World.size_alloc] at this
  have h1 := h.fr f1 fun _ _ e => e
  have hC : ∀ k, N ≤ k → C k = tag0 := fun k hk => h.cN k (by omega)
  have HBX := Lib.hid (fun W (hW : Fr (fun _ => False) w1 W) => (And.intro (blk_cell (hW.blk k0 fun e => e) 0) (And.intro (blk_cell (hW.blk k1 fun e => e) 0) (h1.fr hW fun _ _ e => e))))
  have H := Lib.hid (And.intro f1 (And.intro k0 (And.intro k1 (And.intro k2 (And.intro z1 (And.intro h1 (And.intro hC (And.intro x1 (And.intro x2 (And.intro hnx (And.intro hl (And.intro hid hn))))))))))))
  have HA := Lib.hid x4
  have HW := Lib.hid hw1
  have HBB := Lib.hid hN
  clear h h1 f1 k0 k1 k2 z1 hw1 hl hn hid x1 x2 x3 x4 hS2 hSB hSk hSx hSQ hS1 hN hC hnx
  refine (callsIn_wide (n := 30)).1 ?_
  refine callsIn_of_wp_marks Tryz.func12 rfl trivial ?_ rfl
  simp only [Tryz.ntmps12, List.size_toArray, List.length_cons, List.length_nil, Nat.reduceAdd, Nat.reduceSub, Array.replicate_succ, Array.replicate_zero, List.push_toArray, List.append_toArray, List.nil_append, List.cons_append]
  gi_wp2_with fail
  rw [HW.out, HBB.out]
  refine wpIn_class_tail (C := fun W => Fr (fun _ => False) w1 W) 3 (by kernel_rfl) (by kernel_rfl) (by kernel_rfl) ((Fr.refl (fun _ => False) w1).drew) ?_
  simp only [List.take_succ_cons, List.take_zero, List.drop_succ_cons, List.drop_zero]
  refine quiet_step_w (fun _ => trivial) (fun K hK => ?_)
  go_simp
  refine ⟨.pointer (some ⟨R, 0, none⟩), fun W hW => ?_, hK _ ?_⟩
  · obtain ⟨s0, s1, s2⟩ := HBX.out W hW; go_simp
  clear hK K
  refine quiet_step_w (fun _ => trivial) (fun K hK => ?_)
  go_simp
  refine ⟨.pointer (some ⟨tr, 0, none⟩), fun W hW => ?_, hK _ ?_⟩
  · refine (calls_wide (.inl rfl) (joined_any (HBX.out W hW).2.2)).mono ?_
    rintro e W2 ⟨rfl, rfl⟩; exact ⟨rfl, hW⟩
  clear hK K
  refine quiet_step_w (fun _ => trivial) (fun K hK => ?_)
  go_simp
  refine ⟨.int .i64 id, fun W hW => ?_, hK _ ?_⟩
  · obtain ⟨s0, s1, s2⟩ := HBX.out W hW; go_simp
  clear hK K
  refine wpQuietIn_nil ?_
  intro V1 hV1
  have HV1 := Lib.hid hV1
  clear hV1
  have HOf := Lib.hid (HA.out V1 (H.out.1.trans HV1.out))
  clear HA
  gi_wp2_with fail
  refine ⟨trivial, (calls_wide (.inl rfl) HOf.out).mono ?_⟩
  rintro e w2 ⟨⟨F, rfl, hT⟩, hb2⟩
  clear HOf
  obtain ⟨f1, k0, k1, k2, z1, h1, hC, x1, x2, hnx, hl, hid, hn⟩ := H.out
  have fV := HV1.out
  have zV := fV.size
  have f2 : Fr (fun _ => False) w1 w2 := fV.trans (Fr.of_below hb2)
  have z2 : V1.heap.size ≤ w2.heap.size := hb2.size
  obtain ⟨Y, hYb, gf, lb, rfl, hseq, hYl, heg⟩ := tellsT_tale (show TaleT V1.heap.size w2 F xs from hT) (by omega)
  have q0 := f2.blk k0 fun e => e
  have q1 := f2.blk k1 fun e => e
  have q2 := f2.blk k2 fun e => e
  have h2 := h1.fr f2 fun _ _ e => e
  have hY3 : ∀ k, Y k → N + 3 ≤ k := fun k hk => by have := hYb k hk; omega
  have hXs : ∀ k, (k = N + 2 ∨ C k ≠ tag0) → k < N + 3 := fun k hk => by
    rcases hk with e | e
    · omega
    · exact Nat.lt_of_not_le fun e2 => e (hC k (by omega))
  have hNS : N + 3 ≤ w2.heap.size := by omega
  have K := Lib.hid (And.intro f2 (And.intro q0 (And.intro q1 (And.intro q2 (And.intro h2 (And.intro hNS (And.intro hY3 hXs)))))))
  clear f1 k0 k1 k2 z1 h1 x1 x2 hnx hid hn hT hb2 fV zV f2 z2 HBX
  gi_wp2_with fail
  have hB := HBB.out
  refine wpIn_rangeF (X := fun k => k = N + 2 ∨ C k ≠ tag0) (Y := Y) (xs := xs) (encs := encL) (gf := gf) (lb := lb) (LeaJ base N R n C w2.heap.size mr mj mb Q L id) (fun _ _ _ _ => False)
    rfl hseq (fun k hk => ⟨by have := hXs k hk; omega, fun e => by have := hY3 k e; have := hXs k hk; omega⟩) hYl (by omega) heg (fun _ => rfl)
    (leaJ_stays _ _ _ _ _ _ _ _ _ _ _ _) (fun c s X1 V1 V2 h => h.elim) ⟨q2, t, b, tr, X, C, Q, h2, fun _ _ => rfl, hl, rfl, fun k => Iff.rfl⟩ ?round ?done (fun _ _ _ _ _ _ _ _ _ _ _ h => h.elim)
  case round =>
    rintro l pre x r X1 V KK rb hl2 hpx hI hG2 hxl3 hF hlV hK
    dsimp only [encL]
    have HK := Lib.hid hK
    have HV := Lib.hid (And.intro hpx (And.intro hI (And.intro hG2 (And.intro hxl3 (And.intro hF (And.intro hlV hl2))))))
    clear hK hpx hI hG2 hxl3 hF hlV hl2 hC hl hseq hYl heg hYb q0 q1 q2 h2 hY3 hXs hNS hB
    gi_wp2_with fail
    refine HK.out _ _ (Fr.refl _ _) fun Vb hfb hzb hsb hrb => ?_
    clear HK KK
    obtain ⟨hpx, ⟨j2, t', b', tr', Xr, C', Q', hr, hc, hlg, hmap, hX1⟩, hG2, hxl3, hF, hlV, hl2⟩ := HV.out
    obtain ⟨f1, k0, k1, k2, z1, h1, hC, x1, x2, hnx, hl, hid, hn⟩ := H.out
    obtain ⟨f2, q0, q1, q2, h2, hNS, hY3, hXs⟩ := K.out
    have hlX : ∀ k, X1 k → k ≠ l := fun k hk e => hxl3 (e ▸ hk)
    have hX0 : ∀ k, (k = N + 2 ∨ C k ≠ tag0) → k ≠ N ∧ k ≠ N + 1 := fun k hk => by
      rcases hk with e | e
      · omega
      · exact ⟨fun e2 => e (hC k (by omega)), fun e2 => e (hC k (by omega))⟩
    have v0 := hfb.blk (hF.blk q0 fun e => (hX0 _ e).1 rfl) (by omega : ¬ N = l)
    have v1 := hfb.blk (hF.blk q1 fun e => (hX0 _ e).2 rfl) (by omega : ¬ N + 1 = l)
    have v2 := hfb.blk j2 (hlX _ ((hX1 _).2 (.inl rfl)))
    have hrb2 := hr.fr hfb fun k hk => hlX k ((hX1 k).2 (.inr hk))
    have hxm : x ∈ xs := by rw [← hpx]; simp
    have HP := Lib.hid (part_w hrb2 hlg hn hid (hnx x hxm).1)
    rw [(hnx x hxm).2] at HP
    have cc0 := blk_cell v0 0
    have cc1 := blk_cell v1 0
    have hpl : pre.length < xs.length := by
      have := congrArg List.length hpx
      simp at this; omega
    have HU := Lib.hid (And.intro v2 (And.intro hfb (And.intro hzb (And.intro hrb (And.intro hc (And.intro hmap (And.intro hX1 (And.intro hrb2 (And.intro hG2 (And.intro hxl3 (And.intro hlV (And.intro hpl hF))))))))))))
    clear hpx j2 hr hc hlg hmap hX1 hG2 hxl3 hF hlV hl2 f1 k0 k1 k2 z1 h1 hC x1 x2 hnx hl hid hn f2 q0 q1 q2 h2 hNS hY3 hXs hlX hX0 v0 v1 v2 hfb hzb hrb hsb hrb2 hxm hpl
    gi_wp2_with fail
    refine ⟨trivial, (calls_wide (.inr ⟨l, rfl⟩) HP.out).mono ?_⟩
    rintro e W6 ⟨rfl, Q6, hto, hlg6, hmap6⟩
    obtain ⟨t6, b6, tr6, X6, C6, h6, o6⟩ := hto.onto
    obtain ⟨v2, hfb, hzb, hrb, hc, hmap, hX1, hrb2, hG2, hxl3, hlV, hpl, hF⟩ := HU.out
    obtain ⟨f2, q0, q1, q2, h2, hNS, hY3, hXs⟩ := K.out
    have hC := H.out.2.2.2.2.2.2.1
    have hN2 : C' (N + 2) = tag0 := by rw [hc _ (by omega)]; exact hC _ (by omega)
    have hCl : C' l = tag0 := Decidable.byContradiction fun e => hxl3 ((hX1 l).2 (.inr e))
    have u2 := o6.2.blk v2 (by rw [hN2]; simp)
    have url := o6.2.blk hrb (by rw [hCl]; simp)
    have cc2 := blk_cell u2 0
    have dd2 := blk_free u2 0
    have m0 : (pre.length : Int) ≤ 100000 := by have := H.out.2.2.2.2.2.2.2.2.2.2.2.2; omega
    have HS := Lib.hid (And.intro u2 (And.intro url (And.intro h6 (And.intro o6 (And.intro hlg6 (And.intro hmap6 hN2))))))
    clear v2 hfb hzb hrb hc hmap hX1 hrb2 hG2 hxl3 hlV hpl hF f2 q0 q1 q2 h2 hNS hY3 hXs hC hN2 hCl u2 url hto hlg6 hmap6 h6 o6 cc0 cc1 HP
    gi_wp2_with fail
    obtain ⟨v2, hfb, hzb, hrb, hc, hmap, hX1, hrb2, hG2, hxl3, hlV, hpl, hF⟩ := HU.out
    obtain ⟨u2, url, h6, o6, hlg6, hmap6, hN2⟩ := HS.out
    obtain ⟨f2, q0, q1, q2, h2, hNS, hY3, hXs⟩ := K.out
    have hs7 : Fr (fun k => k = N + 2) W6 (W6.setCell ⟨N + 1 + 1, 0, none⟩ (.int .i64 ((pre.length : Int) + 1))) := Fr.setCell (X := fun k => k = N + 2) (Fr.refl _ W6) ⟨N + 1 + 1, 0, none⟩ rfl _
    have hf7 : Fr X1 Vb (W6.setCell ⟨N + 1 + 1, 0, none⟩ (.int .i64 ((pre.length : Int) + 1))) := (o6.2.mono (Y := X1) fun k _ e => (hX1 k).2 (.inr e)).trans3 hs7 fun k _ e => (hX1 k).2 (.inl e)
    have hFz := hF.size
    have hbz : Vb.heap.size = V.heap.size := hzb
    have hN6 : C6 (N + 2) = tag0 := by rw [o6.1 _ (by omega)]; exact hN2
    have hz7 := hf7.size
    refine ⟨fun k => k = N + 2 ∨ C6 k ≠ tag0, fun k hk => ⟨?_, fun hlt => ?_⟩, (hfb.mono (Y := fun k => k = l ∨ X1 k) fun k _ e => .inl e).trans3 hf7 fun k _ e => .inr e, hf7.blk hrb hxl3, ?_, t6, b6, tr6, X6, C6, Q6, ?_, fun k hk => ?_, ?_, ?_, fun k => Iff.rfl⟩
    · have hs8 := hs7.size
      rcases hk with rfl | hk
      · have := blk_lt u2; omega
      · have := (h6.lt hk).2; omega
    · rcases hk with rfl | hk
      · exact (hX1 _).2 (.inl rfl)
      · exact (hX1 k).2 (.inr (by rw [o6.1 k (by omega)] at hk; exact hk))
    · have := blk_set u2 0 (.int .i64 ((pre.length : Int) + 1))
      rw [List.length_append]
      exact this
    · rw [dropL_snoc]
      exact h6.fr hs7 fun k hk e => hk (by rw [show k = N + 2 from e]; exact hN6)
    · rw [o6.1 k (by omega), hc k hk]
    · rw [dropL_snoc]; exact hlg6
    · rw [leaveA_snoc, ← hmap]; exact hmap6
  case done =>
    rintro D X2 V hD hxD hG2 hF ⟨j2, t', b', tr', Xr, C', Q', hr, hc, hlg, hmap, hX2⟩ hdef
    have cc2 := blk_cell j2 0
    have HQ := Lib.hid (And.intro hD (And.intro hxD (And.intro hG2 (And.intro hF (And.intro hr (And.intro hc (And.intro hlg (And.intro hmap (And.intro hX2 hdef)))))))))
    clear hD hxD hG2 hF hr hc hlg hmap hX2 hdef j2 hC hl hseq hYl heg hYb q0 q1 q2 h2 hY3 hXs hNS hB
    gi_wp2_with fail
    obtain ⟨hD, hxD, hG2, hF, hr, hc, hlg, hmap, hX2, hdef⟩ := HQ.out
    obtain ⟨f1, k0, k1, k2, z1, h1, hC, x1, x2, hnx, hl, hid, hn⟩ := H.out
    obtain ⟨f2, q0, q1, q2, h2, hNS, hY3, hXs⟩ := K.out
    have hB := HBB.out
    refine leaves_one D _ hdef fun w' hf => ⟨_, results_tmp rfl _ _ _, xs, Q', x1, x2, rfl, ⟨t', b', tr', Xr, C', ?_, fun k hk => hc k (by omega), ?_⟩, hlg, hmap⟩
    · exact hr.fr hf fun k hk e => hxD ((hX2 D).2 (.inr (by rw [← show k = D from e]; exact hk)))
    · refine (((f1.mono (Y := fun k => C k ≠ tag0) fun _ _ e => e.elim).trans3 f2 fun _ _ e => e.elim).trans3 hF fun k hk e => ?_).trans3 hf fun k hk e => ?_
      · rcases e with e | e
        · omega
        · exact e
      · have : k = D := e
        omega
end Go.Proofs.YtlkeomcillencaaGreat
end
section
/- Layer 10: Union. -/
namespace Go.Proofs.YtlkeomcillencaaGreat
open Go Go.RowKit Go.Lib Go.Sort Go.Shelf

theorem Tryz.infoFn : (Tryz.prog.info? 60).map (fun i => (i.zero, i.size, i.bytes)) = some (some .nilFunc, 1, 8) := by kernel_rfl
/-- a row of functions -/
def OwnF (base : Nat) (W : World) (v : Value) (Fs : List Value) : Prop := W.ownsRow base 60 1 v Fs.length Fs
theorem own_type {W : World} {base : Nat} {e : TypeId} {size : Nat} {v : Value} {n : Nat} {xs : List Value} (hown : W.ownsRow base e size v n xs) (k : Nat) (hk : v.ownBlock = some k) : ∃ cur, W.heap[k]? = some (.cells cur e (0, 0)) := by
  rcases hown.2 with ⟨rfl, _⟩ | ⟨g, cap, cur, rfl, _, h3, _⟩
  · cases hk
  · cases hk; exact ⟨_, h3⟩
theorem tale_fr {base b : Nat} {w w' : World} {F v : Value} {xs : List Int} {ys : List Value} {n : Nat} (h : TaleAt base w F xs) (ho : w.ownsRow b 60 1 v n ys) (hf : Fr (fun k => v.ownBlock = some k) w w') : TaleAt base w' F xs := by
  obtain ⟨B, u, h0, h1, h2, h3, h4⟩ := h
  refine ⟨B, u, h0, h1, hf.blk h2 fun e => ?_, h3, own_kept h4 fun g hg => hf.block g (h4.lt g hg).2 fun e => ?_⟩
  · obtain ⟨c1, k1⟩ := own_type ho B e
    rw [h2] at k1; cases k1
  · obtain ⟨c1, k1⟩ := own_type ho g e
    obtain ⟨c2, k2⟩ := own_type h4 g hg
    rw [k1] at k2; cases k2
theorem tale_base {base base' : Nat} {w : World} {F : Value} {xs : List Int} (h : TaleAt base w F xs) (hb : base' ≤ base) : TaleAt base' w F xs := by
  obtain ⟨B, u, h0, h1, h2, h3, h4⟩ := h
  exact ⟨B, u, Nat.le_trans hb h0, h1, h2, h3, row_base' h4 hb⟩
/-- a pointer to a set, or none -/
def PtrAt (w : World) (p : Value) (xs : List Int) : Prop := (p = .pointer none ∧ xs = []) ∨ ∃ s ob base, p = .pointer (some ⟨s, 0, none⟩) ∧ SetAt base w s ob xs
theorem ptr_below {w W : World} {p : Value} {xs : List Int} (h : PtrAt w p xs) (hb : Below w.heap.size w W) : PtrAt W p xs := by
  rcases h with h | ⟨s, ob, base, h1, h2⟩
  · exact .inl h
  · exact .inr ⟨s, ob, base, h1, set_below h2 hb⟩
theorem ptr_all {w : World} {p : Value} {xs : List Int} (h : PtrAt w p xs) (hl : xs.length ≤ 1000000) : Calls Tryz.prog 88 #[p] w (AllP xs w) := by
  rcases h with ⟨rfl, rfl⟩ | ⟨s, ob, base, rfl, h2⟩
  · exact set_all_nil w
  · exact set_all h2 hl
/-- the tales so far -/
def UniG (w : World) (xss : List (List Int)) (k : Nat) (v : Value) (W : World) : Prop :=
  (∃ Fs : List Value, Fs.length = k ∧ OwnF w.heap.size W v Fs ∧ ∀ (j : Nat) (F : Value), Fs[j]? = some F → ∃ xs, xss[j]? = some xs ∧ TaleAt w.heap.size W F xs) ∧ Below w.heap.size w W
set_option maxRecDepth 100000 in
set_option maxHeartbeats 4000000 in
theorem set_union {w : World} (A : Option Addr) (xss : List (List Int)) (c : Nat) (hn : xss.length ≤ 1000) (hl : xss.flatten.length ≤ 1000000)
    (hc : 0 < xss.length → ∃ g o, A = some ⟨g, o, none⟩ ∧ g < w.heap.size ∧ ∀ j (h : j < xss.length), ∃ p, w.cell? ⟨g, o + j, none⟩ = some p ∧ PtrAt w p xss[j]) :
    Calls Tryz.prog 63 #[.slice A xss.length c] w (AllP (normI xss.flatten) w) := by
  obtain ⟨i0, hi, hz0, hz1, hz2⟩ := info_parts Tryz.infoFn
  have HC := Lib.hid hc
  clear hc
  have hl1 : ∀ k (h : k < xss.length), (xss[k]).length ≤ 1000000 := fun k h => by
    have h1 := List.length_flatten (L := xss)
    have h2 := List.Sublist.length_le (List.sublist_flatten_of_mem (List.getElem_mem h))
    omega
  have HL := Lib.hid hl1
  clear hl1
  go_enter Tryz.func63, Tryz.ntmps63
  go_wp2_with (at_make; refine wpList_make_own _ rfl _ _ 152 rfl w.heap.size 60 i0 .nilFunc 1 Tryz.underlying152 hi hz0 hz1 .i64 .i64 (xss.length : Int) xss.length rfl rfl rfl (by rw [hz2]; omega) (by unfold maxLen; omega) (Nat.le_refl _) ?_; intro w1 hown hgrow)
  have hU0 : UniG w xss 0 (.slice (some ⟨w.heap.size, 0, none⟩) 0 xss.length) w1 := ⟨⟨[], rfl, hown, fun j F h => by cases h⟩, (Below.refl _ _).grown hgrow (Nat.le_refl _) (fun k e => by cases e)⟩
  have HU := Lib.hid hU0
  clear hU0 hown hgrow
  go_loopw [3, 11] (fun v ct wr => ∃ k : Nat, ct = .int .i64 k ∧ k ≤ xss.length ∧ Hid (UniG w xss k v wr)) (fun _ ct _ => xss.length - (Go.RowKit.intOf ct).toNat)
  case atStart => exact ⟨0, rfl, Nat.zero_le _, HU⟩
  case round =>
    clear HU
    obtain ⟨k, rfl, hk, HU⟩ := hrel
    by_cases hlt : k < xss.length
    · obtain ⟨g, o, rfl, hg, hcell⟩ := HC.out (by omega)
      obtain ⟨p, hp, hP⟩ := hcell k hlt
      obtain ⟨⟨Fs, hFl, hOw, hT⟩, hB⟩ := HU.out
      have e0 : wr.cell? ⟨g, o + k, none⟩ = some p := (World.cell?_of_block (w := w) (w' := wr) (a := ⟨g, o + k, none⟩) (hB.block g hg)).trans hp
      have hA := ptr_all (ptr_below hP hB) (HL.out k hlt)
      have hwz := hB.size
      have HA := Lib.hid hA
      clear hcell hp hP hOw hT hB hA
      go_wp2_with fail
      refine HA.out.mono ?_
      rintro e w2 ⟨⟨F, rfl, BB, uu, q0, rfl, q1⟩, hb2⟩
      have hF : TaleAt wr.heap.size w2 (Value.func (.func 116) #[] #[.pointer (some ⟨BB, 0, none⟩)]) xss[k] := ⟨BB, uu, q0, rfl, q1⟩
      clear q0 q1
      obtain ⟨⟨Fs', hFl', hOw, hT⟩, hB⟩ := HU.out
      have hOw2 : w2.ownsRow w.heap.size 60 1 u3 Fs'.length Fs' := row_same hOw fun g hg => hb2.block g (hOw.lt g hg).2
      have hw2z := hb2.size
      have hk3 : Fs'.length ≤ 1000 := by omega
      have HO := Lib.hid hOw2
      have H := Lib.hid (And.intro hF hb2)
      have hT' := hT
      have hB' := hB
      clear hOw hT hB hOw2 hF hb2
      go_wp2_with (at_builtin; refine Hid.out ?_)
      refine Lib.hid ?_
      refine wpList_app_fr rfl _ _ 152 rfl w.heap.size 60 i0 _ 1 8 Tryz.underlying152 hi hz0 hz1 hz2 rfl (by decide) u3 Fs'.length Fs' rfl HO.out #[(Value.func (.func 116) #[] #[.pointer (some ⟨BB, 0, none⟩)])] _ rfl rfl rfl (by intro u hu; simp at hu; subst hu; rfl) (by omega) (by decide) (by omega) ?_
      intro v1 W2 hown1 hfr1
      have hnew : UniG w xss (k + 1) v1 W2 := by
        obtain ⟨hF, hb2⟩ := H.out
        have hB2 := hB'.trans (hb2.mono hwz)
        refine ⟨⟨Fs' ++ [(Value.func (.func 116) #[] #[.pointer (some ⟨BB, 0, none⟩)])], by simp [hFl'], by unfold OwnF; rw [List.length_append]; exact hown1, fun j G hj => ?_⟩, hB2.trans (hfr1.below hB2.size fun i _ e => (HO.out.lt i e).1)⟩
        by_cases hjk : j < k
        · rw [List.getElem?_append_left (by omega)] at hj
          obtain ⟨xs, h1, h2⟩ := hT' j G hj
          exact ⟨xs, h1, tale_fr (tale_below h2 hb2 (Nat.le_refl _)) HO.out hfr1⟩
        · rw [List.getElem?_append_right (by omega)] at hj
          obtain ⟨e1, e2⟩ := List.getElem?_eq_some_iff.1 hj
          simp at e1
          obtain rfl : j = k := by omega
          simp at e2
          subst e2
          exact ⟨xss[j], List.getElem?_eq_getElem hlt, tale_base (tale_fr hF HO.out hfr1) hwz⟩
      have HN := Lib.hid hnew
      clear hnew hown1 hfr1
      go_wp2_with fail
      go_roundw
      case rel => exact ⟨k + 1, by go_num, by omega, HN⟩
      case measure => simp [Go.RowKit.intOf]; omega
    · obtain rfl : k = xss.length := by omega
      obtain ⟨⟨Fs, hFl, hOw, hT⟩, hB⟩ := HU.out
      obtain ⟨A1, c1, rfl⟩ := row_slice hOw
      rw [hFl] at hOw
      have hG := gather_of (w := wr) A1 xss c1 hn hl (fun h0 => by
        rcases hOw.2 with ⟨h1, h2⟩ | ⟨g, cap, cur, h1, h3, h4, h5, _, h6, h7⟩
        · omega
        · injection h1 with q1 q2 q3
          subst q1
          rw [Nat.mul_one] at h6 h7
          refine ⟨g, 0, rfl, blk_lt h4, fun j hj => ?_⟩
          have hj2 : j < Fs.length := by omega
          obtain ⟨xs, k1, k2⟩ := hT j Fs[j] (List.getElem?_eq_getElem hj2)
          have hx : xss[j] = xs := by rw [List.getElem?_eq_getElem hj] at k1; exact Option.some.inj k1
          refine ⟨Fs[j], ?_, tells_tale (hx ▸ k2) (HL.out j hj)⟩
          rw [Nat.zero_add, blk_cell h4 j, ← Array.getElem?_toList]
          have := congrArg (fun l => l[j]?) h7
          rw [List.getElem?_take_of_lt (by omega), List.getElem?_eq_getElem hj2] at this
          exact this) _ rfl
      have HG := Lib.hid hG
      have HB := Lib.hid hB
      have hz := hB.size
      rw [hFl]
      clear hOw hT hB hG
      go_wp2_with fail
      refine HG.out.mono ?_
      rintro e w2 ⟨⟨v2, rfl, h1⟩, h2⟩
      obtain ⟨A2, c2, rfl⟩ := row_slice h1
      have HV := Lib.hid (values_calls A2 (compact (xss.flatten.mergeSort fun x y => decide (x ≤ y))).length c2 w2)
      have H := Lib.hid (And.intro h1 h2)
      clear h1 h2
      go_wp2_with fail
      refine HV.out.mono ?_
      intro e w3 h
      obtain ⟨⟨F, rfl, h4⟩, h5⟩ := all_of (row_base' H.out.1 hz) (HB.out.trans (H.out.2.mono hz)) h
      have H2 := Lib.hid (And.intro h4 h5)
      clear h h4 h5
      go_wp2_with fail
      go_ret
      exact ⟨⟨_, rfl, H2.out.1⟩, H2.out.2⟩
end Go.Proofs.YtlkeomcillencaaGreat
end
section
/- Layer 20: Without over what tells; slices.Collect; the law's numbers. -/
namespace Go.Proofs.YtlkeomcillencaaGreat
open Go Go.RowKit Go.Lib Go.Sort Go.Shelf
attribute [local go_sem] Oper.semAt_some

set_option maxHeartbeats 4000000 in
theorem same10_eq {w : World} (A B : Option Addr) (xs ys : List Int) (c d : Nat) (hlen : xs.length = ys.length) (hl : xs.length ≤ 1000000) (hA : ReadsI w A xs) (hB : ReadsI w B ys) :
    Calls Tryz.prog 28 #[.slice A xs.length c, .slice B ys.length d] w fun e w' => e = .returned (.bool (decide (xs = ys))) ∧ ∃ n, w' = w.drewN n := by
  have HA := Lib.hid hA
  have HB := Lib.hid hB
  have HL := Lib.hid hlen
  have hne : ((xs.length : Int) != (ys.length : Int)) = false := by rw [hlen]; simp
  clear hA hB hlen
  go_enter Tryz.func28, Tryz.ntmps28
  go_wp2_with fail
  go_loopw [5] (fun i wr => ∃ k : Nat, i = .int .i64 k ∧ k ≤ xs.length ∧ Hid (xs.take k = ys.take k ∧ ∃ n, wr = w.drewN n)) (fun i _ => xs.length - (Go.RowKit.intOf i).toNat)
  case atStart => exact ⟨0, rfl, Nat.zero_le _, rfl, 0, rfl⟩
  case round =>
    obtain ⟨k, rfl, hk, HQ⟩ := hrel
    by_cases hlt : k < xs.length
    · have hlt2 : k < ys.length := by have := HL.out; omega
      have hcell : ∀ p, wr.cell? p = w.cell? p := fun p => by obtain ⟨n, rfl⟩ := HQ.out.2; rfl
      obtain ⟨g, o, rfl, _, ha⟩ := HA.out (by omega)
      obtain ⟨g2, o2, rfl, _, hb⟩ := HB.out (by omega)
      have a1 := ha k hlt
      have b1 := hb k hlt2
      rw [← hcell] at a1 b1
      obtain ⟨x, hx⟩ : ∃ x, xs[k] = x := ⟨_, rfl⟩
      obtain ⟨y, hy⟩ : ∃ y, ys[k] = y := ⟨_, rfl⟩
      rw [hx] at a1
      rw [hy] at b1
      obtain ⟨eb, heb⟩ : ∃ eb, (x != y) = eb := ⟨_, rfl⟩
      have HE := Lib.hid (And.intro hx (And.intro hy heb))
      have hbb := heb
      clear hcell ha hb hx hy heb
      have p1 : (k : Int) < (xs.length : Int) := by omega
      have p2 : (k : Int) < (ys.length : Int) := by omega
      go_wp2_with fail
      go_quiet (fail)
      all_goals go_wp2_with fail
      · rename_i hx
        have hd : decide (xs = ys) = false := by
          rw [decide_eq_false_iff_not]
          intro e
          obtain ⟨h1, h2, h3⟩ := HE.out
          subst e
          rw [← h1, ← h2] at h3
          simp at h3
          subst h3
          cases hx
        obtain ⟨_, n, hn⟩ := HQ.out
        rw [hd]
        subst hn
        go_ret
        exact ⟨rfl, _, by rw [World.drewN_drewN]⟩
      · rename_i hx
        have h3 : xs[k] = ys[k] := by
          obtain ⟨h1, h2, h3⟩ := HE.out
          rw [h1, h2]
          have : (x != y) = false := by rw [h3]; simpa using hx
          simpa using this
        have h4 : xs.take (k + 1) = ys.take (k + 1) := by
          rw [List.take_succ_eq_append_getElem hlt, List.take_succ_eq_append_getElem hlt2, HQ.out.1, h3]
        obtain ⟨_, n, hn⟩ := HQ.out
        exact ⟨⟨k + 1, by go_num, by omega, h4, n + nq, by subst hn; rw [World.drewN_drewN]⟩, by simp [Go.RowKit.intOf]; omega⟩
    · obtain rfl : k = xs.length := by omega
      have hab : xs = ys := by
        have := HQ.out.1
        rw [List.take_of_length_le (Nat.le_refl _), List.take_of_length_le (by have := HL.out; omega)] at this
        exact this
      have hd : decide (xs = ys) = true := by simp [hab]
      obtain ⟨_, n, hn⟩ := HQ.out
      have p1 : ¬ ((xs.length : Int) < (xs.length : Int)) := by omega
      subst hn
      go_wp2_with fail
      go_ret
      exact ⟨rfl, _, rfl⟩
set_option maxRecDepth 100000 in
set_option maxHeartbeats 4000000 in
theorem without_seqF {w : World} {B B2 : Nat} {F : Value} {Yf : Nat → Prop} {xs : List Int} {x : Int} (hb : w.heap[B]? = some (.cells #[F] 60 (0, 0))) (hb2 : w.heap[B2]? = some (.cells #[.int .i64 x] 3 (0, 0))) (hT : TellsF Tryz.prog encI w F Yf xs) :
    SeqF Tryz.prog 89 #[.pointer (some ⟨B, 0, none⟩), .pointer (some ⟨B2, 0, none⟩)] encI (fun b => b = B ∨ b = B2 ∨ Yf b) (xs.filter fun y => decide (y ≠ x)) w := fun l J Jx X V hs hYl hX hJ hJx hY h0 => by
  obtain ⟨gf, lb, rfl, hseq, hYf, heg⟩ := hT
  have kB := (hs B (.inl rfl)).trans hb
  have kB2 := (hs B2 (.inr (.inl rfl))).trans hb2
  obtain ⟨W0, hW0⟩ : ∃ W0, V.alloc (Obj.cells #[.func (.yield l) #[] #[]] 86) = W0 := ⟨_, rfl⟩
  have f0 : Fr (fun _ => False) V W0 := by rw [← hW0]; exact (Fr.refl _ V).alloc _
  have k3 : W0.heap[V.heap.size]? = some (.cells #[.func (.yield l) #[] #[]] 86 (0, 0)) := by rw [← hW0]; exact heap_alloc_new _ _
  have z0 : W0.heap.size = V.heap.size + 1 := by rw [← hW0]; simp
  have hsq : SeqF Tryz.prog gf lb encI Yf xs W0 := (hseq.same (fun b hb => hs b (.inr (.inr hb)))).same fun b hb => f0.block b (hYl b (.inr (.inr hb))) fun e => e
  have hj0 : J ([].filter fun y => decide (y ≠ x)) X W0 := hJ.fr h0 (fun k hk => (hX k hk).1) f0 fun _ e => e.elim
  have c0 : (V.alloc (Obj.cells #[.func (.yield l) #[] #[]] 86)).cell? ⟨B, 0, none⟩ = some (.func (.func gf) #[] lb) := by rw [hW0]; exact (blk_cell (f0.blk kB fun e => e) 0).trans rfl
  have H := Lib.hid (And.intro hX (And.intro hYl (And.intro hJ (And.intro hJx (And.intro hY (And.intro f0 (And.intro k3 (And.intro z0 (And.intro hsq (And.intro hj0 (And.intro heg (And.intro kB2 hYf))))))))))))
  have HW := Lib.hid hW0
  clear hb hb2 hs hYl hX hJ hJx hY h0 kB kB2 f0 k3 z0 hsq hj0 hseq heg hYf hW0
  have hnil : ∀ W, (binOp BinOp.eql 60 (.func (.func gf) #[] lb) Value.nilFunc).run Tryz.prog W = .ok (.bool false) W := fun W => by rfl
  refine (callsIn_wide (n := 20)).1 ?_
  refine callsIn_of_wp_marks Tryz.func89 rfl trivial ?_ rfl
  simp only [Tryz.ntmps89, List.size_toArray, List.length_cons, List.length_nil, Nat.reduceAdd, Nat.reduceSub, Array.replicate_succ, Array.replicate_zero, List.push_toArray, List.append_toArray, List.nil_append, List.cons_append]
  gi_wp2_with (simp only [hnil])
  rw [HW.out]
  obtain ⟨hX, hYl, hJ, hJx, hY, f0, k3, z0, hsq, hj0, heg, kB2, hYf⟩ := H.out
  have bx : ∀ k, X k → k < V.heap.size := fun k hk => (hX k hk).1
  refine wpIn_rangeF (X := X) (Y := Yf) (xs := xs) (encs := encI) (gf := gf) (lb := lb) (fun pre X1 W => J (pre.filter fun y => decide (y ≠ x)) X1 W) (fun c pre X1 W => c = .ret ∧ Jx (pre.filter fun y => decide (y ≠ x)) X1 W)
    rfl hsq (fun k hk => ⟨by have := bx k hk; omega, fun e => (hX k hk).2 (.inr (.inr e))⟩) (fun b hb => by have := hYl b (.inr (.inr hb)); omega) (by omega) heg (fun _ => rfl)
    (fun s => hJ _) (fun c s X1 V1 V2 h h1 h2 => ⟨h.1, hJx _ X1 V1 V2 h.2 h1 h2⟩) hj0 ?round ?done ?stop
  case round =>
    rintro l2 pre y r X1 V1 K rb hl2 hpx hI hG hxl hF hlV hK
    dsimp only [encI]
    have HK := Lib.hid hK
    have HV := Lib.hid (And.intro hpx (And.intro hI (And.intro hG (And.intro hxl (And.intro hF (And.intro hlV hl2))))))
    clear hK hX hYl hJ hJx hY f0 k3 z0 hsq hj0 heg kB2 hYf hpx hI hG hxl hF hlV hl2 bx c0
    gi_wp2_with fail
    refine HK.out _ _ (Fr.refl _ _) fun Vb hfb hzb hsb hrb => ?_
    clear HK K
    obtain ⟨hpx, hI, hG, hxl, hF, hlV, hl2⟩ := HV.out
    obtain ⟨hX, hYl, hJ, hJx, hY, f0, k3, z0, hsq, hj0, heg, kB2, hYf⟩ := H.out
    have hb1 : ∀ k, X1 k → k < V1.heap.size := fun k hk => (hG k hk).1
    have hlt : ∀ k, X k → k < V.heap.size := fun k hk => (hX k hk).1
    have at1 : ∀ {b : Nat} {o : Obj}, W0.heap[b]? = some o → ¬ X b → Vb.heap[b]? = some o := fun {b o} h hx => hfb.blk (hF.blk h hx) fun e => by have := blk_lt h; omega
    have k3b := at1 k3 fun e => by have := hlt _ e; omega
    have kB2b := at1 (f0.blk kB2 fun e => e) fun e => (hX _ e).2 (.inr (.inl rfl))
    have c3 := blk_cell k3b 0
    have c2 := blk_cell kB2b 0
    have hfw : Fr X V Vb := ((f0.mono (Y := X) fun _ _ h => h.elim).trans3 hF fun k _ e => e).trans3 hfb fun k hk e => by omega
    have hgw : GrowX X X1 V Vb := fun k hk => ⟨Nat.lt_of_lt_of_le (hb1 k hk) hfb.size, fun h => (hG k hk).2 (by omega)⟩
    have hjb : J (pre.filter fun z => decide (z ≠ x)) X1 Vb := hJ.fr hI hb1 hfb fun k e h => hxl (e ▸ h)
    have hzs : Vb.heap.size = V1.heap.size := hzb
    by_cases hyx : x = y
    · have hfl : (pre ++ [y]).filter (fun z => decide (z ≠ x)) = pre.filter fun z => decide (z ≠ x) := by rw [List.filter_append, hyx]; simp
      have HN : Hid (∃ X2, GrowX X1 X2 V1 Vb ∧ Fr (fun k => k = l2 ∨ X1 k) V1 Vb ∧ Vb.heap[l2]? = some (.loop rb) ∧ J ((pre ++ [y]).filter fun z => decide (z ≠ x)) X2 Vb) :=
        ⟨X1, fun k hk => ⟨by rw [hzs]; exact hb1 k hk, fun _ => hk⟩, hfb.mono fun k _ e => .inl e, hrb, by rw [hfl]; exact hjb⟩
      subst hyx
      clear hfl hpx hI hG hxl hF hlV hl2 hX hYl hJ hJx hY f0 k3 z0 hsq hj0 heg kB2 hYf hb1 hlt at1 k3b kB2b hfw hgw hjb hzs hfb hzb hsb hrb
      gi_wp2_with fail
      refine ⟨trivial, (calls_wide (.inr ⟨l2, rfl⟩) (same_yes _ _)).mono ?_⟩
      rintro e W4 ⟨rfl, rfl⟩
      gi_wp2_with fail
      refine ⟨(fun _ h => by cases h), ?_⟩
      gi_wp2_with fail
      exact HN.out
    · have hfl : (pre ++ [y]).filter (fun z => decide (z ≠ x)) = (pre.filter fun z => decide (z ≠ x)) ++ [y] := by
        have : y ≠ x := fun e => hyx e.symm
        rw [List.filter_append]; simp [this]
      have hsp : (pre.filter fun z => decide (z ≠ x)) ++ y :: (r.filter fun z => decide (z ≠ x)) = xs.filter fun z => decide (z ≠ x) := by
        have : y ≠ x := fun e => hyx e.symm
        rw [← hpx, List.filter_append, List.filter_cons]; simp [this]
      have hyy := hY _ y _ X1 Vb hsp hgw hjb hfw
      obtain ⟨fn, tmps, assign, body, hy, hR⟩ := hyy
      dsimp only [encI] at hy
      have HE := Lib.hid (And.intro hfl (And.intro hb1 (And.intro hfb (And.intro hrb (And.intro hxl (And.intro hzs hlV))))))
      clear hfl hsp hpx hI hG hxl hF hlV hl2 hX hYl hJ hJx hY f0 k3 z0 hsq hj0 heg kB2 hYf hb1 hlt at1 k3b kB2b hfw hgw hjb hzs hfb hzb hsb hrb
      gi_wp2_with fail
      refine ⟨trivial, (calls_wide (.inr ⟨l2, rfl⟩) (same_no _ _ hyx _)).mono ?_⟩
      rintro e W4 ⟨rfl, rfl⟩
      gi_wp2_with fail
      refine (round_wide (.inr ⟨l2, rfl⟩) hR).mono ?_
      rintro e W5 ⟨X2, g2, f2, (⟨rfl, hJ3⟩ | ⟨rfl, hJx3⟩)⟩
      all_goals
        clear hR hy
        gi_wp2_with fail
        obtain ⟨hfl, hb1, hfb, hrb, hxl, hzs, hlV⟩ := HE.out
        refine ⟨X2, fun k hk => ⟨(g2 k hk).1, fun h => (g2 k hk).2 (by omega)⟩, (hfb.mono (Y := fun k => k = l2 ∨ X1 k) fun k _ e => .inl e).trans3 f2 fun k _ e => .inr e, f2.blk hrb hxl, ?_⟩
      · rw [← hfl] at hJ3; exact hJ3
      · rw [← hfl] at hJx3; exact ⟨rfl, hJx3⟩
  case done =>
    rintro D X2 V2 hD hxD hG hF hI hdef
    have hfw : Fr X V V2 := (f0.mono (Y := X) fun _ _ h => h.elim).trans3 hF fun k _ e => e
    have hgw : GrowX X X2 V V2 := fun k hk => ⟨(hG k hk).1, fun h => (hG k hk).2 (by omega)⟩
    have HE := Lib.hid (And.intro hfw (And.intro hgw (And.intro hI (And.intro hdef (And.intro hxD (And.intro hJ hD))))))
    clear hfw hgw hX hYl hJ hJx hY f0 k3 hsq hj0 heg kB2 hYf hG hF hI hdef hxD c0 hD bx
    gi_wp2_with fail
    obtain ⟨hfw, hgw, hI, hdef, hxD, hJ, hD⟩ := HE.out
    refine leaves_one D _ hdef fun w' hf => ⟨_, results_none rfl _ _ _, ⟨_, rfl⟩, X2, fun k hk => ⟨Nat.lt_of_lt_of_le (hgw k hk).1 hf.size, (hgw k hk).2⟩, hfw.trans3 hf fun k hk e => by omega, .inl (hJ.fr hI (fun k hk => (hgw k hk).1) hf fun k e h => hxD (e ▸ h))⟩
  case stop =>
    rintro D c pre r X2 V2 hD hpr hxD hG hF ⟨rfl, hI⟩ hdef
    have hfw : Fr X V V2 := (f0.mono (Y := X) fun _ _ h => h.elim).trans3 hF fun k _ e => e
    have hgw : GrowX X X2 V V2 := fun k hk => ⟨(hG k hk).1, fun h => (hG k hk).2 (by omega)⟩
    refine wpIn_ret ?_
    refine leaves_one D _ hdef fun w' hf => ⟨_, results_none rfl _ _ _, ⟨_, rfl⟩, X2, fun k hk => ⟨Nat.lt_of_lt_of_le (hgw k hk).1 hf.size, (hgw k hk).2⟩, hfw.trans3 hf fun k hk e => by omega, .inr ⟨_, r.filter fun y => decide (y ≠ x), by rw [← List.filter_append, hpr], hJx.fr hI (fun k hk => (hgw k hk).1) hf fun k e h => hxD (e ▸ h)⟩⟩
/-- what Without gives: it tells, out of blocks that are new or were told from before -/
def WithF2 (Y : Nat → Prop) (xs : List Int) (w : World) (e : Ending) (w' : World) : Prop := (∃ F' Y', e = .returned F' ∧ TellsF Tryz.prog encI w' F' Y' xs ∧ ∀ b, Y' b → w.heap.size ≤ b ∨ Y b) ∧ RowKit.Below w.heap.size w w'
theorem without_F2 {w : World} {F : Value} {Y : Nat → Prop} {xs : List Int} (h : TellsF Tryz.prog encI w F Y xs) (x : Int) : Calls Tryz.prog 62 #[F, .int .i64 x] w (WithF2 Y (xs.filter fun y => decide (y ≠ x)) w) := by
  obtain ⟨gf, lb, rfl, h1, h2, h3⟩ := h
  obtain ⟨W1, hW1⟩ : ∃ W1, (w.alloc (.cells #[.func (.func gf) #[] lb] 60)).alloc (.cells #[.int .i64 x] 3) = W1 := ⟨_, rfl⟩
  have b1 : RowKit.Below w.heap.size w W1 := by rw [← hW1]; exact ((Below.refl _ w).alloc (Nat.le_refl _) _).alloc (by simp) _
  have k0 : W1.heap[w.heap.size]? = some (.cells #[.func (.func gf) #[] lb] 60 (0, 0)) := by rw [← hW1]; exact blk_alloc (heap_alloc_new w _) _
  have k1 : W1.heap[w.heap.size + 1]? = some (.cells #[.int .i64 x] 3 (0, 0)) := by rw [← hW1]; exact heap_alloc2_new w _ _
  have z1 : W1.heap.size = w.heap.size + 2 := by rw [← hW1]; simp
  have ht : TellsF Tryz.prog encI W1 (.func (.func gf) #[] lb) Y xs := TellsF.below ⟨gf, lb, rfl, h1, h2, h3⟩ b1
  have H := Lib.hid (And.intro b1 (And.intro k0 (And.intro k1 (And.intro ht (And.intro h2 z1)))))
  have HW := Lib.hid hW1
  clear b1 k0 k1 z1 ht h1 h2 h3 hW1
  go_enter Tryz.func62, Tryz.ntmps62
  go_wp2_with fail
  go_ret
  rw [HW.out]
  obtain ⟨b1, k0, k1, ht, h2, z1⟩ := H.out
  refine ⟨⟨_, _, rfl, ⟨_, _, rfl, without_seqF k0 k1 ht, ?_, enters_of Tryz.func89 (by kernel_rfl) rfl⟩, fun b hb => ?_⟩, b1⟩
  · rintro b (rfl | rfl | hb)
    · omega
    · omega
    · have := h2 b hb; omega
  · rcases hb with rfl | rfl | hb
    · exact .inl (Nat.le_refl _)
    · exact .inl (by omega)
    · exact .inr hb
theorem Tryz.infoP : (Tryz.prog.info? 99).map (fun i => (i.zero, i.size, i.bytes)) = some (some (.pointer none), 1, 8) := by kernel_rfl
/-- a box with a row of numbers: its blocks are X -/
def BoxF (S base : Nat) (pre : List Int) (X : Nat → Prop) (W : World) : Prop := ∃ v, W.heap[S]? = some (.cells #[v] 56 (0, 0)) ∧ OwnI base W v pre ∧ S < base ∧ ∀ k, X k ↔ (k = S ∨ v.ownBlock = some k)
theorem boxF_stays (S base : Nat) : Stays (BoxF S base) := fun pre X V V' ⟨v, h1, h2, h3, h4⟩ hl hf =>
  ⟨v, hf.blk h1 (fun e => e ((h4 S).2 (.inl rfl))), own_kept h2 fun g hg => hf.block g (h2.lt g hg).2 fun e => e ((h4 g).2 (.inr hg)), h3, h4⟩
set_option maxRecDepth 100000 in
set_option maxHeartbeats 4000000 in
theorem numbers_F {w : World} {F : Value} {Y : Nat → Prop} {xs : List Int} (h : TellsF Tryz.prog encI w F Y xs) (hl : xs.length ≤ 1000000) (m : Nat) (hm : xs.length ≤ m) (hm2 : m ≤ 1000000) : Calls Tryz.prog 26 #[F, .int .i64 m] w (ToldP xs w) := by
  obtain ⟨gf, lb, rfl, hseq, hY, heg⟩ := h
  obtain ⟨i0, hi, hz0, hz1, hz2⟩ := info_parts Tryz.infoI
  refine (callsIn_wide (n := 20)).1 ?_
  refine callsIn_of_wp_marks Tryz.func26 rfl trivial ?_ rfl
  simp only [Tryz.ntmps26, List.size_toArray, List.length_cons, List.length_nil, Nat.reduceAdd, Nat.reduceSub, Array.replicate_succ, Array.replicate_zero, List.push_toArray, List.append_toArray, List.nil_append, List.cons_append]
  have hnil : ∀ W, (binOp BinOp.eql 60 (.func (.func gf) #[] lb) Value.nilFunc).run Tryz.prog W = .ok (.bool false) W := fun W => by rfl
  gi_wp2_with (simp only [hnil])
  obtain ⟨w1, hw1⟩ : ∃ w1, (((w.alloc (Obj.cells #[Value.int IntKind.i64 m] 3)).alloc (Obj.cells #[Value.slice none 0 0] 56)).alloc (Obj.cells #[Value.bool false] 4)).alloc (Obj.cells #[Value.slice none 0 0] 56) = w1 := ⟨_, rfl⟩
  rw [hw1]
  have z1 : w1.heap.size = w.heap.size + 4 := by rw [← hw1]; simp
  have f1 : Fr (fun _ => False) w w1 := by rw [← hw1]; exact ((((Fr.refl _ w).alloc _).alloc _).alloc _).alloc _
  have hb0 : w1.heap[w.heap.size]? = some (.cells #[.int .i64 m] 3 (0, 0)) := by rw [← hw1]; exact blk_alloc (blk_alloc (blk_alloc (heap_alloc_new w _) _) _) _
  have hb1 : w1.heap[w.heap.size + 1]? = some (.cells #[.slice none 0 0] 56 (0, 0)) := by rw [← hw1]; exact blk_alloc (blk_alloc (heap_alloc2_new w _ _) _) _
  have hb2 : w1.heap[w.heap.size + 2]? = some (.cells #[.bool false] 4 (0, 0)) := by rw [← hw1]; refine blk_alloc ?_ _; have := heap_alloc2_new (w.alloc (Obj.cells #[Value.int IntKind.i64 m] 3)) (Obj.cells #[Value.slice none 0 0] 56) (Obj.cells #[Value.bool false] 4); rwa [World.size_alloc] at this
  have hb3 : w1.heap[w.heap.size + 3]? = some (.cells #[.slice none 0 0] 56 (0, 0)) := by
    rw [← hw1]
    have := heap_alloc2_new ((w.alloc (Obj.cells #[Value.int IntKind.i64 m] 3)).alloc (Obj.cells #[Value.slice none 0 0] 56)) (Obj.cells #[Value.bool false] 4) (Obj.cells #[Value.slice none 0 0] 56)
    rwa [World.size_alloc, World.size_alloc] at this
  clear hw1
  have hsq := hseq.same fun b hb => f1.block b (hY b hb) fun e => e
  have H := Lib.hid (And.intro f1 (And.intro hb0 (And.intro hb1 (And.intro hb2 z1))))
  refine wpIn_rangeF (X := fun k => k = w.heap.size + 3) (Y := Y) (xs := xs) (encs := encI) (gf := gf) (lb := lb) (BoxF (w.heap.size + 3) w1.heap.size) (fun _ _ _ _ => False)
    rfl hsq (fun k hk => ⟨by omega, fun e => by have := hY k e; omega⟩) (fun b hb => by have := hY b hb; omega) (by omega) heg (fun _ => rfl)
    (boxF_stays _ _) (fun c s X1 V1 V2 h => h.elim) ⟨_, hb3, own_nil _ _, by omega, fun k => by simp [Value.ownBlock]⟩ ?round ?done (fun _ _ _ _ _ _ _ _ _ _ _ h => h.elim)
  case round =>
    rintro l pre x r X1 V K rb hl2 hpx hI hG hxl hF hlV hK
    dsimp only [encI]
    have HK := Lib.hid hK
    have HV := Lib.hid (And.intro hpx (And.intro hI (And.intro hG (And.intro hxl (And.intro hF (And.intro hlV hl2))))))
    clear hK hpx hI hG hxl hF hlV hl2 hsq hseq hY heg f1 hb0 hb1 hb2 hb3 z1
    gi_wp2_with fail
    refine HK.out _ _ (Fr.refl _ _) fun Vb hfb hzb hsb hrb => ?_
    clear HK K
    obtain ⟨hpx, ⟨vb, k3, o3, hSl, hX1⟩, hG, hxl, hF, hlV, hl2⟩ := HV.out
    obtain ⟨f1, hb0, hb1, hb2, z1⟩ := H.out
    have hpl : pre.length + 1 ≤ xs.length := by
      have := congrArg List.length hpx
      simp at this; omega
    have c0 := blk_cell (hfb.blk (hF.blk hb0 (by omega)) (by omega)) 0
    have k3b := hfb.blk k3 (by omega : ¬ w.heap.size + 3 = l)
    have o3b : OwnI w1.heap.size Vb vb pre := own_kept o3 fun g hg => hfb.block g (o3.lt g hg).2 fun e => hxl ((hX1 l).2 (.inr (e ▸ hg)))
    have c3 := blk_cell k3b 0
    have hzs : Vb.heap.size = V.heap.size := hzb
    have hbz : w1.heap.size ≤ Vb.heap.size := by omega
    have hor : Vb.ownsRow w1.heap.size 3 1 vb pre.length (pre.map (Value.int .i64)) := o3b
    have HO := Lib.hid hor
    have HE := Lib.hid (And.intro hX1 (And.intro hG (And.intro hxl (And.intro hfb (And.intro hrb (And.intro k3b (And.intro o3b (And.intro hzs (And.intro hlV (And.intro hSl hl2))))))))))
    clear hpx k3 o3 hSl hX1 hG hxl hF hlV hl2 f1 hb0 hb1 hb2 z1 k3b o3b hor hfb hzb hsb hrb hzs
    have hlen : ∀ W, (Builtin.len_ #[56] 3 #[vb]).run Tryz.prog W = .ok (.int .i64 pre.length) W := fun W => by obtain ⟨A, cp, rfl⟩ := row_slice HO.out; rfl
    gi_wp2_with (first | (gi_at_builtin; refine Hid.out ?_) | simp only [hlen])
    refine Lib.hid ?_
    refine wpListIn_one_t rfl _ _ 56 rfl w1.heap.size 3 i0 _ 1 8 Tryz.underlying56 hi hz0 hz1 hz2 rfl (by decide) _ _ _ rfl HO.out #[.int .i64 x] _ rfl rfl rfl (by intro u hu; simp at hu; subst hu; rfl) (by omega) (by decide) hbz ?_
    intro v1 W2 hown1 hfr1 htie
    obtain ⟨A1, c1', rfl⟩ := row_slice hown1
    have hn3 : ∀ k, vb.ownBlock = some k → k ≠ w.heap.size + 3 := fun k hk e => by have := (HO.out.lt k hk).1; have := HE.out.2.2.2.2.2.2.2.2.2.1; omega
    have e1 : W2.heap[w.heap.size + 3]? = some (.cells #[vb] 56 (0, 0)) := hfr1.blk HE.out.2.2.2.2.2.1 fun e => hn3 _ e rfl
    have g1 := blk_cell e1 0
    have g2 := blk_free e1 0
    have HN := Lib.hid hn3
    clear hn3
    gi_wp2_with fail
    obtain ⟨hX1, hG, hxl, hfb, hrb, k3b, o3b, hzs, hlV, hSl, hl2⟩ := HE.out
    have hn3 := HN.out
    have hown2 : OwnI w1.heap.size W2 (.slice A1 (pre.length + 1) c1') (pre ++ [x]) := by
      unfold OwnI; rw [List.length_append, List.map_append]; exact hown1
    have hnx : (Value.slice A1 (pre.length + 1) c1').ownBlock ≠ some (w.heap.size + 3) := fun e => by have := (hown2.lt _ e).1; omega
    have hfr : Fr (fun k => k = l ∨ X1 k) V (W2.setCell ⟨w.heap.size + 3, 0, none⟩ (.slice A1 (pre.length + 1) c1')) :=
      (((hfb.mono (Y := fun k => k = l ∨ X1 k) fun k _ e => .inl e).trans3 hfr1 fun k _ e => .inr ((hX1 k).2 (.inr e)))).setCell _ (.inr ((hX1 _).2 (.inl rfl))) _
    refine ⟨fun k => k = w.heap.size + 3 ∨ (Value.slice A1 (pre.length + 1) c1').ownBlock = some k, fun k hk => ?_, hfr, ?_, .slice A1 (pre.length + 1) c1', blk_set e1 0 _, ?_, hSl, fun k => Iff.rfl⟩
    · have hz2 := hfr1.size
      have hsz : (W2.setCell ⟨w.heap.size + 3, 0, none⟩ (.slice A1 (pre.length + 1) c1')).heap.size = W2.heap.size := by simp
      rw [hsz]
      rcases hk with rfl | hk
      · exact ⟨blk_lt e1, fun _ => (hX1 _).2 (.inl rfl)⟩
      · refine ⟨(hown2.lt k hk).2, fun hlt => ?_⟩
        rcases htie k hk with e | e
        · exact (hX1 k).2 (.inr e)
        · omega
    · have hl3 : ¬ vb.ownBlock = some l := fun e => hxl ((hX1 l).2 (.inr e))
      exact blk_other (hfr1.blk hrb hl3) _ (by simp; omega) _
    · exact own_kept hown2 fun g hg => heap_setCell_other W2 _ g _ fun e => by simp at e; exact hnx (e ▸ hg)
  case done =>
    rintro D X2 V hD hxD hG hF ⟨v, k3, o3, hSl, hX2⟩ hdef
    obtain ⟨A, cp, rfl⟩ := row_slice o3
    have k1 := hF.blk hb1 (by omega)
    have k2 := hF.blk hb2 (by omega)
    have c1 := blk_cell k1 0
    have f1' := blk_free k1 0
    have c2 := blk_cell k2 0
    have f2 := blk_free k2 0
    have c3 := blk_cell k3 0
    have HE := Lib.hid (And.intro k1 (And.intro k2 (And.intro k3 (And.intro o3 (And.intro hF (And.intro hdef (And.intro hxD (And.intro hX2 (And.intro hSl hD)))))))))
    clear k1 k2 k3 o3 hF hdef hxD hX2 hSl hD hG hsq hseq hY heg f1 hb0 hb1 hb2 hb3 z1
    gi_wp2_with fail
    obtain ⟨k1, k2, k3, o3, hF, hdef, hxD, hX2, hSl, hD⟩ := HE.out
    obtain ⟨f1, hb0, hb1, hb2, z1⟩ := H.out
    obtain ⟨W3, hW3⟩ : ∃ W3, (V.setCell ⟨w.heap.size + 1, 0, none⟩ (Value.slice A xs.length cp)).setCell ⟨w.heap.size + 1 + 1, 0, none⟩ (Value.bool true) = W3 := ⟨_, rfl⟩
    rw [hW3]
    have a1 : W3.heap[w.heap.size + 1]? = some (.cells #[.slice A xs.length cp] 56 (0, 0)) := by
      rw [← hW3]
      exact blk_other (blk_set k1 0 _) _ (by simp) _
    have a2 : W3.heap[w.heap.size + 2]? = some (.cells #[.bool true] 4 (0, 0)) := by
      rw [← hW3]
      exact blk_set (blk_other k2 _ (by simp) _) 0 _
    have a3 : W3.heap[D]? = some (.deferred (some [])) := by
      rw [← hW3]
      exact blk_other (blk_other hdef _ (by simp; omega) _) _ (by simp; omega) _
    have a4 : OwnI w1.heap.size W3 (.slice A xs.length cp) xs := own_kept o3 fun g hg => by
      have := (o3.lt g hg).1
      rw [← hW3]
      exact (heap_setCell_other _ _ g _ (by simp; omega)).trans (heap_setCell_other _ _ g _ (by simp; omega))
    have a5 : Below w.heap.size w W3 := by
      have h5 : Below w.heap.size w V := (f1.mono (Y := fun k => k = w.heap.size + 3) (fun _ _ h => h.elim)).trans3 hF (fun k _ e => e) |>.below (Nat.le_refl _) fun k hk e => by omega
      rw [← hW3]
      exact (h5.setCell (by simp) _).setCell (by simp; omega) _
    refine leaves_one D _ a3 fun w' hf => ?_
    have e1 := hf.blk a1 (by omega)
    have e2 := hf.blk a2 (by omega)
    refine ⟨_, results_box2 rfl _ _ (w.heap.size + 1) (w.heap.size + 2) _ _ _ _ rfl (blk_cell e1 0) rfl (blk_cell e2 0) Tryz.underlying56 rfl Tryz.underlying4 rfl, ⟨.slice A xs.length cp, rfl, ?_⟩, a5.trans (hf.below a5.size fun k _ e => by omega)⟩
    exact row_base' (own_kept a4 fun g hg => hf.block g (a4.lt g hg).2 fun e => hxD ((hX2 D).2 (.inr (e ▸ hg)))) (by omega)
set_option maxRecDepth 100000 in
set_option maxHeartbeats 4000000 in
theorem appendSeqI {w : World} {F : Value} {Y : Nat → Prop} {xs : List Int} (h : TellsF Tryz.prog encI w F Y xs) (hl : xs.length ≤ 1000000) : Calls Tryz.prog 87 #[.slice none 0 0, F] w fun e w' => (∃ v, e = .returned v ∧ OwnI w.heap.size w' v xs) ∧ Below w.heap.size w w' := by
  obtain ⟨gf, lb, rfl, hseq, hY, heg⟩ := h
  obtain ⟨i0, hi, hz0, hz1, hz2⟩ := info_parts Tryz.infoI
  refine (callsIn_wide (n := 20)).1 ?_
  refine callsIn_of_wp_marks Tryz.func87 rfl trivial ?_ rfl
  simp only [Tryz.ntmps87, List.size_toArray, List.length_cons, List.length_nil, Nat.reduceAdd, Nat.reduceSub, Array.replicate_succ, Array.replicate_zero, List.push_toArray, List.append_toArray, List.nil_append, List.cons_append]
  gi_wp2_with fail
  obtain ⟨w1, hw1⟩ : ∃ w1, w.alloc (Obj.cells #[Value.slice none 0 0] 56) = w1 := ⟨_, rfl⟩
  rw [hw1]
  have z1 : w1.heap.size = w.heap.size + 1 := by rw [← hw1]; simp
  have f1 : Fr (fun _ => False) w w1 := by rw [← hw1]; exact (Fr.refl _ w).alloc _
  have hb3 : w1.heap[w.heap.size]? = some (.cells #[.slice none 0 0] 56 (0, 0)) := by rw [← hw1]; exact heap_alloc_new w _
  clear hw1
  have hsq := hseq.same fun b hb => f1.block b (hY b hb) fun e => e
  have H := Lib.hid (And.intro f1 (And.intro hb3 z1))
  refine wpIn_rangeF (X := fun k => k = w.heap.size) (Y := Y) (xs := xs) (encs := encI) (gf := gf) (lb := lb) (BoxF w.heap.size w1.heap.size) (fun _ _ _ _ => False)
    rfl hsq (fun k hk => ⟨by omega, fun e => by have := hY k e; omega⟩) (fun b hb => by have := hY b hb; omega) (by omega) heg (fun _ => rfl)
    (boxF_stays _ _) (fun c s X1 V1 V2 h => h.elim) ⟨_, hb3, own_nil _ _, by omega, fun k => by simp [Value.ownBlock]⟩ ?round ?done (fun _ _ _ _ _ _ _ _ _ _ _ h => h.elim)
  case round =>
    rintro l pre x r X1 V K rb hl2 hpx hI hG hxl hF hlV hK
    dsimp only [encI]
    have HK := Lib.hid hK
    have HV := Lib.hid (And.intro hpx (And.intro hI (And.intro hG (And.intro hxl (And.intro hF (And.intro hlV hl2))))))
    clear hK hpx hI hG hxl hF hlV hl2 hsq hseq hY heg f1 hb3 z1
    gi_wp2_with fail
    refine HK.out _ _ (Fr.refl _ _) fun Vb hfb hzb hsb hrb => ?_
    clear HK K
    obtain ⟨hpx, ⟨vb, k3, o3, hSl, hX1⟩, hG, hxl, hF, hlV, hl2⟩ := HV.out
    obtain ⟨f1, hb3, z1⟩ := H.out
    have hpl : pre.length + 1 ≤ xs.length := by
      have := congrArg List.length hpx
      simp at this; omega
    have k3b := hfb.blk k3 (by omega : ¬ w.heap.size = l)
    have o3b : OwnI w1.heap.size Vb vb pre := own_kept o3 fun g hg => hfb.block g (o3.lt g hg).2 fun e => hxl ((hX1 l).2 (.inr (e ▸ hg)))
    have c3 := blk_cell k3b 0
    have hzs : Vb.heap.size = V.heap.size := hzb
    have hbz : w1.heap.size ≤ Vb.heap.size := by omega
    have hor : Vb.ownsRow w1.heap.size 3 1 vb pre.length (pre.map (Value.int .i64)) := o3b
    have HO := Lib.hid hor
    have HE := Lib.hid (And.intro hX1 (And.intro hG (And.intro hxl (And.intro hfb (And.intro hrb (And.intro k3b (And.intro o3b (And.intro hzs (And.intro hlV (And.intro hSl hl2))))))))))
    clear hpx k3 o3 hSl hX1 hG hxl hF hlV hl2 f1 hb3 z1 k3b o3b hor hfb hzb hsb hrb hzs
    have hlen : ∀ W, (Builtin.len_ #[56] 3 #[vb]).run Tryz.prog W = .ok (.int .i64 pre.length) W := fun W => by obtain ⟨A, cp, rfl⟩ := row_slice HO.out; rfl
    gi_wp2_with (first | (gi_at_builtin; refine Hid.out ?_) | simp only [hlen])
    refine Lib.hid ?_
    refine wpListIn_one_t rfl _ _ 56 rfl w1.heap.size 3 i0 _ 1 8 Tryz.underlying56 hi hz0 hz1 hz2 rfl (by decide) _ _ _ rfl HO.out #[.int .i64 x] _ rfl rfl rfl (by intro u hu; simp at hu; subst hu; rfl) (by omega) (by decide) hbz ?_
    intro v1 W2 hown1 hfr1 htie
    obtain ⟨A1, c1', rfl⟩ := row_slice hown1
    have hn3 : ∀ k, vb.ownBlock = some k → k ≠ w.heap.size := fun k hk e => by have := (HO.out.lt k hk).1; have := HE.out.2.2.2.2.2.2.2.2.2.1; omega
    have e1 : W2.heap[w.heap.size]? = some (.cells #[vb] 56 (0, 0)) := hfr1.blk HE.out.2.2.2.2.2.1 fun e => hn3 _ e rfl
    have g1 := blk_cell e1 0
    have g2 := blk_free e1 0
    have HN := Lib.hid hn3
    clear hn3
    gi_wp2_with fail
    obtain ⟨hX1, hG, hxl, hfb, hrb, k3b, o3b, hzs, hlV, hSl, hl2⟩ := HE.out
    have hn3 := HN.out
    have hown2 : OwnI w1.heap.size W2 (.slice A1 (pre.length + 1) c1') (pre ++ [x]) := by
      unfold OwnI; rw [List.length_append, List.map_append]; exact hown1
    have hnx : (Value.slice A1 (pre.length + 1) c1').ownBlock ≠ some (w.heap.size) := fun e => by have := (hown2.lt _ e).1; omega
    have hfr : Fr (fun k => k = l ∨ X1 k) V (W2.setCell ⟨w.heap.size, 0, none⟩ (.slice A1 (pre.length + 1) c1')) :=
      (((hfb.mono (Y := fun k => k = l ∨ X1 k) fun k _ e => .inl e).trans3 hfr1 fun k _ e => .inr ((hX1 k).2 (.inr e)))).setCell _ (.inr ((hX1 _).2 (.inl rfl))) _
    refine ⟨fun k => k = w.heap.size ∨ (Value.slice A1 (pre.length + 1) c1').ownBlock = some k, fun k hk => ?_, hfr, ?_, .slice A1 (pre.length + 1) c1', blk_set e1 0 _, ?_, hSl, fun k => Iff.rfl⟩
    · have hz2 := hfr1.size
      have hsz : (W2.setCell ⟨w.heap.size, 0, none⟩ (.slice A1 (pre.length + 1) c1')).heap.size = W2.heap.size := by simp
      rw [hsz]
      rcases hk with rfl | hk
      · exact ⟨blk_lt e1, fun _ => (hX1 _).2 (.inl rfl)⟩
      · refine ⟨(hown2.lt k hk).2, fun hlt => ?_⟩
        rcases htie k hk with e | e
        · exact (hX1 k).2 (.inr e)
        · omega
    · have hl3 : ¬ vb.ownBlock = some l := fun e => hxl ((hX1 l).2 (.inr e))
      exact blk_other (hfr1.blk hrb hl3) _ (by simp; omega) _
    · exact own_kept hown2 fun g hg => heap_setCell_other W2 _ g _ fun e => by simp at e; exact hnx (e ▸ hg)
  case done =>
    rintro D X2 V hD hxD hG hF ⟨v, k3, o3, hSl, hX2⟩ hdef
    obtain ⟨A, cp, rfl⟩ := row_slice o3
    have c3 := blk_cell k3 0
    have HE := Lib.hid (And.intro k3 (And.intro o3 (And.intro hF (And.intro hdef (And.intro hxD (And.intro hX2 (And.intro hSl hD)))))))
    clear k3 o3 hF hdef hxD hX2 hSl hD hG hsq hseq hY heg f1 hb3 z1
    gi_wp2_with fail
    obtain ⟨k3, o3, hF, hdef, hxD, hX2, hSl, hD⟩ := HE.out
    obtain ⟨f1, hb3, z1⟩ := H.out
    have h5 : Below w.heap.size w V := (f1.mono (Y := fun k => k = w.heap.size) (fun _ _ h => h.elim)).trans3 hF (fun k _ e => e) |>.below (Nat.le_refl _) fun k hk e => by omega
    refine leaves_one D _ hdef fun w' hf => ?_
    refine ⟨.slice A xs.length cp, by simp [results, Tryz.results87, go_sem], ⟨_, rfl, row_base' (own_kept o3 fun g hg => hf.block g (o3.lt g hg).2 fun e => hxD ((hX2 D).2 (.inr (e ▸ hg)))) (by omega)⟩, h5.trans (hf.below h5.size fun k _ e => by omega)⟩
theorem collectI {w : World} {F : Value} {Y : Nat → Prop} {xs : List Int} (h : TellsF Tryz.prog encI w F Y xs) (hl : xs.length ≤ 1000000) : Calls Tryz.prog 60 #[F] w fun e w' => (∃ v, e = .returned v ∧ OwnI w.heap.size w' v xs) ∧ Below w.heap.size w w' := by
  have H := Lib.hid (appendSeqI h hl)
  obtain ⟨gf, lb, rfl, _⟩ := h
  go_enter Tryz.func60, Tryz.ntmps60
  go_wp2_with fail
  refine H.out.mono ?_
  rintro e w1 ⟨⟨v, rfl, ho⟩, hb⟩
  have HQ := Lib.hid (And.intro ho hb)
  clear ho hb H
  go_wp2_with fail
  go_ret
  exact ⟨⟨v, rfl, HQ.out.1⟩, HQ.out.2⟩
end Go.Proofs.YtlkeomcillencaaGreat
end
