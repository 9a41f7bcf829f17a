/- Layer 16: PulseLives. -/
import Derived.Test.YtbgmjieagnmpkaaPulE
import Derived.Test.YtbgmjieagnmpkaaDecP
import Derived.Sort.LoopGhostIn
namespace Go.Proofs.Ytbgmjieagnmpkaa
set_option linter.unusedVariables false
set_option linter.unusedSimpArgs false
open Go Go.RowKit Go.Maps Go.Sort Go.Shelf Go.Lib
attribute [local go_sem] Oper.semAt_some

/-- blocks of others are written -/
theorem PulS.grow {w W W1 : World} {B : PB} {pg gr rg : Int} {C : List Cn} (h : PulS w W B pg gr rg C) (hf : Fr (fun k => W.heap.size ≤ k) W W1) : PulS w W1 B pg gr rg C := by
  obtain ⟨L, Q, A, g, hr⟩ := h.pul
  have hlt := g.lt
  have hz := h.below.size
  exact ⟨h.below.trans (hf.below hz fun k _ e => by have e' : W.heap.size ≤ k := e; omega), L, Q, A, g.fr hf fun k e => by have e' : W.heap.size ≤ k := e; omega, hr⟩
/-- what is due, as a function that tells it -/
theorem s_due {w W : World} {B : PB} {pg gr rg : Int} {C : List Cn} (h : PulS w W B pg gr rg C) {now : Int} (hn : 0 ≤ now ∧ now ≤ 100000000000) (hl : C.length ≤ 900) {R : List (Int × Int)} (hR : IsDue pg gr rg now C R) :
    Calls Try.prog 42 #[.pointer (some ⟨B.p, 0, none⟩), .int .i64 now] W fun e W' => (∃ F, e = .returned F ∧ TaleD W.heap.size W' F R) ∧ PulS w W' B pg gr rg (dueC pg gr rg now C) ∧ Fr B.X W W' := by
  obtain ⟨L, Q, A0, g, hr⟩ := h.pul
  have hlens := hr.lens
  have hpb := g.pb
  have hd : ∀ q, q ∈ dueMI Q now ↔ q ∈ Q ∧ q.2 ≤ now := fun q => dueMI_mem
  have ndd : ((dueMI Q now).map (·.1)).Nodup := by
    unfold dueMI
    exact ((sortTI_perm _).map _).nodup_iff.2 (hr.nq.sublist ((List.filter_sublist).map _))
  have hrel := hr.due now (by omega) hd ndd
  refine (pul_due g hr.disj hn (by omega)).mono fun e W' ⟨⟨F, R2, he, ht, h1, h2, h3⟩, g1, f1⟩ => ⟨⟨F, he, ?_⟩, h.step g1 f1 hrel, f1⟩
  have : R2 = R := rise_fst h1 hR.1 fun p => by
    rw [h2, show p = (p.1, p.2) from rfl, hr.rows_mem now (by omega) (fun p => dueMI_mem) (fun p => dueMI_mem) (fun p => dueMI_mem), hR.2]
  rw [← this]; exact ht
/-- the one connection behind tick n - 1, its last line at 'last' -/
def lifeC (a last n : Int) : Cn := ⟨3, last, true, decide (a ≤ n - 1 - last)⟩
def wantL (a b last n : Int) : Int := if a + b ≤ n - last then 3 else if n - last = a then 2 else 0
theorem life_what {a b last n : Int} (ha : 1 ≤ a) (hb : 1 ≤ b) : whatC a b 1 n (lifeC a last n) = wantL a b last n := by
  unfold whatC lifeC wantL
  simp only [if_true]
  by_cases h1 : a + b ≤ n - last
  · rw [if_pos h1, if_pos h1]
  · rw [if_neg h1, if_neg h1]
    by_cases h2 : n - last = a
    · rw [if_pos h2, if_pos ⟨by omega, decide_eq_false (by omega)⟩]
    · rw [if_neg h2, if_neg]
      rintro ⟨h3, h4⟩
      have := of_decide_eq_false h4
      omega
theorem life_due {a b last n : Int} (ha : 1 ≤ a) (hb : 1 ≤ b) : dueC a b 1 n [lifeC a last n] = [lifeC a last (n + 1)] := by
  unfold dueC askC
  simp only [List.map_cons, List.map_nil]
  rw [life_what ha hb]
  unfold wantL lifeC
  have hn : n + 1 - 1 - last = n - last := by omega
  rw [hn]
  by_cases h1 : a + b ≤ n - last
  · rw [if_pos h1, if_neg (by decide), decide_eq_true (by omega : a ≤ n - 1 - last), decide_eq_true (by omega : a ≤ n - last)]
  · rw [if_neg h1]
    by_cases h2 : n - last = a
    · rw [if_pos h2, if_pos rfl, decide_eq_true (by omega : a ≤ n - last)]
    · rw [if_neg h2, if_neg (by decide)]
      congr 2
      rw [decide_eq_decide]
      omega
theorem life_line {a last n : Int} : lineC [lifeC a last n] 3 n = [⟨3, n, true, false⟩] := by simp [lineC, lifeC]
theorem life_new {a n : Int} (ha : 1 ≤ a) : (⟨3, n, true, false⟩ : Cn) = lifeC a n n := by
  unfold lifeC
  rw [decide_eq_false (by omega)]
def rowL (a b last n : Int) : List (Int × Int) := if wantL a b last n = 0 then [] else [(3, wantL a b last n)]
theorem life_row {a b last n : Int} (ha : 1 ≤ a) (hb : 1 ≤ b) : IsDue a b 1 n [lifeC a last n] (rowL a b last n) := by
  have := due_one a b 1 n (lifeC a last n)
  rw [life_what ha hb] at this
  exact this
/-- a box with what came last -/
def GotL (S base : Nat) (pre : List (Int × Int)) (X : Nat → Prop) (W : World) : Prop := W.heap[S]? = some (.cells #[.int .i64 ((pre.getLast?.map (·.2)).getD 0)] 3 (0, 0)) ∧ S < base ∧ ∀ k, X k ↔ k = S
theorem gotL_stays (S base : Nat) : Stays (GotL S base) := fun pre X V V' ⟨h1, h2, h3⟩ hl hf => ⟨hf.blk h1 (fun e => e ((h3 S).2 rfl)), h2, h3⟩
/-- the loop's state: behind n - 1 ticks -/
structure LifeG (w : World) (B : PB) (a b : Int) (Ds : List Nat) (last n : Int) (W : World) : Prop where
  pul : PulS w W B a b 1 [lifeC a last n]
  nd : Ds.Nodup
  ds : ∀ D ∈ Ds, w.heap.size ≤ D ∧ W.heap[D]? = some (.deferred (some []))
  dx : ∀ D ∈ Ds, ¬ B.X D
  bnd : 0 ≤ last ∧ last ≤ n
set_option maxRecDepth 100000 in
set_option maxHeartbeats 8000000 in
theorem pulseLives_main (A : Option Addr) (hs : List Bool) (cc : Nat) (pi gi : Int) (hp : 0 ≤ pi ∧ pi ≤ 255) (hg : 0 ≤ gi ∧ gi ≤ 255) (w : World) (hl : hs.length ≤ 30)
    (hA : 0 < hs.length → ∃ g o, A = some ⟨g, o, none⟩ ∧ g < w.heap.size ∧ ∀ i (h : i < hs.length), w.cell? ⟨g, o + i, none⟩ = some (.bool hs[i])) :
    Calls Try.prog 7 #[.int .u8 pi, .int .u8 gi, .slice A hs.length cc] w fun e w' => e = .returned (.bool true) ∧ RowKit.Below w.heap.size w w' := by
  obtain ⟨a, ha⟩ : ∃ a, 1 + pi % 8 = a := ⟨_, rfl⟩
  obtain ⟨b, hb⟩ : ∃ b, 1 + gi % 8 = b := ⟨_, rfl⟩
  have ha2 : 1 ≤ a ∧ a ≤ 8 := by omega
  have hb2 : 1 ≤ b ∧ b ≤ 8 := by omega
  have n5 : decide ((30 : Int) < (hs.length : Int)) = false := by simp; omega
  have n6 : ¬ ((30 : Int) < (hs.length : Int)) := by omega
  have HN : Hid (∀ W, RowKit.Below w.heap.size w W → _) := fun W hW => s_new (pg := a) (gr := b) (rg := 1) ⟨ha2.1, by omega, hb2.1, by omega, by decide, by decide⟩ (w := w) (W := W) hW
  unfold cfgV at HN
  have HA := Lib.hid hA
  clear hA
  refine (callsIn_wide (n := 30)).1 ?_
  refine callsIn_of_wp_marks Try.func7 rfl trivial ?_ rfl
  simp only [Try.ntmps7, List.size_toArray, List.length_cons, List.length_nil, Nat.reduceAdd, Nat.reduceSub, Array.replicate_succ, Array.replicate_zero, List.push_toArray, List.append_toArray, List.nil_append, List.cons_append]
  gi_wp2_with fail
  refine ⟨trivial, (calls_wide (.inl rfl) (awake16 w)).mono ?_⟩
  rintro e w1 ⟨rfl, b1⟩
  have B1 := Lib.hid b1
  clear b1
  gi_wp2_with fail
  refine ⟨trivial, (calls_wide (.inl rfl) (HN.out w1 B1.out)).mono ?_⟩
  rintro e w2 ⟨B, rfl, h2, _, _⟩
  have K2 := Lib.hid h2
  clear h2 HN B1
  gi_wp2_with fail
  refine ⟨trivial, (calls_wide (.inl rfl) (s_join K2.out (id := 3) (now := 0) (by unfold OkKI; decide) (by decide) (by decide))).mono ?_⟩
  rintro e w3 ⟨rfl, h3, _⟩
  have K3 : Hid (PulS w w3 B a b 1 [⟨3, 0, false, false⟩]) := h3
  clear h3 K2
  gi_wp2_with fail
  refine ⟨trivial, (calls_wide (.inl rfl) (s_reg K3.out (id := 3) (now := 0) (by unfold OkKI; decide) (by decide) (by decide))).mono ?_⟩
  rintro e w4 ⟨rfl, h4, _⟩
  have K4 : Hid (PulS w w4 B a b 1 [lifeC a 0 1]) := by
    have e1 : lifeC a 0 1 = ⟨3, 0, true, false⟩ := by unfold lifeC; rw [decide_eq_false (by omega)]
    rw [e1]
    exact h4
  clear h4 K3
  gi_wp2_with fail
  have G0 : LifeG w B a b [] 0 (((0 : Nat) : Int) + 1) w4 := ⟨K4.out, List.nodup_nil, (fun _ h => by cases h), (fun _ h => by cases h), by omega⟩
  refine wpIn_loop_ghost_k (fun gk f W => ∃ (m : Nat) (Ds : List Nat) (last : Int) (u12 u13 u14 u38 u39 u40 u41 u42 u43 u44 u45 u46 u47 u48 u49 u50 u51 u52 u53 u54 u55 u56 u57 u58 u59 u60 u61 u62 u63 u64 u65 u66 u67 u68 u69 u70 u74 u75 u76 : Value), gk = hs.length - m ∧ m ≤ hs.length ∧ f = { tmps := #[Value.int .u8 pi, Value.int .u8 gi, Value.slice A hs.length cc, undef, undef, undef, Value.bool false, Value.int .i64 a, Value.int .i64 b, Value.pointer (some { block := B.p, off := 0 }), Value.int .i64 last, Value.int .i64 ((m : Int) + 1), u12, u13, u14, undef, undef, Value.bool true, Value.bool false, Value.slice A hs.length cc, Value.int .i64 (hs.length : Int), Value.bool false, Value.int .u8 pi, Value.int .i64 pi, Value.int .i64 (pi % 8), Value.int .i64 a, Value.int .u8 gi, Value.int .i64 gi, Value.int .i64 (gi % 8), Value.int .i64 b, Value.int .i64 a, Value.int .i64 b, Value.agg #[Value.string { data := #[] }, Value.string { data := #[] }, Value.string { data := #[] }, Value.string { data := #[] }, Value.int .i64 0, Value.int .i64 0, Value.int .i64 0, Value.int .i64 0, Value.int .i64 0, Value.int .i64 0, Value.int .i64 0, Value.int .i64 0, Value.int .i64 a, Value.int .i64 b, Value.int .i64 1], Value.pointer (some { block := B.p, off := 0 }), Value.pointer (some { block := B.p, off := 0 }), Value.tuple #[], Value.pointer (some { block := B.p, off := 0 }), Value.tuple #[], u38, u39, u40, u41, u42, u43, u44, u45, u46, u47, u48, u49, u50, u51, u52, u53, u54, u55, u56, u57, u58, u59, u60, u61, u62, u63, u64, u65, u66, u67, u68, u69, u70, undef, undef, undef, u74, u75, u76], defers := Ds.map markF } ∧ Hid (LifeG w B a b Ds last ((m : Int) + 1) W)) hs.length ⟨0, [], 0, _, _, _, _, _, _, _, _, _, _, _, _, _, _, _, _, _, _, _, _, _, _, _, _, _, _, _, _, _, _, _, _, _, _, _, _, _, _, _, rfl, Nat.zero_le _, rfl, G0⟩ ?_
  clear G0 K4
  rintro gk f W ⟨m, Ds, last, u12, u13, u14, u38, u39, u40, u41, u42, u43, u44, u45, u46, u47, u48, u49, u50, u51, u52, u53, u54, u55, u56, u57, u58, u59, u60, u61, u62, u63, u64, u65, u66, u67, u68, u69, u70, u74, u75, u76, hgk, hm, rfl, HG⟩ J K hJ hK
  have HJ := Lib.hid hJ
  have HK := Lib.hid hK
  clear hJ hK
  by_cases hlt : m < hs.length
  · obtain ⟨p1, p2, p3, p4, p5⟩ := HG.out
    obtain ⟨g, o, rfl, hgl, hcell⟩ := HA.out (by omega)
    obtain ⟨hm1, hhm⟩ : ∃ x, hs[m] = x := ⟨_, rfl⟩
    have e0 : W.cell? ⟨g, o + m, none⟩ = some (.bool hm1) := by
      rw [← hhm]
      exact (World.cell?_of_block (w := w) (w' := W) (a := ⟨g, o + m, none⟩) (p1.below.block g hgl)).trans (hcell m hlt)
    have hw0 : IntKind.i64.wrap ((m : Int) + 1 - 1) = (m : Int) := by rw [show (m : Int) + 1 - 1 = (m : Int) by omega]; exact IntWalk.i64_in _ ⟨by omega, by omega⟩
    have q0 : (m : Int) + 1 ≤ (hs.length : Int) := by omega
    have q1 : (0 : Int) ≤ (m : Int) := by omega
    have q2 : (m : Int) < (hs.length : Int) := by omega
    have hwab : IntKind.i64.wrap (a + b) = a + b := IntWalk.i64_in _ ⟨by omega, by omega⟩
    have hwm : IntKind.i64.wrap ((m : Int) + 1 + 1) = (m : Int) + 1 + 1 := IntWalk.i64_in _ ⟨by omega, by omega⟩
    have hbl := p5
    have H4 := Lib.hid (And.intro p1 (And.intro p2 (And.intro p3 p4)))
    clear p1 p2 p3 p4 p5 hcell hhm
    cases hm1 with
    | true =>
      have HL := Lib.hid (s_line H4.out.1 (id := 3) (now := (m : Int) + 1) (by unfold OkKI; decide) ⟨by omega, by omega⟩ (by simp))
      gi_wp2_with fail
      refine ⟨trivial, (calls_wide (.inl rfl) HL.out).mono ?_⟩
      rintro e W5 ⟨rfl, h5, f5⟩
      rw [life_line, life_new ha2.1] at h5
      have H5 := Lib.hid (And.intro H4.out.2.1 (And.intro (fun E hE => And.intro (H4.out.2.2.1 E hE).1 (f5.blk (H4.out.2.2.1 E hE).2 (H4.out.2.2.2 E hE))) (And.intro H4.out.2.2.2 h5.lt)))
      have K5 := Lib.hid h5
      have r1 : ¬ (0 : Int) = a := by omega
      have r2 : ¬ a + b ≤ 0 := by omega
      clear h5 f5 HL H4
      have hwl : wantL a b ((m : Int) + 1) ((m : Int) + 1) = 0 := by unfold wantL; rw [if_neg (by omega), if_neg (by omega)]
      have HD := Lib.hid (s_due K5.out (now := (m : Int) + 1) ⟨by omega, by omega⟩ (by simp) (life_row ha2.1 hb2.1))
      have HWL := Lib.hid hwl
      clear hwl
      gi_wp2_with fail
      refine ⟨trivial, (calls_wide (.inl rfl) HD.out).mono ?_⟩
      rintro e W6 ⟨⟨F, rfl, hT⟩, h6, f6⟩
      rw [life_due ha2.1 hb2.1] at h6
      obtain ⟨W7, hW7⟩ : ∃ W7, W6.alloc (Obj.cells #[.int .i64 0] 3) = W7 := ⟨_, rfl⟩
      have k7' : W7.heap[W6.heap.size]? = some (.cells #[.int .i64 0] 3 (0, 0)) := by rw [← hW7]; exact heap_alloc_new W6 _
      obtain ⟨W8, hW8⟩ : ∃ W8, W7.setCell ⟨W6.heap.size, 0, none⟩ (.int .i64 0) = W8 := ⟨_, rfl⟩
      have f67 : Fr (fun k => k = W6.heap.size) W6 W8 := by
        rw [← hW8, ← hW7]; exact Fr.setCell (X := fun k => k = W6.heap.size) ((Fr.refl _ W6).alloc _) ⟨W6.heap.size, 0, none⟩ rfl _
      have k7 : W8.heap[W6.heap.size]? = some (.cells #[.int .i64 0] 3 (0, 0)) := by rw [← hW8]; exact blk_set k7' 0 _
      have c7 := blk_cell k7' 0
      have d7 := blk_free k7' 0
      have z7 : W8.heap.size = W6.heap.size + 1 := by rw [← hW8, ← hW7]; simp
      obtain ⟨R, hR⟩ : ∃ R, rowL a b ((m : Int) + 1) ((m : Int) + 1) = R := ⟨_, rfl⟩
      rw [hR] at hT
      have hRl : R.length ≤ 1 := by rw [← hR]; unfold rowL; split <;> simp
      have hRv : (R.getLast?.map (·.2)).getD 0 = 0 := by
        rw [← hR]; unfold rowL; rw [HWL.out]
        simp
      obtain ⟨Y, hYb, gf, lb, rfl, hseq6, hYl6, heg⟩ := taleD_tells hT (by omega)
      have hseq := hseq6.same fun b hb => f67.block b (hYl6 b hb) fun e => by have := hYl6 b hb; omega
      have hYl : ∀ b, Y b → b < W8.heap.size := fun b hb => by have := hYl6 b hb; omega
      have hnil : ∀ W, (binOp BinOp.eql 79 (.func (.func gf) #[] lb) Value.nilFunc).run Try.prog W = .ok (.bool false) W := fun W => by rfl
      have hYS : ∀ k, k = W6.heap.size → ¬ Y k := fun k hk e => by have := hYl6 k e; omega
      have H6 := Lib.hid (And.intro h6 (And.intro f6 (And.intro f67 (And.intro z7 hRv))))
      have hSz : W6.heap.size < W8.heap.size := by omega
      clear h6 f6 f67 z7 hRv hT hR HD hseq6 hYl6 hYb k7'
      gi_wp2_with (simp only [hnil])
      refine wpIn_rangeF (X := fun k => k = W6.heap.size) (Y := Y) (xs := R) (encs := encPD) (gf := gf) (lb := lb) (GotL W6.heap.size W8.heap.size) (fun _ _ _ _ => False)
        rfl hseq (fun k hk => ⟨by omega, hYS k hk⟩) hYl (by omega) heg (fun _ => rfl)
        (gotL_stays _ _) (fun c s X1 V1 V2 h => h.elim) ⟨k7, by omega, fun k => Iff.rfl⟩ ?round ?done (fun _ _ _ _ _ _ _ _ _ _ _ h => h.elim)
      case round =>
        rintro l pre ⟨y, at_⟩ r X1 V K9 rb hl2 hpx hI hG9 hxl hF hlV hK9
        dsimp only [encPD]
        have HK9 := Lib.hid hK9
        have HV := Lib.hid (And.intro hI (And.intro hG9 (And.intro hxl (And.intro hF (And.intro hlV hl2)))))
        clear hK9 hpx hI hG9 hxl hF hlV hl2 hseq hYl heg hYS k7
        gi_wp2_with fail
        refine HK9.out _ _ (Fr.refl _ _) fun Vb hfb hzb hsb hrb => ?_
        clear HK9 K9
        obtain ⟨⟨k1, hSl, hX1⟩, hG9, hxl, hF, hlV, hl2⟩ := HV.out
        have k1b := hfb.blk k1 (fun e => hxl ((hX1 l).2 e.symm))
        have c1 := blk_cell k1b 0
        have d1 := blk_free k1b 0
        have HE := Lib.hid (And.intro k1b (And.intro hSl (And.intro hX1 (And.intro hG9 (And.intro hxl (And.intro hlV (And.intro hfb hrb)))))))
        clear k1 hSl hX1 hG9 hxl hF hlV hl2 k1b hfb hrb hzb hsb HV
        gi_wp2_with fail
        obtain ⟨k1b, hSl, hX1, hG9, hxl, hlV, hfb, hrb⟩ := HE.out
        have hf3 : Fr X1 Vb (Vb.setCell ⟨W6.heap.size, 0, none⟩ (Value.int IntKind.i64 at_)) := (Fr.refl X1 Vb).setCell _ ((hX1 _).2 rfl) _
        refine ⟨X1, fun k hk => ⟨Nat.lt_of_lt_of_le (hG9 k hk).1 (Nat.le_trans hfb.size hf3.size), fun _ => hk⟩, (hfb.mono (Y := fun k => k = l ∨ X1 k) fun k _ e => .inl e).trans3 hf3 fun k _ e => .inr e, hf3.blk hrb hxl, ?_, hSl, hX1⟩
        have := blk_set k1b 0 (Value.int IntKind.i64 at_)
        rw [List.getLast?_append]
        exact this
      case done =>
        rintro D X2 V hD hxD hG9 hF ⟨k1, hSl, hX2⟩ hdef
        obtain ⟨h6, f6, f67, z7, hRv⟩ := H6.out
        rw [hRv] at k1
        have c1 := blk_cell k1 0
        obtain ⟨m1, m2, m3, m4⟩ := H5.out
        have f6V : Fr (fun k => k = W6.heap.size) W6 V := f67.trans3 hF fun k _ e => e
        have hz5 := K5.out.below.size
        have hz56 := f6.size
        have hgV : LifeG w B a b (D :: Ds) ((m : Int) + 1) ((m : Int) + 1 + 1) V := by
          refine ⟨h6.grow (f6V.mono fun k _ e => by show W6.heap.size ≤ k; omega), List.nodup_cons.2 ⟨fun e => ?_, m1⟩, fun E hE => ?_, fun E hE => ?_, by omega⟩
          · have := blk_lt (m2 D e).2; omega
          · rcases List.mem_cons.1 hE with rfl | hE
            · exact ⟨by omega, hdef⟩
            · have e1 := m2 E hE
              have e2 := blk_lt e1.2
              exact ⟨e1.1, f6V.blk (f6.blk e1.2 (m3 E hE)) (by omega)⟩
          · rcases List.mem_cons.1 hE with rfl | hE
            · exact fun e => by have := m4 _ e; omega
            · exact m3 E hE
        have HG2 := Lib.hid hgV
        clear hgV f6V hz5 hz56 h6 f6 f67 z7 hRv k1 hSl hX2 hdef hD hxD hG9 hF hseq hYl heg hYS k7 m1 m2 m3 m4
        gi_wp2_with fail
        exact HK.out _ _ (Handed.intro (hs.length - (m + 1)) (by omega) (HJ.out _ _ _ ⟨m + 1, D :: Ds, (m : Int) + 1, _, _, _, _, _, _, _, _, _, _, _, _, _, _, _, _, _, _, _, _, _, _, _, _, _, _, _, _, _, _, _, _, _, _, _, _, _, _, _, rfl, by omega, by first | rfl | (congr 1), HG2⟩))
    | false =>
      have H5 := Lib.hid (And.intro H4.out.2.1 (And.intro H4.out.2.2.1 (And.intro H4.out.2.2.2 H4.out.1.lt)))
      have K5 := Lib.hid H4.out.1
      obtain ⟨d, hd⟩ : ∃ d, (m : Int) + 1 - last = d := ⟨_, rfl⟩
      have hwd : IntKind.i64.wrap ((m : Int) + 1 - last) = d := by rw [hd]; exact IntWalk.i64_in _ ⟨by omega, by omega⟩
      have Hd := Lib.hid hd
      clear H4 hd
      by_cases h1 : a + b ≤ d
      · have r1 : ¬ d = a := by omega
        have hwl : wantL a b (last) ((m : Int) + 1) = 3 := by have := Hd.out; unfold wantL; rw [if_pos (by omega)]
        have HD := Lib.hid (s_due K5.out (now := (m : Int) + 1) ⟨by omega, by omega⟩ (by simp) (life_row ha2.1 hb2.1))
        have HWL := Lib.hid hwl
        clear hwl
        gi_wp2_with fail
        refine ⟨trivial, (calls_wide (.inl rfl) HD.out).mono ?_⟩
        rintro e W6 ⟨⟨F, rfl, hT⟩, h6, f6⟩
        rw [life_due ha2.1 hb2.1] at h6
        obtain ⟨W7, hW7⟩ : ∃ W7, W6.alloc (Obj.cells #[.int .i64 0] 3) = W7 := ⟨_, rfl⟩
        have k7' : W7.heap[W6.heap.size]? = some (.cells #[.int .i64 0] 3 (0, 0)) := by rw [← hW7]; exact heap_alloc_new W6 _
        obtain ⟨W8, hW8⟩ : ∃ W8, W7.setCell ⟨W6.heap.size, 0, none⟩ (.int .i64 0) = W8 := ⟨_, rfl⟩
        have f67 : Fr (fun k => k = W6.heap.size) W6 W8 := by
          rw [← hW8, ← hW7]; exact Fr.setCell (X := fun k => k = W6.heap.size) ((Fr.refl _ W6).alloc _) ⟨W6.heap.size, 0, none⟩ rfl _
        have k7 : W8.heap[W6.heap.size]? = some (.cells #[.int .i64 0] 3 (0, 0)) := by rw [← hW8]; exact blk_set k7' 0 _
        have c7 := blk_cell k7' 0
        have d7 := blk_free k7' 0
        have z7 : W8.heap.size = W6.heap.size + 1 := by rw [← hW8, ← hW7]; simp
        obtain ⟨R, hR⟩ : ∃ R, rowL a b (last) ((m : Int) + 1) = R := ⟨_, rfl⟩
        rw [hR] at hT
        have hRl : R.length ≤ 1 := by rw [← hR]; unfold rowL; split <;> simp
        have hRv : (R.getLast?.map (·.2)).getD 0 = 3 := by
          rw [← hR]; unfold rowL; rw [HWL.out]
          simp
        obtain ⟨Y, hYb, gf, lb, rfl, hseq6, hYl6, heg⟩ := taleD_tells hT (by omega)
        have hseq := hseq6.same fun b hb => f67.block b (hYl6 b hb) fun e => by have := hYl6 b hb; omega
        have hYl : ∀ b, Y b → b < W8.heap.size := fun b hb => by have := hYl6 b hb; omega
        have hnil : ∀ W, (binOp BinOp.eql 79 (.func (.func gf) #[] lb) Value.nilFunc).run Try.prog W = .ok (.bool false) W := fun W => by rfl
        have hYS : ∀ k, k = W6.heap.size → ¬ Y k := fun k hk e => by have := hYl6 k e; omega
        have H6 := Lib.hid (And.intro h6 (And.intro f6 (And.intro f67 (And.intro z7 hRv))))
        have hSz : W6.heap.size < W8.heap.size := by omega
        clear h6 f6 f67 z7 hRv hT hR HD hseq6 hYl6 hYb k7'
        gi_wp2_with (simp only [hnil])
        refine wpIn_rangeF (X := fun k => k = W6.heap.size) (Y := Y) (xs := R) (encs := encPD) (gf := gf) (lb := lb) (GotL W6.heap.size W8.heap.size) (fun _ _ _ _ => False)
          rfl hseq (fun k hk => ⟨by omega, hYS k hk⟩) hYl (by omega) heg (fun _ => rfl)
          (gotL_stays _ _) (fun c s X1 V1 V2 h => h.elim) ⟨k7, by omega, fun k => Iff.rfl⟩ ?round ?done (fun _ _ _ _ _ _ _ _ _ _ _ h => h.elim)
        case round =>
          rintro l pre ⟨y, at_⟩ r X1 V K9 rb hl2 hpx hI hG9 hxl hF hlV hK9
          dsimp only [encPD]
          have HK9 := Lib.hid hK9
          have HV := Lib.hid (And.intro hI (And.intro hG9 (And.intro hxl (And.intro hF (And.intro hlV hl2)))))
          clear hK9 hpx hI hG9 hxl hF hlV hl2 hseq hYl heg hYS k7
          gi_wp2_with fail
          refine HK9.out _ _ (Fr.refl _ _) fun Vb hfb hzb hsb hrb => ?_
          clear HK9 K9
          obtain ⟨⟨k1, hSl, hX1⟩, hG9, hxl, hF, hlV, hl2⟩ := HV.out
          have k1b := hfb.blk k1 (fun e => hxl ((hX1 l).2 e.symm))
          have c1 := blk_cell k1b 0
          have d1 := blk_free k1b 0
          have HE := Lib.hid (And.intro k1b (And.intro hSl (And.intro hX1 (And.intro hG9 (And.intro hxl (And.intro hlV (And.intro hfb hrb)))))))
          clear k1 hSl hX1 hG9 hxl hF hlV hl2 k1b hfb hrb hzb hsb HV
          gi_wp2_with fail
          obtain ⟨k1b, hSl, hX1, hG9, hxl, hlV, hfb, hrb⟩ := HE.out
          have hf3 : Fr X1 Vb (Vb.setCell ⟨W6.heap.size, 0, none⟩ (Value.int IntKind.i64 at_)) := (Fr.refl X1 Vb).setCell _ ((hX1 _).2 rfl) _
          refine ⟨X1, fun k hk => ⟨Nat.lt_of_lt_of_le (hG9 k hk).1 (Nat.le_trans hfb.size hf3.size), fun _ => hk⟩, (hfb.mono (Y := fun k => k = l ∨ X1 k) fun k _ e => .inl e).trans3 hf3 fun k _ e => .inr e, hf3.blk hrb hxl, ?_, hSl, hX1⟩
          have := blk_set k1b 0 (Value.int IntKind.i64 at_)
          rw [List.getLast?_append]
          exact this
        case done =>
          rintro D X2 V hD hxD hG9 hF ⟨k1, hSl, hX2⟩ hdef
          obtain ⟨h6, f6, f67, z7, hRv⟩ := H6.out
          rw [hRv] at k1
          have c1 := blk_cell k1 0
          obtain ⟨m1, m2, m3, m4⟩ := H5.out
          have f6V : Fr (fun k => k = W6.heap.size) W6 V := f67.trans3 hF fun k _ e => e
          have hz5 := K5.out.below.size
          have hz56 := f6.size
          have hgV : LifeG w B a b (D :: Ds) (last) ((m : Int) + 1 + 1) V := by
            refine ⟨h6.grow (f6V.mono fun k _ e => by show W6.heap.size ≤ k; omega), List.nodup_cons.2 ⟨fun e => ?_, m1⟩, fun E hE => ?_, fun E hE => ?_, by omega⟩
            · have := blk_lt (m2 D e).2; omega
            · rcases List.mem_cons.1 hE with rfl | hE
              · exact ⟨by omega, hdef⟩
              · have e1 := m2 E hE
                have e2 := blk_lt e1.2
                exact ⟨e1.1, f6V.blk (f6.blk e1.2 (m3 E hE)) (by omega)⟩
            · rcases List.mem_cons.1 hE with rfl | hE
              · exact fun e => by have := m4 _ e; omega
              · exact m3 E hE
          have HG2 := Lib.hid hgV
          clear hgV f6V hz5 hz56 h6 f6 f67 z7 hRv k1 hSl hX2 hdef hD hxD hG9 hF hseq hYl heg hYS k7 m1 m2 m3 m4
          gi_wp2_with fail
          exact HK.out _ _ (Handed.intro (hs.length - (m + 1)) (by omega) (HJ.out _ _ _ ⟨m + 1, D :: Ds, last, _, _, _, _, _, _, _, _, _, _, _, _, _, _, _, _, _, _, _, _, _, _, _, _, _, _, _, _, _, _, _, _, _, _, _, _, _, _, _, rfl, by omega, by first | rfl | (congr 1), HG2⟩))
      · by_cases h2 : d = a
        · have r2 : ¬ a + b ≤ a := by omega
          have hwl : wantL a b (last) ((m : Int) + 1) = 2 := by have := Hd.out; unfold wantL; rw [if_neg (by omega), if_pos (by omega)]
          have HD := Lib.hid (s_due K5.out (now := (m : Int) + 1) ⟨by omega, by omega⟩ (by simp) (life_row ha2.1 hb2.1))
          have HWL := Lib.hid hwl
          clear hwl
          gi_wp2_with fail
          refine ⟨trivial, (calls_wide (.inl rfl) HD.out).mono ?_⟩
          rintro e W6 ⟨⟨F, rfl, hT⟩, h6, f6⟩
          rw [life_due ha2.1 hb2.1] at h6
          obtain ⟨W7, hW7⟩ : ∃ W7, W6.alloc (Obj.cells #[.int .i64 0] 3) = W7 := ⟨_, rfl⟩
          have k7' : W7.heap[W6.heap.size]? = some (.cells #[.int .i64 0] 3 (0, 0)) := by rw [← hW7]; exact heap_alloc_new W6 _
          obtain ⟨W8, hW8⟩ : ∃ W8, W7.setCell ⟨W6.heap.size, 0, none⟩ (.int .i64 0) = W8 := ⟨_, rfl⟩
          have f67 : Fr (fun k => k = W6.heap.size) W6 W8 := by
            rw [← hW8, ← hW7]; exact Fr.setCell (X := fun k => k = W6.heap.size) ((Fr.refl _ W6).alloc _) ⟨W6.heap.size, 0, none⟩ rfl _
          have k7 : W8.heap[W6.heap.size]? = some (.cells #[.int .i64 0] 3 (0, 0)) := by rw [← hW8]; exact blk_set k7' 0 _
          have c7 := blk_cell k7' 0
          have d7 := blk_free k7' 0
          have z7 : W8.heap.size = W6.heap.size + 1 := by rw [← hW8, ← hW7]; simp
          obtain ⟨R, hR⟩ : ∃ R, rowL a b (last) ((m : Int) + 1) = R := ⟨_, rfl⟩
          rw [hR] at hT
          have hRl : R.length ≤ 1 := by rw [← hR]; unfold rowL; split <;> simp
          have hRv : (R.getLast?.map (·.2)).getD 0 = 2 := by
            rw [← hR]; unfold rowL; rw [HWL.out]
            simp
          obtain ⟨Y, hYb, gf, lb, rfl, hseq6, hYl6, heg⟩ := taleD_tells hT (by omega)
          have hseq := hseq6.same fun b hb => f67.block b (hYl6 b hb) fun e => by have := hYl6 b hb; omega
          have hYl : ∀ b, Y b → b < W8.heap.size := fun b hb => by have := hYl6 b hb; omega
          have hnil : ∀ W, (binOp BinOp.eql 79 (.func (.func gf) #[] lb) Value.nilFunc).run Try.prog W = .ok (.bool false) W := fun W => by rfl
          have hYS : ∀ k, k = W6.heap.size → ¬ Y k := fun k hk e => by have := hYl6 k e; omega
          have H6 := Lib.hid (And.intro h6 (And.intro f6 (And.intro f67 (And.intro z7 hRv))))
          have hSz : W6.heap.size < W8.heap.size := by omega
          clear h6 f6 f67 z7 hRv hT hR HD hseq6 hYl6 hYb k7'
          gi_wp2_with (simp only [hnil])
          refine wpIn_rangeF (X := fun k => k = W6.heap.size) (Y := Y) (xs := R) (encs := encPD) (gf := gf) (lb := lb) (GotL W6.heap.size W8.heap.size) (fun _ _ _ _ => False)
            rfl hseq (fun k hk => ⟨by omega, hYS k hk⟩) hYl (by omega) heg (fun _ => rfl)
            (gotL_stays _ _) (fun c s X1 V1 V2 h => h.elim) ⟨k7, by omega, fun k => Iff.rfl⟩ ?round ?done (fun _ _ _ _ _ _ _ _ _ _ _ h => h.elim)
          case round =>
            rintro l pre ⟨y, at_⟩ r X1 V K9 rb hl2 hpx hI hG9 hxl hF hlV hK9
            dsimp only [encPD]
            have HK9 := Lib.hid hK9
            have HV := Lib.hid (And.intro hI (And.intro hG9 (And.intro hxl (And.intro hF (And.intro hlV hl2)))))
            clear hK9 hpx hI hG9 hxl hF hlV hl2 hseq hYl heg hYS k7
            gi_wp2_with fail
            refine HK9.out _ _ (Fr.refl _ _) fun Vb hfb hzb hsb hrb => ?_
            clear HK9 K9
            obtain ⟨⟨k1, hSl, hX1⟩, hG9, hxl, hF, hlV, hl2⟩ := HV.out
            have k1b := hfb.blk k1 (fun e => hxl ((hX1 l).2 e.symm))
            have c1 := blk_cell k1b 0
            have d1 := blk_free k1b 0
            have HE := Lib.hid (And.intro k1b (And.intro hSl (And.intro hX1 (And.intro hG9 (And.intro hxl (And.intro hlV (And.intro hfb hrb)))))))
            clear k1 hSl hX1 hG9 hxl hF hlV hl2 k1b hfb hrb hzb hsb HV
            gi_wp2_with fail
            obtain ⟨k1b, hSl, hX1, hG9, hxl, hlV, hfb, hrb⟩ := HE.out
            have hf3 : Fr X1 Vb (Vb.setCell ⟨W6.heap.size, 0, none⟩ (Value.int IntKind.i64 at_)) := (Fr.refl X1 Vb).setCell _ ((hX1 _).2 rfl) _
            refine ⟨X1, fun k hk => ⟨Nat.lt_of_lt_of_le (hG9 k hk).1 (Nat.le_trans hfb.size hf3.size), fun _ => hk⟩, (hfb.mono (Y := fun k => k = l ∨ X1 k) fun k _ e => .inl e).trans3 hf3 fun k _ e => .inr e, hf3.blk hrb hxl, ?_, hSl, hX1⟩
            have := blk_set k1b 0 (Value.int IntKind.i64 at_)
            rw [List.getLast?_append]
            exact this
          case done =>
            rintro D X2 V hD hxD hG9 hF ⟨k1, hSl, hX2⟩ hdef
            obtain ⟨h6, f6, f67, z7, hRv⟩ := H6.out
            rw [hRv] at k1
            have c1 := blk_cell k1 0
            obtain ⟨m1, m2, m3, m4⟩ := H5.out
            have f6V : Fr (fun k => k = W6.heap.size) W6 V := f67.trans3 hF fun k _ e => e
            have hz5 := K5.out.below.size
            have hz56 := f6.size
            have hgV : LifeG w B a b (D :: Ds) (last) ((m : Int) + 1 + 1) V := by
              refine ⟨h6.grow (f6V.mono fun k _ e => by show W6.heap.size ≤ k; omega), List.nodup_cons.2 ⟨fun e => ?_, m1⟩, fun E hE => ?_, fun E hE => ?_, by omega⟩
              · have := blk_lt (m2 D e).2; omega
              · rcases List.mem_cons.1 hE with rfl | hE
                · exact ⟨by omega, hdef⟩
                · have e1 := m2 E hE
                  have e2 := blk_lt e1.2
                  exact ⟨e1.1, f6V.blk (f6.blk e1.2 (m3 E hE)) (by omega)⟩
              · rcases List.mem_cons.1 hE with rfl | hE
                · exact fun e => by have := m4 _ e; omega
                · exact m3 E hE
            have HG2 := Lib.hid hgV
            clear hgV f6V hz5 hz56 h6 f6 f67 z7 hRv k1 hSl hX2 hdef hD hxD hG9 hF hseq hYl heg hYS k7 m1 m2 m3 m4
            gi_wp2_with fail
            exact HK.out _ _ (Handed.intro (hs.length - (m + 1)) (by omega) (HJ.out _ _ _ ⟨m + 1, D :: Ds, last, _, _, _, _, _, _, _, _, _, _, _, _, _, _, _, _, _, _, _, _, _, _, _, _, _, _, _, _, _, _, _, _, _, _, _, _, _, _, _, rfl, by omega, by first | rfl | (congr 1), HG2⟩))
        · have r2 : ¬ a + b ≤ d := h1
          have hwl : wantL a b (last) ((m : Int) + 1) = 0 := by have := Hd.out; unfold wantL; rw [if_neg (by omega), if_neg (by omega)]
          have HD := Lib.hid (s_due K5.out (now := (m : Int) + 1) ⟨by omega, by omega⟩ (by simp) (life_row ha2.1 hb2.1))
          have HWL := Lib.hid hwl
          clear hwl
          gi_wp2_with fail
          refine ⟨trivial, (calls_wide (.inl rfl) HD.out).mono ?_⟩
          rintro e W6 ⟨⟨F, rfl, hT⟩, h6, f6⟩
          rw [life_due ha2.1 hb2.1] at h6
          obtain ⟨W7, hW7⟩ : ∃ W7, W6.alloc (Obj.cells #[.int .i64 0] 3) = W7 := ⟨_, rfl⟩
          have k7' : W7.heap[W6.heap.size]? = some (.cells #[.int .i64 0] 3 (0, 0)) := by rw [← hW7]; exact heap_alloc_new W6 _
          obtain ⟨W8, hW8⟩ : ∃ W8, W7.setCell ⟨W6.heap.size, 0, none⟩ (.int .i64 0) = W8 := ⟨_, rfl⟩
          have f67 : Fr (fun k => k = W6.heap.size) W6 W8 := by
            rw [← hW8, ← hW7]; exact Fr.setCell (X := fun k => k = W6.heap.size) ((Fr.refl _ W6).alloc _) ⟨W6.heap.size, 0, none⟩ rfl _
          have k7 : W8.heap[W6.heap.size]? = some (.cells #[.int .i64 0] 3 (0, 0)) := by rw [← hW8]; exact blk_set k7' 0 _
          have c7 := blk_cell k7' 0
          have d7 := blk_free k7' 0
          have z7 : W8.heap.size = W6.heap.size + 1 := by rw [← hW8, ← hW7]; simp
          obtain ⟨R, hR⟩ : ∃ R, rowL a b (last) ((m : Int) + 1) = R := ⟨_, rfl⟩
          rw [hR] at hT
          have hRl : R.length ≤ 1 := by rw [← hR]; unfold rowL; split <;> simp
          have hRv : (R.getLast?.map (·.2)).getD 0 = 0 := by
            rw [← hR]; unfold rowL; rw [HWL.out]
            simp
          obtain ⟨Y, hYb, gf, lb, rfl, hseq6, hYl6, heg⟩ := taleD_tells hT (by omega)
          have hseq := hseq6.same fun b hb => f67.block b (hYl6 b hb) fun e => by have := hYl6 b hb; omega
          have hYl : ∀ b, Y b → b < W8.heap.size := fun b hb => by have := hYl6 b hb; omega
          have hnil : ∀ W, (binOp BinOp.eql 79 (.func (.func gf) #[] lb) Value.nilFunc).run Try.prog W = .ok (.bool false) W := fun W => by rfl
          have hYS : ∀ k, k = W6.heap.size → ¬ Y k := fun k hk e => by have := hYl6 k e; omega
          have H6 := Lib.hid (And.intro h6 (And.intro f6 (And.intro f67 (And.intro z7 hRv))))
          have hSz : W6.heap.size < W8.heap.size := by omega
          clear h6 f6 f67 z7 hRv hT hR HD hseq6 hYl6 hYb k7'
          gi_wp2_with (simp only [hnil])
          refine wpIn_rangeF (X := fun k => k = W6.heap.size) (Y := Y) (xs := R) (encs := encPD) (gf := gf) (lb := lb) (GotL W6.heap.size W8.heap.size) (fun _ _ _ _ => False)
            rfl hseq (fun k hk => ⟨by omega, hYS k hk⟩) hYl (by omega) heg (fun _ => rfl)
            (gotL_stays _ _) (fun c s X1 V1 V2 h => h.elim) ⟨k7, by omega, fun k => Iff.rfl⟩ ?round ?done (fun _ _ _ _ _ _ _ _ _ _ _ h => h.elim)
          case round =>
            rintro l pre ⟨y, at_⟩ r X1 V K9 rb hl2 hpx hI hG9 hxl hF hlV hK9
            dsimp only [encPD]
            have HK9 := Lib.hid hK9
            have HV := Lib.hid (And.intro hI (And.intro hG9 (And.intro hxl (And.intro hF (And.intro hlV hl2)))))
            clear hK9 hpx hI hG9 hxl hF hlV hl2 hseq hYl heg hYS k7
            gi_wp2_with fail
            refine HK9.out _ _ (Fr.refl _ _) fun Vb hfb hzb hsb hrb => ?_
            clear HK9 K9
            obtain ⟨⟨k1, hSl, hX1⟩, hG9, hxl, hF, hlV, hl2⟩ := HV.out
            have k1b := hfb.blk k1 (fun e => hxl ((hX1 l).2 e.symm))
            have c1 := blk_cell k1b 0
            have d1 := blk_free k1b 0
            have HE := Lib.hid (And.intro k1b (And.intro hSl (And.intro hX1 (And.intro hG9 (And.intro hxl (And.intro hlV (And.intro hfb hrb)))))))
            clear k1 hSl hX1 hG9 hxl hF hlV hl2 k1b hfb hrb hzb hsb HV
            gi_wp2_with fail
            obtain ⟨k1b, hSl, hX1, hG9, hxl, hlV, hfb, hrb⟩ := HE.out
            have hf3 : Fr X1 Vb (Vb.setCell ⟨W6.heap.size, 0, none⟩ (Value.int IntKind.i64 at_)) := (Fr.refl X1 Vb).setCell _ ((hX1 _).2 rfl) _
            refine ⟨X1, fun k hk => ⟨Nat.lt_of_lt_of_le (hG9 k hk).1 (Nat.le_trans hfb.size hf3.size), fun _ => hk⟩, (hfb.mono (Y := fun k => k = l ∨ X1 k) fun k _ e => .inl e).trans3 hf3 fun k _ e => .inr e, hf3.blk hrb hxl, ?_, hSl, hX1⟩
            have := blk_set k1b 0 (Value.int IntKind.i64 at_)
            rw [List.getLast?_append]
            exact this
          case done =>
            rintro D X2 V hD hxD hG9 hF ⟨k1, hSl, hX2⟩ hdef
            obtain ⟨h6, f6, f67, z7, hRv⟩ := H6.out
            rw [hRv] at k1
            have c1 := blk_cell k1 0
            obtain ⟨m1, m2, m3, m4⟩ := H5.out
            have f6V : Fr (fun k => k = W6.heap.size) W6 V := f67.trans3 hF fun k _ e => e
            have hz5 := K5.out.below.size
            have hz56 := f6.size
            have hgV : LifeG w B a b (D :: Ds) (last) ((m : Int) + 1 + 1) V := by
              refine ⟨h6.grow (f6V.mono fun k _ e => by show W6.heap.size ≤ k; omega), List.nodup_cons.2 ⟨fun e => ?_, m1⟩, fun E hE => ?_, fun E hE => ?_, by omega⟩
              · have := blk_lt (m2 D e).2; omega
              · rcases List.mem_cons.1 hE with rfl | hE
                · exact ⟨by omega, hdef⟩
                · have e1 := m2 E hE
                  have e2 := blk_lt e1.2
                  exact ⟨e1.1, f6V.blk (f6.blk e1.2 (m3 E hE)) (by omega)⟩
              · rcases List.mem_cons.1 hE with rfl | hE
                · exact fun e => by have := m4 _ e; omega
                · exact m3 E hE
            have HG2 := Lib.hid hgV
            clear hgV f6V hz5 hz56 h6 f6 f67 z7 hRv k1 hSl hX2 hdef hD hxD hG9 hF hseq hYl heg hYS k7 m1 m2 m3 m4
            gi_wp2_with fail
            exact HK.out _ _ (Handed.intro (hs.length - (m + 1)) (by omega) (HJ.out _ _ _ ⟨m + 1, D :: Ds, last, _, _, _, _, _, _, _, _, _, _, _, _, _, _, _, _, _, _, _, _, _, _, _, _, _, _, _, _, _, _, _, _, _, _, _, _, _, _, _, rfl, by omega, by first | rfl | (congr 1), HG2⟩))
  · obtain rfl : m = hs.length := by omega
    obtain ⟨p1, p2, p3, p4, p5⟩ := HG.out
    have q0 : ¬ ((hs.length : Int) + 1 ≤ (hs.length : Int)) := by omega
    have H4 := Lib.hid (And.intro p1 (And.intro p2 p3))
    clear p1 p2 p3 p4 p5
    gi_wp2_with fail
    obtain ⟨p1, p2, p3⟩ := H4.out
    exact leavesF Ds _ p2 (fun D hD => (p3 D hD).2) fun w' hf => ⟨.bool true, by simp [results, Try.results7, go_sem], rfl, p1.below.trans (hf.below p1.below.size fun k _ e => (p3 k e).1)⟩
set_option maxHeartbeats 2000000 in
theorem pulseLives_walk (A : Option Addr) (hs : List zboT) (cc : Nat) (pi gi : Int) (hp : 0 ≤ pi ∧ pi ≤ 255) (hg : 0 ≤ gi ∧ gi ≤ 255) (w : World)
    (hA : 0 < hs.length → ∃ g o, A = some ⟨g, o, none⟩ ∧ g < w.heap.size ∧ ∀ i (h : i < hs.length) j u, (zboL hs[i])[j]? = some u → w.cell? ⟨g, o + i * 1 + j, none⟩ = some u) :
    Calls Try.prog 7 #[.int .u8 pi, .int .u8 gi, .slice A hs.length cc] w fun e w' => e = .returned (.bool true) ∧ RowKit.Below w.heap.size w w' := by
  by_cases hl : hs.length ≤ 30
  · refine pulseLives_main A hs cc pi gi hp hg w hl fun h0 => ?_
    obtain ⟨g, o, h1, h2, h3⟩ := hA h0
    refine ⟨g, o, h1, h2, fun i hi => ?_⟩
    have := h3 i hi 0 (.bool hs[i]) rfl
    rwa [Nat.mul_one] at this
  · have n6 : (30 : Int) < (hs.length : Int) := by omega
    clear hA
    refine (callsIn_wide (n := 30)).1 ?_
    refine callsIn_of_wp_marks Try.func7 rfl trivial ?_ rfl
    simp only [Try.ntmps7, List.size_toArray, List.length_cons, List.length_nil, Nat.reduceAdd, Nat.reduceSub, Array.replicate_succ, Array.replicate_zero, List.push_toArray, List.append_toArray, List.nil_append, List.cons_append]
    gi_wp2_with fail
    refine ⟨trivial, (calls_wide (.inl rfl) (awake16 w)).mono ?_⟩
    rintro e w1 ⟨rfl, b1⟩
    have B1 := Lib.hid b1
    clear b1
    gi_wp2_with fail
    exact leavesF [] _ List.nodup_nil (by simp) fun w' hf => ⟨.bool true, by simp [results, Try.results7, go_sem], rfl, B1.out.trans (hf.below B1.out.size fun k _ e => by simp at e)⟩
end Go.Proofs.Ytbgmjieagnmpkaa
