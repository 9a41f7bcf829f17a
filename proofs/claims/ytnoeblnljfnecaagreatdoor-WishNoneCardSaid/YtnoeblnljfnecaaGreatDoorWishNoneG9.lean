/- Texts of this proof, one behind the other. -/
import Derived.Test.YtnoeblnljfnecaaGreatDoorWishNoneG8
import Derived.Test.YtnoeblnljfnecaaGreatDoorWishNoneG7
import Derived.Sort.QuietThIn
import Derived.Sort.QuietTacIn
import Derived.StillTail
import Derived.TacticsIn
import Derived.Deep.RegionHeld3
import Derived.Deep.DrawnRows
import Derived.WalkKit
section
/- Layer 21: the lists: Remove; nil ones. -/
namespace Go.Proofs.YtnoeblnljfnecaaGreatDoor
set_option linter.unusedVariables false
set_option linter.unusedSimpArgs false
open Go Go.RowKit Go.Maps Go.Lib

theorem fk_not {U : List WEnt} {p : Int × List UInt8} (h : p ∉ U.map fkW) : (U.filter fun u => decide (fkW u ≠ p)) = U := by
  rw [List.filter_eq_self]
  intro u hu
  simp only [decide_eq_true_eq]
  exact fun e => h (e ▸ List.mem_map_of_mem hu)
/-- what Remove does -/
def RemWs (base l : Nat) (Y : Nat → Prop) (most : Int) (U : List WEnt) (a : Int) (n : List UInt8) (w : World) (e : Ending) (w' : World) : Prop :=
  e = .returned (.bool (decide ((a, foldL n) ∈ U.map fkW))) ∧ ∃ Y', (∀ j, Y' j → Y j ∨ w.heap.size ≤ j) ∧ Fr Y w w' ∧ WisAt base w' l Y' most (U.filter fun u => decide (fkW u ≠ (a, foldL n)))
set_option maxRecDepth 100000 in
set_option maxHeartbeats 4000000 in
theorem wisRem {base : Nat} {w : World} {l : Nat} {Y : Nat → Prop} {most : Int} {U : List WEnt} (h : WisAt base w l Y most U) (hbw : base ≤ w.heap.size) (hU : U.length ≤ 80000) {a : Int} (ha : OkKIS a) {n : List UInt8} (hn : n.length ≤ 1000) :
    Calls Tryz.prog 9 #[.pointer (some ⟨l, 0, none⟩), .int .i64 a, .string (bs n)] w (RemWs base l Y most U a n w) := by
  obtain ⟨t, b, X, T, h1, h2, h3, h4, h5, h6, h7, h8, h9, h10, h11⟩ := h
  have HT := Lib.hid (textW n w (by omega))
  have hlt := blk_lt h4
  have hbt := ownMW_lt h6
  have HH := Lib.hid (And.intro h1 (And.intro h2 (And.intro h3 (And.intro h4 (And.intro h5 (And.intro h6 (And.intro h7 (And.intro h8 (And.intro h9 (And.intro h10 h11))))))))))
  have HA := Lib.hid ha
  obtain ⟨R, hR⟩ : ∃ R, RemWs base l Y most U a n w = R := ⟨_, rfl⟩
  have HQ := Lib.hid hR
  rw [hR]
  clear h1 h2 h3 h4 h5 h6 h7 h8 h9 h10 h11 ha hR
  go_enter Tryz.func9, Tryz.ntmps9
  go_wp2_with fail
  refine HT.out.mono ?_
  rintro e w1 ⟨rfl, b1⟩
  obtain ⟨h1, h2, h3, h4, h5, h6, h7, h8, h9, h10, h11⟩ := HH.out
  have f1 : Fr (fun _ => False) w w1 := Fr.of_below b1
  have k1 := f1.blk h4 fun e => e
  have HR := Lib.hid (wisRel k1)
  have hr1 := h5.fr f1 fun _ _ e => e
  have hRm := relRemIS hr1 (Nat.le_trans hbw f1.size) (by simpa using (by omega : U.length ≤ 90000)) HA.out (okF hn)
  unfold RemRIS at hRm
  obtain ⟨d, hd⟩ : ∃ d, decide ((a, foldL n) ∈ U.map fkW) = d := ⟨_, rfl⟩
  rw [hd] at hRm
  have HRm := Lib.hid hRm
  have H1 := Lib.hid (And.intro f1 (And.intro k1 (And.intro (ownMW_same h6 (f1.block b hbt fun e => e)) hd)))
  clear h1 h2 h3 h4 h5 h6 h7 h8 h9 h10 h11 f1 k1 hr1 b1 hRm hd
  go_wp2_with fail
  refine HR.out.mono ?_
  rintro e w2 ⟨rfl, rfl⟩
  go_wp2_with fail
  refine HRm.out.mono ?_
  rintro e w3 ⟨rfl, X', x3, f3, r3⟩
  obtain ⟨h1, h2, h3, h4, h5, h6, h7, h8, h9, h10, h11⟩ := HH.out
  obtain ⟨f1, k1, m1, hd⟩ := H1.out
  have k3 := f3.blk k1 h8
  have m3 := ownMW_same m1 (f3.block b (ownMW_lt m1) h9)
  have hz1 := f1.size
  have nl : ¬ X' l := fun e => by rcases x3 l e with e | e; exact h8 e; omega
  have nb : ¬ X' b := fun e => by rcases x3 b e with e | e; exact h9 e; omega
  have hfX : Fr Y w w3 := (f1.mono (Y := Y) fun _ _ e => e.elim).trans3 f3 fun k _ e => (h11 k).2 (.inr (.inr e))
  have hY : ∀ j, (j = l ∨ j = b ∨ X' j) → Y j ∨ w.heap.size ≤ j := fun j hj => by
    rcases hj with rfl | rfl | hj
    · exact .inl ((h11 _).2 (.inl rfl))
    · exact .inl ((h11 _).2 (.inr (.inl rfl)))
    · rcases x3 j hj with e | e
      · exact .inl ((h11 _).2 (.inr (.inr e)))
      · exact .inr (by omega)
  have hok : OkW (U.filter fun u => decide (fkW u ≠ (a, foldL n))) := fun u hu => h10 u (List.mem_filter.1 hu).1
  rw [← fk_less] at r3
  cases d with
  | false =>
    have hnm : (a, foldL n) ∉ U.map fkW := of_decide_eq_false hd
    have HE : Hid (R (.returned (.bool false)) w3) := by
      rw [← HQ.out]
      refine ⟨by rw [hd], _, hY, hfX, ⟨t, b, X', T, h1, h2, h3, k3, r3, m3, ?_, nl, nb, hok, fun j => Iff.rfl⟩⟩
      rw [fk_not hnm]; exact h7
    clear x3 f3 r3 h1 h2 h3 h4 h5 h6 h7 h8 h9 h10 h11 f1 k1 m1 k3 m3 nl nb hfX hY hok hd hnm
    go_wp2_with fail
    exact HE.out
  | true =>
    have c1 := blk_cell k3 1
    have hkl : (Lit.int .i64 a).wf = true ∧ (foldL n).length ≤ maxLen := ⟨HA.out, okF hn⟩
    obtain ⟨w4, hp4, m4, f4⟩ := delW m3 ⟨(a, foldL n), hkl⟩ 0
    unfold kVW at hp4
    dsimp only at hp4
    have k4 := f4.blk k3 h3
    have r4 := r3.fr f4 fun j hj e => nb (e ▸ hj)
    have HE : Hid (R (.returned (.bool true)) w4) := by
      rw [← HQ.out]
      exact ⟨by rw [hd], _, hY, hfX.trans3 f4 fun k _ e => (h11 k).2 (.inr (.inl e)), ⟨t, b, X', _, h1, h2, h3, k4, r4, m4, h7.del ⟨(a, foldL n), hkl⟩, nl, nb, hok, fun j => Iff.rfl⟩⟩
    clear x3 f3 r3 h1 h2 h3 h4 h5 h6 h7 h8 h9 h10 h11 f1 k1 m1 k3 m3 nl nb hfX m4 f4 k4 r4 hkl hY hok hd
    go_wp2_with fail
    exact HE.out
theorem wisHasNil {n : List UInt8} (hn : n.length ≤ 1000) (a : Int) (w : World) : Calls Tryz.prog 18 #[.pointer none, .int .i64 a, .string (bs n)] w fun e w' => e = .returned (.bool false) ∧ Below w.heap.size w w' := by
  have HT := Lib.hid (textW n w (by omega))
  go_enter Tryz.func18, Tryz.ntmps18
  go_wp2_with fail
  refine (wisRelNil w).mono ?_
  rintro e w1 ⟨rfl, rfl⟩
  go_wp2_with fail
  refine HT.out.mono ?_
  rintro e w2 ⟨rfl, b2⟩
  have B2 := Lib.hid b2
  clear b2
  go_wp2_with fail
  refine (relHasNilIS a (foldL n) w2).mono ?_
  rintro e w3 ⟨rfl, rfl⟩
  go_wp2_with fail
  go_ret
  exact ⟨rfl, B2.out⟩
theorem wisCountNil (a : Int) (w : World) : Calls Tryz.prog 17 #[.pointer none, .int .i64 a] w fun e w' => e = .returned (.int .i64 0) ∧ w' = w := by
  go_enter Tryz.func17, Tryz.ntmps17
  go_wp2_with fail
  refine (wisRelNil w).mono ?_
  rintro e w1 ⟨rfl, rfl⟩
  go_wp2_with fail
  refine (relCountNilIS a w1).mono ?_
  rintro e w2 ⟨rfl, rfl⟩
  go_wp2_with fail
  go_ret
  exact ⟨rfl, rfl⟩
theorem wisByNil {n : List UInt8} (hn : n.length ≤ 1000) (w : World) : Calls Tryz.prog 36 #[.pointer none, .string (bs n)] w (AllP [] w) := by
  have HT := Lib.hid (textW n w (by omega))
  go_enter Tryz.func36, Tryz.ntmps36
  go_wp2_with fail
  refine (wisRelNil w).mono ?_
  rintro e w1 ⟨rfl, rfl⟩
  go_wp2_with fail
  refine HT.out.mono ?_
  rintro e w2 ⟨rfl, b2⟩
  have B2 := Lib.hid b2
  clear b2
  go_wp2_with fail
  refine (relByNilIS (foldL n) w2).mono ?_
  rintro e w3 ⟨⟨F, rfl, hT⟩, b3⟩
  have B3 := Lib.hid (And.intro hT b3)
  clear hT b3
  go_wp2_with fail
  go_ret
  obtain ⟨B, v, t0, t1, t2, t3, t4⟩ := B3.out.1
  have hz := B2.out.size
  exact ⟨⟨F, rfl, B, v, Nat.le_trans hz t0, t1, t2, t3, row_baseP t4 hz⟩, B2.out.trans (B3.out.2.mono hz)⟩
theorem wisAddNil {n : List UInt8} (hn : n.length ≤ 1000) (a : Int) (w : World) : Calls Tryz.prog 13 #[.pointer none, .int .i64 a, .string (bs n)] w fun e w' => e = .returned (.int .i64 1) ∧ Below w.heap.size w w' := by
  have HT := Lib.hid (textW n w (by omega))
  go_enter Tryz.func13, Tryz.ntmps13
  go_wp2_with fail
  refine HT.out.mono ?_
  rintro e w2 ⟨rfl, b2⟩
  have B2 := Lib.hid b2
  clear b2
  go_wp2_with fail
  refine (wisRelNil w2).mono ?_
  rintro e w1 ⟨rfl, rfl⟩
  go_wp2_with fail
  refine (relAddNilIS a (foldL n) w1).mono ?_
  rintro e w3 ⟨rfl, rfl⟩
  go_wp2_with fail
  go_ret
  exact ⟨rfl, B2.out⟩
theorem wisRemNil {n : List UInt8} (hn : n.length ≤ 1000) (a : Int) (w : World) : Calls Tryz.prog 9 #[.pointer none, .int .i64 a, .string (bs n)] w fun e w' => e = .returned (.bool false) ∧ Below w.heap.size w w' := by
  have HT := Lib.hid (textW n w (by omega))
  go_enter Tryz.func9, Tryz.ntmps9
  go_wp2_with fail
  refine HT.out.mono ?_
  rintro e w2 ⟨rfl, b2⟩
  have B2 := Lib.hid b2
  clear b2
  go_wp2_with fail
  refine (wisRelNil w2).mono ?_
  rintro e w1 ⟨rfl, rfl⟩
  go_wp2_with fail
  refine (relRemNilIS a (foldL n) w1).mono ?_
  rintro e w3 ⟨rfl, rfl⟩
  go_wp2_with fail
  go_ret
  exact ⟨rfl, B2.out⟩
end Go.Proofs.YtnoeblnljfnecaaGreatDoor
end
section
/- Layer 11: Drop of a nil relation. -/
namespace Go.Proofs.YtnoeblnljfnecaaGreatDoor
set_option linter.unusedVariables false
set_option linter.unusedSimpArgs false
open Go Go.RowKit Go.Maps Go.Lib
attribute [local go_sem] Oper.semAt_some

set_option maxRecDepth 100000 in
set_option maxHeartbeats 4000000 in
theorem relDropNil (a : Int) (w : World) : Calls Tryz.prog 33 #[.pointer none, .int .i64 a] w fun e w' => e = .returned (.int .i64 0) ∧ Below w.heap.size w w' := by
  obtain ⟨w1, hw1⟩ : ∃ w1, ((w.alloc (Obj.cells #[Value.pointer none] 60)).alloc (Obj.cells #[Value.int .i64 a] 3)).alloc (Obj.cells #[Value.int .i64 0] 3) = w1 := ⟨_, rfl⟩
  have f1 : Fr (fun _ => False) w w1 := by rw [← hw1]; exact (((Fr.refl _ w).alloc _).alloc _).alloc _
  have z1 : w1.heap.size = w.heap.size + 3 := by rw [← hw1]; simp
  have k0 : w1.heap[w.heap.size]? = some (.cells #[.pointer none] 60 (0, 0)) := by rw [← hw1]; exact blk_alloc (blk_alloc (heap_alloc_new w _) _) _
  have k1 : w1.heap[w.heap.size + 1]? = some (.cells #[.int .i64 a] 3 (0, 0)) := by rw [← hw1]; exact blk_alloc (heap_alloc2_new w _ _) _
  have k2 : w1.heap[w.heap.size + 2]? = some (.cells #[.int .i64 0] 3 (0, 0)) := by
    rw [← hw1]
    have := heap_alloc2_new (w.alloc (Obj.cells #[Value.pointer none] 60)) (Obj.cells #[Value.int .i64 a] 3) (Obj.cells #[Value.int .i64 0] 3)
    rwa [World.size_alloc] at this
  have HOf := Lib.hid (relOfNilIS a w1)
  have c0 := blk_cell k0 0
  have c1 := blk_cell k1 0
  have HW := Lib.hid hw1
  have H := Lib.hid (And.intro f1 (And.intro z1 k2))
  clear hw1 f1 z1 k0 k1 k2
  refine (callsIn_wide (n := 30)).1 ?_
  refine callsIn_of_wp_marks Tryz.func33 rfl trivial ?_ rfl
  simp only [Tryz.ntmps33, List.size_toArray, List.length_cons, List.length_nil, Nat.reduceAdd, Nat.reduceSub, Array.replicate_succ, Array.replicate_zero, List.push_toArray, List.append_toArray, List.nil_append, List.cons_append]
  gi_wp2_with fail
  rw [HW.out]
  refine ⟨trivial, (calls_wide (.inl rfl) HOf.out).mono ?_⟩
  rintro e w2 ⟨⟨F, rfl, hT⟩, hb2⟩
  obtain ⟨f1, z1, k2⟩ := H.out
  have f2 : Fr (fun _ => False) w1 w2 := Fr.of_below hb2
  obtain ⟨Y, hYb, gf, lb, rfl, hseq, hYl, heg⟩ := tellsT_tale (show TaleT w1.heap.size w2 F [] from hT) (by decide)
  have q2 := f2.blk k2 fun e => e
  have z2 := f2.size
  have K := Lib.hid (And.intro f2 (And.intro hYb (And.intro hseq (And.intro hYl (And.intro heg (And.intro q2 z2))))))
  clear f1 z1 k2 f2 hb2 hT hYb hseq hYl heg q2 z2 c0 c1
  gi_wp2_with fail
  obtain ⟨f1, z1, k2⟩ := H.out
  obtain ⟨f2, hYb, hseq, hYl, heg, q2, z2⟩ := K.out
  refine wpIn_rangeF (X := fun _ => False) (Y := Y) (xs := []) (encs := encL) (gf := gf) (lb := lb) (fun pre X1 W => pre = []) (fun _ _ _ _ => False)
    rfl hseq (fun k hk => hk.elim) hYl (by omega) heg (fun _ => rfl)
    (fun s X1 V1 V2 h _ _ => h) (fun c s X1 V1 V2 h => h.elim) rfl ?round ?done (fun _ _ _ _ _ _ _ _ _ _ _ h => h.elim)
  case round =>
    rintro l pre x r X1 V KK rb hl2 hpx hI hG2 hxl hF hlV hK
    simp at hpx
  case done =>
    rintro D X2 V hD hxD hG2 hF _ hdef
    have cc2 := blk_cell (hF.blk q2 fun e => e) 0
    have HQ := Lib.hid (And.intro hD (And.intro hF hdef))
    clear hD hF hdef hxD hG2 f1 z1 k2 f2 hYb hseq hYl heg q2 z2
    gi_wp2_with fail
    obtain ⟨hD, hF, hdef⟩ := HQ.out
    obtain ⟨f1, z1, k2⟩ := H.out
    obtain ⟨f2, hYb, hseq, hYl, heg, q2, z2⟩ := K.out
    refine leaves_one D _ hdef fun w' hf => ⟨_, results_tmp rfl _ _ _, rfl, ?_⟩
    have h3 := ((f1.trans f2).trans hF).below (Nat.le_refl _) fun _ _ e => e.elim
    exact h3.trans (hf.below h3.size fun k _ e => by omega)
end Go.Proofs.YtnoeblnljfnecaaGreatDoor
end
section
/- A region that draws its order, anywhere, a loop's round over a function too: what only reads, in whatever order; then what must come last, in its order. -/
namespace Go.Proofs.YtnoeblnljfnecaaGreatDoor
open Go

section
variable {F : Fence} {n : Nat} {P : Program} {ops : Array Oper} {md : Region.Mode} {C : World → Prop}

/-- no operation puts a call off -/
def noDefer (ops : Array Oper) : Bool := ops.all fun o => match o.op with | .defer _ => false | _ => true
theorem noDefer_spec (h : noDefer ops = true) {i : Nat} {o : Oper} (ho : ops[i]? = some o) : ∀ c, o.op ≠ .defer c := by
  intro c hc
  have := Array.all_eq_true.1 h i (Array.getElem?_eq_some_iff.1 ho).1
  rw [(Array.getElem?_eq_some_iff.1 ho).2, hc] at this
  cases this

theorem quiet_wpIn {o : Oper} {a : Act} {K : Act → Prop} {K' : Act → World → Prop} {Q' : Exit → Act → World → Prop} {w : World} (hd : ∀ c, o.op ≠ .defer c) (hw : C w) (h : ∀ a w', C w' → K a → K' a w')
    (ha : o.askedIn F P a C) (hh : o.quietIn F n P a C K) : o.wpIn F n P a w K' Q' := by
  obtain ⟨v, h1, h2⟩ := hh
  have h3 := h1 w hw
  unfold Oper.quietAtIn at h3
  refine ⟨ha w hw, ?_⟩
  rw [Oper.semAt_eq _ _ _ hd]
  generalize (execOp a.eval o).run P w = r at h3 ⊢
  match r, h3 with
  | .ok (.value u) w', h3 =>
    obtain ⟨rfl, rfl⟩ := h3
    exact h _ _ hw h2
  | .ok .skip w', h3 =>
    obtain ⟨rfl, rfl⟩ := h3
    exact h _ _ hw h2
  | .ok (.enter f args) w', h3 =>
    obtain ⟨rfl, hdep, hc⟩ := h3
    exact ⟨hdep, hc.mono fun e w'' hx => by obtain ⟨rfl, hw''⟩ := hx; exact h _ _ hw'' h2⟩

theorem quiet_wpOpIn {i : Nat} {a : Act} {K : Act → Prop} {K' : Act → World → Prop} {Q' : Exit → Act → World → Prop} {w : World} (hnd : noDefer ops = true) (hC : C w) (h : ∀ a w', C w' → K a → K' a w')
    (hh : qOpIn F n P ops C i K a) : wpOpIn F n P ops Q' i K' a w := by
  unfold qOpIn at hh
  unfold wpOpIn
  cases ho : ops[i]? with
  | none => simp only [ho] at hh ⊢; exact h _ _ hC hh
  | some o =>
    simp only [ho] at hh ⊢
    obtain ⟨ha, hh⟩ := hh
    by_cases hw : Region.wanted o (yielded ops a.tmps) = true
    · simp only [hw, if_true] at hh ⊢
      exact quiet_wpIn (noDefer_spec hnd ho) hC h ha hh
    · simp only [hw] at hh ⊢
      exact ⟨ha w hC, h _ _ hC hh⟩

/-- the head of a region: so many operations, whatever comes up, each below m -/
def headQ (F : Fence) (n : Nat) (P : Program) (md : Region.Mode) (ops : Array Oper) (C : World → Prop) (m : Nat) (L : Array Bool → Act → Prop) : Nat → Array Bool → Act → Prop
  | 0, listed, a => L listed a
  | f + 1, listed, a =>
    Region.ready md ops listed ≠ [] ∧ ∀ i ∈ Region.ready md ops listed, i < m ∧ qOpIn F n P ops C i (headQ F n P md ops C m L f (listed.setIfInBounds i true)) a

theorem wpAnyIn_of_headQ {m g : Nat} {L : Array Bool → Act → Prop} {Q' : Exit → Act → World → Prop} (hnd : noDefer ops = true) (hL : ∀ listed a w, C w → L listed a → wpAnyIn F n P md ops Q' g listed a w) :
    ∀ (f : Nat) (listed : Array Bool) (a : Act) (w : World), C w → headQ F n P md ops C m L f listed a → wpAnyIn F n P md ops Q' (f + g) listed a w
  | 0, listed, a, w, hw, h => by rw [Nat.zero_add]; exact hL _ _ _ hw h
  | f + 1, listed, a, w, hw, h => by
    rw [show f + 1 + g = (f + g) + 1 by omega]
    exact ⟨fun h0 => absurd h0 h.1, fun i hi => quiet_wpOpIn hnd hw (fun a' w' hw' h' => wpAnyIn_of_headQ hnd hL f _ a' w' hw' h') (h.2 i hi).2⟩

theorem headQ_first {m i : Nat} {oi : Oper} {v : Value} {L : Array Bool → Act → Prop} (hi : ops[i]? = some oi) (hsel : ∀ (j : Nat) (o : Oper) cs b, ops[j]? = some o → o.op ≠ .select cs b)
    (hs : Region.sinkB md ops m = true) (hc : Region.chainB md ops m = true) (hn : m < ops.size) (hin : i < m)
    (hdone : ∀ listed a, L listed a → ∀ j ∈ Region.ready md ops listed, m ≤ j) :
    ∀ (f : Nat) (listed : Array Bool) (a : Act), HeadInv md ops m listed →
      (∀ j oj, ops[j]? = some oj → j ≠ i → listed.getD j true = false → (∀ e ∈ oj.after, Region.binds md e = true → e.on ≠ i) → oi.apart ops oj = true) →
      i ∈ Region.ready md ops listed → YieldsQuiet F n P ops C oi v a →
      headQ F n P md ops C m L f (listed.setIfInBounds i true) (a.put oi.dst v) → headQ F n P md ops C m L (f + 1) listed a := by
  intro f
  induction f with
  | zero =>
    intro listed a inv _ hr hy H
    have hun := (mem_ready.1 hr).1
    refine ⟨fun h => (by rw [h] at hr; cases hr), fun j hj => ?_⟩
    have hjn : j < m := Nat.lt_of_not_le fun h => tail_waits hs hc hn inv _ i rfl hin hun j h hj
    refine ⟨hjn, ?_⟩
    by_cases hji : j = i
    · subst hji; exact hy.qOpIn hi H
    · exact absurd (hdone _ _ H j (ready_mono hj hji)) (by omega)
  | succ f ih =>
    intro listed a inv hfree hr hy H
    have hun := (mem_ready.1 hr).1
    refine ⟨fun h => (by rw [h] at hr; cases hr), fun j hj => ?_⟩
    have hjn : j < m := Nat.lt_of_not_le fun h => tail_waits hs hc hn inv _ i rfl hin hun j h hj
    refine ⟨hjn, ?_⟩
    by_cases hji : j = i
    · subst hji; exact hy.qOpIn hi H
    · have h1 := (H.2 j (ready_mono hj hji)).2
      obtain ⟨hjun, oj, hoj, hall⟩ := mem_ready.1 hj
      have hnot : ∀ e ∈ oj.after, Region.binds md e = true → e.on ≠ i := fun e he hb heq => by
        have h1 := hall e he hb
        rw [heq, getD_both hun] at h1
        cases h1
      have h2 := qOpIn_put hoj (hfree j oj hoj hji hjun hnot) (fun cs b => hsel i oi cs b hi) (fun cs b => hsel j oj cs b hoj) hy h1
      have hfree' : ∀ k ok, ops[k]? = some ok → k ≠ i → (listed.setIfInBounds j true).getD k true = false →
          (∀ e ∈ ok.after, Region.binds md e = true → e.on ≠ i) → oi.apart ops ok = true := fun k ok hk hki hun hno => by
        refine hfree k ok hk hki ?_ hno
        by_cases hjk : j = k
        · subst hjk; exact hjun
        · rw [getD_set_ne true hjk] at hun; exact hun
      refine qOpIn_mono (fun a' h3 => ih (listed.setIfInBounds j true) a' (inv.set hj hjn) hfree' (ready_mono hr (Ne.symm hji)) h3.1 ?_) h2
      rw [Array.setIfInBounds_comm _ _ hji]
      exact h3.2

theorem wpAnyIn_of_seq {Q' : Exit → Act → World → Prop} : ∀ (l : List Oper) (k : Nat) (listed : Array Bool) (a : Act) (w : World), (∀ j, l[j]? = ops[k + j]?) →
    Region.seqB md ops l.length k listed = true → wpListIn F n P ops Q' l a w → wpAnyIn F n P md ops Q' l.length listed a w
  | [], _, _, _, _, _, hB, h => ⟨by simpa [Region.seqB] using hB, h⟩
  | o :: l, k, listed, a, w, hl, hB, h => by
    have h0 : ops[k]? = some o := by simpa using (hl 0).symm
    simp only [List.length_cons, Region.seqB, Bool.and_eq_true, decide_eq_true_eq] at hB
    refine ⟨fun h1 => (by rw [hB.1] at h1; cases h1), fun i hi => ?_⟩
    rw [hB.1] at hi
    have hik : i = k := by simpa using hi
    subst hik
    have hw : wpOpIn F n P ops Q' i (wpListIn F n P ops Q' l) a w := by unfold wpOpIn; simp only [h0]; exact h
    exact wpOpIn_mono (fun a' w' h' => wpAnyIn_of_seq l (i + 1) _ a' w' (fun j => by have := hl (j + 1); simpa [Nat.add_assoc, Nat.add_comm 1 j] using this) hB.2 h') hw

theorem headQ_lex {m g : Nat} {Lq : Act → Prop} (hsel : Region.noSelect ops = true) (hs : Region.sinkB md ops m = true) (hc : Region.chainB md ops m = true) (hn : m < ops.size) :
    ∀ (l : List Oper) (k : Nat) (listed : Array Bool) (a : Act), (∀ j, j < l.length → l[j]? = ops[k + j]?) → k + l.length = m → HeadInv md ops m listed →
    Region.lexHead md ops g l.length k listed = true → wpQuietIn F n P ops C Lq l a →
    headQ F n P md ops C m (fun listed' a' => Region.seqB md ops g m listed' = true ∧ Lq a') l.length listed a
  | [], k, listed, a, _, hk, _, hB, h => by
    have : k = m := by simpa using hk
    subst this
    exact ⟨by simpa [Region.lexHead] using hB, h⟩
  | o :: l, k, listed, a, hl, hk, inv, hB, h => by
    have h0 : ops[k]? = some o := by simpa using (hl 0 (by simp)).symm
    simp only [List.length_cons, Region.lexHead, Bool.and_eq_true] at hB
    obtain ⟨⟨hr, hf⟩, hB'⟩ := hB
    have hkn : k < m := by simp only [List.length_cons] at hk; omega
    have hr' : k ∈ Region.ready md ops listed := by simpa using hr
    have hst : qOpIn F n P ops C k (wpQuietIn F n P ops C Lq l) a := by unfold qOpIn; simp only [h0]; exact h
    obtain ⟨v, hy, hK⟩ := yieldsQuiet_of_qOpIn h0 hst
    exact headQ_first h0 (Region.noSelect_spec hsel) hs hc hn hkn (fun listed' a' hL => seqB_ready hL.1) l.length listed a inv (Region.free_spec h0 hf) hr' hy
      (headQ_lex hsel hs hc hn l (k + 1) _ _ (fun j hj => by have := hl (j + 1) (by simp; omega); simpa [Nat.add_assoc, Nat.add_comm 1 j] using this) (by simp only [List.length_cons] at hk; omega) (inv.set hr' hkn) hB' hK)

/-- what only reads ahead, in whatever order; what must come last behind it, in its order -/
theorem wpIn_quiet_tail {id : Nat} {Q : Exit → Act → World → Prop} {a : Act} {w : World} {l : List Oper} (m : Nat) (hm : P.follows .mixedOrders = true) (hnd : noDefer l.toArray = true) (hB : Region.lexTailB .any l.toArray m = true)
    (h : wpQuietIn F n P l.toArray (fun w' => ∃ k, w' = w.drewN k) (fun a' => ∀ w', (∃ k, w' = w.drewN k) → wpListIn F n P l.toArray Q (l.drop m) a' w') (l.take m) a) : (Code.region id l.toArray true).wpIn F n P Q a w := by
  simp only [Region.lexTailB, Bool.and_eq_true, decide_eq_true_eq] at hB
  obtain ⟨⟨⟨⟨hsel, hn⟩, hs⟩, hc⟩, hlex⟩ := hB
  have hn' : m < l.length := by simpa using hn
  have htl : (l.take m).length = m := by simp; omega
  have hdl : (l.drop m).length = l.toArray.size - m := by simp
  have inv0 : HeadInv .any l.toArray m (Array.replicate l.toArray.size false) :=
    ⟨by simp, fun j oj _ hl => (by rw [getD_replicate_false] at hl; cases hl), fun t _ ht => getD_in (by simpa using ht) (getD_replicate_false _ _)⟩
  have H := headQ_lex (F := F) (n := n) (P := P) (md := .any) (g := l.toArray.size - m) hsel hs hc hn (l.take m) 0 _ a (fun j hj => by
    have hj' : j < m := by rw [htl] at hj; exact hj
    simp [hj']) (by simpa using htl) inv0 (by rw [htl]; exact hlex) h
  refine wpIn_region_any hm ?_
  have := wpAnyIn_of_headQ (Q' := Q) (g := l.toArray.size - m) hnd (fun listed a' w' hw' hL => by
    have := wpAnyIn_of_seq (F := F) (n := n) (P := P) (md := .any) (Q' := Q) (l.drop m) m listed a' w' (fun j => by simp [List.getElem?_drop]) (by rw [hdl]; exact hL.1) (hL.2 w' hw')
    rwa [hdl] at this) _ _ _ _ ⟨1, rfl⟩ H
  rw [htl, show m + (l.toArray.size - m) = l.toArray.size by omega] at this
  exact this

theorem wpAnyIn_of_allQ {Q : Act → Prop} {Q' : Exit → Act → World → Prop} (hnd : noDefer ops = true) (hQ : ∀ a w, C w → Q a → Q' .normal a w) : ∀ (fuel : Nat) (listed : Array Bool) (a : Act) (w : World), C w →
    wpAnyQIn F n P md ops C Q fuel listed a → wpAnyIn F n P md ops Q' fuel listed a w
  | 0, _, _, _, hw, h => ⟨h.1, hQ _ _ hw h.2⟩
  | fuel + 1, _, _, _, hw, h => ⟨fun h0 => hQ _ _ hw (h.1 h0), fun i hi => quiet_wpOpIn hnd hw (fun a' w' hw' => wpAnyIn_of_allQ hnd hQ fuel _ a' w' hw') (h.2 i hi)⟩

/-- all of it only reads -/
theorem wpIn_quiet_all {id : Nat} {Q : Exit → Act → World → Prop} {a : Act} {w : World} {l : List Oper} (hm : P.follows .mixedOrders = true) (hnd : noDefer l.toArray = true) (hB : Region.lexB .any l.toArray = true)
    (h : wpQuietIn F n P l.toArray (fun w' => ∃ k, w' = w.drewN k) (fun a' => ∀ w', (∃ k, w' = w.drewN k) → Q .normal a' w') l a) : (Code.region id l.toArray true).wpIn F n P Q a w := by
  simp only [Region.lexB, Bool.and_eq_true] at hB
  refine wpIn_region_any hm (wpAnyIn_of_allQ (Q := fun a' => ∀ w', (∃ k, w' = w.drewN k) → Q .normal a' w') hnd (fun _ w' hw' h => h w' hw') _ _ _ _ ⟨1, rfl⟩ ?_)
  have := wpAnyQIn_lex (F := F) (n := n) (P := P) (C := fun w' => ∃ k, w' = w.drewN k) (md := .any) hB.1 l.toArray.toList 0 (Array.replicate l.toArray.size false) a (by simp) (by simpa using hB.2) (by simpa using h)
  simpa using this

/-- one operation of the walk, where the fence lets every function by -/
theorem quiet_step_w (hF : ∀ f, F.fn f) {Q : Act → Prop} {a : Act} {o : Oper} {rest : List Oper}
    (h : ∀ K : Act → Prop, (∀ a, wpQuietIn F n P ops C Q rest a → K a) → if Region.wanted o (yielded ops a.tmps) then o.quietIn F n P a C K else K (a.put o.dst undef)) : wpQuietIn F n P ops C Q (o :: rest) a :=
  wpQuietIn_step (fun _ _ f _ => hF f) h
end
end Go.Proofs.YtnoeblnljfnecaaGreatDoor
end
section
/- A region that draws its order, anywhere: what reads, and calls that leave a class of worlds, in whatever order. -/
namespace Go.Proofs.YtnoeblnljfnecaaGreatDoor
open Go

section
variable {F : Fence} {n : Nat} {P : Program}
/-- all of it only reads, or calls what stays in the class -/
theorem wpIn_class_all {C : World → Prop} {id : Nat} {Q : Exit → Act → World → Prop} {a : Act} {w : World} {l : List Oper} (hm : P.follows .mixedOrders = true) (hnd : noDefer l.toArray = true) (hB : Region.lexB .any l.toArray = true) (hC : C w.drew)
    (h : wpQuietIn F n P l.toArray C (fun a' => ∀ w', C w' → Q .normal a' w') l a) : (Code.region id l.toArray true).wpIn F n P Q a w := by
  simp only [Region.lexB, Bool.and_eq_true] at hB
  refine wpIn_region_any hm (wpAnyIn_of_allQ (C := C) (Q := fun a' => ∀ w', C w' → Q .normal a' w') hnd (fun _ w' hw' h => h w' hw') _ _ _ _ hC ?_)
  have := wpAnyQIn_lex (F := F) (n := n) (P := P) (C := C) (md := .any) hB.1 l.toArray.toList 0 (Array.replicate l.toArray.size false) a (by simp) (by simpa using hB.2) (by simpa using h)
  simpa using this
/-- what reads ahead, or calls what stays in the class; what must come last behind it, in its order -/
theorem wpIn_class_tail {C : World → Prop} {id : Nat} {Q : Exit → Act → World → Prop} {a : Act} {w : World} {l : List Oper} (m : Nat) (hm : P.follows .mixedOrders = true) (hnd : noDefer l.toArray = true) (hB : Region.lexTailB .any l.toArray m = true) (hC : C w.drew)
    (h : wpQuietIn F n P l.toArray C (fun a' => ∀ w', C w' → wpListIn F n P l.toArray Q (l.drop m) a' w') (l.take m) a) : (Code.region id l.toArray true).wpIn F n P Q a w := by
  simp only [Region.lexTailB, Bool.and_eq_true, decide_eq_true_eq] at hB
  obtain ⟨⟨⟨⟨hsel, hn⟩, hs⟩, hc⟩, hlex⟩ := hB
  have htl : (l.take m).length = m := by simp at hn ⊢; omega
  have hdl : (l.drop m).length = l.toArray.size - m := by simp
  have inv0 : HeadInv .any l.toArray m (Array.replicate l.toArray.size false) :=
    ⟨by simp, fun j oj _ hl => (by rw [getD_replicate_false] at hl; cases hl), fun t _ ht => getD_in (by simpa using ht) (getD_replicate_false _ _)⟩
  have H := headQ_lex (F := F) (n := n) (P := P) (md := .any) (g := l.toArray.size - m) hsel hs hc hn (l.take m) 0 _ a (fun j hj => by
    have hj' : j < m := by rw [htl] at hj; exact hj
    simp [hj']) (by simpa using htl) inv0 (by rw [htl]; exact hlex) h
  refine wpIn_region_any hm ?_
  have := wpAnyIn_of_headQ (Q' := Q) (g := l.toArray.size - m) hnd (fun listed a' w' hw' hL => by
    have := wpAnyIn_of_seq (F := F) (n := n) (P := P) (md := .any) (Q' := Q) (l.drop m) m listed a' w' (fun j => by simp [List.getElem?_drop]) (by rw [hdl]; exact hL.1) (hL.2 w' hw')
    rwa [hdl] at this) _ _ _ _ hC H
  rw [htl, show m + (l.toArray.size - m) = l.toArray.size by simp at hn ⊢; omega] at this
  exact this
/-- one operation: one value, in every world of the class -/
theorem class_step (hF : ∀ f, F.fn f) {ops : Array Oper} {C : World → Prop} {Q : Act → Prop} {a : Act} {o : Oper} {rest : List Oper} (v : Value) (hw : Region.wanted o (yielded ops a.tmps) = true)
    (h1 : ∀ w, C w → o.quietAtIn F n P a C w v) (h2 : ∀ K : Act → Prop, (∀ a, wpQuietIn F n P ops C Q rest a → K a) → K (a.put o.dst v)) : wpQuietIn F n P ops C Q (o :: rest) a :=
  quiet_step_w hF fun K hK => by
    rw [if_pos hw]
    exact ⟨v, h1, h2 K hK⟩
end
end Go.Proofs.YtnoeblnljfnecaaGreatDoor
end
section
/- Layer 21: the lists: Clear. -/
namespace Go.Proofs.YtnoeblnljfnecaaGreatDoor
set_option linter.unusedVariables false
set_option linter.unusedSimpArgs false
open Go Go.RowKit Go.Maps Go.Lib
attribute [local go_sem] Oper.semAt_some

/-- what is spelled without these of a number's -/
def delsW (T : List (PlK × List UInt8)) (a : Int) (ha : (Lit.int .i64 a).wf = true) (pre : List (List UInt8)) : List (PlK × List UInt8) := pre.foldl (fun T f => if h : f.length ≤ maxLen then delM T ⟨(a, f), ha, h⟩ else T) T
theorem delsW_snoc (T : List (PlK × List UInt8)) (a : Int) (ha : (Lit.int .i64 a).wf = true) (pre : List (List UInt8)) {f : List UInt8} (h : f.length ≤ maxLen) : delsW T a ha (pre ++ [f]) = delM (delsW T a ha pre) ⟨(a, f), ha, h⟩ := by
  unfold delsW
  rw [List.foldl_append, List.foldl_cons, List.foldl_nil, dif_pos h]
theorem delsW_spell (a : Int) (ha : (Lit.int .i64 a).wf = true) : ∀ (pre : List (List UInt8)) (U : List WEnt) (T : List (PlK × List UInt8)), SpellW U T → (∀ f ∈ pre, f.length ≤ maxLen) → SpellW (U.filter fun u => decide (∀ f ∈ pre, fkW u ≠ (a, f))) (delsW T a ha pre)
  | [], U, T, h, _ => by
    rw [List.filter_eq_self.2 (fun u _ => by simp)]
    exact h
  | f :: r, U, T, h, hf => by
    have h1 := h.del ⟨(a, f), ha, hf f (List.mem_cons_self ..)⟩
    have h2 := delsW_spell a ha r _ _ h1 fun g hg => hf g (List.mem_cons_of_mem _ hg)
    have e : delsW T a ha (f :: r) = delsW (delM T ⟨(a, f), ha, hf f (List.mem_cons_self ..)⟩) a ha r := by
      unfold delsW
      rw [List.foldl_cons, dif_pos (hf f (List.mem_cons_self ..))]
    rw [e]
    rw [List.filter_filter] at h2
    refine cast ?_ h2
    congr 1
    refine List.filter_congr fun u _ => ?_
    rw [Bool.eq_iff_iff]
    simp only [Bool.and_eq_true, decide_eq_true_eq, List.mem_cons, forall_eq_or_imp]
    exact And.comm
theorem dels_all {U : List WEnt} {a : Int} {D : List (List UInt8)} (h : ∀ f, f ∈ D ↔ (a, f) ∈ U.map fkW) : (U.filter fun u => decide (∀ f ∈ D, fkW u ≠ (a, f))) = U.filter fun u => decide (u.1 ≠ a) := by
  refine List.filter_congr fun u hu => ?_
  rw [decide_eq_decide]
  constructor
  · intro h1 e
    exact h1 (foldL u.2) ((h _).2 (List.mem_map.2 ⟨u, hu, by unfold fkW; rw [e]⟩)) (by unfold fkW; rw [e])
  · intro h1 f _ e
    exact h1 (Prod.mk.inj e).1
/-- what Clear does -/
def ClrWs (base l : Nat) (Y : Nat → Prop) (most : Int) (U : List WEnt) (a : Int) (w : World) (e : Ending) (w' : World) : Prop :=
  ∃ Y' : Nat → Prop, ∃ D : List (List UInt8), D.Pairwise (· < ·) ∧ (∀ f, f ∈ D ↔ (a, f) ∈ U.map fkW) ∧ e = .returned (.int .i64 (D.length : Nat)) ∧ (∀ j, Y' j → Y j ∨ w.heap.size ≤ j) ∧ Fr Y w w' ∧ WisAt base w' l Y' most (U.filter fun u => decide (u.1 ≠ a))
/-- how far Clear has come -/
def ClrJ (b : Nat) (T : List (PlK × List UInt8)) (a : Int) (ha : (Lit.int .i64 a).wf = true) (pre : List (List UInt8)) (X : Nat → Prop) (W : World) : Prop := OwnMW W b (delsW T a ha pre) ∧ ∀ k, X k ↔ k = b
theorem clrJ_stays (b : Nat) (T : List (PlK × List UInt8)) (a : Int) (ha : (Lit.int .i64 a).wf = true) : Stays (ClrJ b T a ha) := fun pre X V V' ⟨h1, h2⟩ hl hf => ⟨ownMW_same h1 (hf.block b (ownMW_lt h1) fun e => e ((h2 b).2 rfl)), h2⟩
set_option maxRecDepth 100000 in
set_option maxHeartbeats 16000000 in
theorem wisClear {base : Nat} {w : World} {l : Nat} {Y : Nat → Prop} {most : Int} {U : List WEnt} (h : WisAt base w l Y most U) (hbw : base ≤ w.heap.size) (hU : U.length ≤ 80000) {a : Int} (ha : OkKIS a) :
    Calls Tryz.prog 11 #[.pointer (some ⟨l, 0, none⟩), .int .i64 a] w (ClrWs base l Y most U a w) := by
  obtain ⟨t, b, X, T, h1, h2, h3, h4, h5, h6, h7, h8, h9, h10, h11⟩ := h
  have ha2 : (Lit.int .i64 a).wf = true := ha
  obtain ⟨w1, hw1⟩ : ∃ w1, (w.alloc (Obj.cells #[Value.pointer (some ⟨l, 0, none⟩)] 25)).alloc (Obj.cells #[Value.int .i64 a] 3) = w1 := ⟨_, rfl⟩
  have f1 : Fr (fun _ => False) w w1 := by rw [← hw1]; exact ((Fr.refl _ w).alloc _).alloc _
  have z1 : w1.heap.size = w.heap.size + 2 := by rw [← hw1]; simp
  obtain ⟨B, hB⟩ : ∃ B, w.heap.size = B := ⟨_, rfl⟩
  rw [hB] at z1
  have k0 : w1.heap[B]? = some (.cells #[.pointer (some ⟨l, 0, none⟩)] 25 (0, 0)) := by rw [← hw1, ← hB]; exact blk_alloc (heap_alloc_new w _) _
  have k1 : w1.heap[B + 1]? = some (.cells #[.int .i64 a] 3 (0, 0)) := by rw [← hw1, ← hB]; exact heap_alloc2_new w _ _
  have hlB : l < B := by rw [← hB]; exact blk_lt h4
  have hbB : b < B := by rw [← hB]; exact ownMW_lt h6
  have hXl : ∀ j, X j → j < B := fun j hj => by rw [← hB]; exact (h5.lt hj).2
  have r1 := h5.fr f1 fun _ _ e => e
  have kl := f1.blk h4 fun e => e
  have m1 := ownMW_same h6 (f1.block b (ownMW_lt h6) fun e => e)
  obtain ⟨D, d1, d2, d3, d4⟩ := ofAtIS r1 (by simpa using (by omega : U.length ≤ 100000)) ha
  have hDl : D.length ≤ 80000 := by rw [List.length_map] at d3; omega
  have hDk : ∀ f ∈ D, f.length ≤ maxLen ∧ f.length ≤ 1000 := fun f hf => by
    obtain ⟨u, hu, e⟩ := List.mem_map.1 ((d2 f).1 hf)
    have := (h10 u hu).2
    have e2 := (Prod.mk.inj e).2
    rw [← e2, foldL_length]
    unfold maxLen
    omega
  have HBX : Hid (∀ V, Fr (fun _ => False) w1 V → V.cell? ⟨B, 0, none⟩ = some (.pointer (some ⟨l, 0, none⟩)) ∧ V.cell? ⟨B + 1, 0, none⟩ = some (.int .i64 a) ∧ V.heap[l]? = some (.cells #[.pointer (some ⟨t, 0, none⟩), .map (some b)] 62 (0, 0))) := fun V hV => ⟨blk_cell (hV.blk k0 fun e => e) 0, blk_cell (hV.blk k1 fun e => e) 0, hV.blk kl fun e => e⟩
  have HOf := Lib.hid d4
  have HW := Lib.hid hw1
  have HBB := Lib.hid hB
  have H := Lib.hid (And.intro h1 (And.intro h2 (And.intro h3 (And.intro h7 (And.intro h8 (And.intro h9 (And.intro h10 (And.intro h11 (And.intro f1 (And.intro z1 (And.intro k0 (And.intro k1 (And.intro kl (And.intro r1 (And.intro m1 (And.intro d1 (And.intro d2 (And.intro hDk (And.intro hlB (And.intro hbB hXl))))))))))))))))))))
  clear h1 h2 h3 h4 h5 h6 h7 h8 h9 h10 h11 f1 z1 k0 k1 kl r1 m1 d1 d2 d3 d4 hDk hw1 hB hlB hbB hXl
  refine (callsIn_wide (n := 30)).1 ?_
  refine callsIn_of_wp_marks Tryz.func11 rfl trivial ?_ rfl
  simp only [Tryz.ntmps11, List.size_toArray, List.length_cons, List.length_nil, Nat.reduceAdd, Nat.reduceSub, Array.replicate_succ, Array.replicate_zero, List.push_toArray, List.append_toArray, List.nil_append, List.cons_append]
  gi_wp2_with fail
  rw [HW.out, HBB.out]
  refine wpIn_class_tail (C := fun W => Fr (fun _ => False) w1 W) 3 (by kernel_rfl) (by kernel_rfl) (by kernel_rfl) ((Fr.refl (fun _ => False) w1).drew) ?_
  simp only [List.take_succ_cons, List.take_zero, List.drop_succ_cons, List.drop_zero]
  refine quiet_step_w (fun _ => trivial) (fun K hK => ?_)
  go_simp
  refine ⟨.pointer (some ⟨l, 0, none⟩), fun W hW => ?_, hK _ ?_⟩
  · obtain ⟨s0, s1, s2⟩ := HBX.out W hW; go_simp
  clear hK K
  refine quiet_step_w (fun _ => trivial) (fun K hK => ?_)
  go_simp
  refine ⟨.pointer (some ⟨t, 0, none⟩), fun W hW => ?_, hK _ ?_⟩
  · refine (calls_wide (.inl rfl) (wisRel (HBX.out W hW).2.2)).mono ?_
    rintro e W2 ⟨rfl, rfl⟩; exact ⟨rfl, hW⟩
  clear hK K
  refine quiet_step_w (fun _ => trivial) (fun K hK => ?_)
  go_simp
  refine ⟨.int .i64 a, fun W hW => ?_, hK _ ?_⟩
  · obtain ⟨s0, s1, s2⟩ := HBX.out W hW; go_simp
  clear hK K
  refine wpQuietIn_nil ?_
  intro V1 hV1
  have HV1 := Lib.hid hV1
  clear hV1
  gi_wp2_with fail
  refine ⟨trivial, (calls_wide (.inl rfl) (HOf.out V1 HV1.out)).mono ?_⟩
  rintro e w2 ⟨⟨F, rfl, hT⟩, hb2⟩
  have f2 : Fr (fun _ => False) w1 w2 := HV1.out.trans (Fr.of_below hb2)
  obtain ⟨Yt, hYb, gf, lb, rfl, hseq, hYl, heg⟩ := tellsT_tale (show TaleT V1.heap.size w2 F D from hT) (by omega)
  have hz2 := HV1.out.size
  have K := Lib.hid (And.intro f2 (And.intro hYb (And.intro hseq (And.intro hYl (And.intro heg hz2)))))
  clear f2 hb2 hT hYb hseq hYl heg hz2
  gi_wp2_with fail
  obtain ⟨h1, h2, h3, h7, h8, h9, h10, h11, f1, z1, k0, k1, kl, r1, m1, d1, d2, hDk, hlB, hbB, hXl⟩ := H.out
  obtain ⟨f2, hYb, hseq, hYl, heg, hz2⟩ := K.out
  have hz21 := f2.size
  refine wpIn_rangeF (X := fun k => k = b) (Y := Yt) (xs := D) (encs := encL) (gf := gf) (lb := lb) (ClrJ b T a ha2) (fun _ _ _ _ => False)
    rfl hseq (fun k hk => ⟨by omega, fun e => by have := hYb k e; omega⟩) hYl (by omega) heg (fun _ => rfl)
    (clrJ_stays _ _ _ _) (fun c s X1 V1 V2 h => h.elim) ⟨ownMW_same m1 (f2.block b (by omega) fun e => e), fun k => Iff.rfl⟩ ?round ?done (fun _ _ _ _ _ _ _ _ _ _ _ h => h.elim)
  case round =>
    rintro lp pre x r X1 V KK rb hl2 hpx hI hG2 hxl hF hlV hK
    dsimp only [encL]
    have HK := Lib.hid hK
    have HV := Lib.hid (And.intro hpx (And.intro hI (And.intro hG2 (And.intro hxl (And.intro hF (And.intro hlV hl2))))))
    clear hK hpx hI hG2 hxl hF hlV hl2 h1 h2 h3 h7 h8 h9 h10 h11 f1 z1 k0 k1 kl r1 m1 d1 d2 hDk hlB hbB hXl f2 hYb hseq hYl heg hz2 hz21
    gi_wp2_with fail
    refine HK.out _ _ (Fr.refl _ _) fun Vb hfb hzb hsb hrb => ?_
    clear HK KK
    obtain ⟨hpx, ⟨hm, hX1⟩, hG2, hxl, hF, hlV, hl2⟩ := HV.out
    obtain ⟨h1, h2, h3, h7, h8, h9, h10, h11, f1, z1, k0, k1, kl, r1, m1, d1, d2, hDk, hlB, hbB, hXl⟩ := H.out
    obtain ⟨f2, hYb, hseq, hYl, heg, hz2⟩ := K.out
    have hz21 := f2.size
    have hlb : ¬ b = lp := fun e => hxl ((hX1 lp).2 e.symm)
    have hmb := ownMW_same hm (hfb.block b (ownMW_lt hm) hlb)
    have hxk : x.length ≤ maxLen := (hDk x (by rw [← hpx]; simp)).1
    have HBV : Hid (∀ W, Fr (fun _ => False) Vb W → W.cell? ⟨B, 0, none⟩ = some (.pointer (some ⟨l, 0, none⟩)) ∧ W.cell? ⟨B + 1, 0, none⟩ = some (.int .i64 a) ∧ W.heap[l]? = some (.cells #[.pointer (some ⟨t, 0, none⟩), .map (some b)] 62 (0, 0))) := fun W hW => by
      have q0 := hW.blk (hfb.blk (hF.blk (f2.blk k0 fun e => e) (by omega : ¬ B = b)) (by omega : ¬ B = lp)) fun e => e
      have q1 := hW.blk (hfb.blk (hF.blk (f2.blk k1 fun e => e) (by omega : ¬ B + 1 = b)) (by omega : ¬ B + 1 = lp)) fun e => e
      have q2 := hW.blk (hfb.blk (hF.blk (f2.blk kl fun e => e) h3) (by omega : ¬ l = lp)) fun e => e
      exact ⟨blk_cell q0 0, blk_cell q1 0, q2⟩
    have HM : Hid (∀ W, Fr (fun _ => False) Vb W → ∃ w', (Builtin.delete_ #[59, 68] 0 #[.map (some b), .agg #[.int .i64 a, .string (bs x)]]).run Tryz.prog W = .ok (.tuple #[]) w' ∧ OwnMW w' b (delsW T a ha2 (pre ++ [x])) ∧ Fr (fun j => j = b) W w') := fun W hW => by
      rw [delsW_snoc T a ha2 pre hxk]
      exact delW (ownMW_same hmb (hW.block b (ownMW_lt hmb) fun e => e)) ⟨(a, x), ha2, hxk⟩ 0
    have HU := Lib.hid (And.intro hfb (And.intro hzb (And.intro hrb (And.intro hX1 (And.intro hG2 (And.intro hxl (And.intro hlb hbB)))))))
    clear hpx hm hX1 hG2 hxl hF hlV hl2 h1 h2 h3 h7 h8 h9 h10 h11 f1 z1 k0 k1 kl r1 m1 d1 d2 hDk hlB hbB hXl f2 hYb hseq hYl heg hz2 hz21 hlb hmb hxk hfb hzb hsb hrb
    gi_wp2_with fail
    refine wpIn_class_tail (C := fun W => Fr (fun _ => False) Vb W) 7 (by kernel_rfl) (by kernel_rfl) (by kernel_rfl) ((Fr.refl (fun _ => False) Vb).drew) ?_
    simp only [List.take_succ_cons, List.take_zero, List.drop_succ_cons, List.drop_zero]
    refine quiet_step_w (fun _ => trivial) (fun K hK => ?_)
    go_simp
    refine ⟨.pointer (some ⟨l, 0, none⟩), fun W hW => ?_, hK _ ?_⟩
    · obtain ⟨s0, s1, s2⟩ := HBV.out W hW; go_simp
    clear hK K
    refine quiet_step_w (fun _ => trivial) (fun K hK => ?_)
    go_simp
    first | refine ⟨_, fun _ _ => rfl, hK _ ?_⟩ | refine hK _ ?_
    clear hK K
    refine quiet_step_w (fun _ => trivial) (fun K hK => ?_)
    go_simp
    first | refine ⟨_, fun _ _ => rfl, hK _ ?_⟩ | refine hK _ ?_
    clear hK K
    refine quiet_step_w (fun _ => trivial) (fun K hK => ?_)
    go_simp
    refine ⟨.map (some b), fun W hW => ?_, hK _ ?_⟩
    · obtain ⟨s0, s1, s2⟩ := HBV.out W hW; have s3 := blk_cell s2 1; go_simp
    clear hK K
    refine quiet_step_w (fun _ => trivial) (fun K hK => ?_)
    go_simp
    refine ⟨.int .i64 a, fun W hW => ?_, hK _ ?_⟩
    · obtain ⟨s0, s1, s2⟩ := HBV.out W hW; go_simp
    clear hK K
    refine quiet_step_w (fun _ => trivial) (fun K hK => ?_)
    go_simp
    first | refine ⟨_, fun _ _ => rfl, hK _ ?_⟩ | refine hK _ ?_
    clear hK K
    refine quiet_step_w (fun _ => trivial) (fun K hK => ?_)
    go_simp
    first | refine ⟨_, fun _ _ => rfl, hK _ ?_⟩ | refine hK _ ?_
    clear hK K
    refine wpQuietIn_nil ?_
    intro W5 hW5
    obtain ⟨w6, hd6, m6, f6⟩ := HM.out W5 hW5
    have H5 := Lib.hid (And.intro hW5 (And.intro m6 f6))
    clear hW5 m6 f6
    gi_wp2_with fail
    obtain ⟨hW5, m6, f6⟩ := H5.out
    obtain ⟨hfb, hzb, hrb, hX1, hG2, hxl, hlb, hbB⟩ := HU.out
    have hf6 : Fr X1 Vb w6 := (hW5.mono (Y := X1) fun _ _ e => e.elim).trans3 f6 fun k _ e => (hX1 k).2 e
    refine ⟨X1, fun k hk => ⟨Nat.lt_of_lt_of_le (hG2 k hk).1 (Nat.le_trans hfb.size hf6.size), fun _ => hk⟩, (hfb.mono (Y := fun k => k = lp ∨ X1 k) fun k _ e => .inl e).trans3 hf6 fun k _ e => .inr e, hf6.blk hrb hxl, m6, hX1⟩
  case done =>
    rintro Dm X2 V hD hxD hG2 hF ⟨hm, hX2⟩ hdef
    have hFV : Fr (fun k => k = b) w1 V := (f2.mono (Y := fun k => k = b) fun _ _ e => e.elim).trans3 hF fun _ _ e => e
    have hrV := r1.fr hFV fun j hj e => h9 (e ▸ hj)
    have hklV := hFV.blk kl h3
    have HBV : Hid (∀ W, Fr (fun _ => False) V W → W.cell? ⟨B, 0, none⟩ = some (.pointer (some ⟨l, 0, none⟩)) ∧ W.cell? ⟨B + 1, 0, none⟩ = some (.int .i64 a) ∧ W.heap[l]? = some (.cells #[.pointer (some ⟨t, 0, none⟩), .map (some b)] 62 (0, 0))) := fun W hW => by
      have q0 := hW.blk (hFV.blk k0 (by omega : ¬ B = b)) fun e => e
      have q1 := hW.blk (hFV.blk k1 (by omega : ¬ B + 1 = b)) fun e => e
      exact ⟨blk_cell q0 0, blk_cell q1 0, hW.blk hklV fun e => e⟩
    have hok : ∀ p ∈ U.map fkW, OkKSI p.2 := fun p hp => by
      obtain ⟨u, hu, rfl⟩ := List.mem_map.1 hp
      exact okF (h10 u hu).2
    have HDr : Hid (∀ W, Fr (fun _ => False) V W → Calls Tryz.prog 33 #[.pointer (some ⟨t, 0, none⟩), .int .i64 a] W (DropR base t X most (U.map fkW) a W)) := fun W hW => relDrop (hrV.fr hW fun _ _ e => e) (by have := f1.size; have := hFV.size; have := hW.size; omega) (by simpa using (by omega : U.length ≤ 90000)) ha2 hok
    have HQ := Lib.hid (And.intro hD (And.intro hxD (And.intro hFV (And.intro hm (And.intro hX2 (And.intro hdef (And.intro hklV hz21)))))))
    clear hD hxD hG2 hF hm hX2 hdef hFV hrV hklV hok h1 h2 h3 h7 h8 h9 h10 h11 f1 z1 k0 k1 kl r1 m1 d1 d2 hDk hlB hbB hXl f2 hYb hseq hYl heg hz2 hz21
    gi_wp2_with fail
    refine wpIn_class_tail (C := fun W => Fr (fun _ => False) V W) 3 (by kernel_rfl) (by kernel_rfl) (by kernel_rfl) ((Fr.refl (fun _ => False) V).drew) ?_
    simp only [List.take_succ_cons, List.take_zero, List.drop_succ_cons, List.drop_zero]
    refine quiet_step_w (fun _ => trivial) (fun K hK => ?_)
    go_simp
    refine ⟨.pointer (some ⟨l, 0, none⟩), fun W hW => ?_, hK _ ?_⟩
    · obtain ⟨s0, s1, s2⟩ := HBV.out W hW; go_simp
    clear hK K
    refine quiet_step_w (fun _ => trivial) (fun K hK => ?_)
    go_simp
    refine ⟨.pointer (some ⟨t, 0, none⟩), fun W hW => ?_, hK _ ?_⟩
    · refine (calls_wide (.inl rfl) (wisRel (HBV.out W hW).2.2)).mono ?_
      rintro e W2 ⟨rfl, rfl⟩; exact ⟨rfl, hW⟩
    clear hK K
    refine quiet_step_w (fun _ => trivial) (fun K hK => ?_)
    go_simp
    refine ⟨.int .i64 a, fun W hW => ?_, hK _ ?_⟩
    · obtain ⟨s0, s1, s2⟩ := HBV.out W hW; go_simp
    clear hK K
    refine wpQuietIn_nil ?_
    intro W5 hW5
    have H5 := Lib.hid hW5
    clear hW5
    gi_wp2_with fail
    refine ⟨trivial, (calls_wide (.inl rfl) (HDr.out W5 H5.out)).mono ?_⟩
    rintro e W6 ⟨X6, D6, y1, y2, rfl, x6, f6, h6⟩
    have H6 := Lib.hid (And.intro y1 (And.intro y2 (And.intro x6 (And.intro f6 h6))))
    clear y1 y2 x6 f6 h6
    gi_wp2_with fail
    obtain ⟨y1, y2, x6, f6, h6⟩ := H6.out
    obtain ⟨hD, hxD, hFV, hm, hX2, hdef, hklV, hz21⟩ := HQ.out
    obtain ⟨h1, h2, h3, h7, h8, h9, h10, h11, f1, z1, k0, k1, kl, r1, m1, d1, d2, hDk, hlB, hbB, hXl⟩ := H.out
    have hB := HBB.out
    have hzV := hFV.size
    have hz5 := H5.out.size
    have hDX : ¬ X Dm := fun e => by have := hXl _ e; omega
    have fV6 : Fr X V W6 := (H5.out.mono (Y := X) fun _ _ e => e.elim).trans3 f6 fun _ _ e => e
    have hd6 := fV6.blk hdef hDX
    refine leaves_one Dm _ hd6 fun w' hf => ⟨_, results_tmp rfl _ _ _, fun j => j = l ∨ j = b ∨ X6 j, D6, y1, y2, rfl, fun j hj => ?_, ?_, ?_⟩
    · rcases hj with rfl | rfl | hj
      · exact .inl ((h11 _).2 (.inl rfl))
      · exact .inl ((h11 _).2 (.inr (.inl rfl)))
      · rcases x6 j hj with e | e
        · exact .inl ((h11 _).2 (.inr (.inr e)))
        · exact .inr (by omega)
    · exact (((f1.mono (Y := Y) fun _ _ e => e.elim).trans3 hFV fun k _ e => (h11 k).2 (.inr (.inl e))).trans3 fV6 fun k _ e => (h11 k).2 (.inr (.inr e))).trans3 hf fun k hk e => by omega
    · have nl : ¬ X6 l := fun e => by rcases x6 l e with e | e; exact h8 e; omega
      have nb : ¬ X6 b := fun e => by rcases x6 b e with e | e; exact h9 e; omega
      have hsp := delsW_spell a ha2 D U T h7 fun f hf => (hDk f hf).1
      rw [dels_all d2] at hsp
      refine ⟨t, b, X6, _, h1, h2, h3, hf.blk (fV6.blk hklV h8) (by omega), ?_, ownMW_same hm ?_, hsp, nl, nb, fun u hu => h10 u (List.mem_filter.1 hu).1, fun j => Iff.rfl⟩
      · rw [fk_drop]
        exact h6.fr hf fun j hj e => by rcases x6 j hj with e2 | e2; exact hDX (e ▸ e2); have := (fV6.blk hdef hDX); have := blk_lt hdef; omega
      · exact (hf.block b (by have := fV6.size; omega) (by omega)).trans (fV6.block b (by omega) h9)
end Go.Proofs.YtnoeblnljfnecaaGreatDoor
end
section
/- Regions that draw their order, walked op by op in one way: what is held may grow on the way. -/
namespace Go.Proofs.YtnoeblnljfnecaaGreatDoor
open Go Go.RowKit

section
variable {P : Program} {md : Region.Mode} {ops : Array Oper} {Q : Exit → Act → World → Prop} {S T : World → Prop}
/-- what is held may be more from here on -/
theorem wpAnyH_more (hST : ∀ w, T w → S w) : ∀ (fuel : Nat) (listed : Array Bool) (a : Act) (w : World), wpAnyH P md ops Q T fuel listed a w → wpAnyH P md ops Q S fuel listed a w
  | 0, _, _, _, h => h
  | fuel + 1, _, _, _, h => ⟨h.1, fun i hi => wpOp_mono (fun a' w' h' => ⟨hST w' h'.1, wpAnyH_more hST fuel _ a' w' h'.2⟩) (h.2 i hi)⟩
/-- one alone may come up: a call, a store -/
theorem wpAnyH_one {i : Nat} {o : Oper} {fuel : Nat} {listed : Array Bool} {a : Act} {w : World} (hr : Region.ready md ops listed = [i]) (ho : ops[i]? = some o) (hw : Region.wanted o (yielded ops a.tmps) = true)
    (h : ∀ K' : Act → World → Prop, Shut (∀ a w, S w → (S w → wpAnyH P md ops Q S fuel (listed.setIfInBounds i true) a w) → K' a w) → Oper.wp P o a w K' Q) : wpAnyH P md ops Q S (fuel + 1) listed a w :=
  wpAnyH_ready hr (by simp) (AllReadyH.cons ho (fun K hK => by rw [if_pos hw]; exact h K hK) AllReadyH.nil)
/-- what yields in every world that is held -/
theorem wpAnyH_read {i : Nat} {oi : Oper} (v : Value) {fuel : Nat} {listed : Array Bool} {a : Act} {w : World} (hi : ops[i]? = some oi)
    (hs : Region.noSelect ops = true) (hf : Region.free md ops listed i = true) (hr : (Region.ready md ops listed).contains i = true)
    (hQ : ∀ c a w, Q (.panic c) (a.put oi.dst v) w → Q (.panic c) a w) (hw : Region.wanted oi (yielded ops a.tmps) = true) (hS : S w)
    (hy : ∀ w, S w → (execOp a.eval oi).run P w = .ok (.value v) w)
    (h : wpAnyH P md ops Q S fuel (listed.setIfInBounds i true) (a.put oi.dst v) w) : wpAnyH P md ops Q S (fuel + 1) listed a w :=
  wpAnyH_take hi hs hf hr hQ (Or.inl ⟨hw, hy⟩) hS h
/-- what is guarded, and not wanted -/
theorem wpAnyH_pass {i : Nat} {oi : Oper} {fuel : Nat} {listed : Array Bool} {a : Act} {w : World} (hi : ops[i]? = some oi)
    (hs : Region.noSelect ops = true) (hf : Region.free md ops listed i = true) (hr : (Region.ready md ops listed).contains i = true)
    (hQ : ∀ c a w, Q (.panic c) (a.put oi.dst undef) w → Q (.panic c) a w) (hw : Region.wanted oi (yielded ops a.tmps) = false) (hS : S w)
    (h : wpAnyH P md ops Q S fuel (listed.setIfInBounds i true) (a.put oi.dst undef) w) : wpAnyH P md ops Q S (fuel + 1) listed a w :=
  wpAnyH_take hi hs hf hr hQ (Or.inr ⟨hw, rfl⟩) hS h
end
end Go.Proofs.YtnoeblnljfnecaaGreatDoor
end
section
/- Regions that draw their order, whose last operation (number z: a store) waits for what reads: what is held need not hold behind it. -/
namespace Go.Proofs.YtnoeblnljfnecaaGreatDoor
open Go Go.RowKit

/-- does z wait for i? -/
def waitsFor (md : Region.Mode) (ops : Array Oper) (z i : Nat) : Bool := match ops[z]? with
  | some o => o.after.any fun e => Region.binds md e && e.on == i
  | none => false
section
variable {P : Program} {md : Region.Mode} {ops : Array Oper} {Q : Exit → Act → World → Prop} {S : World → Prop} {z : Nat}
/-- whatever order is picked; S holds behind all but z -/
def wpAnyZ (P : Program) (md : Region.Mode) (ops : Array Oper) (Q : Exit → Act → World → Prop) (S : World → Prop) (z : Nat) : Nat → Array Bool → Act → World → Prop
  | 0, listed, a, w => Region.ready md ops listed = [] ∧ Q .normal a w
  | fuel + 1, listed, a, w => (Region.ready md ops listed = [] → Q .normal a w) ∧
    ∀ i ∈ Region.ready md ops listed, wpOp P ops Q i (fun a' w' => (i ≠ z → S w') ∧ wpAnyZ P md ops Q S z fuel (listed.setIfInBounds i true) a' w') a w
theorem wpAny_of_z : ∀ (fuel : Nat) (listed : Array Bool) (a : Act) (w : World), wpAnyZ P md ops Q S z fuel listed a w → wpAny P md ops Q fuel listed a w
  | 0, _, _, _, h => h
  | fuel + 1, _, _, _, h => ⟨h.1, fun i hi => wpOp_mono (fun _ _ h' => wpAny_of_z fuel _ _ _ h'.2) (h.2 i hi)⟩
theorem waits_not {i j : Nat} {listed : Array Bool} (hz : waitsFor md ops z i = true) (hr : i ∈ Region.ready md ops listed) (hj : j ∈ Region.ready md ops listed) : j ≠ z := by
  rintro rfl
  obtain ⟨_, oj, hoj, hall⟩ := mem_ready.1 hj
  unfold waitsFor at hz
  rw [hoj] at hz
  simp only [Array.any_eq_true'] at hz
  obtain ⟨e, he, hb⟩ := hz
  rw [Bool.and_eq_true, beq_iff_eq] at hb
  have h1 := hall e he hb.1
  have h0 := (mem_ready.1 hr).1
  rw [hb.2] at h1
  rcases Nat.lt_or_ge i listed.size with h' | h'
  · simp [h'] at h0 h1; rw [h0] at h1; cases h1
  · simp [Array.getElem?_eq_none h'] at h1
theorem wpAnyZ_first {i : Nat} {oi : Oper} {v : Value} (hi : ops[i]? = some oi) (hsel : ∀ (j : Nat) (o : Oper) cs b, ops[j]? = some o → o.op ≠ .select cs b)
    (hQ : ∀ c a w, Q (.panic c) (a.put oi.dst v) w → Q (.panic c) a w) (hz : waitsFor md ops z i = true) : ∀ (fuel : Nat) (listed : Array Bool) (a : Act) (w : World),
      (∀ j oj, ops[j]? = some oj → j ≠ i → listed.getD j true = false → (∀ e ∈ oj.after, Region.binds md e = true → e.on ≠ i) → oi.apart ops oj = true) →
      i ∈ Region.ready md ops listed → YieldsIf P ops S oi v a → S w → wpAnyZ P md ops Q S z fuel (listed.setIfInBounds i true) (a.put oi.dst v) w → wpAnyZ P md ops Q S z (fuel + 1) listed a w := by
  intro fuel
  induction fuel with
  | zero =>
    intro listed a w _ hr hy hS H
    refine ⟨fun h => (by rw [h] at hr; cases hr), fun j hj => ?_⟩
    by_cases hji : j = i
    · subst hji
      exact hy.wpOp hi hS ⟨fun _ => hS, H⟩
    · have h1 := ready_mono hj hji
      rw [H.1] at h1
      cases h1
  | succ fuel ih =>
    intro listed a w hfree hr hy hS H
    refine ⟨fun h => (by rw [h] at hr; cases hr), fun j hj => ?_⟩
    by_cases hji : j = i
    · subst hji
      exact hy.wpOp hi hS ⟨fun _ => hS, H⟩
    · have hjz := waits_not hz hr hj
      have h1 := H.2 j (ready_mono hj hji)
      obtain ⟨hjun, oj, hoj, hall⟩ := mem_ready.1 hj
      have hnot : ∀ e ∈ oj.after, Region.binds md e = true → e.on ≠ i := fun e he hb heq => by
        have h1 := hall e he hb
        have h0 := (mem_ready.1 hr).1
        rw [heq] at h1
        rcases Nat.lt_or_ge i listed.size with h' | h'
        · simp [h'] at h0 h1; rw [h0] at h1; cases h1
        · simp [Array.getElem?_eq_none h'] at h1
      have h2 := wpOp_putIf hoj (hfree j oj hoj hji hjun hnot) (fun cs b => hsel i oi cs b hi) (fun cs b => hsel j oj cs b hoj) hQ hy h1
      refine wpOp_mono (fun a' w' h3 => ⟨h3.2.1, ih (listed.setIfInBounds j true) a' w' (fun k ok hk hki hun hno => hfree k ok hk hki ?_ hno) (ready_mono hr (Ne.symm hji)) h3.1 (h3.2.1 hjz) ?_⟩) h2
      · by_cases hjk : j = k
        · subst hjk; exact hjun
        · rw [getD_set_ne true hjk] at hun; exact hun
      · rw [Array.setIfInBounds_comm _ _ hji]
        exact h3.2.2
/-- what yields in every world that is held -/
theorem wpAnyZ_read {i : Nat} {oi : Oper} (v : Value) {fuel : Nat} {listed : Array Bool} {a : Act} {w : World} (hi : ops[i]? = some oi)
    (hs : Region.noSelect ops = true) (hf : Region.free md ops listed i = true) (hr : (Region.ready md ops listed).contains i = true) (hz : waitsFor md ops z i = true)
    (hQ : ∀ c a w, Q (.panic c) (a.put oi.dst v) w → Q (.panic c) a w) (hw : Region.wanted oi (yielded ops a.tmps) = true) (hS : S w)
    (hy : ∀ w, S w → (execOp a.eval oi).run P w = .ok (.value v) w)
    (h : wpAnyZ P md ops Q S z fuel (listed.setIfInBounds i true) (a.put oi.dst v) w) : wpAnyZ P md ops Q S z (fuel + 1) listed a w :=
  wpAnyZ_first hi (Region.noSelect_spec hs) hQ hz fuel listed a w (Region.free_spec hi hf) (by simpa using hr) (Or.inl ⟨hw, hy⟩) hS h
/-- one alone may come up: a call, a slice that is made -/
theorem wpAnyZ_one {i : Nat} {o : Oper} {fuel : Nat} {listed : Array Bool} {a : Act} {w : World} (hr : Region.ready md ops listed = [i]) (ho : ops[i]? = some o) (hw : Region.wanted o (yielded ops a.tmps) = true)
    (h : ∀ K' : Act → World → Prop, Shut (∀ a w, S w → (S w → wpAnyZ P md ops Q S z fuel (listed.setIfInBounds i true) a w) → K' a w) → Oper.wp P o a w K' Q) : wpAnyZ P md ops Q S z (fuel + 1) listed a w :=
  ⟨fun h0 => absurd (hr ▸ h0) (by simp), by
    rw [hr]
    intro j hj
    obtain rfl := List.mem_singleton.1 hj
    exact wpOp_step ho fun K' hK => by rw [if_pos hw]; exact h K' fun a w hS hW => hK a w ⟨fun _ => hS, hW hS⟩⟩
/-- z comes up -/
theorem wpAnyZ_last {o : Oper} {fuel : Nat} {listed : Array Bool} {a : Act} {w : World} (hr : Region.ready md ops listed = [z]) (ho : ops[z]? = some o) (hw : Region.wanted o (yielded ops a.tmps) = true)
    (h : ∀ K' : Act → World → Prop, Shut (∀ a w, wpAnyZ P md ops Q S z fuel (listed.setIfInBounds z true) a w → K' a w) → Oper.wp P o a w K' Q) : wpAnyZ P md ops Q S z (fuel + 1) listed a w :=
  ⟨fun h0 => absurd (hr ▸ h0) (by simp), by
    rw [hr]
    intro j hj
    obtain rfl := List.mem_singleton.1 hj
    exact wpOp_step ho fun K' hK => by rw [if_pos hw]; exact h K' fun a w hW => hK a w ⟨fun e => absurd rfl e, hW⟩⟩
theorem wpAnyZ_done {listed : Array Bool} {a : Act} {w : World} (hr : Region.ready md ops listed = []) (h : Q .normal a w) : ∀ fuel, wpAnyZ P md ops Q S z fuel listed a w
  | 0 => ⟨hr, h⟩
  | _ + 1 => ⟨fun _ => h, by rw [hr]; simp⟩
theorem wp_region_z (S : World → Prop) (z : Nat) {id : Nat} {a : Act} {w : World} (hm : P.follows .mixedOrders = true) (hS : S w.drew)
    (h : S w.drew → wpAnyZ P .any ops Q S z ops.size (Array.replicate ops.size false) a w.drew) : (Code.region id ops true).wp P Q a w :=
  wp_region_any hm (wpAny_of_z _ _ _ _ (h hS))
/-- append whose run is known -/
theorem wp_app_run {P : Program} {W W' : World} {o : Oper} {a : Act} {K : Act → World → Prop} {Q : Exit → Act → World → Prop} (s x : Operand) (t tx : TypeId)
    (ho : o.op = .call { callee := .builtin .append, args := #[s, x], argTypes := #[t, tx] }) {v : Value} (hr : (Builtin.append_ #[t, tx] o.type #[a.eval s, a.eval x]).run P W = .ok v W') (h : K (a.put o.dst v) W') : Oper.wp P o a W K Q := by
  unfold Oper.wp execOp
  simp only [ho, resolve, invoke, builtin, Sem.run_bind, Sem.run_pure, Result.andThen_ok, List.map_toArray, List.map_cons, List.map_nil, hr]
  exact h
end
end Go.Proofs.YtnoeblnljfnecaaGreatDoor
end
