/- Layer 12: CutPrefix, Apply. -/
import Derived.Test.YtadojlmjapmbhaaDoorCapB
namespace Go.Proofs.YtadojlmjapmbhaaDoor
set_option linter.unusedVariables false
set_option linter.unusedSimpArgs false
open Go.RowKit Go.Shelf
attribute [local go_sem] Oper.semAt_some

/-- two results that lie in cells -/
theorem res_in2 {P : Program} {fn : Func} {p q : Tmp} {ty tz : TypeId} (h : fn.results = #[.cell p ty, .cell q tz]) (tmps : Array Value) (w : World) (g k : Nat) (v u : Value) (d d' : TypeDesc) (hp : tmps.getD p undef = .pointer (some ⟨g, 0, none⟩)) (hq : tmps.getD q undef = .pointer (some ⟨k, 0, none⟩))
    (hc : w.cell? ⟨g, 0, none⟩ = some v) (hc' : w.cell? ⟨k, 0, none⟩ = some u) (hu : P.underlying ty = some d) (hd : (match d with | .struct _ | .array _ _ => true | _ => false) = false) (hu' : P.underlying tz = some d') (hd' : (match d' with | .struct _ | .array _ _ => true | _ => false) = false) :
    (results fn tmps).run P w = .ok (.tuple #[v, u]) w := by
  have hp' : tmps[p]?.getD undef = .pointer (some ⟨g, 0, none⟩) := by simpa using hp
  have hq' : tmps[q]?.getD undef = .pointer (some ⟨k, 0, none⟩) := by simpa using hq
  have hagg : (isAgg ty).run P w = .ok false w := by
    unfold isAgg
    rw [Sem.run_bind, run_underlying hu w]
    cases d <;> simp_all
  have hagg' : (isAgg tz).run P w = .ok false w := by
    unfold isAgg
    rw [Sem.run_bind, run_underlying hu' w]
    cases d' <;> simp_all
  simp [results, h, hp', hq', asAddr, loadVar, Sem.run_bind, hagg, hagg', go_sem, hc, hc']

def cutB (s : ByteArray) : ByteArray × Bool := if headB s 45 = true then (s.extract 1 s.size, true) else (s, false)
theorem cutB_V (s : ByteArray) : ((cutB s).1.data.toList, (cutB s).2) = cutV s.data.toList := by
  unfold cutB headB
  have hx : (s.extract 1 s.size).data.toList = s.data.toList.drop 1 := by simp [List.take_of_length_le]
  cases hs : s.data.toList with
  | nil => simp [cutV, hs]
  | cons c r =>
    rw [hs] at hx
    by_cases h : c = 45
    · subst h; simp [cutV]; simpa using hx
    · simp [cutV, h, hs]
theorem cutB_len (s : ByteArray) : (cutB s).1.size ≤ s.size := by
  unfold cutB
  split
  · simp
  · exact Nat.le_refl _
theorem cut_lite (s : ByteArray) (w : World) (hs : s.size ≤ 1000000) :
    Calls Tryd.prog 33 #[.string s, .string ⟨#[45]⟩] w fun e w' => e = .returned (.tuple #[.string (cutB s).1, .bool (cutB s).2]) ∧ w = w' := by
  have hp : ∀ W, Calls Tryd.prog 44 #[.string s, .string ⟨#[45]⟩] W fun e w' => e = .returned (.bool (headB s 45)) ∧ W = w' := fun W => pre_lite s 45 W hs
  unfold cutB
  cases hb : headB s 45 with
  | false =>
    rw [hb] at hp
    clear hb
    go_enter Tryd.func33, Tryd.ntmps33
    go_wp2_with (go_at_call 44; refine (hp _).mono ?_; rintro e w' ⟨rfl, rfl⟩)
    go_ret2
    exact ⟨rfl, rfl⟩
  | true =>
    have hne : 1 ≤ s.size := by
      by_cases h0 : s.size = 0
      · rw [head_em (s := s) (c := 45) h0] at hb; cases hb
      · omega
    rw [hb] at hp
    clear hb
    go_enter Tryd.func33, Tryd.ntmps33
    go_wp2_with (go_at_call 44; refine (hp _).mono ?_; rintro e w' ⟨rfl, rfl⟩)
    go_ret2
    exact ⟨rfl, rfl⟩
theorem cut_any (s : ByteArray) (w : World) (hs : s.size ≤ 1000000) :
    Calls Tryd.prog 19 #[.string s, .string ⟨#[45]⟩] w fun e w' => e = .returned (.tuple #[.string (cutB s).1, .bool (cutB s).2]) ∧ w = w' := by
  go_enter Tryd.func19, Tryd.ntmps19
  go_wp2_with (go_at_call 33; refine (cut_lite s _ hs).mono ?_; rintro e w' ⟨rfl, rfl⟩)
  go_ret2
  exact ⟨rfl, rfl⟩

/-- so far all words were good -/
def GoodA (h : BitVec 64) (B : Nat) (pre : List Word) (W : World) : Prop := ∃ v : BitVec 64, Boxed W (B + 1 + 1 + 1) 3 (.int .i64 (IV v)) ∧ ∀ r, appV h h (wordsL pre ++ r) = appV h v r
/-- the last word was bad -/
def BadA (h : BitVec 64) (B : Nat) (w : World) (pre : List Word) (W : World) : Prop := (∀ r, appV h h (wordsL pre ++ r) = (h, false)) ∧ Boxed W (B + 1) 3 (.int .i64 (IV h)) ∧ Boxed W (B + 1 + 1) 4 (.bool false) ∧ Below B w W

theorem keeps_of_below {W W' : World} (h : Below W.heap.size W W') : KeepsOthers W W' := ⟨h.size, fun k o hk _ => (h.block k (Array.getElem?_eq_some_iff.1 hk).1).trans hk⟩
theorem boxed_below {W W' : World} {b : Nat} {t : TypeId} {v : Value} (k : Boxed W b t v) (h : Below W.heap.size W W') : Boxed W' b t v := (h.block b k.lt).trans k

set_option maxRecDepth 100000 in
set_option maxHeartbeats 8000000 in
theorem apply_any (h : BitVec 64) (s : ByteArray) (w : World) (hs : s.size ≤ 1000000) (hK : Known w) :
    Calls Tryd.prog 8 #[.int .i64 (IV h), .string s] w fun e w' => e = .returned (.tuple #[.int .i64 (IV (capV h s.data.toList).1), .bool (capV h s.data.toList).2]) ∧ Below w.heap.size w w' := by
  refine (callsIn_wide (n := 6)).1 ?_
  refine callsIn_of_wp_marks Tryd.func8 rfl trivial ?_ rfl
  simp only [Tryd.ntmps8, List.size_toArray, List.length_cons, List.length_nil, Nat.reduceAdd, Nat.reduceSub, Array.replicate_succ, Array.replicate_zero, List.push_toArray, List.append_toArray, List.nil_append, List.cons_append]
  gi_wp2_with fail
  refine wpIn_scope ?_
  gi_wp2_with fail
  refine wpIn_label ?_
  gi_wp2_with fail
  refine ⟨trivial, ((callsIn_wide (n := 5)).2 (split_any _ _)).mono ?_⟩
  rintro e w2 ⟨rfl, hw2⟩
  have a0 := ((Boxed.new w 3 (.int .i64 (IV h))).alloc (.cells #[.int .i64 0] 3)).alloc (.cells #[.bool false] 4)
  have a1 := (Boxed.new (w.alloc (.cells #[.int .i64 (IV h)] 3)) 3 (.int .i64 0)).alloc (.cells #[.bool false] 4)
  have a2 := Boxed.new ((w.alloc (.cells #[.int .i64 (IV h)] 3)).alloc (.cells #[.int .i64 0] 3)) 4 (.bool false)
  obtain ⟨w3, hw3⟩ : ∃ w3, ((w.alloc (.cells #[.int .i64 (IV h)] 3)).alloc (.cells #[.int .i64 0] 3)).alloc (.cells #[.bool false] 4) = w3 := ⟨_, rfl⟩
  have hz3 : w3.heap.size = w.heap.size + 1 + 1 + 1 := by rw [← hw3]; simp
  have hB3 : Below w.heap.size w w3 := by rw [← hw3]; exact (((Below.refl _ w).alloc (Nat.le_refl _) _).alloc (by simp) _).alloc (by simp; omega) _
  rw [hw3] at a0 a1 a2 hw2
  have a3 := Boxed.new w3 3 (.int .i64 (IV h))
  obtain ⟨w4, hw4⟩ : ∃ w4, w3.alloc (.cells #[.int .i64 (IV h)] 3) = w4 := ⟨_, rfl⟩
  have hz4 : w4.heap.size = w.heap.size + 1 + 1 + 1 + 1 := by rw [← hw4, World.size_alloc, hz3]
  have hB4 : Below w.heap.size w w4 := by rw [← hw4]; exact hB3.alloc (by omega) _
  replace a0 := a0.alloc (.cells #[.int .i64 (IV h)] 3)
  replace a1 := a1.alloc (.cells #[.int .i64 (IV h)] 3)
  replace a2 := a2.alloc (.cells #[.int .i64 (IV h)] 3)
  rw [hw4] at a0 a1 a2 a3 hw2
  have b0 := ((Boxed.new w4 9 (.string s)).alloc (.cells #[.string ⟨#[32]⟩] 9)).alloc (.cells #[.int .i64 0] 3)
  have b1 := (Boxed.new (w4.alloc (.cells #[.string s] 9)) 9 (.string ⟨#[32]⟩)).alloc (.cells #[.int .i64 0] 3)
  have b2 := Boxed.new ((w4.alloc (.cells #[.string s] 9)).alloc (.cells #[.string ⟨#[32]⟩] 9)) 3 (.int .i64 0)
  have hz2 : w2.heap.size = w4.heap.size + 3 := by rw [hw2]; simp
  have hB2 : Below w.heap.size w w2 := by rw [hw2]; exact ((hB4.alloc (by omega) _).alloc (by rw [World.size_alloc]; omega) _).alloc (by rw [World.size_alloc, World.size_alloc]; omega) _
  replace a0 := ((a0.alloc (.cells #[.string s] 9)).alloc (.cells #[.string ⟨#[32]⟩] 9)).alloc (.cells #[.int .i64 0] 3)
  replace a1 := ((a1.alloc (.cells #[.string s] 9)).alloc (.cells #[.string ⟨#[32]⟩] 9)).alloc (.cells #[.int .i64 0] 3)
  replace a2 := ((a2.alloc (.cells #[.string s] 9)).alloc (.cells #[.string ⟨#[32]⟩] 9)).alloc (.cells #[.int .i64 0] 3)
  replace a3 := ((a3.alloc (.cells #[.string s] 9)).alloc (.cells #[.string ⟨#[32]⟩] 9)).alloc (.cells #[.int .i64 0] 3)
  rw [← hw2] at b0 b1 b2 a0 a1 a2 a3
  simp only [World.size_alloc] at b1 b2 a1 a2
  rw [hz3] at a3
  rw [hz4] at b0 b1 b2 hz2
  simp only [World.size_alloc, hw3, hw4, hz3, hz4]
  obtain ⟨B, hBd⟩ : ∃ B, B = w.heap.size := ⟨_, rfl⟩
  rw [← hBd] at b0 b1 b2 a0 a1 a2 a3 hz2 hB2 ⊢
  have hK2 := hK.kept (by rw [← hBd]; exact hB2)
  have hlw : B ≤ w.heap.size := by omega
  have HX := Lib.hid (And.intro hBd (And.intro hz3 (And.intro hz4 (And.intro hB3 hB4))))
  clear hBd hz3 hz4 hw2 hw3 hw4 hB3 hB4
  gi_wp2_with fail
  have ne : ∀ {A : World} {row : Option Nat} {b : Nat} {t : TypeId} {v : Value}, (∀ r, row = some r → w2.heap.size ≤ r ∧ ∃ o : Obj, A.heap[r]? = some o ∧ o.isCells = false) → Boxed A b t v → some b ≠ row := fun {A row b t v} hr h e => by
    obtain ⟨_, o, ho, hc⟩ := hr b e.symm
    rw [show A.heap[b]? = _ from h] at ho; cases ho; cases hc
  refine wpIn_rangeW (X := fun b => b = B + 1 + 1 + 1 + 1 ∨ b = B + 1 + 1 + 1 + 1 + 1 ∨ b = B + 1 + 1 + 1 + 1 + 1 + 1) (encs := encWord) (gf := 41) (lb := #[.pointer (some ⟨B + 1 + 1 + 1 + 1 + 1, 0, none⟩), .pointer (some ⟨B + 1 + 1 + 1 + 1, 0, none⟩), .pointer (some ⟨B + 1 + 1 + 1 + 1 + 1 + 1, 0, none⟩)])
    (fun pre W => ((Boxed W B 3 (.int .i64 (IV h)) ∧ Boxed W (B + 1) 3 (.int .i64 0) ∧ Boxed W (B + 1 + 1) 4 (.bool false)) ∧ (Below B w W ∧ w2.heap.size ≤ W.heap.size)) ∧ GoodA h B pre W)
    (fun c pre W => c = .ret ∧ BadA h B w pre W)
    (fun x => { tmps := #[.int .i64 (IV h), .string s, .pointer (some ⟨B, 0, none⟩), undef, .pointer (some ⟨B + 1, 0, none⟩), .pointer (some ⟨B + 1 + 1, 0, none⟩), .pointer (some ⟨B + 1 + 1 + 1, 0, none⟩), .string x.1, undef, undef, undef, .int .i64 (IV h), .string s,
      .func (.func 41) #[] #[.pointer (some ⟨B + 1 + 1 + 1 + 1 + 1, 0, none⟩), .pointer (some ⟨B + 1 + 1 + 1 + 1, 0, none⟩), .pointer (some ⟨B + 1 + 1 + 1 + 1 + 1 + 1, 0, none⟩)], .string x.1, undef, undef, undef, undef, undef, undef, undef, undef, undef, undef, undef, undef, undef, undef, undef, undef, undef, undef, undef, undef, undef, undef], defers := [] })
    rfl (split_stops 5 (by omega) (B + 1 + 1 + 1 + 1) s w2 hs b0 b1 b2) (Below.refl _ _) (fun b hb => by omega) rfl (by omega) trivial (enters_of Tryd.func41 (by kernel_rfl) rfl) (fun _ => rfl)
    (fun pre A C row hh hg hr => by
      obtain ⟨⟨⟨h0, h1, h2⟩, hB⟩, v, hv, hr2⟩ := hh
      exact ⟨⟨⟨h0.kept hg (ne hr h0), h1.kept hg (ne hr h1), h2.kept hg (ne hr h2)⟩, hB.1.grown hg (by have := h0.lt; omega) (fun k e => by have := (hr k e).1; omega), Nat.le_trans hB.2 hg.size⟩, v, hv.kept hg (ne hr hv), hr2⟩)
    (fun pre A C b hb hh hg => by
      obtain ⟨⟨⟨h0, h1, h2⟩, hB⟩, v, hv, hr2⟩ := hh
      exact ⟨⟨⟨h0.kept hg (by simp; omega), h1.kept hg (by simp; omega), h2.kept hg (by simp; omega)⟩, hB.1.grown hg (by have := h0.lt; omega) (fun k e => by cases e; omega), Nat.le_trans hB.2 hg.size⟩, v, hv.kept hg (by simp; omega), hr2⟩)
    (fun c pre A C row hh hg hr => by
      obtain ⟨rfl, hr2, h1, h2, hB⟩ := hh
      exact ⟨rfl, hr2, h1.kept hg (ne hr h1), h2.kept hg (ne hr h2), hB.grown hg (by have := h1.lt; omega) (fun k e => by have := (hr k e).1; omega)⟩)
    (fun c pre A C b hb hh hg => by
      obtain ⟨rfl, hr2, h1, h2, hB⟩ := hh
      exact ⟨rfl, hr2, h1.kept hg (by simp; omega), h2.kept hg (by simp; omega), hB.grown hg (by have := h1.lt; omega) (fun k e => by cases e; omega)⟩)
    ⟨⟨⟨a0, a1, a2⟩, hB2, Nat.le_refl _⟩, h, a3, fun r => by simp [wordsL]⟩ ?assign ?body ?done ?stop
  case assign =>
    intro l x V K hKK
    gi_wp2
    exact hKK
  case body =>
    rintro l pre ⟨x, hx⟩ W ⟨⟨⟨h0, h1, h2⟩, hB⟩, v, hv, hr2⟩ hlt
    have hsn : ∀ r, wordsL (pre ++ [⟨x, hx⟩]) ++ r = wordsL pre ++ (x.data.toList :: r) := fun r => by rw [wordsL_snoc]; simp
    have hKW := hK.kept (by rw [← HX.out.1]; exact hB.1)
    have HK := Lib.hid (And.intro hKW (And.intro hsn hr2))
    clear hKW hsn hr2
    by_cases hem : x.size = 0
    · have q := str_em hem
      have HE : Hid (x.data.toList = []) := str_nil hem
      clear hem
      gi_wp2_with fail
      exact ⟨(KeepsOthers.refl _).from _, fun _ _ => rfl, ⟨⟨h0, h1, h2⟩, hB⟩, v, hv, fun r => by rw [HK.out.2.1, HE.out, HK.out.2.2, appV_skip]⟩
    · have q := str_ne (s := x) (by omega)
      have hne : x.data.toList ≠ [] := fun e => hem (by have := congrArg List.length e; simpa using this)
      have hC : ∀ W, Calls Tryd.prog 19 #[.string x, .string ⟨#[45]⟩] W fun e w' => e = .returned (.tuple #[.string (cutB x).1, .bool (cutB x).2]) ∧ W = w' := fun W => cut_any x W hx
      have hcv := cutB_V x
      obtain ⟨⟨nm, off⟩, hcb⟩ : ∃ y, cutB x = y := ⟨_, rfl⟩
      rw [hcb] at hC hcv
      have hN : ∀ W, Known W → Calls Tryd.prog 7 #[.string nm] W fun e w' => e = .returned (.int .i64 (IV (numV nm.data.toList))) ∧ Below W.heap.size W w' := fun W hk => number_any nm W hk
      have hc1 : numV (cutV x.data.toList).1 = numV nm.data.toList := by rw [← hcv]
      have hc2 : (cutV x.data.toList).2 = off := by rw [← hcv]
      obtain ⟨m, hm⟩ : ∃ m, numV nm.data.toList = m := ⟨_, rfl⟩
      rw [hm] at hN hc1
      have HC := Lib.hid (And.intro hne (And.intro hc1 hc2))
      have c0 := h0.cell
      have hsz := hB.2
      clear hem hne hcv hcb hc1 hc2 hm
      simp only at hC
      by_cases hm0 : m = 0#64
      · have q0 : ((IV m) == 0) = true := by rw [hm0]; rfl
        have HM := Lib.hid hm0
        clear hm0
        gi_wp2_with fail
        refine ⟨trivial, ?_⟩
        refine (CallsIn.inRound l ((callsIn_wide (n := 3)).2 (hC _))).mono ?_
        rintro e w' ⟨rfl, rfl⟩
        gi_wp2_with fail
        refine ⟨trivial, ?_⟩
        refine (CallsIn.inRound l ((callsIn_wide (n := 3)).2 (hN _ HK.out.1))).mono ?_
        rintro e W3 ⟨rfl, q3⟩
        have k0 := boxed_below h0 q3; have k1 := boxed_below h1 q3; have k2 := boxed_below h2 q3
        have e0 := k0.cell; have e1 := k1.cell; have f1 := k1.frozen; have e2 := k2.cell; have f2 := k2.frozen
        have Q3 := Lib.hid (And.intro q3 (And.intro (keeps_of_below q3) hB))
        clear q3 c0 hB
        gi_wp2_with fail
        exact ⟨((Q3.out.2.1.trans (KeepsOthers.setCell _ _ _)).trans (KeepsOthers.setCell _ _ _)).from _, rfl, fun r => by rw [HK.out.2.1, HK.out.2.2, appV_bad HC.out.1 (by rw [HC.out.2.1, HM.out])], (k1.set _).other (by omega) _, (k2.other (by omega) _).set _,
          (((Q3.out.2.2.1.trans (Q3.out.1.mono (by omega))).setCell (p := ⟨B + 1, 0, none⟩) (show B ≤ B + 1 by omega) _).setCell (p := ⟨B + 1 + 1, 0, none⟩) (show B ≤ B + 1 + 1 by omega) _)⟩
      · have q0 : ((IV m) == 0) = false := by
          have := IV_beq m 0#64
          rw [show IV 0#64 = 0 from rfl] at this
          rw [this]; simpa using hm0
        have HM := Lib.hid hm0
        have hb1 := bits_andNot_v v m
        have hb2 := bits_or_v v m
        clear hm0
        cases off with
        | true =>
          gi_wp2_with fail
          refine ⟨trivial, ?_⟩
          refine (CallsIn.inRound l ((callsIn_wide (n := 3)).2 (hC _))).mono ?_
          rintro e w' ⟨rfl, rfl⟩
          gi_wp2_with fail
          refine ⟨trivial, ?_⟩
          refine (CallsIn.inRound l ((callsIn_wide (n := 3)).2 (hN _ HK.out.1))).mono ?_
          rintro e W3 ⟨rfl, q3⟩
          have k0 := boxed_below h0 q3; have k1 := boxed_below h1 q3; have k2 := boxed_below h2 q3; have k3 := boxed_below hv q3
          have e3 := k3.cell; have f3 := k3.frozen
          have Q3 := Lib.hid (And.intro q3 (And.intro (keeps_of_below q3) hB))
          clear q3 c0 hB
          gi_wp2_with fail
          exact ⟨(Q3.out.2.1.trans (KeepsOthers.setCell _ _ _)).from _, fun b hb => (Below.heap_setCell _ _ _ _ (show b ≠ B + 1 + 1 + 1 by omega)).trans (Q3.out.1.block b (by omega)), ⟨⟨k0.other (by omega) _, k1.other (by omega) _, k2.other (by omega) _⟩, (Q3.out.2.2.1.trans (Q3.out.1.mono (by omega))).setCell (p := ⟨B + 1 + 1 + 1, 0, none⟩) (show B ≤ B + 1 + 1 + 1 by omega) _, by have := Q3.out.1.size; simp [World.setCell]; omega⟩,
            v &&& ~~~m, k3.set _, fun r => by rw [HK.out.2.1, HK.out.2.2, appV_good HC.out.1 (by rw [HC.out.2.1]; exact HM.out), HC.out.2.1, HC.out.2.2]; rfl⟩
        | false =>
          gi_wp2_with fail
          refine ⟨trivial, ?_⟩
          refine (CallsIn.inRound l ((callsIn_wide (n := 3)).2 (hC _))).mono ?_
          rintro e w' ⟨rfl, rfl⟩
          gi_wp2_with fail
          refine ⟨trivial, ?_⟩
          refine (CallsIn.inRound l ((callsIn_wide (n := 3)).2 (hN _ HK.out.1))).mono ?_
          rintro e W3 ⟨rfl, q3⟩
          have k0 := boxed_below h0 q3; have k1 := boxed_below h1 q3; have k2 := boxed_below h2 q3; have k3 := boxed_below hv q3
          have e3 := k3.cell; have f3 := k3.frozen
          have Q3 := Lib.hid (And.intro q3 (And.intro (keeps_of_below q3) hB))
          clear q3 c0 hB
          gi_wp2_with fail
          exact ⟨(Q3.out.2.1.trans (KeepsOthers.setCell _ _ _)).from _, fun b hb => (Below.heap_setCell _ _ _ _ (show b ≠ B + 1 + 1 + 1 by omega)).trans (Q3.out.1.block b (by omega)), ⟨⟨k0.other (by omega) _, k1.other (by omega) _, k2.other (by omega) _⟩, (Q3.out.2.2.1.trans (Q3.out.1.mono (by omega))).setCell (p := ⟨B + 1 + 1 + 1, 0, none⟩) (show B ≤ B + 1 + 1 + 1 by omega) _, by have := Q3.out.1.size; simp [World.setCell]; omega⟩,
            v ||| m, k3.set _, fun r => by rw [HK.out.2.1, HK.out.2.2, appV_good HC.out.1 (by rw [HC.out.2.1]; exact HM.out), HC.out.2.1, HC.out.2.2]; rfl⟩
  case done =>
    rintro D xs V hD hS ⟨⟨⟨h0, h1, h2⟩, hB⟩, v, hv, hr2⟩ hKd
    have hcap : capV h s.data.toList = (v, true) := by
      have := hr2 []
      rw [List.append_nil, hS] at this
      exact this
    have HC := Lib.hid hcap
    have e1 := h1.cell; have f1 := h1.frozen; have e2 := h2.cell; have f2 := h2.frozen; have e3 := hv.cell
    have hK3 : ((V.setCell ⟨B + 1, 0, none⟩ (.int .i64 (IV v))).setCell ⟨B + 1 + 1, 0, none⟩ (.bool true)).heap[D]? = some (.deferred (some [])) := ((KeepsOthers.setCell V ⟨B + 1, 0, none⟩ (.int .i64 (IV v))).trans (KeepsOthers.setCell _ ⟨B + 1 + 1, 0, none⟩ (.bool true))).same D _ hKd rfl
    have HK3 := Lib.hid hK3
    clear hK3 hKd hr2 hcap hS
    gi_wp2_with fail
    rw [noGoto_ret']
    refine ⟨by simp, .inl ⟨_, _, rfl, run_takeDeferred HK3.out, ?_⟩⟩
    have hB3 : Below w.heap.size w ((V.setCell ⟨B + 1, 0, none⟩ (.int .i64 (IV v))).setCell ⟨B + 1 + 1, 0, none⟩ (.bool true)) := by
      rw [← HX.out.1]; exact (hB.1.setCell (p := ⟨B + 1, 0, none⟩) (show B ≤ B + 1 by omega) _).setCell (p := ⟨B + 1 + 1, 0, none⟩) (show B ≤ B + 1 + 1 by omega) _
    exact ⟨_, res_in2 rfl _ _ (B + 1) (B + 1 + 1) _ _ _ _ rfl rfl (def_cell HK3.out _ ((h1.set (.int .i64 (IV v))).other (B' := B + 1 + 1) (by omega) (.bool true)).cell) (def_cell HK3.out _ ((h2.other (B' := B + 1) (by omega) (.int .i64 (IV v))).set (.bool true)).cell) Tryd.underlying3 rfl Tryd.underlying4 rfl,
      by rw [HC.out], hB3.trans (belowK_b (w := w) (Nat.le_refl _) _ D _ _ (by have := HX.out.1; omega) HK3.out rfl rfl)⟩
  case stop =>
    rintro D c pre V hD ⟨r, hS⟩ ⟨rfl, hr2, h1, h2, hB⟩ hKd
    have hcap : capV h s.data.toList = (h, false) := by
      have := hr2 r
      rw [hS] at this
      exact this
    have HC := Lib.hid (And.intro hcap hKd)
    clear hr2 hcap hS hKd
    gi_wp2_with fail
    rw [noGoto_ret']
    refine ⟨by simp, .inl ⟨_, _, rfl, run_takeDeferred HC.out.2, ?_⟩⟩
    have hB3 : Below w.heap.size w V := by rw [← HX.out.1]; exact hB
    exact ⟨_, res_in2 rfl _ _ (B + 1) (B + 1 + 1) _ _ _ _ rfl rfl (def_cell HC.out.2 _ h1.cell) (def_cell HC.out.2 _ h2.cell) Tryd.underlying3 rfl Tryd.underlying4 rfl, by rw [HC.out.1], hB3.trans (belowK_b (w := w) (Nat.le_refl _) _ D _ _ (by have := HX.out.1; omega) HC.out.2 rfl rfl)⟩
end Go.Proofs.YtadojlmjapmbhaaDoor
