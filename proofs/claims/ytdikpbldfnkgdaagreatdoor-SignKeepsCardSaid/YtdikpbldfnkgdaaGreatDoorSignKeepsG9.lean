/- Texts of this proof, one behind the other. -/
import Derived.Test.YtdikpbldfnkgdaaGreatDoorSignKeepsG7
import Derived.Laws.Rows
import Derived.Test.YtdikpbldfnkgdaaGreatDoorSignKeepsG4
import Derived.Test.YtdikpbldfnkgdaaGreatDoorSignKeepsG3
import Derived.Test.YtdikpbldfnkgdaaGreatDoorSignKeepsG8
section
/- Layer 12: CutPrefix, Apply. -/
namespace Go.Proofs.YtdikpbldfnkgdaaGreatDoor
set_option linter.unusedVariables false
set_option linter.unusedSimpArgs false
open Go.RowKit Go.Shelf
attribute [local go_sem] Oper.semAt_some

/-- two results that lie in cells -/
theorem res_in2 {P : Program} {fn : Func} {p q : Tmp} {ty tz : TypeId} (h : fn.results = #[.cell p ty, .cell q tz]) (tmps : Array Value) (w : World) (g k : Nat) (v u : Value) (d d' : TypeDesc) (hp : tmps.getD p undef = .pointer (some ⟨g, 0, none⟩)) (hq : tmps.getD q undef = .pointer (some ⟨k, 0, none⟩))
    (hc : w.cell? ⟨g, 0, none⟩ = some v) (hc' : w.cell? ⟨k, 0, none⟩ = some u) (hu : P.underlying ty = some d) (hd : (match d with | .struct _ | .array _ _ => true | _ => false) = false) (hu' : P.underlying tz = some d') (hd' : (match d' with | .struct _ | .array _ _ => true | _ => false) = false) :
    (results fn tmps).run P w = .ok (.tuple #[v, u]) w := by
  have hp' : tmps[p]?.getD undef = .pointer (some ⟨g, 0, none⟩) := by simpa using hp
  have hq' : tmps[q]?.getD undef = .pointer (some ⟨k, 0, none⟩) := by simpa using hq
  have hagg : (isAgg ty).run P w = .ok false w := by
    unfold isAgg
    rw [Sem.run_bind, run_underlying hu w]
    cases d <;> simp_all
  have hagg' : (isAgg tz).run P w = .ok false w := by
    unfold isAgg
    rw [Sem.run_bind, run_underlying hu' w]
    cases d' <;> simp_all
  simp [results, h, hp', hq', asAddr, loadVar, Sem.run_bind, hagg, hagg', go_sem, hc, hc']

def cutB (s : ByteArray) : ByteArray × Bool := if headB s 45 = true then (s.extract 1 s.size, true) else (s, false)
theorem cutB_V (s : ByteArray) : ((cutB s).1.data.toList, (cutB s).2) = cutV s.data.toList := by
  unfold cutB headB
  have hx : (s.extract 1 s.size).data.toList = s.data.toList.drop 1 := by simp [List.take_of_length_le]
  cases hs : s.data.toList with
  | nil => simp [cutV, hs]
  | cons c r =>
    rw [hs] at hx
    by_cases h : c = 45
    · subst h; simp [cutV]; simpa using hx
    · simp [cutV, h, hs]
theorem cutB_len (s : ByteArray) : (cutB s).1.size ≤ s.size := by
  unfold cutB
  split
  · simp
  · exact Nat.le_refl _
theorem cut_lite (s : ByteArray) (w : World) (hs : s.size ≤ 1000000) :
    Calls Tryz.prog 65 #[.string s, .string ⟨#[45]⟩] w fun e w' => e = .returned (.tuple #[.string (cutB s).1, .bool (cutB s).2]) ∧ w = w' := by
  have hp : ∀ W, Calls Tryz.prog 79 #[.string s, .string ⟨#[45]⟩] W fun e w' => e = .returned (.bool (headB s 45)) ∧ W = w' := fun W => pre_lite s 45 W hs
  unfold cutB
  cases hb : headB s 45 with
  | false =>
    rw [hb] at hp
    clear hb
    go_enter Tryz.func65, Tryz.ntmps65
    go_wp2_with (go_at_call 79; refine (hp _).mono ?_; rintro e w' ⟨rfl, rfl⟩)
    go_ret2
    exact ⟨rfl, rfl⟩
  | true =>
    have hne : 1 ≤ s.size := by
      by_cases h0 : s.size = 0
      · rw [head_em (s := s) (c := 45) h0] at hb; cases hb
      · omega
    rw [hb] at hp
    clear hb
    go_enter Tryz.func65, Tryz.ntmps65
    go_wp2_with (go_at_call 79; refine (hp _).mono ?_; rintro e w' ⟨rfl, rfl⟩)
    go_ret2
    exact ⟨rfl, rfl⟩
theorem cut_any (s : ByteArray) (w : World) (hs : s.size ≤ 1000000) :
    Calls Tryz.prog 47 #[.string s, .string ⟨#[45]⟩] w fun e w' => e = .returned (.tuple #[.string (cutB s).1, .bool (cutB s).2]) ∧ w = w' := by
  go_enter Tryz.func47, Tryz.ntmps47
  go_wp2_with (go_at_call 65; refine (cut_lite s _ hs).mono ?_; rintro e w' ⟨rfl, rfl⟩)
  go_ret2
  exact ⟨rfl, rfl⟩

/-- so far all words were good -/
def GoodA (h : BitVec 64) (B : Nat) (pre : List Word) (W : World) : Prop := ∃ v : BitVec 64, Boxed W (B + 1 + 1 + 1) 3 (.int .i64 (IV v)) ∧ ∀ r, appV h h (wordsL pre ++ r) = appV h v r
/-- the last word was bad -/
def BadA (h : BitVec 64) (B : Nat) (w : World) (pre : List Word) (W : World) : Prop := (∀ r, appV h h (wordsL pre ++ r) = (h, false)) ∧ Boxed W (B + 1) 3 (.int .i64 (IV h)) ∧ Boxed W (B + 1 + 1) 4 (.bool false) ∧ Below B w W

theorem keeps_of_below {W W' : World} (h : Below W.heap.size W W') : KeepsOthers W W' := ⟨h.size, fun k o hk _ => (h.block k (Array.getElem?_eq_some_iff.1 hk).1).trans hk⟩
theorem boxed_below {W W' : World} {b : Nat} {t : TypeId} {v : Value} (k : Boxed W b t v) (h : Below W.heap.size W W') : Boxed W' b t v := (h.block b k.lt).trans k

set_option maxRecDepth 100000 in
set_option maxHeartbeats 8000000 in
theorem apply_any (h : BitVec 64) (s : ByteArray) (w : World) (hs : s.size ≤ 1000000) (hK : Known w) :
    Calls Tryz.prog 20 #[.int .i64 (IV h), .string s] w fun e w' => e = .returned (.tuple #[.int .i64 (IV (capV h s.data.toList).1), .bool (capV h s.data.toList).2]) ∧ Below w.heap.size w w' := by
  refine (callsIn_wide (n := 6)).1 ?_
  refine callsIn_of_wp_marks Tryz.func20 rfl trivial ?_ rfl
  simp only [Tryz.ntmps20, List.size_toArray, List.length_cons, List.length_nil, Nat.reduceAdd, Nat.reduceSub, Array.replicate_succ, Array.replicate_zero, List.push_toArray, List.append_toArray, List.nil_append, List.cons_append]
  gi_wp2_with fail
  refine wpIn_scope ?_
  gi_wp2_with fail
  refine wpIn_label ?_
  gi_wp2_with fail
  refine ⟨trivial, ((callsIn_wide (n := 5)).2 (split_any _ _)).mono ?_⟩
  rintro e w2 ⟨rfl, hw2⟩
  have a0 := ((Boxed.new w 3 (.int .i64 (IV h))).alloc (.cells #[.int .i64 0] 3)).alloc (.cells #[.bool false] 4)
  have a1 := (Boxed.new (w.alloc (.cells #[.int .i64 (IV h)] 3)) 3 (.int .i64 0)).alloc (.cells #[.bool false] 4)
  have a2 := Boxed.new ((w.alloc (.cells #[.int .i64 (IV h)] 3)).alloc (.cells #[.int .i64 0] 3)) 4 (.bool false)
  obtain ⟨w3, hw3⟩ : ∃ w3, ((w.alloc (.cells #[.int .i64 (IV h)] 3)).alloc (.cells #[.int .i64 0] 3)).alloc (.cells #[.bool false] 4) = w3 := ⟨_, rfl⟩
  have hz3 : w3.heap.size = w.heap.size + 1 + 1 + 1 := by rw [← hw3]; simp
  have hB3 : Below w.heap.size w w3 := by rw [← hw3]; exact (((Below.refl _ w).alloc (Nat.le_refl _) _).alloc (by simp) _).alloc (by simp; omega) _
  rw [hw3] at a0 a1 a2 hw2
  have a3 := Boxed.new w3 3 (.int .i64 (IV h))
  obtain ⟨w4, hw4⟩ : ∃ w4, w3.alloc (.cells #[.int .i64 (IV h)] 3) = w4 := ⟨_, rfl⟩
  have hz4 : w4.heap.size = w.heap.size + 1 + 1 + 1 + 1 := by rw [← hw4, World.size_alloc, hz3]
  have hB4 : Below w.heap.size w w4 := by rw [← hw4]; exact hB3.alloc (by omega) _
  replace a0 := a0.alloc (.cells #[.int .i64 (IV h)] 3)
  replace a1 := a1.alloc (.cells #[.int .i64 (IV h)] 3)
  replace a2 := a2.alloc (.cells #[.int .i64 (IV h)] 3)
  rw [hw4] at a0 a1 a2 a3 hw2
  have b0 := ((Boxed.new w4 9 (.string s)).alloc (.cells #[.string ⟨#[32]⟩] 9)).alloc (.cells #[.int .i64 0] 3)
  have b1 := (Boxed.new (w4.alloc (.cells #[.string s] 9)) 9 (.string ⟨#[32]⟩)).alloc (.cells #[.int .i64 0] 3)
  have b2 := Boxed.new ((w4.alloc (.cells #[.string s] 9)).alloc (.cells #[.string ⟨#[32]⟩] 9)) 3 (.int .i64 0)
  have hz2 : w2.heap.size = w4.heap.size + 3 := by rw [hw2]; simp
  have hB2 : Below w.heap.size w w2 := by rw [hw2]; exact ((hB4.alloc (by omega) _).alloc (by rw [World.size_alloc]; omega) _).alloc (by rw [World.size_alloc, World.size_alloc]; omega) _
  replace a0 := ((a0.alloc (.cells #[.string s] 9)).alloc (.cells #[.string ⟨#[32]⟩] 9)).alloc (.cells #[.int .i64 0] 3)
  replace a1 := ((a1.alloc (.cells #[.string s] 9)).alloc (.cells #[.string ⟨#[32]⟩] 9)).alloc (.cells #[.int .i64 0] 3)
  replace a2 := ((a2.alloc (.cells #[.string s] 9)).alloc (.cells #[.string ⟨#[32]⟩] 9)).alloc (.cells #[.int .i64 0] 3)
  replace a3 := ((a3.alloc (.cells #[.string s] 9)).alloc (.cells #[.string ⟨#[32]⟩] 9)).alloc (.cells #[.int .i64 0] 3)
  rw [← hw2] at b0 b1 b2 a0 a1 a2 a3
  simp only [World.size_alloc] at b1 b2 a1 a2
  rw [hz3] at a3
  rw [hz4] at b0 b1 b2 hz2
  simp only [World.size_alloc, hw3, hw4, hz3, hz4]
  obtain ⟨B, hBd⟩ : ∃ B, B = w.heap.size := ⟨_, rfl⟩
  rw [← hBd] at b0 b1 b2 a0 a1 a2 a3 hz2 hB2 ⊢
  have hK2 := hK.kept (by rw [← hBd]; exact hB2)
  have hlw : B ≤ w.heap.size := by omega
  have HX := Lib.hid (And.intro hBd (And.intro hz3 (And.intro hz4 (And.intro hB3 hB4))))
  clear hBd hz3 hz4 hw2 hw3 hw4 hB3 hB4
  gi_wp2_with fail
  have ne : ∀ {A : World} {row : Option Nat} {b : Nat} {t : TypeId} {v : Value}, (∀ r, row = some r → w2.heap.size ≤ r ∧ ∃ o : Obj, A.heap[r]? = some o ∧ o.isCells = false) → Boxed A b t v → some b ≠ row := fun {A row b t v} hr h e => by
    obtain ⟨_, o, ho, hc⟩ := hr b e.symm
    rw [show A.heap[b]? = _ from h] at ho; cases ho; cases hc
  refine wpIn_rangeW (X := fun b => b = B + 1 + 1 + 1 + 1 ∨ b = B + 1 + 1 + 1 + 1 + 1 ∨ b = B + 1 + 1 + 1 + 1 + 1 + 1) (encs := encWord) (gf := 77) (lb := #[.pointer (some ⟨B + 1 + 1 + 1 + 1 + 1, 0, none⟩), .pointer (some ⟨B + 1 + 1 + 1 + 1, 0, none⟩), .pointer (some ⟨B + 1 + 1 + 1 + 1 + 1 + 1, 0, none⟩)])
    (fun pre W => ((Boxed W B 3 (.int .i64 (IV h)) ∧ Boxed W (B + 1) 3 (.int .i64 0) ∧ Boxed W (B + 1 + 1) 4 (.bool false)) ∧ (Below B w W ∧ w2.heap.size ≤ W.heap.size)) ∧ GoodA h B pre W)
    (fun c pre W => c = .ret ∧ BadA h B w pre W)
    (fun x => { tmps := #[.int .i64 (IV h), .string s, .pointer (some ⟨B, 0, none⟩), undef, .pointer (some ⟨B + 1, 0, none⟩), .pointer (some ⟨B + 1 + 1, 0, none⟩), .pointer (some ⟨B + 1 + 1 + 1, 0, none⟩), .string x.1, undef, undef, undef, .int .i64 (IV h), .string s,
      .func (.func 77) #[] #[.pointer (some ⟨B + 1 + 1 + 1 + 1 + 1, 0, none⟩), .pointer (some ⟨B + 1 + 1 + 1 + 1, 0, none⟩), .pointer (some ⟨B + 1 + 1 + 1 + 1 + 1 + 1, 0, none⟩)], .string x.1, undef, undef, undef, undef, undef, undef, undef, undef, undef, undef, undef, undef, undef, undef, undef, undef, undef, undef, undef, undef, undef, undef], defers := [] })
    rfl (split_stops 5 (by omega) (B + 1 + 1 + 1 + 1) s w2 hs b0 b1 b2) (Below.refl _ _) (fun b hb => by omega) rfl (by omega) trivial (enters_of Tryz.func77 (by kernel_rfl) rfl) (fun _ => rfl)
    (fun pre A C row hh hg hr => by
      obtain ⟨⟨⟨h0, h1, h2⟩, hB⟩, v, hv, hr2⟩ := hh
      exact ⟨⟨⟨h0.kept hg (ne hr h0), h1.kept hg (ne hr h1), h2.kept hg (ne hr h2)⟩, hB.1.grown hg (by have := h0.lt; omega) (fun k e => by have := (hr k e).1; omega), Nat.le_trans hB.2 hg.size⟩, v, hv.kept hg (ne hr hv), hr2⟩)
    (fun pre A C b hb hh hg => by
      obtain ⟨⟨⟨h0, h1, h2⟩, hB⟩, v, hv, hr2⟩ := hh
      exact ⟨⟨⟨h0.kept hg (by simp; omega), h1.kept hg (by simp; omega), h2.kept hg (by simp; omega)⟩, hB.1.grown hg (by have := h0.lt; omega) (fun k e => by cases e; omega), Nat.le_trans hB.2 hg.size⟩, v, hv.kept hg (by simp; omega), hr2⟩)
    (fun c pre A C row hh hg hr => by
      obtain ⟨rfl, hr2, h1, h2, hB⟩ := hh
      exact ⟨rfl, hr2, h1.kept hg (ne hr h1), h2.kept hg (ne hr h2), hB.grown hg (by have := h1.lt; omega) (fun k e => by have := (hr k e).1; omega)⟩)
    (fun c pre A C b hb hh hg => by
      obtain ⟨rfl, hr2, h1, h2, hB⟩ := hh
      exact ⟨rfl, hr2, h1.kept hg (by simp; omega), h2.kept hg (by simp; omega), hB.grown hg (by have := h1.lt; omega) (fun k e => by cases e; omega)⟩)
    ⟨⟨⟨a0, a1, a2⟩, hB2, Nat.le_refl _⟩, h, a3, fun r => by simp [wordsL]⟩ ?assign ?body ?done ?stop
  case assign =>
    intro l x V K hKK
    gi_wp2
    exact hKK
  case body =>
    rintro l pre ⟨x, hx⟩ W ⟨⟨⟨h0, h1, h2⟩, hB⟩, v, hv, hr2⟩ hlt
    have hsn : ∀ r, wordsL (pre ++ [⟨x, hx⟩]) ++ r = wordsL pre ++ (x.data.toList :: r) := fun r => by rw [wordsL_snoc]; simp
    have hKW := hK.kept (by rw [← HX.out.1]; exact hB.1)
    have HK := Lib.hid (And.intro hKW (And.intro hsn hr2))
    clear hKW hsn hr2
    by_cases hem : x.size = 0
    · have q := str_em hem
      have HE : Hid (x.data.toList = []) := str_nil hem
      clear hem
      gi_wp2_with fail
      exact ⟨(KeepsOthers.refl _).from _, fun _ _ => rfl, ⟨⟨h0, h1, h2⟩, hB⟩, v, hv, fun r => by rw [HK.out.2.1, HE.out, HK.out.2.2, appV_skip]⟩
    · have q := str_ne (s := x) (by omega)
      have hne : x.data.toList ≠ [] := fun e => hem (by have := congrArg List.length e; simpa using this)
      have hC : ∀ W, Calls Tryz.prog 47 #[.string x, .string ⟨#[45]⟩] W fun e w' => e = .returned (.tuple #[.string (cutB x).1, .bool (cutB x).2]) ∧ W = w' := fun W => cut_any x W hx
      have hcv := cutB_V x
      obtain ⟨⟨nm, off⟩, hcb⟩ : ∃ y, cutB x = y := ⟨_, rfl⟩
      rw [hcb] at hC hcv
      have hN : ∀ W, Known W → Calls Tryz.prog 48 #[.string nm] W fun e w' => e = .returned (.int .i64 (IV (numV nm.data.toList))) ∧ Below W.heap.size W w' := fun W hk => number_any nm W hk
      have hc1 : numV (cutV x.data.toList).1 = numV nm.data.toList := by rw [← hcv]
      have hc2 : (cutV x.data.toList).2 = off := by rw [← hcv]
      obtain ⟨m, hm⟩ : ∃ m, numV nm.data.toList = m := ⟨_, rfl⟩
      rw [hm] at hN hc1
      have HC := Lib.hid (And.intro hne (And.intro hc1 hc2))
      have c0 := h0.cell
      have hsz := hB.2
      clear hem hne hcv hcb hc1 hc2 hm
      simp only at hC
      by_cases hm0 : m = 0#64
      · have q0 : ((IV m) == 0) = true := by rw [hm0]; rfl
        have HM := Lib.hid hm0
        clear hm0
        gi_wp2_with fail
        refine ⟨trivial, ?_⟩
        refine (CallsIn.inRound l ((callsIn_wide (n := 3)).2 (hC _))).mono ?_
        rintro e w' ⟨rfl, rfl⟩
        gi_wp2_with fail
        refine ⟨trivial, ?_⟩
        refine (CallsIn.inRound l ((callsIn_wide (n := 3)).2 (hN _ HK.out.1))).mono ?_
        rintro e W3 ⟨rfl, q3⟩
        have k0 := boxed_below h0 q3; have k1 := boxed_below h1 q3; have k2 := boxed_below h2 q3
        have e0 := k0.cell; have e1 := k1.cell; have f1 := k1.frozen; have e2 := k2.cell; have f2 := k2.frozen
        have Q3 := Lib.hid (And.intro q3 (And.intro (keeps_of_below q3) hB))
        clear q3 c0 hB
        gi_wp2_with fail
        exact ⟨((Q3.out.2.1.trans (KeepsOthers.setCell _ _ _)).trans (KeepsOthers.setCell _ _ _)).from _, rfl, fun r => by rw [HK.out.2.1, HK.out.2.2, appV_bad HC.out.1 (by rw [HC.out.2.1, HM.out])], (k1.set _).other (by omega) _, (k2.other (by omega) _).set _,
          (((Q3.out.2.2.1.trans (Q3.out.1.mono (by omega))).setCell (p := ⟨B + 1, 0, none⟩) (show B ≤ B + 1 by omega) _).setCell (p := ⟨B + 1 + 1, 0, none⟩) (show B ≤ B + 1 + 1 by omega) _)⟩
      · have q0 : ((IV m) == 0) = false := by
          have := IV_beq m 0#64
          rw [show IV 0#64 = 0 from rfl] at this
          rw [this]; simpa using hm0
        have HM := Lib.hid hm0
        have hb1 := bits_andNot_v v m
        have hb2 := bits_or_v v m
        clear hm0
        cases off with
        | true =>
          gi_wp2_with fail
          refine ⟨trivial, ?_⟩
          refine (CallsIn.inRound l ((callsIn_wide (n := 3)).2 (hC _))).mono ?_
          rintro e w' ⟨rfl, rfl⟩
          gi_wp2_with fail
          refine ⟨trivial, ?_⟩
          refine (CallsIn.inRound l ((callsIn_wide (n := 3)).2 (hN _ HK.out.1))).mono ?_
          rintro e W3 ⟨rfl, q3⟩
          have k0 := boxed_below h0 q3; have k1 := boxed_below h1 q3; have k2 := boxed_below h2 q3; have k3 := boxed_below hv q3
          have e3 := k3.cell; have f3 := k3.frozen
          have Q3 := Lib.hid (And.intro q3 (And.intro (keeps_of_below q3) hB))
          clear q3 c0 hB
          gi_wp2_with fail
          exact ⟨(Q3.out.2.1.trans (KeepsOthers.setCell _ _ _)).from _, fun b hb => (Below.heap_setCell _ _ _ _ (show b ≠ B + 1 + 1 + 1 by omega)).trans (Q3.out.1.block b (by omega)), ⟨⟨k0.other (by omega) _, k1.other (by omega) _, k2.other (by omega) _⟩, (Q3.out.2.2.1.trans (Q3.out.1.mono (by omega))).setCell (p := ⟨B + 1 + 1 + 1, 0, none⟩) (show B ≤ B + 1 + 1 + 1 by omega) _, by have := Q3.out.1.size; simp [World.setCell]; omega⟩,
            v &&& ~~~m, k3.set _, fun r => by rw [HK.out.2.1, HK.out.2.2, appV_good HC.out.1 (by rw [HC.out.2.1]; exact HM.out), HC.out.2.1, HC.out.2.2]; rfl⟩
        | false =>
          gi_wp2_with fail
          refine ⟨trivial, ?_⟩
          refine (CallsIn.inRound l ((callsIn_wide (n := 3)).2 (hC _))).mono ?_
          rintro e w' ⟨rfl, rfl⟩
          gi_wp2_with fail
          refine ⟨trivial, ?_⟩
          refine (CallsIn.inRound l ((callsIn_wide (n := 3)).2 (hN _ HK.out.1))).mono ?_
          rintro e W3 ⟨rfl, q3⟩
          have k0 := boxed_below h0 q3; have k1 := boxed_below h1 q3; have k2 := boxed_below h2 q3; have k3 := boxed_below hv q3
          have e3 := k3.cell; have f3 := k3.frozen
          have Q3 := Lib.hid (And.intro q3 (And.intro (keeps_of_below q3) hB))
          clear q3 c0 hB
          gi_wp2_with fail
          exact ⟨(Q3.out.2.1.trans (KeepsOthers.setCell _ _ _)).from _, fun b hb => (Below.heap_setCell _ _ _ _ (show b ≠ B + 1 + 1 + 1 by omega)).trans (Q3.out.1.block b (by omega)), ⟨⟨k0.other (by omega) _, k1.other (by omega) _, k2.other (by omega) _⟩, (Q3.out.2.2.1.trans (Q3.out.1.mono (by omega))).setCell (p := ⟨B + 1 + 1 + 1, 0, none⟩) (show B ≤ B + 1 + 1 + 1 by omega) _, by have := Q3.out.1.size; simp [World.setCell]; omega⟩,
            v ||| m, k3.set _, fun r => by rw [HK.out.2.1, HK.out.2.2, appV_good HC.out.1 (by rw [HC.out.2.1]; exact HM.out), HC.out.2.1, HC.out.2.2]; rfl⟩
  case done =>
    rintro D xs V hD hS ⟨⟨⟨h0, h1, h2⟩, hB⟩, v, hv, hr2⟩ hKd
    have hcap : capV h s.data.toList = (v, true) := by
      have := hr2 []
      rw [List.append_nil, hS] at this
      exact this
    have HC := Lib.hid hcap
    have e1 := h1.cell; have f1 := h1.frozen; have e2 := h2.cell; have f2 := h2.frozen; have e3 := hv.cell
    have hK3 : ((V.setCell ⟨B + 1, 0, none⟩ (.int .i64 (IV v))).setCell ⟨B + 1 + 1, 0, none⟩ (.bool true)).heap[D]? = some (.deferred (some [])) := ((KeepsOthers.setCell V ⟨B + 1, 0, none⟩ (.int .i64 (IV v))).trans (KeepsOthers.setCell _ ⟨B + 1 + 1, 0, none⟩ (.bool true))).same D _ hKd rfl
    have HK3 := Lib.hid hK3
    clear hK3 hKd hr2 hcap hS
    gi_wp2_with fail
    rw [noGoto_ret']
    refine ⟨by simp, .inl ⟨_, _, rfl, run_takeDeferred HK3.out, ?_⟩⟩
    have hB3 : Below w.heap.size w ((V.setCell ⟨B + 1, 0, none⟩ (.int .i64 (IV v))).setCell ⟨B + 1 + 1, 0, none⟩ (.bool true)) := by
      rw [← HX.out.1]; exact (hB.1.setCell (p := ⟨B + 1, 0, none⟩) (show B ≤ B + 1 by omega) _).setCell (p := ⟨B + 1 + 1, 0, none⟩) (show B ≤ B + 1 + 1 by omega) _
    exact ⟨_, res_in2 rfl _ _ (B + 1) (B + 1 + 1) _ _ _ _ rfl rfl (def_cell HK3.out _ ((h1.set (.int .i64 (IV v))).other (B' := B + 1 + 1) (by omega) (.bool true)).cell) (def_cell HK3.out _ ((h2.other (B' := B + 1) (by omega) (.int .i64 (IV v))).set (.bool true)).cell) Tryz.underlying3 rfl Tryz.underlying4 rfl,
      by rw [HC.out], hB3.trans (belowK_b (w := w) (Nat.le_refl _) _ D _ _ (by have := HX.out.1; omega) HK3.out rfl rfl)⟩
  case stop =>
    rintro D c pre V hD ⟨r, hS⟩ ⟨rfl, hr2, h1, h2, hB⟩ hKd
    have hcap : capV h s.data.toList = (h, false) := by
      have := hr2 r
      rw [hS] at this
      exact this
    have HC := Lib.hid (And.intro hcap hKd)
    clear hr2 hcap hS hKd
    gi_wp2_with fail
    rw [noGoto_ret']
    refine ⟨by simp, .inl ⟨_, _, rfl, run_takeDeferred HC.out.2, ?_⟩⟩
    have hB3 : Below w.heap.size w V := by rw [← HX.out.1]; exact hB
    exact ⟨_, res_in2 rfl _ _ (B + 1) (B + 1 + 1) _ _ _ _ rfl rfl (def_cell HC.out.2 _ h1.cell) (def_cell HC.out.2 _ h2.cell) Tryz.underlying3 rfl Tryz.underlying4 rfl, by rw [HC.out.1], hB3.trans (belowK_b (w := w) (Nat.le_refl _) _ D _ _ (by have := HX.out.1; omega) HC.out.2 rfl rfl)⟩
end Go.Proofs.YtdikpbldfnkgdaaGreatDoor
end
section
/- Layer 12: the answers' Number, bit. -/
namespace Go.Proofs.YtdikpbldfnkgdaaGreatDoor
set_option linter.unusedVariables false
set_option linter.unusedSimpArgs false
open Go.RowKit Go.Shelf







end Go.Proofs.YtdikpbldfnkgdaaGreatDoor
end
section
/- strings.Join of a row of texts of the call's own (or nil). -/
namespace Go.Proofs.YtdikpbldfnkgdaaGreatDoor
set_option linter.unusedVariables false
set_option linter.unusedSimpArgs false
open Go Go.RowKit Go.Lib

theorem bs_back (l : List UInt8) : (bs l).data.toList = l := rfl
theorem join_own {base : Nat} {W : World} {A : Option Addr} {c : Nat} {xs : List (List UInt8)} (h : OwnT base W (.slice A xs.length c) xs) (sep : ByteArray) (hl : (Lib.join xs sep.data.toList).length ≤ 1000000) (hn : xs.length ≤ 1000000) :
    Calls Tryz.prog 44 #[.slice A xs.length c, .string sep] W fun e w' => e = .returned (.string (bs (Lib.join xs sep.data.toList))) ∧ RowKit.Below W.heap.size W w' := by
  rcases h.2 with ⟨h1, h2⟩ | ⟨g, cap, cur, h1, h3, h4, h5, h8, h6, h7⟩
  · have h3 : xs = [] := List.length_eq_zero_iff.1 h2
    subst h3
    refine (Tryz.strings_Join_none A c sep W).mono ?_
    rintro e w' ⟨rfl, rfl⟩
    exact ⟨by rw [Lib.join_nil]; rfl, Below.refl _ _⟩
  · injection h1 with q1 q2 q3
    subst q1
    have hr := reads_ownT h
    have hm : (xs.map fun x => (bs x)).map (fun x => x.data.toList) = xs := by
      rw [List.map_map]
      exact List.map_id' xs
    have := Tryz.strings_Join g 0 c (xs.map fun x => bs x) sep W (fun j x hj => by
      rw [List.getElem?_map, Option.map_eq_some_iff] at hj
      obtain ⟨y, hy, rfl⟩ := hj
      have hlt : j < xs.length := (List.getElem?_eq_some_iff.1 hy).1
      obtain ⟨g', o, e1, hg, hc⟩ := hr (by omega)
      injection e1 with e1
      injection e1 with e1 e2 _
      subst e1
      subst e2
      rw [hc j hlt, (List.getElem?_eq_some_iff.1 hy).2]) (blk_lt h4) (by rw [List.length_map]; omega) (by rw [List.length_map]; omega) (by rw [hm]; omega)
    rw [List.length_map, hm] at this
    exact this
end Go.Proofs.YtdikpbldfnkgdaaGreatDoor
end
section
/- Layer 12: Text, and the answers' Text. -/
namespace Go.Proofs.YtdikpbldfnkgdaaGreatDoor
set_option linter.unusedVariables false
set_option linter.unusedSimpArgs false
open Go Go.RowKit Go.Shelf Go.Lib
attribute [local go_sem] Oper.semAt_some

theorem cap_num {x : CapE} (h : x ∈ knownC) : IV (BitVec.ofInt 64 x.2) = x.2 := by
  simp only [knownC, List.mem_cons, List.not_mem_nil, or_false] at h
  rcases h with rfl | rfl | rfl <;> decide +kernel
/-- the names of those among these that are had -/
def rowOf (v : BitVec 64) (pre : List CapE) : List (List UInt8) := (pre.filter fun x => hasV v (BitVec.ofInt 64 x.2)).map fun x => x.1.data.toList
theorem rowOf_snoc (v : BitVec 64) (pre : List CapE) (x : CapE) : rowOf v (pre ++ [x]) = rowOf v pre ++ (if hasV v (BitVec.ofInt 64 x.2) then [x.1.data.toList] else []) := by
  unfold rowOf
  rw [List.filter_append, List.map_append]
  cases h : hasV v (BitVec.ofInt 64 x.2) <;> simp [List.filter, h]
theorem rowOf_len (v : BitVec 64) (pre : List CapE) : (rowOf v pre).length ≤ pre.length := by
  unfold rowOf
  rw [List.length_map]
  exact List.length_filter_le _ _
/-- the same of three answers -/
def txB (b0 b1 b2 : Bool) (k : Nat) : List UInt8 := Lib.join ((((knownC.zip [b0, b1, b2]).take k).filter (·.2)).map fun p => p.1.1.data.toList) [32]
theorem tx_row (v : BitVec 64) : Lib.join (rowOf v knownC) [32] = txB (hasV v 1#64) (hasV v 2#64) (hasV v 4#64) 3 := by
  have h1 : BitVec.ofInt 64 1 = 1#64 := by decide +kernel
  have h2 : BitVec.ofInt 64 2 = 2#64 := by decide +kernel
  have h4 : BitVec.ofInt 64 4 = 4#64 := by decide +kernel
  unfold rowOf txB knownC
  cases a : hasV v 1#64 <;> cases b : hasV v 2#64 <;> cases c : hasV v 4#64 <;> simp [List.filter, h1, h2, h4, a, b, c]
theorem txc_len (b0 b1 b2 : Bool) : ∀ k, k ≤ 3 → (txB b0 b1 b2 k).length ≤ 100 := by
  intro k hk
  have : k = 0 ∨ k = 1 ∨ k = 2 ∨ k = 3 := by omega
  rcases this with rfl | rfl | rfl | rfl <;> cases b0 <;> cases b1 <;> cases b2 <;> decide +kernel
theorem tx_0 (b0 b1 b2 : Bool) : txB b0 b1 b2 0 = [] := by cases b0 <;> cases b1 <;> cases b2 <;> rfl
theorem tx_1 (b0 b1 b2 : Bool) : txB b0 b1 b2 1 = if b0 then awayB.data.toList else txB b0 b1 b2 0 := by cases b0 <;> cases b1 <;> cases b2 <;> decide +kernel
theorem tx_2 (b0 b1 b2 : Bool) : txB b0 b1 b2 2 = if b1 then (if txB b0 b1 b2 1 = [] then echoB.data.toList else txB b0 b1 b2 1 ++ [32] ++ echoB.data.toList) else txB b0 b1 b2 1 := by cases b0 <;> cases b1 <;> cases b2 <;> decide +kernel
theorem tx_3 (b0 b1 b2 : Bool) : txB b0 b1 b2 3 = if b2 then (if txB b0 b1 b2 2 = [] then multiB.data.toList else txB b0 b1 b2 2 ++ [32] ++ multiB.data.toList) else txB b0 b1 b2 2 := by cases b0 <;> cases b1 <;> cases b2 <;> decide +kernel
theorem and_two (v : BitVec 64) (i : Nat) (m : BitVec 64) (hm : BitVec.twoPow 64 i = m) : v &&& m = if v.getLsbD i then m else 0#64 := by
  subst hm
  exact BitVec.and_twoPow v i
theorem bit_has (v : BitVec 64) : ((v &&& 1#64) == 1#64) = hasV v 1#64 ∧ ((v &&& 2#64) == 2#64) = hasV v 2#64 ∧ ((v &&& 4#64) == 4#64) = hasV v 4#64 := by
  have k1 : (knownC.any fun x => x.2 == IV 1#64) = true := by decide +kernel
  have k2 : (knownC.any fun x => x.2 == IV 2#64) = true := by decide +kernel
  have k4 : (knownC.any fun x => x.2 == IV 4#64) = true := by decide +kernel
  refine ⟨?_, ?_, ?_⟩
  · unfold hasV; rw [k1, and_two v 0 1#64 (by decide +kernel)]; cases v.getLsbD 0 <;> decide +kernel
  · unfold hasV; rw [k2, and_two v 1 2#64 (by decide +kernel)]; cases v.getLsbD 1 <;> decide +kernel
  · unfold hasV; rw [k4, and_two v 2 4#64 (by decide +kernel)]; cases v.getLsbD 2 <;> decide +kernel
def BoxC (S base : Nat) (v : BitVec 64) (pre : List CapE) (X : Nat → Prop) (W : World) : Prop := ∃ u, W.heap[S]? = some (.cells #[u] 24 (0, 0)) ∧ OwnT base W u (rowOf v pre) ∧ S < base ∧ ∀ k, X k ↔ (k = S ∨ u.ownBlock = some k)
theorem boxC_stays (S base : Nat) (v : BitVec 64) : Stays (BoxC S base v) := fun pre X V V' ⟨u, h1, h2, h3, h4⟩ hl hf =>
  ⟨u, hf.blk h1 (fun e => e ((h4 S).2 (.inl rfl))), ownT_kept h2 fun g hg => hf.block g (h2.lt g hg).2 fun e => e ((h4 g).2 (.inr hg)), h3, h4⟩
set_option maxRecDepth 100000 in
set_option maxHeartbeats 8000000 in
theorem textC_any (v : BitVec 64) (w : World) (hK : Known w) :
    Calls Tryz.prog 19 #[.int .i64 (IV v)] w fun e w' => e = .returned (.string (bs (txB (hasV v 1#64) (hasV v 2#64) (hasV v 4#64) 3))) ∧ RowKit.Below w.heap.size w w' := by
  obtain ⟨i0, hi, hz0, hz1, hz2⟩ := info_parts Tryz.infoT
  refine (callsIn_wide (n := 20)).1 ?_
  refine callsIn_of_wp_marks Tryz.func19 rfl trivial ?_ rfl
  simp only [Tryz.ntmps19, List.size_toArray, List.length_cons, List.length_nil, Nat.reduceAdd, Nat.reduceSub, Array.replicate_succ, Array.replicate_zero, List.push_toArray, List.append_toArray, List.nil_append, List.cons_append]
  gi_wp2_with fail
  refine ⟨trivial, (calls_wide (.inl rfl) (all_any _)).mono ?_⟩
  rintro e w1 ⟨rfl, hw1⟩
  have hb0 : w1.heap[w.heap.size]? = some (.cells #[.int .i64 (IV v)] 3 (0, 0)) := by rw [hw1]; exact blk_alloc (heap_alloc_new w _) _
  have hb1 : w1.heap[w.heap.size + 1]? = some (.cells #[.slice none 0 0] 24 (0, 0)) := by rw [hw1]; exact heap_alloc2_new w _ _
  have f1 : Fr (fun _ => False) w w1 := by rw [hw1]; exact ((Fr.refl _ w).alloc _).alloc _
  have z1 : w1.heap.size = w.heap.size + 2 := by rw [hw1]; simp
  have hK1 := hK.kept (f1.below (Nat.le_refl _) fun _ _ e => e.elim)
  have hKl := hK.lt
  have H := Lib.hid (And.intro hb0 (And.intro hb1 (And.intro f1 (And.intro z1 (And.intro hK1 hKl)))))
  clear hw1 hb0 hb1 f1 z1 hK1 hKl hK
  gi_wp2_with fail
  obtain ⟨hb0, hb1, f1, z1, hK1, hKl⟩ := H.out
  refine wpIn_rangeF (X := fun k => k = w.heap.size + 1) (Y := knownY) (xs := knownC) (encs := encCap) (gf := 63) (lb := #[]) (BoxC (w.heap.size + 1) w1.heap.size v) (fun _ _ _ _ => False)
    rfl (all_seqF w1 hK1) (fun k hk => ⟨by omega, fun e => by unfold knownY at e; omega⟩) (fun k hk => by unfold knownY at hk; omega) (by omega) (enters_of Tryz.func63 (by kernel_rfl) rfl) (fun _ => rfl)
    (boxC_stays _ _ _) (fun c s X1 V1 V2 h => h.elim) ⟨_, hb1, ownT_nil _ _, by omega, fun k => by simp [Value.ownBlock]⟩ ?round ?done (fun _ _ _ _ _ _ _ _ _ _ _ h => h.elim)
  case round =>
    rintro l pre ⟨nm, m⟩ r X1 V K rb hl2 hpx hI hG hxl hF hlV hK
    dsimp only [encCap]
    have HK := Lib.hid hK
    have HV := Lib.hid (And.intro hpx (And.intro hI (And.intro hG (And.intro hxl (And.intro hF (And.intro hlV hl2))))))
    clear hK hpx hI hG hxl hF hlV hl2 f1 hb0 hb1 z1 hK1 hKl
    gi_wp2_with fail
    refine HK.out _ _ (Fr.refl _ _) fun Vb hfb hzb hsb hrb => ?_
    clear HK K
    obtain ⟨hpx, ⟨vb, k3, o3, hSl, hX1⟩, hG, hxl, hF, hlV, hl2⟩ := HV.out
    obtain ⟨hb0, hb1, f1, z1, hK1, hKl⟩ := H.out
    have hmem : ((nm, m) : CapE) ∈ knownC := by rw [← hpx]; exact List.mem_append_right _ List.mem_cons_self
    have hnum := cap_num hmem
    have hpl : (rowOf v pre).length ≤ 3 := by
      have h1 := rowOf_len v pre
      have h2 := congrArg List.length hpx
      rw [List.length_append] at h2
      have : knownC.length = 3 := rfl
      omega
    have k0 := hfb.blk (hF.blk hb0 (by omega)) (by omega)
    have c0 := blk_cell k0 0
    have k3b := hfb.blk k3 (fun e => hxl ((hX1 l).2 (.inl e.symm)))
    have o3b : OwnT w1.heap.size Vb vb (rowOf v pre) := ownT_kept o3 fun g hg => hfb.block g (o3.lt g hg).2 fun e => hxl ((hX1 l).2 (.inr (e ▸ hg)))
    have c3 := blk_cell k3b 0
    have hzs : Vb.heap.size = V.heap.size := hzb
    have hbz : w1.heap.size ≤ Vb.heap.size := by omega
    have hKb : Known Vb := hK1.same ((hfb.block _ (by have := hF.size; omega) (by omega)).trans (hF.block _ (by omega) (by omega)))
    have hhas := has_any v (BitVec.ofInt 64 m) Vb hKb
    rw [hnum] at hhas
    obtain ⟨b, hb⟩ : ∃ b, hasV v (BitVec.ofInt 64 m) = b := ⟨_, rfl⟩
    rw [hb] at hhas
    have hsn := rowOf_snoc v pre (nm, m)
    dsimp only at hsn
    rw [hb] at hsn
    have HH := Lib.hid hhas
    have HE := Lib.hid (And.intro hX1 (And.intro hG (And.intro hxl (And.intro hfb (And.intro hrb (And.intro k3b (And.intro o3b (And.intro hzs (And.intro hlV (And.intro hSl (And.intro hl2 hsn)))))))))))
    clear hpx k3 o3 hSl hX1 hG hxl hF hlV hl2 f1 hb0 hb1 z1 k3b k0 o3b hfb hzb hsb hrb hzs hK1 hKl hKb hhas hnum hmem hb hsn
    gi_wp2_with fail
    refine ⟨trivial, (calls_wide (.inr ⟨l, rfl⟩) HH.out).mono ?_⟩
    rintro e W5 ⟨rfl, b5⟩
    have f5 : Fr (fun _ => False) Vb W5 := Fr.of_below b5
    have hz5 := f5.size
    have k5 := f5.blk HE.out.2.2.2.2.2.1 fun e => e
    have o5 : OwnT w1.heap.size W5 vb (rowOf v pre) := ownT_kept HE.out.2.2.2.2.2.2.1 fun g hg => f5.block g (HE.out.2.2.2.2.2.2.1.lt g hg).2 fun e => e
    have F5 := Lib.hid (And.intro f5 (And.intro k5 o5))
    have c3 := blk_cell k5 0
    clear b5 f5 k5 o5 HH c0
    cases b with
    | false =>
      gi_wp2_with fail
      obtain ⟨hX1, hG, hxl, hfb, hrb, k3b, o3b, hzs, hlV, hSl, hl2, hsn⟩ := HE.out
      obtain ⟨f5, k5, o5⟩ := F5.out
      refine ⟨X1, fun k hk => ⟨by have := (hG k hk).1; omega, fun _ => hk⟩, (hfb.mono (Y := fun k => k = l ∨ X1 k) fun k _ e => .inl e).trans3 f5 fun _ _ e => e.elim, f5.blk hrb fun e => e, vb, k5, ?_, hSl, hX1⟩
      rw [hsn, if_neg (by decide), List.append_nil]
      exact o5
    | true =>
      have hor : W5.ownsRow w1.heap.size 9 1 vb (rowOf v pre).length ((rowOf v pre).map encT) := F5.out.2.2
      have HO := Lib.hid hor
      have hb5 : w1.heap.size ≤ W5.heap.size := by omega
      clear hor
      gi_wp2_with (gi_at_builtin; refine Hid.out ?_)
      refine Lib.hid ?_
      refine wpListIn_one_t rfl _ _ 24 rfl w1.heap.size 9 i0 _ 1 16 Tryz.underlying24 hi hz0 hz1 hz2 rfl (by decide) _ _ _ rfl HO.out #[.string nm] _ rfl rfl rfl (by intro u hu; simp at hu; subst hu; rfl) (by omega) (by decide) hb5 ?_
      intro v1 W2 hown1 hfr1 htie
      obtain ⟨A1, c1', rfl⟩ := row_slice hown1
      have hn3 : ∀ k, vb.ownBlock = some k → k ≠ w.heap.size + 1 := fun k hk e => by have := (HO.out.lt k hk).1; have := HE.out.2.2.2.2.2.2.2.2.2.1; omega
      have e1 : W2.heap[w.heap.size + 1]? = some (.cells #[vb] 24 (0, 0)) := hfr1.blk F5.out.2.1 fun e => hn3 _ e rfl
      have g1 := blk_cell e1 0
      have g2 := blk_free e1 0
      have HN := Lib.hid hn3
      clear hn3
      gi_wp2_with fail
      obtain ⟨hX1, hG, hxl, hfb, hrb, k3b, o3b, hzs, hlV, hSl, hl2, hsn⟩ := HE.out
      obtain ⟨f5, k5, o5⟩ := F5.out
      have hn3 := HN.out
      rw [if_pos trivial] at hsn
      have hlen : (rowOf v (pre ++ [(nm, m)])).length = (rowOf v pre).length + 1 := by rw [hsn]; simp
      have hown2 : OwnT w1.heap.size W2 (.slice A1 ((rowOf v pre).length + 1) c1') (rowOf v (pre ++ [(nm, m)])) := by
        unfold OwnT; rw [hsn, List.length_append, List.map_append]; exact hown1
      have hnx : (Value.slice A1 ((rowOf v pre).length + 1) c1').ownBlock ≠ some (w.heap.size + 1) := fun e => by have := (hown2.lt _ e).1; omega
      have hfr : Fr (fun k => k = l ∨ X1 k) V (W2.setCell ⟨w.heap.size + 1, 0, none⟩ (.slice A1 ((rowOf v pre).length + 1) c1')) :=
        ((((hfb.mono (Y := fun k => k = l ∨ X1 k) fun k _ e => .inl e).trans3 f5 fun _ _ e => e.elim).trans3 hfr1 fun k _ e => .inr ((hX1 k).2 (.inr e)))).setCell _ (.inr ((hX1 _).2 (.inl rfl))) _
      refine ⟨fun k => k = w.heap.size + 1 ∨ (Value.slice A1 ((rowOf v pre).length + 1) c1').ownBlock = some k, fun k hk => ?_, hfr, ?_, .slice A1 ((rowOf v pre).length + 1) c1', blk_set e1 0 _, ?_, hSl, fun k => Iff.rfl⟩
      · have hz2 := hfr1.size
        have hsz : (W2.setCell ⟨w.heap.size + 1, 0, none⟩ (.slice A1 ((rowOf v pre).length + 1) c1')).heap.size = W2.heap.size := by simp
        rw [hsz]
        rcases hk with rfl | hk
        · exact ⟨blk_lt e1, fun _ => (hX1 _).2 (.inl rfl)⟩
        · refine ⟨(hown2.lt k hk).2, fun hlt => ?_⟩
          rcases htie k hk with e | e
          · exact (hX1 k).2 (.inr e)
          · omega
      · have hl3 : ¬ vb.ownBlock = some l := fun e => hxl ((hX1 l).2 (.inr e))
        exact blk_other (hfr1.blk (f5.blk hrb fun e => e) hl3) _ (by simp; omega) _
      · exact ownT_kept hown2 fun g hg => heap_setCell_other W2 _ g _ fun e => by simp at e; exact hnx (e ▸ hg)
  case done =>
    rintro D X2 V hD hxD hG hF ⟨u, k3, o3, hSl, hX2⟩ hdef
    obtain ⟨A, cp, rfl⟩ := row_slice o3
    have c3 := blk_cell k3 0
    have hbV : RowKit.Below w.heap.size w V := ((f1.mono (Y := fun k => w.heap.size ≤ k) fun _ _ e => e.elim).trans3 hF fun k _ e => (by show w.heap.size ≤ k; rw [show k = w.heap.size + 1 from e]; omega)).below (Nat.le_refl _) fun k hk e => absurd (show w.heap.size ≤ k from e) (by omega)
    have hjo := join_own o3 ⟨#[32]⟩ (by
      have h1 := tx_row v
      have h2 := txc_len (hasV v 1#64) (hasV v 2#64) (hasV v 4#64) 3 (by omega)
      have h3 : (⟨#[32]⟩ : ByteArray).data.toList = [32] := rfl
      rw [h3, h1]; omega) (Nat.le_trans (rowOf_len v knownC) (by decide))
    have h3 : (⟨#[32]⟩ : ByteArray).data.toList = [32] := rfl
    rw [h3, tx_row v] at hjo
    obtain ⟨n3, hn3⟩ : ∃ n3, (rowOf v knownC).length = n3 := ⟨_, rfl⟩
    rw [hn3] at c3 hjo
    have HJ := Lib.hid hjo
    have HE := Lib.hid (And.intro hbV hdef)
    clear k3 o3 hF hdef hxD hX2 hSl hG f1 hb0 hb1 z1 hK1 hKl hbV hjo h3 hn3
    gi_wp2_with fail
    refine ⟨trivial, (calls_wide (.inl rfl) HJ.out).mono ?_⟩
    rintro e W5 ⟨rfl, b5⟩
    have B5 := Lib.hid b5
    clear b5 c3
    gi_wp2_with fail
    obtain ⟨hbV, hdef⟩ := HE.out
    obtain ⟨_, _, _, z1, _, _⟩ := H.out
    have hb6 := hbV.trans (B5.out.mono hbV.size)
    refine leaves_one D _ ((Fr.of_below B5.out).blk (X := fun _ => False) hdef fun e => e) fun w' hf => ⟨_, results_tmp rfl _ _ _, rfl, hb6.trans (hf.below (Nat.le_trans hbV.size B5.out.size) fun k hk e => by omega)⟩
end Go.Proofs.YtdikpbldfnkgdaaGreatDoor
end
section
/- Layer 12: the answers' Text. -/
namespace Go.Proofs.YtdikpbldfnkgdaaGreatDoor
set_option linter.unusedVariables false
set_option linter.unusedSimpArgs false
open Go Go.RowKit Go.Shelf Go.Lib



theorem bs_nil_or (l : List UInt8) : bs l = ⟨#[]⟩ ∧ l = [] ∨ 0 < (bs l).size ∧ l ≠ [] := by
  cases l with
  | nil => exact .inl ⟨rfl, rfl⟩
  | cons a r => exact .inr ⟨Nat.succ_pos _, by simp⟩
end Go.Proofs.YtdikpbldfnkgdaaGreatDoor
end
section
/- Layer 17: capital letters, the word of a CAP; all names of capabilities; what is said. -/
namespace Go.Proofs.YtdikpbldfnkgdaaGreatDoor
set_option linter.unusedVariables false
set_option linter.unusedSimpArgs false
open Go Go.RowKit Go.Shelf Go.Lib

/-- a letter as a capital -/
def capF (x : Int) : Int := if 97 ≤ x ∧ x ≤ 122 then x - 97 + 65 else x
theorem capF_rng (x : Nat) (h : x ≤ 1114111) : 0 ≤ capF x ∧ capF x ≤ 2147483647 := by unfold capF; split <;> omega
theorem capital_any (x : Nat) (h : x ≤ 1114111) (W : World) : FnGives Tryz.prog 16 #[] #[encR x] (.int .i32 (capF x)) W := by
  unfold FnGives encR
  have hI : (0 : Int) ≤ (x : Int) := by omega
  have hJ : (x : Int) ≤ 1114111 := by omega
  obtain ⟨y, hy⟩ : ∃ y : Int, (x : Int) = y := ⟨_, rfl⟩
  rw [hy] at hI hJ ⊢
  clear hy h
  by_cases h1 : 97 ≤ y
  · by_cases h2 : y ≤ 122
    · have e : capF y = y - 97 + 65 := if_pos ⟨h1, h2⟩
      rw [e]
      go_enter Tryz.func16, Tryz.ntmps16
      go_wp2_with fail
      go_ret
      exact ⟨rfl, 0, rfl⟩
    · have e : capF y = y := if_neg fun q => h2 q.2
      rw [e]
      go_enter Tryz.func16, Tryz.ntmps16
      go_wp2_with fail
      go_ret
      exact ⟨rfl, 0, rfl⟩
  · have e : capF y = y := if_neg fun q => h1 q.1
    rw [e]
    go_enter Tryz.func16, Tryz.ntmps16
    go_wp2_with fail
    go_ret
    exact ⟨rfl, 0, rfl⟩
/-- the word of a CAP -/
def capWord (s : ByteArray) : ByteArray := ⟨(Lib.mapD capF s.data.toList).toArray⟩
theorem word_up (s : ByteArray) (w : World) (hs : s.size ≤ 1000000) (hT : Lib.Utf8Tabs 2 3 w) :
    Calls Tryz.prog 15 #[.func (.func 16) #[] #[], .string s] w fun e w' => e = .returned (.string (capWord s)) ∧ Below w.heap.size w w' :=
  Tryz.strings_Map_runes 16 #[] (enters_of Tryz.func16 (by kernel_rfl) rfl) capF s w (by omega) (fun W x hx _ => capital_any x hx W) capF_rng hT
theorem capWord_req : capWord ⟨#[82, 69, 81]⟩ = ⟨#[82, 69, 81]⟩ := by decide +kernel
end Go.Proofs.YtdikpbldfnkgdaaGreatDoor
end
section
/- Layer 17: the names of all capabilities. -/
namespace Go.Proofs.YtdikpbldfnkgdaaGreatDoor
set_option linter.unusedVariables false
set_option linter.unusedSimpArgs false
open Go Go.RowKit Go.Shelf Go.Lib
attribute [local go_sem] Oper.semAt_some

def rowN (pre : List CapE) : List (List UInt8) := pre.map fun x => x.1.data.toList
theorem rowN_snoc (pre : List CapE) (x : CapE) : rowN (pre ++ [x]) = rowN pre ++ [x.1.data.toList] := by unfold rowN; simp
theorem rowN_len (pre : List CapE) : (rowN pre).length ≤ pre.length := by unfold rowN; simp
def BoxN (S base : Nat) (pre : List CapE) (X : Nat → Prop) (W : World) : Prop := ∃ u, W.heap[S]? = some (.cells #[u] 24 (0, 0)) ∧ OwnT base W u (rowN pre) ∧ S < base ∧ ∀ k, X k ↔ (k = S ∨ u.ownBlock = some k)
theorem boxN_stays (S base : Nat) : Stays (BoxN S base) := fun pre X V V' ⟨u, h1, h2, h3, h4⟩ hl hf =>
  ⟨u, hf.blk h1 (fun e => e ((h4 S).2 (.inl rfl))), ownT_kept h2 fun g hg => hf.block g (h2.lt g hg).2 fun e => e ((h4 g).2 (.inr hg)), h3, h4⟩
set_option maxRecDepth 100000 in
set_option maxHeartbeats 8000000 in
theorem allS_any (w : World) (hK : Known w) :
    Calls Tryz.prog 18 #[] w fun e w' => e = .returned (.string (bs (Lib.join (rowN knownC) [32]))) ∧ RowKit.Below w.heap.size w w' := by
  obtain ⟨i0, hi, hz0, hz1, hz2⟩ := info_parts Tryz.infoT
  refine (callsIn_wide (n := 20)).1 ?_
  refine callsIn_of_wp_marks Tryz.func18 rfl trivial ?_ rfl
  simp only [Tryz.ntmps18, List.size_toArray, List.length_cons, List.length_nil, Nat.reduceAdd, Nat.reduceSub, Array.replicate_succ, Array.replicate_zero, List.push_toArray, List.append_toArray, List.nil_append, List.cons_append]
  gi_wp2_with fail
  refine ⟨trivial, (calls_wide (.inl rfl) (all_any _)).mono ?_⟩
  rintro e w1 ⟨rfl, hw1⟩
  have hb1 : w1.heap[w.heap.size]? = some (.cells #[.slice none 0 0] 24 (0, 0)) := by rw [hw1]; exact heap_alloc_new w _
  have f1 : Fr (fun _ => False) w w1 := by rw [hw1]; exact (Fr.refl _ w).alloc _
  have z1 : w1.heap.size = w.heap.size + 1 := by rw [hw1]; simp
  have hK1 := hK.kept (f1.below (Nat.le_refl _) fun _ _ e => e.elim)
  have hKl := hK.lt
  have H := Lib.hid (And.intro hb1 (And.intro f1 (And.intro z1 (And.intro hK1 hKl))))
  clear hw1 hb1 f1 z1 hK1 hKl hK
  gi_wp2_with fail
  obtain ⟨hb1, f1, z1, hK1, hKl⟩ := H.out
  refine wpIn_rangeF (X := fun k => k = w.heap.size) (Y := knownY) (xs := knownC) (encs := encCap) (gf := 63) (lb := #[]) (BoxN (w.heap.size) w1.heap.size) (fun _ _ _ _ => False)
    rfl (all_seqF w1 hK1) (fun k hk => ⟨by omega, fun e => by unfold knownY at e; omega⟩) (fun k hk => by unfold knownY at hk; omega) (by omega) (enters_of Tryz.func63 (by kernel_rfl) rfl) (fun _ => rfl)
    (boxN_stays _ _) (fun c s X1 V1 V2 h => h.elim) ⟨_, hb1, ownT_nil _ _, by omega, fun k => by simp [Value.ownBlock]⟩ ?round ?done (fun _ _ _ _ _ _ _ _ _ _ _ h => h.elim)
  case round =>
    rintro l pre ⟨nm, m⟩ r X1 V K rb hl2 hpx hI hG hxl hF hlV hK
    dsimp only [encCap]
    have HK := Lib.hid hK
    have HV := Lib.hid (And.intro hpx (And.intro hI (And.intro hG (And.intro hxl (And.intro hF (And.intro hlV hl2))))))
    clear hK hpx hI hG hxl hF hlV hl2 f1 hb1 z1 hK1 hKl
    gi_wp2_with fail
    refine HK.out _ _ (Fr.refl _ _) fun Vb hfb hzb hsb hrb => ?_
    clear HK K
    obtain ⟨hpx, ⟨vb, k3, o3, hSl, hX1⟩, hG, hxl, hF, hlV, hl2⟩ := HV.out
    obtain ⟨hb1, f1, z1, hK1, hKl⟩ := H.out
    have hmem : ((nm, m) : CapE) ∈ knownC := by rw [← hpx]; exact List.mem_append_right _ List.mem_cons_self
    have hpl : (rowN pre).length ≤ 3 := by
      have h1 := rowN_len pre
      have h2 := congrArg List.length hpx
      rw [List.length_append] at h2
      have : knownC.length = 3 := rfl
      omega
    have k3b := hfb.blk k3 (fun e => hxl ((hX1 l).2 (.inl e.symm)))
    have o3b : OwnT w1.heap.size Vb vb (rowN pre) := ownT_kept o3 fun g hg => hfb.block g (o3.lt g hg).2 fun e => hxl ((hX1 l).2 (.inr (e ▸ hg)))
    have c3 := blk_cell k3b 0
    have hzs : Vb.heap.size = V.heap.size := hzb
    have hbz : w1.heap.size ≤ Vb.heap.size := by omega
    have hKb : Known Vb := hK1.same ((hfb.block _ (by have := hF.size; omega) (by omega)).trans (hF.block _ (by omega) (by omega)))
    have hsn := rowN_snoc pre (nm, m)
    dsimp only at hsn
    have HE := Lib.hid (And.intro hX1 (And.intro hG (And.intro hxl (And.intro hfb (And.intro hrb (And.intro k3b (And.intro o3b (And.intro hzs (And.intro hlV (And.intro hSl (And.intro hl2 hsn)))))))))))
    clear hpx k3 o3 hSl hX1 hG hxl hF hlV hl2 f1 hb1 z1 k3b o3b hfb hzb hsb hrb hzs hK1 hKl hKb hmem hsn
    have hor : Vb.ownsRow w1.heap.size 9 1 vb (rowN pre).length ((rowN pre).map encT) := HE.out.2.2.2.2.2.2.1
    have HO := Lib.hid hor
    have hb5 : w1.heap.size ≤ Vb.heap.size := hbz
    clear hor
    gi_wp2_with (gi_at_builtin; refine Hid.out ?_)
    refine Lib.hid ?_
    refine wpListIn_one_t rfl _ _ 24 rfl w1.heap.size 9 i0 _ 1 16 Tryz.underlying24 hi hz0 hz1 hz2 rfl (by decide) _ _ _ rfl HO.out #[.string nm] _ rfl rfl rfl (by intro u hu; simp at hu; subst hu; rfl) (by omega) (by decide) hb5 ?_
    intro v1 W2 hown1 hfr1 htie
    obtain ⟨A1, c1', rfl⟩ := row_slice hown1
    have hn3 : ∀ k, vb.ownBlock = some k → k ≠ w.heap.size := fun k hk e => by have := (HO.out.lt k hk).1; have := HE.out.2.2.2.2.2.2.2.2.2.1; omega
    have e1 : W2.heap[w.heap.size]? = some (.cells #[vb] 24 (0, 0)) := hfr1.blk HE.out.2.2.2.2.2.1 fun e => hn3 _ e rfl
    have g1 := blk_cell e1 0
    have g2 := blk_free e1 0
    have HN := Lib.hid hn3
    clear hn3
    gi_wp2_with fail
    obtain ⟨hX1, hG, hxl, hfb, hrb, k3b, o3b, hzs, hlV, hSl, hl2, hsn⟩ := HE.out
    have hn3 := HN.out
    have hlen : (rowN (pre ++ [(nm, m)])).length = (rowN pre).length + 1 := by rw [hsn]; simp
    have hown2 : OwnT w1.heap.size W2 (.slice A1 ((rowN pre).length + 1) c1') (rowN (pre ++ [(nm, m)])) := by
      unfold OwnT; rw [hsn, List.length_append, List.map_append]; exact hown1
    have hnx : (Value.slice A1 ((rowN pre).length + 1) c1').ownBlock ≠ some (w.heap.size) := fun e => by have := (hown2.lt _ e).1; omega
    have hfr : Fr (fun k => k = l ∨ X1 k) V (W2.setCell ⟨w.heap.size, 0, none⟩ (.slice A1 ((rowN pre).length + 1) c1')) :=
      (((hfb.mono (Y := fun k => k = l ∨ X1 k) fun k _ e => .inl e).trans3 hfr1 fun k _ e => .inr ((hX1 k).2 (.inr e)))).setCell _ (.inr ((hX1 _).2 (.inl rfl))) _
    refine ⟨fun k => k = w.heap.size ∨ (Value.slice A1 ((rowN pre).length + 1) c1').ownBlock = some k, fun k hk => ?_, hfr, ?_, .slice A1 ((rowN pre).length + 1) c1', blk_set e1 0 _, ?_, hSl, fun k => Iff.rfl⟩
    · have hz2 := hfr1.size
      have hsz : (W2.setCell ⟨w.heap.size, 0, none⟩ (.slice A1 ((rowN pre).length + 1) c1')).heap.size = W2.heap.size := by simp
      rw [hsz]
      rcases hk with rfl | hk
      · exact ⟨blk_lt e1, fun _ => (hX1 _).2 (.inl rfl)⟩
      · refine ⟨(hown2.lt k hk).2, fun hlt => ?_⟩
        rcases htie k hk with e | e
        · exact (hX1 k).2 (.inr e)
        · omega
    · have hl3 : ¬ vb.ownBlock = some l := fun e => hxl ((hX1 l).2 (.inr e))
      exact blk_other (hfr1.blk hrb hl3) _ (by simp; omega) _
    · exact ownT_kept hown2 fun g hg => heap_setCell_other W2 _ g _ fun e => by simp at e; exact hnx (e ▸ hg)
  case done =>
    rintro D X2 V hD hxD hG hF ⟨u, k3, o3, hSl, hX2⟩ hdef
    obtain ⟨A, cp, rfl⟩ := row_slice o3
    have c3 := blk_cell k3 0
    have hbV : RowKit.Below w.heap.size w V := ((f1.mono (Y := fun k => w.heap.size ≤ k) fun _ _ e => e.elim).trans3 hF fun k _ e => (by show w.heap.size ≤ k; rw [show k = w.heap.size from e]; omega)).below (Nat.le_refl _) fun k hk e => absurd (show w.heap.size ≤ k from e) (by omega)
    have hjo := join_own o3 ⟨#[32]⟩ (by decide +kernel) (by decide +kernel)
    have h3 : (⟨#[32]⟩ : ByteArray).data.toList = [32] := rfl
    rw [h3] at hjo
    obtain ⟨n3, hn3⟩ : ∃ n3, (rowN knownC).length = n3 := ⟨_, rfl⟩
    rw [hn3] at c3 hjo
    have HJ := Lib.hid hjo
    have HE := Lib.hid (And.intro hbV hdef)
    clear k3 o3 hF hdef hxD hX2 hSl hG f1 hb1 z1 hK1 hKl hbV hjo h3 hn3
    gi_wp2_with fail
    refine ⟨trivial, (calls_wide (.inl rfl) HJ.out).mono ?_⟩
    rintro e W5 ⟨rfl, b5⟩
    have B5 := Lib.hid b5
    clear b5 c3
    gi_wp2_with fail
    obtain ⟨hbV, hdef⟩ := HE.out
    obtain ⟨_, _, z1, _, _⟩ := H.out
    have hb6 := hbV.trans (B5.out.mono hbV.size)
    refine leaves_one D _ ((Fr.of_below B5.out).blk (X := fun _ => False) hdef fun e => e) fun w' hf => ⟨_, results_tmp rfl _ _ _, rfl, hb6.trans (hf.below (Nat.le_trans hbV.size B5.out.size) fun k hk e => by omega)⟩
end Go.Proofs.YtdikpbldfnkgdaaGreatDoor
end
section
/- Layer 17: what CAP says. -/
namespace Go.Proofs.YtdikpbldfnkgdaaGreatDoor
set_option linter.unusedVariables false
set_option linter.unusedSimpArgs false
open Go Go.RowKit Go.Lib

def capL : List UInt8 := [67, 65, 80]
theorem capL_cmd : cmdB (bs capL) = true := by
  have h2 : capsB (bs capL) = true := allI_iff.2 fun i hi => by
    have h3 : i < 3 := hi
    obtain rfl | rfl | rfl : i = 0 ∨ i = 1 ∨ i = 2 := by omega
    · exact (by decide : betw 65 90 67 = true)
    · exact (by decide : betw 65 90 65 = true)
    · exact (by decide : betw 65 90 80 = true)
  unfold cmdB
  rw [h2]
  exact (by decide : decide (0 < 3) = true)
theorem reads3 (w : World) (x y z : List UInt8) : ReadsT (w.alloc (.cells #[.string (bs x), .string (bs y), .string (bs z)] 9)) (some ⟨w.heap.size, 0, none⟩) [x, y, z] := fun _ => ⟨_, _, rfl, by simp, fun j hj => by
  have h := heap_alloc_new w (.cells #[.string (bs x), .string (bs y), .string (bs z)] 9)
  rcases j with _ | _ | _ | j
  · exact blk_cell h 0
  · exact blk_cell h 1
  · exact blk_cell h 2
  · exact absurd hj (by simp only [List.length_cons, List.length_nil]; omega)⟩
theorem reads1 (w : World) (x : List UInt8) : ReadsT (w.alloc (.cells #[.string (bs x)] 9)) (some ⟨w.heap.size, 0, none⟩) [x] := fun _ => ⟨_, _, rfl, by simp, fun j hj => by
  obtain rfl : j = 0 := by simpa using hj
  exact blk_cell (heap_alloc_new w _) 0⟩
set_option maxRecDepth 100000 in
set_option maxHeartbeats 8000000 in
theorem say_any (server nick verb text : List UInt8) (B C : Nat) (V : World) (h1 : V.cell? ⟨B, 0, none⟩ = some (.string (bs server))) (h2 : V.cell? ⟨C, 3, none⟩ = some (.string (bs nick))) (hm : Mx V) (l1 : server.length ≤ 1000000) (l2 : nick.length ≤ 90000) (l3 : verb.length ≤ 90000) (l4 : text.length ≤ 90000) :
    Calls Tryz.prog 13 #[.string (bs verb), .string (bs text), .pointer (some ⟨B, 0, none⟩), .pointer (some ⟨C, 0, none⟩)] V fun e w' => ∃ g, e = .returned (.slice (some ⟨g, 0, none⟩) 1 1) ∧ V.heap.size ≤ g ∧ w'.cell? ⟨g, 0, none⟩ = some (.string (bs (makeL server capL [nick, verb, text]))) ∧ Below V.heap.size V w' := by
  have b1 : RowKit.Below V.heap.size V (V.alloc (.cells #[.string (bs nick), .string (bs verb), .string (bs text)] 9)) := (Below.refl _ V).alloc (Nat.le_refl _) _
  have hM := makeM server capL (some ⟨V.heap.size, 0, none⟩) 3 [nick, verb, text] _ (reads3 V nick verb text) (mx_kept hm b1 (Nat.le_refl _)) capL_cmd l1 (by decide) (by simp) (fun p hp => by
    simp only [List.mem_cons, List.not_mem_nil, or_false] at hp
    rcases hp with rfl | rfl | rfl <;> assumption)
  have HM := Lib.hid hM
  have HB := Lib.hid b1
  obtain ⟨tx, htx⟩ : ∃ tx, makeL server capL [nick, verb, text] = tx := ⟨_, rfl⟩
  rw [htx] at HM ⊢
  clear hM b1 hm htx
  obtain ⟨sv, hsv⟩ : ∃ sv, bs server = sv := ⟨_, rfl⟩
  obtain ⟨nk, hnk⟩ : ∃ nk, bs nick = nk := ⟨_, rfl⟩
  obtain ⟨vb, hvb⟩ : ∃ vb, bs verb = vb := ⟨_, rfl⟩
  obtain ⟨te, hte⟩ : ∃ te, bs text = te := ⟨_, rfl⟩
  rw [hsv] at h1 HM
  rw [hnk] at h2 HM HB
  rw [hvb] at HM HB ⊢
  rw [hte] at HM HB ⊢
  clear hsv hnk hvb hte
  go_enter Tryz.func13, Tryz.ntmps13
  go_wp2_with fail
  refine HM.out.mono ?_
  rintro e w1 ⟨rfl, hb1⟩
  have HB1 := Lib.hid hb1
  clear hb1
  go_wp2_with fail
  go_ret
  exact ⟨_, rfl, Nat.le_trans HB.out.size HB1.out.size, blk_cell (heap_alloc_new w1 _) 0, (HB.out.trans (HB1.out.mono HB.out.size)).alloc (Nat.le_trans HB.out.size HB1.out.size) _⟩
end Go.Proofs.YtdikpbldfnkgdaaGreatDoor
end
section
/- Layer 17: Cap, LS. -/
namespace Go.Proofs.YtdikpbldfnkgdaaGreatDoor
set_option linter.unusedVariables false
set_option linter.unusedSimpArgs false
open Go Go.RowKit

theorem utf8_kept {W W' : World} (h : Lib.Utf8Tabs 2 3 W) (hb : RowKit.Below W.heap.size W W') : Lib.Utf8Tabs 2 3 W' := by
  have hl := World.block_lt_of_cell? _ _ (h.2 0 (by decide)).1
  have hk := World.block_lt_of_cell? _ _ (h.1 0 (by decide))
  exact ⟨fun c hc => (hb.cell (p := ⟨_, c, none⟩) hk).trans (h.1 c hc), fun i hi => ⟨(hb.cell (p := ⟨3, 2 * i, none⟩) hl).trans (h.2 i hi).1, (hb.cell (p := ⟨3, 2 * i + 1, none⟩) hl).trans (h.2 i hi).2⟩⟩
/-- what Cap makes: the sign, and its lines -/
def SgCap (t : Bool) (p n u r : ByteArray) (d : Bool) (w : World) (e : Ending) (w' : World) : Prop :=
  (∃ k2 t2 A c m, e = .returned (.tuple #[sgn k2 t2 p n u r d, .slice A m c]) ∧ (d = true → t2 = true → t = true)) ∧ RowKit.Below w.heap.size w w'
set_option maxRecDepth 100000 in
set_option maxHeartbeats 8000000 in
theorem cap_ls (server : List UInt8) (v : BitVec 64) (t : Bool) (p u r : ByteArray) (nn : List UInt8) (d : Bool) (A : Option Addr) (c : Nat) (ps : List (List UInt8)) (w : World) (hm : Mx w) (hp : PowW w) (hK : Known w) (hT : Lib.Utf8Tabs 2 3 w) (hR : ReadsT w A ps) (h3 : server.length ≤ 1000) (h4 : nn.length ≤ 1000) (h5 : ps.length ≤ 1000) (h6 : ∀ i, (ps.getD i []).length ≤ 1000) (hw : capWord (bs (ps.getD 0 [])) = ⟨#[76, 83]⟩) :
    Calls Tryz.prog 8 #[.string (bs server), sgn (IV v) t p (bs nn) u r d, .slice A ps.length c] w (SgCap t p (bs nn) u r d w) := by
  obtain ⟨N, hN⟩ : ∃ N, w.heap.size = N := ⟨_, rfl⟩
  obtain ⟨W0, hW0⟩ : ∃ W0, (((w.alloc (.cells #[.string (bs server)] 9)).alloc (.cells (sgC (IV v) t p (bs nn) u r d) 23)).alloc (.cells (sgC 0 false ⟨#[]⟩ ⟨#[]⟩ ⟨#[]⟩ ⟨#[]⟩ false) 23)) = W0 := ⟨_, rfl⟩
  have b0 : RowKit.Below w.heap.size w W0 := by rw [← hW0]; exact (((Below.refl _ w).alloc (Nat.le_refl _) _).alloc (by simp) _).alloc (by simp; omega) _
  have kS : W0.heap[N]? = some (.cells #[.string (bs server)] 9 (0, 0)) := by rw [← hW0, ← hN]; exact blk_alloc (blk_alloc (heap_alloc_new w _) _) _
  have k0 : W0.heap[N + 1]? = some (.cells (sgC (IV v) t p (bs nn) u r d) 23 (0, 0)) := by rw [← hW0, ← hN]; exact blk_alloc (heap_alloc2_new w _ _) _
  have k1 : W0.heap[N + 1 + 1]? = some (.cells (sgC 0 false ⟨#[]⟩ ⟨#[]⟩ ⟨#[]⟩ ⟨#[]⟩ false) 23 (0, 0)) := by
    have h := heap_alloc2_new (w.alloc (.cells #[.string (bs server)] 9)) (.cells (sgC (IV v) t p (bs nn) u r d) 23) (.cells (sgC 0 false ⟨#[]⟩ ⟨#[]⟩ ⟨#[]⟩ ⟨#[]⟩ false) 23)
    rw [World.size_alloc, hN, hW0] at h
    exact h
  have HPA := Lib.hid (fun (i : Nat) W (hb : RowKit.Below w.heap.size w W) => param_any A c ps i W (readsT_below hR hb (Nat.le_refl _)) (by omega))
  have HWU := Lib.hid (fun W (hb : RowKit.Below w.heap.size w W) => word_up (bs (ps.getD 0 [])) W (by have := h6 0; show (ps.getD 0 []).toArray.size ≤ 1000000; rw [List.size_toArray]; omega) (utf8_kept hT hb))
  have HSY := Lib.hid (fun (verb text : List UInt8) (W : World) (hb : RowKit.Below w.heap.size w W) (h1 : W.heap[N]? = some (.cells #[.string (bs server)] 9 (0, 0))) (k2 : Int) (t2 : Bool) (h2 : W.heap[N + 1]? = some (.cells (sgC k2 t2 p (bs nn) u r d) 23 (0, 0))) (l3 : verb.length ≤ 90000) (l4 : text.length ≤ 90000) => say_any server nn verb text N (N + 1) W (blk_cell h1 0) (blk_cell h2 3) (mx_kept hm hb (Nat.le_refl _)) (by omega) (by omega) l3 l4)
  have HAL := Lib.hid (fun W (hb : RowKit.Below w.heap.size w W) => allS_any W (hK.kept hb))
  have H := Lib.hid (And.intro b0 (And.intro kS (And.intro k0 (And.intro k1 hN))))
  have HW := Lib.hid hW0
  have HH6 := Lib.hid h6
  clear hm hp hK hT hR b0 kS k0 k1 hW0 hN h6
  obtain ⟨n, hnn⟩ : ∃ n, bs nn = n := ⟨_, rfl⟩
  obtain ⟨sv, hsv⟩ : ∃ sv, bs server = sv := ⟨_, rfl⟩
  rw [hnn] at HSY H HW ⊢
  rw [hsv] at HSY H HW ⊢
  unfold sgn
  go_enter Tryz.func8, Tryz.ntmps8
  have hW0 := HW.out
  have hN := H.out.2.2.2.2
  unfold sgC at hW0
  go_wp2_with fail
  clear hW0
  refine (HPA.out 0 W0 H.out.1).mono ?_
  rintro e w1 ⟨rfl, hb1⟩
  have HB1 := Lib.hid (H.out.1.trans (hb1.mono H.out.1.size))
  have F1 := Lib.hid (Fr.of_below (X := fun _ => False) hb1)
  clear hb1
  go_wp2_with fail
  refine (HWU.out w1 HB1.out).mono ?_
  rintro e w2 ⟨rfl, hb2⟩
  have HB := Lib.hid (HB1.out.trans (hb2.mono HB1.out.size))
  have f2 : Fr (fun _ => False) W0 w2 := F1.out.trans3 (Fr.of_below (X := fun _ => False) hb2) fun _ _ e => e.elim
  have jS := f2.blk H.out.2.1 fun e => e
  have j0 := f2.blk H.out.2.2.1 fun e => e
  have j1 := f2.blk H.out.2.2.2.1 fun e => e
  have HJ := Lib.hid (And.intro jS (And.intro j0 j1))
  clear hb2 f2 jS j0 j1 HB1 F1 H HW
  rw [hw]
  obtain ⟨jS, j0, j1⟩ := HJ.out
  obtain ⟨c0, c1, c2, c3, c4, c5, c6⟩ := box7_blk j0
  have f0 := blk_free j0 0
  have f1 := blk_free j0 1
  clear jS j0 j1
  go_wp2_with fail
  clear c0 c1 c2 c3 c4 c5 c6 f0 f1
  have z0 : (w2.setCell ⟨N + 1, 1, none⟩ (.bool (!d))).heap[N + 1]? = some (.cells (sgC (IV v) (!d) p n u r d) 23 (0, 0)) := (blk_set (HJ.out.2.1) 1 (.bool (!d)))
  have zf : Fr (fun k => k = N + 1) w2 (w2.setCell ⟨N + 1, 1, none⟩ (.bool (!d))) := ((Fr.refl (fun k => k = N + 1) w2).setCell ⟨N + 1, 1, none⟩ rfl (.bool (!d)))
  have zS := zf.blk HJ.out.1 (by omega)
  have zX := zf.blk HJ.out.2.2 (by omega)
  have zB : RowKit.Below w.heap.size w (w2.setCell ⟨N + 1, 1, none⟩ (.bool (!d))) := HB.out.trans (zf.below HB.out.size fun k hk e => by omega)
  obtain ⟨W3, hW3⟩ : ∃ W3, (w2.setCell ⟨N + 1, 1, none⟩ (.bool (!d))) = W3 := ⟨_, rfl⟩
  rw [hW3] at z0 zf zS zX zB ⊢
  have HB2 := Lib.hid zB
  have HZ := Lib.hid (And.intro zS (And.intro z0 zX))
  have HN := Lib.hid hN
  clear hW3 z0 zf zS zX zB hN
  have hS0 : W3.drew.heap[N]? = some (.cells #[.string sv] 9 (0, 0)) ∧ W3.drew.heap[N + 1]? = some (.cells (sgC (IV v) (!d) p n u r d) 23 (0, 0)) := ⟨HZ.out.1, HZ.out.2.1⟩
  have hX : W3.drew.heap[N + 1 + 1]? = some (.cells (sgC 0 false ⟨#[]⟩ ⟨#[]⟩ ⟨#[]⟩ ⟨#[]⟩ false) 23 (0, 0)) := HZ.out.2.2
  have hF : Fr (fun k => k = N + 1 + 1) W3 W3.drew := (Fr.refl _ _).drew
  refine wp_region_held_drew (S := fun V => V.heap[N]? = some (.cells #[.string sv] 9 (0, 0)) ∧ V.heap[N + 1]? = some (.cells (sgC (IV v) (!d) p n u r d) 23 (0, 0))) (by kernel_rfl) (by exact hS0) (fun hHeld => ?_)
  refine wpAnyH_read (i := 1) (oi := { dst := some 23, op := Go.Op.move (Go.Operand.tmp 8), type := 35, pos := "sign.go:36", after := #[], guard := none }) ?_ rfl (by kernel_rfl) (by kernel_rfl) (by kernel_rfl) (fun _ _ _ h => h) (by rfl) (by exact hHeld) ?_ ?_
  rotate_left
  · (intro w0 hS0; have s0 := blk_cell hS0.2 0; have s1 := blk_cell hS0.2 1; have s2 := blk_cell hS0.2 2; have s3 := blk_cell hS0.2 3; have s4 := blk_cell hS0.2 4; have s5 := blk_cell hS0.2 5; have s6 := blk_cell hS0.2 6; have s7 := blk_cell hS0.1 0; go_simp <;> (try with_reducible rfl))
  try simp only [Act.put, List.setIfInBounds_toArray, List.set_cons_zero, List.set_cons_succ]
  refine wpAnyH_read (i := 0) (oi := { dst := some 22, op := Go.Op.load 23 (Go.Operand.tmp 4), type := 23, pos := "sign.go:36", after := #[], guard := none }) ?_ rfl (by kernel_rfl) (by kernel_rfl) (by kernel_rfl) (fun _ _ _ h => h) (by rfl) (by exact hHeld) ?_ ?_
  rotate_left
  · (intro w0 hS0; have s0 := blk_cell hS0.2 0; have s1 := blk_cell hS0.2 1; have s2 := blk_cell hS0.2 2; have s3 := blk_cell hS0.2 3; have s4 := blk_cell hS0.2 4; have s5 := blk_cell hS0.2 5; have s6 := blk_cell hS0.2 6; have s7 := blk_cell hS0.1 0; go_simp <;> (try with_reducible rfl))
  try simp only [Act.put, List.setIfInBounds_toArray, List.set_cons_zero, List.set_cons_succ]
  refine wpAnyH_one (i := 2) (o := { dst := some 24, op := Go.Op.call { callee := Go.Callee.value (Go.Operand.func 18), args := #[], argTypes := #[] }, type := 9, pos := "sign.go:36", after := #[], guard := none }) (by kernel_rfl) rfl (by rfl) (fun K hK => ?_)
  go_simp
  have hbc := HB2.out.trans (hF.below HB2.out.size fun k hk e => by have := HN.out; omega)
  refine (HAL.out _ hbc).mono ?_
  rintro e w6 ⟨rfl, hb6⟩
  have HX := Lib.hid (Fr.of_below (X := fun _ => False) hb6)
  clear hb6 hbc
  refine hK.out _ _ ?_ (fun hHeld => ?_)
  · exact ⟨HX.out.blk hS0.1 fun e => e, HX.out.blk hS0.2 fun e => e⟩
  clear hK K
  try simp only [Act.put, List.setIfInBounds_toArray, List.set_cons_zero, List.set_cons_succ]
  have hS0 := hHeld
  have hX := HX.out.blk hX fun e => e
  have hF := (hF.mono (Y := fun k => k = N + 1 + 1) fun _ _ e => e).trans3 HX.out fun _ _ e => e.elim
  clear HX
  refine wpAnyH_one (i := 3) (o := { dst := some 25, op := Go.Op.call { callee := Go.Callee.value (Go.Operand.tmp 23), args := #[Go.Operand.const (Go.Value.string { data := #[76, 83] }), Go.Operand.tmp 24], argTypes := #[9, 9] }, type := 24, pos := "sign.go:36", after := #[{ on := 1, ground := Go.Ground.data }, { on := 2, ground := Go.Ground.data }, { on := 2, ground := Go.Ground.chain }], guard := none }) (by kernel_rfl) rfl (by rfl) (fun K hK => ?_)
  go_simp
  have hbc := HB2.out.trans (hF.below HB2.out.size fun k hk e => by have := HN.out; omega)
  refine (HSY.out [76, 83] (Lib.join (rowN knownC) [32]) _ hbc hS0.1 _ _ hS0.2 (by decide) (by decide +kernel)).mono ?_
  rintro e w7 ⟨gl, rfl, hgl, hcl, hb7⟩
  have HX := Lib.hid (Fr.of_below (X := fun _ => False) hb7)
  clear hb7 hbc
  refine hK.out _ _ ?_ (fun hHeld => ?_)
  · exact ⟨HX.out.blk hS0.1 fun e => e, HX.out.blk hS0.2 fun e => e⟩
  clear hK K
  try simp only [Act.put, List.setIfInBounds_toArray, List.set_cons_zero, List.set_cons_succ]
  have hS0 := hHeld
  have hX := HX.out.blk hX fun e => e
  have hF := (hF.mono (Y := fun k => k = N + 1 + 1) fun _ _ e => e).trans3 HX.out fun _ _ e => e.elim
  have q0 := blk_cell hX 0; have q1 := blk_cell hX 1; have q2 := blk_cell hX 2; have q3 := blk_cell hX 3; have q4 := blk_cell hX 4; have q5 := blk_cell hX 5; have q6 := blk_cell hX 6; have f0 := blk_free hX 0; have f1 := blk_free hX 1; have f2 := blk_free hX 2; have f3 := blk_free hX 3; have f4 := blk_free hX 4; have f5 := blk_free hX 5; have f6 := blk_free hX 6
  refine wpAnyH_one (i := 4) (o := { dst := none, op := Go.Op.store 23 (Go.Operand.tmp 6) (Go.Operand.tmp 22), type := 0, pos := "sign.go:36", after := #[{ on := 0, ground := Go.Ground.data }, { on := 3, ground := Go.Ground.chain }, { on := 0, ground := Go.Ground.phase }, { on := 1, ground := Go.Ground.textOnly Go.Departure.lateStores }, { on := 2, ground := Go.Ground.textOnly Go.Departure.lateStoresUnsure }, { on := 3, ground := Go.Ground.textOnly Go.Departure.lateStoresUnsure }], guard := none }) (by kernel_rfl) rfl (by rfl) (fun K hK => ?_)
  go_simp
  refine hK.out _ _ ?_ (fun hHeld => ?_)
  · exact ⟨set7_oth hS0.1 (by omega), set7_oth hS0.2 (by omega)⟩
  clear hK K
  try simp only [Act.put, List.setIfInBounds_toArray, List.set_cons_zero, List.set_cons_succ]
  have hS0 := hHeld
  have hX := set7 (v0 := .int .i64 (IV v)) (v1 := .bool (!d)) (v2 := .string p) (v3 := .string n) (v4 := .string u) (v5 := .string r) (v6 := .bool d) hX
  have hF := set7_fr (v0 := .int .i64 (IV v)) (v1 := .bool (!d)) (v2 := .string p) (v3 := .string n) (v4 := .string u) (v5 := .string r) (v6 := .bool d) hF rfl
  clear q0 q1 q2 q3 q4 q5 q6 f0 f1 f2 f3 f4 f5 f6
  have q0 := blk_cell hX 0; have q1 := blk_cell hX 1; have q2 := blk_cell hX 2; have q3 := blk_cell hX 3; have q4 := blk_cell hX 4; have q5 := blk_cell hX 5; have q6 := blk_cell hX 6; have f0 := blk_free hX 0; have f1 := blk_free hX 1; have f2 := blk_free hX 2; have f3 := blk_free hX 3; have f4 := blk_free hX 4; have f5 := blk_free hX 5; have f6 := blk_free hX 6
  refine wpAnyH_read (i := 5) (oi := { dst := some 7, op := Go.Op.assign (Go.Operand.tmp 25), type := 24, pos := "sign.go:36", after := #[{ on := 3, ground := Go.Ground.data }, { on := 4, ground := Go.Ground.chain }, { on := 0, ground := Go.Ground.phase }, { on := 1, ground := Go.Ground.phase }, { on := 2, ground := Go.Ground.phase }, { on := 3, ground := Go.Ground.phase }, { on := 4, ground := Go.Ground.phase }], guard := none }) ?_ rfl (by kernel_rfl) (by kernel_rfl) (by kernel_rfl) (fun _ _ _ h => h) (by rfl) (by exact hHeld) ?_ ?_
  rotate_left
  · (intro w0 hS0; have s0 := blk_cell hS0.2 0; have s1 := blk_cell hS0.2 1; have s2 := blk_cell hS0.2 2; have s3 := blk_cell hS0.2 3; have s4 := blk_cell hS0.2 4; have s5 := blk_cell hS0.2 5; have s6 := blk_cell hS0.2 6; have s7 := blk_cell hS0.1 0; go_simp <;> (try with_reducible rfl))
  try simp only [Act.put, List.setIfInBounds_toArray, List.set_cons_zero, List.set_cons_succ]
  refine wpAnyH_done (by kernel_rfl) ?_ _
  go_wp2_with fail
  refine bodyPost_ret (res_seven rfl rfl (Tryz.isAgg23 _) (Tryz.sizeOf23 _) hX) rfl ⟨⟨_, _, _, _, _, rfl, fun h1 h2 => by rw [h1] at h2; cases h2⟩, HB2.out.trans (hF.below HB2.out.size fun k hk e => by have := HN.out; omega)⟩
end Go.Proofs.YtdikpbldfnkgdaaGreatDoor
end
