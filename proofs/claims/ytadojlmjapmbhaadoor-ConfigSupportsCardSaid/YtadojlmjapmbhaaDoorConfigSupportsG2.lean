/- Texts of this proof, one behind the other. -/
import Derived.Test.YtadojlmjapmbhaaDoorConfigSupportsG1
import Derived.Lib.IndexAny
import Derived.Lib.IndexLaws
import Derived.Sort.LoopGhostIn
import Derived.IntWalk
import Derived.Below
import Derived.Laws.Rows
import Derived.RangeFuncNested
import Derived.Deep.Draws
import Derived.Deep.AppendSrc
import Derived.Laws.AppendOwn
import Derived.OwnWalkIn
section
/- Layer 12: strings.Index with one byte, CutPrefix, SplitSeq at a blank as a function that ranges. -/
namespace Go.Proofs.YtadojlmjapmbhaaDoor
set_option linter.unusedVariables false
set_option linter.unusedSimpArgs false
open Go.RowKit Go.Shelf
attribute [local go_sem] Oper.semAt_some

set_option maxRecDepth 1000000 in
set_option maxHeartbeats 2000000 in
theorem ix1_lite (s : ByteArray) (c : UInt8) (w : World) (hs : s.size ≤ 1000000) :
    Calls Tryd.prog 53 #[.string s, .string ⟨#[c]⟩] w fun e w' => e = .returned (.int .i64 (Lib.indexByte s.data.toList c)) ∧ w = w' := by
  go_enter Tryd.func53, Tryd.ntmps53
  go_wp2_with (go_at_call 60; refine (idxByte0 _ _ _).mono ?_; rintro e w' ⟨rfl, rfl⟩)
  · go_ret
    rename_i h
    rw [ByteArray.toList_eq, beq_iff_eq] at h
    exact ⟨ret_int (by rw [← h]; simp [Lib.indexByte]), rfl⟩
  · go_ret
    exact ⟨ret_int rfl, rfl⟩
set_option maxRecDepth 1000000 in
theorem ix1 (s : ByteArray) (c : UInt8) (w : World) (hs : s.size ≤ 1000000) :
    Calls Tryd.prog 43 #[.string s, .string ⟨#[c]⟩] w fun e w' => e = .returned (.int .i64 (Lib.indexByte s.data.toList c)) ∧ w = w' := by
  go_enter Tryd.func43, Tryd.ntmps43
  go_wp2_with (go_at_call 53; refine (ix1_lite _ _ _ hs).mono ?_; rintro e w' ⟨rfl, rfl⟩)
  go_ret
  exact ⟨rfl, rfl⟩

/-- a text at its first blank -/
theorem split_none (R : ByteArray) (h : Lib.indexByte R.data.toList 32 = -1) : splitL R.data.toList = [R.data.toList] :=
  splitL_none _ (fun hm => by
    obtain ⟨k, hk⟩ := List.getElem?_of_mem hm
    exact Lib.indexByte_none h k hk)
theorem split_some (R : ByteArray) (o : Nat) (h : Lib.indexByte R.data.toList 32 = o) : o < R.size ∧ splitL R.data.toList = (R.extract 0 o).data.toList :: splitL (R.extract (o + 1) R.size).data.toList := by
  obtain ⟨h1, h2⟩ := Lib.indexByte_some h
  have ho : o < R.data.toList.length := (List.getElem?_eq_some_iff.1 h1).1
  have e : R.data.toList = R.data.toList.take o ++ 32 :: R.data.toList.drop (o + 1) := by
    have h3 := List.drop_eq_getElem_cons ho
    have h4 : R.data.toList[o] = 32 := (List.getElem?_eq_some_iff.1 h1).2
    rw [h4] at h3
    rw [← h3, List.take_append_drop]
  have hn : (32 : UInt8) ∉ R.data.toList.take o := fun hm => by
    obtain ⟨k, hk⟩ := List.getElem?_of_mem hm
    rw [List.getElem?_take] at hk
    split at hk
    · exact h2 k ‹_› hk
    · cases hk
  refine ⟨by simpa using ho, ?_⟩
  have e1 : (R.extract 0 o).data.toList = R.data.toList.take o := by simp
  have e2 : (R.extract (o + 1) R.size).data.toList = R.data.toList.drop (o + 1) := by
    simp [List.take_of_length_le]
  rw [e1, e2]
  conv => lhs; rw [e]
  exact splitL_cut _ _ hn

abbrev Word := { x : ByteArray // x.size ≤ 1000000 }
abbrev encWord (x : Word) : Array Value := #[.string x.1]
def wordsL (l : List Word) : List (List UInt8) := l.map fun x => x.1.data.toList
theorem wordsL_snoc (l : List Word) (x : Word) : wordsL (l ++ [x]) = wordsL l ++ [x.1.data.toList] := by simp [wordsL]

theorem split_any (s : ByteArray) (w : World) :
    Calls Tryd.prog 18 #[.string s, .string ⟨#[32]⟩] w fun e w' => e = .returned (.func (.func 41) #[] #[.pointer (some ⟨w.heap.size + 1, 0, none⟩), .pointer (some ⟨w.heap.size, 0, none⟩), .pointer (some ⟨w.heap.size + 1 + 1, 0, none⟩)]) ∧
      w' = ((w.alloc (.cells #[.string s] 9)).alloc (.cells #[.string ⟨#[32]⟩] 9)).alloc (.cells #[.int .i64 0] 3) := by
  have h : Calls Tryd.prog 32 #[.string s, .string ⟨#[32]⟩, .int .i64 0] w fun e w' => e = .returned (.func (.func 41) #[] #[.pointer (some ⟨w.heap.size + 1, 0, none⟩), .pointer (some ⟨w.heap.size, 0, none⟩), .pointer (some ⟨w.heap.size + 1 + 1, 0, none⟩)]) ∧
      w' = ((w.alloc (.cells #[.string s] 9)).alloc (.cells #[.string ⟨#[32]⟩] 9)).alloc (.cells #[.int .i64 0] 3) := by
    go_enter Tryd.func32, Tryd.ntmps32
    go_wp2
    go_ret
    exact ⟨rfl, rfl⟩
  go_enter Tryd.func18, Tryd.ntmps18
  go_wp2_with (go_at_call 32; refine h.mono ?_; rintro e w' ⟨rfl, hw⟩)
  go_ret
  first | exact ⟨rfl, hw⟩ | exact ⟨rfl, rfl⟩

set_option maxRecDepth 100000 in
set_option maxHeartbeats 4000000 in
theorem split_stops (n : Nat) (hn : 4 ≤ n) (B : Nat) (s : ByteArray) (w : World) (hs : s.size ≤ 1000000) (b0 : Boxed w B 9 (.string s)) (b1 : Boxed w (B + 1) 9 (.string ⟨#[32]⟩)) (b2 : Boxed w (B + 1 + 1) 3 (.int .i64 0)) :
    SeqW Fence.wide n Tryd.prog 41 #[.pointer (some ⟨B + 1, 0, none⟩), .pointer (some ⟨B, 0, none⟩), .pointer (some ⟨B + 1 + 1, 0, none⟩)] encWord (fun b => b = B ∨ b = B + 1 ∨ b = B + 1 + 1)
      (fun xs => wordsL xs = splitL s.data.toList) (fun pre => ∃ r, wordsL pre ++ r = splitL s.data.toList) (s.size + 1) w := fun l J Jx V hV hJ hJx hY h0 => by
  have d0 : Boxed V B 9 (.string s) := (hV.block B b0.lt).trans b0
  have d1 : Boxed V (B + 1) 9 (.string ⟨#[32]⟩) := (hV.block (B + 1) b1.lt).trans b1
  have d2 : Boxed V (B + 1 + 1) 3 (.int .i64 0) := (hV.block (B + 1 + 1) b2.lt).trans b2
  have e1 := d1.cell
  clear b0 b1 b2
  refine callsIn_of_wp Tryd.func41 rfl trivial ?_ rfl
  simp only [Tryd.ntmps41, List.size_toArray, List.length_cons, List.length_nil, Nat.reduceAdd, Nat.reduceSub, Array.replicate_succ, Array.replicate_zero, List.push_toArray, List.append_toArray, List.nil_append, List.cons_append]
  gi_wp2_with fail
  gi_loopg [29] s.size (fun r _ wr => ∃ (pre : List Word) (R : ByteArray), r = R.size ∧ Hid (wordsL pre ++ splitL R.data.toList = splitL s.data.toList) ∧ pre.length + R.size ≤ s.size ∧ Boxed wr B 9 (.string R) ∧ Boxed wr (B + 1) 9 (.string ⟨#[32]⟩) ∧ Boxed wr (B + 1 + 1) 3 (.int .i64 0) ∧ J pre wr)
  case atStart => exact ⟨[], s, rfl, by simp [wordsL, Hid], by simp, d0, d1, d2, h0⟩
  case round =>
    obtain ⟨pre, R, hr, HR, hsz, k0, k1, k2, hJs⟩ := hrel
    have hR : R.size ≤ 1000000 := by omega
    have HG := Lib.hid hr
    clear hr d0 d1 d2 e1
    have c0 := k0.cell; have c1 := k1.cell; have c2 := k2.cell
    have hix : ∀ W, Calls Tryd.prog 43 #[.string R, .string ⟨#[32]⟩] W fun e w' => e = .returned (.int .i64 (Lib.indexByte R.data.toList 32)) ∧ W = w' := fun W => ix1 R 32 W hR
    have hge := Lib.indexByte_ge R.data.toList 32
    by_cases hno : Lib.indexByte R.data.toList 32 = -1
    · have hsp := split_none R hno
      rw [hno] at hix
      have HN : Hid (wordsL (pre ++ [⟨R, hR⟩]) = splitL s.data.toList) := by
        have := HR.out; rw [hsp] at this; rw [wordsL_snoc]; exact this
      clear hno hsp hge
      obtain ⟨fn, tmps, assign, body, hy, hRd⟩ := hY pre ⟨R, hR⟩ wr hJs (by omega)
      dsimp only [encWord] at hy
      gi_wp2_with fail
      refine ⟨trivial, fun _ => by omega, ((callsIn_wide (n := n - 1)).2 (hix _)).mono ?_⟩
      rintro e w' ⟨rfl, rfl⟩
      gi_wp2_with fail
      refine ⟨fun _ => by omega, hRd.mono ?_⟩
      rintro e W3 (⟨rfl, hJ3, _⟩ | ⟨rfl, hJx3⟩)
      · gi_wp2_with fail
        go_end0
        exact ⟨⟨_, rfl⟩, .inl ⟨_, HN.out, hJ3⟩⟩
      · gi_wp2_with fail
        go_end0
        exact ⟨⟨_, rfl⟩, .inr ⟨_, ⟨[], by rw [List.append_nil]; exact HN.out⟩, hJx3⟩⟩
    · obtain ⟨o, ho⟩ : ∃ o : Nat, Lib.indexByte R.data.toList 32 = o := ⟨(Lib.indexByte R.data.toList 32).toNat, by omega⟩
      obtain ⟨hoR, hsp⟩ := split_some R o ho
      rw [ho] at hix
      have hxs : (R.extract 0 o).size ≤ 1000000 := by simp; omega
      have hrs : (R.extract (o + 1) R.size).size = R.size - (o + 1) := by simp
      have HN : Hid (wordsL (pre ++ [⟨R.extract 0 o, hxs⟩]) ++ splitL (R.extract (o + 1) R.size).data.toList = splitL s.data.toList) := by
        have := HR.out; rw [hsp] at this; rw [wordsL_snoc, List.append_assoc]; exact this
      have HRS := Lib.hid hrs
      have hp0 : ¬ ((o : Int) < 0) := by omega
      have hp1 : (o : Int) ≤ (R.size : Int) := by omega
      have hp2 : (o : Int) + 1 ≤ (R.size : Int) := by omega
      clear hno hsp hge ho hrs
      obtain ⟨fn, tmps, assign, body, hy, hRd⟩ := hY pre ⟨R.extract 0 o, hxs⟩ wr hJs (by omega)
      dsimp only [encWord] at hy
      gi_wp2_with fail
      refine ⟨trivial, fun _ => by omega, ((callsIn_wide (n := n - 1)).2 (hix _)).mono ?_⟩
      rintro e w' ⟨rfl, rfl⟩
      gi_wp2_with fail
      refine ⟨fun _ => by omega, hRd.mono ?_⟩
      rintro e W3 (⟨rfl, hJ3, hS3⟩ | ⟨rfl, hJx3⟩)
      · have m0 : Boxed W3 B 9 (.string R) := (hS3 B (.inl rfl)).trans k0
        have m1 : Boxed W3 (B + 1) 9 (.string ⟨#[32]⟩) := (hS3 (B + 1) (.inr (.inl rfl))).trans k1
        have m2 : Boxed W3 (B + 1 + 1) 3 (.int .i64 0) := (hS3 (B + 1 + 1) (.inr (.inr rfl))).trans k2
        have g0 := m0.cell; have g1 := m1.cell; have f0 := m0.frozen
        have hJ4 : J (pre ++ [⟨R.extract 0 o, hxs⟩]) (W3.setCell ⟨B, 0, none⟩ (.string (R.extract (o + 1) R.size))) := hJ _ _ _ (some B) hJ3 (grownBy_setCell' _ _ _) (fun r e => by cases e; exact .inl (.inl rfl))
        have HJ := Lib.hid hJ4
        clear hJ4 hJ3 hS3
        gi_wp2_with fail
        gi_roundg (R.extract (o + 1) R.size).size
        case measure => rw [HG.out, HRS.out]; omega
        case rel => exact ⟨_, _, rfl, HN, by rw [HRS.out]; simp; omega, m0.set _, m1.other (by omega) _, m2.other (by omega) _, HJ.out⟩
      · gi_wp2_with fail
        refine bodyPost_ret (results_none rfl _ _ _) rfl ?_
        exact ⟨⟨_, rfl⟩, .inr ⟨_, ⟨_, HN.out⟩, hJx3⟩⟩
end Go.Proofs.YtadojlmjapmbhaaDoor
end
section
/- Layer 12: All, Number, CutPrefix, the answers' Number. -/
namespace Go.Proofs.YtadojlmjapmbhaaDoor
set_option linter.unusedVariables false
set_option linter.unusedSimpArgs false
open Go.RowKit Go.Shelf
attribute [local go_sem] Oper.semAt_some

theorem cell_lt {W : World} {g o : Nat} {v : Value} (h : W.cell? ⟨g, o, none⟩ = some v) : g < W.heap.size := by
  unfold World.cell? at h
  cases hb : W.heap[g]? with
  | none => simp [hb] at h
  | some x => exact (Array.getElem?_eq_some_iff.1 hb).1
/-- a result that lies in a cell -/
theorem res_in {P : Program} {fn : Func} {p : Tmp} {ty : TypeId} (h : fn.results = #[.cell p ty]) (tmps : Array Value) (w : World) (g : Nat) (v : Value) (d : TypeDesc) (hp : tmps.getD p undef = .pointer (some ⟨g, 0, none⟩)) (hc : w.cell? ⟨g, 0, none⟩ = some v)
    (hu : P.underlying ty = some d) (hd : (match d with | .struct _ | .array _ _ => true | _ => false) = false) : (results fn tmps).run P w = .ok v w := by
  have hp' : tmps[p]?.getD undef = .pointer (some ⟨g, 0, none⟩) := by simpa using hp
  have hagg : (isAgg ty).run P w = .ok false w := by
    unfold isAgg
    rw [Sem.run_bind, run_underlying hu w]
    cases d <;> simp_all
  simp [results, h, hp', asAddr, loadVar, Sem.run_bind, hagg, go_sem, hc]
theorem def_cell {W : World} {D b : Nat} {v : Value} (hK : W.heap[D]? = some (.deferred (some []))) (o' : Obj) (hc : W.cell? ⟨b, 0, none⟩ = some v) : (W.putObj D o').cell? ⟨b, 0, none⟩ = some v := by
  have hne : b ≠ D := by
    rintro rfl
    simp [World.cell?, hK] at hc
  exact (World.cell?_of_block (w := W) (a := ⟨b, 0, none⟩) (World.putObj_heap_other hne)).trans hc

def awayB : ByteArray := ⟨#[97, 119, 97, 121, 45, 110, 111, 116, 105, 102, 121]⟩
def echoB : ByteArray := ⟨#[101, 99, 104, 111, 45, 109, 101, 115, 115, 97, 103, 101]⟩
def multiB : ByteArray := ⟨#[109, 117, 108, 116, 105, 45, 112, 114, 101, 102, 105, 120]⟩
abbrev CapE := ByteArray × Int
abbrev encCap (x : CapE) : Array Value := #[.string x.1, .int .i64 x.2]
def knownC : List CapE := [(awayB, 1), (echoB, 2), (multiB, 4)]
/-- the table is laid -/
def Known (W : World) : Prop := W.cell? ⟨0, 0, none⟩ = some (.string awayB) ∧ W.cell? ⟨0, 1, none⟩ = some (.int .i64 1) ∧ W.cell? ⟨0, 2, none⟩ = some (.string echoB) ∧ W.cell? ⟨0, 3, none⟩ = some (.int .i64 2) ∧
  W.cell? ⟨0, 4, none⟩ = some (.string multiB) ∧ W.cell? ⟨0, 5, none⟩ = some (.int .i64 4)
theorem Known.kept {W W' : World} (h : Known W) (hb : Below W.heap.size W W') : Known W' := by
  have hg := cell_lt h.1
  unfold Known
  rw [hb.cell (p := ⟨_, 0, none⟩) hg, hb.cell (p := ⟨_, 1, none⟩) hg, hb.cell (p := ⟨_, 2, none⟩) hg, hb.cell (p := ⟨_, 3, none⟩) hg, hb.cell (p := ⟨_, 4, none⟩) hg, hb.cell (p := ⟨_, 5, none⟩) hg]
  exact h

theorem all_any (w : World) : Calls Tryd.prog 11 #[] w fun e w' => e = .returned (.func (.func 22) #[] #[]) ∧ w' = w := by
  go_enter Tryd.func11, Tryd.ntmps11
  go_wp2
  go_ret
  exact ⟨rfl, rfl⟩

theorem cap_at0 (a b c : ByteArray) (i j k : Int) (w : World) : (Instr.index 50 (.agg #[.string a, .int .i64 i, .string b, .int .i64 j, .string c, .int .i64 k]) (.int .i64 0)).run Tryd.prog w = .ok (.agg #[.string a, .int .i64 i]) w := by kernel_rfl
theorem cap_at1 (a b c : ByteArray) (i j k : Int) (w : World) : (Instr.index 50 (.agg #[.string a, .int .i64 i, .string b, .int .i64 j, .string c, .int .i64 k]) (.int .i64 1)).run Tryd.prog w = .ok (.agg #[.string b, .int .i64 j]) w := by kernel_rfl
theorem cap_at2 (a b c : ByteArray) (i j k : Int) (w : World) : (Instr.index 50 (.agg #[.string a, .int .i64 i, .string b, .int .i64 j, .string c, .int .i64 k]) (.int .i64 2)).run Tryd.prog w = .ok (.agg #[.string c, .int .i64 k]) w := by kernel_rfl

set_option maxRecDepth 100000 in
set_option maxHeartbeats 4000000 in
theorem all_stops (n : Nat) (hn : 2 ≤ n) (w : World) (hK : Known w) :
    SeqW Fence.wide n Tryd.prog 22 #[] encCap (fun _ => False) (fun xs => xs = knownC) (fun pre => ∃ r, pre ++ r = knownC) 3 w := fun l J Jx V hV hJ hJx hY h0 => by
  obtain ⟨q0, q1, q2, q3, q4, q5⟩ := hK.kept hV
  refine callsIn_of_wp Tryd.func22 rfl trivial ?_ rfl
  simp only [Tryd.ntmps22, List.size_toArray, List.length_cons, List.length_nil, Nat.reduceAdd, Nat.reduceSub, Array.replicate_succ, Array.replicate_zero, List.push_toArray, List.append_toArray, List.nil_append, List.cons_append]
  gi_wp2_with fail
  gi_loopw [5] (fun i wr => ∃ k : Nat, i = .int .i64 k ∧ k ≤ 3 ∧ J (knownC.take k) wr) (fun i _ => 3 - (Go.RowKit.intOf i).toNat)
  case atStart => exact ⟨0, rfl, by omega, h0⟩
  case round =>
    obtain ⟨k, rfl, hk, hJs⟩ := hrel
    clear q0 q1 q2 q3 q4 q5
    have hc0 := cap_at0; have hc1 := cap_at1; have hc2 := cap_at2
    rcases k with _ | _ | _ | _ | k
    · have hJ1 := hJ _ _ _ none hJs (World.grownBy_alloc wr (.cells #[.string awayB, .int .i64 1] 49) none) (fun r e => by cases e)
      obtain ⟨fn, tmps, assign, body, hy, hRd⟩ := hY _ (awayB, 1) _ hJ1 (by decide)
      dsimp only [encCap] at hy
      gi_wp2_with fail
      refine ⟨fun _ => by omega, hRd.mono ?_⟩
      rintro e W3 (⟨rfl, hJ3, _⟩ | ⟨rfl, hJx3⟩)
      · gi_wp2_with fail
        go_roundw
        case rel => exact ⟨1, by go_num, by omega, hJ3⟩
        case measure => simp [Go.RowKit.intOf]
      · gi_wp2_with fail
        refine bodyPost_ret (results_none rfl _ _ _) rfl ?_
        exact ⟨⟨_, rfl⟩, .inr ⟨_, ⟨knownC.drop 1, rfl⟩, hJx3⟩⟩
    · have hJ1 := hJ _ _ _ none hJs (World.grownBy_alloc wr (.cells #[.string echoB, .int .i64 2] 49) none) (fun r e => by cases e)
      obtain ⟨fn, tmps, assign, body, hy, hRd⟩ := hY _ (echoB, 2) _ hJ1 (by decide)
      dsimp only [encCap] at hy
      gi_wp2_with fail
      refine ⟨fun _ => by omega, hRd.mono ?_⟩
      rintro e W3 (⟨rfl, hJ3, _⟩ | ⟨rfl, hJx3⟩)
      · gi_wp2_with fail
        go_roundw
        case rel => exact ⟨2, by go_num, by omega, hJ3⟩
        case measure => simp [Go.RowKit.intOf]
      · gi_wp2_with fail
        refine bodyPost_ret (results_none rfl _ _ _) rfl ?_
        exact ⟨⟨_, rfl⟩, .inr ⟨_, ⟨knownC.drop 2, rfl⟩, hJx3⟩⟩
    · have hJ1 := hJ _ _ _ none hJs (World.grownBy_alloc wr (.cells #[.string multiB, .int .i64 4] 49) none) (fun r e => by cases e)
      obtain ⟨fn, tmps, assign, body, hy, hRd⟩ := hY _ (multiB, 4) _ hJ1 (by decide)
      dsimp only [encCap] at hy
      gi_wp2_with fail
      refine ⟨fun _ => by omega, hRd.mono ?_⟩
      rintro e W3 (⟨rfl, hJ3, _⟩ | ⟨rfl, hJx3⟩)
      · gi_wp2_with fail
        go_roundw
        case rel => exact ⟨3, by go_num, by omega, hJ3⟩
        case measure => simp [Go.RowKit.intOf]
      · gi_wp2_with fail
        refine bodyPost_ret (results_none rfl _ _ _) rfl ?_
        exact ⟨⟨_, rfl⟩, .inr ⟨_, ⟨knownC.drop 3, rfl⟩, hJx3⟩⟩
    · gi_wp2_with fail
      go_end0
      exact ⟨⟨_, rfl⟩, .inl ⟨_, rfl, hJs⟩⟩
    · omega

/-- no name of these -/
def NotIn (name : ByteArray) (pre : List CapE) : Prop := ∀ x ∈ pre, x.1 ≠ name
/-- the last of these is it -/
def LastIs (name : ByteArray) (B : Nat) (w : World) (pre : List CapE) (W : World) : Prop := ∃ (p0 : List CapE) (x : CapE), pre = p0 ++ [x] ∧ x.1 = name ∧ NotIn name p0 ∧ Boxed W (B + 1) 3 (.int .i64 x.2) ∧ Below B w W
theorem numV_none {name : ByteArray} (h : NotIn name knownC) : numV name.data.toList = 0#64 := by
  have ne : ∀ b : ByteArray, b ≠ name → name.data.toList ≠ b.data.toList := fun b hb e => hb (ba_ext e.symm)
  unfold numV
  rw [if_neg (show name.data.toList ≠ awayL from ne awayB (h (awayB, 1) (by simp [knownC]))), if_neg (show name.data.toList ≠ echoL from ne echoB (h (echoB, 2) (by simp [knownC]))), if_neg (show name.data.toList ≠ multiL from ne multiB (h (multiB, 4) (by simp [knownC])))]
theorem numV_last {name : ByteArray} {p0 r : List CapE} {x : CapE} (hp : (p0 ++ [x]) ++ r = knownC) (hx : x.1 = name) : (IV (numV name.data.toList)) = x.2 := by
  have hl := congrArg List.length hp
  subst hx
  rcases p0 with _ | ⟨a, _ | ⟨b, _ | ⟨c, p0⟩⟩⟩
  · simp [knownC] at hp; obtain ⟨rfl, _⟩ := hp; decide +kernel
  · simp [knownC] at hp; obtain ⟨_, rfl, _⟩ := hp; decide +kernel
  · simp [knownC] at hp; obtain ⟨_, _, rfl, _⟩ := hp; decide +kernel
  · simp [knownC] at hl

set_option maxRecDepth 100000 in
set_option maxHeartbeats 4000000 in
theorem number_any (name : ByteArray) (w : World) (hK : Known w) :
    Calls Tryd.prog 7 #[.string name] w fun e w' => e = .returned (.int .i64 (IV (numV name.data.toList))) ∧ Below w.heap.size w w' := by
  refine (callsIn_wide (n := 6)).1 ?_
  refine callsIn_of_wp_marks Tryd.func7 rfl trivial ?_ rfl
  simp only [Tryd.ntmps7, List.size_toArray, List.length_cons, List.length_nil, Nat.reduceAdd, Nat.reduceSub, Array.replicate_succ, Array.replicate_zero, List.push_toArray, List.append_toArray, List.nil_append, List.cons_append]
  gi_wp2_with fail
  refine ⟨trivial, ((callsIn_wide (n := 5)).2 (all_any _)).mono ?_⟩
  rintro e w2 ⟨rfl, hw2⟩
  have bN := (Boxed.new w 9 (.string name)).alloc (.cells #[.int .i64 0] 3)
  have bR := Boxed.new (w.alloc (.cells #[.string name] 9)) 3 (.int .i64 0)
  rw [World.size_alloc] at bR
  have hB2 : Below w.heap.size w w2 := by rw [hw2]; exact ((Below.refl _ w).alloc (Nat.le_refl _) _).alloc (by simp) _
  have hz : w2.heap.size = w.heap.size + 2 := by rw [hw2]; simp
  rw [← hw2] at bN bR
  obtain ⟨B, hBd⟩ : ∃ B, B = w.heap.size := ⟨_, rfl⟩
  rw [← hBd] at bN bR hz hB2 ⊢
  have HX := Lib.hid (And.intro hw2 hBd)
  have hlw : B ≤ w.heap.size := by omega
  have hK2 := hK.kept (by rw [← hBd]; exact hB2)
  clear hw2 hBd
  gi_wp2_with fail
  refine wpIn_rangeW (X := fun _ => False) (encs := encCap) (gf := 22) (lb := #[])
    (fun pre W => ((Boxed W B 9 (.string name) ∧ Boxed W (B + 1) 3 (.int .i64 0)) ∧ Below B w W) ∧ NotIn name pre)
    (fun c pre W => c = .ret ∧ LastIs name B w pre W)
    (fun x => { tmps := #[.string name, .pointer (some ⟨B, 0, none⟩), .pointer (some ⟨B + 1, 0, none⟩), .string x.1, .int .i64 x.2, .func (.func 22) #[] #[], .string x.1, .int .i64 x.2, undef, undef, undef, undef], defers := [] })
    rfl (all_stops 5 (by omega) w2 hK2) (Below.refl _ _) (fun _ h => h.elim) rfl (by omega) trivial (enters_of Tryd.func22 (by kernel_rfl) rfl) (fun _ => rfl)
    (OwnFrom.and (OwnFrom.and (Own.from (fun pre A C row hh hg hr => by
      have ne : ∀ {b : Nat} {t : TypeId} {v : Value}, Boxed A b t v → some b ≠ row := fun {b t v} h e => by
        obtain ⟨o, ho, hc⟩ := hr b e.symm
        rw [show A.heap[b]? = _ from h] at ho; cases ho; cases hc
      exact ⟨hh.1.kept hg (ne hh.1), hh.2.kept hg (ne hh.2)⟩) _) (ownFrom_below (by omega) (by omega))) (ownFrom_pure _ _))
    (fun _ _ _ _ h => h.elim)
    (fun c pre A C row hh hg hr => by
      obtain ⟨rfl, p0, x, e, hx, hn, hb, hB⟩ := hh
      have ne : some (B + 1) ≠ row := fun e => by
        obtain ⟨_, o, ho, hc⟩ := hr _ e.symm
        rw [show A.heap[B + 1]? = _ from hb] at ho; cases ho; cases hc
      exact ⟨rfl, p0, x, e, hx, hn, hb.kept hg ne, hB.grown hg (by have := hb.lt; omega) (fun k e => by have := (hr k e).1; omega)⟩)
    (fun _ _ _ _ _ h => h.elim)
    ⟨⟨⟨bN, bR⟩, hB2⟩, fun x h => by cases h⟩ ?assign ?body ?done ?stop
  case assign =>
    intro l x V K hKK
    gi_wp2
    exact hKK
  case body =>
    rintro l pre ⟨nm, v⟩ W ⟨⟨⟨b1, b2⟩, hB⟩, hN⟩ hlt
    have c1 := b1.cell
    have c2 := b2.cell
    have f2 := b2.frozen
    by_cases h : nm = name
    · have q : (nm.toList == name.toList) = true := by rw [h]; simp
      have H := Lib.hid h
      clear h
      gi_wp2_with fail
      exact ⟨(KeepsOthers.setCell _ _ _).from _, rfl, pre, (nm, v), rfl, H.out, hN, b2.set _, hB.setCell (p := ⟨B + 1, 0, none⟩) (show B ≤ B + 1 by omega) _⟩
    · have q : (nm.toList == name.toList) = false := by rw [beq_ba, beq_eq_false_iff_ne]; exact fun e => h (ba_ext e)
      have H := Lib.hid h
      clear h
      gi_wp2_with fail
      exact ⟨(KeepsOthers.refl _).from _, fun _ hb => hb.elim, ⟨⟨b1, b2⟩, hB⟩, fun x hx => by
        rcases List.mem_append.1 hx with hx | hx
        · exact hN x hx
        · rw [List.mem_singleton.1 hx]; exact H.out⟩
  case done =>
    rintro D xs V hD rfl ⟨⟨⟨b1, b2⟩, hB⟩, hN⟩ hKd
    have c2 := b2.cell
    have f2 := b2.frozen
    have hv := numV_none hN
    have HV := Lib.hid (And.intro hv hKd)
    clear hv hN
    have hK3 : (V.setCell ⟨B + 1, 0, none⟩ (.int .i64 0)).heap[D]? = some (.deferred (some [])) := (KeepsOthers.setCell V ⟨B + 1, 0, none⟩ (.int .i64 0)).same D _ hKd rfl
    have HK3 := Lib.hid hK3
    clear hK3 hKd
    gi_wp2_with fail
    refine ⟨by simp, .inl ⟨_, _, rfl, run_takeDeferred HK3.out, ?_⟩⟩
    have hB3 : Below w.heap.size w (V.setCell ⟨B + 1, 0, none⟩ (.int .i64 0)) := by
      rw [← HX.out.2]; exact hB.setCell (p := ⟨B + 1, 0, none⟩) (show B ≤ B + 1 by omega) _
    exact ⟨_, res_in rfl _ _ (B + 1) _ _ rfl (def_cell HK3.out _ (b2.set (.int .i64 0)).cell) Tryd.underlying3 rfl, by rw [HV.out.1]; rfl, hB3.trans (belowK_b (w := w) (Nat.le_refl _) _ D _ _ (by have := HX.out.2; omega) HK3.out rfl rfl)⟩
  case stop =>
    rintro D c pre V hD ⟨r, hS⟩ ⟨rfl, p0, x, rfl, hx, hn, hb, hB⟩ hKd
    have hv := numV_last hS hx
    have HV := Lib.hid (And.intro hv hKd)
    have cb := hb.cell
    clear hv hx hn hS hKd
    gi_wp2_with fail
    refine ⟨by simp, .inl ⟨_, _, rfl, run_takeDeferred HV.out.2, ?_⟩⟩
    have hB3 : Below w.heap.size w V := by rw [← HX.out.2]; exact hB
    exact ⟨_, res_in rfl _ _ (B + 1) _ _ rfl (def_cell HV.out.2 _ cb) Tryd.underlying3 rfl, by rw [HV.out.1], hB3.trans (belowK_b (w := w) (Nat.le_refl _) _ D _ _ (by have := HX.out.2; omega) HV.out.2 rfl rfl)⟩
end Go.Proofs.YtadojlmjapmbhaaDoor
end
section
/- What a call leaves as it lay: all blocks but those of X, and new ones. A block of cells, known whole. -/
namespace Go.Proofs.YtadojlmjapmbhaaDoor
open Go Go.RowKit

structure Fr (X : Nat → Prop) (w w' : World) : Prop where
  os : w'.os = w.os
  tape : w'.tape = w.tape
  output : w'.output = w.output
  size : w.heap.size ≤ w'.heap.size
  block : ∀ k, k < w.heap.size → ¬ X k → w'.heap[k]? = w.heap[k]?
section
variable {X Y : Nat → Prop} {a b c w w' : World}
theorem Fr.refl (X : Nat → Prop) (w : World) : Fr X w w := ⟨rfl, rfl, rfl, Nat.le_refl _, fun _ _ _ => rfl⟩
theorem Fr.trans (h : Fr X a b) (k : Fr X b c) : Fr X a c :=
  ⟨k.os.trans h.os, k.tape.trans h.tape, k.output.trans h.output, Nat.le_trans h.size k.size, fun i hi hx => (k.block i (Nat.lt_of_lt_of_le hi h.size) hx).trans (h.block i hi hx)⟩
theorem Fr.mono (h : Fr X w w') (hx : ∀ k, k < w.heap.size → X k → Y k) : Fr Y w w' := ⟨h.os, h.tape, h.output, h.size, fun k hk hy => h.block k hk fun e => hy (hx k hk e)⟩
theorem Fr.drew (h : Fr X a w) : Fr X a w.drew := ⟨h.os, h.tape, h.output, h.size, h.block⟩
theorem Fr.drewN (h : Fr X a w) : ∀ n, Fr X a (w.drewN n)
  | 0 => h
  | n + 1 => ⟨h.os, h.tape, h.output, h.size, h.block⟩
theorem Fr.alloc (h : Fr X a w) (o : Obj) : Fr X a (w.alloc o) :=
  ⟨h.os, h.tape, h.output, by rw [World.size_alloc]; have := h.size; omega, fun k hk hx => (Below.heap_alloc w o k (Nat.lt_of_lt_of_le hk h.size)).trans (h.block k hk hx)⟩
theorem Fr.setCell (h : Fr X a w) (p : Addr) (hp : X p.block) (u : Value) : Fr X a (w.setCell p u) := by
  refine ⟨?_, ?_, ?_, ?_, fun k hk hx => (Below.heap_setCell w p u k fun e => hx (e ▸ hp)).trans (h.block k hk hx)⟩
  all_goals have B := (Below.refl 0 w).setCell (p := p) (Nat.zero_le _) u
  · exact B.os.trans h.os
  · exact B.tape.trans h.tape
  · exact B.output.trans h.output
  · exact Nat.le_trans h.size B.size
theorem Fr.setNew (h : Fr X a w) (p : Addr) (hp : a.heap.size ≤ p.block) (u : Value) : Fr X a (w.setCell p u) := by
  refine ⟨?_, ?_, ?_, ?_, fun k hk hx => (Below.heap_setCell w p u k fun e => by omega).trans (h.block k hk hx)⟩
  all_goals have B := (Below.refl 0 w).setCell (p := p) (Nat.zero_le _) u
  · exact B.os.trans h.os
  · exact B.tape.trans h.tape
  · exact B.output.trans h.output
  · exact Nat.le_trans h.size B.size
theorem Fr.of_below (h : Below w.heap.size w w') : Fr X w w' := ⟨h.os, h.tape, h.output, h.size, fun k hk _ => h.block k hk⟩
theorem Fr.below (h : Fr X w w') {B : Nat} (hB : B ≤ w.heap.size) (hx : ∀ k, k < w.heap.size → X k → B ≤ k) : Below B w w' :=
  ⟨h.os, h.tape, h.output, h.size, fun k hk => h.block k (Nat.lt_of_lt_of_le hk hB) fun e => by have := hx k (Nat.lt_of_lt_of_le hk hB) e; omega⟩
theorem Fr.grown {row : Option Nat} (h : Fr X a w) (hg : w.grownBy w' row) (hr : ∀ k, row = some k → a.heap.size ≤ k ∨ X k) : Fr X a w' :=
  ⟨hg.os.trans h.os, hg.tape.trans h.tape, hg.output.trans h.output, Nat.le_trans h.size hg.size, fun k hk hx => (hg.block k (Nat.lt_of_lt_of_le hk h.size) fun e => by rcases hr k e.symm with h | h; omega; exact hx h).trans (h.block k hk hx)⟩
theorem Fr.cell (h : Fr X w w') {p : Addr} (hp : p.block < w.heap.size) (hx : ¬ X p.block) : w'.cell? p = w.cell? p := World.cell?_of_block (w := w) (h.block p.block hp hx)
theorem Fr.frozen (h : Fr X w w') {p : Addr} (hp : p.block < w.heap.size) (hx : ¬ X p.block) : w'.frozen? p = w.frozen? p := World.frozen?_of_block (w := w) (h.block p.block hp hx)
theorem Fr.blk (h : Fr X w w') {k : Nat} {o : Obj} (hk : w.heap[k]? = some o) (hx : ¬ X k) : w'.heap[k]? = some o := (h.block k (Array.getElem?_eq_some_iff.1 hk).1 hx).trans hk
/-- no block of cells was made anything else: what a round of a loop over a function owes -/
theorem Fr.keeps (h : Fr X w w') (hx : ∀ k, k < w.heap.size → X k → ∃ o, w.heap[k]? = some o ∧ o.isCells = true) (B : Nat) : KeepsFrom B w w' :=
  ⟨h.size, fun k o _ ho hc => h.blk ho fun e => by
    obtain ⟨o2, h2, h3⟩ := hx k (Array.getElem?_eq_some_iff.1 ho).1 e
    rw [ho] at h2; cases h2; rw [hc] at h3; cases h3⟩
end
section
variable {W : World} {B : Nat} {cs : Array Value} {T : TypeId}
theorem blk_lt {o : Obj} (h : W.heap[B]? = some o) : B < W.heap.size := (Array.getElem?_eq_some_iff.1 h).1
theorem blk_cell (h : W.heap[B]? = some (.cells cs T (0, 0))) (j : Nat) : W.cell? ⟨B, j, none⟩ = cs[j]? := cell_of_row W B j cs T _ h
theorem blk_free (h : W.heap[B]? = some (.cells cs T (0, 0))) (j : Nat) : W.frozen? ⟨B, j, none⟩ = false := frozen_of_row W B j cs T h
theorem blk_set (h : W.heap[B]? = some (.cells cs T (0, 0))) (j : Nat) (v : Value) : (W.setCell ⟨B, j, none⟩ v).heap[B]? = some (.cells (cs.setIfInBounds j v) T (0, 0)) := heap_setCell_same W B j cs T v h
theorem blk_other {o : Obj} (h : W.heap[B]? = some o) (p : Addr) (hp : B ≠ p.block) (v : Value) : (W.setCell p v).heap[B]? = some o := (heap_setCell_other W p B v hp).trans h
theorem blk_alloc {o : Obj} (h : W.heap[B]? = some o) (o' : Obj) : (W.alloc o').heap[B]? = some o := (Below.heap_alloc W o' B (blk_lt h)).trans h
theorem blk_drew {o : Obj} (h : W.heap[B]? = some o) : W.drew.heap[B]? = some o := h
end
/-- a row lies as it lay, if its block does -/
theorem row_same {w w' : World} {base : Nat} {e : TypeId} {size : Nat} {v : Value} {n : Nat} {xs : List Value} (h : w.ownsRow base e size v n xs) (hs : ∀ g, v.ownBlock = some g → w'.heap[g]? = w.heap[g]?) : w'.ownsRow base e size v n xs := by
  obtain ⟨h1, h2⟩ := h
  refine ⟨h1, ?_⟩
  rcases h2 with h2 | ⟨g, cap, cur, rfl, h3, h4, h5⟩
  · exact .inl h2
  · exact .inr ⟨g, cap, cur, rfl, h3, (hs g rfl).trans h4, h5⟩
theorem row_slice {w : World} {base : Nat} {e : TypeId} {size : Nat} {v : Value} {n : Nat} {xs : List Value} (h : w.ownsRow base e size v n xs) : ∃ A c, v = .slice A n c := by
  rcases h.2 with ⟨rfl, rfl⟩ | ⟨g, cap, cur, rfl, _⟩
  · exact ⟨_, _, rfl⟩
  · exact ⟨_, _, rfl⟩
/-- what is no cells turned: blocks of cells lie as they lay -/
theorem put_blk {W : World} {D k : Nat} {o o' : Obj} {cs : Array Value} {T : TypeId} (hD : W.heap[D]? = some o) (ho : o.isCells = false) (hk : W.heap[k]? = some (.cells cs T (0, 0))) : (W.putObj D o').heap[k]? = some (.cells cs T (0, 0)) :=
  (World.putObj_heap_other fun e => by subst e; rw [hk] at hD; cases hD; cases ho).trans hk
theorem put_row {W : World} {D : Nat} {o o' : Obj} (hD : W.heap[D]? = some o) (ho : o.isCells = false) {base : Nat} {e : TypeId} {size : Nat} {v : Value} {n : Nat} {xs : List Value} (h : W.ownsRow base e size v n xs) : (W.putObj D o').ownsRow base e size v n xs := by
  obtain ⟨h1, h2⟩ := h
  refine ⟨h1, ?_⟩
  rcases h2 with h2 | ⟨g, cap, cur, rfl, h3, h4, h5⟩
  · exact .inl h2
  · exact .inr ⟨g, cap, cur, rfl, h3, put_blk hD ho h4, h5⟩
theorem put_below {W : World} {D B : Nat} {o' : Obj} (hD : B ≤ D) (hB : B ≤ W.heap.size) : Below B W (W.putObj D o') := (Below.refl B W).grown (grownBy_putObj' W D o') hB (fun k e => by cases e; exact hD)
/-- a result that lies in a cell -/
theorem results_box {P : Program} {fn : Func} {p : Tmp} {ty : TypeId} (h : fn.results = #[.cell p ty]) (tmps : Array Value) (w : World) (g : Nat) (v : Value) (d : TypeDesc) (hp : tmps.getD p undef = .pointer (some ⟨g, 0, none⟩)) (hc : w.cell? ⟨g, 0, none⟩ = some v)
    (hu : P.underlying ty = some d) (hd : (match d with | .struct _ | .array _ _ => true | _ => false) = false) : (results fn tmps).run P w = .ok v w := by
  have hp' : tmps[p]?.getD undef = .pointer (some ⟨g, 0, none⟩) := by simpa using hp
  have hagg : (isAgg ty).run P w = .ok false w := by
    unfold isAgg
    rw [Sem.run_bind, run_underlying hu w]
    cases d <;> simp_all
  simp [results, h, hp', asAddr, loadVar, Sem.run_bind, hagg, go_sem, hc]
/-- block B holds these cells, whatever is laid besides -/
theorem blk_own {β : Type} (B : Nat) (T : TypeId) (f : β → Array Value) : Own (fun s W => W.heap[B]? = some (.cells (f s) T (0, 0))) := fun s X Y row hs hg hrow =>
  (hg.block B (blk_lt hs) (fun e => by obtain ⟨o, ho, hc⟩ := hrow B e.symm; rw [hs] at ho; cases ho; cases hc)).trans hs
end Go.Proofs.YtadojlmjapmbhaaDoor
end
section
/- A range over a function, in words of what is owned: the body says which blocks X it holds; the function that ranges leaves those alone, and may keep blocks of its own between the rounds. Outermost and within a round; the loop's variables may be boxed. -/
namespace Go.Proofs.YtadojlmjapmbhaaDoor
open Go Go.RowKit

/-- X' are blocks of X, and new ones -/
def GrowX (X X' : Nat → Prop) (V V' : World) : Prop := ∀ k, X' k → k < V'.heap.size ∧ (k < V.heap.size → X k)
/-- J hangs on blocks of X alone -/
def Stays {β : Type} (J : β → (Nat → Prop) → World → Prop) : Prop := ∀ s X V V', J s X V → (∀ k, X k → k < V.heap.size) → Fr (fun k => ¬ X k) V V' → J s X V'
/-- what a function that ranges is worth, if it tells the row xs out of blocks Y -/
def SeqF {α : Type} (P : Program) (g : Nat) (lb : Array Value) (encs : α → Array Value) (Y : Nat → Prop) (xs : List α) (w : World) : Prop :=
  ∀ (l : Nat) (J Jx : List α → (Nat → Prop) → World → Prop) (X : Nat → Prop) (V : World), SameX Y w V → (∀ b, Y b → b < V.heap.size) → (∀ k, X k → k < V.heap.size ∧ ¬ Y k) → Stays J → Stays Jx →
    (∀ pre x r X1 V1, pre ++ x :: r = xs → GrowX X X1 V V1 → J pre X1 V1 → Fr X V V1 →
      YieldAt Fence.wide 0 P l (encs x) V1 fun e V' => ∃ X2, GrowX X1 X2 V1 V' ∧ Fr X1 V1 V' ∧ ((e = .returned (.bool true) ∧ J (pre ++ [x]) X2 V') ∨ (e = .returned (.bool false) ∧ Jx (pre ++ [x]) X2 V'))) →
    J [] X V → Calls P g (#[.func (.yield l) #[] #[]] ++ lb) V fun e V' => (∃ v, e = .returned v) ∧ ∃ X2, GrowX X X2 V V' ∧ Fr X V V' ∧ (J xs X2 V' ∨ ∃ pre r, pre ++ r = xs ∧ Jx pre X2 V')
section
variable {P : Program} {n m : Nat}
/-- within the wide fence it is all one how deep, and in what round -/
theorem round_wide {F : Fence} (hF : F = Fence.wide ∨ ∃ l, F = Fence.wide.inRound l) {l f : Nat} {tmps : Array Value} {assign body : Code} {w : World} {R : Ending → World → Prop} (h : RoundIn Fence.wide n P l f tmps assign body w R) : RoundIn F m P l f tmps assign body w R := by
  rcases hF with rfl | ⟨l0, rfl⟩
  · exact ⟨trivial, fun c cs _ => h.2 c cs (room_wide _)⟩
  · exact ⟨trivial, fun c cs _ => h.2 c cs (room_wide _)⟩
theorem yield_wide {F : Fence} (hF : F = Fence.wide ∨ ∃ l, F = Fence.wide.inRound l) {l : Nat} {args : Array Value} {w : World} {R : Ending → World → Prop} (h : YieldAt Fence.wide n P l args w R) : YieldAt F m P l args w R := by
  obtain ⟨fn, tmps, assign, body, h1, h2⟩ := h
  exact ⟨fn, tmps, assign, body, h1, round_wide hF h2⟩
theorem calls_wide {F : Fence} (hF : F = Fence.wide ∨ ∃ l, F = Fence.wide.inRound l) {f : Nat} {args : Array Value} {w : World} {R : Ending → World → Prop} (h : Calls P f args w R) : CallsIn F n P f args w R := by
  rcases hF with rfl | ⟨l0, rfl⟩
  · exact (callsIn_wide (n := n)).2 h
  · exact (callsIn_wide (n := n)).2 h
end
theorem Fr.putObj {X : Nat → Prop} {a w : World} (h : Fr X a w) (l : Nat) (hl : X l) (o : Obj) : Fr X a (w.putObj l o) := h.grown (grownBy_putObj' w l o) fun k e => by cases e; exact .inr hl
theorem GrowX.refl {X : Nat → Prop} {V : World} (h : ∀ k, X k → k < V.heap.size) : GrowX X X V V := fun k hk => ⟨h k hk, fun _ => hk⟩
theorem GrowX.trans {X X1 X2 : Nat → Prop} {A B C : World} (h : GrowX X X1 A B) (k : GrowX X1 X2 B C) (hs : A.heap.size ≤ B.heap.size) : GrowX X X2 A C := fun b hb => ⟨(k b hb).1, fun hl => (h b ((k b hb).2 (by omega))).2 hl⟩

theorem Fr.trans3 {X Y : Nat → Prop} {a b c : World} (h : Fr X a b) (k : Fr Y b c) (hx : ∀ k, k < a.heap.size → Y k → X k) : Fr X a c :=
  ⟨k.os.trans h.os, k.tape.trans h.tape, k.output.trans h.output, Nat.le_trans h.size k.size, fun i hi hn => (k.block i (Nat.lt_of_lt_of_le hi h.size) fun e => hn (hx i hi e)).trans (h.block i hi hn)⟩
theorem putObj_size (w : World) (l : Nat) (o : Obj) : (w.putObj l o).heap.size = w.heap.size := by simp [World.putObj]
/-- how a round of the body ends -/
def EndF {α : Type} (l : Nat) (rb : Loop) (X1 : Nat → Prop) (I : List α → (Nat → Prop) → World → Prop) (Ix : Code → List α → (Nat → Prop) → World → Prop) (xs : List α) (V : World) : Exit → Act → World → Prop
  | .normal, _, V' => ∃ X2, GrowX X1 X2 V V' ∧ Fr (fun k => k = l ∨ X1 k) V V' ∧ V'.heap[l]? = some (.loop rb) ∧ I xs X2 V'
  | .ret, _, V' => ∃ X2, GrowX X1 X2 V V' ∧ Fr (fun k => k = l ∨ X1 k) V V' ∧ V'.heap[l]? = some (.loop rb) ∧ Ix .ret xs X2 V'
  | .exit id, _, V' => ∃ X2, GrowX X1 X2 V V' ∧ Fr (fun k => k = l ∨ X1 k) V V' ∧ V'.heap[l]? = some (.loop rb) ∧ Ix (.exit id) xs X2 V'
  | .goto t, _, V' => ∃ X2, GrowX X1 X2 V V' ∧ Fr (fun k => k = l ∨ X1 k) V V' ∧ V'.heap[l]? = some (.loop rb) ∧ Ix (.goto t) xs X2 V'
  | .panic _, _, _ => False
  | .outgrown, _, _ => False
/-- the record of a loop -/
def recF (fn : Nat) (tmps : Array Value) (ps : Array Tmp) (assign body : Code) (d : Nat) (st : LoopState) (pe : Option Code) : Loop := { state := st, pending := pe, fn := fn, tmps := tmps, params := ps, assign := assign, body := body, defers := d }
/-- the rounds, of whatever loop: what the function that ranges makes of them -/
theorem range_core {P : Program} {n : Nat} {α : Type} {ps : Array Tmp} {assign body : Code} {fn : Nat} {tmps : Array Value} {d gf l : Nat} {lb : Array Value} {Y X E : Nat → Prop} {encs : α → Array Value} {xs : List α} {w V1 : World}
    (I : List α → (Nat → Prop) → World → Prop) (Ix : Code → List α → (Nat → Prop) → World → Prop)
    (hseq : SeqF P gf lb encs Y xs w) (hX : ∀ k, X k → k < w.heap.size ∧ ¬ Y k) (hY : ∀ b, Y b → b < w.heap.size) (hps : ∀ x, (encs x).size = ps.size) (hI : Stays I) (hIx : ∀ c, Stays (Ix c)) (h0 : I [] X w)
    (hw : Fr (fun _ => False) w V1) (hl : w.heap.size ≤ l) (hE : ∀ k, E k → w.heap.size ≤ k ∧ k < V1.heap.size ∧ k ≠ l) (hr : V1.heap[l]? = some (.loop (recF fn tmps ps assign body d .ready none)))
    (hround : ∀ pre x r X1 V (K : Act → World → Prop) rb, pre ++ x :: r = xs → I pre X1 V → GrowX X X1 w V → (∀ k, X1 k → k ≠ l ∧ ¬ E k) → Fr X w V → l < V.heap.size →
      (∀ a1 Va, Fr (fun _ => False) V Va → (∀ Vb, Fr (fun k => k = l) V Vb → Vb.heap.size = Va.heap.size → (∀ k, k ≠ l → Vb.heap[k]? = Va.heap[k]?) → Vb.heap[l]? = some (.loop rb) → body.wpIn (Fence.wide.inRound l) n P (EndF l rb X1 I Ix (pre ++ [x]) V) a1 Vb) → K a1 Va) →
      assign.wpIn (Fence.wide.inRound l) n P (Exit.then K fun _ _ _ => False) { tmps := (ps.zip (encs x)).foldl (fun t (p, v) => t.setIfInBounds p v) tmps, defers := [] } V) :
    Calls P gf (#[.func (.yield l) #[] #[]] ++ lb) V1 fun e V2 => (∃ v, e = .returned v) ∧ ∃ X2, GrowX X X2 w V2 ∧ (∀ k, X2 k → k ≠ l ∧ ¬ E k) ∧ Fr X w V2 ∧ (∀ k, E k → V2.heap[k]? = V1.heap[k]?) ∧ l < V2.heap.size ∧
      ((I xs X2 V2 ∧ V2.heap[l]? = some (.loop (recF fn tmps ps assign body d .ready none))) ∨ ∃ pre r c, pre ++ r = xs ∧ Ix c pre X2 V2 ∧ V2.heap[l]? = some (.loop (recF fn tmps ps assign body d .done (some c)))) := by
  have hlV := blk_lt hr
  have key : ∀ (Q : List α → (Nat → Prop) → World → Prop) (o : Obj), Stays Q → Stays (fun pre X' V => ∃ X1, (∀ k, X' k ↔ (X1 k ∨ k = l ∨ E k)) ∧ Q pre X1 V ∧ V.heap[l]? = some o ∧ (∀ k, E k → V.heap[k]? = V1.heap[k]?) ∧ (∀ k, X1 k → k ≠ l ∧ ¬ E k)) := fun Q o hQ s X' V V' ⟨X1, h1, h2, h3, h4, h5⟩ hlt hf =>
    ⟨X1, h1, hQ s X1 V V' h2 (fun k hk => hlt k ((h1 k).2 (.inl hk))) (hf.mono fun k _ hn e => hn ((h1 k).2 (.inl e))), (hf.block l (blk_lt h3) (fun e => e ((h1 l).2 (.inr (.inl rfl))))).trans h3,
      fun k hk => (hf.block k (hlt k ((h1 k).2 (.inr (.inr hk)))) (fun e => e ((h1 k).2 (.inr (.inr hk))))).trans (h4 k hk), h5⟩
  have thru : ∀ {V2 : World}, Fr (fun k => X k ∨ k = l ∨ E k) V1 V2 → Fr X w V2 := fun hf => (hw.mono fun _ _ h => h.elim).trans3 hf fun k hk e => by
    rcases e with e | rfl | e
    · exact e
    · omega
    · have := (hE k e).1; omega
  have grow : ∀ {X' X1 : Nat → Prop} {V2 : World}, (∀ k, X' k ↔ (X1 k ∨ k = l ∨ E k)) → GrowX (fun k => X k ∨ k = l ∨ E k) X' V1 V2 → GrowX X X1 w V2 := fun h1 hg k hk => by
    have h2 := hg k ((h1 k).2 (.inl hk))
    refine ⟨h2.1, fun hlt => ?_⟩
    rcases h2.2 (Nat.lt_of_lt_of_le hlt hw.size) with e | rfl | e
    · exact e
    · omega
    · have := (hE k e).1; omega
  refine (hseq l (fun pre X' V => ∃ X1, (∀ k, X' k ↔ (X1 k ∨ k = l ∨ E k)) ∧ I pre X1 V ∧ V.heap[l]? = some (.loop (recF fn tmps ps assign body d .ready none)) ∧ (∀ k, E k → V.heap[k]? = V1.heap[k]?) ∧ (∀ k, X1 k → k ≠ l ∧ ¬ E k))
    (fun pre X' V => ∃ c, ∃ X1, (∀ k, X' k ↔ (X1 k ∨ k = l ∨ E k)) ∧ Ix c pre X1 V ∧ V.heap[l]? = some (.loop (recF fn tmps ps assign body d .done (some c))) ∧ (∀ k, E k → V.heap[k]? = V1.heap[k]?) ∧ (∀ k, X1 k → k ≠ l ∧ ¬ E k))
    (fun k => X k ∨ k = l ∨ E k) V1 (fun b hb => hw.block b (hY b hb) fun e => e) (fun b hb => Nat.lt_of_lt_of_le (hY b hb) hw.size) ?hX (key I _ hI) (fun s X' V V' ⟨c, h⟩ h1 h2 => ⟨c, key (Ix c) _ (hIx c) s X' V V' h h1 h2⟩) ?round
    ⟨X, fun k => Iff.rfl, hI [] X w V1 h0 (fun k hk => (hX k hk).1) (hw.mono fun _ _ h => h.elim), hr, fun _ _ => rfl, fun k hk => ⟨by have := (hX k hk).1; omega, fun e => by have := (hX k hk).1; have := (hE k e).1; omega⟩⟩).mono ?behind
  case hX =>
    rintro k (e | rfl | e)
    · exact ⟨Nat.lt_of_lt_of_le (hX k e).1 hw.size, (hX k e).2⟩
    · exact ⟨hlV, fun e => by have := hY _ e; omega⟩
    · exact ⟨(hE k e).2.1, fun e2 => by have := hY _ e2; have := (hE k e).1; omega⟩
  case behind =>
    rintro e V2 ⟨hv, X', hg, hf, (⟨X1, h1, h2, h3, h4, h5⟩ | ⟨pre, r, hpr, c, X1, h1, h2, h3, h4, h5⟩)⟩
    · exact ⟨hv, X1, grow h1 hg, h5, thru hf, h4, blk_lt h3, .inl ⟨h2, h3⟩⟩
    · exact ⟨hv, X1, grow h1 hg, h5, thru hf, h4, blk_lt h3, .inr ⟨pre, r, c, hpr, h2, h3⟩⟩
  case round =>
    rintro pre x r X' V hpx hgx ⟨X1, h1, h2, h3, h4, h5⟩ hfx
    have hy := run_yield (P := P) (args := encs x) h3 (by exact hps x)
    have hlv := blk_lt h3
    have hV1 := hfx.size
    obtain ⟨rb, hrb⟩ : ∃ rb : Loop, { recF fn tmps ps assign body d .ready none with state := .busy } = rb := ⟨_, rfl⟩
    refine ⟨fn, _, assign, body, hy, round_wide (n := n) (.inl rfl) (roundIn_of_wpIn (F := Fence.wide) trivial (hround pre x r X1 V _ rb hpx h2 (grow h1 hgx) h5 (thru hfx) hlv fun a1 Va hfa hbody => ⟨_, run_beginRound (hfa.blk h3 fun h => h) rfl, ?_⟩))⟩
    rw [hrb]
    have hla : l < Va.heap.size := Nat.lt_of_lt_of_le hlv hfa.size
    refine wpIn_mono (hbody (Va.putObj l (.loop rb)) (Fr.putObj (X := fun k => k = l) (hfa.mono fun _ _ h => h.elim) l rfl _) (putObj_size _ _ _) (fun k hk => World.putObj_heap_other hk) (World.putObj_heap_same hla)) ?_
    have fin : ∀ (Q : List α → (Nat → Prop) → World → Prop), Stays Q → ∀ {X2 : Nat → Prop} {V3 : World} (o : Obj), GrowX X1 X2 V V3 → Fr (fun k => k = l ∨ X1 k) V V3 → Q (pre ++ [x]) X2 V3 →
        GrowX X' (fun k => X2 k ∨ k = l ∨ E k) V (V3.putObj l o) ∧ Fr X' V (V3.putObj l o) ∧ ∃ X1', (∀ k, (X2 k ∨ k = l ∨ E k) ↔ (X1' k ∨ k = l ∨ E k)) ∧ Q (pre ++ [x]) X1' (V3.putObj l o) ∧ (V3.putObj l o).heap[l]? = some o ∧ (∀ k, E k → (V3.putObj l o).heap[k]? = V1.heap[k]?) ∧ (∀ k, X1' k → k ≠ l ∧ ¬ E k) := fun Q hQ X2 V3 o g2 f2 q2 => by
      have hl3 : l < V3.heap.size := Nat.lt_of_lt_of_le hlv f2.size
      have hEV : ∀ k, E k → k < V.heap.size := fun k hk => Nat.lt_of_lt_of_le (hE k hk).2.1 hV1
      have x2 : ∀ k, X2 k → k ≠ l ∧ ¬ E k := fun k hk => ⟨fun e => by subst e; exact (h5 _ ((g2 _ hk).2 hlv)).1 rfl, fun e => (h5 _ ((g2 _ hk).2 (hEV k e))).2 e⟩
      refine ⟨fun k hk => ?_, (f2.putObj l (.inl rfl) o).mono fun k _ e => ?_, X2, fun k => Iff.rfl, hQ _ X2 V3 _ q2 (fun k hk => (g2 k hk).1) ((Fr.refl _ V3).putObj l (fun e => (x2 l e).1 rfl) o), World.putObj_heap_same hl3, fun k hk => ?_, x2⟩
      · rw [putObj_size]
        rcases hk with hk | rfl | hk
        · exact ⟨(g2 k hk).1, fun hlt => (h1 k).2 (.inl ((g2 k hk).2 hlt))⟩
        · exact ⟨hl3, fun _ => (h1 _).2 (.inr (.inl rfl))⟩
        · exact ⟨Nat.lt_of_lt_of_le (hEV k hk) f2.size, fun _ => (h1 _).2 (.inr (.inr hk))⟩
      · rcases e with rfl | e
        · exact (h1 _).2 (.inr (.inl rfl))
        · exact (h1 _).2 (.inl e)
      · refine (World.putObj_heap_other (hE k hk).2.2).trans ((f2.block k (hEV k hk) ?_).trans (h4 k hk))
        rintro (e | e)
        · exact (hE k hk).2.2 e
        · exact (h5 k e).2 hk
    rintro e a3 V3 hp
    cases e with
    | normal =>
      obtain ⟨X2, g2, f2, r2, i2⟩ := hp
      have hend := run_endRound (P := P) none r2
      rw [← hrb] at hend
      obtain ⟨q1, q2, q3⟩ := fin I hI _ g2 f2 i2
      exact ⟨_, _, hend, _, q1, q2, .inl ⟨rfl, q3⟩⟩
    | ret =>
      obtain ⟨X2, g2, f2, r2, i2⟩ := hp
      have hend := run_endRound (P := P) (some .ret) r2
      rw [← hrb] at hend
      obtain ⟨q1, q2, q3⟩ := fin _ (hIx .ret) _ g2 f2 i2
      exact ⟨_, _, hend, _, q1, q2, .inr ⟨rfl, _, q3⟩⟩
    | exit id =>
      obtain ⟨X2, g2, f2, r2, i2⟩ := hp
      have hend := run_endRound (P := P) (some (.exit id)) r2
      rw [← hrb] at hend
      obtain ⟨q1, q2, q3⟩ := fin _ (hIx (.exit id)) _ g2 f2 i2
      exact ⟨_, _, hend, _, q1, q2, .inr ⟨rfl, _, q3⟩⟩
    | goto t =>
      obtain ⟨X2, g2, f2, r2, i2⟩ := hp
      have hend := run_endRound (P := P) (some (.goto t)) r2
      rw [← hrb] at hend
      obtain ⟨q1, q2, q3⟩ := fin _ (hIx (.goto t)) _ g2 f2 i2
      exact ⟨_, _, hend, _, q1, q2, .inr ⟨rfl, _, q3⟩⟩
    | panic ch => exact hp.elim
    | outgrown => exact hp.elim
/-- an outermost loop -/
theorem wpIn_rangeF {n : Nat} {P : Program} {w : World} {α : Type} {a : Act} {Q : Exit → Act → World → Prop} {g : Operand} {assign body : Code} {ps : Array Tmp} {gf : Nat} {lb : Array Value}
    {X Y : Nat → Prop} {encs : α → Array Value} {xs : List α} (I : List α → (Nat → Prop) → World → Prop) (Ix : Code → List α → (Nat → Prop) → World → Prop)
    (hg : a.eval g = .func (.func gf) #[] lb) (hseq : SeqF P gf lb encs Y xs w) (hX : ∀ k, X k → k < w.heap.size ∧ ¬ Y k) (hY : ∀ b, Y b → b < w.heap.size) (h1 : 1 ≤ n)
    (eg : ∀ args v, (callFunc gf args).run P v = .ok (.enter gf args) v) (hps : ∀ x, (encs x).size = ps.size) (hI : Stays I) (hIx : ∀ c, Stays (Ix c)) (h0 : I [] X w)
    (hround : ∀ l pre x r X1 V (K : Act → World → Prop) rb, w.heap.size ≤ l → pre ++ x :: r = xs → I pre X1 V → GrowX X X1 w V → ¬ X1 l → Fr X w V → l < V.heap.size →
      (∀ a1 Va, Fr (fun _ => False) V Va → (∀ Vb, Fr (fun k => k = l) V Vb → Vb.heap.size = Va.heap.size → (∀ k, k ≠ l → Vb.heap[k]? = Va.heap[k]?) → Vb.heap[l]? = some (.loop rb) → body.wpIn (Fence.wide.inRound l) (n - 1 - 1) P (EndF l rb X1 I Ix (pre ++ [x]) V) a1 Vb) → K a1 Va) →
      assign.wpIn (Fence.wide.inRound l) (n - 1 - 1) P (Exit.then K fun _ _ _ => False) { tmps := (ps.zip (encs x)).foldl (fun t (p, v) => t.setIfInBounds p v) a.tmps, defers := [] } V)
    (hdone : ∀ D X2 V, w.heap.size ≤ D → ¬ X2 D → GrowX X X2 w V → Fr X w V → I xs X2 V → V.heap[D]? = some (.deferred (some [])) → Q .normal { a with defers := { target := .collected D, args := #[] } :: a.defers } V)
    (hstop : ∀ D c pre r X2 V, w.heap.size ≤ D → pre ++ r = xs → ¬ X2 D → GrowX X X2 w V → Fr X w V → Ix c pre X2 V → V.heap[D]? = some (.deferred (some [])) → c.wpIn Fence.wide n P Q { a with defers := { target := .collected D, args := #[] } :: a.defers } V) :
    (Code.rangeFunc g ps assign body).wpIn Fence.wide n P Q a w := by
  refine wpIn_rangeFunc fun fn hfn => ?_
  obtain ⟨V1, hV1⟩ : ∃ V1, (w.alloc (.deferred (some []))).alloc (.loop (recF fn a.tmps ps assign body w.heap.size .ready none)) = V1 := ⟨_, rfl⟩
  have hz : V1.heap.size = w.heap.size + 2 := by rw [← hV1]; simp
  have hr : V1.heap[w.heap.size + 1]? = some (.loop (recF fn a.tmps ps assign body w.heap.size .ready none)) := by
    subst hV1
    have h := World.alloc_heap_new (w.alloc (.deferred (some []))) (.loop (recF fn a.tmps ps assign body w.heap.size .ready none))
    rwa [World.size_alloc] at h
  have hd : V1.heap[w.heap.size]? = some (.deferred (some [])) := by
    subst hV1
    exact (Below.heap_alloc _ _ _ (by simp)).trans (World.alloc_heap_new w _)
  have hw : Fr (fun _ => False) w V1 := by subst hV1; exact ((Fr.refl _ w).alloc _).alloc _
  refine ⟨w.heap.size + 1, [{ target := .collected w.heap.size, args := #[] }], V1, { target := .fn (.func gf) lb, args := #[.func (.yield (w.heap.size + 1)) #[] #[]] }, V1, gf, #[.func (.yield (w.heap.size + 1)) #[] #[]] ++ lb, V1, ?_, ?_, ?_, ?_, fun _ => h1, ?_⟩
  · rw [← hV1]; exact run_enterLoop_outer _ _ _ _ _
  · simp only [resolve, hg]; simp [go_sem]
  · intro f' _; trivial
  · simp [invoke, go_sem, eg]
  refine (calls_wide (.inl rfl) (range_core (n := n - 1 - 1) (E := fun k => k = w.heap.size) I Ix hseq hX hY hps hI hIx h0 hw (by omega) (fun k hk => by subst hk; omega) hr
    (fun pre x r X1 V K rb h1 h2 h3 h4 h5 h6 h7 => hround (w.heap.size + 1) pre x r X1 V K rb (by omega) h1 h2 h3 (fun e => (h4 _ e).1 rfl) h5 h6 h7))).mono ?_
  rintro e V2 ⟨⟨v, rfl⟩, X2, g2, x2, f2, e2, l2, h⟩
  have hD : ∀ o, (V2.putObj (w.heap.size + 1) o).heap[w.heap.size]? = some (.deferred (some [])) := fun o => (World.putObj_heap_other (by omega)).trans ((e2 _ rfl).trans hd)
  have hput : ∀ o, Fr X w (V2.putObj (w.heap.size + 1) o) := fun o => f2.trans3 ((Fr.refl (fun k => k = w.heap.size + 1) V2).putObj _ rfl o) fun k hk e => by omega
  have hst : ∀ o, Fr (fun k => ¬ X2 k) V2 (V2.putObj (w.heap.size + 1) o) := fun o => (Fr.refl _ V2).putObj _ (fun e => (x2 _ e).1 rfl) o
  have hgr : ∀ o, GrowX X X2 w (V2.putObj (w.heap.size + 1) o) := fun o k hk => by rw [putObj_size]; exact g2 k hk
  rcases h with ⟨hi, hr2⟩ | ⟨pre, r, c, hpr, hi, hr2⟩
  · exact ⟨none, _, run_endLoop (P := P) hr2 (by simp [recF]), hdone _ X2 _ (Nat.le_refl _) (fun e => (x2 _ e).2 rfl) (hgr _) (hput _) (hI _ X2 V2 _ hi (fun k hk => (g2 k hk).1) (hst _)) (hD _)⟩
  · exact ⟨some c, _, run_endLoop (P := P) hr2 (by simp [recF]), hstop _ c pre r X2 _ (Nat.le_refl _) hpr (fun e => (x2 _ e).2 rfl) (hgr _) (hput _) (hIx c _ X2 V2 _ hi (fun k hk => (g2 k hk).1) (hst _)) (hD _)⟩
/-- a loop within a round -/
theorem wpIn_rangeFN {n : Nat} {P : Program} {w : World} {α : Type} {a : Act} {Q : Exit → Act → World → Prop} {g : Operand} {assign body : Code} {ps : Array Tmp} {gf : Nat} {lb : Array Value} {l0 : Nat} {r0 : Loop}
    {X Y : Nat → Prop} {encs : α → Array Value} {xs : List α} (I : List α → (Nat → Prop) → World → Prop) (Ix : Code → List α → (Nat → Prop) → World → Prop) (hl0 : w.heap[l0]? = some (.loop r0))
    (hg : a.eval g = .func (.func gf) #[] lb) (hseq : SeqF P gf lb encs Y xs w) (hX : ∀ k, X k → k < w.heap.size ∧ ¬ Y k) (hY : ∀ b, Y b → b < w.heap.size) (h1 : 1 ≤ n)
    (eg : ∀ args v, (callFunc gf args).run P v = .ok (.enter gf args) v) (hps : ∀ x, (encs x).size = ps.size) (hI : Stays I) (hIx : ∀ c, Stays (Ix c)) (h0 : I [] X w)
    (hround : ∀ l pre x r X1 V (K : Act → World → Prop) rb, w.heap.size ≤ l → pre ++ x :: r = xs → I pre X1 V → GrowX X X1 w V → ¬ X1 l → Fr X w V → l < V.heap.size →
      (∀ a1 Va, Fr (fun _ => False) V Va → (∀ Vb, Fr (fun k => k = l) V Vb → Vb.heap.size = Va.heap.size → (∀ k, k ≠ l → Vb.heap[k]? = Va.heap[k]?) → Vb.heap[l]? = some (.loop rb) → body.wpIn (Fence.wide.inRound l) (n - 1 - 1) P (EndF l rb X1 I Ix (pre ++ [x]) V) a1 Vb) → K a1 Va) →
      assign.wpIn (Fence.wide.inRound l) (n - 1 - 1) P (Exit.then K fun _ _ _ => False) { tmps := (ps.zip (encs x)).foldl (fun t (p, v) => t.setIfInBounds p v) a.tmps, defers := [] } V)
    (hdone : ∀ X2 V, GrowX X X2 w V → Fr X w V → I xs X2 V → Q .normal a V)
    (hstop : ∀ c pre r X2 V, pre ++ r = xs → GrowX X X2 w V → Fr X w V → Ix c pre X2 V → c.wpIn (Fence.wide.inRound l0) n P Q a V) :
    (Code.rangeFunc g ps assign body).wpIn (Fence.wide.inRound l0) n P Q a w := by
  refine wpIn_rangeFunc fun fn hfn => ?_
  obtain ⟨V1, hV1⟩ : ∃ V1, w.alloc (.loop (recF fn a.tmps ps assign body r0.defers .ready none)) = V1 := ⟨_, rfl⟩
  have hz : V1.heap.size = w.heap.size + 1 := by rw [← hV1]; simp
  have hr : V1.heap[w.heap.size]? = some (.loop (recF fn a.tmps ps assign body r0.defers .ready none)) := by subst hV1; exact World.alloc_heap_new w _
  have hw : Fr (fun _ => False) w V1 := by subst hV1; exact (Fr.refl _ w).alloc _
  refine ⟨w.heap.size, [], V1, { target := .fn (.func gf) lb, args := #[.func (.yield w.heap.size) #[] #[]] }, V1, gf, #[.func (.yield w.heap.size) #[] #[]] ++ lb, V1, ?_, ?_, ?_, ?_, fun _ => h1, ?_⟩
  · rw [← hV1]; exact run_enterLoop_inner hl0 _ _ _ _ _
  · simp only [resolve, hg]; simp [go_sem]
  · intro f' _; trivial
  · simp [invoke, go_sem, eg]
  refine (calls_wide (.inr ⟨l0, rfl⟩) (range_core (n := n - 1 - 1) (E := fun _ => False) I Ix hseq hX hY hps hI hIx h0 hw (Nat.le_refl _) (fun k hk => hk.elim) hr
    (fun pre x r X1 V K rb h1 h2 h3 h4 h5 h6 h7 => hround w.heap.size pre x r X1 V K rb (Nat.le_refl _) h1 h2 h3 (fun e => (h4 _ e).1 rfl) h5 h6 h7))).mono ?_
  rintro e V2 ⟨⟨v, rfl⟩, X2, g2, x2, f2, e2, l2, h⟩
  have hput : ∀ o, Fr X w (V2.putObj w.heap.size o) := fun o => f2.trans3 ((Fr.refl (fun k => k = w.heap.size) V2).putObj _ rfl o) fun k hk e => by omega
  have hst : ∀ o, Fr (fun k => ¬ X2 k) V2 (V2.putObj w.heap.size o) := fun o => (Fr.refl _ V2).putObj _ (fun e => (x2 _ e).1 rfl) o
  have hgr : ∀ o, GrowX X X2 w (V2.putObj w.heap.size o) := fun o k hk => by rw [putObj_size]; exact g2 k hk
  rcases h with ⟨hi, hr2⟩ | ⟨pre, r, c, hpr, hi, hr2⟩
  · exact ⟨none, _, run_endLoop (P := P) hr2 (by simp [recF]), hdone X2 _ (hgr _) (hput _) (hI _ X2 V2 _ hi (fun k hk => (g2 k hk).1) (hst _))⟩
  · exact ⟨some c, _, run_endLoop (P := P) hr2 (by simp [recF]), hstop c pre r X2 _ hpr (hgr _) (hput _) (hIx c _ X2 V2 _ hi (fun k hk => (g2 k hk).1) (hst _))⟩
end Go.Proofs.YtadojlmjapmbhaaDoor
end
section
/- A function value that tells a row; it tells it still where its blocks lie as they lay. -/
namespace Go.Proofs.YtadojlmjapmbhaaDoor
open Go Go.RowKit

/-- what tells xs out of blocks Y -/
def TellsF {α : Type} (P : Program) (encs : α → Array Value) (w : World) (F : Value) (Y : Nat → Prop) (xs : List α) : Prop :=
  ∃ gf lb, F = .func (.func gf) #[] lb ∧ SeqF P gf lb encs Y xs w ∧ (∀ b, Y b → b < w.heap.size) ∧ (∀ args v, (callFunc gf args).run P v = .ok (.enter gf args) v)
theorem SeqF.same {α : Type} {P : Program} {g : Nat} {lb : Array Value} {encs : α → Array Value} {Y : Nat → Prop} {xs : List α} {w W : World} (h : SeqF P g lb encs Y xs w) (hs : SameX Y w W) : SeqF P g lb encs Y xs W :=
  fun l J Jx X V h1 => h l J Jx X V (hs.trans h1)
theorem TellsF.fr {α : Type} {P : Program} {encs : α → Array Value} {X Y : Nat → Prop} {w W : World} {F : Value} {xs : List α} (h : TellsF P encs w F Y xs) (hf : Fr X w W) (hX : ∀ b, Y b → ¬ X b) : TellsF P encs W F Y xs := by
  obtain ⟨gf, lb, h1, h2, h3, h4⟩ := h
  exact ⟨gf, lb, h1, h2.same fun b hb => hf.block b (h3 b hb) (hX b hb), fun b hb => Nat.lt_of_lt_of_le (h3 b hb) hf.size, h4⟩
theorem TellsF.below {α : Type} {P : Program} {encs : α → Array Value} {Y : Nat → Prop} {w W : World} {F : Value} {xs : List α} (h : TellsF P encs w F Y xs) (hb : RowKit.Below w.heap.size w W) : TellsF P encs W F Y xs :=
  h.fr (Fr.of_below (X := fun _ => False) hb) fun _ _ e => e
/-- J of blocks X hangs on a frame that leaves them -/
theorem Stays.fr {β : Type} {J : β → (Nat → Prop) → World → Prop} (h : Stays J) {s : β} {X Z : Nat → Prop} {V V' : World} (hj : J s X V) (hl : ∀ k, X k → k < V.heap.size) (hf : Fr Z V V') (hz : ∀ k, Z k → ¬ X k) : J s X V' :=
  h s X V V' hj hl (hf.mono fun k _ e => hz k e)
theorem stays_and {β : Type} {J K : β → (Nat → Prop) → World → Prop} (h1 : Stays J) (h2 : Stays K) : Stays fun s X V => J s X V ∧ K s X V := fun s X V V' h hl hf => ⟨h1 s X V V' h.1 hl hf, h2 s X V V' h.2 hl hf⟩
theorem stays_pure {β : Type} (p : β → Prop) : Stays fun s (_ : Nat → Prop) (_ : World) => p s := fun _ _ _ _ h _ _ => h
/-- the marks of outermost loops are taken up at the function's end -/
def markF (D : Nat) : Deferred := { target := .collected D, args := #[] }
theorem leavesF {F : Fence} {n : Nat} {P : Program} {fn : Func} {tmps : Array Value} {R : Ending → World → Prop} : ∀ (Ds : List Nat) (w : World), Ds.Nodup → (∀ D ∈ Ds, w.heap[D]? = some (.deferred (some []))) →
    (∀ w', Fr (fun k => k ∈ Ds) w w' → ∃ v, (results fn tmps).run P w' = .ok v w' ∧ R (.returned v) w') → LeavesInM F n P fn tmps R (Ds.map markF) .returning w
  | [], w, _, _, h => h w (Fr.refl _ _)
  | D :: Ds, w, hn, hd, h => by
    rw [List.nodup_cons] at hn
    have h0 := hd D (by simp)
    refine ⟨by simp, .inl ⟨_, _, rfl, run_takeDeferred h0, ?_⟩⟩
    refine leavesF Ds _ hn.2 (fun D2 h2 => (World.putObj_heap_other fun e => hn.1 (by cases e; exact h2)).trans (hd D2 (by simp [h2]))) fun w' hf => h w' ?_
    have h1 : Fr (fun k => k ∈ D :: Ds) w (w.putObj D (.deferred none)) := ⟨rfl, rfl, rfl, by simp [World.putObj], fun k _ hk => World.putObj_heap_other fun e => hk (by simp [e])⟩
    exact h1.trans3 hf fun k _ hk => by simp [hk]
theorem leaves_one {F : Fence} {n : Nat} {P : Program} {fn : Func} {tmps : Array Value} {R : Ending → World → Prop} (D : Nat) (w : World) (hd : w.heap[D]? = some (.deferred (some [])))
    (h : ∀ w', Fr (fun k => k = D) w w' → ∃ v, (results fn tmps).run P w' = .ok v w' ∧ R (.returned v) w') : LeavesInM F n P fn tmps R [{ target := .collected D, args := #[] }] .returning w :=
  leavesF [D] w (by simp) (fun D2 h2 => by rw [List.mem_singleton] at h2; subst h2; exact hd) fun w' hf => h w' (hf.mono fun k _ e => by simpa using e)
end Go.Proofs.YtadojlmjapmbhaaDoor
end
section
/- append onto a slice of the call's own, from whatever source: a text's bytes too. -/
namespace Go.Proofs.YtadojlmjapmbhaaDoor
open Go Go.RowKit

section
variable {P : Program} (w : World)

theorem run_room_src (t tx ty e : TypeId) (i : TypeInfo) (ht : P.underlying t = some (.slice e)) (hi : P.info? e = some i)
    (g sLen sCap : Nat) (cur : Array Value) (hg : w.heap[g]? = some (.cells cur e (0, 0))) (x : Value) (m : Nat) (news : List Value) (hs : Src P i.size tx x m news w)
    (hroom : sLen + m ≤ sCap) (hfit : sLen * i.size + news.length ≤ cur.size) :
    (Builtin.append_ #[t, tx] ty #[.slice (some ⟨g, 0, none⟩) sLen sCap, x]).run P w =
      .ok (.slice (some ⟨g, 0, none⟩) (sLen + m) sCap) (w.setRow g (cur.toList.take (sLen * i.size) ++ news ++ cur.toList.drop (sLen * i.size + news.length)).toArray) := by
  have hst := run_storeCells_at P g (sLen * i.size) e news 0 cur w hg (by simpa using hfit) hs.one
  simp only [Nat.add_zero] at hst
  rcases hs.kind with ⟨e', hk⟩ | hk <;> simp [Builtin.append_, run_underlying ht, run_underlying hk, sizeOf, typeInfo, hi, hs.len, hroom, hs.cells, Addr.add_lit, hst]

theorem run_app_src (base : Nat) (t tx ty e : TypeId) (i : TypeInfo) (z : Value) (size bytes : Nat) (ht : P.underlying t = some (.slice e)) (hi : P.info? e = some i) (hz : i.zero = some z)
    (hsize : i.size = size) (hby : i.bytes = bytes) (hzs : z.cells.size = size) (g cap n : Nat) (xs : List Value)
    (hown : w.ownsRow base e size (.slice (some ⟨g, 0, none⟩) n cap) n xs) (x : Value) (m : Nat) (news : List Value) (hs : Src P size tx x m news w)
    (h63 : n + m ≤ maxLen) (hbytes : (n + m) * bytes ≤ 140737488355328) (hbase : base ≤ w.heap.size) :
    ∃ g' cap' w', (Builtin.append_ #[t, tx] ty #[.slice (some ⟨g, 0, none⟩) n cap, x]).run P w = .ok (.slice (some ⟨g', 0, none⟩) (n + m) cap') w' ∧
      w'.ownsRow base e size (.slice (some ⟨g', 0, none⟩) (n + m) cap') (n + m) (xs ++ news) ∧ w.grownBy w' (some g) := by
  subst hsize
  subst hby
  have hsmall : n + m ≤ 9223372036854775807 := by simp only [maxLen] at h63; omega
  have hlen : (xs ++ news).length = (n + m) * i.size := by rw [List.length_append, hown.1, hs.newsLen, Nat.add_mul]
  have hown' := hown
  rcases hown.2 with ⟨h, _⟩ | ⟨g0, cap0, cur, h, hbg, hg, hnc, hcm, hcs, htake⟩
  · cases h
  · simp only [Value.slice.injEq, Option.some.injEq, Addr.mk.injEq, true_and, and_true] at h
    obtain ⟨rfl, rfl⟩ := h
    by_cases hroom : n + m ≤ cap
    · have hfit : n * i.size + news.length ≤ cur.size := by rw [hs.newsLen, hcs, ← Nat.add_mul]; exact Nat.mul_le_mul_right _ hroom
      have hr := run_room_src (P := P) w t tx ty e i ht hi g n cap cur hg x m news hs hroom hfit
      refine ⟨_, _, _, hr, ⟨hlen, .inr ⟨g, cap, _, rfl, hbg, setRow_heap w g cur _ e _ hg, hroom, hcm, ?_, ?_⟩⟩, ⟨rfl, rfl, rfl, by simp, fun k _ hk => setRow_other w g k _ (fun e => hk (by rw [e]))⟩⟩
      · simp only [List.size_toArray, List.length_append, List.length_take, List.length_drop, Array.length_toList]
        omega
      · rw [htake, ← hlen]
        exact List.take_left
    · have holds : ∀ j u, xs[j]? = some u → w.cell? ((⟨g, 0, none⟩ : Addr).add j) = some u := hown'.cells (g := g) rfl
      have hold := run_firstCells_some (P := P) w.drew i.size n ⟨g, 0, none⟩ n cap xs hown'.1 (by simpa using holds)
      have hr := run_append_grow_src (P := P) w t tx ty e i z ht hi hz (some ⟨g, 0, none⟩) n cap xs hold x m news hs (by omega) (by omega) (growslice_fits (by omega) hbytes)
      refine ⟨_, _, _, hr, ⟨hlen, .inr ⟨w.heap.size, _, _, rfl, hbase, heap_alloc_new w.drew _, grownCap_ge w (n + m) cap e, grownCap_le_maxLen w (n + m) cap e h63, ?_, ?_⟩⟩, ⟨rfl, rfl, rfl, by simp, fun k hk _ => heap_alloc_old w.drew _ hk⟩⟩
      · simp only [Array.size_append, List.size_toArray, size_zeroCells, hzs, hlen, ← Nat.add_mul]
        have := grownCap_ge w (n + m) cap e
        congr 1
        omega
      · simp only [Array.toList_append]
        rw [← hlen]
        exact List.take_left
end

theorem wpListIn_app_src {F : Fence} {n : Nat} {P : Program} (w : World) {ops : Array Oper} {rest : List Oper} {o : Oper} {a : Act} {Q : Exit → Act → World → Prop}
    (hg : o.guard = none) (s x : Operand) (t tx : TypeId) (hop : o.op = Op.call { callee := Callee.builtin Builtin.append, args := #[s, x], argTypes := #[t, tx] })
    (base : Nat) (e : TypeId) (i : TypeInfo) (z : Value) (size bytes : Nat) (h1 : P.underlying t = some (.slice e)) (h2 : P.info? e = some i) (h3 : i.zero = some z) (h4 : i.size = size) (h5 : i.bytes = bytes) (h6 : z.cells.size = size)
    (g cap k : Nat) (xs : List Value) (hs : a.eval s = .slice (some ⟨g, 0, none⟩) k cap) (hown : w.ownsRow base e size (.slice (some ⟨g, 0, none⟩) k cap) k xs) (v : Value) (m : Nat) (news : List Value) (hx : a.eval x = v) (hsrc : Src P size tx v m news w)
    (b1 : k + m ≤ maxLen) (b2 : (k + m) * bytes ≤ 140737488355328) (b3 : base ≤ w.heap.size)
    (hK : ∀ g' cap' w', w'.ownsRow base e size (.slice (some ⟨g', 0, none⟩) (k + m) cap') (k + m) (xs ++ news) → w.grownBy w' (some g) → wpListIn F n P ops Q rest (a.put o.dst (.slice (some ⟨g', 0, none⟩) (k + m) cap')) w') :
    wpListIn F n P ops Q (o :: rest) a w := by
  refine wpListIn_plain hg fun K hK' => ?_
  obtain ⟨g', cap', w', hrun, r1, r2⟩ := run_app_src (P := P) w base t tx o.type e i z size bytes h1 h2 h3 h4 h5 h6 g cap k xs hown v m news hsrc b1 b2 b3
  unfold Oper.wpIn
  refine ⟨?_, ?_⟩
  · simp [Oper.about, hop, resolve, Target.leads, Sem.run_pure]
  · rw [Oper.semAt_plain F _ _ (by rw [hop]; intro c hc'; cases hc')]
    simp [execOp, hop, resolve, invoke, builtin, hs, hx, hrun, Result.andThen]
    exact hK' _ _ (hK g' cap' w' r1 r2)

theorem wp_app_src {P : Program} (w : World) {o : Oper} {a : Act} {K : Act → World → Prop} {Q : Exit → Act → World → Prop} (s x : Operand) (t tx : TypeId)
    (ho : o.op = .call { callee := .builtin .append, args := #[s, x], argTypes := #[t, tx] })
    (base : Nat) (e : TypeId) (i : TypeInfo) (z : Value) (size bytes : Nat) (h1 : P.underlying t = some (.slice e)) (h2 : P.info? e = some i) (h3 : i.zero = some z) (h4 : i.size = size) (h5 : i.bytes = bytes) (h6 : z.cells.size = size)
    (g cap k : Nat) (xs : List Value) (hs : a.eval s = .slice (some ⟨g, 0, none⟩) k cap) (hown : w.ownsRow base e size (.slice (some ⟨g, 0, none⟩) k cap) k xs) (v : Value) (m : Nat) (news : List Value) (hx : a.eval x = v) (hsrc : Src P size tx v m news w)
    (b1 : k + m ≤ maxLen) (b2 : (k + m) * bytes ≤ 140737488355328) (b3 : base ≤ w.heap.size)
    (h : ∀ g' cap' w', w'.ownsRow base e size (.slice (some ⟨g', 0, none⟩) (k + m) cap') (k + m) (xs ++ news) → w.grownBy w' (some g) → K (a.put o.dst (.slice (some ⟨g', 0, none⟩) (k + m) cap')) w') : o.wp P a w K Q := by
  obtain ⟨g', cap', w', hr, r1, r2⟩ := run_app_src (P := P) w base t tx o.type e i z size bytes h1 h2 h3 h4 h5 h6 g cap k xs hown v m news hsrc b1 b2 b3
  unfold Oper.wp execOp
  simp only [ho, resolve, invoke, builtin, Sem.run_bind, Sem.run_pure, Result.andThen_ok, List.map_toArray, List.map_cons, List.map_nil, hs, hx, hr]
  exact h g' cap' w' r1 r2

theorem wpList_app_src {P : Program} (w : World) {ops : Array Oper} {rest : List Oper} {o : Oper} {a : Act} {Q : Exit → Act → World → Prop} (hgd : o.guard = none) (s x : Operand) (t tx : TypeId)
    (ho : o.op = .call { callee := .builtin .append, args := #[s, x], argTypes := #[t, tx] })
    (base : Nat) (e : TypeId) (i : TypeInfo) (z : Value) (size bytes : Nat) (h1 : P.underlying t = some (.slice e)) (h2 : P.info? e = some i) (h3 : i.zero = some z) (h4 : i.size = size) (h5 : i.bytes = bytes) (h6 : z.cells.size = size)
    (g cap k : Nat) (xs : List Value) (hs : a.eval s = .slice (some ⟨g, 0, none⟩) k cap) (hown : w.ownsRow base e size (.slice (some ⟨g, 0, none⟩) k cap) k xs) (v : Value) (m : Nat) (news : List Value) (hx : a.eval x = v) (hsrc : Src P size tx v m news w)
    (b1 : k + m ≤ maxLen) (b2 : (k + m) * bytes ≤ 140737488355328) (b3 : base ≤ w.heap.size)
    (h : ∀ g' cap' w', w'.ownsRow base e size (.slice (some ⟨g', 0, none⟩) (k + m) cap') (k + m) (xs ++ news) → w.grownBy w' (some g) → wpList P ops Q rest (a.put o.dst (.slice (some ⟨g', 0, none⟩) (k + m) cap')) w') : wpList P ops Q (o :: rest) a w :=
  wpList_plain hgd fun _ hK => wp_app_src w s x t tx ho base e i z size bytes h1 h2 h3 h4 h5 h6 g cap k xs hs hown v m news hx hsrc b1 b2 b3 fun g' cap' w' r1 r2 => hK _ _ (h g' cap' w' r1 r2)
end Go.Proofs.YtadojlmjapmbhaaDoor
end
