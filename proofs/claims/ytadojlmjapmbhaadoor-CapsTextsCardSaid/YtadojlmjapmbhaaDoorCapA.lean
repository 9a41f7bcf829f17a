/- Layer 12: strings.Index with one byte, CutPrefix, SplitSeq at a blank as a function that ranges. -/
import Derived.Test.YtadojlmjapmbhaaDoorCapM
import Derived.Test.YtadojlmjapmbhaaDoorRangeW
import Derived.Test.YtadojlmjapmbhaaDoorScope
import Derived.Test.YtadojlmjapmbhaaDoorConfA
import Derived.Lib.IndexAny
import Derived.Lib.IndexLaws
import Derived.Sort.LoopGhostIn
import Derived.IntWalk
namespace Go.Proofs.YtadojlmjapmbhaaDoor
set_option linter.unusedVariables false
set_option linter.unusedSimpArgs false
open Go.RowKit Go.Shelf
attribute [local go_sem] Oper.semAt_some

set_option maxRecDepth 1000000 in
set_option maxHeartbeats 2000000 in
theorem ix1_lite (s : ByteArray) (c : UInt8) (w : World) (hs : s.size ≤ 1000000) :
    Calls Tryd.prog 53 #[.string s, .string ⟨#[c]⟩] w fun e w' => e = .returned (.int .i64 (Lib.indexByte s.data.toList c)) ∧ w = w' := by
  go_enter Tryd.func53, Tryd.ntmps53
  go_wp2_with (go_at_call 60; refine (idxByte0 _ _ _).mono ?_; rintro e w' ⟨rfl, rfl⟩)
  · go_ret
    rename_i h
    rw [ByteArray.toList_eq, beq_iff_eq] at h
    exact ⟨ret_int (by rw [← h]; simp [Lib.indexByte]), rfl⟩
  · go_ret
    exact ⟨ret_int rfl, rfl⟩
set_option maxRecDepth 1000000 in
theorem ix1 (s : ByteArray) (c : UInt8) (w : World) (hs : s.size ≤ 1000000) :
    Calls Tryd.prog 43 #[.string s, .string ⟨#[c]⟩] w fun e w' => e = .returned (.int .i64 (Lib.indexByte s.data.toList c)) ∧ w = w' := by
  go_enter Tryd.func43, Tryd.ntmps43
  go_wp2_with (go_at_call 53; refine (ix1_lite _ _ _ hs).mono ?_; rintro e w' ⟨rfl, rfl⟩)
  go_ret
  exact ⟨rfl, rfl⟩

/-- a text at its first blank -/
theorem split_none (R : ByteArray) (h : Lib.indexByte R.data.toList 32 = -1) : splitL R.data.toList = [R.data.toList] :=
  splitL_none _ (fun hm => by
    obtain ⟨k, hk⟩ := List.getElem?_of_mem hm
    exact Lib.indexByte_none h k hk)
theorem split_some (R : ByteArray) (o : Nat) (h : Lib.indexByte R.data.toList 32 = o) : o < R.size ∧ splitL R.data.toList = (R.extract 0 o).data.toList :: splitL (R.extract (o + 1) R.size).data.toList := by
  obtain ⟨h1, h2⟩ := Lib.indexByte_some h
  have ho : o < R.data.toList.length := (List.getElem?_eq_some_iff.1 h1).1
  have e : R.data.toList = R.data.toList.take o ++ 32 :: R.data.toList.drop (o + 1) := by
    have h3 := List.drop_eq_getElem_cons ho
    have h4 : R.data.toList[o] = 32 := (List.getElem?_eq_some_iff.1 h1).2
    rw [h4] at h3
    rw [← h3, List.take_append_drop]
  have hn : (32 : UInt8) ∉ R.data.toList.take o := fun hm => by
    obtain ⟨k, hk⟩ := List.getElem?_of_mem hm
    rw [List.getElem?_take] at hk
    split at hk
    · exact h2 k ‹_› hk
    · cases hk
  refine ⟨by simpa using ho, ?_⟩
  have e1 : (R.extract 0 o).data.toList = R.data.toList.take o := by simp
  have e2 : (R.extract (o + 1) R.size).data.toList = R.data.toList.drop (o + 1) := by
    simp [List.take_of_length_le]
  rw [e1, e2]
  conv => lhs; rw [e]
  exact splitL_cut _ _ hn

abbrev Word := { x : ByteArray // x.size ≤ 1000000 }
abbrev encWord (x : Word) : Array Value := #[.string x.1]
def wordsL (l : List Word) : List (List UInt8) := l.map fun x => x.1.data.toList
theorem wordsL_snoc (l : List Word) (x : Word) : wordsL (l ++ [x]) = wordsL l ++ [x.1.data.toList] := by simp [wordsL]

theorem split_any (s : ByteArray) (w : World) :
    Calls Tryd.prog 18 #[.string s, .string ⟨#[32]⟩] w fun e w' => e = .returned (.func (.func 41) #[] #[.pointer (some ⟨w.heap.size + 1, 0, none⟩), .pointer (some ⟨w.heap.size, 0, none⟩), .pointer (some ⟨w.heap.size + 1 + 1, 0, none⟩)]) ∧
      w' = ((w.alloc (.cells #[.string s] 9)).alloc (.cells #[.string ⟨#[32]⟩] 9)).alloc (.cells #[.int .i64 0] 3) := by
  have h : Calls Tryd.prog 32 #[.string s, .string ⟨#[32]⟩, .int .i64 0] w fun e w' => e = .returned (.func (.func 41) #[] #[.pointer (some ⟨w.heap.size + 1, 0, none⟩), .pointer (some ⟨w.heap.size, 0, none⟩), .pointer (some ⟨w.heap.size + 1 + 1, 0, none⟩)]) ∧
      w' = ((w.alloc (.cells #[.string s] 9)).alloc (.cells #[.string ⟨#[32]⟩] 9)).alloc (.cells #[.int .i64 0] 3) := by
    go_enter Tryd.func32, Tryd.ntmps32
    go_wp2
    go_ret
    exact ⟨rfl, rfl⟩
  go_enter Tryd.func18, Tryd.ntmps18
  go_wp2_with (go_at_call 32; refine h.mono ?_; rintro e w' ⟨rfl, hw⟩)
  go_ret
  first | exact ⟨rfl, hw⟩ | exact ⟨rfl, rfl⟩

set_option maxRecDepth 100000 in
set_option maxHeartbeats 4000000 in
theorem split_stops (n : Nat) (hn : 4 ≤ n) (B : Nat) (s : ByteArray) (w : World) (hs : s.size ≤ 1000000) (b0 : Boxed w B 9 (.string s)) (b1 : Boxed w (B + 1) 9 (.string ⟨#[32]⟩)) (b2 : Boxed w (B + 1 + 1) 3 (.int .i64 0)) :
    SeqW Fence.wide n Tryd.prog 41 #[.pointer (some ⟨B + 1, 0, none⟩), .pointer (some ⟨B, 0, none⟩), .pointer (some ⟨B + 1 + 1, 0, none⟩)] encWord (fun b => b = B ∨ b = B + 1 ∨ b = B + 1 + 1)
      (fun xs => wordsL xs = splitL s.data.toList) (fun pre => ∃ r, wordsL pre ++ r = splitL s.data.toList) (s.size + 1) w := fun l J Jx V hV hJ hJx hY h0 => by
  have d0 : Boxed V B 9 (.string s) := (hV.block B b0.lt).trans b0
  have d1 : Boxed V (B + 1) 9 (.string ⟨#[32]⟩) := (hV.block (B + 1) b1.lt).trans b1
  have d2 : Boxed V (B + 1 + 1) 3 (.int .i64 0) := (hV.block (B + 1 + 1) b2.lt).trans b2
  have e1 := d1.cell
  clear b0 b1 b2
  refine callsIn_of_wp Tryd.func41 rfl trivial ?_ rfl
  simp only [Tryd.ntmps41, List.size_toArray, List.length_cons, List.length_nil, Nat.reduceAdd, Nat.reduceSub, Array.replicate_succ, Array.replicate_zero, List.push_toArray, List.append_toArray, List.nil_append, List.cons_append]
  gi_wp2_with fail
  gi_loopg [29] s.size (fun r _ wr => ∃ (pre : List Word) (R : ByteArray), r = R.size ∧ Hid (wordsL pre ++ splitL R.data.toList = splitL s.data.toList) ∧ pre.length + R.size ≤ s.size ∧ Boxed wr B 9 (.string R) ∧ Boxed wr (B + 1) 9 (.string ⟨#[32]⟩) ∧ Boxed wr (B + 1 + 1) 3 (.int .i64 0) ∧ J pre wr)
  case atStart => exact ⟨[], s, rfl, by simp [wordsL, Hid], by simp, d0, d1, d2, h0⟩
  case round =>
    obtain ⟨pre, R, hr, HR, hsz, k0, k1, k2, hJs⟩ := hrel
    have hR : R.size ≤ 1000000 := by omega
    have HG := Lib.hid hr
    clear hr d0 d1 d2 e1
    have c0 := k0.cell; have c1 := k1.cell; have c2 := k2.cell
    have hix : ∀ W, Calls Tryd.prog 43 #[.string R, .string ⟨#[32]⟩] W fun e w' => e = .returned (.int .i64 (Lib.indexByte R.data.toList 32)) ∧ W = w' := fun W => ix1 R 32 W hR
    have hge := Lib.indexByte_ge R.data.toList 32
    by_cases hno : Lib.indexByte R.data.toList 32 = -1
    · have hsp := split_none R hno
      rw [hno] at hix
      have HN : Hid (wordsL (pre ++ [⟨R, hR⟩]) = splitL s.data.toList) := by
        have := HR.out; rw [hsp] at this; rw [wordsL_snoc]; exact this
      clear hno hsp hge
      obtain ⟨fn, tmps, assign, body, hy, hRd⟩ := hY pre ⟨R, hR⟩ wr hJs (by omega)
      dsimp only [encWord] at hy
      gi_wp2_with fail
      refine ⟨trivial, fun _ => by omega, ((callsIn_wide (n := n - 1)).2 (hix _)).mono ?_⟩
      rintro e w' ⟨rfl, rfl⟩
      gi_wp2_with fail
      refine ⟨fun _ => by omega, hRd.mono ?_⟩
      rintro e W3 (⟨rfl, hJ3, _⟩ | ⟨rfl, hJx3⟩)
      · gi_wp2_with fail
        go_end0
        exact ⟨⟨_, rfl⟩, .inl ⟨_, HN.out, hJ3⟩⟩
      · gi_wp2_with fail
        go_end0
        exact ⟨⟨_, rfl⟩, .inr ⟨_, ⟨[], by rw [List.append_nil]; exact HN.out⟩, hJx3⟩⟩
    · obtain ⟨o, ho⟩ : ∃ o : Nat, Lib.indexByte R.data.toList 32 = o := ⟨(Lib.indexByte R.data.toList 32).toNat, by omega⟩
      obtain ⟨hoR, hsp⟩ := split_some R o ho
      rw [ho] at hix
      have hxs : (R.extract 0 o).size ≤ 1000000 := by simp; omega
      have hrs : (R.extract (o + 1) R.size).size = R.size - (o + 1) := by simp
      have HN : Hid (wordsL (pre ++ [⟨R.extract 0 o, hxs⟩]) ++ splitL (R.extract (o + 1) R.size).data.toList = splitL s.data.toList) := by
        have := HR.out; rw [hsp] at this; rw [wordsL_snoc, List.append_assoc]; exact this
      have HRS := Lib.hid hrs
      have hp0 : ¬ ((o : Int) < 0) := by omega
      have hp1 : (o : Int) ≤ (R.size : Int) := by omega
      have hp2 : (o : Int) + 1 ≤ (R.size : Int) := by omega
      clear hno hsp hge ho hrs
      obtain ⟨fn, tmps, assign, body, hy, hRd⟩ := hY pre ⟨R.extract 0 o, hxs⟩ wr hJs (by omega)
      dsimp only [encWord] at hy
      gi_wp2_with fail
      refine ⟨trivial, fun _ => by omega, ((callsIn_wide (n := n - 1)).2 (hix _)).mono ?_⟩
      rintro e w' ⟨rfl, rfl⟩
      gi_wp2_with fail
      refine ⟨fun _ => by omega, hRd.mono ?_⟩
      rintro e W3 (⟨rfl, hJ3, hS3⟩ | ⟨rfl, hJx3⟩)
      · have m0 : Boxed W3 B 9 (.string R) := (hS3 B (.inl rfl)).trans k0
        have m1 : Boxed W3 (B + 1) 9 (.string ⟨#[32]⟩) := (hS3 (B + 1) (.inr (.inl rfl))).trans k1
        have m2 : Boxed W3 (B + 1 + 1) 3 (.int .i64 0) := (hS3 (B + 1 + 1) (.inr (.inr rfl))).trans k2
        have g0 := m0.cell; have g1 := m1.cell; have f0 := m0.frozen
        have hJ4 : J (pre ++ [⟨R.extract 0 o, hxs⟩]) (W3.setCell ⟨B, 0, none⟩ (.string (R.extract (o + 1) R.size))) := hJ _ _ _ (some B) hJ3 (grownBy_setCell' _ _ _) (fun r e => by cases e; exact .inl (.inl rfl))
        have HJ := Lib.hid hJ4
        clear hJ4 hJ3 hS3
        gi_wp2_with fail
        gi_roundg (R.extract (o + 1) R.size).size
        case measure => rw [HG.out, HRS.out]; omega
        case rel => exact ⟨_, _, rfl, HN, by rw [HRS.out]; simp; omega, m0.set _, m1.other (by omega) _, m2.other (by omega) _, HJ.out⟩
      · gi_wp2_with fail
        refine bodyPost_ret (results_none rfl _ _ _) rfl ?_
        exact ⟨⟨_, rfl⟩, .inr ⟨_, ⟨_, HN.out⟩, hJx3⟩⟩
end Go.Proofs.YtadojlmjapmbhaaDoor
