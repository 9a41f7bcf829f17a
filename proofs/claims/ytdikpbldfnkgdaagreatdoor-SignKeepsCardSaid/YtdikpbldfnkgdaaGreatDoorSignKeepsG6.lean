/- Texts of this proof, one behind the other. -/
import Derived.Test.YtdikpbldfnkgdaaGreatDoorSignKeepsG5
import Derived.Test.YtdikpbldfnkgdaaGreatDoorSignKeepsG4
import Derived.Test.YtdikpbldfnkgdaaGreatDoorSignKeepsG1
import Derived.Lib.IndexAny
import Derived.Lib.IndexLaws
import Derived.Sort.LoopGhostIn
import Derived.IntWalk
section
/- Layer 12: strings.Index with one byte, CutPrefix, SplitSeq at a blank as a function that ranges. -/
namespace Go.Proofs.YtdikpbldfnkgdaaGreatDoor
set_option linter.unusedVariables false
set_option linter.unusedSimpArgs false
open Go.RowKit Go.Shelf
attribute [local go_sem] Oper.semAt_some

set_option maxRecDepth 1000000 in
set_option maxHeartbeats 2000000 in
theorem ix1_lite (s : ByteArray) (c : UInt8) (w : World) (hs : s.size ≤ 1000000) :
    Calls Tryz.prog 81 #[.string s, .string ⟨#[c]⟩] w fun e w' => e = .returned (.int .i64 (Lib.indexByte s.data.toList c)) ∧ w = w' := by
  go_enter Tryz.func81, Tryz.ntmps81
  go_wp2_with (go_at_call 69; refine (idxByte0 _ _ _).mono ?_; rintro e w' ⟨rfl, rfl⟩)
  · go_ret
    rename_i h
    rw [ByteArray.toList_eq, beq_iff_eq] at h
    exact ⟨ret_int (by rw [← h]; simp [Lib.indexByte]), rfl⟩
  · go_ret
    exact ⟨ret_int rfl, rfl⟩
set_option maxRecDepth 1000000 in
theorem ix1 (s : ByteArray) (c : UInt8) (w : World) (hs : s.size ≤ 1000000) :
    Calls Tryz.prog 78 #[.string s, .string ⟨#[c]⟩] w fun e w' => e = .returned (.int .i64 (Lib.indexByte s.data.toList c)) ∧ w = w' := by
  go_enter Tryz.func78, Tryz.ntmps78
  go_wp2_with (go_at_call 81; refine (ix1_lite _ _ _ hs).mono ?_; rintro e w' ⟨rfl, rfl⟩)
  go_ret
  exact ⟨rfl, rfl⟩

/-- a text at its first blank -/
theorem split_none (R : ByteArray) (h : Lib.indexByte R.data.toList 32 = -1) : splitL R.data.toList = [R.data.toList] :=
  splitL_none _ (fun hm => by
    obtain ⟨k, hk⟩ := List.getElem?_of_mem hm
    exact Lib.indexByte_none h k hk)
theorem split_some (R : ByteArray) (o : Nat) (h : Lib.indexByte R.data.toList 32 = o) : o < R.size ∧ splitL R.data.toList = (R.extract 0 o).data.toList :: splitL (R.extract (o + 1) R.size).data.toList := by
  obtain ⟨h1, h2⟩ := Lib.indexByte_some h
  have ho : o < R.data.toList.length := (List.getElem?_eq_some_iff.1 h1).1
  have e : R.data.toList = R.data.toList.take o ++ 32 :: R.data.toList.drop (o + 1) := by
    have h3 := List.drop_eq_getElem_cons ho
    have h4 : R.data.toList[o] = 32 := (List.getElem?_eq_some_iff.1 h1).2
    rw [h4] at h3
    rw [← h3, List.take_append_drop]
  have hn : (32 : UInt8) ∉ R.data.toList.take o := fun hm => by
    obtain ⟨k, hk⟩ := List.getElem?_of_mem hm
    rw [List.getElem?_take] at hk
    split at hk
    · exact h2 k ‹_› hk
    · cases hk
  refine ⟨by simpa using ho, ?_⟩
  have e1 : (R.extract 0 o).data.toList = R.data.toList.take o := by simp
  have e2 : (R.extract (o + 1) R.size).data.toList = R.data.toList.drop (o + 1) := by
    simp [List.take_of_length_le]
  rw [e1, e2]
  conv => lhs; rw [e]
  exact splitL_cut _ _ hn

abbrev Word := { x : ByteArray // x.size ≤ 1000000 }
abbrev encWord (x : Word) : Array Value := #[.string x.1]
def wordsL (l : List Word) : List (List UInt8) := l.map fun x => x.1.data.toList
theorem wordsL_snoc (l : List Word) (x : Word) : wordsL (l ++ [x]) = wordsL l ++ [x.1.data.toList] := by simp [wordsL]

theorem split_any (s : ByteArray) (w : World) :
    Calls Tryz.prog 46 #[.string s, .string ⟨#[32]⟩] w fun e w' => e = .returned (.func (.func 77) #[] #[.pointer (some ⟨w.heap.size + 1, 0, none⟩), .pointer (some ⟨w.heap.size, 0, none⟩), .pointer (some ⟨w.heap.size + 1 + 1, 0, none⟩)]) ∧
      w' = ((w.alloc (.cells #[.string s] 9)).alloc (.cells #[.string ⟨#[32]⟩] 9)).alloc (.cells #[.int .i64 0] 3) := by
  have h : Calls Tryz.prog 64 #[.string s, .string ⟨#[32]⟩, .int .i64 0] w fun e w' => e = .returned (.func (.func 77) #[] #[.pointer (some ⟨w.heap.size + 1, 0, none⟩), .pointer (some ⟨w.heap.size, 0, none⟩), .pointer (some ⟨w.heap.size + 1 + 1, 0, none⟩)]) ∧
      w' = ((w.alloc (.cells #[.string s] 9)).alloc (.cells #[.string ⟨#[32]⟩] 9)).alloc (.cells #[.int .i64 0] 3) := by
    go_enter Tryz.func64, Tryz.ntmps64
    go_wp2
    go_ret
    exact ⟨rfl, rfl⟩
  go_enter Tryz.func46, Tryz.ntmps46
  go_wp2_with (go_at_call 64; refine h.mono ?_; rintro e w' ⟨rfl, hw⟩)
  go_ret
  first | exact ⟨rfl, hw⟩ | exact ⟨rfl, rfl⟩

set_option maxRecDepth 100000 in
set_option maxHeartbeats 4000000 in
theorem split_stops (n : Nat) (hn : 4 ≤ n) (B : Nat) (s : ByteArray) (w : World) (hs : s.size ≤ 1000000) (b0 : Boxed w B 9 (.string s)) (b1 : Boxed w (B + 1) 9 (.string ⟨#[32]⟩)) (b2 : Boxed w (B + 1 + 1) 3 (.int .i64 0)) :
    SeqW Fence.wide n Tryz.prog 77 #[.pointer (some ⟨B + 1, 0, none⟩), .pointer (some ⟨B, 0, none⟩), .pointer (some ⟨B + 1 + 1, 0, none⟩)] encWord (fun b => b = B ∨ b = B + 1 ∨ b = B + 1 + 1)
      (fun xs => wordsL xs = splitL s.data.toList) (fun pre => ∃ r, wordsL pre ++ r = splitL s.data.toList) (s.size + 1) w := fun l J Jx V hV hJ hJx hY h0 => by
  have d0 : Boxed V B 9 (.string s) := (hV.block B b0.lt).trans b0
  have d1 : Boxed V (B + 1) 9 (.string ⟨#[32]⟩) := (hV.block (B + 1) b1.lt).trans b1
  have d2 : Boxed V (B + 1 + 1) 3 (.int .i64 0) := (hV.block (B + 1 + 1) b2.lt).trans b2
  have e1 := d1.cell
  clear b0 b1 b2
  refine callsIn_of_wp Tryz.func77 rfl trivial ?_ rfl
  simp only [Tryz.ntmps77, List.size_toArray, List.length_cons, List.length_nil, Nat.reduceAdd, Nat.reduceSub, Array.replicate_succ, Array.replicate_zero, List.push_toArray, List.append_toArray, List.nil_append, List.cons_append]
  gi_wp2_with fail
  gi_loopg [29] s.size (fun r _ wr => ∃ (pre : List Word) (R : ByteArray), r = R.size ∧ Hid (wordsL pre ++ splitL R.data.toList = splitL s.data.toList) ∧ pre.length + R.size ≤ s.size ∧ Boxed wr B 9 (.string R) ∧ Boxed wr (B + 1) 9 (.string ⟨#[32]⟩) ∧ Boxed wr (B + 1 + 1) 3 (.int .i64 0) ∧ J pre wr)
  case atStart => exact ⟨[], s, rfl, by simp [wordsL, Hid], by simp, d0, d1, d2, h0⟩
  case round =>
    obtain ⟨pre, R, hr, HR, hsz, k0, k1, k2, hJs⟩ := hrel
    have hR : R.size ≤ 1000000 := by omega
    have HG := Lib.hid hr
    clear hr d0 d1 d2 e1
    have c0 := k0.cell; have c1 := k1.cell; have c2 := k2.cell
    have hix : ∀ W, Calls Tryz.prog 78 #[.string R, .string ⟨#[32]⟩] W fun e w' => e = .returned (.int .i64 (Lib.indexByte R.data.toList 32)) ∧ W = w' := fun W => ix1 R 32 W hR
    have hge := Lib.indexByte_ge R.data.toList 32
    by_cases hno : Lib.indexByte R.data.toList 32 = -1
    · have hsp := split_none R hno
      rw [hno] at hix
      have HN : Hid (wordsL (pre ++ [⟨R, hR⟩]) = splitL s.data.toList) := by
        have := HR.out; rw [hsp] at this; rw [wordsL_snoc]; exact this
      clear hno hsp hge
      obtain ⟨fn, tmps, assign, body, hy, hRd⟩ := hY pre ⟨R, hR⟩ wr hJs (by omega)
      dsimp only [encWord] at hy
      gi_wp2_with fail
      refine ⟨trivial, fun _ => by omega, ((callsIn_wide (n := n - 1)).2 (hix _)).mono ?_⟩
      rintro e w' ⟨rfl, rfl⟩
      gi_wp2_with fail
      refine ⟨fun _ => by omega, hRd.mono ?_⟩
      rintro e W3 (⟨rfl, hJ3, _⟩ | ⟨rfl, hJx3⟩)
      · gi_wp2_with fail
        go_end0
        exact ⟨⟨_, rfl⟩, .inl ⟨_, HN.out, hJ3⟩⟩
      · gi_wp2_with fail
        go_end0
        exact ⟨⟨_, rfl⟩, .inr ⟨_, ⟨[], by rw [List.append_nil]; exact HN.out⟩, hJx3⟩⟩
    · obtain ⟨o, ho⟩ : ∃ o : Nat, Lib.indexByte R.data.toList 32 = o := ⟨(Lib.indexByte R.data.toList 32).toNat, by omega⟩
      obtain ⟨hoR, hsp⟩ := split_some R o ho
      rw [ho] at hix
      have hxs : (R.extract 0 o).size ≤ 1000000 := by simp; omega
      have hrs : (R.extract (o + 1) R.size).size = R.size - (o + 1) := by simp
      have HN : Hid (wordsL (pre ++ [⟨R.extract 0 o, hxs⟩]) ++ splitL (R.extract (o + 1) R.size).data.toList = splitL s.data.toList) := by
        have := HR.out; rw [hsp] at this; rw [wordsL_snoc, List.append_assoc]; exact this
      have HRS := Lib.hid hrs
      have hp0 : ¬ ((o : Int) < 0) := by omega
      have hp1 : (o : Int) ≤ (R.size : Int) := by omega
      have hp2 : (o : Int) + 1 ≤ (R.size : Int) := by omega
      clear hno hsp hge ho hrs
      obtain ⟨fn, tmps, assign, body, hy, hRd⟩ := hY pre ⟨R.extract 0 o, hxs⟩ wr hJs (by omega)
      dsimp only [encWord] at hy
      gi_wp2_with fail
      refine ⟨trivial, fun _ => by omega, ((callsIn_wide (n := n - 1)).2 (hix _)).mono ?_⟩
      rintro e w' ⟨rfl, rfl⟩
      gi_wp2_with fail
      refine ⟨fun _ => by omega, hRd.mono ?_⟩
      rintro e W3 (⟨rfl, hJ3, hS3⟩ | ⟨rfl, hJx3⟩)
      · have m0 : Boxed W3 B 9 (.string R) := (hS3 B (.inl rfl)).trans k0
        have m1 : Boxed W3 (B + 1) 9 (.string ⟨#[32]⟩) := (hS3 (B + 1) (.inr (.inl rfl))).trans k1
        have m2 : Boxed W3 (B + 1 + 1) 3 (.int .i64 0) := (hS3 (B + 1 + 1) (.inr (.inr rfl))).trans k2
        have g0 := m0.cell; have g1 := m1.cell; have f0 := m0.frozen
        have hJ4 : J (pre ++ [⟨R.extract 0 o, hxs⟩]) (W3.setCell ⟨B, 0, none⟩ (.string (R.extract (o + 1) R.size))) := hJ _ _ _ (some B) hJ3 (grownBy_setCell' _ _ _) (fun r e => by cases e; exact .inl (.inl rfl))
        have HJ := Lib.hid hJ4
        clear hJ4 hJ3 hS3
        gi_wp2_with fail
        gi_roundg (R.extract (o + 1) R.size).size
        case measure => rw [HG.out, HRS.out]; omega
        case rel => exact ⟨_, _, rfl, HN, by rw [HRS.out]; simp; omega, m0.set _, m1.other (by omega) _, m2.other (by omega) _, HJ.out⟩
      · gi_wp2_with fail
        refine bodyPost_ret (results_none rfl _ _ _) rfl ?_
        exact ⟨⟨_, rfl⟩, .inr ⟨_, ⟨_, HN.out⟩, hJx3⟩⟩
end Go.Proofs.YtdikpbldfnkgdaaGreatDoor
end
section
/- A range over a function that writes blocks Z of its own between the rounds: as RangeF. -/
namespace Go.Proofs.YtdikpbldfnkgdaaGreatDoor
open Go Go.RowKit

/-- what a function that ranges is worth, if it tells the row xs out of blocks Y -/
def SeqZ {α : Type} (P : Program) (g : Nat) (lb : Array Value) (encs : α → Array Value) (Y Z : Nat → Prop) (xs : List α) (w : World) : Prop :=
  ∀ (l : Nat) (J Jx : List α → (Nat → Prop) → World → Prop) (X : Nat → Prop) (V : World), SameX (fun b => Y b ∨ Z b) w V → (∀ b, Y b ∨ Z b → b < V.heap.size) → (∀ k, X k → k < V.heap.size ∧ ¬ (Y k ∨ Z k)) → Stays J → Stays Jx →
    (∀ pre x r X1 V1, pre ++ x :: r = xs → GrowX X X1 V V1 → J pre X1 V1 → Fr (fun k => X k ∨ Z k) V V1 →
      YieldAt Fence.wide 0 P l (encs x) V1 fun e V' => ∃ X2, GrowX X1 X2 V1 V' ∧ Fr X1 V1 V' ∧ ((e = .returned (.bool true) ∧ J (pre ++ [x]) X2 V') ∨ (e = .returned (.bool false) ∧ Jx (pre ++ [x]) X2 V'))) →
    J [] X V → Calls P g (#[.func (.yield l) #[] #[]] ++ lb) V fun e V' => (∃ v, e = .returned v) ∧ ∃ X2, GrowX X X2 V V' ∧ Fr (fun k => X k ∨ Z k) V V' ∧ (J xs X2 V' ∨ ∃ pre r, pre ++ r = xs ∧ Jx pre X2 V')
/-- the rounds, of whatever loop: what the function that ranges makes of them -/
theorem range_coreZ {P : Program} {n : Nat} {α : Type} {ps : Array Tmp} {assign body : Code} {fn : Nat} {tmps : Array Value} {d gf l : Nat} {lb : Array Value} {Y Z X E : Nat → Prop} {encs : α → Array Value} {xs : List α} {w V1 : World}
    (I : List α → (Nat → Prop) → World → Prop) (Ix : Code → List α → (Nat → Prop) → World → Prop)
    (hseq : SeqZ P gf lb encs Y Z xs w) (hX : ∀ k, X k → k < w.heap.size ∧ ¬ (Y k ∨ Z k)) (hY : ∀ b, Y b ∨ Z b → b < w.heap.size) (hps : ∀ x, (encs x).size = ps.size) (hI : Stays I) (hIx : ∀ c, Stays (Ix c)) (h0 : I [] X w)
    (hw : Fr (fun _ => False) w V1) (hl : w.heap.size ≤ l) (hE : ∀ k, E k → w.heap.size ≤ k ∧ k < V1.heap.size ∧ k ≠ l) (hr : V1.heap[l]? = some (.loop (recF fn tmps ps assign body d .ready none)))
    (hround : ∀ pre x r X1 V (K : Act → World → Prop) rb, pre ++ x :: r = xs → I pre X1 V → GrowX X X1 w V → (∀ k, X1 k → k ≠ l ∧ ¬ E k) → Fr (fun k => X k ∨ Z k) w V → l < V.heap.size →
      (∀ a1 Va, Fr (fun _ => False) V Va → (∀ Vb, Fr (fun k => k = l) V Vb → Vb.heap.size = Va.heap.size → (∀ k, k ≠ l → Vb.heap[k]? = Va.heap[k]?) → Vb.heap[l]? = some (.loop rb) → body.wpIn (Fence.wide.inRound l) n P (EndF l rb X1 I Ix (pre ++ [x]) V) a1 Vb) → K a1 Va) →
      assign.wpIn (Fence.wide.inRound l) n P (Exit.then K fun _ _ _ => False) { tmps := (ps.zip (encs x)).foldl (fun t (p, v) => t.setIfInBounds p v) tmps, defers := [] } V) :
    Calls P gf (#[.func (.yield l) #[] #[]] ++ lb) V1 fun e V2 => (∃ v, e = .returned v) ∧ ∃ X2, GrowX X X2 w V2 ∧ (∀ k, X2 k → k ≠ l ∧ ¬ E k) ∧ Fr (fun k => X k ∨ Z k) w V2 ∧ (∀ k, E k → V2.heap[k]? = V1.heap[k]?) ∧ l < V2.heap.size ∧
      ((I xs X2 V2 ∧ V2.heap[l]? = some (.loop (recF fn tmps ps assign body d .ready none))) ∨ ∃ pre r c, pre ++ r = xs ∧ Ix c pre X2 V2 ∧ V2.heap[l]? = some (.loop (recF fn tmps ps assign body d .done (some c)))) := by
  have hlV := blk_lt hr
  have key : ∀ (Q : List α → (Nat → Prop) → World → Prop) (o : Obj), Stays Q → Stays (fun pre X' V => ∃ X1, (∀ k, X' k ↔ (X1 k ∨ k = l ∨ E k)) ∧ Q pre X1 V ∧ V.heap[l]? = some o ∧ (∀ k, E k → V.heap[k]? = V1.heap[k]?) ∧ (∀ k, X1 k → k ≠ l ∧ ¬ E k)) := fun Q o hQ s X' V V' ⟨X1, h1, h2, h3, h4, h5⟩ hlt hf =>
    ⟨X1, h1, hQ s X1 V V' h2 (fun k hk => hlt k ((h1 k).2 (.inl hk))) (hf.mono fun k _ hn e => hn ((h1 k).2 (.inl e))), (hf.block l (blk_lt h3) (fun e => e ((h1 l).2 (.inr (.inl rfl))))).trans h3,
      fun k hk => (hf.block k (hlt k ((h1 k).2 (.inr (.inr hk)))) (fun e => e ((h1 k).2 (.inr (.inr hk))))).trans (h4 k hk), h5⟩
  have thru : ∀ {V2 : World}, Fr (fun k => (X k ∨ k = l ∨ E k) ∨ Z k) V1 V2 → Fr (fun k => X k ∨ Z k) w V2 := fun hf => (hw.mono fun _ _ h => h.elim).trans3 hf fun k hk e => by
    rcases e with (e | rfl | e) | e
    · exact .inl e
    · omega
    · have := (hE k e).1; omega
    · exact .inr e
  have grow : ∀ {X' X1 : Nat → Prop} {V2 : World}, (∀ k, X' k ↔ (X1 k ∨ k = l ∨ E k)) → GrowX (fun k => X k ∨ k = l ∨ E k) X' V1 V2 → GrowX X X1 w V2 := fun h1 hg k hk => by
    have h2 := hg k ((h1 k).2 (.inl hk))
    refine ⟨h2.1, fun hlt => ?_⟩
    rcases h2.2 (Nat.lt_of_lt_of_le hlt hw.size) with e | rfl | e
    · exact e
    · omega
    · have := (hE k e).1; omega
  refine (hseq l (fun pre X' V => ∃ X1, (∀ k, X' k ↔ (X1 k ∨ k = l ∨ E k)) ∧ I pre X1 V ∧ V.heap[l]? = some (.loop (recF fn tmps ps assign body d .ready none)) ∧ (∀ k, E k → V.heap[k]? = V1.heap[k]?) ∧ (∀ k, X1 k → k ≠ l ∧ ¬ E k))
    (fun pre X' V => ∃ c, ∃ X1, (∀ k, X' k ↔ (X1 k ∨ k = l ∨ E k)) ∧ Ix c pre X1 V ∧ V.heap[l]? = some (.loop (recF fn tmps ps assign body d .done (some c))) ∧ (∀ k, E k → V.heap[k]? = V1.heap[k]?) ∧ (∀ k, X1 k → k ≠ l ∧ ¬ E k))
    (fun k => X k ∨ k = l ∨ E k) V1 (fun b hb => hw.block b (hY b hb) fun e => e) (fun b hb => Nat.lt_of_lt_of_le (hY b hb) hw.size) ?hX (key I _ hI) (fun s X' V V' ⟨c, h⟩ h1 h2 => ⟨c, key (Ix c) _ (hIx c) s X' V V' h h1 h2⟩) ?round
    ⟨X, fun k => Iff.rfl, hI [] X w V1 h0 (fun k hk => (hX k hk).1) (hw.mono fun _ _ h => h.elim), hr, fun _ _ => rfl, fun k hk => ⟨by have := (hX k hk).1; omega, fun e => by have := (hX k hk).1; have := (hE k e).1; omega⟩⟩).mono ?behind
  case hX =>
    rintro k (e | rfl | e)
    · exact ⟨Nat.lt_of_lt_of_le (hX k e).1 hw.size, (hX k e).2⟩
    · exact ⟨hlV, fun e => by have := hY _ e; omega⟩
    · exact ⟨(hE k e).2.1, fun e2 => by have := hY _ e2; have := (hE k e).1; omega⟩
  case behind =>
    rintro e V2 ⟨hv, X', hg, hf, (⟨X1, h1, h2, h3, h4, h5⟩ | ⟨pre, r, hpr, c, X1, h1, h2, h3, h4, h5⟩)⟩
    · exact ⟨hv, X1, grow h1 hg, h5, thru hf, h4, blk_lt h3, .inl ⟨h2, h3⟩⟩
    · exact ⟨hv, X1, grow h1 hg, h5, thru hf, h4, blk_lt h3, .inr ⟨pre, r, c, hpr, h2, h3⟩⟩
  case round =>
    rintro pre x r X' V hpx hgx ⟨X1, h1, h2, h3, h4, h5⟩ hfx
    have hy := run_yield (P := P) (args := encs x) h3 (by exact hps x)
    have hlv := blk_lt h3
    have hV1 := hfx.size
    obtain ⟨rb, hrb⟩ : ∃ rb : Loop, { recF fn tmps ps assign body d .ready none with state := .busy } = rb := ⟨_, rfl⟩
    refine ⟨fn, _, assign, body, hy, round_wide (n := n) (.inl rfl) (roundIn_of_wpIn (F := Fence.wide) trivial (hround pre x r X1 V _ rb hpx h2 (grow h1 hgx) h5 (thru hfx) hlv fun a1 Va hfa hbody => ⟨_, run_beginRound (hfa.blk h3 fun h => h) rfl, ?_⟩))⟩
    rw [hrb]
    have hla : l < Va.heap.size := Nat.lt_of_lt_of_le hlv hfa.size
    refine wpIn_mono (hbody (Va.putObj l (.loop rb)) (Fr.putObj (X := fun k => k = l) (hfa.mono fun _ _ h => h.elim) l rfl _) (putObj_size _ _ _) (fun k hk => World.putObj_heap_other hk) (World.putObj_heap_same hla)) ?_
    have fin : ∀ (Q : List α → (Nat → Prop) → World → Prop), Stays Q → ∀ {X2 : Nat → Prop} {V3 : World} (o : Obj), GrowX X1 X2 V V3 → Fr (fun k => k = l ∨ X1 k) V V3 → Q (pre ++ [x]) X2 V3 →
        GrowX X' (fun k => X2 k ∨ k = l ∨ E k) V (V3.putObj l o) ∧ Fr X' V (V3.putObj l o) ∧ ∃ X1', (∀ k, (X2 k ∨ k = l ∨ E k) ↔ (X1' k ∨ k = l ∨ E k)) ∧ Q (pre ++ [x]) X1' (V3.putObj l o) ∧ (V3.putObj l o).heap[l]? = some o ∧ (∀ k, E k → (V3.putObj l o).heap[k]? = V1.heap[k]?) ∧ (∀ k, X1' k → k ≠ l ∧ ¬ E k) := fun Q hQ X2 V3 o g2 f2 q2 => by
      have hl3 : l < V3.heap.size := Nat.lt_of_lt_of_le hlv f2.size
      have hEV : ∀ k, E k → k < V.heap.size := fun k hk => Nat.lt_of_lt_of_le (hE k hk).2.1 hV1
      have x2 : ∀ k, X2 k → k ≠ l ∧ ¬ E k := fun k hk => ⟨fun e => by subst e; exact (h5 _ ((g2 _ hk).2 hlv)).1 rfl, fun e => (h5 _ ((g2 _ hk).2 (hEV k e))).2 e⟩
      refine ⟨fun k hk => ?_, (f2.putObj l (.inl rfl) o).mono fun k _ e => ?_, X2, fun k => Iff.rfl, hQ _ X2 V3 _ q2 (fun k hk => (g2 k hk).1) ((Fr.refl _ V3).putObj l (fun e => (x2 l e).1 rfl) o), World.putObj_heap_same hl3, fun k hk => ?_, x2⟩
      · rw [putObj_size]
        rcases hk with hk | rfl | hk
        · exact ⟨(g2 k hk).1, fun hlt => (h1 k).2 (.inl ((g2 k hk).2 hlt))⟩
        · exact ⟨hl3, fun _ => (h1 _).2 (.inr (.inl rfl))⟩
        · exact ⟨Nat.lt_of_lt_of_le (hEV k hk) f2.size, fun _ => (h1 _).2 (.inr (.inr hk))⟩
      · rcases e with rfl | e
        · exact (h1 _).2 (.inr (.inl rfl))
        · exact (h1 _).2 (.inl e)
      · refine (World.putObj_heap_other (hE k hk).2.2).trans ((f2.block k (hEV k hk) ?_).trans (h4 k hk))
        rintro (e | e)
        · exact (hE k hk).2.2 e
        · exact (h5 k e).2 hk
    rintro e a3 V3 hp
    cases e with
    | normal =>
      obtain ⟨X2, g2, f2, r2, i2⟩ := hp
      have hend := run_endRound (P := P) none r2
      rw [← hrb] at hend
      obtain ⟨q1, q2, q3⟩ := fin I hI _ g2 f2 i2
      exact ⟨_, _, hend, _, q1, q2, .inl ⟨rfl, q3⟩⟩
    | ret =>
      obtain ⟨X2, g2, f2, r2, i2⟩ := hp
      have hend := run_endRound (P := P) (some .ret) r2
      rw [← hrb] at hend
      obtain ⟨q1, q2, q3⟩ := fin _ (hIx .ret) _ g2 f2 i2
      exact ⟨_, _, hend, _, q1, q2, .inr ⟨rfl, _, q3⟩⟩
    | exit id =>
      obtain ⟨X2, g2, f2, r2, i2⟩ := hp
      have hend := run_endRound (P := P) (some (.exit id)) r2
      rw [← hrb] at hend
      obtain ⟨q1, q2, q3⟩ := fin _ (hIx (.exit id)) _ g2 f2 i2
      exact ⟨_, _, hend, _, q1, q2, .inr ⟨rfl, _, q3⟩⟩
    | goto t =>
      obtain ⟨X2, g2, f2, r2, i2⟩ := hp
      have hend := run_endRound (P := P) (some (.goto t)) r2
      rw [← hrb] at hend
      obtain ⟨q1, q2, q3⟩ := fin _ (hIx (.goto t)) _ g2 f2 i2
      exact ⟨_, _, hend, _, q1, q2, .inr ⟨rfl, _, q3⟩⟩
    | panic ch => exact hp.elim
    | outgrown => exact hp.elim
/-- an outermost loop -/
theorem wpIn_rangeZ {n : Nat} {P : Program} {w : World} {α : Type} {a : Act} {Q : Exit → Act → World → Prop} {g : Operand} {assign body : Code} {ps : Array Tmp} {gf : Nat} {lb : Array Value}
    {X Y Z : Nat → Prop} {encs : α → Array Value} {xs : List α} (I : List α → (Nat → Prop) → World → Prop) (Ix : Code → List α → (Nat → Prop) → World → Prop)
    (hg : a.eval g = .func (.func gf) #[] lb) (hseq : SeqZ P gf lb encs Y Z xs w) (hX : ∀ k, X k → k < w.heap.size ∧ ¬ (Y k ∨ Z k)) (hY : ∀ b, Y b ∨ Z b → b < w.heap.size) (h1 : 1 ≤ n)
    (eg : ∀ args v, (callFunc gf args).run P v = .ok (.enter gf args) v) (hps : ∀ x, (encs x).size = ps.size) (hI : Stays I) (hIx : ∀ c, Stays (Ix c)) (h0 : I [] X w)
    (hround : ∀ l pre x r X1 V (K : Act → World → Prop) rb, w.heap.size ≤ l → pre ++ x :: r = xs → I pre X1 V → GrowX X X1 w V → ¬ X1 l → Fr (fun k => X k ∨ Z k) w V → l < V.heap.size →
      (∀ a1 Va, Fr (fun _ => False) V Va → (∀ Vb, Fr (fun k => k = l) V Vb → Vb.heap.size = Va.heap.size → (∀ k, k ≠ l → Vb.heap[k]? = Va.heap[k]?) → Vb.heap[l]? = some (.loop rb) → body.wpIn (Fence.wide.inRound l) (n - 1 - 1) P (EndF l rb X1 I Ix (pre ++ [x]) V) a1 Vb) → K a1 Va) →
      assign.wpIn (Fence.wide.inRound l) (n - 1 - 1) P (Exit.then K fun _ _ _ => False) { tmps := (ps.zip (encs x)).foldl (fun t (p, v) => t.setIfInBounds p v) a.tmps, defers := [] } V)
    (hdone : ∀ D X2 V, w.heap.size ≤ D → ¬ X2 D → GrowX X X2 w V → Fr (fun k => X k ∨ Z k) w V → I xs X2 V → V.heap[D]? = some (.deferred (some [])) → Q .normal { a with defers := { target := .collected D, args := #[] } :: a.defers } V)
    (hstop : ∀ D c pre r X2 V, w.heap.size ≤ D → pre ++ r = xs → ¬ X2 D → GrowX X X2 w V → Fr (fun k => X k ∨ Z k) w V → Ix c pre X2 V → V.heap[D]? = some (.deferred (some [])) → c.wpIn Fence.wide n P Q { a with defers := { target := .collected D, args := #[] } :: a.defers } V) :
    (Code.rangeFunc g ps assign body).wpIn Fence.wide n P Q a w := by
  refine wpIn_rangeFunc fun fn hfn => ?_
  obtain ⟨V1, hV1⟩ : ∃ V1, (w.alloc (.deferred (some []))).alloc (.loop (recF fn a.tmps ps assign body w.heap.size .ready none)) = V1 := ⟨_, rfl⟩
  have hz : V1.heap.size = w.heap.size + 2 := by rw [← hV1]; simp
  have hr : V1.heap[w.heap.size + 1]? = some (.loop (recF fn a.tmps ps assign body w.heap.size .ready none)) := by
    subst hV1
    have h := World.alloc_heap_new (w.alloc (.deferred (some []))) (.loop (recF fn a.tmps ps assign body w.heap.size .ready none))
    rwa [World.size_alloc] at h
  have hd : V1.heap[w.heap.size]? = some (.deferred (some [])) := by
    subst hV1
    exact (Below.heap_alloc _ _ _ (by simp)).trans (World.alloc_heap_new w _)
  have hw : Fr (fun _ => False) w V1 := by subst hV1; exact ((Fr.refl _ w).alloc _).alloc _
  refine ⟨w.heap.size + 1, [{ target := .collected w.heap.size, args := #[] }], V1, { target := .fn (.func gf) lb, args := #[.func (.yield (w.heap.size + 1)) #[] #[]] }, V1, gf, #[.func (.yield (w.heap.size + 1)) #[] #[]] ++ lb, V1, ?_, ?_, ?_, ?_, fun _ => h1, ?_⟩
  · rw [← hV1]; exact run_enterLoop_outer _ _ _ _ _
  · simp only [resolve, hg]; simp [go_sem]
  · intro f' _; trivial
  · simp [invoke, go_sem, eg]
  refine (calls_wide (.inl rfl) (range_coreZ (n := n - 1 - 1) (E := fun k => k = w.heap.size) I Ix hseq hX hY hps hI hIx h0 hw (by omega) (fun k hk => by subst hk; omega) hr
    (fun pre x r X1 V K rb h1 h2 h3 h4 h5 h6 h7 => hround (w.heap.size + 1) pre x r X1 V K rb (by omega) h1 h2 h3 (fun e => (h4 _ e).1 rfl) h5 h6 h7))).mono ?_
  rintro e V2 ⟨⟨v, rfl⟩, X2, g2, x2, f2, e2, l2, h⟩
  have hD : ∀ o, (V2.putObj (w.heap.size + 1) o).heap[w.heap.size]? = some (.deferred (some [])) := fun o => (World.putObj_heap_other (by omega)).trans ((e2 _ rfl).trans hd)
  have hput : ∀ o, Fr (fun k => X k ∨ Z k) w (V2.putObj (w.heap.size + 1) o) := fun o => f2.trans3 ((Fr.refl (fun k => k = w.heap.size + 1) V2).putObj _ rfl o) fun k hk e => by omega
  have hst : ∀ o, Fr (fun k => ¬ X2 k) V2 (V2.putObj (w.heap.size + 1) o) := fun o => (Fr.refl _ V2).putObj _ (fun e => (x2 _ e).1 rfl) o
  have hgr : ∀ o, GrowX X X2 w (V2.putObj (w.heap.size + 1) o) := fun o k hk => by rw [putObj_size]; exact g2 k hk
  rcases h with ⟨hi, hr2⟩ | ⟨pre, r, c, hpr, hi, hr2⟩
  · exact ⟨none, _, run_endLoop (P := P) hr2 (by simp [recF]), hdone _ X2 _ (Nat.le_refl _) (fun e => (x2 _ e).2 rfl) (hgr _) (hput _) (hI _ X2 V2 _ hi (fun k hk => (g2 k hk).1) (hst _)) (hD _)⟩
  · exact ⟨some c, _, run_endLoop (P := P) hr2 (by simp [recF]), hstop _ c pre r X2 _ (Nat.le_refl _) hpr (fun e => (x2 _ e).2 rfl) (hgr _) (hput _) (hIx c _ X2 V2 _ hi (fun k hk => (g2 k hk).1) (hst _)) (hD _)⟩
/-- a loop within a round -/
theorem wpIn_rangeZN {n : Nat} {P : Program} {w : World} {α : Type} {a : Act} {Q : Exit → Act → World → Prop} {g : Operand} {assign body : Code} {ps : Array Tmp} {gf : Nat} {lb : Array Value} {l0 : Nat} {r0 : Loop}
    {X Y Z : Nat → Prop} {encs : α → Array Value} {xs : List α} (I : List α → (Nat → Prop) → World → Prop) (Ix : Code → List α → (Nat → Prop) → World → Prop) (hl0 : w.heap[l0]? = some (.loop r0))
    (hg : a.eval g = .func (.func gf) #[] lb) (hseq : SeqZ P gf lb encs Y Z xs w) (hX : ∀ k, X k → k < w.heap.size ∧ ¬ (Y k ∨ Z k)) (hY : ∀ b, Y b ∨ Z b → b < w.heap.size) (h1 : 1 ≤ n)
    (eg : ∀ args v, (callFunc gf args).run P v = .ok (.enter gf args) v) (hps : ∀ x, (encs x).size = ps.size) (hI : Stays I) (hIx : ∀ c, Stays (Ix c)) (h0 : I [] X w)
    (hround : ∀ l pre x r X1 V (K : Act → World → Prop) rb, w.heap.size ≤ l → pre ++ x :: r = xs → I pre X1 V → GrowX X X1 w V → ¬ X1 l → Fr (fun k => X k ∨ Z k) w V → l < V.heap.size →
      (∀ a1 Va, Fr (fun _ => False) V Va → (∀ Vb, Fr (fun k => k = l) V Vb → Vb.heap.size = Va.heap.size → (∀ k, k ≠ l → Vb.heap[k]? = Va.heap[k]?) → Vb.heap[l]? = some (.loop rb) → body.wpIn (Fence.wide.inRound l) (n - 1 - 1) P (EndF l rb X1 I Ix (pre ++ [x]) V) a1 Vb) → K a1 Va) →
      assign.wpIn (Fence.wide.inRound l) (n - 1 - 1) P (Exit.then K fun _ _ _ => False) { tmps := (ps.zip (encs x)).foldl (fun t (p, v) => t.setIfInBounds p v) a.tmps, defers := [] } V)
    (hdone : ∀ X2 V, GrowX X X2 w V → Fr (fun k => X k ∨ Z k) w V → I xs X2 V → Q .normal a V)
    (hstop : ∀ c pre r X2 V, pre ++ r = xs → GrowX X X2 w V → Fr (fun k => X k ∨ Z k) w V → Ix c pre X2 V → c.wpIn (Fence.wide.inRound l0) n P Q a V) :
    (Code.rangeFunc g ps assign body).wpIn (Fence.wide.inRound l0) n P Q a w := by
  refine wpIn_rangeFunc fun fn hfn => ?_
  obtain ⟨V1, hV1⟩ : ∃ V1, w.alloc (.loop (recF fn a.tmps ps assign body r0.defers .ready none)) = V1 := ⟨_, rfl⟩
  have hz : V1.heap.size = w.heap.size + 1 := by rw [← hV1]; simp
  have hr : V1.heap[w.heap.size]? = some (.loop (recF fn a.tmps ps assign body r0.defers .ready none)) := by subst hV1; exact World.alloc_heap_new w _
  have hw : Fr (fun _ => False) w V1 := by subst hV1; exact (Fr.refl _ w).alloc _
  refine ⟨w.heap.size, [], V1, { target := .fn (.func gf) lb, args := #[.func (.yield w.heap.size) #[] #[]] }, V1, gf, #[.func (.yield w.heap.size) #[] #[]] ++ lb, V1, ?_, ?_, ?_, ?_, fun _ => h1, ?_⟩
  · rw [← hV1]; exact run_enterLoop_inner hl0 _ _ _ _ _
  · simp only [resolve, hg]; simp [go_sem]
  · intro f' _; trivial
  · simp [invoke, go_sem, eg]
  refine (calls_wide (.inr ⟨l0, rfl⟩) (range_coreZ (n := n - 1 - 1) (E := fun _ => False) I Ix hseq hX hY hps hI hIx h0 hw (Nat.le_refl _) (fun k hk => hk.elim) hr
    (fun pre x r X1 V K rb h1 h2 h3 h4 h5 h6 h7 => hround w.heap.size pre x r X1 V K rb (Nat.le_refl _) h1 h2 h3 (fun e => (h4 _ e).1 rfl) h5 h6 h7))).mono ?_
  rintro e V2 ⟨⟨v, rfl⟩, X2, g2, x2, f2, e2, l2, h⟩
  have hput : ∀ o, Fr (fun k => X k ∨ Z k) w (V2.putObj w.heap.size o) := fun o => f2.trans3 ((Fr.refl (fun k => k = w.heap.size) V2).putObj _ rfl o) fun k hk e => by omega
  have hst : ∀ o, Fr (fun k => ¬ X2 k) V2 (V2.putObj w.heap.size o) := fun o => (Fr.refl _ V2).putObj _ (fun e => (x2 _ e).1 rfl) o
  have hgr : ∀ o, GrowX X X2 w (V2.putObj w.heap.size o) := fun o k hk => by rw [putObj_size]; exact g2 k hk
  rcases h with ⟨hi, hr2⟩ | ⟨pre, r, c, hpr, hi, hr2⟩
  · exact ⟨none, _, run_endLoop (P := P) hr2 (by simp [recF]), hdone X2 _ (hgr _) (hput _) (hI _ X2 V2 _ hi (fun k hk => (g2 k hk).1) (hst _))⟩
  · exact ⟨some c, _, run_endLoop (P := P) hr2 (by simp [recF]), hstop c pre r X2 _ hpr (hgr _) (hput _) (hIx c _ X2 V2 _ hi (fun k hk => (g2 k hk).1) (hst _))⟩
end Go.Proofs.YtdikpbldfnkgdaaGreatDoor
end
section
/- strings.SplitSeq at one byte, as a function that ranges and writes a box of its own. -/
namespace Go.Proofs.YtdikpbldfnkgdaaGreatDoor
set_option linter.unusedVariables false
set_option linter.unusedSimpArgs false
open Go Go.RowKit Go.Shelf Go.Lib
attribute [local go_sem] Oper.semAt_some

/-- the pieces between bytes c -/
def splitC (c : UInt8) : List UInt8 → List (List UInt8)
  | [] => [[]]
  | b :: r => if b = c then [] :: splitC c r else match splitC c r with
    | [] => [[b]]
    | p :: ps => (b :: p) :: ps
theorem splitC_ne (c : UInt8) : ∀ l, splitC c l ≠ []
  | [] => by simp [splitC]
  | b :: r => by
    unfold splitC
    split
    · simp
    · split <;> simp
theorem splitC_len (c : UInt8) : ∀ l, (splitC c l).length ≤ l.length + 1
  | [] => by simp [splitC]
  | b :: r => by
    have h := splitC_len c r
    unfold splitC
    split
    · simp; omega
    · split
      · simp
      · rename_i p ps hp
        rw [hp] at h
        simp at h ⊢
        omega
theorem splitC_none (c : UInt8) : ∀ p : List UInt8, c ∉ p → splitC c p = [p]
  | [], _ => rfl
  | b :: r, h => by
    have h1 : ¬ b = c := fun e => h (by rw [e]; exact List.mem_cons_self)
    unfold splitC
    rw [if_neg h1, splitC_none c r (fun e => h (List.mem_cons_of_mem _ e))]
theorem splitC_cut (c : UInt8) : ∀ (p q : List UInt8), c ∉ p → splitC c (p ++ c :: q) = p :: splitC c q
  | [], q, _ => by simp [splitC]
  | b :: r, q, h => by
    have h1 : ¬ b = c := fun e => h (by rw [e]; exact List.mem_cons_self)
    rw [List.cons_append]
    conv => lhs; unfold splitC
    rw [if_neg h1, splitC_cut c r q (fun e => h (List.mem_cons_of_mem _ e))]
theorem splitC_no (c : UInt8) (R : ByteArray) (h : Lib.indexByte R.data.toList c = -1) : splitC c R.data.toList = [R.data.toList] :=
  splitC_none c _ (fun hm => by
    obtain ⟨k, hk⟩ := List.getElem?_of_mem hm
    exact Lib.indexByte_none h k hk)
theorem splitC_at (c : UInt8) (R : ByteArray) (o : Nat) (h : Lib.indexByte R.data.toList c = o) : o < R.size ∧ splitC c R.data.toList = (R.extract 0 o).data.toList :: splitC c (R.extract (o + 1) R.size).data.toList := by
  obtain ⟨h1, h2⟩ := Lib.indexByte_some h
  have ho : o < R.data.toList.length := (List.getElem?_eq_some_iff.1 h1).1
  have e : R.data.toList = R.data.toList.take o ++ c :: R.data.toList.drop (o + 1) := by
    have h3 := List.drop_eq_getElem_cons ho
    have h4 : R.data.toList[o] = c := (List.getElem?_eq_some_iff.1 h1).2
    rw [h4] at h3
    rw [← h3, List.take_append_drop]
  have hn : c ∉ R.data.toList.take o := fun hm => by
    obtain ⟨k, hk⟩ := List.getElem?_of_mem hm
    rw [List.getElem?_take] at hk
    split at hk
    · exact h2 k ‹_› hk
    · cases hk
  refine ⟨by simpa using ho, ?_⟩
  have e1 : (R.extract 0 o).data.toList = R.data.toList.take o := by simp
  have e2 : (R.extract (o + 1) R.size).data.toList = R.data.toList.drop (o + 1) := by
    simp [List.take_of_length_le]
  rw [e1, e2]
  conv => lhs; rw [e]
  exact splitC_cut c _ _ hn
/-- the call: three boxes -/
theorem splitc_any (s : ByteArray) (c : UInt8) (w : World) :
    Calls Tryz.prog 46 #[.string s, .string ⟨#[c]⟩] w fun e w' => e = .returned (.func (.func 77) #[] #[.pointer (some ⟨w.heap.size + 1, 0, none⟩), .pointer (some ⟨w.heap.size, 0, none⟩), .pointer (some ⟨w.heap.size + 1 + 1, 0, none⟩)]) ∧
      w' = ((w.alloc (.cells #[.string s] 9)).alloc (.cells #[.string ⟨#[c]⟩] 9)).alloc (.cells #[.int .i64 0] 3) := by
  have h : Calls Tryz.prog 64 #[.string s, .string ⟨#[c]⟩, .int .i64 0] w fun e w' => e = .returned (.func (.func 77) #[] #[.pointer (some ⟨w.heap.size + 1, 0, none⟩), .pointer (some ⟨w.heap.size, 0, none⟩), .pointer (some ⟨w.heap.size + 1 + 1, 0, none⟩)]) ∧
      w' = ((w.alloc (.cells #[.string s] 9)).alloc (.cells #[.string ⟨#[c]⟩] 9)).alloc (.cells #[.int .i64 0] 3) := by
    go_enter Tryz.func64, Tryz.ntmps64
    go_wp2_with fail
    go_ret
    exact ⟨rfl, rfl⟩
  go_enter Tryz.func46, Tryz.ntmps46
  go_wp2_with fail
  refine h.mono ?_
  rintro e w' ⟨rfl, rfl⟩
  go_wp2_with fail
  go_ret
  exact ⟨rfl, rfl⟩
def SplB (B : Nat) (c : UInt8) (R : ByteArray) (W : World) : Prop := W.heap[B]? = some (.cells #[.string R] 9 (0, 0)) ∧ W.heap[B + 1]? = some (.cells #[.string ⟨#[c]⟩] 9 (0, 0)) ∧ W.heap[B + 1 + 1]? = some (.cells #[.int .i64 0] 3 (0, 0))
set_option maxRecDepth 100000 in
set_option maxHeartbeats 8000000 in
theorem split_seqZ (B : Nat) (c : UInt8) (s : ByteArray) (w : World) (hs : s.size ≤ 1000000) (hb : SplB B c s w) :
    SeqZ Tryz.prog 77 #[.pointer (some ⟨B + 1, 0, none⟩), .pointer (some ⟨B, 0, none⟩), .pointer (some ⟨B + 1 + 1, 0, none⟩)] encL (fun b => b = B + 1 ∨ b = B + 1 + 1) (fun b => b = B) (splitC c s.data.toList) w := fun l J Jx X V hsm hYl hX hJ hJx hY h0 => by
  have kB := (hsm B (.inr rfl)).trans hb.1
  have k1 := (hsm (B + 1) (.inl (.inl rfl))).trans hb.2.1
  have k2 := (hsm (B + 1 + 1) (.inl (.inr rfl))).trans hb.2.2
  have hXB : ¬ X B ∧ ¬ X (B + 1) ∧ ¬ X (B + 1 + 1) := ⟨fun e => (hX _ e).2 (.inr rfl), fun e => (hX _ e).2 (.inl (.inl rfl)), fun e => (hX _ e).2 (.inl (.inr rfl))⟩
  have H := Lib.hid (And.intro hX (And.intro hJ (And.intro hJx (And.intro hY hXB))))
  have hBV := blk_lt k2
  have e1 := blk_cell k1 0
  have hfix : ∀ W, Fr (fun k => X k ∨ k = B) V W → W.heap[B + 1]? = some (.cells #[.string ⟨#[c]⟩] 9 (0, 0)) ∧ W.heap[B + 1 + 1]? = some (.cells #[.int .i64 0] 3 (0, 0)) := fun W hf => ⟨hf.blk k1 fun e => e.elim hXB.2.1 (by omega), hf.blk k2 fun e => e.elim hXB.2.2 (by omega)⟩
  have HFX := Lib.hid hfix
  have h00 : Hid (∃ X1 pre, GrowX X X1 V V ∧ Fr (fun k => X k ∨ k = B) V V ∧ J pre X1 V ∧ pre ++ splitC c s.data.toList = splitC c s.data.toList ∧ V.heap[B]? = some (.cells #[.string s] 9 (0, 0))) :=
    ⟨X, [], GrowX.refl fun k hk => (hX k hk).1, Fr.refl _ _, h0, rfl, kB⟩
  clear hb hsm hYl hX hJ hJx hY h0 kB k1 k2 hXB hfix
  refine (callsIn_wide (n := 20)).1 ?_
  refine callsIn_of_wp Tryz.func77 rfl trivial ?_ rfl
  simp only [Tryz.ntmps77, List.size_toArray, List.length_cons, List.length_nil, Nat.reduceAdd, Nat.reduceSub, Array.replicate_succ, Array.replicate_zero, List.push_toArray, List.append_toArray, List.nil_append, List.cons_append]
  gi_wp2_with fail
  gi_loopg [29] s.size (fun r _ wr => ∃ R : ByteArray, r = R.size ∧ R.size ≤ s.size ∧ Hid (∃ X1 pre, GrowX X X1 V wr ∧ Fr (fun k => X k ∨ k = B) V wr ∧ J pre X1 wr ∧ pre ++ splitC c R.data.toList = splitC c s.data.toList ∧ wr.heap[B]? = some (.cells #[.string R] 9 (0, 0))))
  case atStart => exact ⟨s, rfl, Nat.le_refl _, h00⟩
  case round =>
    clear h00 e1
    obtain ⟨R, hr, hRs, HR⟩ := hrel
    have HG := Lib.hid hr
    clear hr
    obtain ⟨X1, pre, g1, f1, j1, hsp, kB⟩ := HR.out
    obtain ⟨kk1, kk2⟩ := HFX.out _ f1
    have c0 := blk_cell kB 0
    have z0 := blk_free kB 0
    have c1 := blk_cell kk1 0
    have c2 := blk_cell kk2 0
    have HR1 := Lib.hid (And.intro g1 (And.intro f1 (And.intro j1 (And.intro hsp kB))))
    clear g1 f1 j1 hsp kB HR kk1 kk2
    have hR : R.size ≤ 1000000 := by omega
    have hix := fun W => ix1 R c W hR
    have hge := Lib.indexByte_ge R.data.toList c
    by_cases hno : Lib.indexByte R.data.toList c = -1
    · rw [hno] at hix
      have HIX := Lib.hid hix
      have HNO := Lib.hid (splitC_no c R hno)
      clear hno hge hix
      obtain ⟨hX, hJ, hJx, hY, hXB⟩ := H.out
      obtain ⟨g1, f1, j1, hsp, kB⟩ := HR1.out
      have hsp4 : pre ++ R.data.toList :: [] = splitC c s.data.toList := by rw [← hsp, HNO.out]
      obtain ⟨fn, tmps, assign, body, hy, hRd⟩ := hY pre R.data.toList [] X1 wr hsp4 g1 j1 f1
      simp only [encL, bs_of] at hy
      have HP := Lib.hid (And.intro g1 (And.intro f1 (And.intro hsp4 hJx)))
      clear hX hJ hJx hY hXB g1 f1 j1 hsp kB hsp4
      gi_wp2_with fail
      refine ⟨trivial, (calls_wide (.inl rfl) (HIX.out _)).mono ?_⟩
      rintro e w' ⟨rfl, rfl⟩
      gi_wp2_with fail
      refine (round_wide (.inl rfl) hRd).mono ?_
      rintro e W5 ⟨X2, g2, f2, (⟨rfl, hJ3⟩ | ⟨rfl, hJx3⟩)⟩
      · obtain ⟨g4, f4, hsp4, hJx⟩ := HP.out
        have HN : Hid (∃ X2, GrowX X X2 V W5 ∧ Fr (fun k => X k ∨ k = B) V W5 ∧ J (splitC c s.data.toList) X2 W5) :=
          ⟨X2, g4.trans g2 f4.size, f4.trans3 f2 fun k hk e => .inl ((g4 k e).2 hk), by rw [← hsp4]; exact hJ3⟩
        clear g4 f4 hsp4 hJx g2 f2 hJ3 hRd hy
        gi_wp2_with fail
        go_end0
        obtain ⟨X3, a1, a2, a3⟩ := HN.out
        exact ⟨⟨_, rfl⟩, X3, a1, a2, .inl a3⟩
      · obtain ⟨g4, f4, hsp4, hJx⟩ := HP.out
        have HN : Hid (∃ X2, GrowX X X2 V W5 ∧ Fr (fun k => X k ∨ k = B) V W5 ∧ ∃ pre r, pre ++ r = splitC c s.data.toList ∧ Jx pre X2 W5) :=
          ⟨X2, g4.trans g2 f4.size, f4.trans3 f2 fun k hk e => .inl ((g4 k e).2 hk), _, [], by rw [List.append_nil]; exact hsp4, hJx3⟩
        clear g4 f4 hsp4 hJx g2 f2 hJx3 hRd hy
        gi_wp2_with fail
        go_end0
        obtain ⟨X3, a1, a2, a3⟩ := HN.out
        exact ⟨⟨_, rfl⟩, X3, a1, a2, .inr a3⟩
    · obtain ⟨o, ho⟩ : ∃ o : Nat, Lib.indexByte R.data.toList c = o := ⟨(Lib.indexByte R.data.toList c).toNat, by omega⟩
      obtain ⟨hoR, hso⟩ := splitC_at c R o ho
      rw [ho] at hix
      have HIX := Lib.hid hix
      have hrs : (R.extract (o + 1) R.size).size = R.size - (o + 1) := by simp
      have HRS := Lib.hid hrs
      have hp0 : ¬ ((o : Int) < 0) := by omega
      have hp1 : (o : Int) ≤ (R.size : Int) := by omega
      have hp2 : (o : Int) + 1 ≤ (R.size : Int) := by omega
      obtain ⟨hX, hJ, hJx, hY, hXB⟩ := H.out
      obtain ⟨g1, f1, j1, hsp, kB⟩ := HR1.out
      have hsp4 : pre ++ (R.extract 0 o).data.toList :: splitC c (R.extract (o + 1) R.size).data.toList = splitC c s.data.toList := by rw [← hsp, hso]
      obtain ⟨fn, tmps, assign, body, hy, hRd⟩ := hY pre (R.extract 0 o).data.toList _ X1 wr hsp4 g1 j1 f1
      simp only [encL, bs_of] at hy
      have hX1B : ¬ X1 B := fun e => hXB.1 ((g1 B e).2 (by omega))
      have hsep : ∀ W, Fr X1 wr W → W.heap[B]? = some (.cells #[.string R] 9 (0, 0)) ∧ W.heap[B + 1]? = some (.cells #[.string ⟨#[c]⟩] 9 (0, 0)) := fun W hf => by
        obtain ⟨kk1, kk2⟩ := HFX.out _ f1
        exact ⟨hf.blk kB hX1B, hf.blk kk1 fun e => hXB.2.1 ((g1 _ e).2 (by omega))⟩
      have HP := Lib.hid (And.intro g1 (And.intro f1 (And.intro hsp4 (And.intro hJ (And.intro hJx (And.intro hX1B hsep))))))
      clear hX hJ hJx hY hXB g1 f1 j1 hsp kB hsp4 hno hge ho hrs hso hix hX1B hsep
      gi_wp2_with fail
      refine ⟨trivial, (calls_wide (.inl rfl) (HIX.out _)).mono ?_⟩
      rintro e w' ⟨rfl, rfl⟩
      gi_wp2_with fail
      refine (round_wide (.inl rfl) hRd).mono ?_
      rintro e W5 ⟨X2, g2, f2, (⟨rfl, hJ3⟩ | ⟨rfl, hJx3⟩)⟩
      · obtain ⟨g4, f4, hsp4, hJ, hJx, hX1B, hsep⟩ := HP.out
        obtain ⟨m0, m1⟩ := hsep W5 f2
        have d0 := blk_cell m0 0
        have d1 := blk_cell m1 0
        have y0 := blk_free m0 0
        obtain ⟨W6, hW6⟩ : ∃ W6, W5.setCell ⟨B, 0, none⟩ (.string (R.extract (o + 1) R.size)) = W6 := ⟨_, rfl⟩
        have fB : Fr (fun k => k = B) W5 W6 := by rw [← hW6]; exact Fr.setCell (X := fun k => k = B) (Fr.refl _ _) ⟨B, 0, none⟩ rfl _
        have zB : W6.heap.size = W5.heap.size := by rw [← hW6]; simp
        have hX2B : ¬ X2 B := fun e => hX1B ((g2 B e).2 (by have := f4.size; omega))
        have HN : Hid (∃ X1 pre, GrowX X X1 V W6 ∧ Fr (fun k => X k ∨ k = B) V W6 ∧ J pre X1 W6 ∧ pre ++ splitC c (R.extract (o + 1) R.size).data.toList = splitC c s.data.toList ∧ W6.heap[B]? = some (.cells #[.string (R.extract (o + 1) R.size)] 9 (0, 0))) :=
          ⟨X2, _, fun k hk => ⟨by rw [zB]; exact ((g4.trans g2 f4.size) k hk).1, ((g4.trans g2 f4.size) k hk).2⟩, (f4.trans3 f2 fun k hk e => .inl ((g4 k e).2 hk)).trans3 fB fun k _ e => .inr e, hJ.fr hJ3 (fun k hk => (g2 k hk).1) fB fun k e h => hX2B (e ▸ h), by rw [List.append_assoc]; exact hsp4, by rw [← hW6]; exact blk_set m0 0 _⟩
        rw [← hW6] at HN
        clear g4 f4 hsp4 hJ hJx hX1B hsep g2 f2 hJ3 hRd hy m0 m1 hW6 fB zB hX2B c0 c1 z0
        gi_wp2_with fail
        gi_roundg (R.extract (o + 1) R.size).size
        case measure => rw [HG.out, HRS.out]; omega
        case rel => exact ⟨_, rfl, by rw [HRS.out]; omega, HN⟩
      · obtain ⟨g4, f4, hsp4, hJ, hJx, hX1B, hsep⟩ := HP.out
        have HN : Hid (∃ X2, GrowX X X2 V W5 ∧ Fr (fun k => X k ∨ k = B) V W5 ∧ ∃ pre r, pre ++ r = splitC c s.data.toList ∧ Jx pre X2 W5) :=
          ⟨X2, g4.trans g2 f4.size, f4.trans3 f2 fun k hk e => .inl ((g4 k e).2 hk), _, splitC c (R.extract (o + 1) R.size).data.toList, by rw [List.append_assoc]; exact hsp4, hJx3⟩
        clear g4 f4 hsp4 hJ hJx hX1B hsep g2 f2 hJx3 hRd hy
        gi_wp2_with fail
        refine bodyPost_ret (results_none rfl _ _ _) rfl ?_
        obtain ⟨X3, a1, a2, a3⟩ := HN.out
        exact ⟨⟨_, rfl⟩, X3, a1, a2, .inr a3⟩
end Go.Proofs.YtdikpbldfnkgdaaGreatDoor
end
section
/- Layer 14: Word: the words of a numeric. -/
namespace Go.Proofs.YtdikpbldfnkgdaaGreatDoor
set_option linter.unusedVariables false
set_option linter.unusedSimpArgs false
open Go Go.RowKit
attribute [local go_sem] Oper.semAt_some

theorem splitC_mem17 (c : UInt8) : ∀ (l : List UInt8), ∀ p ∈ splitC c l, p.length ≤ l.length
  | [], p, hp => by simp [splitC] at hp; simp [hp]
  | b :: r, p, hp => by
    have ih := splitC_mem17 c r
    unfold splitC at hp
    split at hp
    · rw [List.mem_cons] at hp
      rcases hp with rfl | hp
      · simp
      · have := ih p hp; simp; omega
    · split at hp
      · simp at hp; subst hp; simp
      · rename_i q qs hq
        rw [List.mem_cons] at hp
        rcases hp with rfl | hp
        · have := ih q (by rw [hq]; exact List.mem_cons_self); simp; omega
        · have := ih p (by rw [hq]; exact List.mem_cons_of_mem _ hp); simp; omega
def tabD : List UInt8 := [51, 48, 53, 32, 89, 111, 117, 32, 97, 114, 101, 32, 110, 111, 32, 108, 111, 110, 103, 101, 114, 32, 109, 97, 114, 107, 101, 100, 32, 97, 115, 32, 98, 101, 105, 110, 103, 32, 97, 119, 97, 121, 10, 51, 48, 54, 32, 89, 111, 117, 32, 104, 97, 118, 101, 32, 98, 101, 101, 110, 32, 109, 97, 114, 107, 101, 100, 32, 97, 115, 32, 98, 101, 105, 110, 103, 32, 97, 119, 97, 121, 10, 51, 49, 53, 32, 69, 110, 100, 32, 111, 102, 32, 87, 72, 79, 32, 108, 105, 115, 116, 10, 51, 49, 56, 32, 69, 110, 100, 32, 111, 102, 32, 87, 72, 79, 73, 83, 32, 108, 105, 115, 116, 10, 51, 50, 51, 32, 69, 110, 100, 32, 111, 102, 32, 76, 73, 83, 84, 10, 51, 54, 54, 32, 69, 110, 100, 32, 111, 102, 32, 78, 65, 77, 69, 83, 32, 108, 105, 115, 116, 10, 51, 54, 56, 32, 69, 110, 100, 32, 111, 102, 32, 98, 97, 110, 32, 108, 105, 115, 116, 10, 51, 54, 57, 32, 69, 110, 100, 32, 111, 102, 32, 87, 72, 79, 87, 65, 83, 10, 51, 56, 49, 32, 89, 111, 117, 32, 97, 114, 101, 32, 110, 111, 119, 32, 97, 110, 32, 73, 82, 67, 32, 111, 112, 101, 114, 97, 116, 111, 114, 10, 52, 48, 49, 32, 78, 111, 32, 115, 117, 99, 104, 32, 110, 105, 99, 107, 10, 52, 48, 50, 32, 78, 111, 32, 115, 117, 99, 104, 32, 115, 101, 114, 118, 101, 114, 10, 52, 48, 51, 32, 78, 111, 32, 115, 117, 99, 104, 32, 99, 104, 97, 110, 110, 101, 108, 10, 52, 48, 52, 32, 67, 97, 110, 110, 111, 116, 32, 115, 101, 110, 100, 32, 116, 111, 32, 99, 104, 97, 110, 110, 101, 108, 10, 52, 48, 53, 32, 89, 111, 117, 32, 104, 97, 118, 101, 32, 106, 111, 105, 110, 101, 100, 32, 116, 111, 111, 32, 109, 97, 110, 121, 32, 99, 104, 97, 110, 110, 101, 108, 115, 10, 52, 48, 54, 32, 84, 104, 101, 114, 101, 32, 119, 97, 115, 32, 110, 111, 32, 115, 117, 99, 104, 32, 110, 105, 99, 107, 110, 97, 109, 101, 10, 52, 48, 55, 32, 84, 111, 111, 32, 109, 97, 110, 121, 32, 116, 97, 114, 103, 101, 116, 115, 10, 52, 48, 57, 32, 78, 111, 32, 111, 114, 105, 103, 105, 110, 32, 115, 112, 101, 99, 105, 102, 105, 101, 100, 10, 52, 49, 48, 32, 73, 110, 118, 97, 108, 105, 100, 32, 67, 65, 80, 32, 99, 111, 109, 109, 97, 110, 100, 10, 52, 49, 49, 32, 78, 111, 32, 114, 101, 99, 105, 112, 105, 101, 110, 116, 32, 103, 105, 118, 101, 110, 10, 52, 49, 50, 32, 78, 111, 32, 116, 101, 120, 116, 32, 116, 111, 32, 115, 101, 110, 100, 10, 52, 49, 55, 32, 73, 110, 112, 117, 116, 32, 108, 105, 110, 101, 32, 119, 97, 115, 32, 116, 111, 111, 32, 108, 111, 110, 103, 10, 52, 50, 49, 32, 85, 110, 107, 110, 111, 119, 110, 32, 99, 111, 109, 109, 97, 110, 100, 10, 52, 50, 50, 32, 77, 79, 84, 68, 32, 70, 105, 108, 101, 32, 105, 115, 32, 109, 105, 115, 115, 105, 110, 103, 10, 52, 51, 49, 32, 78, 111, 32, 110, 105, 99, 107, 110, 97, 109, 101, 32, 103, 105, 118, 101, 110, 10, 52, 51, 50, 32, 69, 114, 114, 111, 110, 101, 111, 117, 115, 32, 110, 105, 99, 107, 110, 97, 109, 101, 10, 52, 51, 51, 32, 78, 105, 99, 107, 110, 97, 109, 101, 32, 105, 115, 32, 97, 108, 114, 101, 97, 100, 121, 32, 105, 110, 32, 117, 115, 101, 10, 52, 52, 49, 32, 84, 104, 101, 121, 32, 97, 114, 101, 110, 39, 116, 32, 111, 110, 32, 116, 104, 97, 116, 32, 99, 104, 97, 110, 110, 101, 108, 10, 52, 52, 50, 32, 89, 111, 117, 39, 114, 101, 32, 110, 111, 116, 32, 111, 110, 32, 116, 104, 97, 116, 32, 99, 104, 97, 110, 110, 101, 108, 10, 52, 52, 51, 32, 105, 115, 32, 97, 108, 114, 101, 97, 100, 121, 32, 111, 110, 32, 99, 104, 97, 110, 110, 101, 108, 10, 52, 53, 49, 32, 89, 111, 117, 32, 104, 97, 118, 101, 32, 110, 111, 116, 32, 114, 101, 103, 105, 115, 116, 101, 114, 101, 100, 10, 52, 54, 49, 32, 78, 111, 116, 32, 101, 110, 111, 117, 103, 104, 32, 112, 97, 114, 97, 109, 101, 116, 101, 114, 115, 10, 52, 54, 50, 32, 89, 111, 117, 32, 109, 97, 121, 32, 110, 111, 116, 32, 114, 101, 114, 101, 103, 105, 115, 116, 101, 114, 10, 52, 54, 52, 32, 80, 97, 115, 115, 119, 111, 114, 100, 32, 105, 110, 99, 111, 114, 114, 101, 99, 116, 10, 52, 54, 56, 32, 73, 110, 118, 97, 108, 105, 100, 32, 117, 115, 101, 114, 110, 97, 109, 101, 10, 52, 55, 49, 32, 67, 97, 110, 110, 111, 116, 32, 106, 111, 105, 110, 32, 99, 104, 97, 110, 110, 101, 108, 32, 40, 43, 108, 41, 10, 52, 55, 50, 32, 105, 115, 32, 117, 110, 107, 110, 111, 119, 110, 32, 109, 111, 100, 101, 32, 99, 104, 97, 114, 32, 116, 111, 32, 109, 101, 10, 52, 55, 51, 32, 67, 97, 110, 110, 111, 116, 32, 106, 111, 105, 110, 32, 99, 104, 97, 110, 110, 101, 108, 32, 40, 43, 105, 41, 10, 52, 55, 52, 32, 67, 97, 110, 110, 111, 116, 32, 106, 111, 105, 110, 32, 99, 104, 97, 110, 110, 101, 108, 32, 40, 43, 98, 41, 10, 52, 55, 53, 32, 67, 97, 110, 110, 111, 116, 32, 106, 111, 105, 110, 32, 99, 104, 97, 110, 110, 101, 108, 32, 40, 43, 107, 41, 10, 52, 55, 54, 32, 66, 97, 100, 32, 67, 104, 97, 110, 110, 101, 108, 32, 77, 97, 115, 107, 10, 52, 55, 56, 32, 67, 104, 97, 110, 110, 101, 108, 32, 108, 105, 115, 116, 32, 105, 115, 32, 102, 117, 108, 108, 10, 52, 56, 49, 32, 80, 101, 114, 109, 105, 115, 115, 105, 111, 110, 32, 68, 101, 110, 105, 101, 100, 10, 52, 56, 50, 32, 89, 111, 117, 39, 114, 101, 32, 110, 111, 116, 32, 99, 104, 97, 110, 110, 101, 108, 32, 111, 112, 101, 114, 97, 116, 111, 114, 10, 52, 57, 49, 32, 78, 111, 32, 79, 45, 108, 105, 110, 101, 115, 32, 102, 111, 114, 32, 121, 111, 117, 114, 32, 104, 111, 115, 116, 10, 53, 48, 49, 32, 85, 110, 107, 110, 111, 119, 110, 32, 77, 79, 68, 69, 32, 102, 108, 97, 103, 10, 53, 48, 50, 32, 67, 97, 110, 116, 32, 99, 104, 97, 110, 103, 101, 32, 109, 111, 100, 101, 32, 102, 111, 114, 32, 111, 116, 104, 101, 114, 32, 117, 115, 101, 114, 115, 10, 53, 49, 50, 32, 77, 97, 120, 105, 109, 117, 109, 32, 115, 105, 122, 101, 32, 102, 111, 114, 32, 87, 65, 84, 67, 72, 45, 108, 105, 115, 116, 10, 54, 48, 55, 32, 69, 110, 100, 32, 111, 102, 32, 87, 65, 84, 67, 72, 32, 108, 105, 115, 116, 10, 55, 51, 51, 32, 69, 110, 100, 32, 111, 102, 32, 77, 79, 78, 73, 84, 79, 82, 32, 108, 105, 115, 116, 10, 55, 51, 52, 32, 77, 111, 110, 105, 116, 111, 114, 32, 108, 105, 115, 116, 32, 105, 115, 32, 102, 117, 108, 108]
def wordAt (n : Nat) (row : List UInt8) : Bool := (Lib.cut row [32]).1 == codeL n
/-- the words of a numeric -/
def wordL (n : Nat) : List UInt8 := (((splitC 10 tabD).find? (wordAt n)).map fun row => (Lib.cut row [32]).2.1).getD []
/-- the box of the answer, before and behind -/
def WordI (S n : Nat) (pre : List (List UInt8)) (X : Nat → Prop) (W : World) : Prop := (∀ y ∈ pre, wordAt n y = false) ∧ W.heap[S]? = some (.cells #[.string ⟨#[]⟩] 9 (0, 0)) ∧ X S
theorem wordI_stays (S n : Nat) : Stays (WordI S n) := fun pre X V V' ⟨h1, h2, h3⟩ hl hf => ⟨h1, hf.blk h2 fun e => e h3, h3⟩
def WordX (S n : Nat) (pre : List (List UInt8)) (X : Nat → Prop) (W : World) : Prop := ∃ p0 row, pre = p0 ++ [row] ∧ (∀ y ∈ p0, wordAt n y = false) ∧ wordAt n row = true ∧ W.heap[S]? = some (.cells #[.string (bs (Lib.cut row [32]).2.1)] 9 (0, 0)) ∧ X S
theorem wordX_stays (S n : Nat) : Stays (WordX S n) := fun pre X V V' ⟨p, r, h1, h2, h3, h4, h5⟩ hl hf => ⟨p, r, h1, h2, h3, hf.blk h4 fun e => e h5, h5⟩
theorem word_none {n : Nat} (h : ∀ y ∈ splitC 10 tabD, wordAt n y = false) : wordL n = [] := by
  unfold wordL
  rw [List.find?_eq_none.2 fun x hx => by rw [h x hx]; decide]
  rfl
theorem word_some {n : Nat} {p0 r : List (List UInt8)} {row : List UInt8} (h : (p0 ++ [row]) ++ r = splitC 10 tabD) (h0 : ∀ y ∈ p0, wordAt n y = false) (h1 : wordAt n row = true) : wordL n = (Lib.cut row [32]).2.1 := by
  unfold wordL
  rw [← h, List.append_assoc, List.find?_append, List.find?_eq_none.2 fun x hx => by rw [h0 x hx]; decide]
  simp [h1]
theorem tab_len : tabD.length ≤ 2000 := by decide +kernel
set_option maxRecDepth 100000 in
set_option maxHeartbeats 8000000 in
theorem word_any (n : Nat) (h0 : 1 ≤ n) (h1 : n ≤ 999) (w : World) (hm : Mx w) (hp : PowW w) :
    Calls Tryz.prog 23 #[.int .i64 n] w fun e w' => e = .returned (.string (bs (wordL n))) ∧ RowKit.Below w.heap.size w w' := by
  have HD := Lib.hid (fun W (hb : RowKit.Below w.heap.size w W) => digitsM n h0 h1 W (PowW.below hp hb))
  have HCU := Lib.hid (fun (row : List UInt8) (hr : row.length ≤ 2000) W (hb : RowKit.Below w.heap.size w W) => by
    obtain ⟨m, hm2⟩ := mx_kept hm hb (Nat.le_refl _)
    exact Tryz.strings_Cut (bs row) ⟨#[32]⟩ m W (by rw [bs_size]; omega) hm2)
  clear hm hp
  refine (callsIn_wide (n := 20)).1 ?_
  refine callsIn_of_wp_marks Tryz.func23 rfl trivial ?_ rfl
  simp only [Tryz.ntmps23, List.size_toArray, List.length_cons, List.length_nil, Nat.reduceAdd, Nat.reduceSub, Array.replicate_succ, Array.replicate_zero, List.push_toArray, List.append_toArray, List.nil_append, List.cons_append]
  gi_wp2_with fail
  refine ⟨trivial, (calls_wide (.inl rfl) (splitc_any (bs tabD) 10 _)).mono ?_⟩
  rintro e w2 ⟨rfl, hw2⟩
  obtain ⟨N, hN⟩ : ∃ N, w.heap.size = N := ⟨_, rfl⟩
  rw [World.size_alloc, World.size_alloc, hN]
  have kN : w2.heap[N]? = some (.cells #[.int .i64 n] 3 (0, 0)) := by rw [hw2, ← hN]; exact blk_alloc (blk_alloc (blk_alloc (blk_alloc (heap_alloc_new w _) _) _) _) _
  have kR : w2.heap[N + 1]? = some (.cells #[.string ⟨#[]⟩] 9 (0, 0)) := by rw [hw2, ← hN]; exact blk_alloc (blk_alloc (blk_alloc (heap_alloc2_new w _ _) _) _) _
  have kB : SplB (N + 1 + 1) 10 (bs tabD) w2 := by
    rw [hw2]
    obtain ⟨u, hu⟩ : ∃ u, (w.alloc (.cells #[.int .i64 n] 3)).alloc (.cells #[.string ⟨#[]⟩] 9) = u := ⟨_, rfl⟩
    have hz : u.heap.size = N + 1 + 1 := by rw [← hu, ← hN]; simp
    rw [hu, ← hz]
    refine ⟨blk_alloc (blk_alloc (heap_alloc_new u _) _) _, blk_alloc (heap_alloc2_new u _ _) _, ?_⟩
    have := heap_alloc2_new (u.alloc (.cells #[.string (bs tabD)] 9)) (.cells #[.string ⟨#[10]⟩] 9) (.cells #[.int .i64 0] 3)
    rwa [World.size_alloc] at this
  have f2 : Fr (fun _ => False) w w2 := by rw [hw2]; exact (((((Fr.refl _ w).alloc _).alloc _).alloc _).alloc _).alloc _
  have z2 : w2.heap.size = N + 5 := by rw [hw2, ← hN]; simp
  have H := Lib.hid (And.intro kN (And.intro kR (And.intro kB (And.intro f2 (And.intro z2 hN)))))
  clear hw2 kN kR kB f2 z2 hN
  gi_wp2_with fail
  obtain ⟨kN, kR, kB, f2, z2, hN⟩ := H.out
  refine wpIn_rangeZ (X := fun k => k = N + 1) (Y := fun b => b = N + 1 + 1 + 1 ∨ b = N + 1 + 1 + 1 + 1) (Z := fun b => b = N + 1 + 1) (xs := splitC 10 tabD) (encs := encL) (gf := 77) (lb := #[.pointer (some ⟨N + 1 + 1 + 1, 0, none⟩), .pointer (some ⟨N + 1 + 1, 0, none⟩), .pointer (some ⟨N + 1 + 1 + 1 + 1, 0, none⟩)]) (WordI (N + 1) n) (fun c pre X1 W => c = .ret ∧ WordX (N + 1) n pre X1 W)
    rfl (by have := split_seqZ (N + 1 + 1) 10 (bs tabD) w2 (by rw [bs_size]; have := tab_len; omega) kB; rwa [bs_toList] at this) (fun k hk => ⟨by omega, fun e => by omega⟩) (fun b hb => by omega) (by omega) (enters_of Tryz.func77 (by kernel_rfl) rfl) (fun _ => rfl)
    (wordI_stays _ _) (fun c s X1 V1 V2 h a b => ⟨h.1, wordX_stays _ _ s X1 V1 V2 h.2 a b⟩) ⟨fun y hy => (by cases hy), kR, rfl⟩ ?round ?done ?stop
  case round =>
    rintro l pre x r X1 V K rb hl2 hpx hI hG hxl hF hlV hK
    dsimp only [encL]
    have HK := Lib.hid hK
    have HV := Lib.hid (And.intro hpx (And.intro hI (And.intro hG (And.intro hxl (And.intro hF (And.intro hlV hl2))))))
    clear hK hpx hI hG hxl hF hlV hl2 kN kR kB f2 z2 hN
    gi_wp2_with fail
    refine HK.out _ _ (Fr.refl _ _) fun Vb hfb hzb hsb hrb => ?_
    clear HK K
    obtain ⟨hpx, ⟨i1, i2, i3⟩, hG, hxl, hF, hlV, hl2⟩ := HV.out
    obtain ⟨kN, kR, kB, f2, z2, hN⟩ := H.out
    have hxs : x.length ≤ 2000 := by
      have hmem : x ∈ splitC 10 tabD := by rw [← hpx]; exact List.mem_append_right _ List.mem_cons_self
      have := splitC_mem17 10 _ x hmem
      have := tab_len
      omega
    have hwV : Fr (fun k => N ≤ k) w Vb := ((f2.mono (Y := fun k => N ≤ k) fun _ _ e => e.elim).trans3 hF fun k hk e => by omega).trans3 hfb fun k hk e => by omega
    have hbV : RowKit.Below w.heap.size w Vb := hwV.below (Nat.le_refl _) fun k hk e => by omega
    have kNb := hfb.blk (hF.blk kN (by omega)) (by omega : ¬ N = l)
    have k1b := hfb.blk i2 (fun e => hxl (e ▸ i3))
    have c0 := blk_cell kNb 0
    have hcut := HCU.out x hxs Vb hbV
    have HCUT := Lib.hid hcut
    have HE := Lib.hid (And.intro hpx (And.intro i1 (And.intro i3 (And.intro hG (And.intro hxl (And.intro hfb (And.intro hrb (And.intro k1b (And.intro hbV (And.intro hlV (And.intro hl2 (And.intro hzb kNb))))))))))))
    clear hpx i1 i2 i3 hG hxl hF hlV hl2 kN kR kB f2 z2 hN hxs hwV hbV kNb k1b hfb hrb hzb hsb hcut
    gi_wp2_with fail
    refine ⟨trivial, (calls_wide (.inr ⟨l, rfl⟩) HCUT.out).mono ?_⟩
    rintro e W5 ⟨rfl, nq, rfl⟩
    rw [show (bs x).data.toList = x from rfl]
    have hb5 : RowKit.Below w.heap.size w (Vb.drewN nq) := HE.out.2.2.2.2.2.2.2.2.1.trans (((Fr.refl (fun _ => False) Vb).drewN nq).below HE.out.2.2.2.2.2.2.2.2.1.size fun _ _ e => e.elim)
    have HDG := Lib.hid (HD.out _ hb5)
    have c0 : (Vb.drewN nq).cell? ⟨N, 0, none⟩ = some (.int .i64 n) := blk_cell HE.out.2.2.2.2.2.2.2.2.2.2.2.2 0
    obtain ⟨b, hbb⟩ : ∃ b, wordAt n x = b := ⟨_, rfl⟩
    have hcmp : ((Lib.cut x [32]).1 == (bs (codeL n)).toList) = b := by
      rw [← hbb, ByteArray.toList_eq]; rfl
    have HBB := Lib.hid hbb
    clear hb5 hbb
    gi_wp2_with fail
    refine ⟨trivial, (calls_wide (.inr ⟨l, rfl⟩) HDG.out).mono ?_⟩
    rintro e W6 ⟨rfl, hb6⟩
    have hf6 : Fr (fun _ => False) Vb W6 := ((Fr.refl (fun _ => False) Vb).drewN nq).trans (Fr.of_below hb6)
    have HF6 := Lib.hid hf6
    have k1 := hf6.blk HE.out.2.2.2.2.2.2.2.1 fun e => e
    have d1 := blk_free k1 0
    have e1 := blk_cell k1 0
    clear hb6 hf6 k1
    cases b with
    | true =>
      gi_wp2_with fail
      obtain ⟨hpx, i1, i3, hG, hxl, hfb, hrb, k1b, hbV, hlV, hl2, hzb, kNb⟩ := HE.out
      have hne : l ≠ N + 1 := fun e => hxl (e ▸ i3)
      have f6 := HF6.out
      refine ⟨X1, fun k hk => ⟨by have := f6.size; have := (hG k hk).1; simp; omega, fun _ => hk⟩, ((hfb.mono (Y := fun k => k = l ∨ X1 k) fun k _ e => .inl e).trans3 f6 fun _ _ e => e.elim).setCell _ (.inr i3) _, blk_other (f6.blk hrb fun e => e) _ (by simpa using hne) _, rfl, pre, x, rfl, i1, HBB.out, blk_set (f6.blk k1b fun e => e) 0 _, i3⟩
    | false =>
      gi_wp2_with fail
      obtain ⟨hpx, i1, i3, hG, hxl, hfb, hrb, k1b, hbV, hlV, hl2, hzb, kNb⟩ := HE.out
      have f6 := HF6.out
      refine ⟨X1, fun k hk => ⟨by have := f6.size; have := (hG k hk).1; omega, fun _ => hk⟩, (hfb.mono (Y := fun k => k = l ∨ X1 k) fun k _ e => .inl e).trans3 f6 fun _ _ e => e.elim, f6.blk hrb fun e => e, fun y hy => ?_, f6.blk k1b fun e => e, i3⟩
      rcases List.mem_append.1 hy with hy | hy
      · exact i1 y hy
      · rw [List.mem_singleton.1 hy]; exact HBB.out
  case done =>
    rintro D X2 V hD hxD hG hF ⟨i1, i2, i3⟩ hdef
    have g2 := blk_free i2 0
    have d2 := blk_cell i2 0
    have hw := word_none i1
    have HE := Lib.hid (And.intro hw (And.intro i2 (And.intro hF (And.intro hdef (And.intro f2 (And.intro z2 hN))))))
    clear i1 i2 hF hdef hG kN kR kB f2 hw
    gi_wp2_with fail
    obtain ⟨hw, i2, hF, hdef, f2, _, _⟩ := HE.out
    have hne : D ≠ N + 1 := by omega
    refine leaves_one D _ (blk_other hdef _ (by simpa using hne) _) fun w' hf => ⟨_, results_box rfl _ _ (N + 1) (.string ⟨#[]⟩) _ rfl ((blk_cell (hf.blk (blk_set i2 0 _) fun e => hne e.symm) 0).trans rfl) Tryz.underlying9 rfl, by rw [hw]; rfl, ?_⟩
    refine Fr.below (X := fun k => N ≤ k) ?_ (Nat.le_refl _) fun k hk e => by omega
    exact (((f2.mono (Y := fun k => N ≤ k) fun _ _ e => e.elim).trans3 hF fun k _ e => by omega).setCell _ (by show N ≤ N + 1; omega) _).trans3 hf fun k _ e => by omega
  case stop =>
    rintro D c pre r X2 V hD hpr hxD hG hF ⟨rfl, p0, row, rfl, h1, h2, h3, h4⟩ hdef
    have hne : D ≠ N + 1 := by omega
    have hw := word_some hpr h1 h2
    refine wpIn_ret ?_
    refine leaves_one D _ hdef fun w' hf => ⟨_, results_box rfl _ _ (N + 1) (.string (bs (Lib.cut row [32]).2.1)) _ rfl ((blk_cell (hf.blk h3 fun e => hne e.symm) 0).trans rfl) Tryz.underlying9 rfl, by rw [hw], ?_⟩
    refine Fr.below (X := fun k => N ≤ k) ?_ (Nat.le_refl _) fun k hk e => by omega
    exact ((f2.mono (Y := fun k => N ≤ k) fun _ _ e => e.elim).trans3 hF fun k _ e => by omega).trans3 hf fun k _ e => by omega
end Go.Proofs.YtdikpbldfnkgdaaGreatDoor
end
section
/- Layer 14: Told. -/
namespace Go.Proofs.YtdikpbldfnkgdaaGreatDoor
set_option linter.unusedVariables false
set_option linter.unusedSimpArgs false
open Go Go.RowKit

/-- a numeric with its words -/
def toldL (server whom : List UInt8) (n : Nat) (ps : List (List UInt8)) : List UInt8 := numL server whom n (ps ++ [wordL n])
theorem cut_len : ∀ (s sep : List UInt8), (Lib.cut s sep).2.1.length ≤ s.length := fun s sep => by
  unfold Lib.cut
  split
  all_goals simp
theorem word_len (n : Nat) : (wordL n).length ≤ 2000 := by
  unfold wordL
  cases h : (splitC 10 tabD).find? (wordAt n) with
  | none => simp
  | some row =>
    have h1 := splitC_mem17 10 _ row (List.mem_of_find?_eq_some h)
    have h2 := cut_len row [32]
    have := tab_len
    simp; omega
theorem two_rows2 (w : World) (x : List UInt8) (v : Value) (N : Nat) (hN : w.heap.size = N) :
    ((w.alloc (.cells #[.string (bs x)] 9)).alloc (.cells #[v, .slice (some ⟨N, 0, none⟩) 1 1] 24)).cell? ⟨N + 1, 0, none⟩ = some v ∧
    ((w.alloc (.cells #[.string (bs x)] 9)).alloc (.cells #[v, .slice (some ⟨N, 0, none⟩) 1 1] 24)).cell? ⟨N + 1, 1, none⟩ = some (.slice (some ⟨N, 0, none⟩) 1 1) ∧
    ((w.alloc (.cells #[.string (bs x)] 9)).alloc (.cells #[v, .slice (some ⟨N, 0, none⟩) 1 1] 24)).cell? ⟨N, 0, none⟩ = some (.string (bs x)) := by
  have h1 := heap_alloc_new (w.alloc (.cells #[.string (bs x)] 9)) (.cells #[v, .slice (some ⟨N, 0, none⟩) 1 1] 24)
  rw [World.size_alloc, hN] at h1
  have h2 := blk_alloc (heap_alloc_new w (.cells #[.string (bs x)] 9)) (.cells #[v, .slice (some ⟨N, 0, none⟩) 1 1] 24)
  rw [hN] at h2
  exact ⟨blk_cell h1 0, blk_cell h1 1, blk_cell h2 0⟩
theorem conc_rows2 (w1 : World) (x : List UInt8) (A : Option Addr) (c : Nat) (ps : List (List UInt8)) (hR : ReadsT w1 A ps) (hl : ps.length ≤ 14) :
    Calls Tryz.prog 22 #[.slice (some ⟨w1.heap.size + 1, 0, none⟩) 2 2] ((w1.alloc (.cells #[.string (bs x)] 9)).alloc (.cells #[.slice A ps.length c, .slice (some ⟨w1.heap.size, 0, none⟩) 1 1] 24)) fun e w' => ∃ A2 c2, e = .returned (.slice A2 (ps ++ [x]).length c2) ∧ ReadsT w' A2 (ps ++ [x]) ∧ Below w1.heap.size w1 w' := by
  obtain ⟨h1, h2, h3⟩ := two_rows2 w1 x (.slice A ps.length c) w1.heap.size rfl
  obtain ⟨W, hW⟩ : ∃ W, ((w1.alloc (.cells #[.string (bs x)] 9)).alloc (.cells #[.slice A ps.length c, .slice (some ⟨w1.heap.size, 0, none⟩) 1 1] 24)) = W := ⟨_, rfl⟩
  have hs : W.heap.size = w1.heap.size + 2 := by rw [← hW]; simp
  have hb : Below w1.heap.size w1 W := by rw [← hW]; exact ((Below.refl _ w1).alloc (Nat.le_refl _) _).alloc (by simp) _
  rw [hW] at h1 h2 h3 ⊢
  have hr1 : ReadsT W (some ⟨w1.heap.size, 0, none⟩) [x] := fun _ => ⟨_, _, rfl, by omega, fun j hj => by
    obtain rfl : j = 0 := by simpa using hj
    exact h3⟩
  refine (concatM (w1.heap.size + 1) 2 A (some ⟨w1.heap.size, 0, none⟩) c 1 ps [x] W h1 h2 (readsT_below hR hb (Nat.le_refl _)) hr1 (by simp) (by simp; omega) (by omega)).mono ?_
  rintro e w' ⟨v, rfl, ho, hb2⟩
  obtain ⟨A2, c2, rfl⟩ := row_slice ho
  exact ⟨A2, c2, rfl, reads_ownT ho, hb.trans (hb2.mono (by omega))⟩
set_option maxRecDepth 100000 in
set_option maxHeartbeats 8000000 in
theorem told_any (server whom : List UInt8) (n : Nat) (A : Option Addr) (c : Nat) (ps : List (List UInt8)) (w : World) (hR : ReadsT w A ps) (hm : Mx w) (hp : PowW w) (h0 : 1 ≤ n) (h1 : n ≤ 999) (h2 : ps.length ≤ 13) (h3 : server.length ≤ 1000000) (h4 : whom.length ≤ 90000) (h5 : ∀ p ∈ ps, p.length ≤ 90000) :
    Calls Tryz.prog 10 #[.string (bs server), .int .i64 n, .string (bs whom), .slice A ps.length c] w fun e w' => e = .returned (.string (bs (toldL server whom n ps))) ∧ Below w.heap.size w w' := by
  have HW := Lib.hid (word_any n h0 h1 w hm hp)
  have HC := Lib.hid (fun W (hb : Below w.heap.size w W) => conc_rows2 W (wordL n) A c ps (readsT_below hR hb (Nat.le_refl _)) (by omega))
  have HN := Lib.hid (fun A2 c2 W (hb : Below w.heap.size w W) (hr : ReadsT W A2 (ps ++ [wordL n])) => numericM server whom n A2 c2 (ps ++ [wordL n]) W hr (mx_kept hm hb (Nat.le_refl _)) (PowW.below hp hb) h0 h1 (by simp; omega) h3 h4 (fun p hp2 => by
    rcases List.mem_append.1 hp2 with hp2 | hp2
    · exact h5 p hp2
    · rw [List.mem_singleton.1 hp2]; have := word_len n; omega))
  obtain ⟨wd, hwd⟩ : ∃ wd, wordL n = wd := ⟨_, rfl⟩
  unfold toldL
  rw [hwd] at HW HC HN ⊢
  obtain ⟨qs, hqs⟩ : ∃ qs, ps ++ [wd] = qs := ⟨_, rfl⟩
  rw [hqs] at HC HN ⊢
  clear hR hm hp hwd hqs
  go_enter Tryz.func10, Tryz.ntmps10
  go_wp2_with fail
  refine HW.out.mono ?_
  rintro e w1 ⟨rfl, hb1⟩
  have HB1 := Lib.hid hb1
  have HC1 := Lib.hid (HC.out w1 hb1)
  clear hb1
  go_wp2_with fail
  refine HC1.out.mono ?_
  rintro e w2 ⟨A2, c2, rfl, hr2, hb2⟩
  have HB2 := Lib.hid (HB1.out.trans (hb2.mono HB1.out.size))
  have HN2 := Lib.hid (HN.out A2 c2 w2 HB2.out hr2)
  clear hr2 hb2
  go_wp2_with fail
  refine HN2.out.mono ?_
  rintro e w3 ⟨rfl, hb3⟩
  have HB3 := Lib.hid (HB2.out.trans (hb3.mono HB2.out.size))
  clear hb3
  go_wp2_with fail
  go_ret
  exact ⟨rfl, HB3.out⟩
end Go.Proofs.YtdikpbldfnkgdaaGreatDoor
end
section
/- Layer 17: what a connection tells of itself, by value; Ready, param; the law's great. -/
namespace Go.Proofs.YtdikpbldfnkgdaaGreatDoor
set_option linter.unusedVariables false
set_option linter.unusedSimpArgs false
open Go Go.RowKit

/-- what a connection told of itself -/
def sgn (k : Int) (t : Bool) (p n u r : ByteArray) (d : Bool) : Value := .agg #[.int .i64 k, .bool t, .string p, .string n, .string u, .string r, .bool d]
theorem ready_any (k : Int) (t : Bool) (p n u r : ByteArray) (d : Bool) (w : World) :
    Calls Tryz.prog 9 #[sgn k t p n u r d] w fun e w' => e = .returned (.bool (!n.toList.isEmpty && !u.toList.isEmpty && !t && !d)) ∧ Below w.heap.size w w' := by
  unfold sgn
  obtain ⟨y, hy⟩ : ∃ y, n.toList.isEmpty = y := ⟨_, rfl⟩
  obtain ⟨z, hz⟩ : ∃ z, u.toList.isEmpty = z := ⟨_, rfl⟩
  rw [hy, hz]
  cases y <;> cases z <;> cases t <;> cases d
  all_goals
    go_enter Tryz.func9, Tryz.ntmps9
    go_wp2_with fail
    go_ret
    exact ⟨ret_bool (by simp), by first | exact Below.refl _ _ | exact (Below.refl _ _).alloc (Nat.le_refl _) _⟩
/-- a parameter -/
theorem mparam_any (A : Option Addr) (c : Nat) (ps : List (List UInt8)) (i : Nat) (w : World) (hR : ReadsT w A ps) (hl : ps.length ≤ 1000000) :
    Calls Tryz.prog 42 #[.agg #[.slice none 0 0, .string ⟨#[]⟩, .string ⟨#[]⟩, .slice A ps.length c], .int .i64 i] w fun e w' => e = .returned (.string (bs (ps.getD i []))) ∧ Below w.heap.size w w' := by
  by_cases h : i < ps.length
  · obtain ⟨g, o, rfl, hg, hc⟩ := hR (by omega)
    have hci := hc i h
    have hcell : ∀ T, (w.alloc (.cells #[.slice none 0 0, .string ⟨#[]⟩, .string ⟨#[]⟩, .slice (some ⟨g, o, none⟩) ps.length c] T)).cell? ⟨g, o + i, none⟩ = some (.string (bs ps[i])) := fun T => ((Below.refl _ w).alloc (Nat.le_refl _) _ |>.cell (p := ⟨g, o + i, none⟩) hg).trans hci
    have hget : ps.getD i [] = ps[i] := by rw [List.getD_eq_getElem?_getD, List.getElem?_eq_getElem h]; rfl
    rw [hget]
    clear hc hget hR
    go_enter Tryz.func42, Tryz.ntmps42
    go_wp2_with fail
    go_ret
    exact ⟨rfl, (Below.refl _ _).alloc (Nat.le_refl _) _⟩
  · have hget : ps.getD i [] = [] := by rw [List.getD_eq_getElem?_getD, List.getElem?_eq_none (by omega)]; rfl
    rw [hget]
    have hq : (ps.length : Int) ≤ i := by omega
    clear hget hR h
    go_enter Tryz.func42, Tryz.ntmps42
    go_wp2_with fail
    go_ret
    exact ⟨rfl, (Below.refl _ _).alloc (Nat.le_refl _) _⟩
theorem param_any (A : Option Addr) (c : Nat) (ps : List (List UInt8)) (i : Nat) (w : World) (hR : ReadsT w A ps) (hl : ps.length ≤ 1000000) :
    Calls Tryz.prog 17 #[.slice A ps.length c, .int .i64 i] w fun e w' => e = .returned (.string (bs (ps.getD i []))) ∧ Below w.heap.size w w' := by
  have HM := Lib.hid (fun W h => mparam_any A c ps i W h hl)
  have HR := Lib.hid hR
  clear hR
  go_enter Tryz.func17, Tryz.ntmps17
  go_wp2_with fail
  refine (HM.out w HR.out).mono ?_
  rintro e w1 ⟨rfl, hb⟩
  have HB := Lib.hid hb
  clear hb
  go_wp2_with fail
  go_ret
  exact ⟨rfl, HB.out⟩
end Go.Proofs.YtdikpbldfnkgdaaGreatDoor
end
