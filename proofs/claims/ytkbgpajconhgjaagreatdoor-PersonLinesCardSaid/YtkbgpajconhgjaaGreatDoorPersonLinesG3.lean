/- Texts of this proof, one behind the other. -/
import Derived.Test.YtkbgpajconhgjaaGreatDoorPersonLinesG1
import Derived.Test.YtkbgpajconhgjaaGreatDoorPersonLinesG2
import Derived.Below
import Derived.Laws.Rows
import Derived.RangeFuncNested
import Derived.Deep.Draws
import Derived.Shelf.Strings.Replace
import Derived.Shelf.Strings.Search3
import Derived.RangeFuncBound
import Derived.RangeFuncCalls
import Derived.RangeFuncLeaves
set_option linter.unusedVariables false
set_option linter.unusedSimpArgs false
section
/- valid.Key, Text, Clean and the answers' ones. -/
namespace Go.Proofs.YtkbgpajconhgjaaGreatDoor
open Go.RowKit





/-! Text -/
def brkB (c : UInt8) : Bool := (⟨#[0, 13, 10]⟩ : ByteArray).data.toList.contains c
def textL (l : List UInt8) : Bool := !l.any brkB
theorem inB_false {l : List UInt8} {c : UInt8} : inB l c = false ↔ c ∉ l := by
  unfold inB; rw [Bool.eq_false_iff, ne_eq, List.contains_iff_mem]
theorem textL_iff {l : List UInt8} : textL l = true ↔ ∀ x ∈ l, brkB x = false := by
  unfold textL
  rw [Bool.not_eq_true', List.any_eq_false]
  simp only [Bool.not_eq_true]
theorem brkB_iff {x : UInt8} : brkB x = false ↔ x ≠ 0 ∧ x ≠ 13 ∧ x ≠ 10 := by
  unfold brkB
  rw [Bool.eq_false_iff, ne_eq, List.contains_iff_mem]
  simp
theorem text_three (l : List UInt8) : textL l = (!inB l 0 && !inB l 10 && !inB l 13) := by
  rw [Bool.eq_iff_iff, textL_iff]
  simp only [Bool.and_eq_true, Bool.not_eq_true', inB_false]
  constructor
  · intro h
    exact ⟨⟨fun h0 => (brkB_iff.1 (h 0 h0)).1 rfl, fun h0 => (brkB_iff.1 (h 10 h0)).2.2 rfl⟩, fun h0 => (brkB_iff.1 (h 13 h0)).2.1 rfl⟩
  · rintro ⟨⟨h0, h10⟩, h13⟩ x hx
    exact brkB_iff.2 ⟨fun e => h0 (e ▸ hx), fun e => h13 (e ▸ hx), fun e => h10 (e ▸ hx)⟩
theorem text_v (s : ByteArray) (w : World) (hs : s.size ≤ 1000000) :
    Calls Tryz.prog 66 #[.string s] w fun e w' => e = .returned (.bool (textL s.data.toList)) ∧ Below w.heap.size w w' := by
  obtain ⟨b, hb⟩ : ∃ b, (s.data.toList.any fun x => (⟨#[0, 13, 10]⟩ : ByteArray).data.toList.contains x) = b := ⟨_, rfl⟩
  have ht : textL s.data.toList = !b := by rw [← hb]; rfl
  have HB := Lib.hid hb
  have HT := Lib.hid ht
  clear hb ht
  go_enter Tryz.func66, Tryz.ntmps66
  go_wp2_with fail
  refine (containsAnyB s ⟨#[0, 13, 10]⟩ _ hs (by decide) (by decide) (by unfold asciiL; decide)).mono ?_
  rintro e w1 ⟨rfl, q⟩
  rw [HB.out]
  go_wp2_with fail
  go_ret
  exact ⟨ret_bool (by rw [HT.out]), q⟩


/-! Clean -/
theorem ba_take' (s : ByteArray) (k : Nat) (h : k < s.size) : s.data.toList.take (k + 1) = s.data.toList.take k ++ [s[k]] := by
  rw [List.take_succ_eq_append_getElem (by simpa using h)]; rfl
def cleanL (l : List UInt8) : List UInt8 := l.filter fun c => !brkB c
theorem clean_text {l : List UInt8} (h : textL l = true) : cleanL l = l := by
  unfold cleanL
  rw [List.filter_eq_self]
  intro c hc
  rw [textL_iff.1 h c hc]; rfl
theorem text_clean (l : List UInt8) : textL (cleanL l) = true := by
  rw [textL_iff]
  intro x hx
  unfold cleanL at hx
  have := (List.mem_filter.1 hx).2
  simpa using this
theorem text_take {l : List UInt8} (h : textL l = true) (n : Nat) : textL (l.take n) = true := by
  rw [textL_iff] at h ⊢
  exact fun x hx => h x (List.mem_of_mem_take hx)
theorem clean_snoc (l : List UInt8) (c : UInt8) : cleanL (l ++ [c]) = cleanL l ++ (if brkB c then [] else [c]) := by
  unfold cleanL
  rw [List.filter_append]
  cases h : brkB c <;> simp [h]
theorem clean_len (l : List UInt8) : (cleanL l).length ≤ l.length := List.length_filter_le _ _
theorem clean_next (s : ByteArray) (k : Nat) (h : k < s.size) : cleanL (s.data.toList.take (k + 1)) = cleanL (s.data.toList.take k) ++ (if brkB s[k] then [] else [s[k]]) := by
  rw [ba_take' s k h, clean_snoc]
/-- how many bytes are kept -/
def mostN (n : Nat) (most : Int) : Nat := (max 0 (min (n : Int) most)).toNat
def u8d (l : List UInt8) : List Value := l.map fun b => Value.int .u8 b.toNat
theorem Tryz.infoU8c : (Tryz.prog.info? 5).map (fun i => (i.zero, i.size, i.bytes)) = some (some (.int .u8 0), 1, 1) := by kernel_rfl
theorem idx_brk (c : UInt8) : (0 ≤ Lib.indexByte (⟨#[0, 13, 10]⟩ : ByteArray).data.toList c) ↔ brkB c = true := by
  unfold brkB
  rw [Lib.contains_iff_indexByte, decide_eq_true_iff]

set_option maxRecDepth 100000 in
set_option maxHeartbeats 4000000 in
theorem unbroken_any (s : ByteArray) (w : World) (hs : s.size ≤ 1000000) :
    Calls Tryz.prog 67 #[.string s] w fun e w' => e = .returned (.string (bs (cleanL s.data.toList))) ∧ Below w.heap.size w w' := by
  obtain ⟨i0, hi, hz0, hz1, hz2⟩ := info_parts Tryz.infoU8c
  go_enter Tryz.func67, Tryz.ntmps67
  go_wp2_with (at_make; refine wpList_make_own _ rfl _ _ 66 rfl w.heap.size 5 i0 (.int .u8 0) 1 Tryz.underlying66 hi hz0 hz1 .i64 .i64 (s.size : Int) s.size rfl rfl rfl (by rw [hz2]; omega) (by unfold maxLen; omega) (Nat.le_refl _) ?_; intro w1 hown hgrow)
  have hB0 : Below w.heap.size w w1 := (Below.refl _ _).grown hgrow (Nat.le_refl _) (by intro k hk; cases hk)
  have hb0 := hgrow.size
  clear hgrow
  go_loopw [3, 4, 10] (fun v _ i wr => ∃ k : Nat, i = .int .i64 k ∧ k ≤ s.size ∧ wr.ownsRow w.heap.size 5 1 v (cleanL (s.data.toList.take k)).length (u8d (cleanL (s.data.toList.take k))) ∧ Below w.heap.size w wr ∧ w.heap.size ≤ wr.heap.size) (fun _ _ i _ => s.size - (Go.RowKit.intOf i).toNat)
  case atStart => exact ⟨0, rfl, Nat.zero_le _, hown, hB0, hb0⟩
  case round =>
    clear hown hB0 hb0
    obtain ⟨k, rfl, hk, hown, hB, hb⟩ := hrel
    by_cases hlt : k < s.size
    · have hnx := clean_next s k hlt
      have hl : (cleanL (s.data.toList.take k)).length ≤ 1000000 := by
        have h1 := clean_len (s.data.toList.take k)
        have h2 : (s.data.toList.take k).length ≤ k := List.length_take_le _ _
        omega
      obtain ⟨o, ho⟩ : ∃ o, cleanL (s.data.toList.take k) = o := ⟨_, rfl⟩
      rw [ho] at hnx hown hl
      have hix := idx_brk s[k]
      have hback : ((s[k].toNat : Int)).toNat.toUInt8 = s[k] := by simp
      cases hbr : brkB s[k] with
      | true =>
        rw [hbr] at hnx hix
        have hge : 0 ≤ Lib.indexByte (⟨#[0, 13, 10]⟩ : ByteArray).data.toList s[k] := hix.2 rfl
        have HN := Lib.hid hnx
        clear hnx hix hbr ho
        go_wp2_with (go_at_call 85; refine (idxByte _ _ _).mono ?_; rintro e w' ⟨rfl, rfl⟩; rw [hback])
        go_roundw
        case rel => exact ⟨k + 1, by go_num, by omega, by rw [HN.out]; simpa using hown, hB, hb⟩
        case measure => simp [Go.RowKit.intOf]; omega
      | false =>
        rw [hbr] at hnx hix
        have hge : Lib.indexByte (⟨#[0, 13, 10]⟩ : ByteArray).data.toList s[k] < 0 := by
          have : ¬ 0 ≤ Lib.indexByte (⟨#[0, 13, 10]⟩ : ByteArray).data.toList s[k] := fun h => Bool.noConfusion (hix.1 h)
          omega
        have HN := Lib.hid hnx
        clear hnx hix hbr ho
        go_wp2_with (first | (go_at_call 85; refine (idxByte _ _ _).mono ?_; rintro e w' ⟨rfl, rfl⟩; rw [hback]) | (at_builtin; refine wpList_app_one rfl _ _ 66 rfl w.heap.size 5 i0 (.int .u8 0) 1 1 Tryz.underlying66 hi hz0 hz1 hz2 rfl (by decide) _ _ _ rfl hown #[.int .u8 s[k].toNat] rfl rfl (by intro u hu; simp at hu; subst hu; rfl) (by omega) (by decide) hB hb ?_; intro v1 w1 hown1 hB1 hb1))
        go_roundw
        case rel => exact ⟨k + 1, by go_num, by omega, by rw [HN.out]; simpa [u8d] using hown1, hB1, hb1⟩
        case measure => simp [Go.RowKit.intOf]; omega
    · obtain rfl : k = s.size := by omega
      have ht : s.data.toList.take s.size = s.data.toList := List.take_of_length_le (by simp)
      rw [ht] at hown
      have hconv := conv_owned (P := Tryz.prog) wr 66 9 5 w.heap.size _ (cleanL s.data.toList) Tryz.underlying66 Tryz.underlying5 Tryz.underlying9 hown
      go_wp2_with fail
      go_ret
      exact ⟨rfl, hB⟩

/-- what is cleaned -/
def cleanV (s : ByteArray) (most : Int) : ByteArray := bs ((cleanL s.data.toList).take most.toNat)
theorem most_of (n : Nat) (most : Int) : ∃ m : Nat, max (0 : Int) (min (n : Int) most) = m ∧ m ≤ n ∧ ∀ l : List UInt8, l.length = n → l.take m = l.take most.toNat := by
  by_cases h1 : most < 0
  · exact ⟨0, by omega, by omega, fun l _ => by rw [show most.toNat = 0 by omega]⟩
  · by_cases h2 : most ≤ n
    · exact ⟨most.toNat, by omega, by omega, fun l _ => rfl⟩
    · exact ⟨n, by omega, Nat.le_refl _, fun l hl => by rw [List.take_of_length_le (by omega), List.take_of_length_le (by omega)]⟩
set_option maxRecDepth 100000 in
set_option maxHeartbeats 4000000 in
theorem clean_v (s : ByteArray) (most : Int) (w : World) (hs : s.size ≤ 1000000) :
    Calls Tryz.prog 53 #[.string s, .int .i64 most] w fun e w' => e = .returned (.string (cleanV s most)) ∧ Below w.heap.size w w' := by
  cases ht : textL s.data.toList with
  | true =>
    obtain ⟨m, hm, hml, htk⟩ := most_of s.size most
    have hv : (s.extract 0 m) = cleanV s most := ba_ext (by
      unfold cleanV
      rw [bs_toList, clean_text ht, ← htk _ (by simp), Lib.extract_data]; simp)
    have HT := Lib.hid ht
    have HV := Lib.hid hv
    have hm0 : (m : Int) ≤ s.size := by omega
    clear ht hv htk
    go_enter Tryz.func53, Tryz.ntmps53
    go_wp2_with fail
    refine (text_v _ _ hs).mono ?_
    rintro e w1 ⟨rfl, q⟩
    rw [HT.out]
    go_wp2_with fail
    go_ret
    exact ⟨ret_str (by first | exact HV.out | (rw [← HV.out]; congr 1; omega) | (rw [← HV.out])), q⟩
  | false =>
    have hcl : (bs (cleanL s.data.toList)).size = (cleanL s.data.toList).length := by simp
    have hcs : (bs (cleanL s.data.toList)).size ≤ 1000000 := by
      rw [hcl]
      have := clean_len s.data.toList
      have h2 : s.data.toList.length = s.size := by simp
      omega
    obtain ⟨c, hc⟩ : ∃ c, bs (cleanL s.data.toList) = c := ⟨_, rfl⟩
    have hcd : c.data.toList = cleanL s.data.toList := by rw [← hc]; simp
    rw [hc] at hcs
    obtain ⟨m, hm, hml, htk⟩ := most_of c.size most
    have hv : (c.extract 0 m) = cleanV s most := ba_ext (by
      unfold cleanV
      rw [bs_toList, ← hcd, ← htk _ (by simp), Lib.extract_data]; simp)
    have HT := Lib.hid ht
    have HV := Lib.hid hv
    have HC := Lib.hid hc
    have hm0 : (m : Int) ≤ c.size := by omega
    clear ht hv htk hcl hc hcd
    go_enter Tryz.func53, Tryz.ntmps53
    go_wp2_with fail
    refine (text_v _ _ hs).mono ?_
    rintro e w1 ⟨rfl, q⟩
    rw [HT.out]
    go_wp2_with fail
    refine (unbroken_any _ _ hs).mono ?_
    rintro e w2 ⟨rfl, q2⟩
    rw [HC.out]
    go_wp2_with fail
    go_ret
    exact ⟨ret_str (by first | exact HV.out | (rw [← HV.out]; congr 1; omega) | (rw [← HV.out])), q.trans (q2.mono q.size)⟩
end Go.Proofs.YtkbgpajconhgjaaGreatDoor
end
section
/- What a call leaves as it lay: all blocks but those of X, and new ones. A block of cells, known whole. -/
namespace Go.Proofs.YtkbgpajconhgjaaGreatDoor
open Go Go.RowKit

structure Fr (X : Nat → Prop) (w w' : World) : Prop where
  os : w'.os = w.os
  tape : w'.tape = w.tape
  output : w'.output = w.output
  size : w.heap.size ≤ w'.heap.size
  block : ∀ k, k < w.heap.size → ¬ X k → w'.heap[k]? = w.heap[k]?
section
variable {X Y : Nat → Prop} {a b c w w' : World}
theorem Fr.refl (X : Nat → Prop) (w : World) : Fr X w w := ⟨rfl, rfl, rfl, Nat.le_refl _, fun _ _ _ => rfl⟩
theorem Fr.trans (h : Fr X a b) (k : Fr X b c) : Fr X a c :=
  ⟨k.os.trans h.os, k.tape.trans h.tape, k.output.trans h.output, Nat.le_trans h.size k.size, fun i hi hx => (k.block i (Nat.lt_of_lt_of_le hi h.size) hx).trans (h.block i hi hx)⟩
theorem Fr.mono (h : Fr X w w') (hx : ∀ k, k < w.heap.size → X k → Y k) : Fr Y w w' := ⟨h.os, h.tape, h.output, h.size, fun k hk hy => h.block k hk fun e => hy (hx k hk e)⟩
theorem Fr.drew (h : Fr X a w) : Fr X a w.drew := ⟨h.os, h.tape, h.output, h.size, h.block⟩
theorem Fr.drewN (h : Fr X a w) : ∀ n, Fr X a (w.drewN n)
  | 0 => h
  | n + 1 => ⟨h.os, h.tape, h.output, h.size, h.block⟩
theorem Fr.alloc (h : Fr X a w) (o : Obj) : Fr X a (w.alloc o) :=
  ⟨h.os, h.tape, h.output, by rw [World.size_alloc]; have := h.size; omega, fun k hk hx => (Below.heap_alloc w o k (Nat.lt_of_lt_of_le hk h.size)).trans (h.block k hk hx)⟩
theorem Fr.setCell (h : Fr X a w) (p : Addr) (hp : X p.block) (u : Value) : Fr X a (w.setCell p u) := by
  refine ⟨?_, ?_, ?_, ?_, fun k hk hx => (Below.heap_setCell w p u k fun e => hx (e ▸ hp)).trans (h.block k hk hx)⟩
  all_goals have B := (Below.refl 0 w).setCell (p := p) (Nat.zero_le _) u
  · exact B.os.trans h.os
  · exact B.tape.trans h.tape
  · exact B.output.trans h.output
  · exact Nat.le_trans h.size B.size
theorem Fr.setNew (h : Fr X a w) (p : Addr) (hp : a.heap.size ≤ p.block) (u : Value) : Fr X a (w.setCell p u) := by
  refine ⟨?_, ?_, ?_, ?_, fun k hk hx => (Below.heap_setCell w p u k fun e => by omega).trans (h.block k hk hx)⟩
  all_goals have B := (Below.refl 0 w).setCell (p := p) (Nat.zero_le _) u
  · exact B.os.trans h.os
  · exact B.tape.trans h.tape
  · exact B.output.trans h.output
  · exact Nat.le_trans h.size B.size
theorem Fr.of_below (h : Below w.heap.size w w') : Fr X w w' := ⟨h.os, h.tape, h.output, h.size, fun k hk _ => h.block k hk⟩
theorem Fr.below (h : Fr X w w') {B : Nat} (hB : B ≤ w.heap.size) (hx : ∀ k, k < w.heap.size → X k → B ≤ k) : Below B w w' :=
  ⟨h.os, h.tape, h.output, h.size, fun k hk => h.block k (Nat.lt_of_lt_of_le hk hB) fun e => by have := hx k (Nat.lt_of_lt_of_le hk hB) e; omega⟩
theorem Fr.grown {row : Option Nat} (h : Fr X a w) (hg : w.grownBy w' row) (hr : ∀ k, row = some k → a.heap.size ≤ k ∨ X k) : Fr X a w' :=
  ⟨hg.os.trans h.os, hg.tape.trans h.tape, hg.output.trans h.output, Nat.le_trans h.size hg.size, fun k hk hx => (hg.block k (Nat.lt_of_lt_of_le hk h.size) fun e => by rcases hr k e.symm with h | h; omega; exact hx h).trans (h.block k hk hx)⟩
theorem Fr.cell (h : Fr X w w') {p : Addr} (hp : p.block < w.heap.size) (hx : ¬ X p.block) : w'.cell? p = w.cell? p := World.cell?_of_block (w := w) (h.block p.block hp hx)
theorem Fr.frozen (h : Fr X w w') {p : Addr} (hp : p.block < w.heap.size) (hx : ¬ X p.block) : w'.frozen? p = w.frozen? p := World.frozen?_of_block (w := w) (h.block p.block hp hx)
theorem Fr.blk (h : Fr X w w') {k : Nat} {o : Obj} (hk : w.heap[k]? = some o) (hx : ¬ X k) : w'.heap[k]? = some o := (h.block k (Array.getElem?_eq_some_iff.1 hk).1 hx).trans hk
/-- no block of cells was made anything else: what a round of a loop over a function owes -/
theorem Fr.keeps (h : Fr X w w') (hx : ∀ k, k < w.heap.size → X k → ∃ o, w.heap[k]? = some o ∧ o.isCells = true) (B : Nat) : KeepsFrom B w w' :=
  ⟨h.size, fun k o _ ho hc => h.blk ho fun e => by
    obtain ⟨o2, h2, h3⟩ := hx k (Array.getElem?_eq_some_iff.1 ho).1 e
    rw [ho] at h2; cases h2; rw [hc] at h3; cases h3⟩
end
section
variable {W : World} {B : Nat} {cs : Array Value} {T : TypeId}
theorem blk_lt {o : Obj} (h : W.heap[B]? = some o) : B < W.heap.size := (Array.getElem?_eq_some_iff.1 h).1
theorem blk_cell (h : W.heap[B]? = some (.cells cs T (0, 0))) (j : Nat) : W.cell? ⟨B, j, none⟩ = cs[j]? := cell_of_row W B j cs T _ h
theorem blk_free (h : W.heap[B]? = some (.cells cs T (0, 0))) (j : Nat) : W.frozen? ⟨B, j, none⟩ = false := frozen_of_row W B j cs T h
theorem blk_set (h : W.heap[B]? = some (.cells cs T (0, 0))) (j : Nat) (v : Value) : (W.setCell ⟨B, j, none⟩ v).heap[B]? = some (.cells (cs.setIfInBounds j v) T (0, 0)) := heap_setCell_same W B j cs T v h
theorem blk_other {o : Obj} (h : W.heap[B]? = some o) (p : Addr) (hp : B ≠ p.block) (v : Value) : (W.setCell p v).heap[B]? = some o := (heap_setCell_other W p B v hp).trans h
theorem blk_alloc {o : Obj} (h : W.heap[B]? = some o) (o' : Obj) : (W.alloc o').heap[B]? = some o := (Below.heap_alloc W o' B (blk_lt h)).trans h
theorem blk_drew {o : Obj} (h : W.heap[B]? = some o) : W.drew.heap[B]? = some o := h
end
/-- a row lies as it lay, if its block does -/
theorem row_same {w w' : World} {base : Nat} {e : TypeId} {size : Nat} {v : Value} {n : Nat} {xs : List Value} (h : w.ownsRow base e size v n xs) (hs : ∀ g, v.ownBlock = some g → w'.heap[g]? = w.heap[g]?) : w'.ownsRow base e size v n xs := by
  obtain ⟨h1, h2⟩ := h
  refine ⟨h1, ?_⟩
  rcases h2 with h2 | ⟨g, cap, cur, rfl, h3, h4, h5⟩
  · exact .inl h2
  · exact .inr ⟨g, cap, cur, rfl, h3, (hs g rfl).trans h4, h5⟩
theorem row_slice {w : World} {base : Nat} {e : TypeId} {size : Nat} {v : Value} {n : Nat} {xs : List Value} (h : w.ownsRow base e size v n xs) : ∃ A c, v = .slice A n c := by
  rcases h.2 with ⟨rfl, rfl⟩ | ⟨g, cap, cur, rfl, _⟩
  · exact ⟨_, _, rfl⟩
  · exact ⟨_, _, rfl⟩
/-- what is no cells turned: blocks of cells lie as they lay -/
theorem put_blk {W : World} {D k : Nat} {o o' : Obj} {cs : Array Value} {T : TypeId} (hD : W.heap[D]? = some o) (ho : o.isCells = false) (hk : W.heap[k]? = some (.cells cs T (0, 0))) : (W.putObj D o').heap[k]? = some (.cells cs T (0, 0)) :=
  (World.putObj_heap_other fun e => by subst e; rw [hk] at hD; cases hD; cases ho).trans hk
theorem put_row {W : World} {D : Nat} {o o' : Obj} (hD : W.heap[D]? = some o) (ho : o.isCells = false) {base : Nat} {e : TypeId} {size : Nat} {v : Value} {n : Nat} {xs : List Value} (h : W.ownsRow base e size v n xs) : (W.putObj D o').ownsRow base e size v n xs := by
  obtain ⟨h1, h2⟩ := h
  refine ⟨h1, ?_⟩
  rcases h2 with h2 | ⟨g, cap, cur, rfl, h3, h4, h5⟩
  · exact .inl h2
  · exact .inr ⟨g, cap, cur, rfl, h3, put_blk hD ho h4, h5⟩
theorem put_below {W : World} {D B : Nat} {o' : Obj} (hD : B ≤ D) (hB : B ≤ W.heap.size) : Below B W (W.putObj D o') := (Below.refl B W).grown (grownBy_putObj' W D o') hB (fun k e => by cases e; exact hD)
/-- a result that lies in a cell -/
theorem results_box {P : Program} {fn : Func} {p : Tmp} {ty : TypeId} (h : fn.results = #[.cell p ty]) (tmps : Array Value) (w : World) (g : Nat) (v : Value) (d : TypeDesc) (hp : tmps.getD p undef = .pointer (some ⟨g, 0, none⟩)) (hc : w.cell? ⟨g, 0, none⟩ = some v)
    (hu : P.underlying ty = some d) (hd : (match d with | .struct _ | .array _ _ => true | _ => false) = false) : (results fn tmps).run P w = .ok v w := by
  have hp' : tmps[p]?.getD undef = .pointer (some ⟨g, 0, none⟩) := by simpa using hp
  have hagg : (isAgg ty).run P w = .ok false w := by
    unfold isAgg
    rw [Sem.run_bind, run_underlying hu w]
    cases d <;> simp_all
  simp [results, h, hp', asAddr, loadVar, Sem.run_bind, hagg, go_sem, hc]
/-- block B holds these cells, whatever is laid besides -/
theorem blk_own {β : Type} (B : Nat) (T : TypeId) (f : β → Array Value) : Own (fun s W => W.heap[B]? = some (.cells (f s) T (0, 0))) := fun s X Y row hs hg hrow =>
  (hg.block B (blk_lt hs) (fun e => by obtain ⟨o, ho, hc⟩ := hrow B e.symm; rw [hs] at ho; cases ho; cases hc)).trans hs
end Go.Proofs.YtkbgpajconhgjaaGreatDoor
end
section
/- Layer 14: texts of a line: clean, unparted, middle, needsColon, isCommand. -/
namespace Go.Proofs.YtkbgpajconhgjaaGreatDoor
open Go Go.RowKit Go.Lib

/-- some number in MaxLen -/
def Mx (w : World) : Prop := ∃ m : Int, w.cell? ⟨1, 0, none⟩ = some (.int .i64 m)
theorem mx_kept {w W : World} {B : Nat} (h : Mx w) (hb : Below B w W) (hB : w.heap.size ≤ B) : Mx W := by
  obtain ⟨m, hm⟩ := h
  exact ⟨m, (hb.cell (Nat.lt_of_lt_of_le (World.block_lt_of_cell? _ _ hm) hB)).trans hm⟩
theorem cleanV_all (l : List UInt8) : cleanV (bs l) ((bs l).size : Int) = bs (cleanL l) := by
  unfold cleanV
  rw [bs_toList]
  congr 1
  refine List.take_of_length_le ?_
  have := clean_len l
  simp; omega
set_option maxRecDepth 100000 in
set_option maxHeartbeats 4000000 in
theorem cleanM (l : List UInt8) (w : World) (hl : l.length ≤ 1000000) :
    Calls Tryz.prog 42 #[.string (bs l)] w fun e w' => e = .returned (.string (bs (cleanL l))) ∧ Below w.heap.size w w' := by
  have hc := clean_v (bs l) ((bs l).size : Int) w (by simpa using hl)
  rw [cleanV_all] at hc
  have HC := Lib.hid hc
  clear hc
  go_enter Tryz.func42, Tryz.ntmps42
  go_wp2_with (go_at_call 53; refine HC.out.mono ?_; rintro e w' ⟨rfl, hb⟩)
  go_ret
  exact ⟨rfl, hb⟩
theorem countB_blank (s : ByteArray) : Lib.countB s ⟨#[32]⟩ ≤ s.size + 1 := by
  have := Lib.count_le s.data.toList [32]
  have e : s.data.toList.length = s.size := by simp
  unfold Lib.countB
  rw [e] at this
  exact this
theorem replM (l : List UInt8) (w : World) (hl : l.length ≤ 1000000) (hm : Mx w) :
    Calls Tryz.prog 52 #[.string (bs l), .string ⟨#[32]⟩, .string ⟨#[45]⟩] w fun e w' => e = .returned (.string (bs (dashL l))) ∧ Below w.heap.size w w' := by
  obtain ⟨m, hm⟩ := hm
  have hs : (bs l).size = l.length := by simp
  have hc := countB_blank (bs l)
  refine (Tryz.strings_ReplaceAll (bs l) ⟨#[32]⟩ ⟨#[45]⟩ m w (by omega) hm (by decide) (by
    have h1 : (⟨#[45]⟩ : ByteArray).size = 1 := rfl
    rw [h1]; omega)).mono ?_
  rintro e w' ⟨rfl, hb⟩
  refine ⟨?_, hb⟩
  have : Lib.replaceAll (bs l).data.toList (⟨#[32]⟩ : ByteArray).data.toList (⟨#[45]⟩ : ByteArray).data.toList = dashL l := by
    rw [bs_toList]; exact replace_dash l
  rw [this]
  rfl
set_option maxRecDepth 100000 in
set_option maxHeartbeats 4000000 in
theorem unpM (l : List UInt8) (w : World) (hl : l.length ≤ 1000000) (hm : Mx w) :
    Calls Tryz.prog 40 #[.string (bs l)] w fun e w' => e = .returned (.string (bs (dashL (cleanL l)))) ∧ Below w.heap.size w w' := by
  have HC := Lib.hid (cleanM l w hl)
  have HR := Lib.hid (fun W h => replM (cleanL l) W (Nat.le_trans (clean_len l) hl) h)
  have HM := Lib.hid hm
  clear hm
  go_enter Tryz.func40, Tryz.ntmps40
  go_wp2_with fail
  refine HC.out.mono ?_
  rintro e w1 ⟨rfl, hb⟩
  have HB := Lib.hid hb
  have hR := HR.out w1 (mx_kept HM.out hb (Nat.le_refl _))
  have HR1 := Lib.hid hR
  clear hb hR
  go_wp2_with fail
  refine HR1.out.mono ?_
  rintro e w2 ⟨rfl, hb2⟩
  have HB2 := Lib.hid hb2
  clear hb2
  go_wp2_with fail
  go_ret
  exact ⟨rfl, HB.out.trans (HB2.out.mono HB.out.size)⟩
theorem bs_head (b : UInt8) (r : List UInt8) : (bs (b :: r)).size = r.length + 1 := by simp
set_option maxRecDepth 100000 in
set_option maxHeartbeats 8000000 in
theorem midM (l : List UInt8) (w : World) (hl : l.length ≤ 1000000) (hm : Mx w) :
    Calls Tryz.prog 41 #[.string (bs l)] w fun e w' => e = .returned (.string (bs (midL (cleanL l)))) ∧ Below w.heap.size w w' := by
  have HU := Lib.hid (unpM l w hl hm)
  obtain ⟨u, hu⟩ : ∃ u, dashL (cleanL l) = u := ⟨_, rfl⟩
  have hlen : u.length ≤ 1000000 := by rw [← hu]; unfold dashL; rw [List.length_map]; exact Nat.le_trans (clean_len l) hl
  have hmid : midL (cleanL l) = midU u := by unfold midL; rw [hu]
  rw [hu] at HU
  rw [hmid]
  clear hmid hu hm
  cases u with
  | nil =>
    have e0 : bs ([] : List UInt8) = ({ data := #[] } : ByteArray) := rfl
    rw [e0] at HU
    go_enter Tryz.func41, Tryz.ntmps41
    go_wp2_with fail
    refine HU.out.mono ?_
    rintro e w1 ⟨rfl, hb⟩
    have HB := Lib.hid hb
    clear hb
    go_wp2_with fail
    go_ret
    exact ⟨rfl, HB.out⟩
  | cons b r =>
    have hemp := str_ne (s := bs (b :: r)) (by simp)
    have h0 : 0 < (bs (b :: r)).size := by simp
    have hsz := bs_head b r
    have hb0 : (bs (b :: r))[0]'h0 = b := rfl
    by_cases hc : b = 58
    · have hq : ((((bs (b :: r))[0]'h0).toNat : Int) == 58) = true := by rw [hb0, hc]; rfl
      have hex : (bs (b :: r)).extract 1 (bs (b :: r)).size = bs r := ba_ext (by simp)
      have HE := Lib.hid (And.intro hc hex)
      have hbig : ¬ 9223372036854775807 < 1 + r.length := by simp only [List.length_cons] at hlen; omega
      clear hc hex hb0
      go_enter Tryz.func41, Tryz.ntmps41
      go_wp2_with fail
      refine HU.out.mono ?_
      rintro e w1 ⟨rfl, hb⟩
      have HB := Lib.hid hb
      clear hb
      go_wp2_with fail
      go_ret
      refine ⟨?_, HB.out⟩
      obtain ⟨h1, h2⟩ := HE.out
      rw [hsz] at h2
      rw [h2, show midU (b :: r) = 45 :: r from if_pos h1]
      congr 2
    · have hq : ((((bs (b :: r))[0]'h0).toNat : Int) == 58) = false := by
        rw [hb0, beq_eq_false_iff_ne]; intro e; exact hc (by apply UInt8.toNat_inj.1; show b.toNat = 58; omega)
      have HE := Lib.hid hc
      clear hc hb0
      go_enter Tryz.func41, Tryz.ntmps41
      go_wp2_with fail
      refine HU.out.mono ?_
      rintro e w1 ⟨rfl, hb⟩
      have HB := Lib.hid hb
      clear hb
      go_wp2_with fail
      go_ret
      have hm2 : midU (b :: r) = b :: r := if_neg HE.out
      rw [hm2]
      exact ⟨rfl, HB.out⟩
/-- whether a colon is wanted -/
theorem needC_nil : needC [] = true := rfl
set_option maxRecDepth 100000 in
set_option maxHeartbeats 8000000 in
theorem needM (l : List UInt8) (w : World) (hl : l.length ≤ 1000000) :
    Calls Tryz.prog 58 #[.string (bs l)] w fun e w' => e = .returned (.bool (needC l)) ∧ w' = w := by
  cases l with
  | nil =>
    have e0 : bs ([] : List UInt8) = ({ data := #[] } : ByteArray) := rfl
    rw [e0]
    go_enter Tryz.func58, Tryz.ntmps58
    go_wp2_with fail
    go_ret
    exact ⟨rfl, rfl⟩
  | cons b r =>
    have hemp := str_ne (s := bs (b :: r)) (by simp)
    have h0 : 0 < (bs (b :: r)).size := by simp
    have hsz := bs_head b r
    have hb0 : (bs (b :: r))[0]'h0 = b := rfl
    by_cases hc : b = 58
    · have hq : ((((bs (b :: r))[0]'h0).toNat : Int) == 58) = true := by rw [hb0, hc]; rfl
      have HN : Hid (needC (b :: r) = true) := by show needC (b :: r) = true; rw [hc]; simp [needC]
      clear hc hb0
      go_enter Tryz.func58, Tryz.ntmps58
      go_wp2_with fail
      go_ret
      exact ⟨ret_bool HN.out.symm, rfl⟩
    · have hq : ((((bs (b :: r))[0]'h0).toNat : Int) == 58) = false := by
        rw [hb0, beq_eq_false_iff_ne]; intro e; exact hc (by apply UInt8.toNat_inj.1; show b.toNat = 58; omega)
      have HN : Hid (needC (b :: r) = decide ((32 : UInt8) ∈ (b :: r))) := by show needC (b :: r) = _; simp [needC, hc]
      have hct := Tryz.strings_Contains_one (bs (b :: r)) 32 w
      have HCT := Lib.hid hct
      clear hc hb0 hct
      go_enter Tryz.func58, Tryz.ntmps58
      go_wp2_with fail
      refine HCT.out.mono ?_
      rintro e w1 ⟨rfl, rfl⟩
      go_wp2_with fail
      go_ret
      have hcb := Lib.contains_iff_indexByte (b :: r) 32
      refine ⟨ret_bool ?_, rfl⟩
      refine Eq.trans ?_ HN.out.symm
      refine (show decide (0 ≤ indexByte (bs (b :: r)).data.toList 32) = decide (0 ≤ indexByte (b :: r) 32) from ?_).trans ?_
      · congr 1
      · rw [← hcb, Bool.eq_iff_iff, decide_eq_true_eq, List.contains_iff_mem]
end Go.Proofs.YtkbgpajconhgjaaGreatDoor
end
section
/- Layer 14: all, isCommand: whether a text may be a command. -/
namespace Go.Proofs.YtkbgpajconhgjaaGreatDoor
open Go Go.RowKit

/-- is a byte from one to another? -/
def betw (lo hi : Int) (b : UInt8) : Bool := decide (lo ≤ b.toNat ∧ (b.toNat : Int) ≤ hi)
set_option maxHeartbeats 1000000 in
theorem allM (s : ByteArray) (lo hi : Int) (w : World) (hs : s.size ≤ 1000000) :
    Calls Tryz.prog 55 #[.string s, .int .u8 lo, .int .u8 hi] w fun e w' => e = .returned (.bool (allI s fun _ b => betw lo hi b)) ∧ w' = w := by
  go_enter Tryz.func55, Tryz.ntmps55
  go_wp2_with fail
  go_loopw [10] (fun i wr => ∃ k : Nat, k ≤ s.size ∧ i = .int .i64 k ∧ (∀ i, i < k → ∀ (hi' : i < s.size), (fun _ b => betw lo hi b) i s[i] = true) ∧ wr = w) (fun i _ => s.size - (Go.RowKit.intOf i).toNat)
  case atStart => exact ⟨0, Nat.zero_le _, rfl, fun _ h => absurd h (Nat.not_lt_zero _), rfl⟩
  case round =>
    obtain ⟨k, hk, rfl, hq, rfl⟩ := hrel
    have Hq := Lib.hid hq
    clear hq
    by_cases hlt : k < s.size
    · by_cases hb : (s[k].toNat : Int) < lo
      · go_wp2_with fail
        go_ret
        exact ⟨ret_bool (allI_no hlt (decide_eq_false fun h => by omega)), rfl⟩
      · by_cases hb2 : hi < (s[k].toNat : Int)
        · go_wp2_with fail
          go_ret
          exact ⟨ret_bool (allI_no hlt (decide_eq_false fun h => by omega)), rfl⟩
        · go_wp2_with fail
          exact ⟨⟨k + 1, by omega, by push_cast; rfl, all_step Hq.out hlt (decide_eq_true ⟨by omega, by omega⟩), by simp⟩, by simp only [Go.RowKit.intOf]; omega⟩
    · obtain rfl : k = s.size := by omega
      go_wp2_with fail
      go_ret
      exact ⟨ret_bool (allI_yes (Nat.le_refl _) Hq.out), rfl⟩
/-- a row of capitals -/
noncomputable def capsB (s : ByteArray) : Bool := allI s fun _ b => betw 65 90 b
noncomputable def digsB (s : ByteArray) : Bool := allI s fun _ b => betw 48 57 b
/-- may a text be a command? -/
noncomputable def cmdB (s : ByteArray) : Bool := if capsB s then decide (0 < s.size) else (decide (s.size = 3) && digsB s)
set_option maxHeartbeats 4000000 in
theorem cmdM (s : ByteArray) (w : World) (hs : s.size ≤ 1000000) :
    Calls Tryz.prog 39 #[.string s] w fun e w' => e = .returned (.bool (cmdB s)) ∧ w' = w := by
  have hA := Lib.hid (allM s 65 90 w hs)
  have hD := Lib.hid (allM s 48 57 w hs)
  cases hc : capsB s
  · have e1 : (allI s fun _ b => betw 65 90 b) = false := hc
    rw [e1] at hA
    by_cases h3 : s.size = 3
    · have h3' : (s.size : Int) = 3 := by omega
      have HD : Hid (cmdB s = digsB s) := by show cmdB s = digsB s; unfold cmdB; rw [hc, decide_eq_true h3]; simp
      clear hc e1
      go_enter Tryz.func39, Tryz.ntmps39
      go_wp2_with (first | (go_at_call 55; refine hA.out.mono ?_; rintro e w' ⟨rfl, rfl⟩; clear hA) | (go_at_call 55; refine hD.out.mono ?_; rintro e w' ⟨rfl, rfl⟩))
      go_ret
      exact ⟨ret_bool HD.out.symm, rfl⟩
    · have h3' : ¬ (s.size : Int) = 3 := by omega
      have HD : Hid (cmdB s = false) := by show cmdB s = false; unfold cmdB; rw [hc, decide_eq_false h3]; simp
      clear hc e1
      go_enter Tryz.func39, Tryz.ntmps39
      go_wp2_with (go_at_call 55; refine hA.out.mono ?_; rintro e w' ⟨rfl, rfl⟩)
      go_ret
      exact ⟨ret_bool HD.out.symm, rfl⟩
  · have e1 : (allI s fun _ b => betw 65 90 b) = true := hc
    rw [e1] at hA
    by_cases h0 : 0 < s.size
    · have hemp := str_ne h0
      have HD : Hid (cmdB s = true) := by show cmdB s = true; unfold cmdB; rw [hc, if_pos rfl, decide_eq_true h0]
      clear hc e1
      go_enter Tryz.func39, Tryz.ntmps39
      go_wp2_with (go_at_call 55; refine hA.out.mono ?_; rintro e w' ⟨rfl, rfl⟩)
      go_ret
      exact ⟨ret_bool HD.out.symm, rfl⟩
    · have h0' : s.size = 0 := by omega
      obtain rfl : s = ByteArray.empty := ByteArray.size_eq_zero_iff.1 h0'
      have HD : Hid (cmdB ByteArray.empty = false) := by show cmdB _ = false; unfold cmdB; rw [hc]; rfl
      clear hc e1
      go_enter Tryz.func39, Tryz.ntmps39
      go_wp2_with (go_at_call 55; refine hA.out.mono ?_; rintro e w' ⟨rfl, rfl⟩)
      go_ret
      exact ⟨ret_bool HD.out.symm, rfl⟩
end Go.Proofs.YtkbgpajconhgjaaGreatDoor
end
section
/- A range over a function that keeps what it has come to in variables of its own: blocks X lie ahead of the loop; the function that ranges writes them between the rounds; the body leaves them alone. -/
namespace Go.Proofs.YtkbgpajconhgjaaGreatDoor
open Go Go.RowKit

/-- J holds on where the heap grows, a block of X is written, or a walk beyond B goes on -/
def AbX {β : Type} (X : Nat → Prop) (B : Nat) (J : β → World → Prop) : Prop :=
  ∀ s V V' row, J s V → V.grownBy V' row → (∀ r, row = some r → X r ∨ (B ≤ r ∧ ∃ o : Obj, V.heap[r]? = some o ∧ o.isWalk = true)) → J s V'
/-- no block of X was written -/
def SameX (X : Nat → Prop) (V V' : World) : Prop := ∀ b, X b → V'.heap[b]? = V.heap[b]?
theorem SameX.trans {X : Nat → Prop} {A B C : World} (h : SameX X A B) (k : SameX X B C) : SameX X A C := fun b hb => (k b hb).trans (h b hb)
theorem SameX.cell {X : Nat → Prop} {V V' : World} (h : SameX X V V') {b o : Nat} (hb : X b) : V'.cell? ⟨b, o, none⟩ = V.cell? ⟨b, o, none⟩ := World.cell?_of_block (w := V) (a := ⟨b, o, none⟩) (h b hb)
theorem SameX.frozen {X : Nat → Prop} {V V' : World} (h : SameX X V V') {b o : Nat} (hb : X b) : V'.frozen? ⟨b, o, none⟩ = V.frozen? ⟨b, o, none⟩ := World.frozen?_of_block (w := V) (a := ⟨b, o, none⟩) (h b hb)

/-- what a function that ranges is worth: whatever J the rounds carry on -/
def SeqW {α : Type} (F : Fence) (n : Nat) (P : Program) (g : Nat) (lb : Array Value) (encs : α → Array Value) (X : Nat → Prop) (S Sp : List α → Prop) (N : Nat) (w : World) : Prop :=
  ∀ (l : Nat) (J Jx : List α → World → Prop) (V : World), Below w.heap.size w V → AbX X V.heap.size J → AbX X V.heap.size Jx →
    (∀ pre x V1, J pre V1 → pre.length < N → YieldAt F (n - 1) P l (encs x) V1 fun e V' => (e = .returned (.bool true) ∧ J (pre ++ [x]) V' ∧ SameX X V1 V') ∨ (e = .returned (.bool false) ∧ Jx (pre ++ [x]) V')) →
    J [] V → CallsIn F n P g (#[.func (.yield l) #[] #[]] ++ lb) V fun e V' => (∃ v, e = .returned v) ∧ ((∃ xs, S xs ∧ J xs V') ∨ ∃ pre, Sp pre ∧ Jx pre V')

/-- the two blocks of the loop's book -/
def Bk (l D : Nat) (r : Loop) (V : World) : Prop := V.heap[l]? = some (.loop r) ∧ V.heap[D]? = some (.deferred (some []))
section
variable {l D : Nat} {r : Loop} {V V' : World}
theorem Bk.lt (h : Bk l D r V) : l < V.heap.size ∧ D < V.heap.size := ⟨(Array.getElem?_eq_some_iff.1 h.1).1, (Array.getElem?_eq_some_iff.1 h.2).1⟩
theorem Bk.grown (h : Bk l D r V) {row : Option Nat} (hg : V.grownBy V' row) (h1 : some l ≠ row) (h2 : some D ≠ row) : Bk l D r V' :=
  ⟨(hg.block l h.lt.1 h1).trans h.1, (hg.block D h.lt.2 h2).trans h.2⟩
theorem Bk.put (h : Bk l D r V) (hne : D ≠ l) (r' : Loop) : Bk l D r' (V.putObj l (.loop r')) :=
  ⟨World.putObj_heap_same h.lt.1, (World.putObj_heap_other hne).trans h.2⟩
theorem Bk.keeps (h : Bk l D r V) {B : Nat} (hk : KeepsFrom B V V') (h1 : B ≤ l) (h2 : B ≤ D) : Bk l D r V' :=
  ⟨hk.same _ _ h1 h.1 rfl, hk.same _ _ h2 h.2 rfl⟩
end
/-- how a round of the body ends -/
def EndW {α : Type} (B : Nat) (X : Nat → Prop) (I : List α → World → Prop) (Ix : Code → List α → World → Prop) (xs : List α) (V : World) : Exit → Act → World → Prop
  | .normal, _, V' => KeepsFrom B V V' ∧ SameX X V V' ∧ I xs V'
  | .ret, _, V' => KeepsFrom B V V' ∧ Ix .ret xs V'
  | .exit id, _, V' => KeepsFrom B V V' ∧ Ix (.exit id) xs V'
  | .goto t, _, V' => KeepsFrom B V V' ∧ Ix (.goto t) xs V'
  | .panic _, _, _ => False
  | .outgrown, _, _ => False
/-- a block of X may be written: I says nothing of it -/
def Lets {β : Type} (X : Nat → Prop) (I : β → World → Prop) : Prop := ∀ s V V' b, X b → I s V → V.grownBy V' (some b) → I s V'

theorem wpIn_rangeW {F : Fence} {n : Nat} {P : Program} {w : World} {α : Type} {a : Act} {Q : Exit → Act → World → Prop} {g : Operand} {assign body : Code} {ps : Array Tmp} {gf : Nat} {lb : Array Value}
    {X : Nat → Prop} {encs : α → Array Value} {S Sp : List α → Prop} {N : Nat} {w0 : World} (I : List α → World → Prop) (Ix : Code → List α → World → Prop) (a₁ : α → Act)
    (hg : a.eval g = .func (.func gf) #[] lb) (hseq : SeqW F (n - 1) P gf lb encs X S Sp N w0) (hb0 : Below w0.heap.size w0 w) (hX : ∀ b, X b → b < w.heap.size) (hro : F.round = none) (h1 : 1 ≤ n) (hFg : F.fn gf)
    (eg : ∀ args v, (callFunc gf args).run P v = .ok (.enter gf args) v) (hps : ∀ x, (encs x).size = ps.size)
    (hI : OwnFrom w.heap.size I) (hIX : Lets X I) (hIx : ∀ c, OwnFrom w.heap.size (Ix c)) (hIxX : ∀ c, Lets X (Ix c)) (h0 : I [] w)
    (hassign : ∀ l x V (K : Act → World → Prop), K (a₁ x) V → assign.wpIn (F.inRound l) (n - 1 - 1) P (Exit.then K fun _ _ _ => False) { tmps := (ps.zip (encs x)).foldl (fun t (p, v) => t.setIfInBounds p v) a.tmps, defers := [] } V)
    (hbody : ∀ l pre x V, I pre V → pre.length < N → body.wpIn (F.inRound l) (n - 1 - 1) P (EndW w.heap.size X I Ix (pre ++ [x]) V) (a₁ x) V)
    (hdone : ∀ D xs V, w.heap.size ≤ D → S xs → I xs V → V.heap[D]? = some (.deferred (some [])) → Q .normal { a with defers := { target := .collected D, args := #[] } :: a.defers } V)
    (hstop : ∀ D c pre V, w.heap.size ≤ D → Sp pre → Ix c pre V → V.heap[D]? = some (.deferred (some [])) → c.wpIn F n P Q { a with defers := { target := .collected D, args := #[] } :: a.defers } V) :
    (Code.rangeFunc g ps assign body).wpIn F n P Q a w := by
  refine wpIn_rangeFunc fun fn hfn => ?_
  rw [hro]
  obtain ⟨R, hR⟩ : ∃ R : LoopState → Option Code → Loop, ∀ st pe, R st pe = { state := st, pending := pe, fn := fn, tmps := a.tmps, params := ps, assign := assign, body := body, defers := w.heap.size } := ⟨_, fun _ _ => rfl⟩
  obtain ⟨V1, hV1⟩ : ∃ V1, (w.alloc (.deferred (some []))).alloc (.loop (R .ready none)) = V1 := ⟨_, rfl⟩
  have hz : V1.heap.size = w.heap.size + 2 := by rw [← hV1]; simp
  have bk : Bk (w.heap.size + 1) w.heap.size (R .ready none) V1 := by
    subst hV1
    refine ⟨?_, (Below.heap_alloc _ _ _ (by simp)).trans (World.alloc_heap_new w _)⟩
    have h := World.alloc_heap_new (w.alloc (.deferred (some []))) (.loop (R .ready none))
    rwa [World.size_alloc] at h
  have i1 : I [] V1 := by subst hV1; exact hI.alloc _ (hI.alloc _ h0)
  have bel : Below w0.heap.size w0 V1 := by subst hV1; exact (hb0.alloc hb0.size _).alloc (by rw [World.size_alloc]; have := hb0.size; omega) _
  have hput : ∀ {s : List α} {V : World} {r : Loop} (r' : Loop), I s V → Bk (w.heap.size + 1) w.heap.size r V → I s (V.putObj (w.heap.size + 1) (.loop r')) := fun r' hi hb => hI.putObj _ hi (by omega) hb.1 rfl
  have hputx : ∀ {c : Code} {s : List α} {V : World} {r : Loop} (r' : Loop), Ix c s V → Bk (w.heap.size + 1) w.heap.size r V → Ix c s (V.putObj (w.heap.size + 1) (.loop r')) := fun {c} _ _ _ r' hi hb => (hIx c).putObj _ hi (by omega) hb.1 rfl
  have sput : ∀ (V : World) (r' : Loop), SameX X V (V.putObj (w.heap.size + 1) (.loop r')) := fun V r' b hb => World.putObj_heap_other (by have := hX b hb; omega)
  have abook : ∀ {V V' : World} {row : Option Nat} {r : Loop}, Bk (w.heap.size + 1) w.heap.size r V → V.grownBy V' row → (∀ r, row = some r → X r ∨ (V1.heap.size ≤ r ∧ ∃ o : Obj, V.heap[r]? = some o ∧ o.isWalk = true)) → Bk (w.heap.size + 1) w.heap.size r V' := fun hb hgr hrow => by
    refine hb.grown hgr (fun e => ?_) (fun e => ?_)
    · rcases hrow _ e.symm with h | h
      · have := hX _ h; omega
      · omega
    · rcases hrow _ e.symm with h | h
      · have := hX _ h; omega
      · omega
  have own : ∀ {J : List α → World → Prop}, OwnFrom w.heap.size J → Lets X J → ∀ {s : List α} {V V' : World} {row : Option Nat}, J s V → V.grownBy V' row → (∀ r, row = some r → X r ∨ (V1.heap.size ≤ r ∧ ∃ o : Obj, V.heap[r]? = some o ∧ o.isWalk = true)) → J s V' := fun hJ hL s V V' row hj hgr hrow => by
    cases row with
    | none => exact hJ s V V' none hj hgr (fun _ e => by cases e)
    | some r =>
      rcases hrow r rfl with h | ⟨h, o, ho, hw⟩
      · exact hL s V V' r h hj hgr
      · exact hJ s V V' (some r) hj hgr (fun _ e => by cases e; exact ⟨by omega, o, ho, Obj.not_cells_of_walk hw⟩)
  refine ⟨w.heap.size + 1, [{ target := .collected w.heap.size, args := #[] }], V1, { target := .fn (.func gf) lb, args := #[.func (.yield (w.heap.size + 1)) #[] #[]] }, V1, gf, #[.func (.yield (w.heap.size + 1)) #[] #[]] ++ lb, V1, ?_, ?_, ?_, ?_, fun _ => h1, ?_⟩
  · rw [← hV1, hR]; exact run_enterLoop_outer _ _ _ _ _
  · simp only [resolve, hg]; simp [go_sem]
  · intro f' hf'; simp [Target.leads] at hf'; subst hf'; exact hFg
  · simp [invoke, go_sem, eg]
  refine (hseq (w.heap.size + 1) (fun pre V => I pre V ∧ Bk (w.heap.size + 1) w.heap.size (R .ready none) V) (fun pre V => ∃ c, Ix c pre V ∧ Bk (w.heap.size + 1) w.heap.size (R .done (some c)) V) V1 bel
    (fun s V V' row hj hgr hrow => ⟨own hI hIX hj.1 hgr hrow, abook hj.2 hgr hrow⟩)
    (fun s V V' row hj hgr hrow => hj.elim fun c hc => ⟨c, own (hIx c) (hIxX c) hc.1 hgr hrow, abook hc.2 hgr hrow⟩) ?round ⟨i1, bk⟩).mono ?behind
  case behind =>
    rintro e V2 ⟨⟨v, rfl⟩, (⟨xs, hS, hi, hb⟩ | ⟨pre, hSp, c, hi, hb⟩)⟩
    · have hend := run_endLoop (P := P) hb.1 (by rw [hR]; simp)
      rw [hR] at hend
      exact ⟨none, _, hend, hdone _ xs _ (Nat.le_refl _) hS (hput _ hi hb) (hb.put (by omega) _).2⟩
    · have hend := run_endLoop (P := P) hb.1 (by rw [hR]; simp)
      rw [hR] at hend
      exact ⟨some c, _, hend, hstop _ c pre _ (Nat.le_refl _) hSp (hputx _ hi hb) (hb.put (by omega) _).2⟩
  case round =>
    rintro pre x V ⟨hi, hb⟩ hlen
    have hy := run_yield (P := P) (args := encs x) hb.1 (by rw [hR]; exact hps x)
    rw [hR] at hy
    refine ⟨fn, _, assign, body, hy, roundIn_of_wpIn hfn (hassign _ x V _ ⟨_, run_beginRound hb.1 (by rw [hR]), ?_⟩)⟩
    have hb2 := hb.put (by omega) { R .ready none with state := .busy }
    refine wpIn_mono (hbody _ pre x _ (hput _ hi hb) hlen) ?_
    -- behind the body: the record is turned, whatever the way
    have turn : ∀ (j : Option Code) {V3 : World}, KeepsFrom w.heap.size (V.putObj (w.heap.size + 1) (.loop { R .ready none with state := .busy })) V3 →
        ∃ st, st = (if j.isNone then LoopState.ready else .done) ∧ (Instr.endRound (w.heap.size + 1) j).run P V3 = .ok (.bool j.isNone) (V3.putObj (w.heap.size + 1) (.loop (R st j))) ∧ Bk (w.heap.size + 1) w.heap.size { R .ready none with state := .busy } V3 ∧
          Bk (w.heap.size + 1) w.heap.size (R st j) (V3.putObj (w.heap.size + 1) (.loop (R st j))) := fun j V3 hk => by
      have hb3 := hb2.keeps hk (by omega) (Nat.le_refl _)
      have hend := run_endRound (P := P) j hb3.1
      refine ⟨_, rfl, ?_, hb3, hb3.put (by omega) _⟩
      rw [hend, hR, hR]
    rintro e a3 V3 hp
    cases e with
    | normal =>
      obtain ⟨hk, hs, hi3⟩ := hp
      obtain ⟨st, rfl, hr, hb3, hb4⟩ := turn none hk
      exact ⟨_, _, hr, .inl ⟨rfl, ⟨hput _ hi3 hb3, hb4⟩, ((sput V _).trans hs).trans (sput V3 _)⟩⟩
    | ret =>
      obtain ⟨st, rfl, hr, hb3, hb4⟩ := turn (some .ret) hp.1
      exact ⟨_, _, hr, .inr ⟨rfl, _, hputx _ hp.2 hb3, hb4⟩⟩
    | exit id =>
      obtain ⟨st, rfl, hr, hb3, hb4⟩ := turn (some (.exit id)) hp.1
      exact ⟨_, _, hr, .inr ⟨rfl, _, hputx _ hp.2 hb3, hb4⟩⟩
    | goto t =>
      obtain ⟨st, rfl, hr, hb3, hb4⟩ := turn (some (.goto t)) hp.1
      exact ⟨_, _, hr, .inr ⟨rfl, _, hputx _ hp.2 hb3, hb4⟩⟩
    | panic ch => exact hp.elim
    | outgrown => exact hp.elim
end Go.Proofs.YtkbgpajconhgjaaGreatDoor
end
section
/- A range over a function, in words of what is owned: the body says which blocks X it holds; the function that ranges leaves those alone, and may keep blocks of its own between the rounds. Outermost and within a round; the loop's variables may be boxed. -/
namespace Go.Proofs.YtkbgpajconhgjaaGreatDoor
open Go Go.RowKit

/-- X' are blocks of X, and new ones -/
def GrowX (X X' : Nat → Prop) (V V' : World) : Prop := ∀ k, X' k → k < V'.heap.size ∧ (k < V.heap.size → X k)
/-- J hangs on blocks of X alone -/
def Stays {β : Type} (J : β → (Nat → Prop) → World → Prop) : Prop := ∀ s X V V', J s X V → (∀ k, X k → k < V.heap.size) → Fr (fun k => ¬ X k) V V' → J s X V'
/-- what a function that ranges is worth, if it tells the row xs out of blocks Y -/
def SeqF {α : Type} (P : Program) (g : Nat) (lb : Array Value) (encs : α → Array Value) (Y : Nat → Prop) (xs : List α) (w : World) : Prop :=
  ∀ (l : Nat) (J Jx : List α → (Nat → Prop) → World → Prop) (X : Nat → Prop) (V : World), SameX Y w V → (∀ b, Y b → b < V.heap.size) → (∀ k, X k → k < V.heap.size ∧ ¬ Y k) → Stays J → Stays Jx →
    (∀ pre x r X1 V1, pre ++ x :: r = xs → GrowX X X1 V V1 → J pre X1 V1 → Fr X V V1 →
      YieldAt Fence.wide 0 P l (encs x) V1 fun e V' => ∃ X2, GrowX X1 X2 V1 V' ∧ Fr X1 V1 V' ∧ ((e = .returned (.bool true) ∧ J (pre ++ [x]) X2 V') ∨ (e = .returned (.bool false) ∧ Jx (pre ++ [x]) X2 V'))) →
    J [] X V → Calls P g (#[.func (.yield l) #[] #[]] ++ lb) V fun e V' => (∃ v, e = .returned v) ∧ ∃ X2, GrowX X X2 V V' ∧ Fr X V V' ∧ (J xs X2 V' ∨ ∃ pre r, pre ++ r = xs ∧ Jx pre X2 V')
section
variable {P : Program} {n m : Nat}
/-- within the wide fence it is all one how deep, and in what round -/
theorem round_wide {F : Fence} (hF : F = Fence.wide ∨ ∃ l, F = Fence.wide.inRound l) {l f : Nat} {tmps : Array Value} {assign body : Code} {w : World} {R : Ending → World → Prop} (h : RoundIn Fence.wide n P l f tmps assign body w R) : RoundIn F m P l f tmps assign body w R := by
  rcases hF with rfl | ⟨l0, rfl⟩
  · exact ⟨trivial, fun c cs _ => h.2 c cs (room_wide _)⟩
  · exact ⟨trivial, fun c cs _ => h.2 c cs (room_wide _)⟩
theorem yield_wide {F : Fence} (hF : F = Fence.wide ∨ ∃ l, F = Fence.wide.inRound l) {l : Nat} {args : Array Value} {w : World} {R : Ending → World → Prop} (h : YieldAt Fence.wide n P l args w R) : YieldAt F m P l args w R := by
  obtain ⟨fn, tmps, assign, body, h1, h2⟩ := h
  exact ⟨fn, tmps, assign, body, h1, round_wide hF h2⟩
theorem calls_wide {F : Fence} (hF : F = Fence.wide ∨ ∃ l, F = Fence.wide.inRound l) {f : Nat} {args : Array Value} {w : World} {R : Ending → World → Prop} (h : Calls P f args w R) : CallsIn F n P f args w R := by
  rcases hF with rfl | ⟨l0, rfl⟩
  · exact (callsIn_wide (n := n)).2 h
  · exact (callsIn_wide (n := n)).2 h
end
theorem Fr.putObj {X : Nat → Prop} {a w : World} (h : Fr X a w) (l : Nat) (hl : X l) (o : Obj) : Fr X a (w.putObj l o) := h.grown (grownBy_putObj' w l o) fun k e => by cases e; exact .inr hl
theorem GrowX.refl {X : Nat → Prop} {V : World} (h : ∀ k, X k → k < V.heap.size) : GrowX X X V V := fun k hk => ⟨h k hk, fun _ => hk⟩
theorem GrowX.trans {X X1 X2 : Nat → Prop} {A B C : World} (h : GrowX X X1 A B) (k : GrowX X1 X2 B C) (hs : A.heap.size ≤ B.heap.size) : GrowX X X2 A C := fun b hb => ⟨(k b hb).1, fun hl => (h b ((k b hb).2 (by omega))).2 hl⟩

theorem Fr.trans3 {X Y : Nat → Prop} {a b c : World} (h : Fr X a b) (k : Fr Y b c) (hx : ∀ k, k < a.heap.size → Y k → X k) : Fr X a c :=
  ⟨k.os.trans h.os, k.tape.trans h.tape, k.output.trans h.output, Nat.le_trans h.size k.size, fun i hi hn => (k.block i (Nat.lt_of_lt_of_le hi h.size) fun e => hn (hx i hi e)).trans (h.block i hi hn)⟩
theorem putObj_size (w : World) (l : Nat) (o : Obj) : (w.putObj l o).heap.size = w.heap.size := by simp [World.putObj]
/-- how a round of the body ends -/
def EndF {α : Type} (l : Nat) (rb : Loop) (X1 : Nat → Prop) (I : List α → (Nat → Prop) → World → Prop) (Ix : Code → List α → (Nat → Prop) → World → Prop) (xs : List α) (V : World) : Exit → Act → World → Prop
  | .normal, _, V' => ∃ X2, GrowX X1 X2 V V' ∧ Fr (fun k => k = l ∨ X1 k) V V' ∧ V'.heap[l]? = some (.loop rb) ∧ I xs X2 V'
  | .ret, _, V' => ∃ X2, GrowX X1 X2 V V' ∧ Fr (fun k => k = l ∨ X1 k) V V' ∧ V'.heap[l]? = some (.loop rb) ∧ Ix .ret xs X2 V'
  | .exit id, _, V' => ∃ X2, GrowX X1 X2 V V' ∧ Fr (fun k => k = l ∨ X1 k) V V' ∧ V'.heap[l]? = some (.loop rb) ∧ Ix (.exit id) xs X2 V'
  | .goto t, _, V' => ∃ X2, GrowX X1 X2 V V' ∧ Fr (fun k => k = l ∨ X1 k) V V' ∧ V'.heap[l]? = some (.loop rb) ∧ Ix (.goto t) xs X2 V'
  | .panic _, _, _ => False
  | .outgrown, _, _ => False
/-- the record of a loop -/
def recF (fn : Nat) (tmps : Array Value) (ps : Array Tmp) (assign body : Code) (d : Nat) (st : LoopState) (pe : Option Code) : Loop := { state := st, pending := pe, fn := fn, tmps := tmps, params := ps, assign := assign, body := body, defers := d }
/-- the rounds, of whatever loop: what the function that ranges makes of them -/
theorem range_core {P : Program} {n : Nat} {α : Type} {ps : Array Tmp} {assign body : Code} {fn : Nat} {tmps : Array Value} {d gf l : Nat} {lb : Array Value} {Y X E : Nat → Prop} {encs : α → Array Value} {xs : List α} {w V1 : World}
    (I : List α → (Nat → Prop) → World → Prop) (Ix : Code → List α → (Nat → Prop) → World → Prop)
    (hseq : SeqF P gf lb encs Y xs w) (hX : ∀ k, X k → k < w.heap.size ∧ ¬ Y k) (hY : ∀ b, Y b → b < w.heap.size) (hps : ∀ x, (encs x).size = ps.size) (hI : Stays I) (hIx : ∀ c, Stays (Ix c)) (h0 : I [] X w)
    (hw : Fr (fun _ => False) w V1) (hl : w.heap.size ≤ l) (hE : ∀ k, E k → w.heap.size ≤ k ∧ k < V1.heap.size ∧ k ≠ l) (hr : V1.heap[l]? = some (.loop (recF fn tmps ps assign body d .ready none)))
    (hround : ∀ pre x r X1 V (K : Act → World → Prop) rb, pre ++ x :: r = xs → I pre X1 V → GrowX X X1 w V → (∀ k, X1 k → k ≠ l ∧ ¬ E k) → Fr X w V → l < V.heap.size →
      (∀ a1 Va, Fr (fun _ => False) V Va → (∀ Vb, Fr (fun k => k = l) V Vb → Vb.heap.size = Va.heap.size → (∀ k, k ≠ l → Vb.heap[k]? = Va.heap[k]?) → Vb.heap[l]? = some (.loop rb) → body.wpIn (Fence.wide.inRound l) n P (EndF l rb X1 I Ix (pre ++ [x]) V) a1 Vb) → K a1 Va) →
      assign.wpIn (Fence.wide.inRound l) n P (Exit.then K fun _ _ _ => False) { tmps := (ps.zip (encs x)).foldl (fun t (p, v) => t.setIfInBounds p v) tmps, defers := [] } V) :
    Calls P gf (#[.func (.yield l) #[] #[]] ++ lb) V1 fun e V2 => (∃ v, e = .returned v) ∧ ∃ X2, GrowX X X2 w V2 ∧ (∀ k, X2 k → k ≠ l ∧ ¬ E k) ∧ Fr X w V2 ∧ (∀ k, E k → V2.heap[k]? = V1.heap[k]?) ∧ l < V2.heap.size ∧
      ((I xs X2 V2 ∧ V2.heap[l]? = some (.loop (recF fn tmps ps assign body d .ready none))) ∨ ∃ pre r c, pre ++ r = xs ∧ Ix c pre X2 V2 ∧ V2.heap[l]? = some (.loop (recF fn tmps ps assign body d .done (some c)))) := by
  have hlV := blk_lt hr
  have key : ∀ (Q : List α → (Nat → Prop) → World → Prop) (o : Obj), Stays Q → Stays (fun pre X' V => ∃ X1, (∀ k, X' k ↔ (X1 k ∨ k = l ∨ E k)) ∧ Q pre X1 V ∧ V.heap[l]? = some o ∧ (∀ k, E k → V.heap[k]? = V1.heap[k]?) ∧ (∀ k, X1 k → k ≠ l ∧ ¬ E k)) := fun Q o hQ s X' V V' ⟨X1, h1, h2, h3, h4, h5⟩ hlt hf =>
    ⟨X1, h1, hQ s X1 V V' h2 (fun k hk => hlt k ((h1 k).2 (.inl hk))) (hf.mono fun k _ hn e => hn ((h1 k).2 (.inl e))), (hf.block l (blk_lt h3) (fun e => e ((h1 l).2 (.inr (.inl rfl))))).trans h3,
      fun k hk => (hf.block k (hlt k ((h1 k).2 (.inr (.inr hk)))) (fun e => e ((h1 k).2 (.inr (.inr hk))))).trans (h4 k hk), h5⟩
  have thru : ∀ {V2 : World}, Fr (fun k => X k ∨ k = l ∨ E k) V1 V2 → Fr X w V2 := fun hf => (hw.mono fun _ _ h => h.elim).trans3 hf fun k hk e => by
    rcases e with e | rfl | e
    · exact e
    · omega
    · have := (hE k e).1; omega
  have grow : ∀ {X' X1 : Nat → Prop} {V2 : World}, (∀ k, X' k ↔ (X1 k ∨ k = l ∨ E k)) → GrowX (fun k => X k ∨ k = l ∨ E k) X' V1 V2 → GrowX X X1 w V2 := fun h1 hg k hk => by
    have h2 := hg k ((h1 k).2 (.inl hk))
    refine ⟨h2.1, fun hlt => ?_⟩
    rcases h2.2 (Nat.lt_of_lt_of_le hlt hw.size) with e | rfl | e
    · exact e
    · omega
    · have := (hE k e).1; omega
  refine (hseq l (fun pre X' V => ∃ X1, (∀ k, X' k ↔ (X1 k ∨ k = l ∨ E k)) ∧ I pre X1 V ∧ V.heap[l]? = some (.loop (recF fn tmps ps assign body d .ready none)) ∧ (∀ k, E k → V.heap[k]? = V1.heap[k]?) ∧ (∀ k, X1 k → k ≠ l ∧ ¬ E k))
    (fun pre X' V => ∃ c, ∃ X1, (∀ k, X' k ↔ (X1 k ∨ k = l ∨ E k)) ∧ Ix c pre X1 V ∧ V.heap[l]? = some (.loop (recF fn tmps ps assign body d .done (some c))) ∧ (∀ k, E k → V.heap[k]? = V1.heap[k]?) ∧ (∀ k, X1 k → k ≠ l ∧ ¬ E k))
    (fun k => X k ∨ k = l ∨ E k) V1 (fun b hb => hw.block b (hY b hb) fun e => e) (fun b hb => Nat.lt_of_lt_of_le (hY b hb) hw.size) ?hX (key I _ hI) (fun s X' V V' ⟨c, h⟩ h1 h2 => ⟨c, key (Ix c) _ (hIx c) s X' V V' h h1 h2⟩) ?round
    ⟨X, fun k => Iff.rfl, hI [] X w V1 h0 (fun k hk => (hX k hk).1) (hw.mono fun _ _ h => h.elim), hr, fun _ _ => rfl, fun k hk => ⟨by have := (hX k hk).1; omega, fun e => by have := (hX k hk).1; have := (hE k e).1; omega⟩⟩).mono ?behind
  case hX =>
    rintro k (e | rfl | e)
    · exact ⟨Nat.lt_of_lt_of_le (hX k e).1 hw.size, (hX k e).2⟩
    · exact ⟨hlV, fun e => by have := hY _ e; omega⟩
    · exact ⟨(hE k e).2.1, fun e2 => by have := hY _ e2; have := (hE k e).1; omega⟩
  case behind =>
    rintro e V2 ⟨hv, X', hg, hf, (⟨X1, h1, h2, h3, h4, h5⟩ | ⟨pre, r, hpr, c, X1, h1, h2, h3, h4, h5⟩)⟩
    · exact ⟨hv, X1, grow h1 hg, h5, thru hf, h4, blk_lt h3, .inl ⟨h2, h3⟩⟩
    · exact ⟨hv, X1, grow h1 hg, h5, thru hf, h4, blk_lt h3, .inr ⟨pre, r, c, hpr, h2, h3⟩⟩
  case round =>
    rintro pre x r X' V hpx hgx ⟨X1, h1, h2, h3, h4, h5⟩ hfx
    have hy := run_yield (P := P) (args := encs x) h3 (by exact hps x)
    have hlv := blk_lt h3
    have hV1 := hfx.size
    obtain ⟨rb, hrb⟩ : ∃ rb : Loop, { recF fn tmps ps assign body d .ready none with state := .busy } = rb := ⟨_, rfl⟩
    refine ⟨fn, _, assign, body, hy, round_wide (n := n) (.inl rfl) (roundIn_of_wpIn (F := Fence.wide) trivial (hround pre x r X1 V _ rb hpx h2 (grow h1 hgx) h5 (thru hfx) hlv fun a1 Va hfa hbody => ⟨_, run_beginRound (hfa.blk h3 fun h => h) rfl, ?_⟩))⟩
    rw [hrb]
    have hla : l < Va.heap.size := Nat.lt_of_lt_of_le hlv hfa.size
    refine wpIn_mono (hbody (Va.putObj l (.loop rb)) (Fr.putObj (X := fun k => k = l) (hfa.mono fun _ _ h => h.elim) l rfl _) (putObj_size _ _ _) (fun k hk => World.putObj_heap_other hk) (World.putObj_heap_same hla)) ?_
    have fin : ∀ (Q : List α → (Nat → Prop) → World → Prop), Stays Q → ∀ {X2 : Nat → Prop} {V3 : World} (o : Obj), GrowX X1 X2 V V3 → Fr (fun k => k = l ∨ X1 k) V V3 → Q (pre ++ [x]) X2 V3 →
        GrowX X' (fun k => X2 k ∨ k = l ∨ E k) V (V3.putObj l o) ∧ Fr X' V (V3.putObj l o) ∧ ∃ X1', (∀ k, (X2 k ∨ k = l ∨ E k) ↔ (X1' k ∨ k = l ∨ E k)) ∧ Q (pre ++ [x]) X1' (V3.putObj l o) ∧ (V3.putObj l o).heap[l]? = some o ∧ (∀ k, E k → (V3.putObj l o).heap[k]? = V1.heap[k]?) ∧ (∀ k, X1' k → k ≠ l ∧ ¬ E k) := fun Q hQ X2 V3 o g2 f2 q2 => by
      have hl3 : l < V3.heap.size := Nat.lt_of_lt_of_le hlv f2.size
      have hEV : ∀ k, E k → k < V.heap.size := fun k hk => Nat.lt_of_lt_of_le (hE k hk).2.1 hV1
      have x2 : ∀ k, X2 k → k ≠ l ∧ ¬ E k := fun k hk => ⟨fun e => by subst e; exact (h5 _ ((g2 _ hk).2 hlv)).1 rfl, fun e => (h5 _ ((g2 _ hk).2 (hEV k e))).2 e⟩
      refine ⟨fun k hk => ?_, (f2.putObj l (.inl rfl) o).mono fun k _ e => ?_, X2, fun k => Iff.rfl, hQ _ X2 V3 _ q2 (fun k hk => (g2 k hk).1) ((Fr.refl _ V3).putObj l (fun e => (x2 l e).1 rfl) o), World.putObj_heap_same hl3, fun k hk => ?_, x2⟩
      · rw [putObj_size]
        rcases hk with hk | rfl | hk
        · exact ⟨(g2 k hk).1, fun hlt => (h1 k).2 (.inl ((g2 k hk).2 hlt))⟩
        · exact ⟨hl3, fun _ => (h1 _).2 (.inr (.inl rfl))⟩
        · exact ⟨Nat.lt_of_lt_of_le (hEV k hk) f2.size, fun _ => (h1 _).2 (.inr (.inr hk))⟩
      · rcases e with rfl | e
        · exact (h1 _).2 (.inr (.inl rfl))
        · exact (h1 _).2 (.inl e)
      · refine (World.putObj_heap_other (hE k hk).2.2).trans ((f2.block k (hEV k hk) ?_).trans (h4 k hk))
        rintro (e | e)
        · exact (hE k hk).2.2 e
        · exact (h5 k e).2 hk
    rintro e a3 V3 hp
    cases e with
    | normal =>
      obtain ⟨X2, g2, f2, r2, i2⟩ := hp
      have hend := run_endRound (P := P) none r2
      rw [← hrb] at hend
      obtain ⟨q1, q2, q3⟩ := fin I hI _ g2 f2 i2
      exact ⟨_, _, hend, _, q1, q2, .inl ⟨rfl, q3⟩⟩
    | ret =>
      obtain ⟨X2, g2, f2, r2, i2⟩ := hp
      have hend := run_endRound (P := P) (some .ret) r2
      rw [← hrb] at hend
      obtain ⟨q1, q2, q3⟩ := fin _ (hIx .ret) _ g2 f2 i2
      exact ⟨_, _, hend, _, q1, q2, .inr ⟨rfl, _, q3⟩⟩
    | exit id =>
      obtain ⟨X2, g2, f2, r2, i2⟩ := hp
      have hend := run_endRound (P := P) (some (.exit id)) r2
      rw [← hrb] at hend
      obtain ⟨q1, q2, q3⟩ := fin _ (hIx (.exit id)) _ g2 f2 i2
      exact ⟨_, _, hend, _, q1, q2, .inr ⟨rfl, _, q3⟩⟩
    | goto t =>
      obtain ⟨X2, g2, f2, r2, i2⟩ := hp
      have hend := run_endRound (P := P) (some (.goto t)) r2
      rw [← hrb] at hend
      obtain ⟨q1, q2, q3⟩ := fin _ (hIx (.goto t)) _ g2 f2 i2
      exact ⟨_, _, hend, _, q1, q2, .inr ⟨rfl, _, q3⟩⟩
    | panic ch => exact hp.elim
    | outgrown => exact hp.elim
/-- an outermost loop -/
theorem wpIn_rangeF {n : Nat} {P : Program} {w : World} {α : Type} {a : Act} {Q : Exit → Act → World → Prop} {g : Operand} {assign body : Code} {ps : Array Tmp} {gf : Nat} {lb : Array Value}
    {X Y : Nat → Prop} {encs : α → Array Value} {xs : List α} (I : List α → (Nat → Prop) → World → Prop) (Ix : Code → List α → (Nat → Prop) → World → Prop)
    (hg : a.eval g = .func (.func gf) #[] lb) (hseq : SeqF P gf lb encs Y xs w) (hX : ∀ k, X k → k < w.heap.size ∧ ¬ Y k) (hY : ∀ b, Y b → b < w.heap.size) (h1 : 1 ≤ n)
    (eg : ∀ args v, (callFunc gf args).run P v = .ok (.enter gf args) v) (hps : ∀ x, (encs x).size = ps.size) (hI : Stays I) (hIx : ∀ c, Stays (Ix c)) (h0 : I [] X w)
    (hround : ∀ l pre x r X1 V (K : Act → World → Prop) rb, w.heap.size ≤ l → pre ++ x :: r = xs → I pre X1 V → GrowX X X1 w V → ¬ X1 l → Fr X w V → l < V.heap.size →
      (∀ a1 Va, Fr (fun _ => False) V Va → (∀ Vb, Fr (fun k => k = l) V Vb → Vb.heap.size = Va.heap.size → (∀ k, k ≠ l → Vb.heap[k]? = Va.heap[k]?) → Vb.heap[l]? = some (.loop rb) → body.wpIn (Fence.wide.inRound l) (n - 1 - 1) P (EndF l rb X1 I Ix (pre ++ [x]) V) a1 Vb) → K a1 Va) →
      assign.wpIn (Fence.wide.inRound l) (n - 1 - 1) P (Exit.then K fun _ _ _ => False) { tmps := (ps.zip (encs x)).foldl (fun t (p, v) => t.setIfInBounds p v) a.tmps, defers := [] } V)
    (hdone : ∀ D X2 V, w.heap.size ≤ D → ¬ X2 D → GrowX X X2 w V → Fr X w V → I xs X2 V → V.heap[D]? = some (.deferred (some [])) → Q .normal { a with defers := { target := .collected D, args := #[] } :: a.defers } V)
    (hstop : ∀ D c pre r X2 V, w.heap.size ≤ D → pre ++ r = xs → ¬ X2 D → GrowX X X2 w V → Fr X w V → Ix c pre X2 V → V.heap[D]? = some (.deferred (some [])) → c.wpIn Fence.wide n P Q { a with defers := { target := .collected D, args := #[] } :: a.defers } V) :
    (Code.rangeFunc g ps assign body).wpIn Fence.wide n P Q a w := by
  refine wpIn_rangeFunc fun fn hfn => ?_
  obtain ⟨V1, hV1⟩ : ∃ V1, (w.alloc (.deferred (some []))).alloc (.loop (recF fn a.tmps ps assign body w.heap.size .ready none)) = V1 := ⟨_, rfl⟩
  have hz : V1.heap.size = w.heap.size + 2 := by rw [← hV1]; simp
  have hr : V1.heap[w.heap.size + 1]? = some (.loop (recF fn a.tmps ps assign body w.heap.size .ready none)) := by
    subst hV1
    have h := World.alloc_heap_new (w.alloc (.deferred (some []))) (.loop (recF fn a.tmps ps assign body w.heap.size .ready none))
    rwa [World.size_alloc] at h
  have hd : V1.heap[w.heap.size]? = some (.deferred (some [])) := by
    subst hV1
    exact (Below.heap_alloc _ _ _ (by simp)).trans (World.alloc_heap_new w _)
  have hw : Fr (fun _ => False) w V1 := by subst hV1; exact ((Fr.refl _ w).alloc _).alloc _
  refine ⟨w.heap.size + 1, [{ target := .collected w.heap.size, args := #[] }], V1, { target := .fn (.func gf) lb, args := #[.func (.yield (w.heap.size + 1)) #[] #[]] }, V1, gf, #[.func (.yield (w.heap.size + 1)) #[] #[]] ++ lb, V1, ?_, ?_, ?_, ?_, fun _ => h1, ?_⟩
  · rw [← hV1]; exact run_enterLoop_outer _ _ _ _ _
  · simp only [resolve, hg]; simp [go_sem]
  · intro f' _; trivial
  · simp [invoke, go_sem, eg]
  refine (calls_wide (.inl rfl) (range_core (n := n - 1 - 1) (E := fun k => k = w.heap.size) I Ix hseq hX hY hps hI hIx h0 hw (by omega) (fun k hk => by subst hk; omega) hr
    (fun pre x r X1 V K rb h1 h2 h3 h4 h5 h6 h7 => hround (w.heap.size + 1) pre x r X1 V K rb (by omega) h1 h2 h3 (fun e => (h4 _ e).1 rfl) h5 h6 h7))).mono ?_
  rintro e V2 ⟨⟨v, rfl⟩, X2, g2, x2, f2, e2, l2, h⟩
  have hD : ∀ o, (V2.putObj (w.heap.size + 1) o).heap[w.heap.size]? = some (.deferred (some [])) := fun o => (World.putObj_heap_other (by omega)).trans ((e2 _ rfl).trans hd)
  have hput : ∀ o, Fr X w (V2.putObj (w.heap.size + 1) o) := fun o => f2.trans3 ((Fr.refl (fun k => k = w.heap.size + 1) V2).putObj _ rfl o) fun k hk e => by omega
  have hst : ∀ o, Fr (fun k => ¬ X2 k) V2 (V2.putObj (w.heap.size + 1) o) := fun o => (Fr.refl _ V2).putObj _ (fun e => (x2 _ e).1 rfl) o
  have hgr : ∀ o, GrowX X X2 w (V2.putObj (w.heap.size + 1) o) := fun o k hk => by rw [putObj_size]; exact g2 k hk
  rcases h with ⟨hi, hr2⟩ | ⟨pre, r, c, hpr, hi, hr2⟩
  · exact ⟨none, _, run_endLoop (P := P) hr2 (by simp [recF]), hdone _ X2 _ (Nat.le_refl _) (fun e => (x2 _ e).2 rfl) (hgr _) (hput _) (hI _ X2 V2 _ hi (fun k hk => (g2 k hk).1) (hst _)) (hD _)⟩
  · exact ⟨some c, _, run_endLoop (P := P) hr2 (by simp [recF]), hstop _ c pre r X2 _ (Nat.le_refl _) hpr (fun e => (x2 _ e).2 rfl) (hgr _) (hput _) (hIx c _ X2 V2 _ hi (fun k hk => (g2 k hk).1) (hst _)) (hD _)⟩
/-- a loop within a round -/
theorem wpIn_rangeFN {n : Nat} {P : Program} {w : World} {α : Type} {a : Act} {Q : Exit → Act → World → Prop} {g : Operand} {assign body : Code} {ps : Array Tmp} {gf : Nat} {lb : Array Value} {l0 : Nat} {r0 : Loop}
    {X Y : Nat → Prop} {encs : α → Array Value} {xs : List α} (I : List α → (Nat → Prop) → World → Prop) (Ix : Code → List α → (Nat → Prop) → World → Prop) (hl0 : w.heap[l0]? = some (.loop r0))
    (hg : a.eval g = .func (.func gf) #[] lb) (hseq : SeqF P gf lb encs Y xs w) (hX : ∀ k, X k → k < w.heap.size ∧ ¬ Y k) (hY : ∀ b, Y b → b < w.heap.size) (h1 : 1 ≤ n)
    (eg : ∀ args v, (callFunc gf args).run P v = .ok (.enter gf args) v) (hps : ∀ x, (encs x).size = ps.size) (hI : Stays I) (hIx : ∀ c, Stays (Ix c)) (h0 : I [] X w)
    (hround : ∀ l pre x r X1 V (K : Act → World → Prop) rb, w.heap.size ≤ l → pre ++ x :: r = xs → I pre X1 V → GrowX X X1 w V → ¬ X1 l → Fr X w V → l < V.heap.size →
      (∀ a1 Va, Fr (fun _ => False) V Va → (∀ Vb, Fr (fun k => k = l) V Vb → Vb.heap.size = Va.heap.size → (∀ k, k ≠ l → Vb.heap[k]? = Va.heap[k]?) → Vb.heap[l]? = some (.loop rb) → body.wpIn (Fence.wide.inRound l) (n - 1 - 1) P (EndF l rb X1 I Ix (pre ++ [x]) V) a1 Vb) → K a1 Va) →
      assign.wpIn (Fence.wide.inRound l) (n - 1 - 1) P (Exit.then K fun _ _ _ => False) { tmps := (ps.zip (encs x)).foldl (fun t (p, v) => t.setIfInBounds p v) a.tmps, defers := [] } V)
    (hdone : ∀ X2 V, GrowX X X2 w V → Fr X w V → I xs X2 V → Q .normal a V)
    (hstop : ∀ c pre r X2 V, pre ++ r = xs → GrowX X X2 w V → Fr X w V → Ix c pre X2 V → c.wpIn (Fence.wide.inRound l0) n P Q a V) :
    (Code.rangeFunc g ps assign body).wpIn (Fence.wide.inRound l0) n P Q a w := by
  refine wpIn_rangeFunc fun fn hfn => ?_
  obtain ⟨V1, hV1⟩ : ∃ V1, w.alloc (.loop (recF fn a.tmps ps assign body r0.defers .ready none)) = V1 := ⟨_, rfl⟩
  have hz : V1.heap.size = w.heap.size + 1 := by rw [← hV1]; simp
  have hr : V1.heap[w.heap.size]? = some (.loop (recF fn a.tmps ps assign body r0.defers .ready none)) := by subst hV1; exact World.alloc_heap_new w _
  have hw : Fr (fun _ => False) w V1 := by subst hV1; exact (Fr.refl _ w).alloc _
  refine ⟨w.heap.size, [], V1, { target := .fn (.func gf) lb, args := #[.func (.yield w.heap.size) #[] #[]] }, V1, gf, #[.func (.yield w.heap.size) #[] #[]] ++ lb, V1, ?_, ?_, ?_, ?_, fun _ => h1, ?_⟩
  · rw [← hV1]; exact run_enterLoop_inner hl0 _ _ _ _ _
  · simp only [resolve, hg]; simp [go_sem]
  · intro f' _; trivial
  · simp [invoke, go_sem, eg]
  refine (calls_wide (.inr ⟨l0, rfl⟩) (range_core (n := n - 1 - 1) (E := fun _ => False) I Ix hseq hX hY hps hI hIx h0 hw (Nat.le_refl _) (fun k hk => hk.elim) hr
    (fun pre x r X1 V K rb h1 h2 h3 h4 h5 h6 h7 => hround w.heap.size pre x r X1 V K rb (Nat.le_refl _) h1 h2 h3 (fun e => (h4 _ e).1 rfl) h5 h6 h7))).mono ?_
  rintro e V2 ⟨⟨v, rfl⟩, X2, g2, x2, f2, e2, l2, h⟩
  have hput : ∀ o, Fr X w (V2.putObj w.heap.size o) := fun o => f2.trans3 ((Fr.refl (fun k => k = w.heap.size) V2).putObj _ rfl o) fun k hk e => by omega
  have hst : ∀ o, Fr (fun k => ¬ X2 k) V2 (V2.putObj w.heap.size o) := fun o => (Fr.refl _ V2).putObj _ (fun e => (x2 _ e).1 rfl) o
  have hgr : ∀ o, GrowX X X2 w (V2.putObj w.heap.size o) := fun o k hk => by rw [putObj_size]; exact g2 k hk
  rcases h with ⟨hi, hr2⟩ | ⟨pre, r, c, hpr, hi, hr2⟩
  · exact ⟨none, _, run_endLoop (P := P) hr2 (by simp [recF]), hdone X2 _ (hgr _) (hput _) (hI _ X2 V2 _ hi (fun k hk => (g2 k hk).1) (hst _))⟩
  · exact ⟨some c, _, run_endLoop (P := P) hr2 (by simp [recF]), hstop c pre r X2 _ hpr (hgr _) (hput _) (hIx c _ X2 V2 _ hi (fun k hk => (g2 k hk).1) (hst _))⟩
end Go.Proofs.YtkbgpajconhgjaaGreatDoor
end
section
/- A function value that tells a row; it tells it still where its blocks lie as they lay. -/
namespace Go.Proofs.YtkbgpajconhgjaaGreatDoor
open Go Go.RowKit

/-- what tells xs out of blocks Y -/
def TellsF {α : Type} (P : Program) (encs : α → Array Value) (w : World) (F : Value) (Y : Nat → Prop) (xs : List α) : Prop :=
  ∃ gf lb, F = .func (.func gf) #[] lb ∧ SeqF P gf lb encs Y xs w ∧ (∀ b, Y b → b < w.heap.size) ∧ (∀ args v, (callFunc gf args).run P v = .ok (.enter gf args) v)
theorem SeqF.same {α : Type} {P : Program} {g : Nat} {lb : Array Value} {encs : α → Array Value} {Y : Nat → Prop} {xs : List α} {w W : World} (h : SeqF P g lb encs Y xs w) (hs : SameX Y w W) : SeqF P g lb encs Y xs W :=
  fun l J Jx X V h1 => h l J Jx X V (hs.trans h1)
theorem TellsF.fr {α : Type} {P : Program} {encs : α → Array Value} {X Y : Nat → Prop} {w W : World} {F : Value} {xs : List α} (h : TellsF P encs w F Y xs) (hf : Fr X w W) (hX : ∀ b, Y b → ¬ X b) : TellsF P encs W F Y xs := by
  obtain ⟨gf, lb, h1, h2, h3, h4⟩ := h
  exact ⟨gf, lb, h1, h2.same fun b hb => hf.block b (h3 b hb) (hX b hb), fun b hb => Nat.lt_of_lt_of_le (h3 b hb) hf.size, h4⟩
theorem TellsF.below {α : Type} {P : Program} {encs : α → Array Value} {Y : Nat → Prop} {w W : World} {F : Value} {xs : List α} (h : TellsF P encs w F Y xs) (hb : RowKit.Below w.heap.size w W) : TellsF P encs W F Y xs :=
  h.fr (Fr.of_below (X := fun _ => False) hb) fun _ _ e => e
/-- J of blocks X hangs on a frame that leaves them -/
theorem Stays.fr {β : Type} {J : β → (Nat → Prop) → World → Prop} (h : Stays J) {s : β} {X Z : Nat → Prop} {V V' : World} (hj : J s X V) (hl : ∀ k, X k → k < V.heap.size) (hf : Fr Z V V') (hz : ∀ k, Z k → ¬ X k) : J s X V' :=
  h s X V V' hj hl (hf.mono fun k _ e => hz k e)
theorem stays_and {β : Type} {J K : β → (Nat → Prop) → World → Prop} (h1 : Stays J) (h2 : Stays K) : Stays fun s X V => J s X V ∧ K s X V := fun s X V V' h hl hf => ⟨h1 s X V V' h.1 hl hf, h2 s X V V' h.2 hl hf⟩
theorem stays_pure {β : Type} (p : β → Prop) : Stays fun s (_ : Nat → Prop) (_ : World) => p s := fun _ _ _ _ h _ _ => h
/-- the marks of outermost loops are taken up at the function's end -/
def markF (D : Nat) : Deferred := { target := .collected D, args := #[] }
theorem leavesF {F : Fence} {n : Nat} {P : Program} {fn : Func} {tmps : Array Value} {R : Ending → World → Prop} : ∀ (Ds : List Nat) (w : World), Ds.Nodup → (∀ D ∈ Ds, w.heap[D]? = some (.deferred (some []))) →
    (∀ w', Fr (fun k => k ∈ Ds) w w' → ∃ v, (results fn tmps).run P w' = .ok v w' ∧ R (.returned v) w') → LeavesInM F n P fn tmps R (Ds.map markF) .returning w
  | [], w, _, _, h => h w (Fr.refl _ _)
  | D :: Ds, w, hn, hd, h => by
    rw [List.nodup_cons] at hn
    have h0 := hd D (by simp)
    refine ⟨by simp, .inl ⟨_, _, rfl, run_takeDeferred h0, ?_⟩⟩
    refine leavesF Ds _ hn.2 (fun D2 h2 => (World.putObj_heap_other fun e => hn.1 (by cases e; exact h2)).trans (hd D2 (by simp [h2]))) fun w' hf => h w' ?_
    have h1 : Fr (fun k => k ∈ D :: Ds) w (w.putObj D (.deferred none)) := ⟨rfl, rfl, rfl, by simp [World.putObj], fun k _ hk => World.putObj_heap_other fun e => hk (by simp [e])⟩
    exact h1.trans3 hf fun k _ hk => by simp [hk]
theorem leaves_one {F : Fence} {n : Nat} {P : Program} {fn : Func} {tmps : Array Value} {R : Ending → World → Prop} (D : Nat) (w : World) (hd : w.heap[D]? = some (.deferred (some [])))
    (h : ∀ w', Fr (fun k => k = D) w w' → ∃ v, (results fn tmps).run P w' = .ok v w' ∧ R (.returned v) w') : LeavesInM F n P fn tmps R [{ target := .collected D, args := #[] }] .returning w :=
  leavesF [D] w (by simp) (fun D2 h2 => by rw [List.mem_singleton] at h2; subst h2; exact hd) fun w' hf => h w' (hf.mono fun k _ e => by simpa using e)
end Go.Proofs.YtkbgpajconhgjaaGreatDoor
end
