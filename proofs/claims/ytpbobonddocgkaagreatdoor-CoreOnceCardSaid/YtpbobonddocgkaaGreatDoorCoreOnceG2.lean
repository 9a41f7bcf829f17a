/- Texts of this proof, one behind the other. -/
import Derived.Below
import Derived.Laws.Rows
import Derived.RangeFuncNested
import Derived.Deep.Draws
import Derived.Test.YtpbobonddocgkaaGreatDoorCoreOnceG1
import Derived.Sort.OwnSortedInts
import Derived.RangeFuncBound
import Derived.RangeFuncCalls
import Derived.RangeFuncLeaves
import Derived.Deep.RegionHeld3
set_option linter.unusedVariables false
set_option linter.unusedSimpArgs false
section
/- What a call leaves as it lay: all blocks but those of X, and new ones. A block of cells, known whole. -/
namespace Go.Proofs.YtpbobonddocgkaaGreatDoor
open Go Go.RowKit

structure Fr (X : Nat → Prop) (w w' : World) : Prop where
  os : w'.os = w.os
  tape : w'.tape = w.tape
  output : w'.output = w.output
  size : w.heap.size ≤ w'.heap.size
  block : ∀ k, k < w.heap.size → ¬ X k → w'.heap[k]? = w.heap[k]?
section
variable {X Y : Nat → Prop} {a b c w w' : World}
theorem Fr.refl (X : Nat → Prop) (w : World) : Fr X w w := ⟨rfl, rfl, rfl, Nat.le_refl _, fun _ _ _ => rfl⟩
theorem Fr.trans (h : Fr X a b) (k : Fr X b c) : Fr X a c :=
  ⟨k.os.trans h.os, k.tape.trans h.tape, k.output.trans h.output, Nat.le_trans h.size k.size, fun i hi hx => (k.block i (Nat.lt_of_lt_of_le hi h.size) hx).trans (h.block i hi hx)⟩
theorem Fr.mono (h : Fr X w w') (hx : ∀ k, k < w.heap.size → X k → Y k) : Fr Y w w' := ⟨h.os, h.tape, h.output, h.size, fun k hk hy => h.block k hk fun e => hy (hx k hk e)⟩
theorem Fr.drew (h : Fr X a w) : Fr X a w.drew := ⟨h.os, h.tape, h.output, h.size, h.block⟩
theorem Fr.drewN (h : Fr X a w) : ∀ n, Fr X a (w.drewN n)
  | 0 => h
  | n + 1 => ⟨h.os, h.tape, h.output, h.size, h.block⟩
theorem Fr.alloc (h : Fr X a w) (o : Obj) : Fr X a (w.alloc o) :=
  ⟨h.os, h.tape, h.output, by rw [World.size_alloc]; have := h.size; omega, fun k hk hx => (Below.heap_alloc w o k (Nat.lt_of_lt_of_le hk h.size)).trans (h.block k hk hx)⟩
theorem Fr.setCell (h : Fr X a w) (p : Addr) (hp : X p.block) (u : Value) : Fr X a (w.setCell p u) := by
  refine ⟨?_, ?_, ?_, ?_, fun k hk hx => (Below.heap_setCell w p u k fun e => hx (e ▸ hp)).trans (h.block k hk hx)⟩
  all_goals have B := (Below.refl 0 w).setCell (p := p) (Nat.zero_le _) u
  · exact B.os.trans h.os
  · exact B.tape.trans h.tape
  · exact B.output.trans h.output
  · exact Nat.le_trans h.size B.size
theorem Fr.setNew (h : Fr X a w) (p : Addr) (hp : a.heap.size ≤ p.block) (u : Value) : Fr X a (w.setCell p u) := by
  refine ⟨?_, ?_, ?_, ?_, fun k hk hx => (Below.heap_setCell w p u k fun e => by omega).trans (h.block k hk hx)⟩
  all_goals have B := (Below.refl 0 w).setCell (p := p) (Nat.zero_le _) u
  · exact B.os.trans h.os
  · exact B.tape.trans h.tape
  · exact B.output.trans h.output
  · exact Nat.le_trans h.size B.size
theorem Fr.of_below (h : Below w.heap.size w w') : Fr X w w' := ⟨h.os, h.tape, h.output, h.size, fun k hk _ => h.block k hk⟩
theorem Fr.below (h : Fr X w w') {B : Nat} (hB : B ≤ w.heap.size) (hx : ∀ k, k < w.heap.size → X k → B ≤ k) : Below B w w' :=
  ⟨h.os, h.tape, h.output, h.size, fun k hk => h.block k (Nat.lt_of_lt_of_le hk hB) fun e => by have := hx k (Nat.lt_of_lt_of_le hk hB) e; omega⟩
theorem Fr.grown {row : Option Nat} (h : Fr X a w) (hg : w.grownBy w' row) (hr : ∀ k, row = some k → a.heap.size ≤ k ∨ X k) : Fr X a w' :=
  ⟨hg.os.trans h.os, hg.tape.trans h.tape, hg.output.trans h.output, Nat.le_trans h.size hg.size, fun k hk hx => (hg.block k (Nat.lt_of_lt_of_le hk h.size) fun e => by rcases hr k e.symm with h | h; omega; exact hx h).trans (h.block k hk hx)⟩
theorem Fr.cell (h : Fr X w w') {p : Addr} (hp : p.block < w.heap.size) (hx : ¬ X p.block) : w'.cell? p = w.cell? p := World.cell?_of_block (w := w) (h.block p.block hp hx)
theorem Fr.frozen (h : Fr X w w') {p : Addr} (hp : p.block < w.heap.size) (hx : ¬ X p.block) : w'.frozen? p = w.frozen? p := World.frozen?_of_block (w := w) (h.block p.block hp hx)
theorem Fr.blk (h : Fr X w w') {k : Nat} {o : Obj} (hk : w.heap[k]? = some o) (hx : ¬ X k) : w'.heap[k]? = some o := (h.block k (Array.getElem?_eq_some_iff.1 hk).1 hx).trans hk
/-- no block of cells was made anything else: what a round of a loop over a function owes -/
theorem Fr.keeps (h : Fr X w w') (hx : ∀ k, k < w.heap.size → X k → ∃ o, w.heap[k]? = some o ∧ o.isCells = true) (B : Nat) : KeepsFrom B w w' :=
  ⟨h.size, fun k o _ ho hc => h.blk ho fun e => by
    obtain ⟨o2, h2, h3⟩ := hx k (Array.getElem?_eq_some_iff.1 ho).1 e
    rw [ho] at h2; cases h2; rw [hc] at h3; cases h3⟩
end
section
variable {W : World} {B : Nat} {cs : Array Value} {T : TypeId}
theorem blk_lt {o : Obj} (h : W.heap[B]? = some o) : B < W.heap.size := (Array.getElem?_eq_some_iff.1 h).1
theorem blk_cell (h : W.heap[B]? = some (.cells cs T (0, 0))) (j : Nat) : W.cell? ⟨B, j, none⟩ = cs[j]? := cell_of_row W B j cs T _ h
theorem blk_free (h : W.heap[B]? = some (.cells cs T (0, 0))) (j : Nat) : W.frozen? ⟨B, j, none⟩ = false := frozen_of_row W B j cs T h
theorem blk_set (h : W.heap[B]? = some (.cells cs T (0, 0))) (j : Nat) (v : Value) : (W.setCell ⟨B, j, none⟩ v).heap[B]? = some (.cells (cs.setIfInBounds j v) T (0, 0)) := heap_setCell_same W B j cs T v h
theorem blk_other {o : Obj} (h : W.heap[B]? = some o) (p : Addr) (hp : B ≠ p.block) (v : Value) : (W.setCell p v).heap[B]? = some o := (heap_setCell_other W p B v hp).trans h
theorem blk_alloc {o : Obj} (h : W.heap[B]? = some o) (o' : Obj) : (W.alloc o').heap[B]? = some o := (Below.heap_alloc W o' B (blk_lt h)).trans h
theorem blk_drew {o : Obj} (h : W.heap[B]? = some o) : W.drew.heap[B]? = some o := h
end
/-- a row lies as it lay, if its block does -/
theorem row_same {w w' : World} {base : Nat} {e : TypeId} {size : Nat} {v : Value} {n : Nat} {xs : List Value} (h : w.ownsRow base e size v n xs) (hs : ∀ g, v.ownBlock = some g → w'.heap[g]? = w.heap[g]?) : w'.ownsRow base e size v n xs := by
  obtain ⟨h1, h2⟩ := h
  refine ⟨h1, ?_⟩
  rcases h2 with h2 | ⟨g, cap, cur, rfl, h3, h4, h5⟩
  · exact .inl h2
  · exact .inr ⟨g, cap, cur, rfl, h3, (hs g rfl).trans h4, h5⟩
theorem row_slice {w : World} {base : Nat} {e : TypeId} {size : Nat} {v : Value} {n : Nat} {xs : List Value} (h : w.ownsRow base e size v n xs) : ∃ A c, v = .slice A n c := by
  rcases h.2 with ⟨rfl, rfl⟩ | ⟨g, cap, cur, rfl, _⟩
  · exact ⟨_, _, rfl⟩
  · exact ⟨_, _, rfl⟩
/-- what is no cells turned: blocks of cells lie as they lay -/
theorem put_blk {W : World} {D k : Nat} {o o' : Obj} {cs : Array Value} {T : TypeId} (hD : W.heap[D]? = some o) (ho : o.isCells = false) (hk : W.heap[k]? = some (.cells cs T (0, 0))) : (W.putObj D o').heap[k]? = some (.cells cs T (0, 0)) :=
  (World.putObj_heap_other fun e => by subst e; rw [hk] at hD; cases hD; cases ho).trans hk
theorem put_row {W : World} {D : Nat} {o o' : Obj} (hD : W.heap[D]? = some o) (ho : o.isCells = false) {base : Nat} {e : TypeId} {size : Nat} {v : Value} {n : Nat} {xs : List Value} (h : W.ownsRow base e size v n xs) : (W.putObj D o').ownsRow base e size v n xs := by
  obtain ⟨h1, h2⟩ := h
  refine ⟨h1, ?_⟩
  rcases h2 with h2 | ⟨g, cap, cur, rfl, h3, h4, h5⟩
  · exact .inl h2
  · exact .inr ⟨g, cap, cur, rfl, h3, put_blk hD ho h4, h5⟩
theorem put_below {W : World} {D B : Nat} {o' : Obj} (hD : B ≤ D) (hB : B ≤ W.heap.size) : Below B W (W.putObj D o') := (Below.refl B W).grown (grownBy_putObj' W D o') hB (fun k e => by cases e; exact hD)
/-- a result that lies in a cell -/
theorem results_box {P : Program} {fn : Func} {p : Tmp} {ty : TypeId} (h : fn.results = #[.cell p ty]) (tmps : Array Value) (w : World) (g : Nat) (v : Value) (d : TypeDesc) (hp : tmps.getD p undef = .pointer (some ⟨g, 0, none⟩)) (hc : w.cell? ⟨g, 0, none⟩ = some v)
    (hu : P.underlying ty = some d) (hd : (match d with | .struct _ | .array _ _ => true | _ => false) = false) : (results fn tmps).run P w = .ok v w := by
  have hp' : tmps[p]?.getD undef = .pointer (some ⟨g, 0, none⟩) := by simpa using hp
  have hagg : (isAgg ty).run P w = .ok false w := by
    unfold isAgg
    rw [Sem.run_bind, run_underlying hu w]
    cases d <;> simp_all
  simp [results, h, hp', asAddr, loadVar, Sem.run_bind, hagg, go_sem, hc]
/-- block B holds these cells, whatever is laid besides -/
theorem blk_own {β : Type} (B : Nat) (T : TypeId) (f : β → Array Value) : Own (fun s W => W.heap[B]? = some (.cells (f s) T (0, 0))) := fun s X Y row hs hg hrow =>
  (hg.block B (blk_lt hs) (fun e => by obtain ⟨o, ho, hc⟩ := hrow B e.symm; rw [hs] at ho; cases ho; cases hc)).trans hs
end Go.Proofs.YtpbobonddocgkaaGreatDoor
end
section
/- Layer 10: the library's functions at slices of integers of the call's own, in the words of what is owned. -/
namespace Go.Proofs.YtpbobonddocgkaaGreatDoor
open Go Go.RowKit Go.Lib Go.Sort Go.Shelf

/-- slice v holds these numbers, in a row of its own -/
def OwnI (base : Nat) (W : World) (v : Value) (xs : List Int) : Prop := W.ownsRow base 3 1 v xs.length (xs.map (Value.int .i64))
/-- the block of a slice -/
def vB (v : Value) : Nat → Prop := fun k => v.ownBlock = some k

theorem fr_sorted {w : World} {g n : Nat} {os : Array Obj} (d : Array Int) {cap m : Nat} : Fr (vB (.slice (some ⟨g, 0, none⟩) m cap)) w (grow (putRow (Value.int .i64) (Sort.ahead w n) g 0 d) os) :=
  (Fr.refl _ w).grown (grownBy_sortedI d) fun k hk => .inr (by cases hk; rfl)
theorem Fr.trans2 {X Y : Nat → Prop} {a b c : World} (h : Fr X a b) (k : Fr Y b c) (hx : ∀ k, k < a.heap.size → Y k → X k) : Fr X a c :=
  ⟨k.os.trans h.os, k.tape.trans h.tape, k.output.trans h.output, Nat.le_trans h.size k.size, fun i hi hn => (k.block i (Nat.lt_of_lt_of_le hi h.size) fun e => hn (hx i hi e)).trans (h.block i hi hn)⟩
/-- the block that a slice lies in is that of another, or new -/
def Tie (w : World) (v v' : Value) : Prop := ∀ k, v'.ownBlock = some k → k < w.heap.size → v.ownBlock = some k
theorem tie_same {w : World} {v v' : Value} (h : v'.ownBlock = v.ownBlock) : Tie w v v' := fun k hk _ => h ▸ hk
theorem tie_new {w : World} {v v' : Value} {n : Nat} (h : v'.ownBlock = some n) (hn : w.heap.size ≤ n) : Tie w v v' := fun k hk hl => by rw [h] at hk; cases hk; omega
theorem sort_own {base : Nat} {w : World} {v : Value} {xs : List Int} (h : OwnI base w v xs) (hl : xs.length ≤ 1000000) :
    Calls Tryz.prog 131 #[v] w fun e w' => e = .returned (.tuple #[]) ∧ OwnI base w' v (xs.mergeSort fun x y => decide (x ≤ y)) ∧ Fr (vB v) w w' := by
  rcases h.2 with ⟨rfl, h0⟩ | ⟨g, cap, cur, rfl, hb, hg, hn, hm, hs, ht⟩
  · obtain rfl : xs = [] := List.length_eq_zero_iff.1 h0
    refine (Tryz.slices_Sort_int_none none 0 w).mono ?_
    rintro e w' ⟨rfl, rfl⟩
    exact ⟨rfl, by simpa using h, Fr.refl _ _⟩
  · rw [Nat.mul_one] at ht
    refine (Tryz.slices_Sort_int g 0 cap xs w (holds_of_blockI hg ht) (blk_lt hg) (by omega)).mono ?_
    rintro e w' ⟨rfl, n, os, rfl⟩
    have hlen : (xs.mergeSort fun x y => decide (x ≤ y)).length = xs.length := List.length_mergeSort _
    refine ⟨rfl, ?_, fr_sorted _⟩
    have := ownsRow_sortedI (n := n) (os := os) hlen hb hg hn hm hs
    unfold OwnI
    rw [hlen]
    exact this

/-- each one once, of a row that doesn't fall -/
theorem compact_own {base : Nat} {w : World} {v : Value} {xs : List Int} (h : OwnI base w v xs) (hl : xs.length ≤ 1000000) :
    Calls Tryz.prog 132 #[v, .func (.func 133) #[] #[]] w fun e w' => (∃ v', e = .returned v' ∧ OwnI base w' v' (compact xs)) ∧ Fr (vB v) w w' := by
  rcases h.2 with ⟨rfl, h0⟩ | ⟨g, cap, cur, rfl, hb, hg, hn, hm, hs, ht⟩
  · obtain rfl : xs = [] := List.length_eq_zero_iff.1 h0
    go_enter Tryz.func132, Tryz.ntmps132
    go_wp2_with fail
    go_ret
    exact ⟨⟨_, rfl, World.ownsRow_nil _ _ _ _⟩, Fr.refl _ _⟩
  · rw [Nat.mul_one] at ht hs
    have hq := compactFunc_arr g 0 cap xs.toArray w (holds_of_blockI hg ht) (by simp; omega) (by simpa using hn)
    rw [List.size_toArray] at hq
    refine hq.mono ?_
    rintro e w' ⟨rfl, q, rfl⟩
    have hcl : (compact xs).length ≤ xs.length := by
      unfold compact compactUpTo
      rw [List.length_map]
      exact Nat.le_trans (List.length_filter_le _ _) (by simp)
    obtain ⟨ys, hys⟩ : ∃ ys, compact xs ++ List.replicate (xs.length - (compact xs).length) 0 = ys := ⟨_, rfl⟩
    have hyl : ys.length = xs.length := by rw [← hys]; simp; omega
    have hbe : compactUpTo xs.toArray xs.length = compact xs := rfl
    rw [hbe, hys]
    have hh := heap_sortedI (n := q) (os := #[]) ys.toArray hg
    have hgr := fr_sorted (w := w) (g := g) (n := q) (os := #[]) ys.toArray (cap := cap) (m := xs.length)
    rw [grow_empty] at hh hgr
    refine ⟨⟨_, rfl, ⟨by simp, .inr ⟨g, cap, _, rfl, hb, hh, by omega, hm, by simp [putCells, hs], ?_⟩⟩⟩, hgr⟩
    have h1 := take_putCellsI cur ys (by omega)
    have h2 := congrArg (List.take (compact xs).length) h1
    rw [List.take_take, Nat.min_eq_left (by omega), ← List.map_take, ← hys, List.take_left] at h2
    rw [Nat.mul_one, ← hys]
    exact h2
theorem bsearch_own {base : Nat} {w : World} {v : Value} {xs : List Int} (h : OwnI base w v xs) (hl : xs.length ≤ 1000000) (hs : xs.Pairwise (· ≤ ·)) (x : Int) :
    Calls Tryz.prog 108 #[v, .int .i64 x] w fun e w' => e = .returned (.tuple #[.int .i64 (xs.countP (· < x) : Nat), .bool (xs.contains x)]) ∧ ∃ q, w' = w.drewN q := by
  rcases h.2 with ⟨rfl, h0⟩ | ⟨g, cap, cur, rfl, hb, hg, hn, hm, hcs, ht⟩
  · obtain rfl : xs = [] := List.length_eq_zero_iff.1 h0
    refine (Tryz.slices_BinarySearch_int_empty none 0 x w).mono ?_
    rintro e w' ⟨rfl, rfl⟩
    exact ⟨rfl, 0, rfl⟩
  · rw [Nat.mul_one] at ht
    have hq := Tryz.slices_BinarySearch_int g 0 xs.length cap xs x w (Nat.le_refl _) (by omega) (fun j hj => by
      have := (holds_of_blockI hg ht j (by simpa using hj)).1
      rw [this]
      simp [List.getD, List.getElem?_eq_getElem hj, hj]) (by rw [List.take_length]; exact hs)
    rw [List.take_length] at hq
    exact hq
end Go.Proofs.YtpbobonddocgkaaGreatDoor
end
section
/- Layer 10: slices.Insert, Delete, Clone at slices of integers of the call's own. -/
namespace Go.Proofs.YtpbobonddocgkaaGreatDoor
open Go Go.RowKit Go.Lib Go.Sort Go.Shelf

theorem int_cells (xs : List Int) : ∀ u ∈ xs.map (Value.int .i64), u.oneCell' = true := by
  intro u hu
  obtain ⟨x, _, rfl⟩ := List.mem_map.1 hu
  rfl
/-- a row of cells written over -/
theorem heap_setCells {b : Nat} {T : TypeId} : ∀ (vs : List Value) (o : Nat) (w : World) (cur : Array Value), w.heap[b]? = some (.cells cur T (0, 0)) → ∃ cur', (w.setCells b o vs).heap[b]? = some (.cells cur' T (0, 0)) ∧ cur'.size = cur.size ∧
    ∀ j, cur'[j]? = if o ≤ j ∧ j < o + vs.length ∧ j < cur.size then vs[j - o]? else cur[j]?
  | [], o, w, cur, h => ⟨cur, h, rfl, fun j => by rw [if_neg (by simp; omega)]⟩
  | v :: r, o, w, cur, h => by
    obtain ⟨cur', h1, h2, h3⟩ := heap_setCells r (o + 1) (w.setCell ⟨b, o, none⟩ v) _ (blk_set h o v)
    refine ⟨cur', h1, by simpa using h2, fun j => ?_⟩
    rw [h3 j]
    simp only [Array.size_setIfInBounds, List.length_cons]
    by_cases e : j = o
    · subst e
      rw [if_neg (by omega), Array.getElem?_setIfInBounds, if_pos rfl]
      by_cases hj : j < cur.size
      · rw [if_pos hj, if_pos (by omega)]; simp
      · rw [if_neg hj, if_neg (by omega), Array.getElem?_eq_none (by omega)]
    · by_cases c : o + 1 ≤ j ∧ j < o + 1 + r.length ∧ j < cur.size
      · rw [if_pos c, if_pos (by omega)]
        rw [show j - o = (j - (o + 1)) + 1 by omega]; rfl
      · rw [if_neg c, Array.getElem?_setIfInBounds, if_neg (fun h => e h.symm), if_neg (by omega)]
theorem fr_setCells {X : Nat → Prop} {a : World} {b : Nat} (hb : X b ∨ a.heap.size ≤ b) : ∀ (vs : List Value) (o : Nat) (w : World), Fr X a w → Fr X a (w.setCells b o vs)
  | [], _, _, h => h
  | v :: r, o, w, h => fr_setCells hb r (o + 1) _ (by rcases hb with hb | hb; exact h.setCell _ hb _; exact h.setNew _ hb _)
theorem take_of_get {cur : Array Value} {ys : List Int} (hs : ys.length ≤ cur.size) (h : ∀ j (hj : j < ys.length), cur[j]? = some (.int .i64 ys[j])) : cur.toList.take ys.length = ys.map (Value.int .i64) := by
  apply List.ext_getElem?
  intro j
  by_cases hj : j < ys.length
  · rw [List.getElem?_take_of_lt hj, Array.getElem?_toList, h j hj]; simp [hj]
  · rw [List.getElem?_take_eq_none (by omega), List.getElem?_eq_none (by simp; omega)]
theorem own_get {base : Nat} {w : World} {g cap : Nat} {xs : List Int} {cur : Array Value} {T : TypeId} (hg : w.heap[g]? = some (.cells cur T (0, 0))) (ht : cur.toList.take xs.length = xs.map (Value.int .i64)) (j : Nat) (hj : j < xs.length) : cur[j]? = some (.int .i64 xs[j]) := by
  have h1 : (cur.toList.take xs.length)[j]? = (xs.map (Value.int .i64))[j]? := by rw [ht]
  rw [List.getElem?_take_of_lt hj, Array.getElem?_toList] at h1
  rw [h1]; simp [hj]

theorem clone_own {base : Nat} {w : World} {v : Value} {xs : List Int} (h : OwnI base w v xs) (hl : xs.length ≤ 1000000) :
    Calls Tryz.prog 167 #[v] w fun e w' => (∃ v', e = .returned v' ∧ OwnI w.heap.size w' v' xs) ∧ Below w.heap.size w w' := by
  rcases h.2 with ⟨rfl, h0⟩ | ⟨g, cap, cur, rfl, hb, hg, hn, hm, hcs, ht⟩
  · obtain rfl : xs = [] := List.length_eq_zero_iff.1 h0
    refine (Tryz.slices_Clone_int_nil 0 0 w).mono ?_
    rintro e w' ⟨rfl, rfl⟩
    exact ⟨⟨_, rfl, World.ownsRow_nil _ _ _ _⟩, Below.refl _ _⟩
  · rw [Nat.mul_one] at ht
    refine (Tryz.slices_Clone_int g 0 xs.length cap xs w (Nat.le_refl _) (by omega) (fun j hj => by
      have := (holds_of_blockI hg ht j (by simpa using hj)).1
      rw [this]
      simp [List.getD, List.getElem?_eq_getElem hj, hj])).mono ?_
    rintro e w' ⟨v', rfl, hr, _, hbl⟩
    rw [List.take_length] at hr
    exact ⟨⟨v', rfl, hr⟩, hbl⟩
end Go.Proofs.YtpbobonddocgkaaGreatDoor
end
section
/- Layer 10: slices.Insert of one number, at a row of the call's own. -/
namespace Go.Proofs.YtpbobonddocgkaaGreatDoor
open Go Go.RowKit Go.Lib Go.Sort Go.Shelf

theorem row_grown {w : World} {base : Nat} {zs : List Int} {m old : Nat} (hm : zs.length = m) (hz : m ≤ 1000001) (hb : base ≤ w.heap.size) {cur : Array Value} (hs : cur.size = grownCap w m old 3) (ht : cur.toList.take m = zs.map (Value.int .i64)) {W : World} (hW : W.heap[w.heap.size]? = some (.cells cur 3 (0, 0))) :
    OwnI base W (.slice (some ⟨w.heap.size, 0, none⟩) m (grownCap w m old 3)) zs := by
  subst hm
  refine ⟨by simp, .inr ⟨w.heap.size, _, cur, rfl, hb, hW, grownCap_ge _ _ _ _, grownCap_le_maxLen _ _ _ _ (by unfold maxLen; omega), by rw [hs, Nat.mul_one], by rw [Nat.mul_one]; exact ht⟩⟩

theorem ins_get {α : Type} (xs : List α) (i : Nat) (hi : i ≤ xs.length) (x : α) (j : Nat) : (xs.take i ++ x :: xs.drop i)[j]? = if j < i then xs[j]? else if j = i then some x else xs[j - 1]? := by
  rw [List.getElem?_append, List.length_take, Nat.min_eq_left hi]
  by_cases h : j < i
  · rw [if_pos h, if_pos h, List.getElem?_take_of_lt h]
  · rw [if_neg h, if_neg h]
    by_cases e : j = i
    · subst e; rw [if_pos rfl, Nat.sub_self]; rfl
    · rw [if_neg e, show j - i = (j - i - 1) + 1 by omega, List.getElem?_cons_succ, List.getElem?_drop, show i + (j - i - 1) = j - 1 by omega]
theorem take_of_get' {cur : Array Value} {ys : List Int} (hs : ys.length ≤ cur.size) (h : ∀ j, j < ys.length → cur[j]? = (ys[j]?).map (Value.int .i64)) : cur.toList.take ys.length = ys.map (Value.int .i64) :=
  take_of_get hs fun j hj => by rw [h j hj, List.getElem?_eq_getElem hj]; rfl
theorem own_get' {w : World} {g : Nat} {xs : List Int} {cur : Array Value} {T : TypeId} (hg : w.heap[g]? = some (.cells cur T (0, 0))) (ht : cur.toList.take xs.length = xs.map (Value.int .i64)) (j : Nat) (hj : j < xs.length) : cur[j]? = (xs[j]?).map (Value.int .i64) := by
  rw [own_get (base := 0) (w := w) (cap := 0) hg ht j hj, List.getElem?_eq_getElem hj]; rfl

set_option maxHeartbeats 1000000 in
theorem insert_own {base : Nat} {w : World} {v : Value} {xs : List Int} (h : OwnI base w v xs) (hl : xs.length ≤ 1000000) (i : Nat) (hi : i ≤ xs.length) (x : Int) (vb : Nat) (hvb : w.heap[vb]? = some (.cells #[.int .i64 x] 3 (0, 0))) (hne : v.ownBlock ≠ some vb) (hbw : base ≤ w.heap.size) :
    Calls Tryz.prog 109 #[v, .int .i64 i, .slice (some ⟨vb, 0, none⟩) 1 1] w fun e w' => (∃ v', e = .returned v' ∧ OwnI base w' v' (xs.take i ++ x :: xs.drop i) ∧ Tie w v v') ∧ Fr (vB v) w w' := by
  have hvs : ∀ j u, [Value.int .i64 x][j]? = some u → w.cell? ⟨vb, 0 + j, none⟩ = some u := by
    intro j u hu
    rw [Nat.zero_add, blk_cell hvb j]
    rw [← hu]
    exact (Array.getElem?_toList (xs := #[Value.int .i64 x]) (i := j)).symm
  have h1v : ∀ u ∈ [Value.int .i64 x], u.oneCell' = true := by intro u hu; simp at hu; subst hu; rfl
  have hT : Tryz.laysNm221_ren.t 3 = 3 := rfl
  have hlen : (xs.take i ++ x :: xs.drop i).length = xs.length + 1 := by simp; omega
  rcases h.2 with ⟨rfl, h0⟩ | ⟨g, cap, cur, rfl, hb, hg, hn, hm, hcs, ht⟩
  · obtain rfl : xs = [] := List.length_eq_zero_iff.1 h0
    obtain rfl : i = 0 := by simpa using hi
    refine (Any2.slices_Insert_int_end_grow Tryz.laysNm221 none 0 0 vb 0 1 1 [] [.int .i64 x] w (by omega) (by omega) (by omega) (by omega) rfl rfl (fun _ => rfl) (fun a ha => by cases ha) hvs h1v).mono ?_
    rintro e w' ⟨he, hw⟩
    rw [hT] at he hw
    subst he; subst hw
    refine ⟨⟨_, rfl, row_grown (zs := [x]) rfl (by simp) hbw ?_ ?_ (heap_alloc_new w.drew _), tie_new rfl (Nat.le_refl _)⟩, (Fr.refl _ w).drew.alloc _⟩
    · have := grownCap_ge w (0 + 1) 0 3
      simp [size_zeroCells, Value.cells] at this ⊢; omega
    · simp
  · rw [Nat.mul_one] at ht hcs
    have hgb : g ≠ vb := fun e => hne (by rw [e]; rfl)
    have hH := holds_of_blockI hg ht
    have hcell : ∀ j u, (xs.map (Value.int .i64))[j]? = some u → w.cell? ⟨g, 0 + j, none⟩ = some u := by
      intro j u hu
      rw [Nat.zero_add, blk_cell hg j]
      have hj : j < xs.length := by have := (List.getElem?_eq_some_iff.1 hu).1; simpa using this
      rw [own_get (base := 0) (w := w) (cap := cap) hg ht j hj, ← hu]
      simp [hj]
    have hcl : (xs.map (Value.int .i64)).length = xs.length := by simp
    have hmm := hm
    unfold maxLen at hmm
    by_cases hroom : xs.length + 1 ≤ cap
    · have hsome : ∀ j, j < cap → (w.cell? ⟨g, j, none⟩).isSome = true := fun j hj => by rw [blk_cell hg j, Array.getElem?_eq_getElem (by omega)]; rfl
      by_cases hend : i = xs.length
      · subst hend
        refine (Any2.slices_Insert_int_end_room Tryz.laysNm221 g 0 xs.length cap vb 0 1 1 [.int .i64 x] w (by omega) hroom (by omega) rfl (fun j hj => by rw [show 0 + xs.length + j = xs.length + j by omega]; exact hsome _ (by omega)) (fun j _ => blk_free hg _) hvs h1v).mono ?_
        rintro e w' ⟨rfl, rfl⟩
        obtain ⟨cur', k1, k2, k3⟩ := heap_setCells (b := g) [Value.int .i64 x] (0 + xs.length) w cur hg
        refine ⟨⟨_, rfl, ⟨by simp, .inr ⟨g, cap, cur', ?_, hb, k1, by omega, hm, by omega, ?_⟩⟩, tie_same rfl⟩, fr_setCells (X := vB (.slice (some ⟨g, 0, none⟩) xs.length cap)) (.inl (by rfl)) _ _ _ (Fr.refl _ w)⟩
        · rw [hlen]
        · rw [Nat.mul_one]
          refine take_of_get' (by omega) fun j hj => ?_
          rw [k3 j, ins_get _ _ (Nat.le_refl _)]
          by_cases e : j < xs.length
          · rw [if_neg (by omega), if_pos e]; exact own_get' hg ht j e
          · obtain rfl : j = xs.length := by omega
            rw [if_pos ⟨by omega, by simp, by omega⟩, if_neg e, if_pos rfl]
            simp
      · have hil : i < xs.length := by omega
        refine (Any2.slices_Insert_int_shift Tryz.laysNm221 g 0 xs.length cap i vb 0 1 1 (xs.map (Value.int .i64)) [.int .i64 x] w hil (by omega) hroom (by omega) (fun e => hgb e.symm) hcl rfl hcell (fun j hj => by rw [Nat.zero_add]; exact hsome j (by omega)) (fun j _ => blk_free hg _) hvs (int_cells xs) h1v _ _ _ _
          (show w.shape? vb = some (3, 1) by simp [World.shape?, hvb]) (show w.shape? g = some (3, cap) by simp [World.shape?, hg, hcs]) (by omega) (blk_free hvb _) (by simp [World.frozen?, hvb])).mono ?_
        rintro e w' ⟨rfl, rfl⟩
        obtain ⟨cur1, k1, k2, k3⟩ := heap_setCells (b := g) ((xs.map (Value.int .i64)).drop i) (0 + (i + 1)) w.drew cur hg
        obtain ⟨cur2, p1, p2, p3⟩ := heap_setCells (b := g) [Value.int .i64 x] (0 + i) _ cur1 k1
        refine ⟨⟨_, rfl, ⟨by simp, .inr ⟨g, cap, cur2, ?_, hb, p1, by omega, hm, by omega, ?_⟩⟩, tie_same rfl⟩, fr_setCells (X := vB (.slice (some ⟨g, 0, none⟩) xs.length cap)) (.inl (by rfl)) _ _ _ (fr_setCells (X := vB (.slice (some ⟨g, 0, none⟩) xs.length cap)) (.inl (by rfl)) _ _ _ (Fr.refl _ w).drew)⟩
        · rw [hlen]
        · rw [Nat.mul_one]
          refine take_of_get' (by omega) fun j hj => ?_
          rw [p3 j, ins_get _ _ hi]
          by_cases e : j = i
          · subst e
            rw [if_pos ⟨by omega, by simp, by omega⟩, if_neg (by omega), if_pos rfl]
            simp
          · rw [if_neg (by simp; omega), k3 j]
            by_cases c : j < i
            · rw [if_neg (by omega), if_pos c]; exact own_get' hg ht j (by omega)
            · rw [if_pos ⟨by omega, by simp; omega, by omega⟩, if_neg c, if_neg e, List.getElem?_drop, List.getElem?_map, show i + (j - (0 + (i + 1))) = j - 1 by omega]
    · by_cases hend : i = xs.length
      · subst hend
        refine (Any2.slices_Insert_int_end_grow Tryz.laysNm221 (some ⟨g, 0, none⟩) xs.length cap vb 0 1 1 (xs.map (Value.int .i64)) [.int .i64 x] w (by omega) hn (by omega) (by omega) hcl rfl (fun h => by cases h) (fun a ha j u hu => by cases ha; rw [Addr.add_lit]; exact hcell j u hu) hvs h1v).mono ?_
        rintro e w' ⟨he, hw⟩
        rw [hT] at he hw
        subst he; subst hw
        have e1 : (xs.map (Value.int .i64) ++ [Value.int .i64 x]).length = xs.length + 1 := by simp
        refine ⟨⟨_, rfl, row_grown (zs := xs.take xs.length ++ x :: xs.drop xs.length) (by simp) (by omega) hbw ?_ ?_ (heap_alloc_new w.drew _), tie_new rfl (Nat.le_refl _)⟩, (Fr.refl _ w).drew.alloc _⟩
        · have := grownCap_ge w (xs.length + 1) cap 3
          simp [size_zeroCells, Value.cells]; omega
        · rw [Array.toList_append, ← e1, List.take_left]
          simp
      · have hil : i < xs.length := by omega
        refine (Any2.slices_Insert_int_grow Tryz.laysNm221 g 0 xs.length cap i vb 0 1 1 (xs.map (Value.int .i64)) [.int .i64 x] w hil (by omega) hn (by omega) (by omega) hcl rfl hcell hvs (int_cells xs) h1v).mono ?_
        rintro e w' ⟨he, hw⟩
        rw [hT] at he hw
        subst he; subst hw
        have hge := grownCap_ge w (xs.length + 1) cap 3
        obtain ⟨G, hG⟩ : ∃ G, grownCap w (xs.length + 1) cap 3 = G := ⟨_, rfl⟩
        obtain ⟨C, hC⟩ : ∃ C, ((xs.map (Value.int .i64)).take i).toArray ++ Builtin.zeroCells (Value.int .i64 0).cells (xs.length + 1 - i) ++ Builtin.zeroCells (Value.int .i64 0).cells (G - (xs.length + 1)) = C := ⟨_, rfl⟩
        have hCs : C.size = G := by
          rw [← hC]
          simp [size_zeroCells, Value.cells]; omega
        have hCl : ∀ j, j < i → C[j]? = (xs[j]?).map (Value.int .i64) := fun j hj => by
          rw [← hC, Array.getElem?_append_left (by simp; omega), Array.getElem?_append_left (by simp; omega), List.getElem?_toArray, List.getElem?_take_of_lt hj, List.getElem?_map]
        rw [hG] at hge ⊢
        rw [hC]
        obtain ⟨cur1, k1, k2, k3⟩ := heap_setCells (b := w.heap.size) [Value.int .i64 x] i (w.alloc (.cells C 3)).drew C (heap_alloc_new w _)
        obtain ⟨cur2, p1, p2, p3⟩ := heap_setCells (b := w.heap.size) ((xs.map (Value.int .i64)).drop i) (i + 1) (((w.alloc (.cells C 3)).drew.setCells w.heap.size i [Value.int .i64 x]).drew) cur1 k1
        have hrow := row_grown (w := w) (old := cap) (m := xs.length + 1) (zs := xs.take i ++ x :: xs.drop i) (cur := cur2) hlen (by omega) hbw (by omega) (by
          rw [← hlen]
          refine take_of_get' (by omega) fun j hj => ?_
          rw [p3 j, ins_get _ _ hi]
          by_cases c : j < i
          · rw [if_neg (by omega), if_pos c, k3 j, if_neg (by omega)]; exact hCl j c
          · by_cases e : j = i
            · subst e
              rw [if_neg (by omega), if_neg c, if_pos rfl, k3 j, if_pos ⟨by omega, by simp, by omega⟩]
              simp
            · rw [if_pos ⟨by omega, by simp; omega, by omega⟩, if_neg c, if_neg e, List.getElem?_drop, List.getElem?_map, show i + (j - (i + 1)) = j - 1 by omega]) p1
        rw [hG] at hrow
        exact ⟨⟨_, rfl, hrow, tie_new rfl (Nat.le_refl _)⟩, fr_setCells (.inr (Nat.le_refl _)) _ _ _ (fr_setCells (.inr (Nat.le_refl _)) _ _ _ ((Fr.refl _ w).alloc _).drew).drew⟩
end Go.Proofs.YtpbobonddocgkaaGreatDoor
end
section
/- Layer 10: a set as it lies; Has, Len, List, Add. -/
namespace Go.Proofs.YtpbobonddocgkaaGreatDoor
open Go Go.RowKit Go.Lib Go.Sort Go.Shelf

/-- a set: its block, its row's block, its things -/
def SetAt (base : Nat) (w : World) (s : Nat) (ob : Option Nat) (xs : List Int) : Prop :=
  (∃ v, w.heap[s]? = some (.cells #[v] 179 (0, 0)) ∧ v.ownBlock = ob ∧ OwnI base w v xs) ∧ ob ≠ some s ∧ xs.Pairwise (· < ·)
/-- one thing more -/
def insI (xs : List Int) (x : Int) : List Int := if xs.contains x then xs else xs.take (xs.countP (· < x)) ++ x :: xs.drop (xs.countP (· < x))
theorem countP_le (xs : List Int) (x : Int) : xs.countP (· < x) ≤ xs.length := List.countP_le_length
theorem take_lt : ∀ {xs : List Int}, xs.Pairwise (· < ·) → ∀ x, (∀ y ∈ xs.take (xs.countP (· < x)), y < x) ∧ (∀ y ∈ xs.drop (xs.countP (· < x)), x ≤ y)
  | [], _, x => by simp
  | a :: xs, h, x => by
    rw [List.pairwise_cons] at h
    obtain ⟨i1, i2⟩ := take_lt h.2 x
    by_cases c : a < x
    · rw [List.countP_cons_of_pos (by simpa using c)]
      refine ⟨fun y hy => ?_, fun y hy => i2 y (by simpa using hy)⟩
      rw [List.take_succ_cons, List.mem_cons] at hy
      rcases hy with rfl | hy
      · exact c
      · exact i1 y hy
    · have hz : (a :: xs).countP (· < x) = 0 := by
        rw [List.countP_eq_zero]
        intro y hy
        rcases List.mem_cons.1 hy with rfl | hy
        · simpa using c
        · have := h.1 y hy; simp; omega
      rw [hz]
      refine ⟨by simp, fun y hy => ?_⟩
      rw [List.drop_zero] at hy
      rcases List.mem_cons.1 hy with rfl | hy
      · omega
      · have := h.1 y hy; omega
theorem insI_up {xs : List Int} (h : xs.Pairwise (· < ·)) (x : Int) : (insI xs x).Pairwise (· < ·) := by
  unfold insI
  split
  · exact h
  · next hc =>
    obtain ⟨h1, h2⟩ := take_lt h x
    have hp := h
    rw [← List.take_append_drop (xs.countP (· < x)) xs] at hp
    obtain ⟨p1, p2, p3⟩ := List.pairwise_append.1 hp
    refine List.pairwise_append.2 ⟨p1, List.pairwise_cons.2 ⟨fun y hy => ?_, p2⟩, fun y hy z hz => ?_⟩
    · have h3 := h2 y hy
      have h4 : y ≠ x := by
        rintro rfl
        exact hc (by simpa using List.mem_of_mem_drop hy)
      omega
    · rcases List.mem_cons.1 hz with rfl | hz
      · exact h1 y hy
      · exact p3 y hy z hz
theorem insI_len (xs : List Int) (x : Int) : (insI xs x).length = if xs.contains x then xs.length else xs.length + 1 := by
  unfold insI
  have := countP_le xs x
  split
  · rfl
  · simp; omega
theorem up_le {xs : List Int} (h : xs.Pairwise (· < ·)) : xs.Pairwise (· ≤ ·) := h.imp fun h => by omega
/-- many -/
def insAll (xs ls : List Int) : List Int := ls.foldl insI xs
theorem insAll_snoc (xs ls : List Int) (x : Int) : insAll xs (ls ++ [x]) = insI (insAll xs ls) x := by simp [insAll]
theorem insAll_len (xs : List Int) : ∀ ls : List Int, (insAll xs ls).length ≤ xs.length + ls.length ∧ xs.length ≤ (insAll xs ls).length := by
  refine snoc_ind ?_ ?_
  · simp [insAll]
  · intro l x ih
    rw [insAll_snoc, insI_len, List.length_append, List.length_singleton]
    split <;> omega
theorem insAll_up {xs : List Int} (h : xs.Pairwise (· < ·)) : ∀ ls : List Int, (insAll xs ls).Pairwise (· < ·) := by
  refine snoc_ind h ?_
  intro l x ih
  rw [insAll_snoc]
  exact insI_up ih x

theorem own_kept {base : Nat} {w W : World} {v : Value} {xs : List Int} (h : OwnI base w v xs) (hs : ∀ g, v.ownBlock = some g → W.heap[g]? = w.heap[g]?) : OwnI base W v xs := row_same h hs
theorem set_kept {base : Nat} {w W : World} {s : Nat} {ob : Option Nat} {xs : List Int} (h : SetAt base w s ob xs) (h1 : W.heap[s]? = w.heap[s]?) (h2 : ∀ g, ob = some g → W.heap[g]? = w.heap[g]?) : SetAt base W s ob xs := by
  obtain ⟨⟨v, a, rfl, b⟩, c, d⟩ := h
  exact ⟨⟨v, h1.trans a, rfl, own_kept b h2⟩, c, d⟩
theorem set_below {base : Nat} {w W : World} {s : Nat} {ob : Option Nat} {xs : List Int} (h : SetAt base w s ob xs) (hb : Below w.heap.size w W) : SetAt base W s ob xs := by
  obtain ⟨⟨v, a, rfl, b⟩, c, d⟩ := h
  exact ⟨⟨v, (hb.block _ (blk_lt a)).trans a, rfl, own_kept b fun g hg => hb.block g (b.lt g hg).2⟩, c, d⟩





theorem set_list_nil (w : World) : Calls Tryz.prog 144 #[.pointer none] w fun e w' => e = .returned (.slice none 0 0) ∧ w' = w := by
  go_enter Tryz.func144, Tryz.ntmps144
  go_wp2_with fail
  go_ret
  exact ⟨rfl, rfl⟩
/-- a slice of numbers, handed back -/
def ListP (xs : List Int) (w : World) (e : Ending) (w' : World) : Prop := (∃ v', e = .returned v' ∧ OwnI w.heap.size w' v' xs) ∧ Below w.heap.size w w'
theorem set_list {base : Nat} {w : World} {s : Nat} {ob : Option Nat} {xs : List Int} (h : SetAt base w s ob xs) (hl : xs.length ≤ 1000000) :
    Calls Tryz.prog 144 #[.pointer (some ⟨s, 0, none⟩)] w (ListP xs w) := by
  obtain ⟨⟨v, hv, hob, hown⟩, hne, hup⟩ := h
  have hc := clone_own hown hl
  obtain ⟨A, c, rfl⟩ := row_slice hown
  have c0 := blk_cell hv 0
  have HC := Lib.hid hc
  clear hc hv hob hown hup
  go_enter Tryz.func144, Tryz.ntmps144
  go_wp2_with fail
  refine HC.out.mono ?_
  rintro e w1 ⟨⟨v', rfl, h1⟩, h2⟩
  obtain ⟨A', c', rfl⟩ := row_slice h1
  have H := Lib.hid (And.intro h1 h2)
  clear h1 h2
  go_wp2_with fail
  go_ret
  exact ⟨⟨_, rfl, H.out.1⟩, H.out.2⟩

/-- behind some came in -/
def AddP (base : Nat) (w : World) (s : Nat) (ob : Option Nat) (xs ls : List Int) (wr : World) : Prop :=
  ∃ ob', SetAt base wr s ob' (insAll xs ls) ∧ (∀ k, ob' = some k → k < w.heap.size → ob = some k) ∧ Fr (fun k => k = s ∨ ob = some k) w wr
set_option maxRecDepth 100000 in
set_option maxHeartbeats 4000000 in
theorem set_add {base : Nat} {w : World} {s : Nat} {ob : Option Nat} {xs : List Int} (h : SetAt base w s ob xs) (hbw : base ≤ w.heap.size) (A : Option Addr) (ls : List Int) (c : Nat) (hl : xs.length + ls.length ≤ 1000000)
    (hc : 0 < ls.length → ∃ g o, A = some ⟨g, o, none⟩ ∧ g < w.heap.size ∧ g ≠ s ∧ ob ≠ some g ∧ ∀ j (h : j < ls.length), w.cell? ⟨g, o + j, none⟩ = some (.int .i64 ls[j])) :
    Calls Tryz.prog 91 #[.pointer (some ⟨s, 0, none⟩), .slice A ls.length c] w fun e w' => e = .returned (.int .i64 ((insAll xs ls).length - xs.length : Nat)) ∧ AddP base w s ob xs ls w' := by
  have hs0 : s < w.heap.size := by obtain ⟨⟨v, hv, _⟩, _⟩ := h; exact blk_lt hv
  have H0 : Hid (AddP base w s ob xs [] w) := ⟨ob, h, fun _ h _ => h, Fr.refl _ _⟩
  have HC := Lib.hid hc
  clear hc h
  go_enter Tryz.func91, Tryz.ntmps91
  go_wp2_with fail
  go_loopw [5, 14] (fun cm ct wr => ∃ k : Nat, ct = .int .i64 k ∧ k ≤ ls.length ∧ cm = .int .i64 ((insAll xs (ls.take k)).length - xs.length : Nat) ∧ Hid (AddP base w s ob xs (ls.take k) wr)) (fun _ ct _ => ls.length - (Go.RowKit.intOf ct).toNat)
  case atStart => exact ⟨0, rfl, Nat.zero_le _, by simp [insAll], by simpa using H0⟩
  case round =>
    obtain ⟨k, rfl, hk, rfl, HA⟩ := hrel
    by_cases hlt : k < ls.length
    · obtain ⟨g, o, rfl, hg, hgs, hgo, hcell⟩ := HC.out (by omega)
      obtain ⟨ob', hset, hob', hfr⟩ := HA.out
      have e0 : wr.cell? ⟨g, o + k, none⟩ = some (.int .i64 ls[k]) := (hfr.cell (p := ⟨g, o + k, none⟩) hg (by rintro (h | h); exact hgs h; exact hgo h)).trans (hcell k hlt)
      have htk : ls.take (k + 1) = ls.take k ++ [ls[k]] := List.take_succ_eq_append_getElem hlt
      obtain ⟨x, hx⟩ : ∃ x, ls[k] = x := ⟨_, rfl⟩
      rw [hx] at e0 htk
      obtain ⟨ys, hys⟩ : ∃ ys, insAll xs (ls.take k) = ys := ⟨_, rfl⟩
      have hins : insAll xs (ls.take (k + 1)) = insI ys x := by rw [htk, insAll_snoc, hys]
      have hyl := insAll_len xs (ls.take k)
      rw [List.length_take, hys] at hyl
      have hy1 : ys.length ≤ 1000000 := by omega
      have hy2 : ys.length - xs.length ≤ 1000000 := by omega
      rw [hys] at hset ⊢
      obtain ⟨⟨v, hv, hvo, hown⟩, hne, hup⟩ := hset
      have hbs := bsearch_own hown hy1 (up_le hup) x
      obtain ⟨av, cv, rfl⟩ := row_slice hown
      have c0 := blk_cell hv 0
      have f0 := blk_free hv 0
      obtain ⟨b, hb⟩ : ∃ b, ys.contains x = b := ⟨_, rfl⟩
      rw [hb] at hbs
      have hz := hfr.size
      have H := Lib.hid (And.intro hv (And.intro hvo (And.intro hown (And.intro hne (And.intro hup (And.intro hob' (And.intro hfr (And.intro hins (And.intro hyl hb)))))))))
      have HB := Lib.hid hbs
      clear hbs hv hvo hown hne hup hob' hfr hins hyl hb hys htk hx hcell
      go_wp2_with fail
      refine HB.out.mono ?_
      rintro e w1 ⟨rfl, q, rfl⟩
      cases b with
      | true =>
        go_wp2_with fail
        obtain ⟨hv, hvo, hown, hne, hup, hob', hfr, hins, hyl, hb⟩ := H.out
        have hi2 : insI ys x = ys := by unfold insI; rw [if_pos hb]
        have hnew : AddP base w s ob xs (ls.take (k + 1)) (wr.drewN q) := by
          refine ⟨ob', ⟨⟨_, hv, hvo, ?_⟩, hne, ?_⟩, hob', hfr.drewN q⟩
          · rw [hins, hi2]; exact hown
          · rw [hins, hi2]; exact hup
        have HN := Lib.hid hnew
        have hlen : (insAll xs (ls.take (k + 1))).length = ys.length := by rw [hins, hi2]
        have HL := Lib.hid hlen
        clear hnew hlen hv hvo hown hne hup hob' hfr hins hyl hb hi2
        go_roundw
        case rel => exact ⟨k + 1, by go_num, by omega, by rw [HL.out], HN⟩
        case measure => simp [Go.RowKit.intOf]; omega
      | false =>
        go_wp2_with fail
        obtain ⟨hv, hvo, hown, hne, hup, hob', hfr, hins, hyl, hb⟩ := H.out
        have hi2 : insI ys x = ys.take (ys.countP (· < x)) ++ x :: ys.drop (ys.countP (· < x)) := by unfold insI; rw [hb]; rfl
        have hil : (insI ys x).length = ys.length + 1 := by rw [insI_len, hb]; rfl
        have hiu := insI_up hup x
        obtain ⟨W2, hW2⟩ : ∃ W2, (wr.drewN q).alloc (Obj.cells #[Value.int IntKind.i64 x] 3) = W2 := ⟨_, rfl⟩
        have hsz : (wr.drewN q).heap.size = wr.heap.size := rfl
        have hf2 : Fr (fun k => k = s ∨ ob = some k) w W2 := by rw [← hW2]; exact (hfr.drewN q).alloc _
        have hv2 : W2.heap[s]? = some (.cells #[.slice av ys.length cv] 179 (0, 0)) := by rw [← hW2]; exact blk_alloc (by exact hv) _
        have hn2 : W2.heap[wr.heap.size]? = some (.cells #[.int .i64 x] 3 (0, 0)) := by rw [← hW2, ← hsz]; exact heap_alloc_new _ _
        have hbel : Below wr.heap.size wr W2 := by rw [← hW2]; exact Below.alloc (⟨rfl, rfl, rfl, Nat.le_refl _, fun _ _ => rfl⟩ : Below wr.heap.size wr (wr.drewN q)) (Nat.le_refl _) _
        have ho2 : OwnI base W2 (.slice av ys.length cv) ys := own_kept hown fun g hg => hbel.block g (hown.lt g hg).2
        have hlt2 : ob' ≠ some wr.heap.size := fun e => by have := (hown.lt wr.heap.size (by rw [hvo, e])).2; omega
        have hsl := blk_lt hv2
        have hb2 : base ≤ W2.heap.size := by have := hf2.size; omega
        have HI := Lib.hid (insert_own ho2 hy1 _ (countP_le ys x) x _ hn2 (by rw [hvo]; exact hlt2) hb2)
        rw [hW2]
        have H2 := Lib.hid (And.intro hf2 (And.intro hv2 (And.intro hil (And.intro hiu hi2))))
        clear hW2 hf2 hv2 hn2 hbel ho2 hlt2 hb2 hv hvo hown hne hup hob' hfr hins hyl hb hi2 hil hiu hsz c0 f0
        refine HI.out.mono ?_
        rintro e w3 ⟨⟨v', rfl, ho3, ht3⟩, hf3⟩
        obtain ⟨hv, hvo, hown, hne, hup, hob', hfr, hins, hyl, hb⟩ := H.out
        obtain ⟨hf2, hv2, hil, hiu, hi2⟩ := H2.out
        rw [← hi2] at ho3
        have hns : ¬ vB (.slice av ys.length cv) s := fun e => hne (hvo ▸ e)
        have hv3 := hf3.blk hv2 hns
        have c3 := blk_cell hv3 0
        have f3 := blk_free hv3 0
        obtain ⟨A', c', rfl⟩ := row_slice ho3
        have hns' : (Value.slice A' (insI ys x).length c').ownBlock ≠ some s := fun e => hns (ht3 s e hsl)
        have hnew : AddP base w s ob xs (ls.take (k + 1)) (w3.setCell ⟨s, 0, none⟩ (.slice A' (insI ys x).length c')) := by
          have hf3' : Fr (fun k => k = s ∨ ob = some k) w w3 := hf2.trans2 hf3 fun k hk e => .inr (hob' k (hvo ▸ e) hk)
          refine ⟨_, ⟨⟨_, blk_set hv3 0 _, rfl, ?_⟩, hns', ?_⟩, ?_, hf3'.setCell _ (.inl rfl) _⟩
          · rw [hins]
            exact own_kept ho3 fun g hg => Below.heap_setCell _ _ _ _ fun e => by cases e; exact hns' hg
          · rw [hins]; exact hiu
          · intro k2 hk2 hl2
            have := ht3 k2 hk2 (Nat.lt_of_lt_of_le hl2 hf2.size)
            exact hob' k2 (hvo ▸ this) hl2
        have HN := Lib.hid hnew
        have hlen : (insAll xs (ls.take (k + 1))).length = ys.length + 1 := by rw [hins, hil]
        have HL := Lib.hid hlen
        have hyx : xs.length ≤ ys.length := hyl.2
        clear hnew hlen hv hvo hown hne hup hob' hfr hins hyl hb hi2 hil hiu hf2 hv2 ho3 ht3 hf3 hns hns' hv3
        go_wp2_with fail
        go_roundw
        case rel => exact ⟨k + 1, by go_num, by omega, by rw [HL.out]; rw [show ys.length + 1 - xs.length = (ys.length - xs.length) + 1 by omega]; go_num, HN⟩
        case measure => simp [Go.RowKit.intOf]; omega
    · obtain rfl : k = ls.length := by omega
      rw [List.take_length] at HA ⊢
      go_wp2_with fail
      go_ret
      exact ⟨rfl, HA.out⟩
end Go.Proofs.YtpbobonddocgkaaGreatDoor
end
section
/- Layer 10: Remove. -/
namespace Go.Proofs.YtpbobonddocgkaaGreatDoor
open Go Go.RowKit Go.Lib Go.Sort Go.Shelf

/-- one thing less -/
def delI (xs : List Int) (x : Int) : List Int := if xs.contains x then xs.take (xs.countP (· < x)) ++ xs.drop (xs.countP (· < x) + 1) else xs
theorem countP_lt {xs : List Int} {x : Int} (hx : x ∈ xs) : xs.countP (· < x) < xs.length := by
  have h := List.countP_le_length (p := fun y => decide (y < x)) (l := xs)
  rcases Nat.lt_or_ge (xs.countP fun y => decide (y < x)) xs.length with h' | h'
  · exact h'
  · have := List.countP_eq_length.1 (Nat.le_antisymm h h') x hx
    simp at this
theorem delI_sub (xs : List Int) (x : Int) : (delI xs x).Sublist xs := by
  unfold delI
  split
  · conv => rhs; rw [← List.take_append_drop (xs.countP (· < x)) xs]
    exact List.Sublist.append (List.Sublist.refl _) (by rw [← List.drop_drop]; exact List.drop_sublist _ _)
  · exact List.Sublist.refl _
theorem delI_up {xs : List Int} (h : xs.Pairwise (· < ·)) (x : Int) : (delI xs x).Pairwise (· < ·) := h.sublist (delI_sub xs x)
theorem delI_len (xs : List Int) (x : Int) : (delI xs x).length = if xs.contains x then xs.length - 1 else xs.length := by
  unfold delI
  split
  · next hc =>
    have := countP_lt (xs := xs) (x := x) (by simpa using hc)
    simp; omega
  · rfl
/-- many -/
def delAll (xs ls : List Int) : List Int := ls.foldl delI xs
theorem delAll_snoc (xs ls : List Int) (x : Int) : delAll xs (ls ++ [x]) = delI (delAll xs ls) x := by simp [delAll]
theorem delAll_len (xs : List Int) : ∀ ls : List Int, (delAll xs ls).length ≤ xs.length := by
  refine snoc_ind ?_ ?_
  · simp [delAll]
  · intro l x ih
    rw [delAll_snoc]
    exact Nat.le_trans (delI_sub _ _).length_le ih

/-- behind some went -/
def RemP (base : Nat) (w : World) (s : Nat) (ob : Option Nat) (xs ls : List Int) (wr : World) : Prop :=
  ∃ ob', SetAt base wr s ob' (delAll xs ls) ∧ (∀ k, ob' = some k → k < w.heap.size → ob = some k) ∧ Fr (fun k => k = s ∨ ob = some k) w wr
end Go.Proofs.YtpbobonddocgkaaGreatDoor
end
section
/- A range over a function that keeps what it has come to in variables of its own: blocks X lie ahead of the loop; the function that ranges writes them between the rounds; the body leaves them alone. -/
namespace Go.Proofs.YtpbobonddocgkaaGreatDoor
open Go Go.RowKit

/-- J holds on where the heap grows, a block of X is written, or a walk beyond B goes on -/
def AbX {β : Type} (X : Nat → Prop) (B : Nat) (J : β → World → Prop) : Prop :=
  ∀ s V V' row, J s V → V.grownBy V' row → (∀ r, row = some r → X r ∨ (B ≤ r ∧ ∃ o : Obj, V.heap[r]? = some o ∧ o.isWalk = true)) → J s V'
/-- no block of X was written -/
def SameX (X : Nat → Prop) (V V' : World) : Prop := ∀ b, X b → V'.heap[b]? = V.heap[b]?
theorem SameX.trans {X : Nat → Prop} {A B C : World} (h : SameX X A B) (k : SameX X B C) : SameX X A C := fun b hb => (k b hb).trans (h b hb)
theorem SameX.cell {X : Nat → Prop} {V V' : World} (h : SameX X V V') {b o : Nat} (hb : X b) : V'.cell? ⟨b, o, none⟩ = V.cell? ⟨b, o, none⟩ := World.cell?_of_block (w := V) (a := ⟨b, o, none⟩) (h b hb)
theorem SameX.frozen {X : Nat → Prop} {V V' : World} (h : SameX X V V') {b o : Nat} (hb : X b) : V'.frozen? ⟨b, o, none⟩ = V.frozen? ⟨b, o, none⟩ := World.frozen?_of_block (w := V) (a := ⟨b, o, none⟩) (h b hb)

/-- what a function that ranges is worth: whatever J the rounds carry on -/
def SeqW {α : Type} (F : Fence) (n : Nat) (P : Program) (g : Nat) (lb : Array Value) (encs : α → Array Value) (X : Nat → Prop) (S Sp : List α → Prop) (N : Nat) (w : World) : Prop :=
  ∀ (l : Nat) (J Jx : List α → World → Prop) (V : World), Below w.heap.size w V → AbX X V.heap.size J → AbX X V.heap.size Jx →
    (∀ pre x V1, J pre V1 → pre.length < N → YieldAt F (n - 1) P l (encs x) V1 fun e V' => (e = .returned (.bool true) ∧ J (pre ++ [x]) V' ∧ SameX X V1 V') ∨ (e = .returned (.bool false) ∧ Jx (pre ++ [x]) V')) →
    J [] V → CallsIn F n P g (#[.func (.yield l) #[] #[]] ++ lb) V fun e V' => (∃ v, e = .returned v) ∧ ((∃ xs, S xs ∧ J xs V') ∨ ∃ pre, Sp pre ∧ Jx pre V')

/-- the two blocks of the loop's book -/
def Bk (l D : Nat) (r : Loop) (V : World) : Prop := V.heap[l]? = some (.loop r) ∧ V.heap[D]? = some (.deferred (some []))
section
variable {l D : Nat} {r : Loop} {V V' : World}
theorem Bk.lt (h : Bk l D r V) : l < V.heap.size ∧ D < V.heap.size := ⟨(Array.getElem?_eq_some_iff.1 h.1).1, (Array.getElem?_eq_some_iff.1 h.2).1⟩
theorem Bk.grown (h : Bk l D r V) {row : Option Nat} (hg : V.grownBy V' row) (h1 : some l ≠ row) (h2 : some D ≠ row) : Bk l D r V' :=
  ⟨(hg.block l h.lt.1 h1).trans h.1, (hg.block D h.lt.2 h2).trans h.2⟩
theorem Bk.put (h : Bk l D r V) (hne : D ≠ l) (r' : Loop) : Bk l D r' (V.putObj l (.loop r')) :=
  ⟨World.putObj_heap_same h.lt.1, (World.putObj_heap_other hne).trans h.2⟩
theorem Bk.keeps (h : Bk l D r V) {B : Nat} (hk : KeepsFrom B V V') (h1 : B ≤ l) (h2 : B ≤ D) : Bk l D r V' :=
  ⟨hk.same _ _ h1 h.1 rfl, hk.same _ _ h2 h.2 rfl⟩
end
/-- how a round of the body ends -/
def EndW {α : Type} (B : Nat) (X : Nat → Prop) (I : List α → World → Prop) (Ix : Code → List α → World → Prop) (xs : List α) (V : World) : Exit → Act → World → Prop
  | .normal, _, V' => KeepsFrom B V V' ∧ SameX X V V' ∧ I xs V'
  | .ret, _, V' => KeepsFrom B V V' ∧ Ix .ret xs V'
  | .exit id, _, V' => KeepsFrom B V V' ∧ Ix (.exit id) xs V'
  | .goto t, _, V' => KeepsFrom B V V' ∧ Ix (.goto t) xs V'
  | .panic _, _, _ => False
  | .outgrown, _, _ => False
/-- a block of X may be written: I says nothing of it -/
def Lets {β : Type} (X : Nat → Prop) (I : β → World → Prop) : Prop := ∀ s V V' b, X b → I s V → V.grownBy V' (some b) → I s V'

theorem wpIn_rangeW {F : Fence} {n : Nat} {P : Program} {w : World} {α : Type} {a : Act} {Q : Exit → Act → World → Prop} {g : Operand} {assign body : Code} {ps : Array Tmp} {gf : Nat} {lb : Array Value}
    {X : Nat → Prop} {encs : α → Array Value} {S Sp : List α → Prop} {N : Nat} {w0 : World} (I : List α → World → Prop) (Ix : Code → List α → World → Prop) (a₁ : α → Act)
    (hg : a.eval g = .func (.func gf) #[] lb) (hseq : SeqW F (n - 1) P gf lb encs X S Sp N w0) (hb0 : Below w0.heap.size w0 w) (hX : ∀ b, X b → b < w.heap.size) (hro : F.round = none) (h1 : 1 ≤ n) (hFg : F.fn gf)
    (eg : ∀ args v, (callFunc gf args).run P v = .ok (.enter gf args) v) (hps : ∀ x, (encs x).size = ps.size)
    (hI : OwnFrom w.heap.size I) (hIX : Lets X I) (hIx : ∀ c, OwnFrom w.heap.size (Ix c)) (hIxX : ∀ c, Lets X (Ix c)) (h0 : I [] w)
    (hassign : ∀ l x V (K : Act → World → Prop), K (a₁ x) V → assign.wpIn (F.inRound l) (n - 1 - 1) P (Exit.then K fun _ _ _ => False) { tmps := (ps.zip (encs x)).foldl (fun t (p, v) => t.setIfInBounds p v) a.tmps, defers := [] } V)
    (hbody : ∀ l pre x V, I pre V → pre.length < N → body.wpIn (F.inRound l) (n - 1 - 1) P (EndW w.heap.size X I Ix (pre ++ [x]) V) (a₁ x) V)
    (hdone : ∀ D xs V, w.heap.size ≤ D → S xs → I xs V → V.heap[D]? = some (.deferred (some [])) → Q .normal { a with defers := { target := .collected D, args := #[] } :: a.defers } V)
    (hstop : ∀ D c pre V, w.heap.size ≤ D → Sp pre → Ix c pre V → V.heap[D]? = some (.deferred (some [])) → c.wpIn F n P Q { a with defers := { target := .collected D, args := #[] } :: a.defers } V) :
    (Code.rangeFunc g ps assign body).wpIn F n P Q a w := by
  refine wpIn_rangeFunc fun fn hfn => ?_
  rw [hro]
  obtain ⟨R, hR⟩ : ∃ R : LoopState → Option Code → Loop, ∀ st pe, R st pe = { state := st, pending := pe, fn := fn, tmps := a.tmps, params := ps, assign := assign, body := body, defers := w.heap.size } := ⟨_, fun _ _ => rfl⟩
  obtain ⟨V1, hV1⟩ : ∃ V1, (w.alloc (.deferred (some []))).alloc (.loop (R .ready none)) = V1 := ⟨_, rfl⟩
  have hz : V1.heap.size = w.heap.size + 2 := by rw [← hV1]; simp
  have bk : Bk (w.heap.size + 1) w.heap.size (R .ready none) V1 := by
    subst hV1
    refine ⟨?_, (Below.heap_alloc _ _ _ (by simp)).trans (World.alloc_heap_new w _)⟩
    have h := World.alloc_heap_new (w.alloc (.deferred (some []))) (.loop (R .ready none))
    rwa [World.size_alloc] at h
  have i1 : I [] V1 := by subst hV1; exact hI.alloc _ (hI.alloc _ h0)
  have bel : Below w0.heap.size w0 V1 := by subst hV1; exact (hb0.alloc hb0.size _).alloc (by rw [World.size_alloc]; have := hb0.size; omega) _
  have hput : ∀ {s : List α} {V : World} {r : Loop} (r' : Loop), I s V → Bk (w.heap.size + 1) w.heap.size r V → I s (V.putObj (w.heap.size + 1) (.loop r')) := fun r' hi hb => hI.putObj _ hi (by omega) hb.1 rfl
  have hputx : ∀ {c : Code} {s : List α} {V : World} {r : Loop} (r' : Loop), Ix c s V → Bk (w.heap.size + 1) w.heap.size r V → Ix c s (V.putObj (w.heap.size + 1) (.loop r')) := fun {c} _ _ _ r' hi hb => (hIx c).putObj _ hi (by omega) hb.1 rfl
  have sput : ∀ (V : World) (r' : Loop), SameX X V (V.putObj (w.heap.size + 1) (.loop r')) := fun V r' b hb => World.putObj_heap_other (by have := hX b hb; omega)
  have abook : ∀ {V V' : World} {row : Option Nat} {r : Loop}, Bk (w.heap.size + 1) w.heap.size r V → V.grownBy V' row → (∀ r, row = some r → X r ∨ (V1.heap.size ≤ r ∧ ∃ o : Obj, V.heap[r]? = some o ∧ o.isWalk = true)) → Bk (w.heap.size + 1) w.heap.size r V' := fun hb hgr hrow => by
    refine hb.grown hgr (fun e => ?_) (fun e => ?_)
    · rcases hrow _ e.symm with h | h
      · have := hX _ h; omega
      · omega
    · rcases hrow _ e.symm with h | h
      · have := hX _ h; omega
      · omega
  have own : ∀ {J : List α → World → Prop}, OwnFrom w.heap.size J → Lets X J → ∀ {s : List α} {V V' : World} {row : Option Nat}, J s V → V.grownBy V' row → (∀ r, row = some r → X r ∨ (V1.heap.size ≤ r ∧ ∃ o : Obj, V.heap[r]? = some o ∧ o.isWalk = true)) → J s V' := fun hJ hL s V V' row hj hgr hrow => by
    cases row with
    | none => exact hJ s V V' none hj hgr (fun _ e => by cases e)
    | some r =>
      rcases hrow r rfl with h | ⟨h, o, ho, hw⟩
      · exact hL s V V' r h hj hgr
      · exact hJ s V V' (some r) hj hgr (fun _ e => by cases e; exact ⟨by omega, o, ho, Obj.not_cells_of_walk hw⟩)
  refine ⟨w.heap.size + 1, [{ target := .collected w.heap.size, args := #[] }], V1, { target := .fn (.func gf) lb, args := #[.func (.yield (w.heap.size + 1)) #[] #[]] }, V1, gf, #[.func (.yield (w.heap.size + 1)) #[] #[]] ++ lb, V1, ?_, ?_, ?_, ?_, fun _ => h1, ?_⟩
  · rw [← hV1, hR]; exact run_enterLoop_outer _ _ _ _ _
  · simp only [resolve, hg]; simp [go_sem]
  · intro f' hf'; simp [Target.leads] at hf'; subst hf'; exact hFg
  · simp [invoke, go_sem, eg]
  refine (hseq (w.heap.size + 1) (fun pre V => I pre V ∧ Bk (w.heap.size + 1) w.heap.size (R .ready none) V) (fun pre V => ∃ c, Ix c pre V ∧ Bk (w.heap.size + 1) w.heap.size (R .done (some c)) V) V1 bel
    (fun s V V' row hj hgr hrow => ⟨own hI hIX hj.1 hgr hrow, abook hj.2 hgr hrow⟩)
    (fun s V V' row hj hgr hrow => hj.elim fun c hc => ⟨c, own (hIx c) (hIxX c) hc.1 hgr hrow, abook hc.2 hgr hrow⟩) ?round ⟨i1, bk⟩).mono ?behind
  case behind =>
    rintro e V2 ⟨⟨v, rfl⟩, (⟨xs, hS, hi, hb⟩ | ⟨pre, hSp, c, hi, hb⟩)⟩
    · have hend := run_endLoop (P := P) hb.1 (by rw [hR]; simp)
      rw [hR] at hend
      exact ⟨none, _, hend, hdone _ xs _ (Nat.le_refl _) hS (hput _ hi hb) (hb.put (by omega) _).2⟩
    · have hend := run_endLoop (P := P) hb.1 (by rw [hR]; simp)
      rw [hR] at hend
      exact ⟨some c, _, hend, hstop _ c pre _ (Nat.le_refl _) hSp (hputx _ hi hb) (hb.put (by omega) _).2⟩
  case round =>
    rintro pre x V ⟨hi, hb⟩ hlen
    have hy := run_yield (P := P) (args := encs x) hb.1 (by rw [hR]; exact hps x)
    rw [hR] at hy
    refine ⟨fn, _, assign, body, hy, roundIn_of_wpIn hfn (hassign _ x V _ ⟨_, run_beginRound hb.1 (by rw [hR]), ?_⟩)⟩
    have hb2 := hb.put (by omega) { R .ready none with state := .busy }
    refine wpIn_mono (hbody _ pre x _ (hput _ hi hb) hlen) ?_
    -- behind the body: the record is turned, whatever the way
    have turn : ∀ (j : Option Code) {V3 : World}, KeepsFrom w.heap.size (V.putObj (w.heap.size + 1) (.loop { R .ready none with state := .busy })) V3 →
        ∃ st, st = (if j.isNone then LoopState.ready else .done) ∧ (Instr.endRound (w.heap.size + 1) j).run P V3 = .ok (.bool j.isNone) (V3.putObj (w.heap.size + 1) (.loop (R st j))) ∧ Bk (w.heap.size + 1) w.heap.size { R .ready none with state := .busy } V3 ∧
          Bk (w.heap.size + 1) w.heap.size (R st j) (V3.putObj (w.heap.size + 1) (.loop (R st j))) := fun j V3 hk => by
      have hb3 := hb2.keeps hk (by omega) (Nat.le_refl _)
      have hend := run_endRound (P := P) j hb3.1
      refine ⟨_, rfl, ?_, hb3, hb3.put (by omega) _⟩
      rw [hend, hR, hR]
    rintro e a3 V3 hp
    cases e with
    | normal =>
      obtain ⟨hk, hs, hi3⟩ := hp
      obtain ⟨st, rfl, hr, hb3, hb4⟩ := turn none hk
      exact ⟨_, _, hr, .inl ⟨rfl, ⟨hput _ hi3 hb3, hb4⟩, ((sput V _).trans hs).trans (sput V3 _)⟩⟩
    | ret =>
      obtain ⟨st, rfl, hr, hb3, hb4⟩ := turn (some .ret) hp.1
      exact ⟨_, _, hr, .inr ⟨rfl, _, hputx _ hp.2 hb3, hb4⟩⟩
    | exit id =>
      obtain ⟨st, rfl, hr, hb3, hb4⟩ := turn (some (.exit id)) hp.1
      exact ⟨_, _, hr, .inr ⟨rfl, _, hputx _ hp.2 hb3, hb4⟩⟩
    | goto t =>
      obtain ⟨st, rfl, hr, hb3, hb4⟩ := turn (some (.goto t)) hp.1
      exact ⟨_, _, hr, .inr ⟨rfl, _, hputx _ hp.2 hb3, hb4⟩⟩
    | panic ch => exact hp.elim
    | outgrown => exact hp.elim
end Go.Proofs.YtpbobonddocgkaaGreatDoor
end
section
/- A range over a function that tells a row xs, one by one: the body is told that what comes is the next of the row. Blocks Y: what the function that ranges reads and the body leaves alone; blocks X among them: what it writes between the rounds. -/
namespace Go.Proofs.YtpbobonddocgkaaGreatDoor
open Go Go.RowKit

/-- a region that does not panic, where what is owed at a panic hangs on the frame -/
theorem wpIn_noPanic {F : Fence} {n : Nat} {P : Program} {Q : Exit → Act → World → Prop} {a : Act} {w : World} {id : Nat} {ops : Array Oper} {b : Bool} (h : (Code.region id ops b).wpIn F n P (NoPanic Q) a w) : (Code.region id ops b).wpIn F n P Q a w :=
  wpIn_mono h fun e _ _ hq => by
    cases e with
    | panic ch => exact hq.elim
    | _ => exact hq
/-- what a function that ranges is worth, if it tells the row xs -/
def SeqT {α : Type} (F : Fence) (n : Nat) (P : Program) (g : Nat) (lb : Array Value) (encs : α → Array Value) (X Y : Nat → Prop) (xs : List α) (w : World) : Prop :=
  ∀ (l : Nat) (J Jx : List α → World → Prop) (V : World), Below w.heap.size w V → AbX X V.heap.size J → AbX X V.heap.size Jx →
    (∀ pre x r V1, pre ++ x :: r = xs → J pre V1 → YieldAt F (n - 1) P l (encs x) V1 fun e V' => (e = .returned (.bool true) ∧ J (pre ++ [x]) V' ∧ SameX Y V1 V') ∨ (e = .returned (.bool false) ∧ Jx (pre ++ [x]) V')) →
    J [] V → CallsIn F n P g (#[.func (.yield l) #[] #[]] ++ lb) V fun e V' => (∃ v, e = .returned v) ∧ (J xs V' ∨ ∃ pre r, pre ++ r = xs ∧ Jx pre V')
/-- how a round of the body ends -/
def EndT {α : Type} (B : Nat) (Y : Nat → Prop) (I : List α → World → Prop) (Ix : Code → List α → World → Prop) (xs : List α) (V : World) : Exit → Act → World → Prop
  | .normal, _, V' => KeepsFrom B V V' ∧ SameX Y V V' ∧ I xs V'
  | .ret, _, V' => KeepsFrom B V V' ∧ Ix .ret xs V'
  | .exit id, _, V' => KeepsFrom B V V' ∧ Ix (.exit id) xs V'
  | .goto t, _, V' => KeepsFrom B V V' ∧ Ix (.goto t) xs V'
  | .panic _, _, _ => False
  | .outgrown, _, _ => False

theorem wpIn_rangeT {F : Fence} {n : Nat} {P : Program} {w : World} {α : Type} {a : Act} {Q : Exit → Act → World → Prop} {g : Operand} {assign body : Code} {ps : Array Tmp} {gf : Nat} {lb : Array Value}
    {X Y : Nat → Prop} {encs : α → Array Value} {xs : List α} {w0 : World} (I : List α → World → Prop) (Ix : Code → List α → World → Prop)
    (hg : a.eval g = .func (.func gf) #[] lb) (hseq : SeqT F (n - 1) P gf lb encs X Y xs w0) (hb0 : Below w0.heap.size w0 w) (hX : ∀ b, X b → b < w.heap.size) (hY : ∀ b, Y b → b < w.heap.size) (hro : F.round = none) (h1 : 1 ≤ n) (hFg : F.fn gf)
    (eg : ∀ args v, (callFunc gf args).run P v = .ok (.enter gf args) v) (hps : ∀ x, (encs x).size = ps.size)
    (hI : OwnFrom w.heap.size I) (hIX : Lets X I) (hIx : ∀ c, OwnFrom w.heap.size (Ix c)) (hIxX : ∀ c, Lets X (Ix c)) (h0 : I [] w)
    (hround : ∀ l pre x r V0 V (K : Act → World → Prop), w.heap.size ≤ l → (∃ r, V.heap[l]? = some (.loop r)) → pre ++ x :: r = xs → I pre V → (∀ a1, body.wpIn (F.inRound l) (n - 1 - 1) P (EndT w.heap.size Y I Ix (pre ++ [x]) V) a1 V → K a1 V0) →
      assign.wpIn (F.inRound l) (n - 1 - 1) P (Exit.then K fun _ _ _ => False) { tmps := (ps.zip (encs x)).foldl (fun t (p, v) => t.setIfInBounds p v) a.tmps, defers := [] } V0)
    (hdone : ∀ D V, w.heap.size ≤ D → I xs V → V.heap[D]? = some (.deferred (some [])) → Q .normal { a with defers := { target := .collected D, args := #[] } :: a.defers } V)
    (hstop : ∀ D c pre r V, w.heap.size ≤ D → pre ++ r = xs → Ix c pre V → V.heap[D]? = some (.deferred (some [])) → c.wpIn F n P Q { a with defers := { target := .collected D, args := #[] } :: a.defers } V) :
    (Code.rangeFunc g ps assign body).wpIn F n P Q a w := by
  refine wpIn_rangeFunc fun fn hfn => ?_
  rw [hro]
  obtain ⟨R, hR⟩ : ∃ R : LoopState → Option Code → Loop, ∀ st pe, R st pe = { state := st, pending := pe, fn := fn, tmps := a.tmps, params := ps, assign := assign, body := body, defers := w.heap.size } := ⟨_, fun _ _ => rfl⟩
  obtain ⟨V1, hV1⟩ : ∃ V1, (w.alloc (.deferred (some []))).alloc (.loop (R .ready none)) = V1 := ⟨_, rfl⟩
  have hz : V1.heap.size = w.heap.size + 2 := by rw [← hV1]; simp
  have bk : Bk (w.heap.size + 1) w.heap.size (R .ready none) V1 := by
    subst hV1
    refine ⟨?_, (Below.heap_alloc _ _ _ (by simp)).trans (World.alloc_heap_new w _)⟩
    have h := World.alloc_heap_new (w.alloc (.deferred (some []))) (.loop (R .ready none))
    rwa [World.size_alloc] at h
  have i1 : I [] V1 := by subst hV1; exact hI.alloc _ (hI.alloc _ h0)
  have bel : Below w0.heap.size w0 V1 := by subst hV1; exact (hb0.alloc hb0.size _).alloc (by rw [World.size_alloc]; have := hb0.size; omega) _
  have hput : ∀ {s : List α} {V : World} {r : Loop} (r' : Loop), I s V → Bk (w.heap.size + 1) w.heap.size r V → I s (V.putObj (w.heap.size + 1) (.loop r')) := fun r' hi hb => hI.putObj _ hi (by omega) hb.1 rfl
  have hputx : ∀ {c : Code} {s : List α} {V : World} {r : Loop} (r' : Loop), Ix c s V → Bk (w.heap.size + 1) w.heap.size r V → Ix c s (V.putObj (w.heap.size + 1) (.loop r')) := fun {c} _ _ _ r' hi hb => (hIx c).putObj _ hi (by omega) hb.1 rfl
  have sput : ∀ (V : World) (r' : Loop), SameX Y V (V.putObj (w.heap.size + 1) (.loop r')) := fun V r' b hb => World.putObj_heap_other (by have := hY b hb; omega)
  have abook : ∀ {V V' : World} {row : Option Nat} {r : Loop}, Bk (w.heap.size + 1) w.heap.size r V → V.grownBy V' row → (∀ r, row = some r → X r ∨ (V1.heap.size ≤ r ∧ ∃ o : Obj, V.heap[r]? = some o ∧ o.isWalk = true)) → Bk (w.heap.size + 1) w.heap.size r V' := fun hb hgr hrow => by
    refine hb.grown hgr (fun e => ?_) (fun e => ?_)
    · rcases hrow _ e.symm with h | h
      · have := hX _ h; omega
      · omega
    · rcases hrow _ e.symm with h | h
      · have := hX _ h; omega
      · omega
  have own : ∀ {J : List α → World → Prop}, OwnFrom w.heap.size J → Lets X J → ∀ {s : List α} {V V' : World} {row : Option Nat}, J s V → V.grownBy V' row → (∀ r, row = some r → X r ∨ (V1.heap.size ≤ r ∧ ∃ o : Obj, V.heap[r]? = some o ∧ o.isWalk = true)) → J s V' := fun hJ hL s V V' row hj hgr hrow => by
    cases row with
    | none => exact hJ s V V' none hj hgr (fun _ e => by cases e)
    | some r =>
      rcases hrow r rfl with h | ⟨h, o, ho, hw⟩
      · exact hL s V V' r h hj hgr
      · exact hJ s V V' (some r) hj hgr (fun _ e => by cases e; exact ⟨by omega, o, ho, Obj.not_cells_of_walk hw⟩)
  refine ⟨w.heap.size + 1, [{ target := .collected w.heap.size, args := #[] }], V1, { target := .fn (.func gf) lb, args := #[.func (.yield (w.heap.size + 1)) #[] #[]] }, V1, gf, #[.func (.yield (w.heap.size + 1)) #[] #[]] ++ lb, V1, ?_, ?_, ?_, ?_, fun _ => h1, ?_⟩
  · rw [← hV1, hR]; exact run_enterLoop_outer _ _ _ _ _
  · simp only [resolve, hg]; simp [go_sem]
  · intro f' hf'; simp [Target.leads] at hf'; subst hf'; exact hFg
  · simp [invoke, go_sem, eg]
  refine (hseq (w.heap.size + 1) (fun pre V => I pre V ∧ Bk (w.heap.size + 1) w.heap.size (R .ready none) V) (fun pre V => ∃ c, Ix c pre V ∧ Bk (w.heap.size + 1) w.heap.size (R .done (some c)) V) V1 bel
    (fun s V V' row hj hgr hrow => ⟨own hI hIX hj.1 hgr hrow, abook hj.2 hgr hrow⟩)
    (fun s V V' row hj hgr hrow => hj.elim fun c hc => ⟨c, own (hIx c) (hIxX c) hc.1 hgr hrow, abook hc.2 hgr hrow⟩) ?round ⟨i1, bk⟩).mono ?behind
  case behind =>
    rintro e V2 ⟨⟨v, rfl⟩, (⟨hi, hb⟩ | ⟨pre, r, hSp, c, hi, hb⟩)⟩
    · have hend := run_endLoop (P := P) hb.1 (by rw [hR]; simp)
      rw [hR] at hend
      exact ⟨none, _, hend, hdone _ _ (Nat.le_refl _) (hput _ hi hb) (hb.put (by omega) _).2⟩
    · have hend := run_endLoop (P := P) hb.1 (by rw [hR]; simp)
      rw [hR] at hend
      exact ⟨some c, _, hend, hstop _ c pre r _ (Nat.le_refl _) hSp (hputx _ hi hb) (hb.put (by omega) _).2⟩
  case round =>
    rintro pre x r V hpx ⟨hi, hb⟩
    have hy := run_yield (P := P) (args := encs x) hb.1 (by rw [hR]; exact hps x)
    rw [hR] at hy
    have hb2 := hb.put (by omega) { R .ready none with state := .busy }
    refine ⟨fn, _, assign, body, hy, roundIn_of_wpIn hfn (hround (w.heap.size + 1) pre x r V _ _ (by omega) ⟨_, hb2.1⟩ hpx (hput _ hi hb) fun a1 hbody => ⟨_, run_beginRound hb.1 (by rw [hR]), ?_⟩)⟩
    refine wpIn_mono hbody ?_
    -- behind the body: the record is turned, whatever the way
    have turn : ∀ (j : Option Code) {V3 : World}, KeepsFrom w.heap.size (V.putObj (w.heap.size + 1) (.loop { R .ready none with state := .busy })) V3 →
        ∃ st, st = (if j.isNone then LoopState.ready else .done) ∧ (Instr.endRound (w.heap.size + 1) j).run P V3 = .ok (.bool j.isNone) (V3.putObj (w.heap.size + 1) (.loop (R st j))) ∧ Bk (w.heap.size + 1) w.heap.size { R .ready none with state := .busy } V3 ∧
          Bk (w.heap.size + 1) w.heap.size (R st j) (V3.putObj (w.heap.size + 1) (.loop (R st j))) := fun j V3 hk => by
      have hb3 := hb2.keeps hk (by omega) (Nat.le_refl _)
      have hend := run_endRound (P := P) j hb3.1
      refine ⟨_, rfl, ?_, hb3, hb3.put (by omega) _⟩
      rw [hend, hR, hR]
    rintro e a3 V3 hp
    cases e with
    | normal =>
      obtain ⟨hk, hs, hi3⟩ := hp
      obtain ⟨st, rfl, hr, hb3, hb4⟩ := turn none hk
      exact ⟨_, _, hr, .inl ⟨rfl, ⟨hput _ hi3 hb3, hb4⟩, ((sput V _).trans hs).trans (sput V3 _)⟩⟩
    | ret =>
      obtain ⟨st, rfl, hr, hb3, hb4⟩ := turn (some .ret) hp.1
      exact ⟨_, _, hr, .inr ⟨rfl, _, hputx _ hp.2 hb3, hb4⟩⟩
    | exit id =>
      obtain ⟨st, rfl, hr, hb3, hb4⟩ := turn (some (.exit id)) hp.1
      exact ⟨_, _, hr, .inr ⟨rfl, _, hputx _ hp.2 hb3, hb4⟩⟩
    | goto t =>
      obtain ⟨st, rfl, hr, hb3, hb4⟩ := turn (some (.goto t)) hp.1
      exact ⟨_, _, hr, .inr ⟨rfl, _, hputx _ hp.2 hb3, hb4⟩⟩
    | panic ch => exact hp.elim
    | outgrown => exact hp.elim
end Go.Proofs.YtpbobonddocgkaaGreatDoor
end
