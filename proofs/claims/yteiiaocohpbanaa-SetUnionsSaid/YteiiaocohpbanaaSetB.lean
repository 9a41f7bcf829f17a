/- Layer 10: the library's functions at slices of integers of the call's own, in the words of what is owned. -/
import Derived.Test.YteiiaocohpbanaaSetA
import Derived.Test.YteiiaocohpbanaaShelf
import Derived.Test.YteiiaocohpbanaaFrm
import Derived.Sort.OwnSortedInts
namespace Go.Proofs.Yteiiaocohpbanaa
set_option linter.unusedVariables false
set_option linter.unusedSimpArgs false
open Go Go.RowKit Go.Lib Go.Sort Go.Shelf

/-- slice v holds these numbers, in a row of its own -/
def OwnI (base : Nat) (W : World) (v : Value) (xs : List Int) : Prop := W.ownsRow base 3 1 v xs.length (xs.map (Value.int .i64))
/-- the block of a slice -/
def vB (v : Value) : Nat → Prop := fun k => v.ownBlock = some k

theorem fr_sorted {w : World} {g n : Nat} {os : Array Obj} (d : Array Int) {cap m : Nat} : Fr (vB (.slice (some ⟨g, 0, none⟩) m cap)) w (grow (putRow (Value.int .i64) (Sort.ahead w n) g 0 d) os) :=
  (Fr.refl _ w).grown (grownBy_sortedI d) fun k hk => .inr (by cases hk; rfl)
theorem Fr.trans2 {X Y : Nat → Prop} {a b c : World} (h : Fr X a b) (k : Fr Y b c) (hx : ∀ k, k < a.heap.size → Y k → X k) : Fr X a c :=
  ⟨k.os.trans h.os, k.tape.trans h.tape, k.output.trans h.output, Nat.le_trans h.size k.size, fun i hi hn => (k.block i (Nat.lt_of_lt_of_le hi h.size) fun e => hn (hx i hi e)).trans (h.block i hi hn)⟩
/-- the block that a slice lies in is that of another, or new -/
def Tie (w : World) (v v' : Value) : Prop := ∀ k, v'.ownBlock = some k → k < w.heap.size → v.ownBlock = some k
theorem tie_same {w : World} {v v' : Value} (h : v'.ownBlock = v.ownBlock) : Tie w v v' := fun k hk _ => h ▸ hk
theorem tie_new {w : World} {v v' : Value} {n : Nat} (h : v'.ownBlock = some n) (hn : w.heap.size ≤ n) : Tie w v v' := fun k hk hl => by rw [h] at hk; cases hk; omega
theorem sort_own {base : Nat} {w : World} {v : Value} {xs : List Int} (h : OwnI base w v xs) (hl : xs.length ≤ 1000000) :
    Calls Try.prog 31 #[v] w fun e w' => e = .returned (.tuple #[]) ∧ OwnI base w' v (xs.mergeSort fun x y => decide (x ≤ y)) ∧ Fr (vB v) w w' := by
  rcases h.2 with ⟨rfl, h0⟩ | ⟨g, cap, cur, rfl, hb, hg, hn, hm, hs, ht⟩
  · obtain rfl : xs = [] := List.length_eq_zero_iff.1 h0
    refine (Try.slices_Sort_int_none none 0 w).mono ?_
    rintro e w' ⟨rfl, rfl⟩
    exact ⟨rfl, by simpa using h, Fr.refl _ _⟩
  · rw [Nat.mul_one] at ht
    refine (Try.slices_Sort_int g 0 cap xs w (holds_of_blockI hg ht) (blk_lt hg) (by omega)).mono ?_
    rintro e w' ⟨rfl, n, os, rfl⟩
    have hlen : (xs.mergeSort fun x y => decide (x ≤ y)).length = xs.length := List.length_mergeSort _
    refine ⟨rfl, ?_, fr_sorted _⟩
    have := ownsRow_sortedI (n := n) (os := os) hlen hb hg hn hm hs
    unfold OwnI
    rw [hlen]
    exact this

/-- each one once, of a row that doesn't fall -/
theorem compact_own {base : Nat} {w : World} {v : Value} {xs : List Int} (h : OwnI base w v xs) (hl : xs.length ≤ 1000000) :
    Calls Try.prog 32 #[v, .func (.func 30) #[] #[]] w fun e w' => (∃ v', e = .returned v' ∧ OwnI base w' v' (compact xs)) ∧ Fr (vB v) w w' := by
  rcases h.2 with ⟨rfl, h0⟩ | ⟨g, cap, cur, rfl, hb, hg, hn, hm, hs, ht⟩
  · obtain rfl : xs = [] := List.length_eq_zero_iff.1 h0
    go_enter Try.func32, Try.ntmps32
    go_wp2_with fail
    go_ret
    exact ⟨⟨_, rfl, World.ownsRow_nil _ _ _ _⟩, Fr.refl _ _⟩
  · rw [Nat.mul_one] at ht hs
    have hq := compactFunc_arr g 0 cap xs.toArray w (holds_of_blockI hg ht) (by simp; omega) (by simpa using hn)
    rw [List.size_toArray] at hq
    refine hq.mono ?_
    rintro e w' ⟨rfl, q, rfl⟩
    have hcl : (compact xs).length ≤ xs.length := by
      unfold compact compactUpTo
      rw [List.length_map]
      exact Nat.le_trans (List.length_filter_le _ _) (by simp)
    obtain ⟨ys, hys⟩ : ∃ ys, compact xs ++ List.replicate (xs.length - (compact xs).length) 0 = ys := ⟨_, rfl⟩
    have hyl : ys.length = xs.length := by rw [← hys]; simp; omega
    have hbe : compactUpTo xs.toArray xs.length = compact xs := rfl
    rw [hbe, hys]
    have hh := heap_sortedI (n := q) (os := #[]) ys.toArray hg
    have hgr := fr_sorted (w := w) (g := g) (n := q) (os := #[]) ys.toArray (cap := cap) (m := xs.length)
    rw [grow_empty] at hh hgr
    refine ⟨⟨_, rfl, ⟨by simp, .inr ⟨g, cap, _, rfl, hb, hh, by omega, hm, by simp [putCells, hs], ?_⟩⟩⟩, hgr⟩
    have h1 := take_putCellsI cur ys (by omega)
    have h2 := congrArg (List.take (compact xs).length) h1
    rw [List.take_take, Nat.min_eq_left (by omega), ← List.map_take, ← hys, List.take_left] at h2
    rw [Nat.mul_one, ← hys]
    exact h2
theorem bsearch_own {base : Nat} {w : World} {v : Value} {xs : List Int} (h : OwnI base w v xs) (hl : xs.length ≤ 1000000) (hs : xs.Pairwise (· ≤ ·)) (x : Int) :
    Calls Try.prog 25 #[v, .int .i64 x] w fun e w' => e = .returned (.tuple #[.int .i64 (xs.countP (· < x) : Nat), .bool (xs.contains x)]) ∧ ∃ q, w' = w.drewN q := by
  rcases h.2 with ⟨rfl, h0⟩ | ⟨g, cap, cur, rfl, hb, hg, hn, hm, hcs, ht⟩
  · obtain rfl : xs = [] := List.length_eq_zero_iff.1 h0
    refine (Try.slices_BinarySearch_int_empty none 0 x w).mono ?_
    rintro e w' ⟨rfl, rfl⟩
    exact ⟨rfl, 0, rfl⟩
  · rw [Nat.mul_one] at ht
    have hq := Try.slices_BinarySearch_int g 0 xs.length cap xs x w (Nat.le_refl _) (by omega) (fun j hj => by
      have := (holds_of_blockI hg ht j (by simpa using hj)).1
      rw [this]
      simp [List.getD, List.getElem?_eq_getElem hj, hj]) (by rw [List.take_length]; exact hs)
    rw [List.take_length] at hq
    exact hq
end Go.Proofs.Yteiiaocohpbanaa
