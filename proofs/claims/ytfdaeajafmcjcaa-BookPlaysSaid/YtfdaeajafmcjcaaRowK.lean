/- Rows of structs of the call's own, and slices.SortFunc: the words of the sort's kit and of what is owned. -/
import Derived.Test.YtfdaeajafmcjcaaFrm
import Derived.Shelf.SlSortCmp.WholeK
import Derived.Sort.OwnSorted
namespace Go.Proofs.Ytfdaeajafmcjcaa
set_option linter.unusedVariables false
set_option linter.unusedSimpArgs false
open Go Go.RowKit Go.Sort

section
variable {α : Type} [Inhabited α] (enc : α → List Value) (k : Nat)
theorem flatMap_get (hk : ∀ x, (enc x).length = k) (hk0 : 0 < k) : ∀ (xs : List α) (t : Nat), t < xs.length * k → (xs.flatMap enc)[t]? = (enc (xs.getD (t / k) default))[t % k]?
  | [], t, h => by simp at h
  | x :: r, t, h => by
    rw [List.flatMap_cons]
    by_cases ht : t < k
    · rw [List.getElem?_append_left (by rw [hk]; exact ht), Nat.div_eq_of_lt ht, Nat.mod_eq_of_lt ht]; rfl
    · rw [List.getElem?_append_right (by rw [hk]; omega), hk, flatMap_get hk hk0 r (t - k) (by rw [List.length_cons, Nat.add_mul, Nat.one_mul] at h; omega)]
      obtain ⟨u, rfl⟩ : ∃ u, t = u + k := ⟨t - k, by omega⟩
      rw [Nat.add_sub_cancel, Nat.add_div_right _ hk0, Nat.add_mod_right]; rfl
theorem flatK_list (hk : ∀ x, (enc x).length = k) (hk0 : 0 < k) (xs : List α) : (flatK enc k xs.toArray).toList = xs.flatMap enc := by
  have hl : (xs.flatMap enc).length = xs.length * k := by
    induction xs with
    | nil => simp
    | cons x r ih => rw [List.flatMap_cons, List.length_append, hk, ih, List.length_cons, Nat.add_mul, Nat.one_mul, Nat.add_comm]
  apply List.ext_getElem?
  intro t
  by_cases ht : t < xs.length * k
  · rw [flatMap_get enc k hk hk0 xs t ht]
    have h2 : t / k < xs.length := Nat.div_lt_of_lt_mul (by rwa [Nat.mul_comm])
    have h3 : t % k < (enc xs[t / k]).length := by rw [hk]; exact Nat.mod_lt _ hk0
    have e1 : xs.getD (t / k) default = xs[t / k] := by simp [List.getD, h2]
    rw [e1, List.getElem?_eq_getElem h3, Array.getElem?_toList]
    have h4 : t < (flatK enc k xs.toArray).size := by rw [size_flatK]; simpa using ht
    rw [Array.getElem?_eq_getElem h4]
    have h5 := get_flatK enc k xs.toArray t (by simpa using ht)
    rw [getElem!_pos (flatK enc k xs.toArray) t h4] at h5
    rw [h5]
    have e2 : xs.toArray[t / k]! = xs[t / k] := by simp [h2]
    rw [e2, getElem!_pos (enc xs[t / k]) (t % k) h3]
  · rw [List.getElem?_eq_none (by rw [Array.length_toList, size_flatK]; simp; omega), List.getElem?_eq_none (by omega)]
end
theorem holds_flat {w : World} {g : Nat} {cur F : Array Value} {e : TypeId} (hb : w.heap[g]? = some (.cells cur e (0, 0))) (ht : cur.toList.take F.size = F.toList) : Holds id w g 0 F := by
  intro j hj
  refine ⟨?_, by simp [World.frozen?, hb]⟩
  have h1 : (cur.toList.take F.size)[j]? = F.toList[j]? := by rw [ht]
  rw [List.getElem?_take_of_lt hj] at h1
  simp only [World.cell?, hb, Nat.zero_add]
  simp only [Option.isSome_none, Bool.false_eq_true, if_false]
  rw [← Array.getElem?_toList, h1]
  simp [hj]
theorem heap_flat {w : World} {g n : Nat} {os : Array Obj} {cur : Array Value} {e : TypeId} {fr : Nat × Nat} (F : Array Value) (hb : w.heap[g]? = some (.cells cur e fr)) :
    (grow (putRow id (Sort.ahead w n) g 0 F) os).heap[g]? = some (.cells (putCells id 0 F cur) e fr) := by
  have hg : g < w.heap.size := (Array.getElem?_eq_some_iff.1 hb).1
  rw [heap_grow_old _ _ (by simpa using hg)]
  simp [putRow, mapBlock, Sort.ahead, Array.getElem?_modify, hb, onCells]
theorem grown_flat {w : World} {g n : Nat} {os : Array Obj} (F : Array Value) : w.grownBy (grow (putRow id (Sort.ahead w n) g 0 F) os) (some g) := by
  refine ⟨rfl, rfl, rfl, by simp, fun k hk hne => ?_⟩
  rw [heap_grow_old _ _ (by simpa using hk)]
  have : g ≠ k := fun e => hne (by rw [e])
  simp [putRow, mapBlock, Sort.ahead, Array.getElem?_modify, this]
theorem take_flat (cur F : Array Value) (h : F.size ≤ cur.size) : (putCells id 0 F cur).toList.take F.size = F.toList := by
  apply List.ext_getElem?
  intro j
  by_cases hj : j < F.size
  · rw [List.getElem?_take_of_lt hj, Array.getElem?_toList]
    simp [putCells, hj, show j < cur.size by omega]
  · rw [List.getElem?_take_eq_none (by omega), List.getElem?_eq_none (by simp; omega)]
/-- slices.SortFunc at a row of structs of the call's own -/
theorem sort_row {α : Type} [Inhabited α] {P : Program} {f : Nat} {e : TypeId} (enc : α → List Value) (k : Nat) (hk : ∀ x, (enc x).length = k) (hk0 : 0 < k) (srt : List α → List α) (hsl : ∀ l, (srt l).length = l.length) (fv : Value)
    (hsort : ∀ (g cap : Nat) (d : Array α) (w : World), HoldsK enc k w g 0 d → g < w.heap.size → d.size < 4611686018427387904 → Calls P f #[.slice (some ⟨g, 0, none⟩) d.size cap, fv] w fun e w' => e = .returned (.tuple #[]) ∧ ∃ n os, w' = sortWorldK enc k w g 0 n (srt d.toList).toArray os)
    (hnone : ∀ w, Calls P f #[.slice none 0 0, fv] w fun e w' => e = .returned (.tuple #[]) ∧ w' = w)
    {base : Nat} {w : World} {v : Value} {xs : List α} (h : w.ownsRow base e k v xs.length (xs.flatMap enc)) (hl : xs.length ≤ 1000000) :
    Calls P f #[v, fv] w fun e' w' => e' = .returned (.tuple #[]) ∧ w'.ownsRow base e k v xs.length ((srt xs).flatMap enc) ∧ Fr (fun j => v.ownBlock = some j) w w' := by
  rcases h.2 with ⟨rfl, h0⟩ | ⟨g, cap, cur, rfl, hb, hg, hn, hm, hs, ht⟩
  · obtain rfl : xs = [] := List.length_eq_zero_iff.1 h0
    refine (hnone w).mono ?_
    rintro e' w' ⟨rfl, rfl⟩
    have : srt [] = [] := List.length_eq_zero_iff.1 (hsl [])
    exact ⟨rfl, by rw [this]; exact h, Fr.refl _ _⟩
  · have hF := flatK_list enc k hk hk0 xs
    have hH : HoldsK enc k w g 0 xs.toArray := by
      unfold HoldsK
      refine holds_flat hg ?_
      rw [size_flatK, hF]
      simpa using ht
    have hc := hsort g cap xs.toArray w hH (blk_lt hg) (by simp; omega)
    rw [List.size_toArray] at hc
    refine hc.mono ?_
    rintro e' w' ⟨rfl, n, os, rfl⟩
    have hF2 := flatK_list enc k hk hk0 (srt xs)
    have hsz : (flatK enc k (srt xs).toArray).size = xs.length * k := by rw [size_flatK]; simp [hsl]
    have hcur : xs.length * k ≤ cur.size := by rw [hs]; exact Nat.mul_le_mul_right k hn
    refine ⟨rfl, ⟨?_, .inr ⟨g, cap, _, rfl, hb, heap_flat _ hg, hn, hm, ?_, ?_⟩⟩, (Fr.refl _ w).grown (grown_flat _) fun j hj => by cases hj; exact .inr rfl⟩
    · rw [← hF2, Array.length_toList, hsz]
    · simp [putCells, hs]
    · have := take_flat cur (flatK enc k (srt xs).toArray) (by rw [hsz]; exact hcur)
      rw [hsz, hF2] at this
      exact this
end Go.Proofs.Ytfdaeajafmcjcaa
