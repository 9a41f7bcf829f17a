/- Arguments that are slices of slices of numbers, or of structs (number, slice of numbers), opened. -/
import Derived.Test.YtaajfbbogihbnaaDoorDecW
namespace Go.Proofs.YtaajfbbogihbnaaDoor
set_option linter.unusedVariables false
set_option linter.unusedSimpArgs false
open Go Go.ChangeShapes Go.WideShapes Go.RowKit Go.Deep

/-- a slice as it stands in a cell -/
abbrev RowV (α : Type) : Type := Option Addr × List α × Nat
def rowL {α : Type} (x : RowV α) : List Value := [.slice x.1 x.2.1.length x.2.2]
def RowG {α : Type} (k : Nat) (encf : α → List Value) (G : α → Prop) (W : World) (x : RowV α) : Prop :=
  x.2.1.length ≤ x.2.2 ∧ x.2.2 ≤ maxLen ∧ (∀ y ∈ x.2.1, G y) ∧ (0 < x.2.1.length → ∃ g o, x.1 = some ⟨g, o, none⟩ ∧ g < W.heap.size ∧ ∀ i (h : i < x.2.1.length) j u, (encf x.2.1[i])[j]? = some u → W.cell? ⟨g, o + i * k + j, none⟩ = some u) ∧ (x.1 = none → x.2.1.length = 0 ∧ x.2.2 = 0)
section
variable {H : Type} {enc : TypeId × Value → H} {P : Program} {W : World}
theorem dec_elems {α : Type} [Inhabited α] {t e : TypeId} {k fuel : Nat} {cs : List Value} {y : DataW H × List MemPlace} (hk : 0 < k) (encf : α → List Value) (G : α → Prop) (ht : P.underlying t = some (.slice e)) (hc : P.cellsOf e = k)
    (hdec : ∀ n cs y, cs.length = k → DataW.trod enc P W 0 (fun _ => true) true n e cs = some y → ∃ x, cs = encf x ∧ G x)
    (hf : DataW.trod enc P W 0 (fun _ => true) true fuel t cs = some y) : ∃ x : RowV α, cs = rowL x ∧ RowG k encf G W x := by
  rcases open_slice ht hf with ⟨hcs, _⟩ | ⟨a, len, cap, m, n', D, Pl, hcs, _, hl, hm, hmm, _, hel⟩
  · exact ⟨(none, [], 0), hcs, Nat.le_refl _, Nat.zero_le _, by simp, fun h => absurd h (by simp), fun _ => ⟨rfl, rfl⟩⟩
  · simp only [if_true] at hmm
    have each : ∀ i, i < len → ∃ x : α, G x ∧ (encf x).length = k ∧ ∀ j u, (encf x)[j]? = some u → W.cell? ((a.add (i * k)).add j) = some u := by
      intro i hi
      obtain ⟨cs', h1, h2⟩ := hel i (by omega)
      rw [hc] at h1
      obtain ⟨_, hlen, hat⟩ := World.cells?_some h1
      obtain ⟨x, rfl, hg⟩ := hdec _ _ _ hlen h2
      refine ⟨x, hg, hlen, fun j u hu => ?_⟩
      have hj : j < k := by
        rw [← hlen]; exact (List.getElem?_eq_some_iff.1 hu).1
      rw [hat j hj, hu]
    obtain ⟨F, hF⟩ := choose_lt each
    refine ⟨(some a, (List.range len).map F, cap), ?_, ?_, hm, ?_, ?_, fun h => by cases h⟩
    · rw [hcs]; simp [rowL]
    · simpa using hl
    · intro x hx
      simp only [List.mem_map, List.mem_range] at hx
      obtain ⟨i, hi, rfl⟩ := hx
      exact (hF i hi).1
    · intro hpos
      simp only [List.length_map, List.length_range] at hpos
      obtain ⟨_, hl0, h0⟩ := hF 0 hpos
      have hq := h0 0 ((encf (F 0))[0]'(by omega)) (List.getElem?_eq_getElem (by omega))
      have hq : W.cell? (a.add 0) = some ((encf (F 0))[0]'(by omega)) := by
        have e : (a.add (0 * k)).add 0 = a.add 0 := by
          obtain ⟨b, o, s⟩ := a
          cases s <;> simp [Addr.add]
        rwa [e] at hq
      obtain ⟨g, o, rfl⟩ := spot_of hq
      have hg : g < W.heap.size := by
        have := block_lt_of_cell hq
        simpa [add_at] using this
      refine ⟨g, o, rfl, hg, fun i hi j u hu => ?_⟩
      simp only [List.length_map, List.length_range] at hi
      obtain ⟨_, _, hh⟩ := hF i hi
      have := hh j u (by simpa using hu)
      rwa [add_at, add_at] at this
end
/-- a row of numbers in a cell -/
abbrev zrowT : Type := RowV zinT
def zrowG (W : World) (x : zrowT) : Prop := RowG 1 zinL zinG W x


abbrev zsaT : Type := Int × zrowT
def zsaL (x : zsaT) : List Value := [.int .i64 x.1, .slice x.2.1 x.2.2.1.length x.2.2.2]
def zsaG (W : World) (x : zsaT) : Prop := (Lit.int .i64 x.1).wf = true ∧ zrowG W x.2

end Go.Proofs.YtaajfbbogihbnaaDoor
