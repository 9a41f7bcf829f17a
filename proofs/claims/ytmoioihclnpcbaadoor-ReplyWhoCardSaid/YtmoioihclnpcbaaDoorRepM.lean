/- Layer 14: mathematics: a line of a command and parameters. -/
import Derived.Test.YtmoioihclnpcbaaDoorBase
import Derived.Lib.Replace
import Derived.Lib.CountLaws
import Derived.Lib.IndexBytes
import Derived.Lib.IndexLaws
namespace Go.Proofs.YtmoioihclnpcbaaDoor
set_option linter.unusedVariables false
set_option linter.unusedSimpArgs false
open Go Go.RowKit Go.Lib

/-- a byte that no line has -/
def brk14 (b : UInt8) : Bool := b == 0 || b == 10 || b == 13
/-- a - for each blank -/
def dashL (l : List UInt8) : List UInt8 := l.map fun b => if b = 32 then 45 else b
theorem dash_none {l : List UInt8} (h : ∀ b ∈ l, b ≠ 32) : dashL l = l := by
  unfold dashL
  conv => rhs; rw [← List.map_id l]
  refine List.map_congr_left fun b hb => ?_
  rw [if_neg (h b hb)]; rfl
theorem ix_split (s : List UInt8) : (Lib.index s [32] = -1 ∧ ∀ b ∈ s, b ≠ 32) ∨ ∃ i : Nat, Lib.index s [32] = i ∧ i < s.length ∧ s = s.take i ++ 32 :: s.drop (i + 1) ∧ ∀ b ∈ s.take i, b ≠ 32 := by
  rw [Lib.index_one]
  by_cases h : Lib.indexByte s 32 = -1
  · refine .inl ⟨h, fun b hb e => ?_⟩
    obtain ⟨k, hk⟩ := List.getElem?_of_mem hb
    rw [e] at hk
    exact Lib.indexByte_none h k hk
  · have hge := Lib.indexByte_ge s 32
    obtain ⟨i, hi⟩ : ∃ i : Nat, Lib.indexByte s 32 = i := ⟨(Lib.indexByte s 32).toNat, by omega⟩
    obtain ⟨h1, h2⟩ := Lib.indexByte_some hi
    have hl : i < s.length := (List.getElem?_eq_some_iff.1 h1).1
    have h4 : s[i] = 32 := (List.getElem?_eq_some_iff.1 h1).2
    refine .inr ⟨i, hi, hl, ?_, fun b hb e => ?_⟩
    · rw [← h4, ← List.drop_eq_getElem_cons hl, List.take_append_drop]
    · obtain ⟨k, hk⟩ := List.getElem?_of_mem hb
      rw [List.getElem?_take] at hk
      split at hk
      · rw [e] at hk; exact h2 k ‹_› hk
      · cases hk
theorem replaceK_dash : ∀ (k : Nat) (s : List UInt8), Lib.count s [32] ≤ k → Lib.replaceK [32] [45] k s = dashL s
  | 0, s, h => by
    rcases ix_split s with ⟨h1, h2⟩ | ⟨i, h1, _⟩
    · rw [dash_none h2]; rfl
    · have := Lib.count_hit (by decide) h1; omega
  | k + 1, s, h => by
    rcases ix_split s with ⟨h1, h2⟩ | ⟨i, h1, hl, h2, h3⟩
    · rw [dash_none h2]
      show (if Lib.index s [32] == -1 then s else _) = s
      rw [h1]; rfl
    · have hc := Lib.count_hit (by decide) h1
      rw [Lib.replaceK_hit _ _ _ _ _ h1, replaceK_dash k _ (by simp only [List.length_cons, List.length_nil] at hc ⊢; omega)]
      conv => rhs; rw [h2]
      unfold dashL
      rw [List.map_append, List.map_cons]
      have := dash_none h3
      unfold dashL at this
      rw [this]
      simp
theorem replace_dash (s : List UInt8) : Lib.replaceAll s [32] [45] = dashL s := by
  unfold Lib.replaceAll Lib.replace
  rw [if_neg (by decide)]
  refine replaceK_dash _ _ ?_
  unfold Lib.replaceNum
  rw [if_pos (.inl (by decide))]
  exact Nat.le_refl _
/-- a parameter that isn't the last one, out of a cleaned text -/
def midU : List UInt8 → List UInt8
  | [] => [42]
  | b :: r => if b = 58 then 45 :: r else b :: r
def midL (l : List UInt8) : List UInt8 := midU (dashL l)
/-- a parameter that can only be read with a colon ahead -/
def needC (l : List UInt8) : Bool := decide (l = []) || decide (l.head? = some 58) || decide (32 ∈ l)
/-- what is written of the parameters -/
def tailL : List (List UInt8) → List UInt8
  | [] => []
  | [p] => 32 :: ((if needC p then [58] else []) ++ p)
  | p :: q :: r => 32 :: (p ++ tailL (q :: r))
def headL (prefix_ : List UInt8) : List UInt8 := if prefix_ = [] then [] else 58 :: (prefix_ ++ [32])
def writeL (prefix_ name : List UInt8) (ps : List (List UInt8)) : List UInt8 := headL prefix_ ++ name ++ tailL ps
/-- the parameters of a line, out of cleaned ones -/
def parsL : List (List UInt8) → List (List UInt8)
  | [] => []
  | [p] => [p]
  | p :: q :: r => midL p :: parsL (q :: r)
end Go.Proofs.YtmoioihclnpcbaaDoor
