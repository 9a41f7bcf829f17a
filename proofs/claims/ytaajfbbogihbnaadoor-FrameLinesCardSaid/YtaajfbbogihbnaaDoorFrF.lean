/- Layer 5: the document's All. -/
import Derived.Test.YtaajfbbogihbnaaDoorFrD
import Derived.Deep.LoopGhost
namespace Go.Proofs.YtaajfbbogihbnaaDoor
set_option linter.unusedVariables false
set_option linter.unusedSimpArgs false
open Go Go.RowKit Go.Lib

theorem conv_at8 {W : World} {v : Value} {l : List UInt8} (h : At8 W v l) : (convert 26 9 v).run Tryd.prog W = .ok (.string (bs l)) W := by
  obtain ⟨A, c, rfl, h1, h2, h3, h4⟩ := h
  cases A with
  | none =>
    obtain rfl : c = 0 := h3 rfl
    obtain rfl : l = [] := List.length_eq_zero_iff.1 (by omega)
    exact run_convert_bytes_nil W 26 5 Tryd.underlying26 Tryd.underlying5 0 0 9 Tryd.underlying9
  | some a =>
    refine run_convert_bytes_back W 26 9 5 a c l Tryd.underlying26 Tryd.underlying5 Tryd.underlying9 fun j hj => ?_
    obtain ⟨g, o, e, hg, hc⟩ := h4 (by omega)
    cases e
    rw [add8, hc j hj]
    rfl
/-- l[a:b], as one value -/
theorem run_mid8 {A : Option Addr} {c : Nat} {l : List UInt8} (a b : Nat) (hab : a ≤ b) (hb : b ≤ l.length) (h1 : l.length ≤ c) (hl : l.length ≤ 1000000000) (h2 : c ≤ maxLen) (h3 : A = none → c = 0) :
    ∃ A2, (∀ W, (Instr.slice 26 (.slice A l.length c) (some (.int .i64 (a : Int))) (some (.int .i64 (b : Int))) none).run Tryd.prog W = .ok (.slice A2 (b - a) (c - a)) W) ∧ (∀ W, Lie8 W A l → At8 W (.slice A2 (b - a) (c - a)) ((l.take b).drop a)) := by
  refine ⟨if c = a then A else A.map (·.add (a * 1)), fun W => ?_, fun W h4 => ?_⟩
  · have hu : Tryd.prog.underlying 26 = some (.slice (Tryd.prog.elem 26)) := by kernel_rfl
    rw [run_slice_lh W 26 _ _ _ hu _ _ _ _ (by omega) (by omega) (by omega)]
    have hs : (sizeOf (Tryd.prog.elem 26)).run Tryd.prog W = .ok 1 W := by kernel_rfl
    rw [hs]
    simp [Result.andThen, sliced]
  · have e : (l.take b).length = b := by simp [Nat.min_eq_left hb]
    have hp : Lie8 W A (l.take b) := fun h0 => by
      obtain ⟨g, o, rfl, hg, hc⟩ := h4 (by omega)
      exact ⟨g, o, rfl, hg, fun j hj => by rw [hc j (by omega)]; simp⟩
    have := at8_drop (c := c) (by omega) h2 h3 hp a (by omega)
    rw [e] at this
    exact this

/-- what waits at place i, if the line began at place f -/
def stAt (l : List UInt8) (f i : Nat) : FSt := if 510 < i - f then ([], true) else ((l.take i).drop f, false)
theorem stAt_more (l : List UInt8) (f i : Nat) (hf : f ≤ i) (hi : i < l.length) : keepM (stAt l f i) [l[i]] = stAt l f (i + 1) := by
  have e1 : (l.take i).length = i := by simp; omega
  have e : (l.take (i + 1)).drop f = (l.take i).drop f ++ [l[i]] := by
    rw [List.take_succ_eq_append_getElem hi, List.drop_append_of_le_length (by omega)]
  have el : ((l.take i).drop f).length = i - f := by rw [List.length_drop, e1]
  unfold stAt
  by_cases h1 : 510 < i - f
  · rw [if_pos h1, if_pos (by omega)]; rfl
  · rw [if_neg h1]
    by_cases h2 : 510 < i + 1 - f
    · rw [if_pos h2]
      unfold keepM
      rw [if_pos (.inr (by rw [el]; simp; omega))]
    · rw [if_neg h2]
      unfold keepM
      rw [if_neg (by rw [el]; simp; omega), e]
theorem feed_take_more {l : List UInt8} {i : Nat} (hi : i < l.length) {os : List FSt} {s : FSt} (h : feedM ([], false) (l.take i) = (os, s)) (hn : ¬ isEnd l[i]) : feedM ([], false) (l.take (i + 1)) = (os, keepM s [l[i]]) := by
  rw [List.take_succ_eq_append_getElem hi, feedM_app, h]
  simp only [feedM_more hn, feedM_nil, List.append_nil]
theorem feed_take_end {l : List UInt8} {i : Nat} (hi : i < l.length) {os : List FSt} {s : FSt} (h : feedM ([], false) (l.take i) = (os, s)) (hn : isEnd l[i]) : feedM ([], false) (l.take (i + 1)) = (os ++ outM s, ([], false)) := by
  rw [List.take_succ_eq_append_getElem hi, feedM_app, h]
  simp only [feedM_end hn, feedM_nil, List.append_nil]
theorem stAt_self (l : List UInt8) (i : Nat) : stAt l i i = ([], false) := by
  unfold stAt
  rw [if_neg (by omega)]
  have : (l.take i).drop i = [] := List.drop_eq_nil_of_le (by simp; omega)
  rw [this]
theorem out_long {l : List UInt8} {f i : Nat} (h : 510 < i - f) : outM (stAt l f i) = [([], true)] := by unfold stAt; rw [if_pos h]; rfl
theorem out_some {l : List UInt8} {f i : Nat} (h : ¬ 510 < i - f) (hf : f < i) (hi : i ≤ l.length) : outM (stAt l f i) = [((l.take i).drop f, false)] := by
  unfold stAt outM
  rw [if_neg h, if_neg]
  intro e
  have := congrArg (fun x : FSt => x.1.length) e
  simp at this; omega
theorem out_none {l : List UInt8} {i : Nat} : outM (stAt l i i) = [] := by rw [stAt_self]; rfl
end Go.Proofs.YtaajfbbogihbnaaDoor
