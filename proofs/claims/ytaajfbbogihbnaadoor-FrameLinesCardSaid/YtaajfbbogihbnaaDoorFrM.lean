/- Layer 5: mathematics: what comes of bytes. -/
import Derived.Test.YtaajfbbogihbnaaDoorFrA
import Derived.Lib.IndexAny
namespace Go.Proofs.YtaajfbbogihbnaaDoor
set_option linter.unusedVariables false
set_option linter.unusedSimpArgs false
open Go Go.RowKit

def isEnd (b : UInt8) : Prop := b = 13 ∨ b = 10
instance (b : UInt8) : Decidable (isEnd b) := by unfold isEnd; infer_instance
def good (s : FSt) : Prop := s.1.length ≤ 510 ∧ (s.2 = true → s.1 = [])
/-- a line that waited, if there is one -/
def outM (s : FSt) : List FSt := if s = ([], false) then [] else [s]
def feedM : FSt → List UInt8 → List FSt × FSt
  | s, [] => ([], s)
  | s, c :: r => if isEnd c then (outM s ++ (feedM ([], false) r).1, (feedM ([], false) r).2) else feedM (keepM s [c]) r
theorem feedM_nil (s : FSt) : feedM s [] = ([], s) := rfl
theorem feedM_end {c : UInt8} (h : isEnd c) (s : FSt) (r : List UInt8) : feedM s (c :: r) = (outM s ++ (feedM ([], false) r).1, (feedM ([], false) r).2) := by
  show (if isEnd c then _ else _) = _; rw [if_pos h]
theorem feedM_more {c : UInt8} (h : ¬ isEnd c) (s : FSt) (r : List UInt8) : feedM s (c :: r) = feedM (keepM s [c]) r := by
  show (if isEnd c then _ else _) = _; rw [if_neg h]
theorem good_new : good ([], false) := ⟨Nat.zero_le _, fun h => by cases h⟩
theorem keepM_good {s : FSt} (l : List UInt8) (h : good s) : good (keepM s l) := by
  refine ⟨keepM_len s l h.1, ?_⟩
  unfold keepM
  split
  · exact fun _ => rfl
  · intro e; cases e
theorem keepM_nil {s : FSt} (h : good s) : keepM s [] = s := by
  obtain ⟨xs, b⟩ := s
  cases b with
  | true => have := h.2 rfl; simp only at this; subst this; rfl
  | false => unfold keepM; rw [if_neg (by simp)]; simp
theorem keepM_app {s : FSt} (h : good s) (a b : List UInt8) : keepM (keepM s a) b = keepM s (a ++ b) := by
  obtain ⟨xs, t⟩ := s
  have hl := h.1
  simp only at hl
  cases t with
  | true => simp [keepM]
  | false =>
    by_cases h1 : 510 - xs.length < a.length
    · have h2 : 510 - xs.length < (a ++ b).length := by rw [List.length_append]; omega
      simp only [keepM, h1, h2, or_true, if_true, true_or]
    · by_cases h3 : 510 - (xs ++ a).length < b.length
      · have h2 : 510 - xs.length < (a ++ b).length := by rw [List.length_append] at h3 ⊢; omega
        simp only [keepM, h1, h2, h3, or_true, if_true, or_false, if_false, Bool.false_eq_true]
      · have h2 : ¬ 510 - xs.length < (a ++ b).length := by rw [List.length_append] at h3 ⊢; omega
        simp only [keepM, h1, h2, h3, or_false, if_false, Bool.false_eq_true, List.append_assoc]
theorem feedM_app : ∀ (a : List UInt8) (s : FSt) (b : List UInt8), feedM s (a ++ b) = ((feedM s a).1 ++ (feedM (feedM s a).2 b).1, (feedM (feedM s a).2 b).2)
  | [], s, b => by simp [feedM_nil]
  | c :: a, s, b => by
    rw [List.cons_append]
    by_cases h : isEnd c
    · rw [feedM_end h, feedM_end h, feedM_app a ([], false) b]; simp
    · rw [feedM_more h, feedM_more h, feedM_app a _ b]
theorem feedM_none : ∀ (l : List UInt8) (s : FSt), good s → (∀ b ∈ l, ¬ isEnd b) → feedM s l = ([], keepM s l)
  | [], s, hg, _ => by rw [keepM_nil hg]; rfl
  | c :: l, s, hg, hn => by
    rw [feedM_more (hn c List.mem_cons_self), feedM_none l _ (keepM_good _ hg) fun b hb => hn b (List.mem_cons_of_mem _ hb), keepM_app hg]
    rfl
theorem feedM_cut (a : List UInt8) (e : UInt8) (r : List UInt8) (s : FSt) (hg : good s) (hn : ∀ b ∈ a, ¬ isEnd b) (he : isEnd e) : feedM s (a ++ e :: r) = (outM (keepM s a) ++ (feedM ([], false) r).1, (feedM ([], false) r).2) := by
  rw [feedM_app, feedM_none a s hg hn]
  rw [List.nil_append, feedM_end he]
theorem feedM_good : ∀ (l : List UInt8) (s : FSt), good s → good (feedM s l).2
  | [], s, h => h
  | c :: l, s, h => by
    by_cases hc : isEnd c
    · rw [feedM_end hc]; exact feedM_good l _ good_new
    · rw [feedM_more hc]; exact feedM_good l _ (keepM_good _ h)
theorem end_contains (b : UInt8) : ([13, 10] : List UInt8).contains b = decide (isEnd b) := by
  by_cases h1 : b = 13
  · subst h1; rfl
  · by_cases h2 : b = 10
    · subst h2; rfl
    · have hn : ¬ isEnd b := fun e => e.elim h1 h2
      rw [decide_eq_false hn]
      simp [List.contains_cons, h1, h2]
/-- where the first end lies -/
theorem end_cases : ∀ l : List UInt8, (Lib.indexAny l [13, 10] = -1 ∧ ∀ b ∈ l, ¬ isEnd b) ∨ ∃ (a : List UInt8) (e : UInt8) (r : List UInt8), Lib.indexAny l [13, 10] = (a.length : Int) ∧ l = a ++ e :: r ∧ isEnd e ∧ ∀ b ∈ a, ¬ isEnd b
  | [] => .inl ⟨rfl, by simp⟩
  | c :: l => by
    unfold Lib.indexAny
    rw [end_contains c]
    by_cases hc : isEnd c
    · rw [decide_eq_true hc]
      exact .inr ⟨[], c, l, rfl, rfl, hc, by simp⟩
    · rw [decide_eq_false hc]
      rcases end_cases l with ⟨h1, h2⟩ | ⟨a, e, r, h1, h2, h3, h4⟩
      · rw [h1]
        refine .inl ⟨rfl, ?_⟩
        intro b hb
        rcases List.mem_cons.1 hb with rfl | hb
        · exact hc
        · exact h2 b hb
      · rw [h1]
        refine .inr ⟨c :: a, e, r, ?_, by rw [h2]; rfl, h3, ?_⟩
        · have : ((a.length : Int) == -1) = false := by rw [beq_eq_false_iff_ne]; omega
          simp [this]
        · intro b hb
          rcases List.mem_cons.1 hb with rfl | hb
          · exact hc
          · exact h4 b hb
end Go.Proofs.YtaajfbbogihbnaaDoor
