/- Layer 2: BookStays: words. -/
import Derived.Test.YtfdaeajafmcjcaaBokLS
import Derived.Test.YtfdaeajafmcjcaaBokE
import Derived.Test.YtfdaeajafmcjcaaFoldI
namespace Go.Proofs.Ytfdaeajafmcjcaa
set_option linter.unusedVariables false
set_option linter.unusedSimpArgs false
open Go Go.RowKit Go.Maps Go.Sort Go.Shelf Go.Lib

theorem putS_room {base t b : Nat} {most : Int} {T : List (KeyB × Ent VS)} {name : ByteArray} {v : VS} {w w' : World} {e : Ending} (h : PutPS base t b most T name v w e w') (hr : (T.length : Int) < most) : e = .returned (.int .i64 0) ∧ BokS base w' t b most (setM T (foldL name.data.toList) ⟨name, foldL name.data.toList, v⟩) ∧ Fr (fun j => j = b) w w' := by
  obtain ⟨h | h, hf⟩ := h
  · exact ⟨h.2.1, h.2.2, hf⟩
  · exact absurd hr h.1.2
/-- each thing is its name, and short -/
def Stay (T : List (KeyB × Ent VS)) : Prop := ∀ p ∈ T, p.2.name = p.2.thing ∧ p.2.name.size ≤ 30
theorem stay_set {T : List (KeyB × Ent VS)} (h : Stay T) {s : ByteArray} (hs : s.size ≤ 30) (k : KeyB) : Stay (setM T k ⟨s, k, s⟩) := fun p hp => by
  unfold setM at hp
  rcases List.mem_append.1 hp with hp | hp
  · exact h p (List.mem_filter.1 hp).1
  · simp at hp; subst hp; exact ⟨rfl, hs⟩
theorem setS_len (T : List (KeyB × Ent VS)) (k : KeyB) (v : Ent VS) : (setM T k v).length ≤ T.length + 1 := by
  unfold setM
  have := List.length_filter_le (fun p : KeyB × Ent VS => decide (p.1 ≠ k)) T
  rw [List.length_append]; simp only [List.length_cons, List.length_nil]; omega
/-- of what is told, one behind the other compares as less -/
theorem cmp_told {a b : ByteArray} (h : foldL a.data.toList < foldL b.data.toList) : cmpF a.data.toList b.data.toList = -1 := by
  unfold cmpF
  refine (less_cmpL _ _).1 ?_
  rw [bytesLess_eq]
  exact decide_eq_true h
/-- what is left behind deletes of all that was there: at most the one that came -/
theorem left_one {T : List (KeyB × Ent VS)} (hn : (T.map (·.1)).Nodup) (k : KeyB) (h : ∀ p ∈ T, p.1 = k) : T.length ≤ 1 := by
  match T, hn, h with
  | [], _, _ => simp
  | [a], _, _ => simp
  | a :: b :: r, hn, h =>
    exfalso
    rw [List.map_cons, List.map_cons, List.nodup_cons] at hn
    refine hn.1 ?_
    rw [h a (by simp), h b (by simp)]
    exact List.mem_cons_self ..
/-- what is left when these have been told, and taken away -/
def leftS (T : List (KeyB × Ent VS)) : List (Ent VS) → List (KeyB × Ent VS)
  | [] => T
  | e :: r => leftS (delM T (foldL e.name.data.toList)) r
theorem leftS_snoc (T : List (KeyB × Ent VS)) (l : List (Ent VS)) (e : Ent VS) : leftS T (l ++ [e]) = delM (leftS T l) (foldL e.name.data.toList) := by
  induction l generalizing T with
  | nil => rfl
  | cons a r ih => exact ih _
theorem leftS_mem {T : List (KeyB × Ent VS)} {l : List (Ent VS)} {p : KeyB × Ent VS} : p ∈ leftS T l ↔ p ∈ T ∧ ∀ e ∈ l, p.1 ≠ foldL e.name.data.toList := by
  induction l generalizing T with
  | nil => simp [leftS]
  | cons a r ih =>
    unfold leftS
    rw [ih, delM, List.mem_filter, decide_eq_true_eq]
    simp only [List.mem_cons, forall_eq_or_imp]
    exact ⟨fun ⟨⟨h1, h2⟩, h3⟩ => ⟨h1, h2, h3⟩, fun ⟨h1, h2, h3⟩ => ⟨⟨h1, h2⟩, h3⟩⟩
theorem leftS_nodup {T : List (KeyB × Ent VS)} (h : (T.map (·.1)).Nodup) (l : List (Ent VS)) : ((leftS T l).map (·.1)).Nodup := by
  induction l generalizing T with
  | nil => exact h
  | cons a r ih => exact ih (nodup_delM h _)
theorem leftS_len {T : List (KeyB × Ent VS)} (l : List (Ent VS)) : (leftS T l).length ≤ T.length := by
  induction l generalizing T with
  | nil => exact Nat.le_refl _
  | cons a r ih => exact Nat.le_trans ih (List.length_filter_le _ _)
end Go.Proofs.Ytfdaeajafmcjcaa
