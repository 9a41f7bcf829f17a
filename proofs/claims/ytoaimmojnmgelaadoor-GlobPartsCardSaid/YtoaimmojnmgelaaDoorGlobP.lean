/- Masks, as mathematics: two masks, one behind the other; what is short; folded masks; masks without wildcards. -/
import Derived.Test.YtoaimmojnmgelaaDoorGlobM
import Derived.Test.YtoaimmojnmgelaaDoorGlobK
namespace Go.Proofs.YtoaimmojnmgelaaDoor
set_option linter.unusedVariables false
set_option linter.unusedSimpArgs false

theorem mm_split : ∀ (a b s : List UInt8), mm (a ++ b) s = true ↔ ∃ i, i ≤ s.length ∧ mm a (s.take i) = true ∧ mm b (s.drop i) = true
  | [], b, s => by
    rw [List.nil_append]
    constructor
    · intro h; exact ⟨0, Nat.zero_le _, by simp [mm], by simpa using h⟩
    · rintro ⟨i, hi, h1, h2⟩
      have : s.take i = [] := by simpa [mm] using h1
      have hi0 : i = 0 := by
        have := congrArg List.length this
        rw [List.length_take, List.length_nil] at this; omega
      subst hi0
      simpa using h2
  | c :: a, b, s => by
    rw [List.cons_append]
    by_cases hc : c = 42
    · subst hc
      simp only [mm_star, mm_split a b]
      constructor
      · rintro ⟨k, hk, i, hi, h1, h2⟩
        rw [List.length_drop] at hi
        refine ⟨k + i, by omega, ⟨k, by rw [List.length_take]; omega, ?_⟩, ?_⟩
        · rw [List.drop_take, Nat.add_sub_cancel_left]; exact h1
        · rw [List.drop_drop] at h2; exact h2
      · rintro ⟨j, hj, ⟨k, hk, h1⟩, h2⟩
        rw [List.length_take] at hk
        rw [List.drop_take] at h1
        exact ⟨k, by omega, j - k, by rw [List.length_drop]; omega, h1, by rw [List.drop_drop, show k + (j - k) = j by omega]; exact h2⟩
    · simp only [mm_other hc, mm_split a b]
      constructor
      · rintro ⟨x, t, rfl, hx, i, hi, h1, h2⟩
        exact ⟨i + 1, by simp; omega, ⟨x, t.take i, by simp, hx, h1⟩, by simpa using h2⟩
      · rintro ⟨i, hi, ⟨x, t, e, hx, h1⟩, h2⟩
        cases s with
        | nil => simp at e
        | cons y s =>
          cases i with
          | zero => simp at e
          | succ i =>
            simp only [List.take_succ_cons, List.cons.injEq] at e
            obtain ⟨rfl, rfl⟩ := e
            exact ⟨y, s, rfl, hx, i, by simp at hi; exact hi, h1, by simpa using h2⟩

/-- two masks that mean the same -/
def alike (a b : List UInt8) : Prop := ∀ s, mm a s = mm b s
theorem alike.trans {a b c : List UInt8} (h : alike a b) (k : alike b c) : alike a c := fun s => (h s).trans (k s)
theorem alike.symm {a b : List UInt8} (h : alike a b) : alike b a := fun s => (h s).symm
theorem alike.refl (a : List UInt8) : alike a a := fun _ => rfl
theorem alike.right {a b : List UInt8} (h : alike a b) (c : List UInt8) : alike (a ++ c) (b ++ c) := fun s => by
  rw [Bool.eq_iff_iff, mm_split, mm_split]
  constructor <;> (rintro ⟨i, hi, h1, h2⟩; exact ⟨i, hi, by first | (rw [← h]; exact h1) | (rw [h]; exact h1), h2⟩)
theorem alike.left {a b : List UInt8} (h : alike a b) (c : List UInt8) : alike (c ++ a) (c ++ b) := fun s => by
  rw [Bool.eq_iff_iff, mm_split, mm_split]
  constructor <;> (rintro ⟨i, hi, h1, h2⟩; exact ⟨i, hi, h1, by first | (rw [← h]; exact h2) | (rw [h]; exact h2)⟩)
theorem alike_two : alike [42, 42] [42] := fun s => by
  rw [Bool.eq_iff_iff]
  constructor
  · intro _; rw [mm_star]; exact ⟨s.length, Nat.le_refl _, by simp [mm]⟩
  · intro _; rw [mm_star]; exact ⟨s.length, Nat.le_refl _, by rw [mm_star]; exact ⟨0, Nat.zero_le _, by simp [mm]⟩⟩
theorem mm_one_q (s : List UInt8) : mm [63] s = true ↔ s.length = 1 := by
  rw [mm_other (by decide)]
  constructor
  · rintro ⟨b, t, rfl, _, h⟩
    have : t = [] := by simpa [mm] using h
    subst this; rfl
  · intro h
    cases s with
    | nil => simp at h
    | cons b t =>
      have : t = [] := List.length_eq_zero_iff.1 (by simpa using h)
      subst this
      exact ⟨b, [], rfl, by simp [mb], by simp [mm]⟩
theorem mm_one_s (s : List UInt8) : mm [42] s = true := by rw [mm_star]; exact ⟨s.length, Nat.le_refl _, by simp [mm]⟩
theorem alike_swap : alike [42, 63] [63, 42] := fun s => by
  rw [Bool.eq_iff_iff, show ([42, 63] : List UInt8) = [42] ++ [63] from rfl, show ([63, 42] : List UInt8) = [63] ++ [42] from rfl, mm_split, mm_split]
  constructor
  · rintro ⟨i, hi, _, h2⟩
    rw [mm_one_q, List.length_drop] at h2
    exact ⟨1, by omega, by rw [mm_one_q, List.length_take]; omega, mm_one_s _⟩
  · rintro ⟨i, hi, h1, _⟩
    rw [mm_one_q, List.length_take] at h1
    exact ⟨s.length - 1, by omega, mm_one_s _, by rw [mm_one_q, List.length_drop]; omega⟩
theorem short_snoc (l : List UInt8) (c : UInt8) : shortL (l ++ [c]) = if c = 42 then (shS l).1 ++ [42] else if c = 63 ∧ (shS l).2 = true then (shS l).1 ++ [63, 42] else shortL l ++ [c] := by
  unfold shortL
  rw [shS_snoc]
  obtain ⟨⟨o, st⟩, ho⟩ : ∃ x, shS l = x := ⟨_, rfl⟩
  rw [ho]
  unfold shStep
  by_cases h1 : c = 42
  · simp [h1]
  · by_cases h2 : c = 63
    · cases st <;> simp [h2]
    · cases st <;> simp [h1, h2]
theorem short_alike (l : List UInt8) : alike (shortL l) l := by
  induction l using snoc_ind with
  | nil => exact alike.refl _
  | snoc l c ih =>
    have e := short_snoc l c
    have hdef : shortL l = if (shS l).2 then (shS l).1 ++ [42] else (shS l).1 := rfl
    rw [e]
    have ih2 := ih.right [c]
    obtain ⟨⟨o, st⟩, ho⟩ : ∃ x, shS l = x := ⟨_, rfl⟩
    rw [ho] at hdef ⊢
    simp only at hdef ⊢
    rw [hdef] at ih2 ⊢
    by_cases h1 : c = 42
    · rw [if_pos h1]
      subst h1
      cases st
      · exact ih2
      · refine alike.trans ?_ ih2
        rw [if_pos rfl, List.append_assoc]
        exact alike_two.symm.left o
    · rw [if_neg h1]
      by_cases h2 : c = 63
      · subst h2
        cases st
        · rw [if_neg (by simp)]; exact ih2
        · rw [if_pos ⟨rfl, rfl⟩]
          refine alike.trans ?_ ih2
          rw [if_pos rfl, List.append_assoc]
          exact alike_swap.symm.left o
      · rw [if_neg (by rintro ⟨h, _⟩; exact h2 h)]; exact ih2

/-- has a mask a * or ?? -/
def wildL (l : List UInt8) : Bool := l.any fun c => c == 42 || c == 63
theorem wild_snoc (l : List UInt8) (c : UInt8) : wildL (l ++ [c]) = (wildL l || (c == 42 || c == 63)) := by simp [wildL]
theorem wild_app (a b : List UInt8) : wildL (a ++ b) = (wildL a || wildL b) := by simp [wildL]
theorem short_wild (l : List UInt8) : wildL (shortL l) = wildL l := by
  induction l using snoc_ind with
  | nil => rfl
  | snoc l c ih =>
    have e := short_snoc l c
    have hdef : shortL l = if (shS l).2 then (shS l).1 ++ [42] else (shS l).1 := rfl
    rw [e, wild_snoc]
    obtain ⟨⟨o, st⟩, ho⟩ : ∃ x, shS l = x := ⟨_, rfl⟩
    rw [ho] at hdef ⊢
    simp only at hdef ⊢
    by_cases h1 : c = 42
    · rw [if_pos h1, wild_app]; subst h1; simp [wildL]
    · rw [if_neg h1]
      by_cases h2 : c = 63 ∧ st = true
      · rw [if_pos h2, wild_app]; obtain ⟨rfl, _⟩ := h2; simp [wildL]
      · rw [if_neg h2, wild_snoc, ih]

/-- no star is ahead of a star or a ? -/
def fine (l : List UInt8) : Prop := ∀ a b c, l = a ++ 42 :: c :: b → c ≠ 42 ∧ c ≠ 63
theorem fine_pre {l : List UInt8} {c : UInt8} (h : fine (l ++ [c])) : fine l := fun a b d e => h a (b ++ [c]) d (by rw [e]; simp)
theorem fine_snoc {l : List UInt8} {c : UInt8} (h : fine l) (hl : ∀ x, l.getLast? = some x → x = 42 → c ≠ 42 ∧ c ≠ 63) : fine (l ++ [c]) := by
  intro a b d e
  rcases List.eq_nil_or_concat b with rfl | ⟨b', y, rfl⟩
  · have e2 : l ++ [c] = (a ++ [42]) ++ [d] := by rw [e]; simp
    obtain ⟨e3, e4⟩ := List.append_inj' e2 rfl
    simp at e4
    subst e4
    exact hl 42 (by rw [e3]; simp) rfl
  · have e2 : l ++ [c] = (a ++ 42 :: d :: b') ++ [y] := by rw [e]; simp
    obtain ⟨e3, _⟩ := List.append_inj' e2 rfl
    exact h a b' d e3
theorem fine_nil : fine [] := fun a b c e => by simp at e
theorem fine_end {l : List UInt8} {c : UInt8} (h : fine ((l ++ [42]) ++ [c])) : c ≠ 42 ∧ c ≠ 63 := h l [] c (by simp)
theorem short_fine (l : List UInt8) : fine (shS l).1 := by
  induction l using snoc_ind with
  | nil => exact fine_nil
  | snoc l c ih =>
    have hl := shS_last l
    rw [shS_snoc]
    obtain ⟨⟨o, st⟩, ho⟩ : ∃ x, shS l = x := ⟨_, rfl⟩
    rw [ho] at ih hl ⊢
    unfold shStep
    by_cases h1 : c = 42
    · rw [if_pos h1]; exact ih
    · rw [if_neg h1]
      by_cases h2 : c = 63
      · rw [if_pos h2]; exact fine_snoc ih fun x hx e => absurd e (hl x hx)
      · rw [if_neg h2]
        cases st
        · exact fine_snoc ih fun x hx e => absurd e (hl x hx)
        · exact fine_snoc (fine_snoc ih fun x hx e => absurd e (hl x hx)) fun _ _ _ => ⟨h1, h2⟩
theorem shortL_fine (l : List UInt8) : fine (shortL l) := by
  unfold shortL
  split
  · exact fine_snoc (short_fine l) fun x hx e => absurd e (shS_last l x hx)
  · exact short_fine l
theorem fine_short (l : List UInt8) (h : fine l) : shortL l = l := by
  induction l using snoc_ind with
  | nil => rfl
  | snoc l c ih =>
    have ihl := ih (fine_pre h)
    have hdef : shortL l = if (shS l).2 then (shS l).1 ++ [42] else (shS l).1 := rfl
    rw [short_snoc]
    obtain ⟨⟨o, st⟩, ho⟩ : ∃ x, shS l = x := ⟨_, rfl⟩
    rw [ho] at hdef ⊢
    simp only at hdef ⊢
    cases st
    · rw [if_neg (by decide), ihl] at hdef
      by_cases h1 : c = 42
      · rw [if_pos h1, ← hdef, h1]
      · rw [if_neg h1, if_neg (by simp), ihl]
    · rw [if_pos rfl, ihl] at hdef
      rw [hdef] at h
      obtain ⟨n1, n2⟩ := fine_end h
      rw [if_neg n1, if_neg (by rintro ⟨e, _⟩; exact n2 e), ihl]
theorem short_idem (l : List UInt8) : shortL (shortL l) = shortL l := fine_short _ (shortL_fine l)

/-- of two with a star between -/
theorem mm_parts (a b s : List UInt8) : mm (a ++ [42] ++ b) s = true ↔ ∃ i k, i ≤ k ∧ k ≤ s.length ∧ mm a (s.take i) = true ∧ mm b (s.drop k) = true := by
  rw [List.append_assoc, mm_split]
  constructor
  · rintro ⟨i, hi, h1, h2⟩
    rw [List.singleton_append, mm_star] at h2
    obtain ⟨k, hk, h3⟩ := h2
    rw [List.length_drop] at hk
    rw [List.drop_drop] at h3
    exact ⟨i, i + k, by omega, by omega, h1, h3⟩
  · rintro ⟨i, k, hik, hk, h1, h2⟩
    refine ⟨i, by omega, h1, ?_⟩
    rw [List.singleton_append, mm_star]
    exact ⟨k - i, by rw [List.length_drop]; omega, by rw [List.drop_drop, show i + (k - i) = k by omega]; exact h2⟩
theorem mm_plain : ∀ (m s : List UInt8), wildL m = false → mm m s = (foldL m == foldL s)
  | [], s, _ => by
    cases s with
    | nil => rfl
    | cons b t => simp [mm, foldL]
  | c :: m, s, h => by
    simp only [wildL, List.any_cons, Bool.or_eq_false_iff] at h
    obtain ⟨⟨h1, h2⟩, h3⟩ := h
    have hc : c ≠ 42 := by simpa using h1
    simp only [mm, if_neg hc]
    cases s with
    | nil => simp [foldL]
    | cons b t =>
      simp only []
      have ih := mm_plain m t (by unfold wildL; exact h3)
      rw [ih]
      simp only [foldL, List.map_cons, mb, h2, Bool.false_or]
      rw [Bool.eq_iff_iff]
      simp
theorem all256g {p : UInt8 → Bool} (h : ((List.range 256).all fun n => p n.toUInt8) = true) (b : UInt8) : p b = true := by
  have := List.all_eq_true.1 h b.toNat (List.mem_range.2 b.toNat_lt)
  simpa using this
theorem foldB_42 (b : UInt8) : (foldB b == 42) = (b == 42) := by
  have := all256g (p := fun b => (foldB b == 42) == (b == 42)) (by kernel_rfl) b
  simpa using this
theorem foldB_63 (b : UInt8) : (foldB b == 63) = (b == 63) := by
  have := all256g (p := fun b => (foldB b == 63) == (b == 63)) (by kernel_rfl) b
  simpa using this
theorem foldB_33 (b : UInt8) : (foldB b == 33) = (b == 33) := by
  have := all256g (p := fun b => (foldB b == 33) == (b == 33)) (by kernel_rfl) b
  simpa using this
theorem foldB_64 (b : UInt8) : (foldB b == 64) = (b == 64) := by
  have := all256g (p := fun b => (foldB b == 64) == (b == 64)) (by kernel_rfl) b
  simpa using this
theorem foldB_two (b : UInt8) : foldB (foldB b) = foldB b := by
  have := all256g (p := fun b => foldB (foldB b) == foldB b) (by kernel_rfl) b
  simpa using this
theorem mb_fold (c b : UInt8) : mb (foldB c) (foldB b) = mb c b := by unfold mb; rw [foldB_63, foldB_two, foldB_two]
theorem mm_fold : ∀ (m s : List UInt8), mm (foldL m) (foldL s) = mm m s
  | [], s => by cases s <;> rfl
  | c :: m, s => by
    have e : foldL (c :: m) = foldB c :: foldL m := rfl
    rw [e, Bool.eq_iff_iff]
    have h42 : (foldB c = 42) ↔ (c = 42) := by have := foldB_42 c; rw [Bool.eq_iff_iff, beq_iff_eq, beq_iff_eq] at this; exact this
    by_cases hc : c = 42
    · rw [h42.2 hc, hc, mm_star, mm_star]
      have hl : (foldL s).length = s.length := by simp [foldL]
      rw [hl]
      have hd : ∀ k, (foldL s).drop k = foldL (s.drop k) := fun k => by simp [foldL, List.map_drop]
      constructor <;> (rintro ⟨k, hk, h⟩; exact ⟨k, hk, by first | (rw [hd, mm_fold m] at h; exact h) | (rw [hd, mm_fold m]; exact h)⟩)
    · rw [mm_other (fun h => hc (h42.1 h)), mm_other hc]
      constructor
      · rintro ⟨b, t, e, h1, h2⟩
        cases s with
        | nil => simp [foldL] at e
        | cons x s =>
          simp only [foldL, List.map_cons, List.cons.injEq] at e
          obtain ⟨rfl, rfl⟩ := e
          exact ⟨x, s, rfl, by rw [← mb_fold]; exact h1, by rw [← mm_fold m]; exact h2⟩
      · rintro ⟨b, t, rfl, h1, h2⟩
        exact ⟨foldB b, foldL t, rfl, by rw [mb_fold]; exact h1, by rw [mm_fold m]; exact h2⟩
end Go.Proofs.YtoaimmojnmgelaaDoor
