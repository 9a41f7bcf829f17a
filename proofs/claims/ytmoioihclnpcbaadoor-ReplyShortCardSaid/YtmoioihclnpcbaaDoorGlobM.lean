/- Masks, as mathematics: what a mask means; that row by row, and by going back to the last star alone, the same is found. -/
import Derived.Test.YtmoioihclnpcbaaDoorFoldI
namespace Go.Proofs.YtmoioihclnpcbaaDoor

/-- does a mask's byte that is no star mean a byte? -/
def mb (c b : UInt8) : Bool := c == 63 || foldB c == foldB b
/-- the ends of a text -/
def ends : List UInt8 → List (List UInt8)
  | [] => [[]]
  | b :: s => (b :: s) :: ends s
/-- does a mask mean a text? -/
def mm : List UInt8 → List UInt8 → Bool
  | [], s => s.isEmpty
  | c :: m, s => if c = 42 then (ends s).any (mm m) else match s with
    | [] => false
    | b :: t => mb c b && mm m t

theorem ends_any (p : List UInt8 → Bool) : ∀ s, (ends s).any p = true ↔ ∃ k, k ≤ s.length ∧ p (s.drop k) = true
  | [] => by simp [ends]
  | b :: s => by
    simp only [ends, List.any_cons, Bool.or_eq_true, ends_any p s, List.length_cons]
    constructor
    · rintro (h | ⟨k, hk, h⟩)
      · exact ⟨0, by omega, h⟩
      · exact ⟨k + 1, by omega, h⟩
    · rintro ⟨k, hk, h⟩
      cases k with
      | zero => exact .inl h
      | succ k => exact .inr ⟨k, by omega, h⟩
theorem mm_star (m s : List UInt8) : mm (42 :: m) s = true ↔ ∃ k, k ≤ s.length ∧ mm m (s.drop k) = true := by
  simp only [mm, if_true]; exact ends_any _ _
theorem mm_other {c : UInt8} (hc : c ≠ 42) (m s : List UInt8) : mm (c :: m) s = true ↔ ∃ b t, s = b :: t ∧ mb c b = true ∧ mm m t = true := by
  simp only [mm, if_neg hc]
  cases s with
  | nil => simp
  | cons b t =>
    simp only [Bool.and_eq_true, List.cons.injEq]
    constructor
    · intro h; exact ⟨b, t, ⟨rfl, rfl⟩, h⟩
    · rintro ⟨x, u, ⟨rfl, rfl⟩, h⟩; exact h

theorem mm_snoc_star : ∀ (m s : List UInt8), mm (m ++ [42]) s = true ↔ ∃ i, i ≤ s.length ∧ mm m (s.take i) = true
  | [], s => by
    rw [List.nil_append, mm_star]
    constructor
    · intro _; exact ⟨0, by omega, by simp [mm]⟩
    · intro _; exact ⟨s.length, by omega, by simp [mm]⟩
  | c :: m, s => by
    rw [List.cons_append]
    by_cases hc : c = 42
    · subst hc
      simp only [mm_star, mm_snoc_star m]
      constructor
      · rintro ⟨k, hk, i, hi, h⟩
        rw [List.length_drop] at hi
        refine ⟨k + i, by omega, k, by rw [List.length_take]; omega, ?_⟩
        rw [List.drop_take, Nat.add_sub_cancel_left]; exact h
      · rintro ⟨j, hj, k, hk, h⟩
        rw [List.length_take] at hk
        rw [List.drop_take] at h
        exact ⟨k, by omega, j - k, by rw [List.length_drop]; omega, h⟩
    · simp only [mm_other hc, mm_snoc_star m]
      constructor
      · rintro ⟨b, t, rfl, hb, i, hi, h⟩
        exact ⟨i + 1, by simp; omega, b, t.take i, by simp, hb, h⟩
      · rintro ⟨i, hi, b, t, e, hb, h⟩
        cases s with
        | nil => simp at e
        | cons x s =>
          cases i with
          | zero => simp at e
          | succ i =>
            simp only [List.take_succ_cons, List.cons.injEq] at e
            obtain ⟨rfl, rfl⟩ := e
            exact ⟨x, s, rfl, hb, i, by simp at hi; exact hi, h⟩

theorem mm_snoc_other {c : UInt8} (hc : c ≠ 42) : ∀ (m s : List UInt8), mm (m ++ [c]) s = true ↔ ∃ t b, s = t ++ [b] ∧ mm m t = true ∧ mb c b = true
  | [], s => by
    rw [List.nil_append, mm_other hc]
    constructor
    · rintro ⟨b, t, rfl, hb, h⟩
      have : t = [] := by simpa [mm] using h
      subst this
      exact ⟨[], b, rfl, by simp [mm], hb⟩
    · rintro ⟨t, b, rfl, h, hb⟩
      have : t = [] := by simpa [mm] using h
      subst this
      exact ⟨b, [], rfl, hb, by simp [mm]⟩
  | d :: m, s => by
    rw [List.cons_append]
    by_cases hd : d = 42
    · subst hd
      simp only [mm_star, mm_snoc_other hc m]
      constructor
      · rintro ⟨k, hk, t, b, e, h, hb⟩
        refine ⟨s.take k ++ t, b, ?_, ⟨k, ?_, ?_⟩, hb⟩
        · rw [List.append_assoc, ← e, List.take_append_drop]
        · simp; omega
        · rw [List.drop_append_of_le_length (by simp; omega)]
          rw [List.drop_of_length_le (by rw [List.length_take]; omega), List.nil_append]; exact h
      · rintro ⟨t, b, rfl, ⟨k, hk, h⟩, hb⟩
        exact ⟨k, by simp; omega, t.drop k, b, by rw [List.drop_append_of_le_length hk], h, hb⟩
    · simp only [mm_other hd, mm_snoc_other hc m]
      constructor
      · rintro ⟨x, u, rfl, hx, t, b, rfl, h, hb⟩
        exact ⟨x :: t, b, rfl, ⟨x, t, rfl, hx, h⟩, hb⟩
      · rintro ⟨t, b, rfl, ⟨x, u, rfl, hx, h⟩, hb⟩
        exact ⟨x, u ++ [b], rfl, hx, u, b, rfl, h, hb⟩

/-- row by row: which beginnings of the text do so many bytes of the mask mean? -/
def row (m s : List UInt8) (k i : Nat) : Bool := mm (m.take k) (s.take i)
theorem row_zero (m s : List UInt8) {i : Nat} (hi : i ≤ s.length) : row m s 0 i = (i == 0) := by
  unfold row
  rw [List.take_zero]
  simp only [mm]
  cases i with
  | zero => simp
  | succ i =>
    have : (s.take (i + 1)).length = i + 1 := by rw [List.length_take]; omega
    cases h : s.take (i + 1) with
    | nil => rw [h] at this; simp at this
    | cons a b => rfl
theorem row_star (m s : List UInt8) {k i : Nat} (hk : k < m.length) (hi : i ≤ s.length) (hc : m[k] = 42) : row m s (k + 1) i = (row m s k i || (decide (0 < i) && row m s (k + 1) (i - 1))) := by
  have e : m.take (k + 1) = m.take k ++ [42] := by rw [List.take_succ_eq_append_getElem hk, hc]
  rw [Bool.eq_iff_iff]
  simp only [row, e, Bool.or_eq_true, Bool.and_eq_true, decide_eq_true_eq, mm_snoc_star]
  constructor
  · rintro ⟨j, hj, h⟩
    rw [List.length_take] at hj
    rw [List.take_take, Nat.min_eq_left (by omega)] at h
    by_cases hji : j = i
    · subst hji; exact .inl h
    · exact .inr ⟨by omega, j, by rw [List.length_take]; omega, by rw [List.take_take, Nat.min_eq_left (by omega)]; exact h⟩
  · rintro (h | ⟨h0, j, hj, h⟩)
    · exact ⟨i, by rw [List.length_take]; omega, by rw [List.take_take, Nat.min_self]; exact h⟩
    · rw [List.length_take] at hj
      rw [List.take_take, Nat.min_eq_left (by omega)] at h
      exact ⟨j, by rw [List.length_take]; omega, by rw [List.take_take, Nat.min_eq_left (by omega)]; exact h⟩
theorem row_other (m s : List UInt8) {k i : Nat} (hk : k < m.length) (hi : i < s.length) (hc : m[k] ≠ 42) : row m s (k + 1) (i + 1) = (row m s k i && mb m[k] s[i]) := by
  have e : m.take (k + 1) = m.take k ++ [m[k]] := List.take_succ_eq_append_getElem hk
  have e2 : s.take (i + 1) = s.take i ++ [s[i]] := List.take_succ_eq_append_getElem hi
  rw [Bool.eq_iff_iff]
  simp only [row, e, e2, Bool.and_eq_true, mm_snoc_other hc]
  constructor
  · rintro ⟨t, b, h1, h2, h3⟩
    obtain ⟨rfl, h4⟩ := List.append_inj' h1 rfl
    simp at h4; subst h4
    exact ⟨h2, h3⟩
  · rintro ⟨h2, h3⟩
    exact ⟨_, _, rfl, h2, h3⟩
theorem row_other0 (m s : List UInt8) {k : Nat} (hk : k < m.length) (hc : m[k] ≠ 42) : row m s (k + 1) 0 = false := by
  have e : m.take (k + 1) = m.take k ++ [m[k]] := List.take_succ_eq_append_getElem hk
  rw [Bool.eq_false_iff]
  intro h
  simp only [row, e, mm_snoc_other hc] at h
  obtain ⟨t, b, h1, _⟩ := h
  simp at h1
theorem row_all (m s : List UInt8) : row m s m.length s.length = mm m s := by simp [row]

/-! going back to the last star alone -/
/-- from places on -/
def from' (m s : List UInt8) (a i : Nat) : Bool := mm (m.drop a) (s.drop i)
/-- somewhere from a place on -/
def some' (m s : List UInt8) (a i : Nat) : Prop := ∃ j, i ≤ j ∧ j ≤ s.length ∧ from' m s a j = true
theorem from_star {m s : List UInt8} {a i : Nat} (ha : a < m.length) (hc : m[a] = 42) (hi : i ≤ s.length) : from' m s a i = true ↔ some' m s (a + 1) i := by
  unfold from' some' from'
  rw [List.drop_eq_getElem_cons ha, hc, mm_star]
  constructor
  · rintro ⟨k, hk, h⟩
    rw [List.length_drop] at hk
    rw [List.drop_drop] at h
    exact ⟨i + k, by omega, by omega, h⟩
  · rintro ⟨j, h1, h2, h⟩
    refine ⟨j - i, by rw [List.length_drop]; omega, ?_⟩
    rw [List.drop_drop, show i + (j - i) = j by omega]; exact h
theorem from_step {m s : List UInt8} {a i : Nat} (ha : a < m.length) (hi : i < s.length) (hc : m[a] ≠ 42) : from' m s a i = (mb m[a] s[i] && from' m s (a + 1) (i + 1)) := by
  unfold from'
  rw [List.drop_eq_getElem_cons ha, List.drop_eq_getElem_cons hi, Bool.eq_iff_iff, mm_other hc, Bool.and_eq_true]
  constructor
  · rintro ⟨b, t, e, h1, h2⟩
    simp only [List.cons.injEq] at e
    obtain ⟨rfl, rfl⟩ := e
    exact ⟨h1, h2⟩
  · rintro ⟨h1, h2⟩
    exact ⟨_, _, rfl, h1, h2⟩
theorem from_out {m s : List UInt8} {a i : Nat} (ha : a = m.length) (hi : i < s.length) : from' m s a i = false := by
  unfold from'
  rw [List.drop_of_length_le (by omega), List.drop_eq_getElem_cons hi]
  rfl
/-- are all bytes stars? -/
def stars (l : List UInt8) : Bool := l.all fun c => c == 42
theorem from_end {m s : List UInt8} {a : Nat} : from' m s a s.length = stars (m.drop a) := by
  unfold from'
  rw [List.drop_of_length_le (Nat.le_refl _)]
  generalize m.drop a = l
  induction l with
  | nil => rfl
  | cons c l ih =>
    by_cases hc : c = 42
    · subst hc
      simp only [stars, List.all_cons] at *
      rw [← ih]
      simp [mm, ends]
    · simp [mm, hc, stars]

/-- a row of bytes that are no stars, each meaning one of the text's -/
def seg (m s : List UInt8) (a i n : Nat) : Prop := a + n ≤ m.length ∧ i + n ≤ s.length ∧ ∀ j, j < n → m.getD (a + j) 42 ≠ 42 ∧ mb (m.getD (a + j) 42) (s.getD (i + j) 0) = true
theorem seg_zero {m s : List UInt8} {a i : Nat} (ha : a ≤ m.length) (hi : i ≤ s.length) : seg m s a i 0 := ⟨ha, hi, fun j h => absurd h (Nat.not_lt_zero j)⟩
theorem getD_at (l : List UInt8) (k : Nat) (d : UInt8) (h : k < l.length) : l.getD k d = l[k] := by simp [h]
theorem seg_snoc {m s : List UInt8} {a i n : Nat} (h : seg m s a i n) (ha : a + n < m.length) (hi : i + n < s.length) (hc : m[a + n] ≠ 42) (hb : mb m[a + n] s[i + n] = true) : seg m s a i (n + 1) := by
  refine ⟨by omega, by omega, fun j hj => ?_⟩
  by_cases hjn : j = n
  · subst hjn
    rw [getD_at _ _ _ ha, getD_at _ _ _ hi]; exact ⟨hc, hb⟩
  · exact h.2.2 j (by omega)
theorem seg_from {m s : List UInt8} {a i : Nat} : ∀ {n : Nat}, seg m s a i n → from' m s a i = from' m s (a + n) (i + n)
  | 0, _ => rfl
  | n + 1, h => by
    obtain ⟨h1, h2, h3⟩ := h
    rw [seg_from (n := n) ⟨by omega, by omega, fun j hj => h3 j (by omega)⟩]
    obtain ⟨hc, hb⟩ := h3 n (by omega)
    rw [getD_at _ _ _ (by omega)] at hc hb
    rw [getD_at s _ _ (by omega)] at hb
    rw [from_step (by omega) (by omega) hc, hb]; rfl
/-- what begins with bytes that are no stars takes as many of the text -/
theorem seg_take {m s : List UInt8} {a i : Nat} : ∀ {n : Nat}, (a + n ≤ m.length) → (∀ j, j < n → m.getD (a + j) 42 ≠ 42) → i ≤ s.length → from' m s a i = true → i + n ≤ s.length ∧ from' m s (a + n) (i + n) = true
  | 0, _, _, hi, h => ⟨hi, h⟩
  | n + 1, h1, h3, hi, h => by
    obtain ⟨e1, e2⟩ := seg_take (n := n) (by omega) (fun j hj => h3 j (by omega)) hi h
    have hc := h3 n (by omega)
    rw [getD_at _ _ _ (by omega)] at hc
    by_cases hlt : i + n < s.length
    · rw [from_step (by omega) hlt hc, Bool.and_eq_true] at e2
      exact ⟨by omega, e2.2⟩
    · exfalso
      unfold from' at e2
      have f1 : s.drop (i + n) = [] := List.drop_of_length_le (by omega)
      have f2 : a + n < m.length := by omega
      rw [List.drop_eq_getElem_cons f2, f1, mm_other hc] at e2
      obtain ⟨_, _, e, _⟩ := e2
      cases e
theorem seg_star {m s : List UInt8} {a i n : Nat} (h : seg m s a i n) (ha : a + n < m.length) (hc : m[a + n] = 42) : some' m s a i ↔ some' m s (a + n + 1) (i + n) := by
  constructor
  · rintro ⟨j, h1, h2, h3⟩
    obtain ⟨e1, e2⟩ := seg_take h.1 (fun j hj => (h.2.2 j hj).1) h2 h3
    obtain ⟨j', f1, f2, f3⟩ := (from_star ha hc e1).1 e2
    exact ⟨j', by omega, f2, f3⟩
  · intro h4
    exact ⟨i, Nat.le_refl _, by have := h.2.1; omega, by rw [seg_from h]; exact (from_star ha hc h.2.1).2 h4⟩
theorem seg_miss {m s : List UInt8} {a i n : Nat} (h : seg m s a i n) (hm : from' m s (a + n) (i + n) = false) : some' m s a i ↔ some' m s a (i + 1) := by
  constructor
  · rintro ⟨j, h1, h2, h3⟩
    by_cases hji : j = i
    · subst hji
      rw [seg_from h, hm] at h3; cases h3
    · exact ⟨j, by omega, h2, h3⟩
  · rintro ⟨j, h1, h2, h3⟩
    exact ⟨j, by omega, h2, h3⟩
theorem seg_end {m s : List UInt8} {a i n : Nat} (h : seg m s a i n) (he : i + n = s.length) : some' m s a i ↔ stars (m.drop (a + n)) = true := by
  rw [← from_end (s := s), ← he]
  constructor
  · rintro ⟨j, h1, h2, h3⟩
    obtain ⟨e1, e2⟩ := seg_take h.1 (fun j hj => (h.2.2 j hj).1) h2 h3
    have : j = i := by omega
    subst this; exact e2
  · intro h4
    exact ⟨i, Nat.le_refl _, by omega, by rw [seg_from h]; exact h4⟩
end Go.Proofs.YtmoioihclnpcbaaDoor
