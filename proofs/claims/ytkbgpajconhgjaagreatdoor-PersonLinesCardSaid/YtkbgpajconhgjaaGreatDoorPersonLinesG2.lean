/- Texts of this proof, one behind the other. -/
import Derived.Test.YtkbgpajconhgjaaGreatDoorPersonLinesG1
import Derived.Shelf.RegionOpenPlain
import Derived.WalkMore
import Derived.Scope
import Derived.Lib.IndexAny
import Derived.Laws.Runes
import Derived.Laws.RangeAny
import Derived.Laws.Strings3
import Derived.Deep.LoopGhost
import Derived.IntWalk
import Derived.Lib.IndexBytes
import Derived.Lib.OthersKept
import Derived.Ground.NamesProg
import Derived.Ground.Names8Prog
import Derived.Shelf.Strings.IndexAny
import Derived.Shelf.Strings.AsciiSet
import Derived.Shelf.Strings.IndexAnyAll
import Derived.Shelf.Strings.OnBuilder
import Derived.Shelf.Strconv.Itoa3
import Derived.Shelf.Strings.Search3
import Derived.Shelf.Strings.Replace
import Derived.Shelf.Strings.Builder1
import Derived.Shelf.Spec.SlicesGrow
import Derived.Test.YtkbgpajconhgjaaGreatDoorProg
set_option linter.unusedVariables false
set_option linter.unusedSimpArgs false
section
/- Masks, as mathematics: what a mask means; that row by row, and by going back to the last star alone, the same is found. -/
namespace Go.Proofs.YtkbgpajconhgjaaGreatDoor

/-- does a mask's byte that is no star mean a byte? -/
def mb (c b : UInt8) : Bool := c == 63 || foldB c == foldB b
/-- the ends of a text -/
def ends : List UInt8 → List (List UInt8)
  | [] => [[]]
  | b :: s => (b :: s) :: ends s
/-- does a mask mean a text? -/
def mm : List UInt8 → List UInt8 → Bool
  | [], s => s.isEmpty
  | c :: m, s => if c = 42 then (ends s).any (mm m) else match s with
    | [] => false
    | b :: t => mb c b && mm m t

theorem ends_any (p : List UInt8 → Bool) : ∀ s, (ends s).any p = true ↔ ∃ k, k ≤ s.length ∧ p (s.drop k) = true
  | [] => by simp [ends]
  | b :: s => by
    simp only [ends, List.any_cons, Bool.or_eq_true, ends_any p s, List.length_cons]
    constructor
    · rintro (h | ⟨k, hk, h⟩)
      · exact ⟨0, by omega, h⟩
      · exact ⟨k + 1, by omega, h⟩
    · rintro ⟨k, hk, h⟩
      cases k with
      | zero => exact .inl h
      | succ k => exact .inr ⟨k, by omega, h⟩
theorem mm_star (m s : List UInt8) : mm (42 :: m) s = true ↔ ∃ k, k ≤ s.length ∧ mm m (s.drop k) = true := by
  simp only [mm, if_true]; exact ends_any _ _
theorem mm_other {c : UInt8} (hc : c ≠ 42) (m s : List UInt8) : mm (c :: m) s = true ↔ ∃ b t, s = b :: t ∧ mb c b = true ∧ mm m t = true := by
  simp only [mm, if_neg hc]
  cases s with
  | nil => simp
  | cons b t =>
    simp only [Bool.and_eq_true, List.cons.injEq]
    constructor
    · intro h; exact ⟨b, t, ⟨rfl, rfl⟩, h⟩
    · rintro ⟨x, u, ⟨rfl, rfl⟩, h⟩; exact h

theorem mm_snoc_star : ∀ (m s : List UInt8), mm (m ++ [42]) s = true ↔ ∃ i, i ≤ s.length ∧ mm m (s.take i) = true
  | [], s => by
    rw [List.nil_append, mm_star]
    constructor
    · intro _; exact ⟨0, by omega, by simp [mm]⟩
    · intro _; exact ⟨s.length, by omega, by simp [mm]⟩
  | c :: m, s => by
    rw [List.cons_append]
    by_cases hc : c = 42
    · subst hc
      simp only [mm_star, mm_snoc_star m]
      constructor
      · rintro ⟨k, hk, i, hi, h⟩
        rw [List.length_drop] at hi
        refine ⟨k + i, by omega, k, by rw [List.length_take]; omega, ?_⟩
        rw [List.drop_take, Nat.add_sub_cancel_left]; exact h
      · rintro ⟨j, hj, k, hk, h⟩
        rw [List.length_take] at hk
        rw [List.drop_take] at h
        exact ⟨k, by omega, j - k, by rw [List.length_drop]; omega, h⟩
    · simp only [mm_other hc, mm_snoc_star m]
      constructor
      · rintro ⟨b, t, rfl, hb, i, hi, h⟩
        exact ⟨i + 1, by simp; omega, b, t.take i, by simp, hb, h⟩
      · rintro ⟨i, hi, b, t, e, hb, h⟩
        cases s with
        | nil => simp at e
        | cons x s =>
          cases i with
          | zero => simp at e
          | succ i =>
            simp only [List.take_succ_cons, List.cons.injEq] at e
            obtain ⟨rfl, rfl⟩ := e
            exact ⟨x, s, rfl, hb, i, by simp at hi; exact hi, h⟩

theorem mm_snoc_other {c : UInt8} (hc : c ≠ 42) : ∀ (m s : List UInt8), mm (m ++ [c]) s = true ↔ ∃ t b, s = t ++ [b] ∧ mm m t = true ∧ mb c b = true
  | [], s => by
    rw [List.nil_append, mm_other hc]
    constructor
    · rintro ⟨b, t, rfl, hb, h⟩
      have : t = [] := by simpa [mm] using h
      subst this
      exact ⟨[], b, rfl, by simp [mm], hb⟩
    · rintro ⟨t, b, rfl, h, hb⟩
      have : t = [] := by simpa [mm] using h
      subst this
      exact ⟨b, [], rfl, hb, by simp [mm]⟩
  | d :: m, s => by
    rw [List.cons_append]
    by_cases hd : d = 42
    · subst hd
      simp only [mm_star, mm_snoc_other hc m]
      constructor
      · rintro ⟨k, hk, t, b, e, h, hb⟩
        refine ⟨s.take k ++ t, b, ?_, ⟨k, ?_, ?_⟩, hb⟩
        · rw [List.append_assoc, ← e, List.take_append_drop]
        · simp; omega
        · rw [List.drop_append_of_le_length (by simp; omega)]
          rw [List.drop_of_length_le (by rw [List.length_take]; omega), List.nil_append]; exact h
      · rintro ⟨t, b, rfl, ⟨k, hk, h⟩, hb⟩
        exact ⟨k, by simp; omega, t.drop k, b, by rw [List.drop_append_of_le_length hk], h, hb⟩
    · simp only [mm_other hd, mm_snoc_other hc m]
      constructor
      · rintro ⟨x, u, rfl, hx, t, b, rfl, h, hb⟩
        exact ⟨x :: t, b, rfl, ⟨x, t, rfl, hx, h⟩, hb⟩
      · rintro ⟨t, b, rfl, ⟨x, u, rfl, hx, h⟩, hb⟩
        exact ⟨x, u ++ [b], rfl, hx, u, b, rfl, h, hb⟩

/-- row by row: which beginnings of the text do so many bytes of the mask mean? -/
def row (m s : List UInt8) (k i : Nat) : Bool := mm (m.take k) (s.take i)
theorem row_zero (m s : List UInt8) {i : Nat} (hi : i ≤ s.length) : row m s 0 i = (i == 0) := by
  unfold row
  rw [List.take_zero]
  simp only [mm]
  cases i with
  | zero => simp
  | succ i =>
    have : (s.take (i + 1)).length = i + 1 := by rw [List.length_take]; omega
    cases h : s.take (i + 1) with
    | nil => rw [h] at this; simp at this
    | cons a b => rfl
theorem row_star (m s : List UInt8) {k i : Nat} (hk : k < m.length) (hi : i ≤ s.length) (hc : m[k] = 42) : row m s (k + 1) i = (row m s k i || (decide (0 < i) && row m s (k + 1) (i - 1))) := by
  have e : m.take (k + 1) = m.take k ++ [42] := by rw [List.take_succ_eq_append_getElem hk, hc]
  rw [Bool.eq_iff_iff]
  simp only [row, e, Bool.or_eq_true, Bool.and_eq_true, decide_eq_true_eq, mm_snoc_star]
  constructor
  · rintro ⟨j, hj, h⟩
    rw [List.length_take] at hj
    rw [List.take_take, Nat.min_eq_left (by omega)] at h
    by_cases hji : j = i
    · subst hji; exact .inl h
    · exact .inr ⟨by omega, j, by rw [List.length_take]; omega, by rw [List.take_take, Nat.min_eq_left (by omega)]; exact h⟩
  · rintro (h | ⟨h0, j, hj, h⟩)
    · exact ⟨i, by rw [List.length_take]; omega, by rw [List.take_take, Nat.min_self]; exact h⟩
    · rw [List.length_take] at hj
      rw [List.take_take, Nat.min_eq_left (by omega)] at h
      exact ⟨j, by rw [List.length_take]; omega, by rw [List.take_take, Nat.min_eq_left (by omega)]; exact h⟩
theorem row_other (m s : List UInt8) {k i : Nat} (hk : k < m.length) (hi : i < s.length) (hc : m[k] ≠ 42) : row m s (k + 1) (i + 1) = (row m s k i && mb m[k] s[i]) := by
  have e : m.take (k + 1) = m.take k ++ [m[k]] := List.take_succ_eq_append_getElem hk
  have e2 : s.take (i + 1) = s.take i ++ [s[i]] := List.take_succ_eq_append_getElem hi
  rw [Bool.eq_iff_iff]
  simp only [row, e, e2, Bool.and_eq_true, mm_snoc_other hc]
  constructor
  · rintro ⟨t, b, h1, h2, h3⟩
    obtain ⟨rfl, h4⟩ := List.append_inj' h1 rfl
    simp at h4; subst h4
    exact ⟨h2, h3⟩
  · rintro ⟨h2, h3⟩
    exact ⟨_, _, rfl, h2, h3⟩
theorem row_other0 (m s : List UInt8) {k : Nat} (hk : k < m.length) (hc : m[k] ≠ 42) : row m s (k + 1) 0 = false := by
  have e : m.take (k + 1) = m.take k ++ [m[k]] := List.take_succ_eq_append_getElem hk
  rw [Bool.eq_false_iff]
  intro h
  simp only [row, e, mm_snoc_other hc] at h
  obtain ⟨t, b, h1, _⟩ := h
  simp at h1
theorem row_all (m s : List UInt8) : row m s m.length s.length = mm m s := by simp [row]

/-! going back to the last star alone -/
/-- from places on -/
def from' (m s : List UInt8) (a i : Nat) : Bool := mm (m.drop a) (s.drop i)
/-- somewhere from a place on -/
def some' (m s : List UInt8) (a i : Nat) : Prop := ∃ j, i ≤ j ∧ j ≤ s.length ∧ from' m s a j = true
theorem from_star {m s : List UInt8} {a i : Nat} (ha : a < m.length) (hc : m[a] = 42) (hi : i ≤ s.length) : from' m s a i = true ↔ some' m s (a + 1) i := by
  unfold from' some' from'
  rw [List.drop_eq_getElem_cons ha, hc, mm_star]
  constructor
  · rintro ⟨k, hk, h⟩
    rw [List.length_drop] at hk
    rw [List.drop_drop] at h
    exact ⟨i + k, by omega, by omega, h⟩
  · rintro ⟨j, h1, h2, h⟩
    refine ⟨j - i, by rw [List.length_drop]; omega, ?_⟩
    rw [List.drop_drop, show i + (j - i) = j by omega]; exact h
theorem from_step {m s : List UInt8} {a i : Nat} (ha : a < m.length) (hi : i < s.length) (hc : m[a] ≠ 42) : from' m s a i = (mb m[a] s[i] && from' m s (a + 1) (i + 1)) := by
  unfold from'
  rw [List.drop_eq_getElem_cons ha, List.drop_eq_getElem_cons hi, Bool.eq_iff_iff, mm_other hc, Bool.and_eq_true]
  constructor
  · rintro ⟨b, t, e, h1, h2⟩
    simp only [List.cons.injEq] at e
    obtain ⟨rfl, rfl⟩ := e
    exact ⟨h1, h2⟩
  · rintro ⟨h1, h2⟩
    exact ⟨_, _, rfl, h1, h2⟩
theorem from_out {m s : List UInt8} {a i : Nat} (ha : a = m.length) (hi : i < s.length) : from' m s a i = false := by
  unfold from'
  rw [List.drop_of_length_le (by omega), List.drop_eq_getElem_cons hi]
  rfl
/-- are all bytes stars? -/
def stars (l : List UInt8) : Bool := l.all fun c => c == 42
theorem from_end {m s : List UInt8} {a : Nat} : from' m s a s.length = stars (m.drop a) := by
  unfold from'
  rw [List.drop_of_length_le (Nat.le_refl _)]
  generalize m.drop a = l
  induction l with
  | nil => rfl
  | cons c l ih =>
    by_cases hc : c = 42
    · subst hc
      simp only [stars, List.all_cons] at *
      rw [← ih]
      simp [mm, ends]
    · simp [mm, hc, stars]

/-- a row of bytes that are no stars, each meaning one of the text's -/
def seg (m s : List UInt8) (a i n : Nat) : Prop := a + n ≤ m.length ∧ i + n ≤ s.length ∧ ∀ j, j < n → m.getD (a + j) 42 ≠ 42 ∧ mb (m.getD (a + j) 42) (s.getD (i + j) 0) = true
theorem seg_zero {m s : List UInt8} {a i : Nat} (ha : a ≤ m.length) (hi : i ≤ s.length) : seg m s a i 0 := ⟨ha, hi, fun j h => absurd h (Nat.not_lt_zero j)⟩
theorem getD_at (l : List UInt8) (k : Nat) (d : UInt8) (h : k < l.length) : l.getD k d = l[k] := by simp [h]
theorem seg_snoc {m s : List UInt8} {a i n : Nat} (h : seg m s a i n) (ha : a + n < m.length) (hi : i + n < s.length) (hc : m[a + n] ≠ 42) (hb : mb m[a + n] s[i + n] = true) : seg m s a i (n + 1) := by
  refine ⟨by omega, by omega, fun j hj => ?_⟩
  by_cases hjn : j = n
  · subst hjn
    rw [getD_at _ _ _ ha, getD_at _ _ _ hi]; exact ⟨hc, hb⟩
  · exact h.2.2 j (by omega)
theorem seg_from {m s : List UInt8} {a i : Nat} : ∀ {n : Nat}, seg m s a i n → from' m s a i = from' m s (a + n) (i + n)
  | 0, _ => rfl
  | n + 1, h => by
    obtain ⟨h1, h2, h3⟩ := h
    rw [seg_from (n := n) ⟨by omega, by omega, fun j hj => h3 j (by omega)⟩]
    obtain ⟨hc, hb⟩ := h3 n (by omega)
    rw [getD_at _ _ _ (by omega)] at hc hb
    rw [getD_at s _ _ (by omega)] at hb
    rw [from_step (by omega) (by omega) hc, hb]; rfl
/-- what begins with bytes that are no stars takes as many of the text -/
theorem seg_take {m s : List UInt8} {a i : Nat} : ∀ {n : Nat}, (a + n ≤ m.length) → (∀ j, j < n → m.getD (a + j) 42 ≠ 42) → i ≤ s.length → from' m s a i = true → i + n ≤ s.length ∧ from' m s (a + n) (i + n) = true
  | 0, _, _, hi, h => ⟨hi, h⟩
  | n + 1, h1, h3, hi, h => by
    obtain ⟨e1, e2⟩ := seg_take (n := n) (by omega) (fun j hj => h3 j (by omega)) hi h
    have hc := h3 n (by omega)
    rw [getD_at _ _ _ (by omega)] at hc
    by_cases hlt : i + n < s.length
    · rw [from_step (by omega) hlt hc, Bool.and_eq_true] at e2
      exact ⟨by omega, e2.2⟩
    · exfalso
      unfold from' at e2
      have f1 : s.drop (i + n) = [] := List.drop_of_length_le (by omega)
      have f2 : a + n < m.length := by omega
      rw [List.drop_eq_getElem_cons f2, f1, mm_other hc] at e2
      obtain ⟨_, _, e, _⟩ := e2
      cases e
theorem seg_star {m s : List UInt8} {a i n : Nat} (h : seg m s a i n) (ha : a + n < m.length) (hc : m[a + n] = 42) : some' m s a i ↔ some' m s (a + n + 1) (i + n) := by
  constructor
  · rintro ⟨j, h1, h2, h3⟩
    obtain ⟨e1, e2⟩ := seg_take h.1 (fun j hj => (h.2.2 j hj).1) h2 h3
    obtain ⟨j', f1, f2, f3⟩ := (from_star ha hc e1).1 e2
    exact ⟨j', by omega, f2, f3⟩
  · intro h4
    exact ⟨i, Nat.le_refl _, by have := h.2.1; omega, by rw [seg_from h]; exact (from_star ha hc h.2.1).2 h4⟩
theorem seg_miss {m s : List UInt8} {a i n : Nat} (h : seg m s a i n) (hm : from' m s (a + n) (i + n) = false) : some' m s a i ↔ some' m s a (i + 1) := by
  constructor
  · rintro ⟨j, h1, h2, h3⟩
    by_cases hji : j = i
    · subst hji
      rw [seg_from h, hm] at h3; cases h3
    · exact ⟨j, by omega, h2, h3⟩
  · rintro ⟨j, h1, h2, h3⟩
    exact ⟨j, by omega, h2, h3⟩
theorem seg_end {m s : List UInt8} {a i n : Nat} (h : seg m s a i n) (he : i + n = s.length) : some' m s a i ↔ stars (m.drop (a + n)) = true := by
  rw [← from_end (s := s), ← he]
  constructor
  · rintro ⟨j, h1, h2, h3⟩
    obtain ⟨e1, e2⟩ := seg_take h.1 (fun j hj => (h.2.2 j hj).1) h2 h3
    have : j = i := by omega
    subst this; exact e2
  · intro h4
    exact ⟨i, Nat.le_refl _, by omega, by rw [seg_from h]; exact h4⟩
end Go.Proofs.YtkbgpajconhgjaaGreatDoor
end
section
/- glob.meansByte; strings.Trim with one byte. -/
namespace Go.Proofs.YtkbgpajconhgjaaGreatDoor
open Go.RowKit

theorem u8_beq (a b : UInt8) : ((a.toNat : Int) == (b.toNat : Int)) = (a == b) := by
  rw [Bool.eq_iff_iff, beq_iff_eq, beq_iff_eq]
  constructor
  · intro h; exact UInt8.toNat_inj.mp (by omega)
  · intro h; rw [h]


/-- what a text is behind the bytes at its end that are one -/
def dropEnd (c : UInt8) (l : List UInt8) : List UInt8 := (l.reverse.dropWhile (· == c)).reverse
/-- are all bytes so? -/
def allC (c : UInt8) (l : List UInt8) : Bool := l.all (· == c)

def strSize : Value → Nat
  | .string s => s.size
  | _ => 0
theorem allC_at {c : UInt8} {s : ByteArray} (h : allC c s.data.toList = true) (k : Nat) (hk : k < s.size) : s[k] = c := by
  have := List.all_eq_true.1 h s[k] (by
    have e : s[k] = s.data.toList[k]'(by simpa using hk) := rfl
    rw [e]; exact List.getElem_mem _)
  simpa using this
theorem allC_head {c : UInt8} {s : ByteArray} (hk : 0 < s.size) (h : s[0] = c) : allC c (s.extract 1 s.size).data.toList = allC c s.data.toList := by
  rw [ba_extract_to]
  have e := List.drop_eq_getElem_cons (l := s.data.toList) (i := 0) (by simpa using hk)
  rw [List.drop_zero] at e
  have e0 : s.data.toList[0]'(by simpa using hk) = c := h
  rw [e0] at e
  unfold allC
  conv => rhs; rw [e]
  simp
theorem allC_last {c : UInt8} {s : ByteArray} {n : Nat} (hk : s.size = n + 1) (h : s[n]'(by omega) = c) : allC c (s.extract 0 n).data.toList = allC c s.data.toList := by
  rw [Lib.extract_data]
  have hl : s.data.toList.length = n + 1 := by simpa using hk
  have e : s.data.toList = s.data.toList.take n ++ [c] := by
    have := List.take_succ_eq_append_getElem (l := s.data.toList) (i := n) (by omega)
    rw [List.take_of_length_le (by omega)] at this
    rw [this]
    congr 2
  unfold allC
  conv => rhs; rw [e]
  simp




theorem empty_stars {r : ByteArray} (h : stars r.data.toList = true → r.size = 0) : r.toList.isEmpty = stars r.data.toList := by
  cases e : stars r.data.toList with
  | true => exact str_em (h e)
  | false =>
    refine str_ne ?_
    rcases Nat.eq_zero_or_pos r.size with h0 | h0
    · rw [str_nil h0] at e; cases e
    · exact h0

end Go.Proofs.YtkbgpajconhgjaaGreatDoor
end
section
/- glob.Match: what it tells is what the mask means. -/
namespace Go.Proofs.YtkbgpajconhgjaaGreatDoor
open Go.RowKit

def meas (M S a f i : Nat) : Nat := ((M - a) * (S + 1) + (S - f)) * (S + 1) + (S - i)
theorem lex2 {S x x' y y' : Nat} (h : x' < x) (hy : y' ≤ S) : x' * (S + 1) + y' < x * (S + 1) + y := by
  have := Nat.mul_le_mul_right (S + 1) (show x' + 1 ≤ x from h)
  rw [Nat.add_mul, Nat.one_mul] at this
  omega
theorem meas_a {M S a a' f f' i i' : Nat} (h : a < a') (hM : a' ≤ M) : meas M S a' f' i' < meas M S a f i :=
  lex2 (lex2 (by omega) (by omega)) (by omega)
theorem meas_f {M S a f f' i i' : Nat} (h : f < f') (hS : f' ≤ S) : meas M S a f' i' < meas M S a f i :=
  lex2 (by omega) (by omega)
theorem meas_i {M S a f i i' : Nat} (h : i < i') (hS : i' ≤ S) : meas M S a f i' < meas M S a f i := by
  unfold meas; omega

/-- where the greedy search stands: no star yet, or behind one -/
def At (m s : ByteArray) (a i st f : Int) : Prop := ∃ k j : Nat, a = k ∧ i = j ∧ k ≤ m.size ∧ j ≤ s.size ∧
  ((st = -1 ∧ f = 0 ∧ j = k ∧ seg m.data.toList s.data.toList 0 0 k) ∨
   (∃ b g n : Nat, st = b ∧ f = g ∧ k = b + n ∧ j = g + n ∧ seg m.data.toList s.data.toList b g n ∧ (mm m.data.toList s.data.toList = true ↔ some' m.data.toList s.data.toList b g)))
def meas' (m s : ByteArray) (st f i : Value) : Nat := meas m.size s.size (Go.RowKit.intOf st).toNat (Go.RowKit.intOf f).toNat (Go.RowKit.intOf i).toNat
theorem len_ba (s : ByteArray) : s.data.toList.length = s.size := by simp
theorem get_ba (s : ByteArray) (k : Nat) (h : k < s.size) : s.data.toList[k]'(by simpa using h) = s[k] := rfl
theorem mm_from (m s : List UInt8) : mm m s = from' m s 0 0 := by simp [from']

theorem at_star {m s : ByteArray} {k j : Nat} {st f : Int} (h : At m s k j st f) (hk : k < m.size) (hj : j < s.size) (hc : m[k] = 42) :
    At m s (k + 1) j (k + 1) j ∧ meas' m s (.int .i64 (k + 1)) (.int .i64 j) (.int .i64 j) < meas' m s (.int .i64 st) (.int .i64 f) (.int .i64 j) := by
  obtain ⟨k', j', e1, e2, h1, h2, h3⟩ := h
  obtain rfl : k = k' := by omega
  obtain rfl : j = j' := by omega
  have hl := len_ba m; have hl2 := len_ba s
  constructor
  · refine ⟨k + 1, j, by push_cast; rfl, rfl, by omega, h2, .inr ⟨k + 1, j, 0, by push_cast; rfl, rfl, rfl, rfl, seg_zero (by omega) (by omega), ?_⟩⟩
    rcases h3 with ⟨_, _, rfl, hs⟩ | ⟨b, g, n, rfl, rfl, rfl, rfl, hs, hq⟩
    · rw [mm_from, seg_from hs]
      simp only [Nat.zero_add]
      exact from_star (by omega) (by rw [get_ba m j hk]; exact hc) (by omega)
    · rw [hq]
      exact seg_star hs (by omega) (by rw [get_ba m (b + n) hk]; exact hc)
  · unfold meas'
    simp only [Go.RowKit.intOf]
    refine meas_a ?_ (by omega)
    rcases h3 with ⟨rfl, _⟩ | ⟨b, g, n, rfl, rfl, rfl, rfl, _⟩ <;> omega
theorem at_step {m s : ByteArray} {k j : Nat} {st f : Int} (h : At m s k j st f) (hk : k < m.size) (hj : j < s.size) (hc : m[k] ≠ 42) (hb : mb m[k] s[j] = true) :
    At m s (k + 1) (j + 1) st f ∧ meas' m s (.int .i64 st) (.int .i64 f) (.int .i64 (j + 1)) < meas' m s (.int .i64 st) (.int .i64 f) (.int .i64 j) := by
  obtain ⟨k', j', e1, e2, h1, h2, h3⟩ := h
  obtain rfl : k = k' := by omega
  obtain rfl : j = j' := by omega
  have hl := len_ba m; have hl2 := len_ba s
  constructor
  · refine ⟨k + 1, j + 1, by push_cast; rfl, by push_cast; rfl, by omega, by omega, ?_⟩
    rcases h3 with ⟨e3, e4, rfl, hs⟩ | ⟨b, g, n, rfl, rfl, rfl, rfl, hs, hq⟩
    · refine .inl ⟨e3, e4, rfl, ?_⟩
      have := seg_snoc (m := m.data.toList) (s := s.data.toList) (n := j) hs (by omega) (by omega) (by simp only [Nat.zero_add]; rw [get_ba m j hk]; exact hc) (by simp only [Nat.zero_add]; rw [get_ba m j hk, get_ba s j hj]; exact hb)
      exact this
    · exact .inr ⟨b, g, n + 1, rfl, rfl, by omega, by omega, seg_snoc hs (by omega) (by omega) (by rw [get_ba m _ hk]; exact hc) (by rw [get_ba m _ hk, get_ba s _ hj]; exact hb), hq⟩
  · unfold meas'
    simp only [Go.RowKit.intOf]
    exact meas_i (by omega) (by omega)
/-- the byte of the mask means none of the text's here -/
def misses (m s : ByteArray) (k j : Nat) : Prop := (m.size ≤ k) ∨ ∃ (h1 : k < m.size) (h2 : j < s.size), m[k] ≠ 42 ∧ mb m[k] s[j] = false
theorem miss_from {m s : ByteArray} {k j : Nat} (h : misses m s k j) (hk : k ≤ m.size) (hj : j < s.size) : from' m.data.toList s.data.toList k j = false := by
  have hl := len_ba m; have hl2 := len_ba s
  rcases h with h | ⟨h1, h2, hc, hb⟩
  · exact from_out (by omega) (by omega)
  · rw [from_step (by omega) (by omega) (by rw [get_ba m k h1]; exact hc), get_ba m k h1, get_ba s j h2, hb, Bool.false_and]
theorem at_out {m s : ByteArray} {k j : Nat} {f : Int} (h : At m s k j (-1) f) (hj : j < s.size) (hm : misses m s k j) : false = mm m.data.toList s.data.toList := by
  obtain ⟨k', j', e1, e2, h1, h2, h3⟩ := h
  obtain rfl : k = k' := by omega
  obtain rfl : j = j' := by omega
  rcases h3 with ⟨e3, e4, rfl, hs⟩ | ⟨b, g, n, e, _⟩
  · rw [mm_from, seg_from hs]
    simp only [Nat.zero_add]
    exact (miss_from hm h1 hj).symm
  · omega
theorem at_miss {m s : ByteArray} {k j b : Nat} {f : Int} (h : At m s k j b f) (hj : j < s.size) (hm : misses m s k j) :
    At m s b (f + 1) b (f + 1) ∧ meas' m s (.int .i64 b) (.int .i64 (f + 1)) (.int .i64 (f + 1)) < meas' m s (.int .i64 b) (.int .i64 f) (.int .i64 j) := by
  obtain ⟨k', j', e1, e2, h1, h2, h3⟩ := h
  obtain rfl : k = k' := by omega
  obtain rfl : j = j' := by omega
  have hl := len_ba m; have hl2 := len_ba s
  rcases h3 with ⟨e3, _⟩ | ⟨b', g, n, e, rfl, rfl, rfl, hs, hq⟩
  · omega
  · obtain rfl : b = b' := by omega
    constructor
    · refine ⟨b, g + 1, rfl, by push_cast; rfl, by omega, by omega, .inr ⟨b, g + 1, 0, rfl, by push_cast; rfl, rfl, rfl, seg_zero (by omega) (by omega), ?_⟩⟩
      rw [hq]
      exact seg_miss hs (miss_from hm h1 hj)
    · unfold meas'
      simp only [Go.RowKit.intOf]
      exact meas_f (by omega) (by omega)
theorem at_end {m s : ByteArray} {k j : Nat} {st f : Int} (h : At m s k j st f) (hj : s.size ≤ j) : stars (m.data.toList.drop k) = mm m.data.toList s.data.toList := by
  obtain ⟨k', j', e1, e2, h1, h2, h3⟩ := h
  obtain rfl : k = k' := by omega
  obtain rfl : j = j' := by omega
  have hl := len_ba m; have hl2 := len_ba s
  rcases h3 with ⟨e3, e4, rfl, hs⟩ | ⟨b, g, n, rfl, rfl, rfl, rfl, hs, hq⟩
  · rw [mm_from, seg_from hs]
    simp only [Nat.zero_add]
    have : j = s.data.toList.length := by omega
    rw [show from' m.data.toList s.data.toList j j = from' m.data.toList s.data.toList j s.data.toList.length from by rw [← this], from_end]
  · rw [Bool.eq_iff_iff, hq]
    exact (seg_end hs (by omega)).symm

theorem drew_more {w wr : World} (h : ∃ n, wr = w.drewN n) : ∃ n, wr.drew = w.drewN n := by
  obtain ⟨n, rfl⟩ := h; exact ⟨n + 1, rfl⟩

theorem drewN_more {w wr : World} {q : Nat} (h : ∃ n, wr = w.drewN n) : ∃ n, wr.drewN q = w.drewN n := by
  obtain ⟨n, rfl⟩ := h; exact ⟨n + q, by rw [World.drewN_drewN]⟩

end Go.Proofs.YtkbgpajconhgjaaGreatDoor
end
section
/- strings.Index, Contains, Cut with one byte. -/
namespace Go.Proofs.YtkbgpajconhgjaaGreatDoor
open Go.RowKit

set_option maxRecDepth 1000000 in
set_option maxHeartbeats 2000000 in
theorem index1_lite (s : ByteArray) (c : UInt8) (w : World) (hs : s.size ≤ 1000000) :
    Calls Tryz.prog 100 #[.string s, .string ⟨#[c]⟩] w fun e w' => e = .returned (.int .i64 (Lib.indexByte s.data.toList c)) ∧ w = w' := by
  go_enter Tryz.func100, Tryz.ntmps100
  go_wp2_with (go_at_call 103; refine (idxByte0 _ _ _).mono ?_; rintro e w' ⟨rfl, rfl⟩)
  · go_ret
    rename_i h
    rw [ByteArray.toList_eq, beq_iff_eq] at h
    exact ⟨ret_int (by rw [← h]; simp [Lib.indexByte]), rfl⟩
  · go_ret
    exact ⟨ret_int rfl, rfl⟩
set_option maxRecDepth 1000000 in
theorem index1 (s : ByteArray) (c : UInt8) (w : World) (hs : s.size ≤ 1000000) :
    Calls Tryz.prog 82 #[.string s, .string ⟨#[c]⟩] w fun e w' => e = .returned (.int .i64 (Lib.indexByte s.data.toList c)) ∧ w = w' := by
  go_enter Tryz.func82, Tryz.ntmps82
  go_wp2_with (go_at_call 100; refine (index1_lite _ _ _ hs).mono ?_; rintro e w' ⟨rfl, rfl⟩)
  go_ret
  exact ⟨rfl, rfl⟩
theorem idx_bool (l : List UInt8) (c : UInt8) : decide (Lib.indexByte l c ≥ 0) = l.contains c := by
  have h1 := Lib.contains_iff_indexByte l c
  rw [h1]
set_option maxRecDepth 1000000 in
theorem contains1 (s : ByteArray) (c : UInt8) (w : World) (hs : s.size ≤ 1000000) :
    Calls Tryz.prog 76 #[.string s, .string ⟨#[c]⟩] w fun e w' => e = .returned (.bool (s.data.toList.contains c)) ∧ w = w' := by
  go_enter Tryz.func76, Tryz.ntmps76
  go_wp2_with (go_at_call 82; refine (index1 _ _ _ hs).mono ?_; rintro e w' ⟨rfl, rfl⟩)
  go_ret
  exact ⟨ret_bool (idx_bool _ _), rfl⟩
theorem idx_lt {l : List UInt8} {c : UInt8} {o : Nat} (h : Lib.indexByte l c = o) : o < l.length := by
  have := (Lib.indexByte_some h).1
  exact (List.getElem?_eq_some_iff.1 this).1

end Go.Proofs.YtkbgpajconhgjaaGreatDoor
end
section
/- glob.orStar, Complete, Cut; the answers' index, star. -/
namespace Go.Proofs.YtkbgpajconhgjaaGreatDoor
open Go.RowKit

/-- a part, or a star -/
def starB (s : ByteArray) : ByteArray := if s.size = 0 then ⟨#[42]⟩ else s



/-- where a byte stands first, from a place on -/
def ixFrom (l : List UInt8) (c : UInt8) (k : Nat) : Int := if Lib.indexByte (l.drop k) c = -1 then -1 else Lib.indexByte (l.drop k) c + k
theorem ixFrom_hit {s : ByteArray} {c : UInt8} {k : Nat} (h : k < s.size) (e : s[k] = c) : ixFrom s.data.toList c k = k := by
  unfold ixFrom
  rw [List.drop_eq_getElem_cons (by simpa using h), get_ba s k h]
  simp [Lib.indexByte, e]
theorem ixFrom_next {s : ByteArray} {c : UInt8} {k : Nat} (h : k < s.size) (e : s[k] ≠ c) : ixFrom s.data.toList c k = ixFrom s.data.toList c (k + 1) := by
  unfold ixFrom
  rw [List.drop_eq_getElem_cons (by simpa using h), get_ba s k h]
  have hb : (s[k] == c) = false := by simpa using e
  simp only [Lib.indexByte, hb]
  by_cases h1 : Lib.indexByte (List.drop (k + 1) s.data.toList) c = -1
  · simp [h1]
  · have hge := Lib.indexByte_ge (List.drop (k + 1) s.data.toList) c
    have hb1 : (Lib.indexByte (List.drop (k + 1) s.data.toList) c == -1) = false := by simpa using h1
    simp only [hb1, Bool.false_eq_true, if_false, h1]
    rw [if_neg (by omega)]
    push_cast; omega
theorem ixFrom_end {s : ByteArray} {c : UInt8} {k : Nat} (h : s.size ≤ k) : ixFrom s.data.toList c k = -1 := by
  unfold ixFrom
  rw [List.drop_eq_nil_of_le (by simpa using h)]
  simp [Lib.indexByte]

end Go.Proofs.YtkbgpajconhgjaaGreatDoor
end
section
/- glob.Complete. -/
namespace Go.Proofs.YtkbgpajconhgjaaGreatDoor
open Go.RowKit

def starL (l : List UInt8) : List UInt8 := if l.length = 0 then [42] else l
theorem starB_data (s : ByteArray) : (starB s).data.toList = starL s.data.toList := by
  unfold starB starL
  rw [len_ba]
  by_cases h : s.size = 0
  · rw [if_pos h, if_pos h]
  · rw [if_neg h, if_neg h]
def cutL (l : List UInt8) (c : UInt8) : List UInt8 × List UInt8 := if Lib.indexByte l c = -1 then (l, []) else (l.take (Lib.indexByte l c).toNat, l.drop ((Lib.indexByte l c).toNat + 1))
/-- three parts, as one mask -/
def joinL (n u h : List UInt8) : List UInt8 := starL n ++ [33] ++ starL u ++ [64] ++ starL h


theorem drewN_two {w w1 w2 : World} (h : ∃ n, w1 = w.drewN n) (h2 : ∃ n, w2 = w1.drewN n) : ∃ n, w2 = w.drewN n := by
  obtain ⟨n, rfl⟩ := h; obtain ⟨m, rfl⟩ := h2; exact ⟨n + m, by rw [World.drewN_drewN]⟩
theorem drewN_none (w : World) : ∃ n, w = w.drewN n := ⟨0, rfl⟩
theorem join_data {x y z : ByteArray} {n u h : List UInt8} (hx : x.data.toList = starL n) (hy : y.data.toList = starL u) (hz : z.data.toList = starL h) : (x ++ ⟨#[33]⟩ ++ y ++ ⟨#[64]⟩ ++ z).data.toList = joinL n u h := by
  unfold joinL
  simp [hx, hy, hz]
theorem size_ex {s : ByteArray} (a b : Nat) (hs : s.size ≤ 1000000) : (s.extract a b).size ≤ 1000000 := by simp [ByteArray.size_extract]; omega











end Go.Proofs.YtkbgpajconhgjaaGreatDoor
end
section
/- The document's Complete of layer 4. -/
namespace Go.Proofs.YtkbgpajconhgjaaGreatDoor
open Go.RowKit

















end Go.Proofs.YtkbgpajconhgjaaGreatDoor
end
section
/- Both Completes give one answer. -/
namespace Go.Proofs.YtkbgpajconhgjaaGreatDoor
open Go.RowKit

theorem idx_cases (l : List UInt8) (c : UInt8) : Lib.indexByte l c = -1 ∨ ∃ k : Nat, Lib.indexByte l c = k := by
  have h := Lib.indexByte_ge l c
  by_cases e : Lib.indexByte l c = -1
  · exact .inl e
  · exact .inr ⟨(Lib.indexByte l c).toNat, by omega⟩
theorem idx_of {l : List UInt8} {c : UInt8} {k : Nat} (h : l[k]? = some c) (hn : ∀ j, j < k → l[j]? ≠ some c) : Lib.indexByte l c = k := by
  rcases idx_cases l c with e | ⟨o, e⟩
  · exact absurd h (Lib.indexByte_none e k)
  · have ⟨h1, h2⟩ := Lib.indexByte_some e
    rcases Nat.lt_trichotomy o k with h3 | h3 | h3
    · exact absurd h1 (hn o h3)
    · rw [e, h3]
    · exact absurd h (h2 k h3)
theorem idx_none {l : List UInt8} {c : UInt8} (hn : ∀ j : Nat, l[j]? ≠ some c) : Lib.indexByte l c = -1 := by
  rcases idx_cases l c with e | ⟨o, e⟩
  · exact e
  · exact absurd (Lib.indexByte_some e).1 (hn o)
theorem idx_drop {l : List UInt8} {c : UInt8} {a b : Nat} (h : Lib.indexByte l c = a) (hb : b < a) : Lib.indexByte (l.drop (b + 1)) c = ((a - (b + 1) : Nat) : Int) := by
  have ⟨h1, h2⟩ := Lib.indexByte_some h
  refine idx_of ?_ fun j hj => ?_
  · rw [List.getElem?_drop, show b + 1 + (a - (b + 1)) = a by omega]; exact h1
  · rw [List.getElem?_drop]; exact h2 _ (by omega)
theorem idx_drop_none {l : List UInt8} {c : UInt8} (k : Nat) (h : Lib.indexByte l c = -1) : Lib.indexByte (l.drop k) c = -1 :=
  idx_none fun j => by rw [List.getElem?_drop]; exact Lib.indexByte_none h _
theorem contains_take {l : List UInt8} {c : UInt8} {a b : Nat} (h : Lib.indexByte l c = a) (hb : a < b) : (l.take b).contains c = true := by
  rw [List.contains_iff_mem]
  have ⟨h1, _⟩ := Lib.indexByte_some h
  exact List.mem_of_getElem? (i := a) (by rw [List.getElem?_take_of_lt hb]; exact h1)
theorem contains_take_no {l : List UInt8} {c : UInt8} {b : Nat} (h : ∀ j, j < b → l[j]? ≠ some c) : (l.take b).contains c = false := by
  rw [Bool.eq_false_iff, ne_eq, List.contains_iff_mem]
  intro hm
  obtain ⟨j, hj⟩ := List.mem_iff_getElem?.1 hm
  by_cases e : j < b
  · rw [List.getElem?_take_of_lt e] at hj; exact h j e hj
  · rw [List.getElem?_take_eq_none (by omega)] at hj; cases hj
theorem contains_all {l : List UInt8} {c : UInt8} {a : Nat} (h : Lib.indexByte l c = a) : l.contains c = true := by
  have := contains_take h (b := l.length) (idx_lt h)
  rwa [List.take_length] at this
theorem contains_none {l : List UInt8} {c : UInt8} (h : Lib.indexByte l c = -1) : l.contains c = false := by
  have := contains_take_no (l := l) (c := c) (b := l.length) fun j _ => Lib.indexByte_none h j
  rwa [List.take_length] at this

/-- a mask as a whole one -/
def compS (s : ByteArray) : List UInt8 :=
  let b := Lib.indexByte s.data.toList 33
  let a := Lib.indexByte s.data.toList 64
  if a = -1 then
    if b = -1 then joinL s.data.toList [] [] else joinL (s.extract 0 b.toNat).data.toList (s.extract (b.toNat + 1) s.size).data.toList []
  else if b = -1 ∨ a < b then joinL [] (s.extract 0 a.toNat).data.toList (s.extract (a.toNat + 1) s.size).data.toList
  else joinL (s.extract 0 b.toNat).data.toList (s.extract (b.toNat + 1) a.toNat).data.toList (s.extract (a.toNat + 1) s.size).data.toList


end Go.Proofs.YtkbgpajconhgjaaGreatDoor
end
section
/- strings.IndexAny, ContainsAny of whatever bytes, among some ASCII ones: the short road (rune by rune). -/
namespace Go.Proofs.YtkbgpajconhgjaaGreatDoor
open Go.RowKit

/-- all bytes are ASCII -/
def asciiL (l : List UInt8) : Prop := (l.all fun b => decide (b.toNat < 128)) = true
theorem asciiL.at {l : List UInt8} (h : asciiL l) : ∀ b ∈ l, b.toNat < 128 := fun b hb => by
  have := List.all_eq_true.1 h b hb
  simpa using this
theorem ascii_no {l : List UInt8} (h : asciiL l) {b : UInt8} (hb : 128 ≤ b.toNat) : l.contains b = false := by
  rw [Bool.eq_false_iff, ne_eq, List.contains_iff_mem]
  intro hm
  have := h.at b hm
  omega
theorem getbang (s : ByteArray) (i : Nat) (h : i < s.size) : s.get! i = s[i] := by
  simp [ByteArray.get!, getElem!_pos, h]
  rfl
/-- of what is no ASCII byte as many bytes are taken as are none -/
theorem decode_span (s : ByteArray) (pos : Nat) (h : pos < s.size) (ha : 128 ≤ (s[pos]'h).toNat) : ∀ k, k < (Utf8.decode s pos).2 → ∃ h : pos + k < s.size, 128 ≤ (s[pos + k]'h).toNat := by
  have hc : ∀ k, ((decide (pos + k < s.size) && (s.get! (pos + k)).toNat / 64 == 2) = true) → ∃ h : pos + k < s.size, 128 ≤ (s[pos + k]'h).toNat := by
    intro k hk
    simp only [Bool.and_eq_true, decide_eq_true_eq, beq_iff_eq] at hk
    refine ⟨hk.1, ?_⟩
    have := hk.2
    rw [getbang s _ hk.1] at this
    omega
  have h0 : ∃ h : pos + 0 < s.size, 128 ≤ (s[pos + 0]'h).toNat := ⟨h, ha⟩
  have hn : ¬ (s[pos]'h).toNat < 128 := by omega
  have one : ∀ k, k < 1 → ∃ h : pos + k < s.size, 128 ≤ (s[pos + k]'h).toNat := fun k hk => by
    obtain rfl : k = 0 := by omega
    exact h0
  unfold Utf8.decode
  simp only [get_at s pos h, hn, if_false]
  split
  · rename_i hx
    rw [Bool.and_eq_true] at hx
    have c1 := hc 1 hx.2
    split
    · intro k hk
      rcases (by simp at hk; omega : k = 0 ∨ k = 1) with rfl | rfl
      · exact h0
      · exact c1
    · exact one
  · split
    · rename_i hx
      rw [Bool.and_eq_true, Bool.and_eq_true] at hx
      have c1 := hc 1 hx.1.2
      have c2 := hc 2 hx.2
      split
      · intro k hk
        rcases (by simp at hk; omega : k = 0 ∨ k = 1 ∨ k = 2) with rfl | rfl | rfl
        · exact h0
        · exact c1
        · exact c2
      · exact one
    · split
      · rename_i hx
        rw [Bool.and_eq_true, Bool.and_eq_true, Bool.and_eq_true] at hx
        have c1 := hc 1 hx.1.1.2
        have c2 := hc 2 hx.1.2
        have c3 := hc 3 hx.2
        split
        · intro k hk
          rcases (by simp at hk; omega : k = 0 ∨ k = 1 ∨ k = 2 ∨ k = 3) with rfl | rfl | rfl | rfl
          · exact h0
          · exact c1
          · exact c2
          · exact c3
        · exact one
      · exact one
theorem decode_valid (s : ByteArray) (pos : Nat) (h : pos < s.size) : Utf8.valid ((Utf8.decode s pos).1 : Int) = true := by
  have hb : ∀ k, (s.get! (pos + k)).toNat < 256 := fun k => (s.get! (pos + k)).toNat_lt
  have h0 := hb 0; have h1 := hb 1; have h2 := hb 2; have h3 := hb 3
  have small : ∀ n : Nat, n < 55296 → Utf8.valid (n : Int) = true := fun n hn => by simp [Utf8.valid]; omega
  simp only [Utf8.decode]
  split
  · exact small _ (by omega)
  · split
    · split
      · exact small _ (by omega)
      · rfl
    · split
      · split
        · rename_i hx; rw [Bool.and_eq_true] at hx; exact hx.2
        · rfl
      · split
        · split
          · rename_i hx; rw [Bool.and_eq_true] at hx; exact hx.2
          · rfl
        · rfl

theorem validRune_any (r : Int) (w : World) (h0 : 0 ≤ r) (h1 : r ≤ 1114111) (hv : Utf8.valid r = true) :
    Calls Tryz.prog 117 #[.int .i32 r] w fun e w' => e = .returned (.bool true) ∧ w = w' := by
  have hh : r < 55296 ∨ 57343 < r := by
    rw [validRune_eq, validRune, decide_eq_true_iff] at hv; omega
  clear hv
  rcases hh with h | h
  · go_enter Tryz.func117, Tryz.ntmps117
    go_wp2_with fail
    go_ret
    exact ⟨rfl, rfl⟩
  · have h' : ¬ r < 55296 := by omega
    go_enter Tryz.func117, Tryz.ntmps117
    go_wp2_with fail
    go_ret
    exact ⟨rfl, rfl⟩

theorem should_any (n : Int) (w : World) :
    Calls Tryz.prog 112 #[.int .i64 n] w fun e w' => e = .returned (.bool (decide (8 < n))) ∧ w = w' := by
  go_enter Tryz.func112, Tryz.ntmps112
  go_wp2_with fail
  go_ret
  exact ⟨rfl, rfl⟩
set_option maxRecDepth 1000000 in
set_option maxHeartbeats 2000000 in
theorem idxRune_lo (s : ByteArray) (r : Int) (w : World) (h0 : 0 ≤ r) (h1 : r < 128) :
    Calls Tryz.prog 111 #[.string s, .int .i32 r] w fun e w' => e = .returned (.int .i64 (Lib.indexByte s.data.toList r.toNat.toUInt8)) ∧ w = w' := by
  go_enter Tryz.func111, Tryz.ntmps111
  go_wp2_with (go_at_call 85; refine (idxByte _ _ _).mono ?_; rintro e w' ⟨rfl, rfl⟩)
  go_ret
  exact ⟨rfl, rfl⟩

set_option maxRecDepth 1000000 in
set_option maxHeartbeats 4000000 in
/-- U+FFFD isn't among ASCII bytes -/
theorem idxRune_bad (s : ByteArray) (w : World) (ha : asciiL s.data.toList) (hs : s.size ≤ 1000) :
    Calls Tryz.prog 111 #[.string s, .int .i32 65533] w fun e w' => e = .returned (.int .i64 (-1)) ∧ Below w.heap.size w w' := by
  have HA := Lib.hid ha
  clear ha
  go_enter Tryz.func111, Tryz.ntmps111
  go_wp2_with fail
  go_loopg [5, 6] s.size (fun g _ _ wx => ∃ i : Nat, i + g = s.size ∧ wx = w.iter s i)
  case atStart => exact ⟨0, by omega, rfl⟩
  case round =>
    obtain ⟨i, hig, rfl⟩ := hrel
    cases gk with
    | zero =>
      obtain rfl : i = s.size := by omega
      have hnx := run_next_end (P := Tryz.prog) w s s.size
      go_wp2_with fail
      go_ret
      exact ⟨rfl, (Below.refl _ _).alloc (Nat.le_refl _) _⟩
    | succ g =>
      have hi : i < s.size := by omega
      have hx128 : (s[i]'hi).toNat < 128 := HA.out.at _ (by rw [← get_ba s i hi]; exact List.getElem_mem _)
      have hne : (((s[i]'hi).toNat : Int) == 65533) = false := by rw [beq_eq_false_iff_ne]; omega
      have hnx := fun ty => run_next_ascii (P := Tryz.prog) w s i ty hi hx128
      go_wp2_with fail
      go_roundg g
      case measure => omega
      case rel => exact ⟨i + 1, by omega, rfl⟩

set_option maxRecDepth 1000000 in
set_option maxHeartbeats 4000000 in
/-- a rune that is none of ASCII isn't among ASCII bytes -/
theorem idxRune_hi (s : ByteArray) (r : Int) (w : World) (ha : asciiL s.data.toList) (hs : s.size ≤ 1000) (h0 : 128 ≤ r) (h1 : r ≤ 1114111) (hv : Utf8.valid r = true) (hne : r ≠ 65533) :
    Calls Tryz.prog 111 #[.string s, .int .i32 r] w fun e w' => e = .returned (.int .i64 (-1)) ∧ Below w.heap.size w w' := by
  obtain ⟨f1, f2, f3⟩ := encode_facts r hv h0
  have hb : (r == 65533) = false := by rw [beq_eq_false_iff_ne]; exact hne
  obtain ⟨rs, hrs⟩ : ∃ rs, Utf8.encode r = rs := ⟨_, rfl⟩
  rw [hrs] at f1 f2 f3
  have f4 := f3 (by omega)
  have HV := Lib.hid hv
  have HRS := Lib.hid hrs
  have hno : ∀ k, Lib.indexByte (s.extract k s.size).data.toList rs[rs.size - 1] = -1 := fun k => idx_none fun j hj => by
    have := ha.at _ (by rw [ba_extract_to] at hj; exact List.mem_of_mem_drop (List.mem_of_getElem? hj))
    omega
  have hsz : 1 ≤ rs.size := by omega
  have HNO := Lib.hid hno
  clear hv hrs hne f3 hno
  have hcv : ∀ w, (convert 21 9 (.int .i32 r)).run Tryz.prog w = .ok (.string rs) w := fun w => by
    rw [run_convert_int_string (P := Tryz.prog) w 21 9 .i32 r (by rw [Tryz.underlying21]; rfl) Tryz.underlying9, HRS.out]
  by_cases hl : rs.size - 1 < s.size
  · have hlt := ha.at s[rs.size - 1] (by rw [← get_ba s _ hl]; exact List.getElem_mem _)
    have hq : ((s[rs.size - 1].toNat : Int) != (rs[rs.size - 1].toNat : Int)) = true := by rw [bne_iff_ne]; omega
    have HA := Lib.hid ha
    clear ha
    go_enter Tryz.func111, Tryz.ntmps111
    go_wp2_with (go_at_call 117; refine (validRune_any _ _ (by omega) h1 HV.out).mono ?_; rintro e w' ⟨rfl, rfl⟩)
    go_step3
    go_wp2_with fail
    obtain ⟨n, hn⟩ : ∃ n, n + 1 = rs.size := ⟨rs.size - 1, by omega⟩
    have p1 : (n : Int) < (s.size : Int) := by omega
    have p2 : (n : Int) < (rs.size : Int) := by omega
    have p3 : n < s.size := by omega
    have p4 : n < rs.size := by omega
    have en : rs.size - 1 = n := by omega
    have hq' : ((s[n].toNat : Int) != (rs[n].toNat : Int)) = true := by simpa only [en] using hq
    have hno : ∀ k, Lib.indexByte (s.extract k s.size).data.toList rs[n] = -1 := by simpa only [en] using HNO.out
    have hno2 : ∀ k, Lib.indexByte (s.data.toList.drop k) rs[n] = -1 := fun k => by rw [← ba_extract_to]; exact hno k
    have HN := Lib.hid (And.intro hn en)
    have HO := Lib.hid (And.intro hno hno2)
    clear hq hno hno2 hl hlt hsz en f4
    rw [show ((rs.size : Int) - 1) = (n : Int) from by have := HN.out.1; omega]
    go_loopw [9] (fun i wr => i = .int .i64 n ∧ wr = w) (fun _ _ => 0)
    case atStart => exact ⟨rfl, rfl⟩
    case round =>
      obtain ⟨rfl, rfl⟩ := hrel
      clear hn
      go_wp2_with fail
      go_step3
      go_wp2_with fail
      go_quiet (fail)
      go_wp2_with fail
      generalize hW : wr.drewN nq = W1
      have HW := Lib.hid hW
      clear hW
      have hback : ((rs[n].toNat : Int)).toNat.toUInt8 = rs[n] := by simp
      have s0 : (n : Int) + 1 ≤ (s.size : Int) := by omega
      have s2 : (0 : Int) ≤ (n : Int) + 1 := by omega
      have s3 : ((n : Int) + 1).toNat = n + 1 := by omega
      have s1 : IntKind.i64.wrap ((n : Int) + 1) = (n : Int) + 1 := IntWalk.i64_in _ (by omega)
      go_quiet ((go_at_call 85; refine Calls.quiet_of_same ((idxByte _ _ _).mono fun e w' h => ⟨h.1, h.2.symm⟩)))
      rw [hback, HO.out.1]
      clear s1 s2
      go_wp2_with fail
      rw [Exit.noGoto_ret]
      simp +zetaDelta only [Exit.inBlock, Exit.then, Exit.noGoto_ret]
      go_ret
      exact ⟨rfl, (Below.refl _ _).trans (by rw [← HW.out]; exact ⟨rfl, rfl, rfl, Nat.le_refl _, fun _ _ => rfl⟩)⟩
  · have HA := Lib.hid ha
    clear ha
    go_enter Tryz.func111, Tryz.ntmps111
    go_wp2_with (go_at_call 117; refine (validRune_any _ _ (by omega) h1 HV.out).mono ?_; rintro e w' ⟨rfl, rfl⟩)
    go_step3
    go_wp2_with fail
    go_loopw [9] (fun i wr => i = .int .i64 ((rs.size : Int) - 1) ∧ wr = w) (fun _ _ => 0)
    case atStart => exact ⟨rfl, rfl⟩
    case round =>
      obtain ⟨rfl, rfl⟩ := hrel
      go_wp2_with fail
      rw [Exit.noGoto_ret]
      go_ret
      exact ⟨rfl, Below.refl _ _⟩

set_option maxRecDepth 1000000 in
set_option maxHeartbeats 4000000 in
theorem idxRune_any (s : ByteArray) (r : Nat) (w : World) (ha : asciiL s.data.toList) (hs : s.size ≤ 1000) (h0 : 128 ≤ r) (h1 : r ≤ 1114111) (hv : Utf8.valid (r : Int) = true) :
    Calls Tryz.prog 111 #[.string s, .int .i32 ↑r] w fun e w' => e = .returned (.int .i64 (-1)) ∧ Below w.heap.size w w' := by
  by_cases h : (r : Int) = 65533
  · rw [h]; exact idxRune_bad s w ha hs
  · exact idxRune_hi s r w ha hs (by omega) (by omega) hv h
theorem decode_most (s : ByteArray) (pos : Nat) (h : Utf8.valid ((Utf8.decode s pos).1 : Int) = true) : (Utf8.decode s pos).1 ≤ 1114111 := by
  rw [validRune_eq, validRune, decide_eq_true_iff] at h; omega
theorem NoAny_span {s chars : ByteArray} {i n : Nat} (h : Lib.NoAny s.data.toList chars.data.toList i) (ha : asciiL chars.data.toList) (hn : ∀ k, k < n → ∃ h : i + k < s.size, 128 ≤ (s[i + k]'h).toNat) : Lib.NoAny s.data.toList chars.data.toList (i + n) := by
  intro j b hj hb
  by_cases e : j < i
  · exact h j b e hb
  · obtain ⟨hlt, hge⟩ := hn (j - i) (by omega)
    refine ascii_no ha ?_
    have e2 : i + (j - i) = j := by omega
    have : s.data.toList[j]? = some (s[i + (j - i)]'hlt) := by
      rw [List.getElem?_eq_getElem (by rw [len_ba]; omega)]
      congr 1
      simp only [e2]
      rfl
    rw [this] at hb
    cases hb
    exact hge

set_option maxRecDepth 1000000 in
set_option maxHeartbeats 8000000 in
theorem idxAny_short (s chars : ByteArray) (w : World) (h2 : 2 ≤ chars.size) (hc8 : chars.size ≤ 1000) (h8 : s.size ≤ 8) (ha : asciiL chars.data.toList) :
    Calls Tryz.prog 102 #[.string s, .string chars] w fun e w' => e = .returned (.int .i64 (Lib.indexAny s.data.toList chars.data.toList)) ∧ Below w.heap.size w w' := by
  have HA := Lib.hid ha
  clear ha
  have hemp := str_ne (s := chars) (by omega)
  have hn1 : ((chars.size : Int) == 1) = false := beq_eq_false_iff_ne.2 (by omega)
  have h8z : decide ((8 : Int) < (s.size : Int)) = false := decide_eq_false (by omega)
  go_enter Tryz.func102, Tryz.ntmps102
  go_wp2_with (first | (go_at_call 112; refine (should_any _ _).mono ?_; rintro e w' ⟨rfl, rfl⟩; rw [h8z]))
  go_loopg [9, 10] s.size (fun g _ _ wx => ∃ i : Nat, i + g = s.size ∧ wx.heap[w.heap.size]? = some (.stringIter s i) ∧ Hid (Below w.heap.size w wx ∧ Lib.NoAny s.data.toList chars.data.toList i))
  case atStart => exact ⟨0, by omega, World.iter_heap _ _ _, (Below.refl _ _).alloc (Nat.le_refl _) _, Lib.NoAny.zero _ _⟩
  case round =>
    obtain ⟨i, hig, hk, HX⟩ := hrel
    by_cases hi : i < s.size
    · by_cases ha1 : (s[i]'hi).toNat < 128
      · have hnx := fun ty => Lib.run_next_ascii_at (P := Tryz.prog) wr w.heap.size s i ty hk hi ha1
        have hk2 := Lib.iterAt_heap wr w.heap.size s i (i + 1) hk
        have hb2 := Lib.below_iterAt HX.out.1 (Nat.le_refl _) s (i + 1)
        have hge : (0 : Int) ≤ (s[i].toNat : Int) := by omega
        have hlt : (s[i].toNat : Int) < 128 := by omega
        have hxl : s.data.toList[i]? = some s[i] := by rw [List.getElem?_eq_getElem (by rw [len_ba]; exact hi)]; rfl
        have hcon := Lib.contains_iff_indexByte chars.data.toList s[i]
        have hback : ((s[i].toNat : Int)).toNat.toUInt8 = s[i] := by simp
        have HK := Lib.hid (And.intro hk2 (And.intro hb2 hxl))
        clear hk hk2 hb2 hxl
        cases hin : chars.data.toList.contains s[i]
        · rw [hin] at hcon
          have hneg : Lib.indexByte chars.data.toList s[i] < 0 := by have := of_decide_eq_false hcon.symm; omega
          clear hcon
          have HIN := Lib.hid hin
          clear hin
          go_wp2_with (go_at_call 111; refine (idxRune_lo _ _ _ hge hlt).mono ?_; rintro e w' ⟨rfl, rfl⟩; rw [hback])
          go_roundg (s.size - (i + 1))
          case measure => omega
          case rel => exact ⟨i + 1, by omega, HK.out.1, HK.out.2.1, HX.out.2.succ HK.out.2.2 HIN.out⟩
        · rw [hin] at hcon
          have hneg : 0 ≤ Lib.indexByte chars.data.toList s[i] := of_decide_eq_true hcon.symm
          clear hcon
          have HIN := Lib.hid hin
          clear hin
          go_wp2_with (go_at_call 111; refine (idxRune_lo _ _ _ hge hlt).mono ?_; rintro e w' ⟨rfl, rfl⟩; rw [hback])
          go_ret
          exact ⟨ret_int (by rw [Lib.indexAny_hit HX.out.2 HK.out.2.2 HIN.out]), HK.out.2.1⟩
      · have ha2 : 128 ≤ (s[i]'hi).toNat := by omega
        have hspan := decode_span s i hi ha2
        obtain ⟨d1, d2⟩ := decode_high s i hi ha2
        have dv := decode_valid s i hi
        have dm := decode_most s i dv
        have hnx := fun ty => Lib.run_next_any_at (P := Tryz.prog) wr w.heap.size s i ty hk hi
        obtain ⟨⟨r, n⟩, hd⟩ : ∃ x, Utf8.decode s i = x := ⟨_, rfl⟩
        rw [hd] at hspan d1 d2 dv dm
        simp only [hd] at hnx
        simp only at hspan d1 d2 dv dm
        have hle : i + n ≤ s.size := by obtain ⟨h, _⟩ := hspan (n - 1) (by omega); omega
        have hk2 := Lib.iterAt_heap wr w.heap.size s i (i + n) hk
        have hb2 := Lib.below_iterAt HX.out.1 (Nat.le_refl _) s (i + n)
        have hna := NoAny_span HX.out.2 HA.out hspan
        have HK := Lib.hid (And.intro hk2 (And.intro hb2 hna))
        have DV := Lib.hid dv
        clear hk hk2 hb2 hna hspan dv hd ha1
        go_wp2_with (go_at_call 111; refine (idxRune_any _ _ _ HA.out hc8 d1 dm DV.out).mono ?_; rintro e w2 ⟨rfl, hw2⟩)
        go_roundg (s.size - (i + n))
        case measure => omega
        case rel =>
          refine ⟨i + n, by omega, ?_, ?_, HK.out.2.2⟩
          · rw [hw2.block _ (Array.getElem?_eq_some_iff.1 HK.out.1).1]; exact HK.out.1
          · exact HK.out.2.1.trans (hw2.mono (Nat.le_of_lt (Array.getElem?_eq_some_iff.1 HK.out.1).1))
    · obtain rfl : i = s.size := by omega
      have hnx := Lib.run_next_end_at (P := Tryz.prog) wr w.heap.size s s.size
      have hk3 := fun ty => hnx ty hk (by omega)
      clear hnx
      have HK := Lib.hid hk
      clear hk
      go_wp2_with fail
      go_ret
      exact ⟨ret_int (by rw [Lib.indexAny_none (by rw [len_ba]; exact HX.out.2)]), HX.out.1⟩
end Go.Proofs.YtkbgpajconhgjaaGreatDoor
end
section
/-
  DERIVED: THE SHELF's CONTRACTS AT THIS DUMP, IN PLAIN WORDS (tools/lay-plain.mjs out of 'YtkbgpajconhgjaaGreatDoorShelfL.lean', which tools/lay-shelf.mjs wrote): THE SAME DECLARATIONS UNDER THE SAME NAMES: 'import', 'namespace', 'open', 'def', 'theorem' AND NOTHING ELSE: no command of the shelf's: FOR A HAND-IN. Each laying: the table of numbers ('.._ren') and one theorem, a field a fact of the dump's own or the kernel's comparison; each contract: ONE APPLICATION.
-/
namespace Go.Proofs
open Go.Shelf
def Tryz.lays155_ren : Go.Shelf.Ren := ⟨fun | 155 => 52 | 154 => 65 | 138 => 80 | 165 => 81 | 143 => 82 | 166 => 56 | 197 => 83 | 169 => 59 | 195 => 97 | 218 => 98 | 240 => 72 | 241 => 99 | 219 => 100 | 260 => 101 | 276 => 91 | 277 => 107 | 217 => 103 | 225 => 108 | 224 => 109 | 267 => 110 | 266 => 115 | 314 => 116 | n => n, fun | 9 => 9 | 3 => 3 | 4 => 4 | 72 => 71 | 0 => 0 | 76 => 74 | 105 => 97 | 21 => 21 | 5 => 5 | 70 => 69 | 20 => 20 | 37 => 66 | 75 => 73 | 127 => 92 | 164 => 108 | 46 => 106 | 119 => 119 | 139 => 122 | 138 => 121 | 146 => 130 | 51 => 103 | 80 => 77 | n => n, fun | 1 => 1 | 3 => 2 | 4 => 3 | n => n⟩
theorem Tryz.lays155 : Go.Proofs.Lays.n155 Tryz.prog Tryz.lays155_ren := {
  mixed := by kernel_rfl
  f138 := Tryz.func80.trans (congrArg some (by kernel_rfl))
  f143 := Tryz.func82.trans (congrArg some (by kernel_rfl))
  f154 := Tryz.func65.trans (congrArg some (by kernel_rfl))
  f155 := Tryz.func52.trans (congrArg some (by kernel_rfl))
  f165 := Tryz.func81.trans (congrArg some (by kernel_rfl))
  f166 := Tryz.func56.trans (congrArg some (by kernel_rfl))
  f169 := Tryz.func59.trans (congrArg some (by kernel_rfl))
  f195 := Tryz.func97.trans (congrArg some (by kernel_rfl))
  f197 := Tryz.func83.trans (congrArg some (by kernel_rfl))
  f217 := Tryz.func103.trans (congrArg some (by kernel_rfl))
  f218 := Tryz.func98.trans (congrArg some (by kernel_rfl))
  f219 := Tryz.func100.trans (congrArg some (by kernel_rfl))
  f224 := Tryz.func109.trans (congrArg some (by kernel_rfl))
  f225 := Tryz.func108.trans (congrArg some (by kernel_rfl))
  f240 := Tryz.func72.trans (congrArg some (by kernel_rfl))
  f241 := Tryz.func99.trans (congrArg some (by kernel_rfl))
  f260 := Tryz.func101.trans (congrArg some (by kernel_rfl))
  f266 := Tryz.func115.trans (congrArg some (by kernel_rfl))
  f267 := Tryz.func110.trans (congrArg some (by kernel_rfl))
  f276 := Tryz.func91.trans (congrArg some (by kernel_rfl))
  f277 := Tryz.func107.trans (congrArg some (by kernel_rfl))
  f314 := Tryz.func116.trans (congrArg some (by kernel_rfl))
  t0 := Tryz.underlying0
  a0 := Tryz.isAgg0
  z0 := Tryz.sizeOf0
  v0 := Tryz.zeroValue0
  t3 := Tryz.underlying3
  a3 := Tryz.isAgg3
  z3 := Tryz.sizeOf3
  v3 := Tryz.zeroValue3
  t4 := Tryz.underlying4
  a4 := Tryz.isAgg4
  z4 := Tryz.sizeOf4
  v4 := Tryz.zeroValue4
  t5 := Tryz.underlying5
  a5 := Tryz.isAgg5
  z5 := Tryz.sizeOf5
  v5 := Tryz.zeroValue5
  t9 := Tryz.underlying9
  a9 := Tryz.isAgg9
  z9 := Tryz.sizeOf9
  v9 := Tryz.zeroValue9
  t20 := Tryz.underlying20
  a20 := Tryz.isAgg20
  z20 := Tryz.sizeOf20
  v20 := Tryz.zeroValue20
  t21 := Tryz.underlying21
  a21 := Tryz.isAgg21
  z21 := Tryz.sizeOf21
  v21 := Tryz.zeroValue21
  t37 := Tryz.underlying66
  a37 := Tryz.isAgg66
  z37 := Tryz.sizeOf66
  v37 := Tryz.zeroValue66
  t46 := Tryz.underlying106
  a46 := Tryz.isAgg106
  z46 := Tryz.sizeOf106
  v46 := Tryz.zeroValue106
  t51 := Tryz.underlying103
  a51 := Tryz.isAgg103
  z51 := Tryz.sizeOf103
  v51 := Tryz.zeroValue103
  t70 := Tryz.underlying69
  a70 := Tryz.isAgg69
  z70 := Tryz.sizeOf69
  v70 := Tryz.zeroValue69
  t72 := Tryz.underlying71
  a72 := Tryz.isAgg71
  z72 := Tryz.sizeOf71
  v72 := Tryz.zeroValue71
  t75 := Tryz.underlying73
  a75 := Tryz.isAgg73
  z75 := Tryz.sizeOf73
  v75 := Tryz.zeroValue73
  t76 := Tryz.underlying74
  a76 := Tryz.isAgg74
  z76 := Tryz.sizeOf74
  v76 := Tryz.zeroValue74
  t105 := Tryz.underlying97
  a105 := Tryz.isAgg97
  z105 := Tryz.sizeOf97
  v105 := Tryz.zeroValue97
  t119 := Tryz.underlying119
  a119 := Tryz.isAgg119
  z119 := Tryz.sizeOf119
  t127 := Tryz.underlying92
  a127 := Tryz.isAgg92
  z127 := Tryz.sizeOf92
  v127 := Tryz.zeroValue92
  t138 := Tryz.underlying121
  a138 := Tryz.isAgg121
  z138 := Tryz.sizeOf121
  v138 := Tryz.zeroValue121
  t139 := Tryz.underlying122
  a139 := Tryz.isAgg122
  z139 := Tryz.sizeOf122
  v139 := Tryz.zeroValue122
  t146 := Tryz.underlying130
  a146 := Tryz.isAgg130
  z146 := Tryz.sizeOf130
  v146 := Tryz.zeroValue130
  t164 := Tryz.underlying108
  a164 := Tryz.isAgg108
  z164 := Tryz.sizeOf108
  v164 := Tryz.zeroValue108
  g1 := by kernel_rfl
  g3 := by kernel_rfl
  g4 := by kernel_rfl }
def Tryz.growS_ren : Go.Shelf.Ren := ⟨fun | 4 => 45 | n => n, fun | 22 => 26 | 25 => 9 | 3 => 3 | 4 => 4 | 9 => 9 | 20 => 20 | 0 => 0 | n => n, fun | n => n⟩
theorem Tryz.growS : Go.Proofs.Lays8.n4 Tryz.prog Tryz.growS_ren := {
  mixed := by kernel_rfl
  f4 := ⟨Tryz.f45.name, by decide, Tryz.func45.trans (congrArg some (by kernel_rfl))⟩
  t0 := Tryz.underlying0
  a0 := Tryz.isAgg0
  z0 := Tryz.sizeOf0
  v0 := Tryz.zeroValue0
  t3 := Tryz.underlying3
  a3 := Tryz.isAgg3
  z3 := Tryz.sizeOf3
  v3 := Tryz.zeroValue3
  t4 := Tryz.underlying4
  a4 := Tryz.isAgg4
  z4 := Tryz.sizeOf4
  v4 := Tryz.zeroValue4
  t9 := Tryz.underlying9
  a9 := Tryz.isAgg9
  z9 := Tryz.sizeOf9
  v9 := Tryz.zeroValue9
  t20 := Tryz.underlying20
  a20 := Tryz.isAgg20
  z20 := Tryz.sizeOf20
  v20 := Tryz.zeroValue20
  t22 := Tryz.underlying26
  a22 := Tryz.isAgg26
  z22 := Tryz.sizeOf26
  v22 := Tryz.zeroValue26 }
def Tryz.lays153_ren : Go.Shelf.Ren := ⟨fun | 153 => 102 | 152 => 111 | 226 => 112 | 227 => 113 | 228 => 114 | 137 => 85 | 119 => 117 | 224 => 109 | 225 => 108 | 217 => 103 | 266 => 115 | n => n, fun | 9 => 9 | 3 => 3 | 4 => 4 | 5 => 5 | 21 => 21 | 117 => 126 | 116 => 125 | 0 => 0 | 46 => 106 | 124 => 133 | n => n, fun | n => n⟩
theorem Tryz.lays153 : Go.Proofs.Lays.n153 Tryz.prog Tryz.lays153_ren := {
  mixed := by kernel_rfl
  f119 := Tryz.func117.trans (congrArg some (by kernel_rfl))
  f137 := Tryz.func85.trans (congrArg some (by kernel_rfl))
  f152 := Tryz.func111.trans (congrArg some (by kernel_rfl))
  f153 := Tryz.func102.trans (congrArg some (by kernel_rfl))
  f217 := Tryz.func103.trans (congrArg some (by kernel_rfl))
  f224 := Tryz.func109.trans (congrArg some (by kernel_rfl))
  f225 := Tryz.func108.trans (congrArg some (by kernel_rfl))
  f226 := Tryz.func112.trans (congrArg some (by kernel_rfl))
  f227 := Tryz.func113.trans (congrArg some (by kernel_rfl))
  f228 := Tryz.func114.trans (congrArg some (by kernel_rfl))
  f266 := Tryz.func115.trans (congrArg some (by kernel_rfl))
  t0 := Tryz.underlying0
  a0 := Tryz.isAgg0
  z0 := Tryz.sizeOf0
  v0 := Tryz.zeroValue0
  t3 := Tryz.underlying3
  a3 := Tryz.isAgg3
  z3 := Tryz.sizeOf3
  v3 := Tryz.zeroValue3
  t4 := Tryz.underlying4
  a4 := Tryz.isAgg4
  z4 := Tryz.sizeOf4
  v4 := Tryz.zeroValue4
  t5 := Tryz.underlying5
  a5 := Tryz.isAgg5
  z5 := Tryz.sizeOf5
  v5 := Tryz.zeroValue5
  t9 := Tryz.underlying9
  a9 := Tryz.isAgg9
  z9 := Tryz.sizeOf9
  v9 := Tryz.zeroValue9
  t21 := Tryz.underlying21
  a21 := Tryz.isAgg21
  z21 := Tryz.sizeOf21
  v21 := Tryz.zeroValue21
  t46 := Tryz.underlying106
  a46 := Tryz.isAgg106
  z46 := Tryz.sizeOf106
  v46 := Tryz.zeroValue106
  t116 := Tryz.underlying125
  a116 := Tryz.isAgg125
  z116 := Tryz.sizeOf125
  t117 := Tryz.underlying126
  a117 := Tryz.isAgg126
  z117 := Tryz.sizeOf126
  v117 := Tryz.zeroValue126
  t124 := Tryz.underlying133
  a124 := Tryz.isAgg133
  z124 := Tryz.sizeOf133
  v124 := Tryz.zeroValue133 }
open Go.RowKit Go.Lib in
theorem Tryz.strings_IndexAny_long (hv116 : ∀ w, (zeroValue 125).run Tryz.prog w = .ok (.agg (Array.replicate 256 (.bool false))) w) (s chars : ByteArray) (w : World) (h2 : 2 ≤ chars.size) (h8 : 8 < s.size) (hs : s.size < 4294967281) (hcs : chars.size < 4294967281) (hascii : ∀ (j : Nat) b, chars.data.toList[j]? = some b → b.toNat < 128) :
    Calls Tryz.prog 102 #[.string s, .string chars] w fun e w' => e = .returned (.int .i64 (Lib.indexAny s.data.toList chars.data.toList)) ∧ w' = ((w.alloc (.cells (Lib.setCells chars.data.toList) 125)).alloc (.cells (Lib.setCells chars.data.toList) 125)) := Any.strings_IndexAny_long Tryz.lays153 hv116 (by kernel_rfl) s chars w h2 h8 hs hcs hascii
def Tryz.lays144_ren : Go.Shelf.Ren := ⟨fun | 144 => 76 | 143 => 82 | 219 => 100 | 217 => 103 | 225 => 108 | 224 => 109 | 267 => 110 | 266 => 115 | 314 => 116 | n => n, fun | 9 => 9 | 4 => 4 | 3 => 3 | 5 => 5 | 46 => 106 | 146 => 130 | 51 => 103 | n => n, fun | 1 => 1 | n => n⟩
theorem Tryz.lays144 : Go.Proofs.Lays.n144 Tryz.prog Tryz.lays144_ren := {
  mixed := by kernel_rfl
  f143 := Tryz.func82.trans (congrArg some (by kernel_rfl))
  f144 := Tryz.func76.trans (congrArg some (by kernel_rfl))
  f217 := Tryz.func103.trans (congrArg some (by kernel_rfl))
  f219 := Tryz.func100.trans (congrArg some (by kernel_rfl))
  f224 := Tryz.func109.trans (congrArg some (by kernel_rfl))
  f225 := Tryz.func108.trans (congrArg some (by kernel_rfl))
  f266 := Tryz.func115.trans (congrArg some (by kernel_rfl))
  f267 := Tryz.func110.trans (congrArg some (by kernel_rfl))
  f314 := Tryz.func116.trans (congrArg some (by kernel_rfl))
  t3 := Tryz.underlying3
  a3 := Tryz.isAgg3
  z3 := Tryz.sizeOf3
  v3 := Tryz.zeroValue3
  t4 := Tryz.underlying4
  a4 := Tryz.isAgg4
  z4 := Tryz.sizeOf4
  v4 := Tryz.zeroValue4
  t5 := Tryz.underlying5
  a5 := Tryz.isAgg5
  z5 := Tryz.sizeOf5
  v5 := Tryz.zeroValue5
  t9 := Tryz.underlying9
  a9 := Tryz.isAgg9
  z9 := Tryz.sizeOf9
  v9 := Tryz.zeroValue9
  t46 := Tryz.underlying106
  a46 := Tryz.isAgg106
  z46 := Tryz.sizeOf106
  v46 := Tryz.zeroValue106
  t51 := Tryz.underlying103
  a51 := Tryz.isAgg103
  z51 := Tryz.sizeOf103
  v51 := Tryz.zeroValue103
  t146 := Tryz.underlying130
  a146 := Tryz.isAgg130
  z146 := Tryz.sizeOf130
  v146 := Tryz.zeroValue130
  g1 := by kernel_rfl }
open Go.RowKit Go.Lib in
/-- strings.Contains: "Contains reports whether substr is within s.": AT A substr OF ONE BYTE c: IT RETURNS 'decide (0 ≤ Lib.indexByte s c)'; the world is as it was. (LAID: no walk: one application.) -/
theorem Tryz.strings_Contains_one (s : ByteArray) (c : UInt8) (w : World) :
    Calls Tryz.prog 76 #[.string s, .string ⟨#[c]⟩] w fun e w' => e = .returned (.bool (decide (0 ≤ Lib.indexByte s.data.toList c))) ∧ w' = w := Any.strings_Contains_one Tryz.lays144 s c w
def Tryz.laysM171_ren : Go.Shelf.Ren := ⟨fun | 171 => 44 | 243 => 60 | 246 => 77 | 283 => 68 | 284 => 69 | 285 => 70 | 286 => 71 | 129 => 87 | 317 => 86 | 318 => 88 | 319 => 89 | 320 => 90 | 337 => 104 | 338 => 105 | n => n, fun | 3 => 3 | 9 => 9 | 2 => 2 | 4 => 4 | 171 => 81 | 0 => 0 | 53 => 56 | 37 => 66 | 5 => 5 | 173 => 84 | 212 => 102 | 51 => 103 | 20 => 20 | 213 => 104 | 46 => 106 | 232 => 128 | 233 => 129 | n => n, fun | 17 => 0 | 18 => 4 | 19 => 5 | n => n⟩
theorem Tryz.laysM171 : Go.Proofs.LaysM.n171 Tryz.prog Tryz.laysM171_ren := {
  mixed := by kernel_rfl
  f129 := Tryz.func87.trans (congrArg some (by kernel_rfl))
  f171 := Tryz.func44.trans (congrArg some (by kernel_rfl))
  f243 := Tryz.func60.trans (congrArg some (by kernel_rfl))
  f246 := Tryz.func77.trans (congrArg some (by kernel_rfl))
  f283 := Tryz.func68.trans (congrArg some (by kernel_rfl))
  f284 := Tryz.func69.trans (congrArg some (by kernel_rfl))
  f285 := Tryz.func70.trans (congrArg some (by kernel_rfl))
  f286 := Tryz.func71.trans (congrArg some (by kernel_rfl))
  f317 := Tryz.func86.trans (congrArg some (by kernel_rfl))
  f318 := Tryz.func88.trans (congrArg some (by kernel_rfl))
  f319 := Tryz.func89.trans (congrArg some (by kernel_rfl))
  f320 := Tryz.func90.trans (congrArg some (by kernel_rfl))
  f337 := Tryz.func104.trans (congrArg some (by kernel_rfl))
  f338 := Tryz.func105.trans (congrArg some (by kernel_rfl))
  t0 := Tryz.underlying0
  a0 := Tryz.isAgg0
  z0 := Tryz.sizeOf0
  v0 := Tryz.zeroValue0
  t2 := Tryz.underlying2
  a2 := Tryz.isAgg2
  z2 := Tryz.sizeOf2
  v2 := Tryz.zeroValue2
  t3 := Tryz.underlying3
  a3 := Tryz.isAgg3
  z3 := Tryz.sizeOf3
  v3 := Tryz.zeroValue3
  t4 := Tryz.underlying4
  a4 := Tryz.isAgg4
  z4 := Tryz.sizeOf4
  v4 := Tryz.zeroValue4
  t5 := Tryz.underlying5
  a5 := Tryz.isAgg5
  z5 := Tryz.sizeOf5
  v5 := Tryz.zeroValue5
  t9 := Tryz.underlying9
  a9 := Tryz.isAgg9
  z9 := Tryz.sizeOf9
  v9 := Tryz.zeroValue9
  t20 := Tryz.underlying20
  a20 := Tryz.isAgg20
  z20 := Tryz.sizeOf20
  v20 := Tryz.zeroValue20
  t37 := Tryz.underlying66
  a37 := Tryz.isAgg66
  z37 := Tryz.sizeOf66
  v37 := Tryz.zeroValue66
  t46 := Tryz.underlying106
  a46 := Tryz.isAgg106
  z46 := Tryz.sizeOf106
  v46 := Tryz.zeroValue106
  t51 := Tryz.underlying103
  a51 := Tryz.isAgg103
  z51 := Tryz.sizeOf103
  v51 := Tryz.zeroValue103
  t53 := Tryz.underlying56
  a53 := Tryz.isAgg56
  z53 := Tryz.sizeOf56
  v53 := Tryz.zeroValue56
  t171 := Tryz.underlying81
  a171 := Tryz.isAgg81
  z171 := Tryz.sizeOf81
  v171 := Tryz.zeroValue81
  t173 := Tryz.underlying84
  a173 := Tryz.isAgg84
  z173 := Tryz.sizeOf84
  v173 := Tryz.zeroValue84
  t212 := Tryz.underlying102
  a212 := Tryz.isAgg102
  z212 := Tryz.sizeOf102
  v212 := Tryz.zeroValue102
  t213 := Tryz.underlying104
  a213 := Tryz.isAgg104
  z213 := Tryz.sizeOf104
  t232 := Tryz.underlying128
  a232 := Tryz.isAgg128
  z232 := Tryz.sizeOf128
  v232 := Tryz.zeroValue128
  t233 := Tryz.underlying129
  a233 := Tryz.isAgg129
  z233 := Tryz.sizeOf129
  v233 := Tryz.zeroValue129
  g17 := by kernel_rfl
  g18 := by kernel_rfl
  g19 := by kernel_rfl
  i0 := by kernel_rfl
  i2 := by kernel_rfl
  i3 := by kernel_rfl
  i4 := by kernel_rfl
  i5 := by kernel_rfl
  i9 := by kernel_rfl
  i20 := by kernel_rfl
  i37 := by kernel_rfl
  i46 := by kernel_rfl
  i51 := by kernel_rfl
  i53 := by kernel_rfl
  i171 := by kernel_rfl
  i173 := by kernel_rfl
  i212 := by kernel_rfl
  i232 := by kernel_rfl
  i233 := by kernel_rfl
  m17 := by kernel_rfl
  m18 := by kernel_rfl
  m19 := by kernel_rfl }
open Go.RowKit Go.Sort Go.Lib in
/-- strconv.Itoa: "Itoa is equivalent to FormatInt(int64(i), 10).": i's DECIMAL NUMERAL ('Lib.itoa': a '-' where i is negative, then the digits), FOR EVERY int. The world behind the call: the world before it, new blocks behind the heap (the library's 'var a [24]byte'), draws. (LAID: no walk: one application.) -/
theorem Tryz.strconv_Itoa (n : Int) (h0 : -9223372036854775808 ≤ n) (h1 : n ≤ 9223372036854775807) (w : World) (htab : Lib.TabIs Tryz.prog w "internal/strconv.uint64pow10" .u64 Lib.pow10Tab) :
    Calls Tryz.prog 44 #[.int .i64 n] w fun e w' => e = .returned (.string ⟨(Lib.itoa n).toArray⟩) ∧ ∃ k os, w' = grow (w.drewN k) os := Any.strconv_Itoa Tryz.laysM171 n h0 h1 w htab
theorem Tryz.Builder_Extra_155 : Builder.Extra Tryz.prog Tryz.lays155_ren := {
  sizeBuilder := by kernel_rfl
  liesBuilder := by kernel_rfl
  t5 := Tryz.underlying5
  a5 := Tryz.isAgg5
  z5 := Tryz.sizeOf5
  v5 := Tryz.zeroValue5
  infoByte := by kernel_rfl
  cellsByte := by kernel_rfl
  sizeByte := by kernel_rfl
  neB5 := by decide }
open Go.RowKit Go.Lib in
/-- strings.ReplaceAll: "ReplaceAll returns a copy of the string s with all non-overlapping instances of old replaced by new.": AT AN old THAT IS NOT EMPTY: 'Lib.replaceAll s old new'. (LAID: no walk: one application.) -/
theorem Tryz.strings_ReplaceAll (s old new : ByteArray) (m : Int) (w : World) (hs : s.size < 4294967281) (hm : w.cell? ⟨1, 0, none⟩ = some (.int .i64 m)) (h1 : 1 ≤ old.size) (hlen : s.size + Lib.countB s old * new.size ≤ 140737488355328) :
    Calls Tryz.prog 52 #[.string s, .string old, .string new] w fun e w' =>
      e = .returned (.string ⟨(Lib.replaceAll s.data.toList old.data.toList new.data.toList).toArray⟩) ∧ Below w.heap.size w w' := Any.strings_ReplaceAll Tryz.lays155 Tryz.Builder_Extra_155 s old new m w hs hm h1 hlen
def Tryz.lays169_ren : Go.Shelf.Ren := ⟨fun | 169 => 59 | n => n, fun | 70 => 69 | 9 => 9 | 0 => 0 | 72 => 71 | 37 => 66 | 127 => 92 | 3 => 3 | 5 => 5 | n => n, fun | n => n⟩
theorem Tryz.lays169 : Go.Proofs.Lays.n169 Tryz.prog Tryz.lays169_ren := {
  mixed := by kernel_rfl
  f169 := Tryz.func59.trans (congrArg some (by kernel_rfl))
  t0 := Tryz.underlying0
  a0 := Tryz.isAgg0
  z0 := Tryz.sizeOf0
  v0 := Tryz.zeroValue0
  t3 := Tryz.underlying3
  a3 := Tryz.isAgg3
  z3 := Tryz.sizeOf3
  v3 := Tryz.zeroValue3
  t9 := Tryz.underlying9
  a9 := Tryz.isAgg9
  z9 := Tryz.sizeOf9
  v9 := Tryz.zeroValue9
  t37 := Tryz.underlying66
  a37 := Tryz.isAgg66
  z37 := Tryz.sizeOf66
  v37 := Tryz.zeroValue66
  t70 := Tryz.underlying69
  a70 := Tryz.isAgg69
  z70 := Tryz.sizeOf69
  v70 := Tryz.zeroValue69
  t72 := Tryz.underlying71
  a72 := Tryz.isAgg71
  z72 := Tryz.sizeOf71
  v72 := Tryz.zeroValue71
  t127 := Tryz.underlying92
  a127 := Tryz.isAgg92
  z127 := Tryz.sizeOf92
  v127 := Tryz.zeroValue92 }
theorem Tryz.Builder_Extra_169 : Builder.Extra Tryz.prog Tryz.lays169_ren := {
  sizeBuilder := by kernel_rfl
  liesBuilder := by kernel_rfl
  t5 := Tryz.underlying5
  a5 := Tryz.isAgg5
  z5 := Tryz.sizeOf5
  v5 := Tryz.zeroValue5
  infoByte := by kernel_rfl
  cellsByte := by kernel_rfl
  sizeByte := by kernel_rfl
  neB5 := by decide }
open Go.RowKit in
/-- (*strings.Builder).String: "String returns the accumulated string.": WHATEVER THE BUILDER HOLDS. (LAID: no walk: one application.) -/
theorem Tryz.Builder_String_any (B b : Nat) (l : List UInt8) (w : World) (h : Lib.IsBuilder 71 5 B b (Lib.byteCells l) w) (hBw : B ≤ w.heap.size) :
    Calls Tryz.prog 59 #[.pointer (some ⟨b, 0, none⟩)] w fun e w' => e = .returned (.string ⟨l.toArray⟩) ∧ Below B w w' := Any.Builder_String_any Tryz.lays169 Tryz.Builder_Extra_169 B b l w h hBw
end Go.Proofs
end
section
/- strings.ContainsAny of whatever bytes, among some ASCII ones: the shelf's long road beside the short one. -/
namespace Go.Proofs.YtkbgpajconhgjaaGreatDoor
open Go.RowKit

theorem any_index (l c : List UInt8) : decide ((0 : Int) ≤ Lib.indexAny l c) = l.any fun x => c.contains x := by
  induction l with
  | nil => rfl
  | cons b l ih =>
    rw [List.any_cons, ← ih, Lib.indexAny]
    have hge := Lib.indexAny_ge c l
    cases h : c.contains b with
    | true => simp
    | false =>
      simp only [Bool.false_eq_true, if_false, Bool.false_or]
      by_cases h2 : Lib.indexAny l c = -1
      · rw [h2]; rfl
      · have : (Lib.indexAny l c == -1) = false := by simpa using h2
        rw [this]
        simp only [Bool.false_eq_true, if_false]
        rw [decide_eq_true (by omega), decide_eq_true (by omega)]

theorem Tryz.infoSet : (Tryz.prog.info? 125).map (fun i => (i.zero, i.size)) = some (some (.agg (Array.replicate 256 (.bool false))), 256) := by kernel_rfl

theorem idxAny_all (s chars : ByteArray) (w : World) (hs : s.size ≤ 1000000) (h2 : 2 ≤ chars.size) (hc8 : chars.size ≤ 1000) (ha : asciiL chars.data.toList) :
    Calls Tryz.prog 102 #[.string s, .string chars] w fun e w' => e = .returned (.int .i64 (Lib.indexAny s.data.toList chars.data.toList)) ∧ Below w.heap.size w w' := by
  by_cases h8 : s.size ≤ 8
  · exact idxAny_short s chars w h2 hc8 h8 ha
  · refine (Tryz.strings_IndexAny_long (zero_of_info Tryz.infoSet).1 s chars w h2 (by omega) (by omega) (by omega) fun j b hj => ha.at b (List.mem_of_getElem? hj)).mono fun e w' ⟨h1, h3⟩ => ⟨h1, ?_⟩
    rw [h3]
    exact ((Below.refl _ _).alloc (Nat.le_refl _) _).alloc (by simp) _
theorem containsAnyB (s chars : ByteArray) (w : World) (hs : s.size ≤ 1000000) (h2 : 2 ≤ chars.size) (hc8 : chars.size ≤ 1000) (ha : asciiL chars.data.toList) :
    Calls Tryz.prog 84 #[.string s, .string chars] w fun e w' => e = .returned (.bool (s.data.toList.any fun x => chars.data.toList.contains x)) ∧ Below w.heap.size w w' := by
  have hb := any_index s.data.toList chars.data.toList
  have HB := Lib.hid hb
  clear hb
  go_enter Tryz.func84, Tryz.ntmps84
  go_wp2_with fail
  refine (idxAny_all s chars _ hs h2 hc8 ha).mono ?_
  rintro e w1 ⟨rfl, q⟩
  go_wp2_with fail
  go_ret
  exact ⟨ret_bool HB.out, q⟩
end Go.Proofs.YtkbgpajconhgjaaGreatDoor
end
