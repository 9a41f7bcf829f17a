/- glob.Match: what it tells is what the mask means. -/
import Derived.Test.YtmoioihclnpcbaaDoorGlobA
import Derived.WalkMore
import Derived.Scope
namespace Go.Proofs.YtmoioihclnpcbaaDoor
open Go.RowKit

def meas (M S a f i : Nat) : Nat := ((M - a) * (S + 1) + (S - f)) * (S + 1) + (S - i)
theorem lex2 {S x x' y y' : Nat} (h : x' < x) (hy : y' ≤ S) : x' * (S + 1) + y' < x * (S + 1) + y := by
  have := Nat.mul_le_mul_right (S + 1) (show x' + 1 ≤ x from h)
  rw [Nat.add_mul, Nat.one_mul] at this
  omega
theorem meas_a {M S a a' f f' i i' : Nat} (h : a < a') (hM : a' ≤ M) : meas M S a' f' i' < meas M S a f i :=
  lex2 (lex2 (by omega) (by omega)) (by omega)
theorem meas_f {M S a f f' i i' : Nat} (h : f < f') (hS : f' ≤ S) : meas M S a f' i' < meas M S a f i :=
  lex2 (by omega) (by omega)
theorem meas_i {M S a f i i' : Nat} (h : i < i') (hS : i' ≤ S) : meas M S a f i' < meas M S a f i := by
  unfold meas; omega

/-- where the greedy search stands: no star yet, or behind one -/
def At (m s : ByteArray) (a i st f : Int) : Prop := ∃ k j : Nat, a = k ∧ i = j ∧ k ≤ m.size ∧ j ≤ s.size ∧
  ((st = -1 ∧ f = 0 ∧ j = k ∧ seg m.data.toList s.data.toList 0 0 k) ∨
   (∃ b g n : Nat, st = b ∧ f = g ∧ k = b + n ∧ j = g + n ∧ seg m.data.toList s.data.toList b g n ∧ (mm m.data.toList s.data.toList = true ↔ some' m.data.toList s.data.toList b g)))
def meas' (m s : ByteArray) (st f i : Value) : Nat := meas m.size s.size (intOf st).toNat (intOf f).toNat (intOf i).toNat
theorem len_ba (s : ByteArray) : s.data.toList.length = s.size := by simp
theorem get_ba (s : ByteArray) (k : Nat) (h : k < s.size) : s.data.toList[k]'(by simpa using h) = s[k] := rfl
theorem mm_from (m s : List UInt8) : mm m s = from' m s 0 0 := by simp [from']

theorem at_star {m s : ByteArray} {k j : Nat} {st f : Int} (h : At m s k j st f) (hk : k < m.size) (hj : j < s.size) (hc : m[k] = 42) :
    At m s (k + 1) j (k + 1) j ∧ meas' m s (.int .i64 (k + 1)) (.int .i64 j) (.int .i64 j) < meas' m s (.int .i64 st) (.int .i64 f) (.int .i64 j) := by
  obtain ⟨k', j', e1, e2, h1, h2, h3⟩ := h
  obtain rfl : k = k' := by omega
  obtain rfl : j = j' := by omega
  have hl := len_ba m; have hl2 := len_ba s
  constructor
  · refine ⟨k + 1, j, by push_cast; rfl, rfl, by omega, h2, .inr ⟨k + 1, j, 0, by push_cast; rfl, rfl, rfl, rfl, seg_zero (by omega) (by omega), ?_⟩⟩
    rcases h3 with ⟨_, _, rfl, hs⟩ | ⟨b, g, n, rfl, rfl, rfl, rfl, hs, hq⟩
    · rw [mm_from, seg_from hs]
      simp only [Nat.zero_add]
      exact from_star (by omega) (by rw [get_ba m j hk]; exact hc) (by omega)
    · rw [hq]
      exact seg_star hs (by omega) (by rw [get_ba m (b + n) hk]; exact hc)
  · unfold meas'
    simp only [intOf]
    refine meas_a ?_ (by omega)
    rcases h3 with ⟨rfl, _⟩ | ⟨b, g, n, rfl, rfl, rfl, rfl, _⟩ <;> omega
theorem at_step {m s : ByteArray} {k j : Nat} {st f : Int} (h : At m s k j st f) (hk : k < m.size) (hj : j < s.size) (hc : m[k] ≠ 42) (hb : mb m[k] s[j] = true) :
    At m s (k + 1) (j + 1) st f ∧ meas' m s (.int .i64 st) (.int .i64 f) (.int .i64 (j + 1)) < meas' m s (.int .i64 st) (.int .i64 f) (.int .i64 j) := by
  obtain ⟨k', j', e1, e2, h1, h2, h3⟩ := h
  obtain rfl : k = k' := by omega
  obtain rfl : j = j' := by omega
  have hl := len_ba m; have hl2 := len_ba s
  constructor
  · refine ⟨k + 1, j + 1, by push_cast; rfl, by push_cast; rfl, by omega, by omega, ?_⟩
    rcases h3 with ⟨e3, e4, rfl, hs⟩ | ⟨b, g, n, rfl, rfl, rfl, rfl, hs, hq⟩
    · refine .inl ⟨e3, e4, rfl, ?_⟩
      have := seg_snoc (m := m.data.toList) (s := s.data.toList) (n := j) hs (by omega) (by omega) (by simp only [Nat.zero_add]; rw [get_ba m j hk]; exact hc) (by simp only [Nat.zero_add]; rw [get_ba m j hk, get_ba s j hj]; exact hb)
      exact this
    · exact .inr ⟨b, g, n + 1, rfl, rfl, by omega, by omega, seg_snoc hs (by omega) (by omega) (by rw [get_ba m _ hk]; exact hc) (by rw [get_ba m _ hk, get_ba s _ hj]; exact hb), hq⟩
  · unfold meas'
    simp only [intOf]
    exact meas_i (by omega) (by omega)
/-- the byte of the mask means none of the text's here -/
def misses (m s : ByteArray) (k j : Nat) : Prop := (m.size ≤ k) ∨ ∃ (h1 : k < m.size) (h2 : j < s.size), m[k] ≠ 42 ∧ mb m[k] s[j] = false
theorem miss_from {m s : ByteArray} {k j : Nat} (h : misses m s k j) (hk : k ≤ m.size) (hj : j < s.size) : from' m.data.toList s.data.toList k j = false := by
  have hl := len_ba m; have hl2 := len_ba s
  rcases h with h | ⟨h1, h2, hc, hb⟩
  · exact from_out (by omega) (by omega)
  · rw [from_step (by omega) (by omega) (by rw [get_ba m k h1]; exact hc), get_ba m k h1, get_ba s j h2, hb, Bool.false_and]
theorem at_out {m s : ByteArray} {k j : Nat} {f : Int} (h : At m s k j (-1) f) (hj : j < s.size) (hm : misses m s k j) : false = mm m.data.toList s.data.toList := by
  obtain ⟨k', j', e1, e2, h1, h2, h3⟩ := h
  obtain rfl : k = k' := by omega
  obtain rfl : j = j' := by omega
  rcases h3 with ⟨e3, e4, rfl, hs⟩ | ⟨b, g, n, e, _⟩
  · rw [mm_from, seg_from hs]
    simp only [Nat.zero_add]
    exact (miss_from hm h1 hj).symm
  · omega
theorem at_miss {m s : ByteArray} {k j b : Nat} {f : Int} (h : At m s k j b f) (hj : j < s.size) (hm : misses m s k j) :
    At m s b (f + 1) b (f + 1) ∧ meas' m s (.int .i64 b) (.int .i64 (f + 1)) (.int .i64 (f + 1)) < meas' m s (.int .i64 b) (.int .i64 f) (.int .i64 j) := by
  obtain ⟨k', j', e1, e2, h1, h2, h3⟩ := h
  obtain rfl : k = k' := by omega
  obtain rfl : j = j' := by omega
  have hl := len_ba m; have hl2 := len_ba s
  rcases h3 with ⟨e3, _⟩ | ⟨b', g, n, e, rfl, rfl, rfl, hs, hq⟩
  · omega
  · obtain rfl : b = b' := by omega
    constructor
    · refine ⟨b, g + 1, rfl, by push_cast; rfl, by omega, by omega, .inr ⟨b, g + 1, 0, rfl, by push_cast; rfl, rfl, rfl, seg_zero (by omega) (by omega), ?_⟩⟩
      rw [hq]
      exact seg_miss hs (miss_from hm h1 hj)
    · unfold meas'
      simp only [intOf]
      exact meas_f (by omega) (by omega)
theorem at_end {m s : ByteArray} {k j : Nat} {st f : Int} (h : At m s k j st f) (hj : s.size ≤ j) : stars (m.data.toList.drop k) = mm m.data.toList s.data.toList := by
  obtain ⟨k', j', e1, e2, h1, h2, h3⟩ := h
  obtain rfl : k = k' := by omega
  obtain rfl : j = j' := by omega
  have hl := len_ba m; have hl2 := len_ba s
  rcases h3 with ⟨e3, e4, rfl, hs⟩ | ⟨b, g, n, rfl, rfl, rfl, rfl, hs, hq⟩
  · rw [mm_from, seg_from hs]
    simp only [Nat.zero_add]
    have : j = s.data.toList.length := by omega
    rw [show from' m.data.toList s.data.toList j j = from' m.data.toList s.data.toList j s.data.toList.length from by rw [← this], from_end]
  · rw [Bool.eq_iff_iff, hq]
    exact (seg_end hs (by omega)).symm

theorem drew_more {w wr : World} (h : ∃ n, wr = w.drewN n) : ∃ n, wr.drew = w.drewN n := by
  obtain ⟨n, rfl⟩ := h; exact ⟨n + 1, rfl⟩

theorem drewN_more {w wr : World} {q : Nat} (h : ∃ n, wr = w.drewN n) : ∃ n, wr.drewN q = w.drewN n := by
  obtain ⟨n, rfl⟩ := h; exact ⟨n + q, by rw [World.drewN_drewN]⟩

end Go.Proofs.YtmoioihclnpcbaaDoor
