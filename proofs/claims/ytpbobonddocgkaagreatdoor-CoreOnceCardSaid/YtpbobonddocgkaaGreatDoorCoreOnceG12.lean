/- Texts of this proof, one behind the other. -/
import Derived.Test.YtpbobonddocgkaaGreatDoorCoreOnceG11
import Derived.WalkMore
import Derived.Scope
import Derived.Lib.IndexAny
import Derived.Test.YtpbobonddocgkaaGreatDoorCoreOnceG3
import Derived.Laws.Runes
import Derived.Laws.RangeAny
import Derived.Laws.Strings3
import Derived.Deep.LoopGhost
import Derived.IntWalk
import Derived.Lib.IndexBytes
import Derived.Lib.OthersKept
import Derived.Test.YtpbobonddocgkaaGreatDoorCoreOnceG1
import Derived.Shelf.Strings.IndexAnyAll
import Derived.Below
import Derived.Carry
import Derived.Deep.Strs
import Derived.ChangeSame
import Derived.DataReads
import Derived.ProofKit
import Derived.OpenShut
import Derived.Test.YtpbobonddocgkaaGreatDoorCoreOnceG4
import Derived.Deep.QuietTactic
import Derived.BigQuiet
import Derived.Laws.IdiomStrings
set_option linter.unusedVariables false
set_option linter.unusedSimpArgs false
section
/- glob.Match: what it tells is what the mask means. -/
namespace Go.Proofs.YtpbobonddocgkaaGreatDoor
open Go.RowKit

def meas (M S a f i : Nat) : Nat := ((M - a) * (S + 1) + (S - f)) * (S + 1) + (S - i)
theorem lex2 {S x x' y y' : Nat} (h : x' < x) (hy : y' ≤ S) : x' * (S + 1) + y' < x * (S + 1) + y := by
  have := Nat.mul_le_mul_right (S + 1) (show x' + 1 ≤ x from h)
  rw [Nat.add_mul, Nat.one_mul] at this
  omega
theorem meas_a {M S a a' f f' i i' : Nat} (h : a < a') (hM : a' ≤ M) : meas M S a' f' i' < meas M S a f i :=
  lex2 (lex2 (by omega) (by omega)) (by omega)
theorem meas_f {M S a f f' i i' : Nat} (h : f < f') (hS : f' ≤ S) : meas M S a f' i' < meas M S a f i :=
  lex2 (by omega) (by omega)
theorem meas_i {M S a f i i' : Nat} (h : i < i') (hS : i' ≤ S) : meas M S a f i' < meas M S a f i := by
  unfold meas; omega

/-- where the greedy search stands: no star yet, or behind one -/
def At (m s : ByteArray) (a i st f : Int) : Prop := ∃ k j : Nat, a = k ∧ i = j ∧ k ≤ m.size ∧ j ≤ s.size ∧
  ((st = -1 ∧ f = 0 ∧ j = k ∧ seg m.data.toList s.data.toList 0 0 k) ∨
   (∃ b g n : Nat, st = b ∧ f = g ∧ k = b + n ∧ j = g + n ∧ seg m.data.toList s.data.toList b g n ∧ (mm m.data.toList s.data.toList = true ↔ some' m.data.toList s.data.toList b g)))
def meas' (m s : ByteArray) (st f i : Value) : Nat := meas m.size s.size (Go.RowKit.intOf st).toNat (Go.RowKit.intOf f).toNat (Go.RowKit.intOf i).toNat
theorem len_ba (s : ByteArray) : s.data.toList.length = s.size := by simp
theorem get_ba (s : ByteArray) (k : Nat) (h : k < s.size) : s.data.toList[k]'(by simpa using h) = s[k] := rfl
theorem mm_from (m s : List UInt8) : mm m s = from' m s 0 0 := by simp [from']

theorem at_star {m s : ByteArray} {k j : Nat} {st f : Int} (h : At m s k j st f) (hk : k < m.size) (hj : j < s.size) (hc : m[k] = 42) :
    At m s (k + 1) j (k + 1) j ∧ meas' m s (.int .i64 (k + 1)) (.int .i64 j) (.int .i64 j) < meas' m s (.int .i64 st) (.int .i64 f) (.int .i64 j) := by
  obtain ⟨k', j', e1, e2, h1, h2, h3⟩ := h
  obtain rfl : k = k' := by omega
  obtain rfl : j = j' := by omega
  have hl := len_ba m; have hl2 := len_ba s
  constructor
  · refine ⟨k + 1, j, by push_cast; rfl, rfl, by omega, h2, .inr ⟨k + 1, j, 0, by push_cast; rfl, rfl, rfl, rfl, seg_zero (by omega) (by omega), ?_⟩⟩
    rcases h3 with ⟨_, _, rfl, hs⟩ | ⟨b, g, n, rfl, rfl, rfl, rfl, hs, hq⟩
    · rw [mm_from, seg_from hs]
      simp only [Nat.zero_add]
      exact from_star (by omega) (by rw [get_ba m j hk]; exact hc) (by omega)
    · rw [hq]
      exact seg_star hs (by omega) (by rw [get_ba m (b + n) hk]; exact hc)
  · unfold meas'
    simp only [Go.RowKit.intOf]
    refine meas_a ?_ (by omega)
    rcases h3 with ⟨rfl, _⟩ | ⟨b, g, n, rfl, rfl, rfl, rfl, _⟩ <;> omega
theorem at_step {m s : ByteArray} {k j : Nat} {st f : Int} (h : At m s k j st f) (hk : k < m.size) (hj : j < s.size) (hc : m[k] ≠ 42) (hb : mb m[k] s[j] = true) :
    At m s (k + 1) (j + 1) st f ∧ meas' m s (.int .i64 st) (.int .i64 f) (.int .i64 (j + 1)) < meas' m s (.int .i64 st) (.int .i64 f) (.int .i64 j) := by
  obtain ⟨k', j', e1, e2, h1, h2, h3⟩ := h
  obtain rfl : k = k' := by omega
  obtain rfl : j = j' := by omega
  have hl := len_ba m; have hl2 := len_ba s
  constructor
  · refine ⟨k + 1, j + 1, by push_cast; rfl, by push_cast; rfl, by omega, by omega, ?_⟩
    rcases h3 with ⟨e3, e4, rfl, hs⟩ | ⟨b, g, n, rfl, rfl, rfl, rfl, hs, hq⟩
    · refine .inl ⟨e3, e4, rfl, ?_⟩
      have := seg_snoc (m := m.data.toList) (s := s.data.toList) (n := j) hs (by omega) (by omega) (by simp only [Nat.zero_add]; rw [get_ba m j hk]; exact hc) (by simp only [Nat.zero_add]; rw [get_ba m j hk, get_ba s j hj]; exact hb)
      exact this
    · exact .inr ⟨b, g, n + 1, rfl, rfl, by omega, by omega, seg_snoc hs (by omega) (by omega) (by rw [get_ba m _ hk]; exact hc) (by rw [get_ba m _ hk, get_ba s _ hj]; exact hb), hq⟩
  · unfold meas'
    simp only [Go.RowKit.intOf]
    exact meas_i (by omega) (by omega)
/-- the byte of the mask means none of the text's here -/
def misses (m s : ByteArray) (k j : Nat) : Prop := (m.size ≤ k) ∨ ∃ (h1 : k < m.size) (h2 : j < s.size), m[k] ≠ 42 ∧ mb m[k] s[j] = false
theorem miss_from {m s : ByteArray} {k j : Nat} (h : misses m s k j) (hk : k ≤ m.size) (hj : j < s.size) : from' m.data.toList s.data.toList k j = false := by
  have hl := len_ba m; have hl2 := len_ba s
  rcases h with h | ⟨h1, h2, hc, hb⟩
  · exact from_out (by omega) (by omega)
  · rw [from_step (by omega) (by omega) (by rw [get_ba m k h1]; exact hc), get_ba m k h1, get_ba s j h2, hb, Bool.false_and]
theorem at_out {m s : ByteArray} {k j : Nat} {f : Int} (h : At m s k j (-1) f) (hj : j < s.size) (hm : misses m s k j) : false = mm m.data.toList s.data.toList := by
  obtain ⟨k', j', e1, e2, h1, h2, h3⟩ := h
  obtain rfl : k = k' := by omega
  obtain rfl : j = j' := by omega
  rcases h3 with ⟨e3, e4, rfl, hs⟩ | ⟨b, g, n, e, _⟩
  · rw [mm_from, seg_from hs]
    simp only [Nat.zero_add]
    exact (miss_from hm h1 hj).symm
  · omega
theorem at_miss {m s : ByteArray} {k j b : Nat} {f : Int} (h : At m s k j b f) (hj : j < s.size) (hm : misses m s k j) :
    At m s b (f + 1) b (f + 1) ∧ meas' m s (.int .i64 b) (.int .i64 (f + 1)) (.int .i64 (f + 1)) < meas' m s (.int .i64 b) (.int .i64 f) (.int .i64 j) := by
  obtain ⟨k', j', e1, e2, h1, h2, h3⟩ := h
  obtain rfl : k = k' := by omega
  obtain rfl : j = j' := by omega
  have hl := len_ba m; have hl2 := len_ba s
  rcases h3 with ⟨e3, _⟩ | ⟨b', g, n, e, rfl, rfl, rfl, hs, hq⟩
  · omega
  · obtain rfl : b = b' := by omega
    constructor
    · refine ⟨b, g + 1, rfl, by push_cast; rfl, by omega, by omega, .inr ⟨b, g + 1, 0, rfl, by push_cast; rfl, rfl, rfl, seg_zero (by omega) (by omega), ?_⟩⟩
      rw [hq]
      exact seg_miss hs (miss_from hm h1 hj)
    · unfold meas'
      simp only [Go.RowKit.intOf]
      exact meas_f (by omega) (by omega)
theorem at_end {m s : ByteArray} {k j : Nat} {st f : Int} (h : At m s k j st f) (hj : s.size ≤ j) : stars (m.data.toList.drop k) = mm m.data.toList s.data.toList := by
  obtain ⟨k', j', e1, e2, h1, h2, h3⟩ := h
  obtain rfl : k = k' := by omega
  obtain rfl : j = j' := by omega
  have hl := len_ba m; have hl2 := len_ba s
  rcases h3 with ⟨e3, e4, rfl, hs⟩ | ⟨b, g, n, rfl, rfl, rfl, rfl, hs, hq⟩
  · rw [mm_from, seg_from hs]
    simp only [Nat.zero_add]
    have : j = s.data.toList.length := by omega
    rw [show from' m.data.toList s.data.toList j j = from' m.data.toList s.data.toList j s.data.toList.length from by rw [← this], from_end]
  · rw [Bool.eq_iff_iff, hq]
    exact (seg_end hs (by omega)).symm

theorem drew_more {w wr : World} (h : ∃ n, wr = w.drewN n) : ∃ n, wr.drew = w.drewN n := by
  obtain ⟨n, rfl⟩ := h; exact ⟨n + 1, rfl⟩

theorem drewN_more {w wr : World} {q : Nat} (h : ∃ n, wr = w.drewN n) : ∃ n, wr.drewN q = w.drewN n := by
  obtain ⟨n, rfl⟩ := h; exact ⟨n + q, by rw [World.drewN_drewN]⟩

end Go.Proofs.YtpbobonddocgkaaGreatDoor
end
section
/- strings.Index, Contains, Cut with one byte. -/
namespace Go.Proofs.YtpbobonddocgkaaGreatDoor
open Go.RowKit

set_option maxRecDepth 1000000 in
set_option maxHeartbeats 2000000 in
theorem index1_lite (s : ByteArray) (c : UInt8) (w : World) (hs : s.size ≤ 1000000) :
    Calls Tryz.prog 214 #[.string s, .string ⟨#[c]⟩] w fun e w' => e = .returned (.int .i64 (Lib.indexByte s.data.toList c)) ∧ w = w' := by
  go_enter Tryz.func214, Tryz.ntmps214
  go_wp2_with (go_at_call 111; refine (idxByte0 _ _ _).mono ?_; rintro e w' ⟨rfl, rfl⟩)
  · go_ret
    rename_i h
    rw [ByteArray.toList_eq, beq_iff_eq] at h
    exact ⟨ret_int (by rw [← h]; simp [Lib.indexByte]), rfl⟩
  · go_ret
    exact ⟨ret_int rfl, rfl⟩
set_option maxRecDepth 1000000 in
theorem index1 (s : ByteArray) (c : UInt8) (w : World) (hs : s.size ≤ 1000000) :
    Calls Tryz.prog 198 #[.string s, .string ⟨#[c]⟩] w fun e w' => e = .returned (.int .i64 (Lib.indexByte s.data.toList c)) ∧ w = w' := by
  go_enter Tryz.func198, Tryz.ntmps198
  go_wp2_with (go_at_call 214; refine (index1_lite _ _ _ hs).mono ?_; rintro e w' ⟨rfl, rfl⟩)
  go_ret
  exact ⟨rfl, rfl⟩
theorem idx_bool (l : List UInt8) (c : UInt8) : decide (Lib.indexByte l c ≥ 0) = l.contains c := by
  have h1 := Lib.contains_iff_indexByte l c
  rw [h1]
set_option maxRecDepth 1000000 in
theorem contains1 (s : ByteArray) (c : UInt8) (w : World) (hs : s.size ≤ 1000000) :
    Calls Tryz.prog 174 #[.string s, .string ⟨#[c]⟩] w fun e w' => e = .returned (.bool (s.data.toList.contains c)) ∧ w = w' := by
  go_enter Tryz.func174, Tryz.ntmps174
  go_wp2_with (go_at_call 198; refine (index1 _ _ _ hs).mono ?_; rintro e w' ⟨rfl, rfl⟩)
  go_ret
  exact ⟨ret_bool (idx_bool _ _), rfl⟩
theorem idx_lt {l : List UInt8} {c : UInt8} {o : Nat} (h : Lib.indexByte l c = o) : o < l.length := by
  have := (Lib.indexByte_some h).1
  exact (List.getElem?_eq_some_iff.1 this).1

end Go.Proofs.YtpbobonddocgkaaGreatDoor
end
section
/- glob.orStar, Complete, Cut; the answers' index, star. -/
namespace Go.Proofs.YtpbobonddocgkaaGreatDoor
open Go.RowKit

/-- a part, or a star -/
def starB (s : ByteArray) : ByteArray := if s.size = 0 then ⟨#[42]⟩ else s



/-- where a byte stands first, from a place on -/
def ixFrom (l : List UInt8) (c : UInt8) (k : Nat) : Int := if Lib.indexByte (l.drop k) c = -1 then -1 else Lib.indexByte (l.drop k) c + k
theorem ixFrom_hit {s : ByteArray} {c : UInt8} {k : Nat} (h : k < s.size) (e : s[k] = c) : ixFrom s.data.toList c k = k := by
  unfold ixFrom
  rw [List.drop_eq_getElem_cons (by simpa using h), get_ba s k h]
  simp [Lib.indexByte, e]
theorem ixFrom_next {s : ByteArray} {c : UInt8} {k : Nat} (h : k < s.size) (e : s[k] ≠ c) : ixFrom s.data.toList c k = ixFrom s.data.toList c (k + 1) := by
  unfold ixFrom
  rw [List.drop_eq_getElem_cons (by simpa using h), get_ba s k h]
  have hb : (s[k] == c) = false := by simpa using e
  simp only [Lib.indexByte, hb]
  by_cases h1 : Lib.indexByte (List.drop (k + 1) s.data.toList) c = -1
  · simp [h1]
  · have hge := Lib.indexByte_ge (List.drop (k + 1) s.data.toList) c
    have hb1 : (Lib.indexByte (List.drop (k + 1) s.data.toList) c == -1) = false := by simpa using h1
    simp only [hb1, Bool.false_eq_true, if_false, h1]
    rw [if_neg (by omega)]
    push_cast; omega
theorem ixFrom_end {s : ByteArray} {c : UInt8} {k : Nat} (h : s.size ≤ k) : ixFrom s.data.toList c k = -1 := by
  unfold ixFrom
  rw [List.drop_eq_nil_of_le (by simpa using h)]
  simp [Lib.indexByte]

end Go.Proofs.YtpbobonddocgkaaGreatDoor
end
section
/- glob.Complete. -/
namespace Go.Proofs.YtpbobonddocgkaaGreatDoor
open Go.RowKit

def starL (l : List UInt8) : List UInt8 := if l.length = 0 then [42] else l
theorem starB_data (s : ByteArray) : (starB s).data.toList = starL s.data.toList := by
  unfold starB starL
  rw [len_ba]
  by_cases h : s.size = 0
  · rw [if_pos h, if_pos h]
  · rw [if_neg h, if_neg h]
def cutL (l : List UInt8) (c : UInt8) : List UInt8 × List UInt8 := if Lib.indexByte l c = -1 then (l, []) else (l.take (Lib.indexByte l c).toNat, l.drop ((Lib.indexByte l c).toNat + 1))
/-- three parts, as one mask -/
def joinL (n u h : List UInt8) : List UInt8 := starL n ++ [33] ++ starL u ++ [64] ++ starL h


theorem drewN_two {w w1 w2 : World} (h : ∃ n, w1 = w.drewN n) (h2 : ∃ n, w2 = w1.drewN n) : ∃ n, w2 = w.drewN n := by
  obtain ⟨n, rfl⟩ := h; obtain ⟨m, rfl⟩ := h2; exact ⟨n + m, by rw [World.drewN_drewN]⟩
theorem drewN_none (w : World) : ∃ n, w = w.drewN n := ⟨0, rfl⟩
theorem join_data {x y z : ByteArray} {n u h : List UInt8} (hx : x.data.toList = starL n) (hy : y.data.toList = starL u) (hz : z.data.toList = starL h) : (x ++ ⟨#[33]⟩ ++ y ++ ⟨#[64]⟩ ++ z).data.toList = joinL n u h := by
  unfold joinL
  simp [hx, hy, hz]
theorem size_ex {s : ByteArray} (a b : Nat) (hs : s.size ≤ 1000000) : (s.extract a b).size ≤ 1000000 := by simp [ByteArray.size_extract]; omega











end Go.Proofs.YtpbobonddocgkaaGreatDoor
end
section
/- The document's Complete of layer 4. -/
namespace Go.Proofs.YtpbobonddocgkaaGreatDoor
open Go.RowKit

















end Go.Proofs.YtpbobonddocgkaaGreatDoor
end
section
/- Both Completes give one answer. -/
namespace Go.Proofs.YtpbobonddocgkaaGreatDoor
open Go.RowKit

theorem idx_cases (l : List UInt8) (c : UInt8) : Lib.indexByte l c = -1 ∨ ∃ k : Nat, Lib.indexByte l c = k := by
  have h := Lib.indexByte_ge l c
  by_cases e : Lib.indexByte l c = -1
  · exact .inl e
  · exact .inr ⟨(Lib.indexByte l c).toNat, by omega⟩
theorem idx_of {l : List UInt8} {c : UInt8} {k : Nat} (h : l[k]? = some c) (hn : ∀ j, j < k → l[j]? ≠ some c) : Lib.indexByte l c = k := by
  rcases idx_cases l c with e | ⟨o, e⟩
  · exact absurd h (Lib.indexByte_none e k)
  · have ⟨h1, h2⟩ := Lib.indexByte_some e
    rcases Nat.lt_trichotomy o k with h3 | h3 | h3
    · exact absurd h1 (hn o h3)
    · rw [e, h3]
    · exact absurd h (h2 k h3)
theorem idx_none {l : List UInt8} {c : UInt8} (hn : ∀ j : Nat, l[j]? ≠ some c) : Lib.indexByte l c = -1 := by
  rcases idx_cases l c with e | ⟨o, e⟩
  · exact e
  · exact absurd (Lib.indexByte_some e).1 (hn o)
theorem idx_drop {l : List UInt8} {c : UInt8} {a b : Nat} (h : Lib.indexByte l c = a) (hb : b < a) : Lib.indexByte (l.drop (b + 1)) c = ((a - (b + 1) : Nat) : Int) := by
  have ⟨h1, h2⟩ := Lib.indexByte_some h
  refine idx_of ?_ fun j hj => ?_
  · rw [List.getElem?_drop, show b + 1 + (a - (b + 1)) = a by omega]; exact h1
  · rw [List.getElem?_drop]; exact h2 _ (by omega)
theorem idx_drop_none {l : List UInt8} {c : UInt8} (k : Nat) (h : Lib.indexByte l c = -1) : Lib.indexByte (l.drop k) c = -1 :=
  idx_none fun j => by rw [List.getElem?_drop]; exact Lib.indexByte_none h _
theorem contains_take {l : List UInt8} {c : UInt8} {a b : Nat} (h : Lib.indexByte l c = a) (hb : a < b) : (l.take b).contains c = true := by
  rw [List.contains_iff_mem]
  have ⟨h1, _⟩ := Lib.indexByte_some h
  exact List.mem_of_getElem? (i := a) (by rw [List.getElem?_take_of_lt hb]; exact h1)
theorem contains_take_no {l : List UInt8} {c : UInt8} {b : Nat} (h : ∀ j, j < b → l[j]? ≠ some c) : (l.take b).contains c = false := by
  rw [Bool.eq_false_iff, ne_eq, List.contains_iff_mem]
  intro hm
  obtain ⟨j, hj⟩ := List.mem_iff_getElem?.1 hm
  by_cases e : j < b
  · rw [List.getElem?_take_of_lt e] at hj; exact h j e hj
  · rw [List.getElem?_take_eq_none (by omega)] at hj; cases hj
theorem contains_all {l : List UInt8} {c : UInt8} {a : Nat} (h : Lib.indexByte l c = a) : l.contains c = true := by
  have := contains_take h (b := l.length) (idx_lt h)
  rwa [List.take_length] at this
theorem contains_none {l : List UInt8} {c : UInt8} (h : Lib.indexByte l c = -1) : l.contains c = false := by
  have := contains_take_no (l := l) (c := c) (b := l.length) fun j _ => Lib.indexByte_none h j
  rwa [List.take_length] at this

/-- a mask as a whole one -/
def compS (s : ByteArray) : List UInt8 :=
  let b := Lib.indexByte s.data.toList 33
  let a := Lib.indexByte s.data.toList 64
  if a = -1 then
    if b = -1 then joinL s.data.toList [] [] else joinL (s.extract 0 b.toNat).data.toList (s.extract (b.toNat + 1) s.size).data.toList []
  else if b = -1 ∨ a < b then joinL [] (s.extract 0 a.toNat).data.toList (s.extract (a.toNat + 1) s.size).data.toList
  else joinL (s.extract 0 b.toNat).data.toList (s.extract (b.toNat + 1) a.toNat).data.toList (s.extract (a.toNat + 1) s.size).data.toList


end Go.Proofs.YtpbobonddocgkaaGreatDoor
end
section
/- strings.IndexAny, ContainsAny of whatever bytes, among some ASCII ones: the short road (rune by rune). -/
namespace Go.Proofs.YtpbobonddocgkaaGreatDoor
open Go.RowKit

/-- all bytes are ASCII -/
def asciiL (l : List UInt8) : Prop := (l.all fun b => decide (b.toNat < 128)) = true
theorem asciiL.at {l : List UInt8} (h : asciiL l) : ∀ b ∈ l, b.toNat < 128 := fun b hb => by
  have := List.all_eq_true.1 h b hb
  simpa using this
theorem ascii_no {l : List UInt8} (h : asciiL l) {b : UInt8} (hb : 128 ≤ b.toNat) : l.contains b = false := by
  rw [Bool.eq_false_iff, ne_eq, List.contains_iff_mem]
  intro hm
  have := h.at b hm
  omega
theorem getbang (s : ByteArray) (i : Nat) (h : i < s.size) : s.get! i = s[i] := by
  simp [ByteArray.get!, getElem!_pos, h]
  rfl
/-- of what is no ASCII byte as many bytes are taken as are none -/
theorem decode_span (s : ByteArray) (pos : Nat) (h : pos < s.size) (ha : 128 ≤ (s[pos]'h).toNat) : ∀ k, k < (Utf8.decode s pos).2 → ∃ h : pos + k < s.size, 128 ≤ (s[pos + k]'h).toNat := by
  have hc : ∀ k, ((decide (pos + k < s.size) && (s.get! (pos + k)).toNat / 64 == 2) = true) → ∃ h : pos + k < s.size, 128 ≤ (s[pos + k]'h).toNat := by
    intro k hk
    simp only [Bool.and_eq_true, decide_eq_true_eq, beq_iff_eq] at hk
    refine ⟨hk.1, ?_⟩
    have := hk.2
    rw [getbang s _ hk.1] at this
    omega
  have h0 : ∃ h : pos + 0 < s.size, 128 ≤ (s[pos + 0]'h).toNat := ⟨h, ha⟩
  have hn : ¬ (s[pos]'h).toNat < 128 := by omega
  have one : ∀ k, k < 1 → ∃ h : pos + k < s.size, 128 ≤ (s[pos + k]'h).toNat := fun k hk => by
    obtain rfl : k = 0 := by omega
    exact h0
  unfold Utf8.decode
  simp only [get_at s pos h, hn, if_false]
  split
  · rename_i hx
    rw [Bool.and_eq_true] at hx
    have c1 := hc 1 hx.2
    split
    · intro k hk
      rcases (by simp at hk; omega : k = 0 ∨ k = 1) with rfl | rfl
      · exact h0
      · exact c1
    · exact one
  · split
    · rename_i hx
      rw [Bool.and_eq_true, Bool.and_eq_true] at hx
      have c1 := hc 1 hx.1.2
      have c2 := hc 2 hx.2
      split
      · intro k hk
        rcases (by simp at hk; omega : k = 0 ∨ k = 1 ∨ k = 2) with rfl | rfl | rfl
        · exact h0
        · exact c1
        · exact c2
      · exact one
    · split
      · rename_i hx
        rw [Bool.and_eq_true, Bool.and_eq_true, Bool.and_eq_true] at hx
        have c1 := hc 1 hx.1.1.2
        have c2 := hc 2 hx.1.2
        have c3 := hc 3 hx.2
        split
        · intro k hk
          rcases (by simp at hk; omega : k = 0 ∨ k = 1 ∨ k = 2 ∨ k = 3) with rfl | rfl | rfl | rfl
          · exact h0
          · exact c1
          · exact c2
          · exact c3
        · exact one
      · exact one
theorem decode_valid (s : ByteArray) (pos : Nat) (h : pos < s.size) : Utf8.valid ((Utf8.decode s pos).1 : Int) = true := by
  have hb : ∀ k, (s.get! (pos + k)).toNat < 256 := fun k => (s.get! (pos + k)).toNat_lt
  have h0 := hb 0; have h1 := hb 1; have h2 := hb 2; have h3 := hb 3
  have small : ∀ n : Nat, n < 55296 → Utf8.valid (n : Int) = true := fun n hn => by simp [Utf8.valid]; omega
  simp only [Utf8.decode]
  split
  · exact small _ (by omega)
  · split
    · split
      · exact small _ (by omega)
      · rfl
    · split
      · split
        · rename_i hx; rw [Bool.and_eq_true] at hx; exact hx.2
        · rfl
      · split
        · split
          · rename_i hx; rw [Bool.and_eq_true] at hx; exact hx.2
          · rfl
        · rfl

theorem validRune_any (r : Int) (w : World) (h0 : 0 ≤ r) (h1 : r ≤ 1114111) (hv : Utf8.valid r = true) :
    Calls Tryz.prog 164 #[.int .i32 r] w fun e w' => e = .returned (.bool true) ∧ w = w' := by
  have hh : r < 55296 ∨ 57343 < r := by
    rw [validRune_eq, validRune, decide_eq_true_iff] at hv; omega
  clear hv
  rcases hh with h | h
  · go_enter Tryz.func164, Tryz.ntmps164
    go_wp2_with fail
    go_ret
    exact ⟨rfl, rfl⟩
  · have h' : ¬ r < 55296 := by omega
    go_enter Tryz.func164, Tryz.ntmps164
    go_wp2_with fail
    go_ret
    exact ⟨rfl, rfl⟩

theorem should_any (n : Int) (w : World) :
    Calls Tryz.prog 140 #[.int .i64 n] w fun e w' => e = .returned (.bool (decide (8 < n))) ∧ w = w' := by
  go_enter Tryz.func140, Tryz.ntmps140
  go_wp2_with fail
  go_ret
  exact ⟨rfl, rfl⟩
set_option maxRecDepth 1000000 in
set_option maxHeartbeats 2000000 in
theorem idxRune_lo (s : ByteArray) (r : Int) (w : World) (h0 : 0 ≤ r) (h1 : r < 128) :
    Calls Tryz.prog 139 #[.string s, .int .i32 r] w fun e w' => e = .returned (.int .i64 (Lib.indexByte s.data.toList r.toNat.toUInt8)) ∧ w = w' := by
  go_enter Tryz.func139, Tryz.ntmps139
  go_wp2_with (go_at_call 94; refine (idxByte _ _ _).mono ?_; rintro e w' ⟨rfl, rfl⟩)
  go_ret
  exact ⟨rfl, rfl⟩

set_option maxRecDepth 1000000 in
set_option maxHeartbeats 4000000 in
/-- U+FFFD isn't among ASCII bytes -/
theorem idxRune_bad (s : ByteArray) (w : World) (ha : asciiL s.data.toList) (hs : s.size ≤ 1000) :
    Calls Tryz.prog 139 #[.string s, .int .i32 65533] w fun e w' => e = .returned (.int .i64 (-1)) ∧ Below w.heap.size w w' := by
  have HA := Lib.hid ha
  clear ha
  go_enter Tryz.func139, Tryz.ntmps139
  go_wp2_with fail
  go_loopg [5, 6] s.size (fun g _ _ wx => ∃ i : Nat, i + g = s.size ∧ wx = w.iter s i)
  case atStart => exact ⟨0, by omega, rfl⟩
  case round =>
    obtain ⟨i, hig, rfl⟩ := hrel
    cases gk with
    | zero =>
      obtain rfl : i = s.size := by omega
      have hnx := run_next_end (P := Tryz.prog) w s s.size
      go_wp2_with fail
      go_ret
      exact ⟨rfl, (Below.refl _ _).alloc (Nat.le_refl _) _⟩
    | succ g =>
      have hi : i < s.size := by omega
      have hx128 : (s[i]'hi).toNat < 128 := HA.out.at _ (by rw [← get_ba s i hi]; exact List.getElem_mem _)
      have hne : (((s[i]'hi).toNat : Int) == 65533) = false := by rw [beq_eq_false_iff_ne]; omega
      have hnx := fun ty => run_next_ascii (P := Tryz.prog) w s i ty hi hx128
      go_wp2_with fail
      go_roundg g
      case measure => omega
      case rel => exact ⟨i + 1, by omega, rfl⟩

set_option maxRecDepth 1000000 in
set_option maxHeartbeats 4000000 in
/-- a rune that is none of ASCII isn't among ASCII bytes -/
theorem idxRune_hi (s : ByteArray) (r : Int) (w : World) (ha : asciiL s.data.toList) (hs : s.size ≤ 1000) (h0 : 128 ≤ r) (h1 : r ≤ 1114111) (hv : Utf8.valid r = true) (hne : r ≠ 65533) :
    Calls Tryz.prog 139 #[.string s, .int .i32 r] w fun e w' => e = .returned (.int .i64 (-1)) ∧ Below w.heap.size w w' := by
  obtain ⟨f1, f2, f3⟩ := encode_facts r hv h0
  have hb : (r == 65533) = false := by rw [beq_eq_false_iff_ne]; exact hne
  obtain ⟨rs, hrs⟩ : ∃ rs, Utf8.encode r = rs := ⟨_, rfl⟩
  rw [hrs] at f1 f2 f3
  have f4 := f3 (by omega)
  have HV := Lib.hid hv
  have HRS := Lib.hid hrs
  have hno : ∀ k, Lib.indexByte (s.extract k s.size).data.toList rs[rs.size - 1] = -1 := fun k => idx_none fun j hj => by
    have := ha.at _ (by rw [ba_extract_to] at hj; exact List.mem_of_mem_drop (List.mem_of_getElem? hj))
    omega
  have hsz : 1 ≤ rs.size := by omega
  have HNO := Lib.hid hno
  clear hv hrs hne f3 hno
  have hcv : ∀ w, (convert 21 9 (.int .i32 r)).run Tryz.prog w = .ok (.string rs) w := fun w => by
    rw [run_convert_int_string (P := Tryz.prog) w 21 9 .i32 r (by rw [Tryz.underlying21]; rfl) Tryz.underlying9, HRS.out]
  by_cases hl : rs.size - 1 < s.size
  · have hlt := ha.at s[rs.size - 1] (by rw [← get_ba s _ hl]; exact List.getElem_mem _)
    have hq : ((s[rs.size - 1].toNat : Int) != (rs[rs.size - 1].toNat : Int)) = true := by rw [bne_iff_ne]; omega
    have HA := Lib.hid ha
    clear ha
    go_enter Tryz.func139, Tryz.ntmps139
    go_wp2_with (go_at_call 164; refine (validRune_any _ _ (by omega) h1 HV.out).mono ?_; rintro e w' ⟨rfl, rfl⟩)
    go_step3
    go_wp2_with fail
    obtain ⟨n, hn⟩ : ∃ n, n + 1 = rs.size := ⟨rs.size - 1, by omega⟩
    have p1 : (n : Int) < (s.size : Int) := by omega
    have p2 : (n : Int) < (rs.size : Int) := by omega
    have p3 : n < s.size := by omega
    have p4 : n < rs.size := by omega
    have en : rs.size - 1 = n := by omega
    have hq' : ((s[n].toNat : Int) != (rs[n].toNat : Int)) = true := by simpa only [en] using hq
    have hno : ∀ k, Lib.indexByte (s.extract k s.size).data.toList rs[n] = -1 := by simpa only [en] using HNO.out
    have hno2 : ∀ k, Lib.indexByte (s.data.toList.drop k) rs[n] = -1 := fun k => by rw [← ba_extract_to]; exact hno k
    have HN := Lib.hid (And.intro hn en)
    have HO := Lib.hid (And.intro hno hno2)
    clear hq hno hno2 hl hlt hsz en f4
    rw [show ((rs.size : Int) - 1) = (n : Int) from by have := HN.out.1; omega]
    go_loopw [9] (fun i wr => i = .int .i64 n ∧ wr = w) (fun _ _ => 0)
    case atStart => exact ⟨rfl, rfl⟩
    case round =>
      obtain ⟨rfl, rfl⟩ := hrel
      clear hn
      go_wp2_with fail
      go_step3
      go_wp2_with fail
      go_quiet (fail)
      go_wp2_with fail
      generalize hW : wr.drewN nq = W1
      have HW := Lib.hid hW
      clear hW
      have hback : ((rs[n].toNat : Int)).toNat.toUInt8 = rs[n] := by simp
      have s0 : (n : Int) + 1 ≤ (s.size : Int) := by omega
      have s2 : (0 : Int) ≤ (n : Int) + 1 := by omega
      have s3 : ((n : Int) + 1).toNat = n + 1 := by omega
      have s1 : IntKind.i64.wrap ((n : Int) + 1) = (n : Int) + 1 := IntWalk.i64_in _ (by omega)
      go_quiet ((go_at_call 94; refine Calls.quiet_of_same ((idxByte _ _ _).mono fun e w' h => ⟨h.1, h.2.symm⟩)))
      rw [hback, HO.out.1]
      clear s1 s2
      go_wp2_with fail
      rw [Exit.noGoto_ret]
      simp +zetaDelta only [Exit.inBlock, Exit.then, Exit.noGoto_ret]
      go_ret
      exact ⟨rfl, (Below.refl _ _).trans (by rw [← HW.out]; exact ⟨rfl, rfl, rfl, Nat.le_refl _, fun _ _ => rfl⟩)⟩
  · have HA := Lib.hid ha
    clear ha
    go_enter Tryz.func139, Tryz.ntmps139
    go_wp2_with (go_at_call 164; refine (validRune_any _ _ (by omega) h1 HV.out).mono ?_; rintro e w' ⟨rfl, rfl⟩)
    go_step3
    go_wp2_with fail
    go_loopw [9] (fun i wr => i = .int .i64 ((rs.size : Int) - 1) ∧ wr = w) (fun _ _ => 0)
    case atStart => exact ⟨rfl, rfl⟩
    case round =>
      obtain ⟨rfl, rfl⟩ := hrel
      go_wp2_with fail
      rw [Exit.noGoto_ret]
      go_ret
      exact ⟨rfl, Below.refl _ _⟩

set_option maxRecDepth 1000000 in
set_option maxHeartbeats 4000000 in
theorem idxRune_any (s : ByteArray) (r : Nat) (w : World) (ha : asciiL s.data.toList) (hs : s.size ≤ 1000) (h0 : 128 ≤ r) (h1 : r ≤ 1114111) (hv : Utf8.valid (r : Int) = true) :
    Calls Tryz.prog 139 #[.string s, .int .i32 ↑r] w fun e w' => e = .returned (.int .i64 (-1)) ∧ Below w.heap.size w w' := by
  by_cases h : (r : Int) = 65533
  · rw [h]; exact idxRune_bad s w ha hs
  · exact idxRune_hi s r w ha hs (by omega) (by omega) hv h
theorem decode_most (s : ByteArray) (pos : Nat) (h : Utf8.valid ((Utf8.decode s pos).1 : Int) = true) : (Utf8.decode s pos).1 ≤ 1114111 := by
  rw [validRune_eq, validRune, decide_eq_true_iff] at h; omega
theorem NoAny_span {s chars : ByteArray} {i n : Nat} (h : Lib.NoAny s.data.toList chars.data.toList i) (ha : asciiL chars.data.toList) (hn : ∀ k, k < n → ∃ h : i + k < s.size, 128 ≤ (s[i + k]'h).toNat) : Lib.NoAny s.data.toList chars.data.toList (i + n) := by
  intro j b hj hb
  by_cases e : j < i
  · exact h j b e hb
  · obtain ⟨hlt, hge⟩ := hn (j - i) (by omega)
    refine ascii_no ha ?_
    have e2 : i + (j - i) = j := by omega
    have : s.data.toList[j]? = some (s[i + (j - i)]'hlt) := by
      rw [List.getElem?_eq_getElem (by rw [len_ba]; omega)]
      congr 1
      simp only [e2]
      rfl
    rw [this] at hb
    cases hb
    exact hge

set_option maxRecDepth 1000000 in
set_option maxHeartbeats 8000000 in
theorem idxAny_short (s chars : ByteArray) (w : World) (h2 : 2 ≤ chars.size) (hc8 : chars.size ≤ 1000) (h8 : s.size ≤ 8) (ha : asciiL chars.data.toList) :
    Calls Tryz.prog 110 #[.string s, .string chars] w fun e w' => e = .returned (.int .i64 (Lib.indexAny s.data.toList chars.data.toList)) ∧ Below w.heap.size w w' := by
  have HA := Lib.hid ha
  clear ha
  have hemp := str_ne (s := chars) (by omega)
  have hn1 : ((chars.size : Int) == 1) = false := beq_eq_false_iff_ne.2 (by omega)
  have h8z : decide ((8 : Int) < (s.size : Int)) = false := decide_eq_false (by omega)
  go_enter Tryz.func110, Tryz.ntmps110
  go_wp2_with (first | (go_at_call 140; refine (should_any _ _).mono ?_; rintro e w' ⟨rfl, rfl⟩; rw [h8z]))
  go_loopg [9, 10] s.size (fun g _ _ wx => ∃ i : Nat, i + g = s.size ∧ wx.heap[w.heap.size]? = some (.stringIter s i) ∧ Hid (Below w.heap.size w wx ∧ Lib.NoAny s.data.toList chars.data.toList i))
  case atStart => exact ⟨0, by omega, World.iter_heap _ _ _, (Below.refl _ _).alloc (Nat.le_refl _) _, Lib.NoAny.zero _ _⟩
  case round =>
    obtain ⟨i, hig, hk, HX⟩ := hrel
    by_cases hi : i < s.size
    · by_cases ha1 : (s[i]'hi).toNat < 128
      · have hnx := fun ty => Lib.run_next_ascii_at (P := Tryz.prog) wr w.heap.size s i ty hk hi ha1
        have hk2 := Lib.iterAt_heap wr w.heap.size s i (i + 1) hk
        have hb2 := Lib.below_iterAt HX.out.1 (Nat.le_refl _) s (i + 1)
        have hge : (0 : Int) ≤ (s[i].toNat : Int) := by omega
        have hlt : (s[i].toNat : Int) < 128 := by omega
        have hxl : s.data.toList[i]? = some s[i] := by rw [List.getElem?_eq_getElem (by rw [len_ba]; exact hi)]; rfl
        have hcon := Lib.contains_iff_indexByte chars.data.toList s[i]
        have hback : ((s[i].toNat : Int)).toNat.toUInt8 = s[i] := by simp
        have HK := Lib.hid (And.intro hk2 (And.intro hb2 hxl))
        clear hk hk2 hb2 hxl
        cases hin : chars.data.toList.contains s[i]
        · rw [hin] at hcon
          have hneg : Lib.indexByte chars.data.toList s[i] < 0 := by have := of_decide_eq_false hcon.symm; omega
          clear hcon
          have HIN := Lib.hid hin
          clear hin
          go_wp2_with (go_at_call 139; refine (idxRune_lo _ _ _ hge hlt).mono ?_; rintro e w' ⟨rfl, rfl⟩; rw [hback])
          go_roundg (s.size - (i + 1))
          case measure => omega
          case rel => exact ⟨i + 1, by omega, HK.out.1, HK.out.2.1, HX.out.2.succ HK.out.2.2 HIN.out⟩
        · rw [hin] at hcon
          have hneg : 0 ≤ Lib.indexByte chars.data.toList s[i] := of_decide_eq_true hcon.symm
          clear hcon
          have HIN := Lib.hid hin
          clear hin
          go_wp2_with (go_at_call 139; refine (idxRune_lo _ _ _ hge hlt).mono ?_; rintro e w' ⟨rfl, rfl⟩; rw [hback])
          go_ret
          exact ⟨ret_int (by rw [Lib.indexAny_hit HX.out.2 HK.out.2.2 HIN.out]), HK.out.2.1⟩
      · have ha2 : 128 ≤ (s[i]'hi).toNat := by omega
        have hspan := decode_span s i hi ha2
        obtain ⟨d1, d2⟩ := decode_high s i hi ha2
        have dv := decode_valid s i hi
        have dm := decode_most s i dv
        have hnx := fun ty => Lib.run_next_any_at (P := Tryz.prog) wr w.heap.size s i ty hk hi
        obtain ⟨⟨r, n⟩, hd⟩ : ∃ x, Utf8.decode s i = x := ⟨_, rfl⟩
        rw [hd] at hspan d1 d2 dv dm
        simp only [hd] at hnx
        simp only at hspan d1 d2 dv dm
        have hle : i + n ≤ s.size := by obtain ⟨h, _⟩ := hspan (n - 1) (by omega); omega
        have hk2 := Lib.iterAt_heap wr w.heap.size s i (i + n) hk
        have hb2 := Lib.below_iterAt HX.out.1 (Nat.le_refl _) s (i + n)
        have hna := NoAny_span HX.out.2 HA.out hspan
        have HK := Lib.hid (And.intro hk2 (And.intro hb2 hna))
        have DV := Lib.hid dv
        clear hk hk2 hb2 hna hspan dv hd ha1
        go_wp2_with (go_at_call 139; refine (idxRune_any _ _ _ HA.out hc8 d1 dm DV.out).mono ?_; rintro e w2 ⟨rfl, hw2⟩)
        go_roundg (s.size - (i + n))
        case measure => omega
        case rel =>
          refine ⟨i + n, by omega, ?_, ?_, HK.out.2.2⟩
          · rw [hw2.block _ (Array.getElem?_eq_some_iff.1 HK.out.1).1]; exact HK.out.1
          · exact HK.out.2.1.trans (hw2.mono (Nat.le_of_lt (Array.getElem?_eq_some_iff.1 HK.out.1).1))
    · obtain rfl : i = s.size := by omega
      have hnx := Lib.run_next_end_at (P := Tryz.prog) wr w.heap.size s s.size
      have hk3 := fun ty => hnx ty hk (by omega)
      clear hnx
      have HK := Lib.hid hk
      clear hk
      go_wp2_with fail
      go_ret
      exact ⟨ret_int (by rw [Lib.indexAny_none (by rw [len_ba]; exact HX.out.2)]), HX.out.1⟩
end Go.Proofs.YtpbobonddocgkaaGreatDoor
end
section
/- strings.ContainsAny of whatever bytes, among some ASCII ones: the shelf's long road beside the short one. -/
namespace Go.Proofs.YtpbobonddocgkaaGreatDoor
open Go.RowKit

theorem any_index (l c : List UInt8) : decide ((0 : Int) ≤ Lib.indexAny l c) = l.any fun x => c.contains x := by
  induction l with
  | nil => rfl
  | cons b l ih =>
    rw [List.any_cons, ← ih, Lib.indexAny]
    have hge := Lib.indexAny_ge c l
    cases h : c.contains b with
    | true => simp
    | false =>
      simp only [Bool.false_eq_true, if_false, Bool.false_or]
      by_cases h2 : Lib.indexAny l c = -1
      · rw [h2]; rfl
      · have : (Lib.indexAny l c == -1) = false := by simpa using h2
        rw [this]
        simp only [Bool.false_eq_true, if_false]
        rw [decide_eq_true (by omega), decide_eq_true (by omega)]

theorem Tryz.infoSet : (Tryz.prog.info? 209).map (fun i => (i.zero, i.size)) = some (some (.agg (Array.replicate 256 (.bool false))), 256) := by kernel_rfl

theorem idxAny_all (s chars : ByteArray) (w : World) (hs : s.size ≤ 1000000) (h2 : 2 ≤ chars.size) (hc8 : chars.size ≤ 1000) (ha : asciiL chars.data.toList) :
    Calls Tryz.prog 110 #[.string s, .string chars] w fun e w' => e = .returned (.int .i64 (Lib.indexAny s.data.toList chars.data.toList)) ∧ Below w.heap.size w w' := by
  by_cases h8 : s.size ≤ 8
  · exact idxAny_short s chars w h2 hc8 h8 ha
  · refine (Tryz.strings_IndexAny_long (zero_of_info Tryz.infoSet).1 s chars w h2 (by omega) (by omega) (by omega) fun j b hj => ha.at b (List.mem_of_getElem? hj)).mono fun e w' ⟨h1, h3⟩ => ⟨h1, ?_⟩
    rw [h3]
    exact ((Below.refl _ _).alloc (Nat.le_refl _) _).alloc (by simp) _
theorem containsAnyB (s chars : ByteArray) (w : World) (hs : s.size ≤ 1000000) (h2 : 2 ≤ chars.size) (hc8 : chars.size ≤ 1000) (ha : asciiL chars.data.toList) :
    Calls Tryz.prog 92 #[.string s, .string chars] w fun e w' => e = .returned (.bool (s.data.toList.any fun x => chars.data.toList.contains x)) ∧ Below w.heap.size w w' := by
  have hb := any_index s.data.toList chars.data.toList
  have HB := Lib.hid hb
  clear hb
  go_enter Tryz.func92, Tryz.ntmps92
  go_wp2_with fail
  refine (idxAny_all s chars _ hs h2 hc8 ha).mono ?_
  rintro e w1 ⟨rfl, q⟩
  go_wp2_with fail
  go_ret
  exact ⟨ret_bool HB.out, q⟩
end Go.Proofs.YtpbobonddocgkaaGreatDoor
end
section
/- valid.Key, Text, Clean and the answers' ones. -/
namespace Go.Proofs.YtpbobonddocgkaaGreatDoor
open Go.RowKit





/-! Text -/
def brkB (c : UInt8) : Bool := (⟨#[0, 13, 10]⟩ : ByteArray).data.toList.contains c
def textL (l : List UInt8) : Bool := !l.any brkB
theorem inB_false {l : List UInt8} {c : UInt8} : inB l c = false ↔ c ∉ l := by
  unfold inB; rw [Bool.eq_false_iff, ne_eq, List.contains_iff_mem]
theorem textL_iff {l : List UInt8} : textL l = true ↔ ∀ x ∈ l, brkB x = false := by
  unfold textL
  rw [Bool.not_eq_true', List.any_eq_false]
  simp only [Bool.not_eq_true]
theorem brkB_iff {x : UInt8} : brkB x = false ↔ x ≠ 0 ∧ x ≠ 13 ∧ x ≠ 10 := by
  unfold brkB
  rw [Bool.eq_false_iff, ne_eq, List.contains_iff_mem]
  simp
theorem text_three (l : List UInt8) : textL l = (!inB l 0 && !inB l 10 && !inB l 13) := by
  rw [Bool.eq_iff_iff, textL_iff]
  simp only [Bool.and_eq_true, Bool.not_eq_true', inB_false]
  constructor
  · intro h
    exact ⟨⟨fun h0 => (brkB_iff.1 (h 0 h0)).1 rfl, fun h0 => (brkB_iff.1 (h 10 h0)).2.2 rfl⟩, fun h0 => (brkB_iff.1 (h 13 h0)).2.1 rfl⟩
  · rintro ⟨⟨h0, h10⟩, h13⟩ x hx
    exact brkB_iff.2 ⟨fun e => h0 (e ▸ hx), fun e => h13 (e ▸ hx), fun e => h10 (e ▸ hx)⟩
theorem text_v (s : ByteArray) (w : World) (hs : s.size ≤ 1000000) :
    Calls Tryz.prog 71 #[.string s] w fun e w' => e = .returned (.bool (textL s.data.toList)) ∧ Below w.heap.size w w' := by
  obtain ⟨b, hb⟩ : ∃ b, (s.data.toList.any fun x => (⟨#[0, 13, 10]⟩ : ByteArray).data.toList.contains x) = b := ⟨_, rfl⟩
  have ht : textL s.data.toList = !b := by rw [← hb]; rfl
  have HB := Lib.hid hb
  have HT := Lib.hid ht
  clear hb ht
  go_enter Tryz.func71, Tryz.ntmps71
  go_wp2_with fail
  refine (containsAnyB s ⟨#[0, 13, 10]⟩ _ hs (by decide) (by decide) (by unfold asciiL; decide)).mono ?_
  rintro e w1 ⟨rfl, q⟩
  rw [HB.out]
  go_wp2_with fail
  go_ret
  exact ⟨ret_bool (by rw [HT.out]), q⟩


/-! Clean -/
theorem ba_take' (s : ByteArray) (k : Nat) (h : k < s.size) : s.data.toList.take (k + 1) = s.data.toList.take k ++ [s[k]] := by
  rw [List.take_succ_eq_append_getElem (by simpa using h)]; rfl
def cleanL (l : List UInt8) : List UInt8 := l.filter fun c => !brkB c
theorem clean_text {l : List UInt8} (h : textL l = true) : cleanL l = l := by
  unfold cleanL
  rw [List.filter_eq_self]
  intro c hc
  rw [textL_iff.1 h c hc]; rfl
theorem text_clean (l : List UInt8) : textL (cleanL l) = true := by
  rw [textL_iff]
  intro x hx
  unfold cleanL at hx
  have := (List.mem_filter.1 hx).2
  simpa using this
theorem text_take {l : List UInt8} (h : textL l = true) (n : Nat) : textL (l.take n) = true := by
  rw [textL_iff] at h ⊢
  exact fun x hx => h x (List.mem_of_mem_take hx)
theorem clean_snoc (l : List UInt8) (c : UInt8) : cleanL (l ++ [c]) = cleanL l ++ (if brkB c then [] else [c]) := by
  unfold cleanL
  rw [List.filter_append]
  cases h : brkB c <;> simp [h]
theorem clean_len (l : List UInt8) : (cleanL l).length ≤ l.length := List.length_filter_le _ _
theorem clean_next (s : ByteArray) (k : Nat) (h : k < s.size) : cleanL (s.data.toList.take (k + 1)) = cleanL (s.data.toList.take k) ++ (if brkB s[k] then [] else [s[k]]) := by
  rw [ba_take' s k h, clean_snoc]
/-- how many bytes are kept -/
def mostN (n : Nat) (most : Int) : Nat := (max 0 (min (n : Int) most)).toNat
def u8d (l : List UInt8) : List Value := l.map fun b => Value.int .u8 b.toNat
theorem Tryz.infoU8c : (Tryz.prog.info? 5).map (fun i => (i.zero, i.size, i.bytes)) = some (some (.int .u8 0), 1, 1) := by kernel_rfl
theorem idx_brk (c : UInt8) : (0 ≤ Lib.indexByte (⟨#[0, 13, 10]⟩ : ByteArray).data.toList c) ↔ brkB c = true := by
  unfold brkB
  rw [Lib.contains_iff_indexByte, decide_eq_true_iff]

set_option maxRecDepth 100000 in
set_option maxHeartbeats 4000000 in
theorem unbroken_any (s : ByteArray) (w : World) (hs : s.size ≤ 1000000) :
    Calls Tryz.prog 169 #[.string s] w fun e w' => e = .returned (.string (bs (cleanL s.data.toList))) ∧ Below w.heap.size w w' := by
  obtain ⟨i0, hi, hz0, hz1, hz2⟩ := info_parts Tryz.infoU8c
  go_enter Tryz.func169, Tryz.ntmps169
  go_wp2_with (at_make; refine wpList_make_own _ rfl _ _ 22 rfl w.heap.size 5 i0 (.int .u8 0) 1 Tryz.underlying22 hi hz0 hz1 .i64 .i64 (s.size : Int) s.size rfl rfl rfl (by rw [hz2]; omega) (by unfold maxLen; omega) (Nat.le_refl _) ?_; intro w1 hown hgrow)
  have hB0 : Below w.heap.size w w1 := (Below.refl _ _).grown hgrow (Nat.le_refl _) (by intro k hk; cases hk)
  have hb0 := hgrow.size
  clear hgrow
  go_loopw [3, 4, 10] (fun v _ i wr => ∃ k : Nat, i = .int .i64 k ∧ k ≤ s.size ∧ wr.ownsRow w.heap.size 5 1 v (cleanL (s.data.toList.take k)).length (u8d (cleanL (s.data.toList.take k))) ∧ Below w.heap.size w wr ∧ w.heap.size ≤ wr.heap.size) (fun _ _ i _ => s.size - (Go.RowKit.intOf i).toNat)
  case atStart => exact ⟨0, rfl, Nat.zero_le _, hown, hB0, hb0⟩
  case round =>
    clear hown hB0 hb0
    obtain ⟨k, rfl, hk, hown, hB, hb⟩ := hrel
    by_cases hlt : k < s.size
    · have hnx := clean_next s k hlt
      have hl : (cleanL (s.data.toList.take k)).length ≤ 1000000 := by
        have h1 := clean_len (s.data.toList.take k)
        have h2 : (s.data.toList.take k).length ≤ k := List.length_take_le _ _
        omega
      obtain ⟨o, ho⟩ : ∃ o, cleanL (s.data.toList.take k) = o := ⟨_, rfl⟩
      rw [ho] at hnx hown hl
      have hix := idx_brk s[k]
      have hback : ((s[k].toNat : Int)).toNat.toUInt8 = s[k] := by simp
      cases hbr : brkB s[k] with
      | true =>
        rw [hbr] at hnx hix
        have hge : 0 ≤ Lib.indexByte (⟨#[0, 13, 10]⟩ : ByteArray).data.toList s[k] := hix.2 rfl
        have HN := Lib.hid hnx
        clear hnx hix hbr ho
        go_wp2_with (go_at_call 94; refine (idxByte _ _ _).mono ?_; rintro e w' ⟨rfl, rfl⟩; rw [hback])
        go_roundw
        case rel => exact ⟨k + 1, by go_num, by omega, by rw [HN.out]; simpa using hown, hB, hb⟩
        case measure => simp [Go.RowKit.intOf]; omega
      | false =>
        rw [hbr] at hnx hix
        have hge : Lib.indexByte (⟨#[0, 13, 10]⟩ : ByteArray).data.toList s[k] < 0 := by
          have : ¬ 0 ≤ Lib.indexByte (⟨#[0, 13, 10]⟩ : ByteArray).data.toList s[k] := fun h => Bool.noConfusion (hix.1 h)
          omega
        have HN := Lib.hid hnx
        clear hnx hix hbr ho
        go_wp2_with (first | (go_at_call 94; refine (idxByte _ _ _).mono ?_; rintro e w' ⟨rfl, rfl⟩; rw [hback]) | (at_builtin; refine wpList_app_one rfl _ _ 22 rfl w.heap.size 5 i0 (.int .u8 0) 1 1 Tryz.underlying22 hi hz0 hz1 hz2 rfl (by decide) _ _ _ rfl hown #[.int .u8 s[k].toNat] rfl rfl (by intro u hu; simp at hu; subst hu; rfl) (by omega) (by decide) hB hb ?_; intro v1 w1 hown1 hB1 hb1))
        go_roundw
        case rel => exact ⟨k + 1, by go_num, by omega, by rw [HN.out]; simpa [u8d] using hown1, hB1, hb1⟩
        case measure => simp [Go.RowKit.intOf]; omega
    · obtain rfl : k = s.size := by omega
      have ht : s.data.toList.take s.size = s.data.toList := List.take_of_length_le (by simp)
      rw [ht] at hown
      have hconv := conv_owned (P := Tryz.prog) wr 22 9 5 w.heap.size _ (cleanL s.data.toList) Tryz.underlying22 Tryz.underlying5 Tryz.underlying9 hown
      go_wp2_with fail
      go_ret
      exact ⟨rfl, hB⟩

/-- what is cleaned -/
def cleanV (s : ByteArray) (most : Int) : ByteArray := bs ((cleanL s.data.toList).take most.toNat)
theorem most_of (n : Nat) (most : Int) : ∃ m : Nat, max (0 : Int) (min (n : Int) most) = m ∧ m ≤ n ∧ ∀ l : List UInt8, l.length = n → l.take m = l.take most.toNat := by
  by_cases h1 : most < 0
  · exact ⟨0, by omega, by omega, fun l _ => by rw [show most.toNat = 0 by omega]⟩
  · by_cases h2 : most ≤ n
    · exact ⟨most.toNat, by omega, by omega, fun l _ => rfl⟩
    · exact ⟨n, by omega, Nat.le_refl _, fun l hl => by rw [List.take_of_length_le (by omega), List.take_of_length_le (by omega)]⟩
set_option maxRecDepth 100000 in
set_option maxHeartbeats 4000000 in
theorem clean_v (s : ByteArray) (most : Int) (w : World) (hs : s.size ≤ 1000000) :
    Calls Tryz.prog 147 #[.string s, .int .i64 most] w fun e w' => e = .returned (.string (cleanV s most)) ∧ Below w.heap.size w w' := by
  cases ht : textL s.data.toList with
  | true =>
    obtain ⟨m, hm, hml, htk⟩ := most_of s.size most
    have hv : (s.extract 0 m) = cleanV s most := ba_ext (by
      unfold cleanV
      rw [bs_toList, clean_text ht, ← htk _ (by simp), Lib.extract_data]; simp)
    have HT := Lib.hid ht
    have HV := Lib.hid hv
    have hm0 : (m : Int) ≤ s.size := by omega
    clear ht hv htk
    go_enter Tryz.func147, Tryz.ntmps147
    go_wp2_with fail
    refine (text_v _ _ hs).mono ?_
    rintro e w1 ⟨rfl, q⟩
    rw [HT.out]
    go_wp2_with fail
    go_ret
    exact ⟨ret_str (by first | exact HV.out | (rw [← HV.out]; congr 1; omega) | (rw [← HV.out])), q⟩
  | false =>
    have hcl : (bs (cleanL s.data.toList)).size = (cleanL s.data.toList).length := by simp
    have hcs : (bs (cleanL s.data.toList)).size ≤ 1000000 := by
      rw [hcl]
      have := clean_len s.data.toList
      have h2 : s.data.toList.length = s.size := by simp
      omega
    obtain ⟨c, hc⟩ : ∃ c, bs (cleanL s.data.toList) = c := ⟨_, rfl⟩
    have hcd : c.data.toList = cleanL s.data.toList := by rw [← hc]; simp
    rw [hc] at hcs
    obtain ⟨m, hm, hml, htk⟩ := most_of c.size most
    have hv : (c.extract 0 m) = cleanV s most := ba_ext (by
      unfold cleanV
      rw [bs_toList, ← hcd, ← htk _ (by simp), Lib.extract_data]; simp)
    have HT := Lib.hid ht
    have HV := Lib.hid hv
    have HC := Lib.hid hc
    have hm0 : (m : Int) ≤ c.size := by omega
    clear ht hv htk hcl hc hcd
    go_enter Tryz.func147, Tryz.ntmps147
    go_wp2_with fail
    refine (text_v _ _ hs).mono ?_
    rintro e w1 ⟨rfl, q⟩
    rw [HT.out]
    go_wp2_with fail
    refine (unbroken_any _ _ hs).mono ?_
    rintro e w2 ⟨rfl, q2⟩
    rw [HC.out]
    go_wp2_with fail
    go_ret
    exact ⟨ret_str (by first | exact HV.out | (rw [← HV.out]; congr 1; omega) | (rw [← HV.out])), q.trans (q2.mono q.size)⟩
end Go.Proofs.YtpbobonddocgkaaGreatDoor
end
section
/- A law's arguments: slices of texts, of structs, opened; what was only read reads as it read. -/
namespace Go.Proofs.YtpbobonddocgkaaGreatDoor
open Go Go.ChangeShapes Go.WideShapes Go.RowKit Go.Deep

section
variable {H : Type} {enc : TypeId × Value → H} {P : Program} {W W' : World}

/-- is each of these types one that can be read again? -/
def readAll (P : Program) (ts : List TypeId) : Bool := ts.all fun t => P.readableRec t && decide (t < P.types.size)
theorem stays_all (hl : laidOutB P = true) (hB : Below W.heap.size W W') {sp : Nat → Bool} : ∀ (ts : List TypeId) (vs : List Value) (ds : List (DataW H)) (ps : List MemPlace), readAll P ts = true →
    DataW.TrodAll enc P W 0 (fun _ => true) true ts vs ds ps → (∀ x ∈ ps, x.block < W.heap.size) → (∀ x ∈ ps, sp x.block = true) → DataW.TrodAll enc P W' 0 sp true ts vs ds ps
  | [], vs, ds, ps, _, h, _, _ => by
    obtain ⟨rfl, rfl, rfl⟩ := trodAll_nil h
    exact trodAll_mk0
  | t :: ts, vs, ds, ps, hr, h, hlt, hs => by
    obtain ⟨v, vs1, d, ds1, p, q, rfl, rfl, rfl, h1, h2⟩ := trodAll_cons h
    unfold readAll at hr
    rw [List.all_cons, Bool.and_eq_true, Bool.and_eq_true] at hr
    obtain ⟨⟨hr1, hr2⟩, hr3⟩ := hr
    refine trodAll_cons_mk ?_ (stays_all hl hB ts vs1 ds1 q hr3 h2 (fun x hx => hlt x (by simp [hx])) (fun x hx => hs x (by simp [hx])))
    exact WideElems.Trod_stays hl hr1 (of_decide_eq_true hr2) h1 (fun x hx => hB.same (hlt x (by simp [hx]))) (fun x hx => hs x (by simp [hx]))

theorem spot_of {a : Addr} {v : Value} (h : W.cell? (a.add 0) = some v) : ∃ g o, a = ⟨g, o, none⟩ := by
  have := World.cell?_spot h
  obtain ⟨g, o, s⟩ := a
  simp [Addr.add] at this
  subst this
  exact ⟨g, o, rfl⟩
theorem add_at (g o n : Nat) : (⟨g, o, none⟩ : Addr).add n = ⟨g, o + n, none⟩ := by
  unfold Addr.add
  split
  · simp_all
  · rfl

theorem open_texts {t e : TypeId} {base : Nat} {v : Value} {d : DataW H} {p : List MemPlace} (ht : P.underlying t = some (.slice e)) (he : P.underlying e = some .string) (hc : P.cellsOf e = 1)
    (hval : Value.okWide P W .any base t v) (h : DataW.Trod enc P W 0 (fun _ => true) true t v d p) :
    ∃ (A : Option Addr) (ss : List ByteArray) (c : Nat), v = .slice A ss.length c ∧ ss.length ≤ c ∧ c ≤ maxLen ∧ (∀ s ∈ ss, s.size ≤ maxLen) ∧ (0 < ss.length → ∃ g o, A = some ⟨g, o, none⟩ ∧ ∀ i (h : i < ss.length), W.cell? ⟨g, o + i, none⟩ = some (.string ss[i])) := by
  obtain ⟨A, n, c, rfl⟩ := okWide_slice ht hval
  obtain ⟨fuel, hf⟩ := h
  rcases open_strs ht he hc hf with ⟨hcs, _⟩ | ⟨a, len, cap, m, Sx, hcs, _, hl, hm, hmm, _, hcell⟩
  · have h3 : A = none ∧ n = 0 ∧ c = 0 := by simpa [Value.cells] using hcs
    obtain ⟨rfl, rfl, rfl⟩ := h3
    exact ⟨none, [], 0, rfl, Nat.le_refl _, by unfold maxLen; omega, by simp, fun h => absurd h (by simp)⟩
  · have h3 : A = some a ∧ n = len ∧ c = cap := by simpa [Value.cells] using hcs
    obtain ⟨rfl, rfl, rfl⟩ := h3
    simp only [if_true] at hmm
    refine ⟨some a, (List.range n).map Sx, c, by simp, by simpa using hl, hm, ?_, ?_⟩
    · intro s hs
      simp only [List.mem_map, List.mem_range] at hs
      obtain ⟨i, hi, rfl⟩ := hs
      exact (hcell i (by omega)).2
    · intro hpos
      simp only [List.length_map, List.length_range] at hpos
      obtain ⟨g, o, rfl⟩ := spot_of (hcell 0 (by omega)).1
      refine ⟨g, o, rfl, fun i hi => ?_⟩
      simp only [List.length_map, List.length_range] at hi
      have := (hcell i (by omega)).1
      rw [add_at] at this
      simpa using this

/-- structs of three fields: a boolean, a byte, a text -/
theorem open_bus {t e tb tu ts : TypeId} {fs : Array Field} {base : Nat} {v : Value} {d : DataW H} {p : List MemPlace} (ht : P.underlying t = some (.slice e)) (he : P.underlying e = some (.struct fs)) (hc : P.cellsOf e = 3)
    (hfs : fs.toList.map (fun f => (f.type, f.offset)) = [(tb, 0), (tu, 1), (ts, 2)]) (ub : P.underlying tb = some .bool) (uu : P.underlying tu = some (.int .u8)) (us : P.underlying ts = some .string) (kb : P.cellsOf tb = 1) (ku : P.cellsOf tu = 1) (ks : P.cellsOf ts = 1)
    (hval : Value.okWide P W .any base t v) (h : DataW.Trod enc P W 0 (fun _ => true) true t v d p) :
    ∃ (A : Option Addr) (l : List (Bool × UInt8 × ByteArray)) (c : Nat), v = .slice A l.length c ∧ l.length ≤ c ∧ c ≤ maxLen ∧ (∀ x ∈ l, x.2.2.size ≤ maxLen) ∧
      (0 < l.length → ∃ g o, A = some ⟨g, o, none⟩ ∧ ∀ i (h : i < l.length), W.cell? ⟨g, o + i * 3, none⟩ = some (.bool l[i].1) ∧ W.cell? ⟨g, o + i * 3 + 1, none⟩ = some (.int .u8 l[i].2.1.toNat) ∧ W.cell? ⟨g, o + i * 3 + 2, none⟩ = some (.string l[i].2.2)) := by
  obtain ⟨A, n, c, rfl⟩ := okWide_slice ht hval
  obtain ⟨fuel, hf⟩ := h
  rcases open_slice ht hf with ⟨hcs, _⟩ | ⟨a, len, cap, m, k, D, Pl, hcs, _, hl, hm, hmm, _, hel⟩
  · have h3 : A = none ∧ n = 0 ∧ c = 0 := by simpa [Value.cells] using hcs
    obtain ⟨rfl, rfl, rfl⟩ := h3
    exact ⟨none, [], 0, rfl, Nat.le_refl _, by unfold maxLen; omega, by simp, fun h => absurd h (by simp)⟩
  · have h3 : A = some a ∧ n = len ∧ c = cap := by simpa [Value.cells] using hcs
    obtain ⟨rfl, rfl, rfl⟩ := h3
    simp only [if_true] at hmm
    have each : ∀ i, i < n → ∃ x : Bool × UInt8 × ByteArray, x.2.2.size ≤ maxLen ∧ W.cell? ((a.add (i * 3)).add 0) = some (.bool x.1) ∧ W.cell? ((a.add (i * 3)).add 1) = some (.int .u8 x.2.1.toNat) ∧ W.cell? ((a.add (i * 3)).add 2) = some (.string x.2.2) := by
      intro i hi
      obtain ⟨cs', h1, h2⟩ := hel i (by omega)
      rw [hc] at h1
      obtain ⟨_, hlen, hat⟩ := World.cells?_some h1
      obtain ⟨xs, k', _, _, _, hxl, hx⟩ := DataW.trod_struct he h2
      obtain ⟨fl⟩ := fs
      rcases fl with _ | ⟨f0, _ | ⟨f1, _ | ⟨f2, _ | ⟨f3, fl⟩⟩⟩⟩
      all_goals simp only [List.map_nil, List.map_cons, List.cons.injEq, Prod.mk.injEq, reduceCtorEq, and_false, and_true, false_and] at hfs
      obtain ⟨⟨t0, z0⟩, ⟨t1, z1⟩, t2, z2⟩ := hfs
      match cs', hlen with
      | [v0, v1, v2], _ =>
        match xs, hxl with
        | [y0, y1, y2], _ =>
          have g0 := hx 0 f0 rfl
          have g1 := hx 1 f1 rfl
          have g2 := hx 2 f2 rfl
          rw [t0, z0, kb] at g0
          rw [t1, z1, ku] at g1
          rw [t2, z2, ks] at g2
          obtain ⟨b, e0, _⟩ := DataW.trod_bool ub g0
          obtain ⟨u, e1, _, hw⟩ := DataW.trod_int uu g1
          obtain ⟨s, e2, _, hs⟩ := DataW.trod_string us g2
          simp only [List.drop_zero, List.drop_succ_cons, List.take_succ_cons, List.take_zero, List.cons.injEq, and_true] at e0 e1 e2
          subst e0; subst e1; subst e2
          simp only [Lit.wf, IntKind.has, Bool.and_eq_true, decide_eq_true_eq] at hw
          have hu0 : 0 ≤ u ∧ u ≤ 255 := ⟨hw.1, hw.2⟩
          have hu : ((UInt8.ofNat u.toNat).toNat : Int) = u := by
            rw [UInt8.toNat_ofNat']
            have : u.toNat < 256 := by omega
            rw [Nat.mod_eq_of_lt (by simpa using this)]
            omega
          refine ⟨(b, UInt8.ofNat u.toNat, s), hs, (hat 0 (by omega)).trans rfl, (hat 1 (by omega)).trans ?_, (hat 2 (by omega)).trans rfl⟩
          show some (Value.int .u8 u) = some (.int .u8 ((UInt8.ofNat u.toNat).toNat : Int))
          rw [hu]
    obtain ⟨F, hF⟩ := choose_lt each
    refine ⟨some a, (List.range n).map F, c, by simp, by simpa using hl, hm, ?_, ?_⟩
    · intro x hx
      simp only [List.mem_map, List.mem_range] at hx
      obtain ⟨i, hi, rfl⟩ := hx
      exact (hF i hi).1
    · intro hpos
      simp only [List.length_map, List.length_range] at hpos
      have h00 := (hF 0 hpos).2.1
      have h000 : W.cell? (a.add 0) = some (.bool (F 0).1) := by simpa [Addr.add] using h00
      obtain ⟨g, o, rfl⟩ := spot_of h000
      refine ⟨g, o, rfl, fun i hi => ?_⟩
      simp only [List.length_map, List.length_range] at hi
      obtain ⟨_, q0, q1, q2⟩ := hF i hi
      rw [add_at, add_at] at q0 q1 q2
      simpa using ⟨q0, q1, q2⟩
end
end Go.Proofs.YtpbobonddocgkaaGreatDoor
end
section
/- Layer 8: rows of bytes of the call's own; slices.Delete; a queue as it lies; New, Len, Over, Sent. -/
namespace Go.Proofs.YtpbobonddocgkaaGreatDoor
open Go Go.RowKit Go.Lib Go.Sort Go.Shelf

/-- a byte in a cell -/
def encB (b : UInt8) : Value := .int .u8 b.toNat
/-- slice v holds these bytes, in a row of its own -/
def OwnB (base : Nat) (W : World) (v : Value) (xs : List UInt8) : Prop := W.ownsRow base 5 1 v xs.length (xs.map encB)
theorem Tryz.infoB : (Tryz.prog.info? 5).map (fun i => (i.zero, i.size, i.bytes)) = some (some (.int .u8 0), 1, 1) := by kernel_rfl
theorem ownB_kept {base : Nat} {w W : World} {v : Value} {xs : List UInt8} (h : OwnB base w v xs) (hs : ∀ g, v.ownBlock = some g → W.heap[g]? = w.heap[g]?) : OwnB base W v xs := row_same h hs
theorem ownB_nil (base : Nat) (w : World) : OwnB base w (.slice none 0 0) [] := World.ownsRow_nil _ _ _ _
theorem ownB_base {W : World} {base base' : Nat} {v : Value} {xs : List UInt8} (h : OwnB base W v xs) (hb : base' ≤ base) : OwnB base' W v xs := by
  obtain ⟨h1, h2⟩ := h
  refine ⟨h1, ?_⟩
  rcases h2 with h2 | ⟨g, cap, cur, h3, h4, h5⟩
  · exact .inl h2
  · exact .inr ⟨g, cap, cur, h3, by omega, h5⟩
theorem ownB_app {base : Nat} {w : World} {v : Value} {xs ys : List UInt8} (h : w.ownsRow base 5 1 v (xs.length + ys.length) (xs.map encB ++ ys.map encB)) : OwnB base w v (xs ++ ys) := by
  unfold OwnB; rw [List.length_append, List.map_append]; exact h
theorem ownB_cell {base : Nat} {W : World} {g n c : Nat} {xs : List UInt8} (h : OwnB base W (.slice (some ⟨g, 0, none⟩) n c) xs) {j : Nat} (hj : j < xs.length) : W.cell? ⟨g, j, none⟩ = some (encB xs[j]) := by
  have := h.cells (g := g) rfl j (encB xs[j]) (by simp [hj])
  rwa [add_at, Nat.zero_add] at this
/-- its text -/
theorem conv_ownB {W : World} {base : Nat} {v : Value} {xs : List UInt8} (h : OwnB base W v xs) : (convert 22 9 v).run Tryz.prog W = .ok (.string (bs xs)) W := by
  have h' := h
  rcases h.2 with ⟨rfl, h0⟩ | ⟨g, cap, cur, rfl, _⟩
  · obtain rfl : xs = [] := List.length_eq_zero_iff.1 h0
    exact run_convert_bytes_nil W 22 5 Tryz.underlying22 Tryz.underlying5 0 0 9 Tryz.underlying9
  · exact run_convert_bytes_back W 22 9 5 ⟨g, 0, none⟩ cap xs Tryz.underlying22 Tryz.underlying5 Tryz.underlying9 fun j hj => h'.cells (g := g) rfl j _ (by simp [hj, encB])
theorem holdsB {w : World} {g : Nat} {cur : Array Value} {e : TypeId} {ss : List UInt8} (hb : w.heap[g]? = some (.cells cur e (0, 0))) (ht : cur.toList.take ss.length = ss.map encB) : Holds encB w g 0 ss.toArray := by
  intro j hj
  have hj' : j < ss.length := by simpa using hj
  refine ⟨?_, frozen_of_row w g _ cur e hb⟩
  have h1 : (cur.toList.take ss.length)[j]? = (ss.map encB)[j]? := by rw [ht]
  rw [List.getElem?_take_of_lt hj', Array.getElem?_toList] at h1
  rw [Nat.zero_add, cell_of_row w g j cur e _ hb, h1]
  simp [hj']
theorem heap_rowB {w : World} {g n : Nat} {cur : Array Value} {e : TypeId} (d : Array UInt8) (hb : w.heap[g]? = some (.cells cur e (0, 0))) :
    (putRow encB (Sort.ahead w n) g 0 d).heap[g]? = some (.cells (putCells encB 0 d cur) e (0, 0)) := by
  have hg : g < w.heap.size := (Array.getElem?_eq_some_iff.1 hb).1
  simp [putRow, mapBlock, Sort.ahead, Array.getElem?_modify, hb, onCells]
theorem grown_rowB {w : World} {g n : Nat} (d : Array UInt8) : w.grownBy (putRow encB (Sort.ahead w n) g 0 d) (some g) := by
  refine ⟨rfl, rfl, rfl, by simp [putRow, mapBlock, Sort.ahead], fun k hk hne => ?_⟩
  have : g ≠ k := fun e => hne (by rw [e])
  simp [putRow, mapBlock, Sort.ahead, Array.getElem?_modify, this]
theorem take_rowB (cur : Array Value) (ts : List UInt8) (k : Nat) (hk : k ≤ ts.length) (h : ts.length ≤ cur.size) : (putCells encB 0 ts.toArray cur).toList.take k = (ts.take k).map encB := by
  apply List.ext_getElem?
  intro j
  by_cases hj : j < k
  · rw [List.getElem?_take_of_lt hj, Array.getElem?_toList, List.getElem?_map, List.getElem?_take_of_lt hj]
    have hjc : j < cur.size := by omega
    simp [putCells, hjc, show j < ts.length by omega]
  · rw [List.getElem?_take_eq_none (by omega), List.getElem?_eq_none (by simp; omega)]
/-- the block of a slice -/
def vBq (v : Value) : Nat → Prop := fun k => v.ownBlock = some k
theorem deleteB {base : Nat} {w : World} {v : Value} {xs : List UInt8} (h : OwnB base w v xs) (hl : xs.length ≤ 1000000) (i : Nat) (hi : i ≤ xs.length) (h0 : 0 < xs.length) :
    Calls Tryz.prog 70 #[v, .int .i64 0, .int .i64 i] w fun e w' => (∃ v', e = .returned v' ∧ OwnB base w' v' (xs.drop i) ∧ v'.ownBlock = v.ownBlock) ∧ Fr (vBq v) w w' := by
  rcases h.2 with ⟨rfl, h1⟩ | ⟨g, cap, cur, rfl, hb, hg, hn, hm, hcs, ht⟩
  · omega
  · rw [Nat.mul_one] at ht hcs
    obtain ⟨i0, hi0, hz0, hz1, hz2⟩ := info_parts Tryz.infoB
    have hq := AnyE.slices_Delete Tryz.delB encB (fun _ => rfl) 0 (fun w => by kernel_rfl) i0 hi0 hz1 g 0 cap 0 i xs.toArray w (holdsB hg ht) (by simpa using hn) (by unfold maxLen at hm; omega) (by omega) (by simpa using hi)
    rw [List.size_toArray] at hq
    refine hq.mono ?_
    rintro e w' ⟨rfl, q, rfl⟩
    have hlen : (xs.drop i ++ List.replicate i 0).length = xs.length := by simp; omega
    have he : (xs.toArray.toList.take 0 ++ xs.toArray.toList.drop i ++ List.replicate (i - 0) (0 : UInt8)).toArray = (xs.drop i ++ List.replicate i 0).toArray := by simp
    rw [he]
    refine ⟨⟨_, rfl, ⟨by simp, .inr ⟨g, cap, _, ?_, hb, heap_rowB _ hg, by simp; omega, hm, by simp [putCells, hcs], ?_⟩⟩, rfl⟩, ((Fr.refl _ w).grown (grown_rowB _) fun k hk => .inr (by cases hk; rfl))⟩
    · simp
    · rw [Nat.mul_one, take_rowB _ _ _ (by simp) (by omega), List.take_left]
/-- what a queue keeps -/
structure QS where
  most : Int
  ws : List UInt8
  sent : Int
  parted : Bool
  over : Bool
/-- a queue as it lies -/
def QAt (base : Nat) (W : World) (q : Nat) (ob : Option Nat) (s : QS) : Prop :=
  ∃ v, W.heap[q]? = some (.cells #[.int .i64 s.most, v, .int .i64 s.sent, .bool s.parted, .bool s.over] 116 (0, 0)) ∧ v.ownBlock = ob ∧ OwnB base W v s.ws ∧ ob ≠ some q
theorem q_fr {base : Nat} {X : Nat → Prop} {W W' : World} {q : Nat} {ob : Option Nat} {s : QS} (h : QAt base W q ob s) (hf : Fr X W W') (hq : ¬ X q) (ho : ∀ k, ob = some k → ¬ X k) : QAt base W' q ob s := by
  obtain ⟨v, h1, rfl, h3, h4⟩ := h
  exact ⟨v, hf.blk h1 hq, rfl, ownB_kept h3 fun g hg => hf.block g (h3.lt g hg).2 (ho g hg), h4⟩
theorem q_below {base : Nat} {W W' : World} {q : Nat} {ob : Option Nat} {s : QS} (h : QAt base W q ob s) (hb : RowKit.Below W.heap.size W W') : QAt base W' q ob s :=
  q_fr h (Fr.of_below (X := fun _ => False) hb) (fun e => e) fun _ _ e => e
theorem q_base {base base' : Nat} {W : World} {q : Nat} {ob : Option Nat} {s : QS} (h : QAt base W q ob s) (hb : base' ≤ base) : QAt base' W q ob s := by
  obtain ⟨v, h1, h2, h3, h4⟩ := h
  exact ⟨v, h1, h2, ownB_base h3 hb, h4⟩
theorem q_lt {base : Nat} {W : World} {q : Nat} {ob : Option Nat} {s : QS} (h : QAt base W q ob s) : q < W.heap.size := by
  obtain ⟨v, h1, _⟩ := h
  exact blk_lt h1
theorem q_blocks {base : Nat} {W : World} {q : Nat} {ob : Option Nat} {s : QS} (h : QAt base W q ob s) : ∀ k, ob = some k → base ≤ k ∧ k < W.heap.size := by
  obtain ⟨v, _, rfl, h3, _⟩ := h
  exact fun k hk => h3.lt k hk

/-- results in their slots -/
def NewQ (most : Int) (w : World) (e : Ending) (w' : World) : Prop := e = .returned (.tuple #[.pointer (some ⟨w.heap.size, 0, none⟩), .int .i64 0]) ∧ QAt w.heap.size w' w.heap.size none ⟨most, [], 0, false, false⟩ ∧ RowKit.Below w.heap.size w w'
theorem q_new (most : Int) (h1 : 512 ≤ most) (h2 : most ≤ 65536) (w : World) : Calls Tryz.prog 25 #[.int .i64 most] w (NewQ most w) := by
  have p1 : ¬ (most < 512) := by omega
  have p2 : ¬ (65536 < most) := by omega
  go_enter Tryz.func25, Tryz.ntmps25
  go_wp2
  go_ret2
  exact ⟨rfl, ⟨_, heap_alloc_new w _, rfl, ownB_nil _ _, by simp⟩, (Below.refl _ w).alloc (Nat.le_refl _) _⟩
theorem q_new_no (most : Int) (h : most < 512 ∨ 65536 < most) (w : World) : Calls Tryz.prog 25 #[.int .i64 most] w fun e w' => e = .returned (.tuple #[.pointer none, .int .i64 2]) ∧ w' = w := by
  by_cases p1 : most < 512
  · go_enter Tryz.func25, Tryz.ntmps25
    go_wp2
    go_ret2
    exact ⟨rfl, rfl⟩
  · have p2 : 65536 < most := by omega
    clear h
    go_enter Tryz.func25, Tryz.ntmps25
    go_wp2
    go_ret2
    exact ⟨rfl, rfl⟩
theorem q_len {base : Nat} {W : World} {q : Nat} {ob : Option Nat} {s : QS} (h : QAt base W q ob s) : Calls Tryz.prog 69 #[.pointer (some ⟨q, 0, none⟩)] W fun e w' => e = .returned (.int .i64 s.ws.length) ∧ w' = W := by
  obtain ⟨v, h1, rfl, h3, h4⟩ := h
  obtain ⟨A, c, rfl⟩ := row_slice h3
  have c1 := blk_cell h1 1
  clear h1 h3 h4
  go_enter Tryz.func69, Tryz.ntmps69
  go_wp2
  go_ret
  exact ⟨rfl, rfl⟩
theorem q_len_nil (W : World) : Calls Tryz.prog 69 #[.pointer none] W fun e w' => e = .returned (.int .i64 0) ∧ w' = W := by
  go_enter Tryz.func69, Tryz.ntmps69
  go_wp2
  go_ret
  exact ⟨rfl, rfl⟩


theorem q_over {base : Nat} {W : World} {q : Nat} {ob : Option Nat} {s : QS} (h : QAt base W q ob s) : Calls Tryz.prog 44 #[.pointer (some ⟨q, 0, none⟩)] W fun e w' => e = .returned (.bool s.over) ∧ w' = W := by
  obtain ⟨v, h1, rfl, h3, h4⟩ := h
  have c1 := blk_cell h1 4
  clear h1 h3 h4
  go_enter Tryz.func44, Tryz.ntmps44
  go_wp2
  go_ret
  exact ⟨rfl, rfl⟩
theorem q_over_nil (W : World) : Calls Tryz.prog 44 #[.pointer none] W fun e w' => e = .returned (.bool false) ∧ w' = W := by
  go_enter Tryz.func44, Tryz.ntmps44
  go_wp2
  go_ret
  exact ⟨rfl, rfl⟩
theorem q_push_nil (l : ByteArray) (W : World) : Calls Tryz.prog 45 #[.pointer none, .string l] W fun e w' => e = .returned (.bool false) ∧ w' = W := by
  go_enter Tryz.func45, Tryz.ntmps45
  go_wp2
  go_ret
  exact ⟨rfl, rfl⟩
theorem q_drain_nil (n : Int) (W : World) : Calls Tryz.prog 43 #[.pointer none, .int .i64 n] W fun e w' => e = .returned (.slice none 0 0) ∧ w' = W := by
  go_enter Tryz.func43, Tryz.ntmps43
  go_wp2_with fail
  refine (q_len_nil W).mono ?_
  rintro e w' ⟨rfl, rfl⟩
  go_wp2
  go_ret
  exact ⟨rfl, rfl⟩
end Go.Proofs.YtpbobonddocgkaaGreatDoor
end
