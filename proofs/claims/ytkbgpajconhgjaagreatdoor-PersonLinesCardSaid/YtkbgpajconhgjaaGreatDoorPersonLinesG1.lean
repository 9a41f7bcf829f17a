/- Texts of this proof, one behind the other. -/
import Derived.WalkKit
import Derived.Lib.Hide
import Derived.Lib.Replace
import Derived.Lib.CountLaws
import Derived.Lib.IndexBytes
import Derived.Lib.IndexLaws
import Derived.WalkSpells
import Derived.WalkLawsBesides
import Derived.Test.YtkbgpajconhgjaaGreatDoorProg
import Derived.Deep.QuietTactic
import Derived.BigQuiet
import Derived.Outline
import Derived.Lib.Strings
import Derived.Lib.Bytealg
import Derived.Lib.Walk
import Derived.OwnWalk
import Derived.Below
import Derived.Laws.AppendOwn
import Derived.Laws.OwnMore
import Derived.Laws.BytesArg
import Derived.RangeFuncNested
import Derived.RangeFuncBound
import Derived.RangeFuncCalls
import Derived.RangeFuncLeaves
import Derived.RangeFuncBox
import Derived.Shelf.Abstract
import Derived.Shelf.RegionOpen
import Derived.OwnWalkIn
import Derived.TacticsInMore
import Derived.LoopNIn
import Derived.LoopIn
import Derived.Maps.AppendAt
import Derived.Scope
import Derived.Deep.AppendSrc
import Derived.Sort.CutIn
import Derived.Stop.RegionWithIn
set_option linter.unusedVariables false
set_option linter.unusedSimpArgs false
section
/- Small words that the walks of this family lean on: equal results, equal bytes. -/
namespace Go.Proofs.YtkbgpajconhgjaaGreatDoor
open Go.RowKit

theorem ret_int {k : IntKind} {a b : Int} (h : a = b) : Ending.returned (.int k a) = .returned (.int k b) := by rw [h]
theorem ret_bool {a b : Bool} (h : a = b) : Ending.returned (.bool a) = .returned (.bool b) := by rw [h]
theorem ret_str {a b : ByteArray} (h : a = b) : Ending.returned (.string a) = .returned (.string b) := by rw [h]
theorem ret_strl {a b : ByteArray} (h : a.data.toList = b.data.toList) : Ending.returned (.string a) = .returned (.string b) := by
  have : a = b := by
    cases a; cases b; simp only [ByteArray.mk.injEq]; exact Array.toList_inj.mp h
  rw [this]

/-- the bytes of a list, as a text -/
def bs (l : List UInt8) : ByteArray := ⟨l.toArray⟩
@[simp] theorem bs_toList (l : List UInt8) : (bs l).data.toList = l := rfl
@[simp] theorem bs_size (l : List UInt8) : (bs l).size = l.length := by simp [bs, ByteArray.size]
theorem bs_of (s : ByteArray) : bs s.data.toList = s := rfl
theorem ba_ext {a b : ByteArray} (h : a.data.toList = b.data.toList) : a = b := by
  cases a; cases b; simp only [ByteArray.mk.injEq]; exact Array.toList_inj.mp h
theorem u8_bd (b : UInt8) : 0 ≤ (b.toNat : Int) ∧ (b.toNat : Int) ≤ 255 := by
  have := b.toNat_lt; omega
theorem snoc_ind {α : Type} {motive : List α → Prop} (nil : motive []) (snoc : ∀ l x, motive l → motive (l ++ [x])) : ∀ l, motive l := by
  intro l
  have h : ∀ k : List α, motive k.reverse := by
    intro k
    induction k with
    | nil => exact nil
    | cons a r ih => rw [List.reverse_cons]; exact snoc _ _ ih
  have := h l.reverse
  rwa [List.reverse_reverse] at this
theorem str_ne {s : ByteArray} (h : 0 < s.size) : s.toList.isEmpty = false := by
  rw [ByteArray.toList_eq, List.isEmpty_eq_false_iff]
  intro e
  have h1 : s.data.toList.length = 0 := by rw [e]; rfl
  have h2 : s.data.toList.length = s.size := rfl
  omega
theorem str_em {s : ByteArray} (h : s.size = 0) : s.toList.isEmpty = true := by
  rw [ByteArray.toList_eq, List.isEmpty_iff, List.eq_nil_iff_length_eq_zero]
  simpa using h
theorem str_nil {s : ByteArray} (h : s.size = 0) : s.data.toList = [] := by
  rw [List.eq_nil_iff_length_eq_zero]; simpa using h
theorem beq_bs (l m : List UInt8) : ((bs l).toList == (bs m).toList) = (l == m) := by
  rw [ByteArray.toList_eq, ByteArray.toList_eq]; rfl
theorem beq_ba (a b : ByteArray) : (a.toList == b.toList) = (a.data.toList == b.data.toList) := by
  rw [ByteArray.toList_eq, ByteArray.toList_eq]
end Go.Proofs.YtkbgpajconhgjaaGreatDoor
end
section
/- Layer 14: mathematics: a line of a command and parameters. -/
namespace Go.Proofs.YtkbgpajconhgjaaGreatDoor
open Go Go.RowKit Go.Lib

/-- a byte that no line has -/
def brk14 (b : UInt8) : Bool := b == 0 || b == 10 || b == 13
/-- a - for each blank -/
def dashL (l : List UInt8) : List UInt8 := l.map fun b => if b = 32 then 45 else b
theorem dash_none {l : List UInt8} (h : ∀ b ∈ l, b ≠ 32) : dashL l = l := by
  unfold dashL
  conv => rhs; rw [← List.map_id l]
  refine List.map_congr_left fun b hb => ?_
  rw [if_neg (h b hb)]; rfl
theorem ix_split (s : List UInt8) : (Lib.index s [32] = -1 ∧ ∀ b ∈ s, b ≠ 32) ∨ ∃ i : Nat, Lib.index s [32] = i ∧ i < s.length ∧ s = s.take i ++ 32 :: s.drop (i + 1) ∧ ∀ b ∈ s.take i, b ≠ 32 := by
  rw [Lib.index_one]
  by_cases h : Lib.indexByte s 32 = -1
  · refine .inl ⟨h, fun b hb e => ?_⟩
    obtain ⟨k, hk⟩ := List.getElem?_of_mem hb
    rw [e] at hk
    exact Lib.indexByte_none h k hk
  · have hge := Lib.indexByte_ge s 32
    obtain ⟨i, hi⟩ : ∃ i : Nat, Lib.indexByte s 32 = i := ⟨(Lib.indexByte s 32).toNat, by omega⟩
    obtain ⟨h1, h2⟩ := Lib.indexByte_some hi
    have hl : i < s.length := (List.getElem?_eq_some_iff.1 h1).1
    have h4 : s[i] = 32 := (List.getElem?_eq_some_iff.1 h1).2
    refine .inr ⟨i, hi, hl, ?_, fun b hb e => ?_⟩
    · rw [← h4, ← List.drop_eq_getElem_cons hl, List.take_append_drop]
    · obtain ⟨k, hk⟩ := List.getElem?_of_mem hb
      rw [List.getElem?_take] at hk
      split at hk
      · rw [e] at hk; exact h2 k ‹_› hk
      · cases hk
theorem replaceK_dash : ∀ (k : Nat) (s : List UInt8), Lib.count s [32] ≤ k → Lib.replaceK [32] [45] k s = dashL s
  | 0, s, h => by
    rcases ix_split s with ⟨h1, h2⟩ | ⟨i, h1, _⟩
    · rw [dash_none h2]; rfl
    · have := Lib.count_hit (by decide) h1; omega
  | k + 1, s, h => by
    rcases ix_split s with ⟨h1, h2⟩ | ⟨i, h1, hl, h2, h3⟩
    · rw [dash_none h2]
      show (if Lib.index s [32] == -1 then s else _) = s
      rw [h1]; rfl
    · have hc := Lib.count_hit (by decide) h1
      rw [Lib.replaceK_hit _ _ _ _ _ h1, replaceK_dash k _ (by simp only [List.length_cons, List.length_nil] at hc ⊢; omega)]
      conv => rhs; rw [h2]
      unfold dashL
      rw [List.map_append, List.map_cons]
      have := dash_none h3
      unfold dashL at this
      rw [this]
      simp
theorem replace_dash (s : List UInt8) : Lib.replaceAll s [32] [45] = dashL s := by
  unfold Lib.replaceAll Lib.replace
  rw [if_neg (by decide)]
  refine replaceK_dash _ _ ?_
  unfold Lib.replaceNum
  rw [if_pos (.inl (by decide))]
  exact Nat.le_refl _
/-- a parameter that isn't the last one, out of a cleaned text -/
def midU : List UInt8 → List UInt8
  | [] => [42]
  | b :: r => if b = 58 then 45 :: r else b :: r
def midL (l : List UInt8) : List UInt8 := midU (dashL l)
/-- a parameter that can only be read with a colon ahead -/
def needC (l : List UInt8) : Bool := decide (l = []) || decide (l.head? = some 58) || decide (32 ∈ l)
/-- what is written of the parameters -/
def tailL : List (List UInt8) → List UInt8
  | [] => []
  | [p] => 32 :: ((if needC p then [58] else []) ++ p)
  | p :: q :: r => 32 :: (p ++ tailL (q :: r))
def headL (prefix_ : List UInt8) : List UInt8 := if prefix_ = [] then [] else 58 :: (prefix_ ++ [32])
def writeL (prefix_ name : List UInt8) (ps : List (List UInt8)) : List UInt8 := headL prefix_ ++ name ++ tailL ps
/-- the parameters of a line, out of cleaned ones -/
def parsL : List (List UInt8) → List (List UInt8)
  | [] => []
  | [p] => [p]
  | p :: q :: r => midL p :: parsL (q :: r)
end Go.Proofs.YtkbgpajconhgjaaGreatDoor
end
section
/- fold.Byte, fold.turns, cmp.Compare of bytes and numbers: what each answers, for every argument. -/
namespace Go.Proofs.YtkbgpajconhgjaaGreatDoor
open Go.RowKit

/-- a byte, folded, as a number -/
def foldI (b : Int) : Int := if 65 ≤ b ∧ b ≤ 93 then b + 32 else if b = 126 then 94 else b
theorem foldI_up {b : Int} (h : 65 ≤ b) (h' : b ≤ 93) : foldI b = b + 32 := by rw [foldI, if_pos ⟨h, h'⟩]
theorem foldI_lo {b : Int} (h : b < 65) : foldI b = b := by rw [foldI, if_neg (by omega), if_neg (by omega)]
theorem foldI_hi {b : Int} (h : 93 < b) (h' : (b == 126) = false) : foldI b = b := by
  have := of_decide_eq_false h'
  rw [foldI, if_neg (by omega), if_neg (by omega)]
theorem foldI_bd (b : Int) (h0 : 0 ≤ b) (h1 : b ≤ 255) : 0 ≤ foldI b ∧ foldI b ≤ 255 := by
  unfold foldI; split
  · omega
  · split <;> omega





/-- what compares two numbers -/
def cmpI (a b : Int) : Int := if a < b then -1 else if b < a then 1 else 0
theorem cmpI_lt {a b : Int} (h : a < b) : cmpI a b = -1 := by rw [cmpI, if_pos h]
theorem cmpI_gt {a b : Int} (h : b < a) : cmpI a b = 1 := by rw [cmpI, if_neg (by omega), if_pos h]
theorem cmpI_eq {a b : Int} (h : a = b) : cmpI a b = 0 := by rw [cmpI, if_neg (by omega), if_neg (by omega)]
theorem cmpI_bd (a b : Int) : -1 ≤ cmpI a b ∧ cmpI a b ≤ 1 := by
  unfold cmpI; split
  · omega
  · split <;> omega




def foldB (b : UInt8) : UInt8 := if 65 ≤ b ∧ b ≤ 93 then b + 32 else if b = 126 then 94 else b
theorem foldB_nat (b : UInt8) : foldI (b.toNat : Int) = ((foldB b).toNat : Int) := by
  have hb := b.toNat_lt
  unfold foldB foldI
  by_cases h : 65 ≤ b ∧ b ≤ 93
  · rw [if_pos h]
    simp only [UInt8.le_iff_toNat_le] at h
    have e1 : (65 : UInt8).toNat = 65 := rfl
    have e2 : (93 : UInt8).toNat = 93 := rfl
    rw [e1, e2] at h
    rw [if_pos (by omega), UInt8.toNat_add]
    have e3 : (32 : UInt8).toNat = 32 := rfl
    omega
  · rw [if_neg h]
    simp only [UInt8.le_iff_toNat_le] at h
    have e1 : (65 : UInt8).toNat = 65 := rfl
    have e2 : (93 : UInt8).toNat = 93 := rfl
    rw [e1, e2] at h
    rw [if_neg (by omega)]
    by_cases h2 : b = 126
    · subst h2; rfl
    · rw [if_neg h2, if_neg]
      intro e
      apply h2
      apply UInt8.toNat_inj.mp
      have : (126 : UInt8).toNat = 126 := rfl
      omega

end Go.Proofs.YtkbgpajconhgjaaGreatDoor
end
section
/- valid.kindOf: what a byte is, where the rows of bytes lie as they are laid. -/
namespace Go.Proofs.YtkbgpajconhgjaaGreatDoor
open Go.RowKit

set_option maxRecDepth 100000 in
theorem idxByte0 (s : ByteArray) (c : Int) (w : World) :
    Calls Tryz.prog 103 #[.string s, .int .u8 c] w fun e w' => e = .returned (.int .i64 (Lib.indexByte s.data.toList c.toNat.toUInt8)) ∧ w = w' := by
  go_enter Tryz.func103, Tryz.ntmps103
  go_wp2
  rw [run_callFunc_extern Tryz.func115 (by kernel_rfl) (by kernel_rfl) (by kernel_rfl) (e := Extern.BytealgIndexByte.indexByte) (by kernel_rfl), Lib.run_indexByteString]
  simp only [Result.andThen]
  rw [Oper.upon_value]
  go_wp2
  go_ret
  exact ⟨rfl, rfl⟩
theorem idxByte (s : ByteArray) (c : Int) (w : World) :
    Calls Tryz.prog 85 #[.string s, .int .u8 c] w fun e w' => e = .returned (.int .i64 (Lib.indexByte s.data.toList c.toNat.toUInt8)) ∧ w = w' := by
  go_enter Tryz.func85, Tryz.ntmps85
  go_wp2_with (go_at_call 103; refine (idxByte0 _ _ _).mono ?_; rintro e w' ⟨rfl, rfl⟩)
  go_ret
  exact ⟨rfl, rfl⟩

/-- the rows of bytes, as they are laid -/
def laidRow (i : Nat) : List UInt8 := ([[65, 66, 67, 68, 69, 70, 71, 72, 73, 74, 75, 76, 77, 78, 79, 80, 81, 82, 83, 84, 85, 86, 87, 88, 89, 90, 97, 98, 99, 100, 101, 102, 103, 104, 105, 106, 107, 108, 109, 110, 111, 112, 113, 114, 115, 116, 117, 118, 119, 120, 121, 122], [48, 49, 50, 51, 52, 53, 54, 55, 56, 57], [91, 93, 92, 95, 94, 123, 124, 125, 96], [45], [46], [58], [44], [33, 64, 42, 63], [0, 13, 10], [7], [32]] : List (List UInt8)).getD i []


/-- what a byte is, by the first rows -/
def kAcc (b : UInt8) : Nat → Int
  | 0 => 0
  | k + 1 => if 0 ≤ Lib.indexByte (laidRow k) b then bits .or .i64 (kAcc b k) (2 ^ k) else kAcc b k

theorem kAcc_yes {b : UInt8} {k : Nat} (hk : k < 11) (h : 0 ≤ Lib.indexByte (laidRow k) b) : bits .or .i64 (kAcc b k) (wrap64 (2 ^ k)) = kAcc b (k + 1) := by
  have e : wrap64 (2 ^ k) = 2 ^ k := by
    rcases (by omega : k = 0 ∨ k = 1 ∨ k = 2 ∨ k = 3 ∨ k = 4 ∨ k = 5 ∨ k = 6 ∨ k = 7 ∨ k = 8 ∨ k = 9 ∨ k = 10) with rfl|rfl|rfl|rfl|rfl|rfl|rfl|rfl|rfl|rfl|rfl <;> decide +kernel
  rw [e, kAcc, if_pos h]
theorem kAcc_no {b : UInt8} {k : Nat} (h : Lib.indexByte (laidRow k) b < 0) : kAcc b k = kAcc b (k + 1) := by
  rw [kAcc, if_neg (by omega)]

end Go.Proofs.YtkbgpajconhgjaaGreatDoor
end
section
/- valid.sized, only, none, plain, and the answers' in, Letter, Digit, Sign: what each tells. -/
namespace Go.Proofs.YtkbgpajconhgjaaGreatDoor
open Go.RowKit

/-- all bytes of a text, with their places, are so -/
noncomputable def allI (s : ByteArray) (p : Nat → UInt8 → Bool) : Bool := @decide (∀ i (h : i < s.size), p i s[i] = true) (Classical.propDecidable _)
theorem allI_iff {s : ByteArray} {p : Nat → UInt8 → Bool} : allI s p = true ↔ ∀ i (h : i < s.size), p i s[i] = true := by
  unfold allI; exact @decide_eq_true_iff _ (Classical.propDecidable _)
theorem allI_no {s : ByteArray} {p : Nat → UInt8 → Bool} {k : Nat} (h : k < s.size) (hp : p k s[k] = false) : false = allI s p := by
  cases e : allI s p with
  | false => rfl
  | true => rw [allI_iff.1 e k h] at hp; cases hp
theorem allI_yes {s : ByteArray} {p : Nat → UInt8 → Bool} {k : Nat} (hk : s.size ≤ k) (h : ∀ i, i < k → ∀ (hi : i < s.size), p i s[i] = true) : true = allI s p :=
  (allI_iff.2 fun i hi => h i (by omega) hi).symm
theorem all_step {s : ByteArray} {p : Nat → UInt8 → Bool} {k : Nat} (h : ∀ i, i < k → ∀ (hi : i < s.size), p i s[i] = true) (hk : k < s.size) (hp : p k s[k] = true) :
    ∀ i, i < k + 1 → ∀ (hi : i < s.size), p i s[i] = true := by
  intro i h1 h2
  by_cases e : i = k
  · subst e; exact hp
  · exact h i (by omega) h2

/-- is a byte of one of some kinds? -/
def isK (kinds : Int) (b : UInt8) : Bool := !(bits .and .i64 (kAcc b 11) kinds == 0)





/-- can a byte be seen? -/
def seen (b : UInt8) : Bool := decide (33 ≤ b.toNat ∧ b.toNat ≤ 126)


def sizedB (n : Nat) (a b : Int) : Bool := decide (a ≤ n ∧ (n : Int) ≤ b)

def inB (l : List UInt8) (b : UInt8) : Bool := l.contains b
theorem at_mem (s : ByteArray) (k : Nat) (h : k < s.size) : s[k] ∈ s.data.toList := by
  have : s[k] = s.data.toList[k]'(by simpa using h) := rfl
  rw [this]; exact List.getElem_mem _
theorem mem_at {s : ByteArray} {b : UInt8} (h : b ∈ s.data.toList) : ∃ k, ∃ h : k < s.size, s[k] = b := by
  obtain ⟨k, hk, e⟩ := List.mem_iff_getElem.1 h
  exact ⟨k, by simpa using hk, e⟩
theorem inB_yes {s : ByteArray} {b : UInt8} {k : Nat} (h : k < s.size) (e : s[k] = b) : true = inB s.data.toList b := by
  unfold inB; symm; rw [List.contains_iff_mem, ← e]; exact at_mem s k h
theorem inB_no {s : ByteArray} {b : UInt8} {k : Nat} (hk : s.size ≤ k) (h : ∀ i, i < k → ∀ (hi : i < s.size), s[i] ≠ b) : false = inB s.data.toList b := by
  unfold inB; symm
  rw [Bool.eq_false_iff, ne_eq, List.contains_iff_mem]
  intro hm
  obtain ⟨i, hi, e⟩ := mem_at hm
  exact h i (by omega) hi e



def letterB (b : UInt8) : Bool := decide ((65 ≤ b.toNat ∧ b.toNat ≤ 90) ∨ (97 ≤ b.toNat ∧ b.toNat ≤ 122))
def digitB (b : UInt8) : Bool := decide (48 ≤ b.toNat ∧ b.toNat ≤ 57)
def signB (b : UInt8) : Bool := decide (b.toNat = 96) || inB [91, 93, 92, 95, 94, 123, 124, 125] b
theorem letter_any (b : UInt8) (w : World) :
    Calls Tryz.prog 61 #[.int .u8 ↑b.toNat] w fun e w' => e = .returned (.bool (letterB b)) ∧ w = w' := by
  go_enter Tryz.func61, Tryz.ntmps61
  go_wp2_with fail
  all_goals go_ret
  all_goals exact ⟨ret_bool (by unfold letterB; rw [Bool.eq_iff_iff]; simp; omega), rfl⟩
theorem digit_any (b : UInt8) (w : World) :
    Calls Tryz.prog 62 #[.int .u8 ↑b.toNat] w fun e w' => e = .returned (.bool (digitB b)) ∧ w = w' := by
  go_enter Tryz.func62, Tryz.ntmps62
  go_wp2_with fail
  all_goals go_ret
  all_goals exact ⟨ret_bool (by unfold digitB; rw [Bool.eq_iff_iff]; simp; omega), rfl⟩
end Go.Proofs.YtkbgpajconhgjaaGreatDoor
end
section
/- What the kinds of bytes are, byte by byte. -/
namespace Go.Proofs.YtkbgpajconhgjaaGreatDoor
open Go.RowKit

theorem all256 {p : UInt8 → Bool} (h : ((List.range 256).all fun n => p n.toUInt8) = true) (b : UInt8) : p b = true := by
  have := List.all_eq_true.1 h b.toNat (List.mem_range.2 b.toNat_lt)
  simpa using this
theorem isK5 (b : UInt8) : isK 5 b = (letterB b || signB b) := by
  have := all256 (p := fun b => isK 5 b == (letterB b || signB b)) (by kernel_rfl) b
  simpa using this
theorem isK15 (b : UInt8) : isK 15 b = (letterB b || signB b || digitB b || decide (b.toNat = 45)) := by
  have := all256 (p := fun b => isK 15 b == (letterB b || signB b || digitB b || decide (b.toNat = 45))) (by kernel_rfl) b
  simpa using this
/-- may a byte stand in a channel? -/
def chanB (b : UInt8) : Bool := !(decide (b.toNat = 0 ∨ b.toNat = 7 ∨ b.toNat = 10 ∨ b.toNat = 13 ∨ b.toNat = 32 ∨ b.toNat = 44 ∨ b.toNat = 58))
theorem isK1888 (b : UInt8) : isK 1888 b = !chanB b := by
  have := all256 (p := fun b => isK 1888 b == !chanB b) (by kernel_rfl) b
  simpa using this
theorem isK160 (b : UInt8) : isK 160 b = inB [33, 64, 42, 63, 58] b := by
  have := all256 (p := fun b => isK 160 b == inB [33, 64, 42, 63, 58] b) (by kernel_rfl) b
  simpa using this

end Go.Proofs.YtkbgpajconhgjaaGreatDoor
end
section
/- valid.Nick, Channel, User and the answers' ones: both tell the same of any text. -/
namespace Go.Proofs.YtkbgpajconhgjaaGreatDoor
open Go.RowKit

noncomputable def dec (p : Prop) : Bool := @decide p (Classical.propDecidable _)
theorem dec_iff {p : Prop} : dec p = true ↔ p := by unfold dec; exact @decide_eq_true_iff _ (Classical.propDecidable _)
theorem dec_yes {p : Prop} (h : p) : true = dec p := (dec_iff.2 h).symm
theorem dec_no {p : Prop} (h : ¬ p) : false = dec p := by
  cases e : dec p with
  | false => rfl
  | true => exact absurd (dec_iff.1 e) h
theorem dec_of {b : Bool} {p : Prop} (h : b = true ↔ p) : b = dec p := by
  rw [Bool.eq_iff_iff, h, dec_iff]




/-- may a byte stand so in a nickname? -/
def nickAt (i : Nat) (b : UInt8) : Bool := letterB b || signB b || (decide (i ≠ 0) && (digitB b || decide (b.toNat = 45)))
def NickP (s : ByteArray) : Prop := (1 ≤ s.size ∧ s.size ≤ 16) ∧ ∀ i (h : i < s.size), nickAt i s[i] = true
def ChanP (s : ByteArray) : Prop := (2 ≤ s.size ∧ s.size ≤ 50) ∧ (∃ h : 0 < s.size, s[0].toNat = 35) ∧ ∀ i (h : i < s.size), chanB s[i] = true
def UserP (s : ByteArray) : Prop := (1 ≤ s.size ∧ s.size ≤ 10) ∧ ∀ i (h : i < s.size), (seen s[i] && !inB [33, 64, 42, 63, 58] s[i]) = true

theorem extract_one (s : ByteArray) (h : 1 ≤ s.size) (p : Nat → UInt8 → Bool) : allI (s.extract 0 1) p = p 0 s[0] := by
  rw [Bool.eq_iff_iff, allI_iff]
  have hs : (s.extract 0 1).size = 1 := by simp [ByteArray.size_extract]; omega
  have e : ∀ i (hi : i < (s.extract 0 1).size), (s.extract 0 1)[i] = s[0] := by
    intro i hi
    obtain rfl : i = 0 := by omega
    simp [ByteArray.getElem_extract]
  constructor
  · intro hh; have := hh 0 (by omega); rwa [e] at this
  · intro hh i hi; rw [e]; obtain rfl : i = 0 := by omega
    exact hh











end Go.Proofs.YtkbgpajconhgjaaGreatDoor
end
section
/- valid.Host, Server, Key and the answers' ones: both tell the same of any text. -/
namespace Go.Proofs.YtkbgpajconhgjaaGreatDoor
open Go.RowKit

theorem isK59 (b : UInt8) : isK 59 b = (letterB b || digitB b || decide (b.toNat = 46) || decide (b.toNat = 45) || decide (b.toNat = 58)) := by
  have := all256 (p := fun b => isK 59 b == (letterB b || digitB b || decide (b.toNat = 46) || decide (b.toNat = 45) || decide (b.toNat = 58))) (by kernel_rfl) b
  simpa using this
theorem isK32 (b : UInt8) : isK 32 b = decide (b.toNat = 58) := by
  have := all256 (p := fun b => isK 32 b == decide (b.toNat = 58)) (by kernel_rfl) b
  simpa using this
theorem isK16 (b : UInt8) : isK 16 b = decide (b.toNat = 46) := by
  have := all256 (p := fun b => isK 16 b == decide (b.toNat = 46)) (by kernel_rfl) b
  simpa using this
theorem isK1 (b : UInt8) : isK 1 b = letterB b := by
  have := all256 (p := fun b => isK 1 b == letterB b) (by kernel_rfl) b
  simpa using this
theorem isK64 (b : UInt8) : isK 64 b = decide (b.toNat = 44) := by
  have := all256 (p := fun b => isK 64 b == decide (b.toNat = 44)) (by kernel_rfl) b
  simpa using this

/-- may a byte stand so in a host? -/
def hostAt (i : Nat) (b : UInt8) : Bool := letterB b || digitB b || decide (b.toNat = 46) || decide (b.toNat = 45) || (decide (b.toNat = 58) && decide (i ≠ 0))
def HostP (s : ByteArray) : Prop := (1 ≤ s.size ∧ s.size ≤ 63) ∧ ∀ i (h : i < s.size), hostAt i s[i] = true
def ServP (s : ByteArray) : Prop := HostP s ∧ (∃ h : 0 < s.size, letterB s[0] = true) ∧ inB s.data.toList 46 = true ∧ inB s.data.toList 58 = false
def KeyP (s : ByteArray) : Prop := (1 ≤ s.size ∧ s.size ≤ 23) ∧ (∀ i (h : i < s.size), (seen s[i] && !decide (s[i].toNat = 44)) = true) ∧ ∃ h : 0 < s.size, s[0].toNat ≠ 58
theorem u8_eq {b : UInt8} {n : Nat} (hn : n < 256) : b.toNat = n ↔ b = n.toUInt8 := by
  constructor
  · intro h; rw [← h]; simp
  · intro h; rw [h]; simp; omega
theorem allI_noneB (s : ByteArray) (c : UInt8) : allI s (fun _ b => !decide (b.toNat = c.toNat)) = !inB s.data.toList c := by
  rw [Bool.eq_iff_iff, allI_iff]
  constructor
  · intro h
    rw [Bool.not_eq_true']
    symm
    exact inB_no (Nat.le_refl _) fun i _ hi e => by have := h i hi; rw [e] at this; simp at this
  · intro h i hi
    rw [Bool.not_eq_true'] at h
    by_cases e : s[i] = c
    · have := inB_yes hi e; rw [h] at this; cases this
    · simp; intro e2; exact e (UInt8.toNat_inj.mp e2)







end Go.Proofs.YtkbgpajconhgjaaGreatDoor
end
section
/- A slice of the call's own: one element more; rows of booleans; a store into a row. -/
namespace Go.Proofs.YtkbgpajconhgjaaGreatDoor
open Go Go.RowKit

theorem cells_new (W : World) (cs : Array Value) (e : TypeId) : ∀ j u, cs.toList[j]? = some u → (W.alloc (.cells cs e)).cell? ((⟨W.heap.size, 0, none⟩ : Addr).add j) = some u := by
  intro j u hu
  have hadd : (⟨W.heap.size, 0, none⟩ : Addr).add j = ⟨W.heap.size, j, none⟩ := by unfold Addr.add; split <;> simp_all
  rw [hadd, cell_of_row _ W.heap.size j cs e (0, 0) (heap_alloc_new W _)]
  simpa using hu

/-- 'out = append(out, x)': x lies in the newest block. -/
theorem wpList_app_one {P : Program} {W w0 : World} {ops : Array Oper} {rest : List Oper} {o : Oper} {a : Act} {Q : Exit → Act → World → Prop} (hgd : o.guard = none) (s x : Operand) (t : TypeId)
    (ho : o.op = .call { callee := .builtin .append, args := #[s, x], argTypes := #[t, t] })
    (base : Nat) (e : TypeId) (i : TypeInfo) (z : Value) (size bytes : Nat) (ht : P.underlying t = some (.slice e)) (hi : P.info? e = some i) (hz : i.zero = some z)
    (hsize : i.size = size) (hby : i.bytes = bytes) (hzs : z.cells.size = size) (hsz : 0 < size)
    (v : Value) (n : Nat) (xs : List Value) (hs : a.eval s = v) (hown : W.ownsRow base e size v n xs)
    (cs : Array Value) (hx : a.eval x = .slice (some ⟨W.heap.size, 0, none⟩) 1 1) (hl : cs.size = size) (h1 : ∀ u ∈ cs.toList, u.oneCell' = true)
    (hn : n ≤ 1000000000) (hbs : bytes ≤ 1000) (hB : Below base w0 W) (hbase : base ≤ W.heap.size)
    (h : ∀ v' w', w'.ownsRow base e size v' (n + 1) (xs ++ cs.toList) → Below base w0 w' → base ≤ w'.heap.size → wpList P ops Q rest (a.put o.dst v') w') : wpList P ops Q (o :: rest) a (W.alloc (.cells cs e)) := by
  have hnb : (n + 1) * bytes ≤ 140737488355328 := Nat.le_trans (Nat.mul_le_mul (show n + 1 ≤ 1000000001 by omega) hbs) (by decide)
  refine wpList_append_own _ hgd s x t ho base e i z size bytes ht hi hz hsize hby hzs hsz v n xs hs (hown.alloc _) ⟨W.heap.size, 0, none⟩ 1 1 cs.toList hx (by simpa using hl) (cells_new W cs e) h1 (by unfold maxLen; omega) hnb (by simp; omega) ?_
  intro v' w' hown' hgrow _
  have hsz' := hgrow.size
  rw [World.size_alloc] at hsz'
  refine h v' w' hown' ((hB.alloc hbase _).grown hgrow (by simp; omega) fun k hk => (hown.lt k hk).1) (by omega)

theorem wpList_app_oneN {P : Program} {W w0 : World} {ops : Array Oper} {rest : List Oper} {o : Oper} {a : Act} {Q : Exit → Act → World → Prop} (hgd : o.guard = none) (s x : Operand) (t : TypeId)
    (ho : o.op = .call { callee := .builtin .append, args := #[s, x], argTypes := #[t, t] })
    (base : Nat) (e : TypeId) (i : TypeInfo) (z : Value) (size bytes : Nat) (ht : P.underlying t = some (.slice e)) (hi : P.info? e = some i) (hz : i.zero = some z)
    (hsize : i.size = size) (hby : i.bytes = bytes) (hzs : z.cells.size = size) (hsz : 0 < size)
    (v : Value) (n : Nat) (xs : List Value) (hs : a.eval s = v) (hown : W.ownsRow base e size v n xs)
    (cs : Array Value) (N : Nat) (hx : a.eval x = .slice (some ⟨N, 0, none⟩) 1 1) (hN : W.heap.size = N) (hl : cs.size = size) (h1 : ∀ u ∈ cs.toList, u.oneCell' = true)
    (hn : n ≤ 1000000000) (hbs : bytes ≤ 1000) (hB : Below base w0 W) (hbase : base ≤ W.heap.size)
    (h : ∀ v' w', w'.ownsRow base e size v' (n + 1) (xs ++ cs.toList) → Below base w0 w' → base ≤ w'.heap.size → wpList P ops Q rest (a.put o.dst v') w') : wpList P ops Q (o :: rest) a (W.alloc (.cells cs e)) := by
  subst hN
  exact wpList_app_one hgd s x t ho base e i z size bytes ht hi hz hsize hby hzs hsz v n xs hs hown cs hx hl h1 hn hbs hB hbase h

/-- the same, as a step of a region whose order is drawn -/
theorem step_app_oneN {P : Program} {W w0 : World} {ys : Nat → Option Bool} {o : Oper} {a : Act} {K : Act → World → Prop} {Q : Exit → Act → World → Prop} {E : Prop} (hgd : o.guard = none) (s x : Operand) (t : TypeId)
    (ho : o.op = .call { callee := .builtin .append, args := #[s, x], argTypes := #[t, t] })
    (base : Nat) (e : TypeId) (i : TypeInfo) (z : Value) (size bytes : Nat) (ht : P.underlying t = some (.slice e)) (hi : P.info? e = some i) (hz : i.zero = some z)
    (hsize : i.size = size) (hby : i.bytes = bytes) (hzs : z.cells.size = size) (hsz : 0 < size)
    (v : Value) (n : Nat) (xs : List Value) (hs : a.eval s = v) (hown : W.ownsRow base e size v n xs)
    (cs : Array Value) (N : Nat) (hx : a.eval x = .slice (some ⟨N, 0, none⟩) 1 1) (hN : W.heap.size = N) (hl : cs.size = size) (h1 : ∀ u ∈ cs.toList, u.oneCell' = true)
    (hn : n ≤ 1000000000) (hbs : bytes ≤ 1000) (hB : Below base w0 W) (hbase : base ≤ W.heap.size)
    (h : ∀ v' w', w'.ownsRow base e size v' (n + 1) (xs ++ cs.toList) → Below base w0 w' → base ≤ w'.heap.size → K (a.put o.dst v') w') : if Region.wanted o ys = true then Oper.wp P o a (W.alloc (.cells cs e)) K Q else E := by
  subst hN
  rw [if_pos (by simp [Region.wanted, hgd])]
  have hnb : (n + 1) * bytes ≤ 140737488355328 := Nat.le_trans (Nat.mul_le_mul (show n + 1 ≤ 1000000001 by omega) hbs) (by decide)
  refine wp_append_own _ s x t ho base e i z size bytes ht hi hz hsize hby hzs hsz v n xs hs (hown.alloc _) ⟨W.heap.size, 0, none⟩ 1 1 cs.toList hx (by simpa using hl) (cells_new W cs e) h1 (by unfold maxLen; omega) hnb (by simp; omega) ?_
  intro v' w' hown' hgrow _
  have hsz' := hgrow.size
  rw [World.size_alloc] at hsz'
  exact h v' w' hown' ((hB.alloc hbase _).grown hgrow (by simp; omega) fun k hk => (hown.lt k hk).1) (by omega)

/-- 'string(out)', out a slice of bytes of the call's own -/
theorem conv_owned {P : Program} (W : World) (src dst e : TypeId) (base : Nat) (v : Value) (l : List UInt8) (hs : P.underlying src = some (.slice e)) (he : P.underlying e = some (.int .u8)) (hd : P.underlying dst = some .string)
    (h : W.ownsRow base e 1 v l.length (l.map fun b => Value.int .u8 b.toNat)) :
    (convert src dst v).run P W = .ok (.string (bs l)) W := by
  rcases h.2 with ⟨rfl, hn⟩ | ⟨g, cap, cur, rfl, hrest⟩
  · have hl : l = [] := List.length_eq_zero_iff.1 hn
    subst hl
    exact run_convert_bytes_nil W src e hs he 0 0 dst hd
  · exact run_convert_bytes_back W src dst e ⟨g, 0, none⟩ cap l hs he hd fun j hj => h.cells (g := g) rfl j _ (by simp [hj])

/-- booleans as cells -/
def bl (f : Nat → Bool) (n : Nat) : List Value := (List.range n).map fun i => .bool (f i)
theorem bl_len (f : Nat → Bool) (n : Nat) : (bl f n).length = n := by simp [bl]
theorem bl_get (f : Nat → Bool) {n j : Nat} (h : j < n) : (bl f n)[j]? = some (.bool (f j)) := by simp [bl, h]
theorem bl_set (f g : Nat → Bool) {n j : Nat} (b : Bool) (hj : f j = b) (h : ∀ i, i < n → i ≠ j → f i = g i) : (bl g n).set j (.bool b) = bl f n := by
  apply List.ext_getElem?
  intro i
  rw [List.getElem?_set]
  by_cases e : j = i
  · subst e
    rw [if_pos rfl]
    by_cases hl : j < n
    · rw [bl_get f hl, hj]; simp [bl_len, hl]
    · rw [if_neg (by rw [bl_len]; exact hl), List.getElem?_eq_none (by rw [bl_len]; omega)]
  · rw [if_neg e]
    by_cases hl : i < n
    · rw [bl_get f hl, bl_get g hl, h i hl (fun h => e h.symm)]
    · rw [List.getElem?_eq_none (by rw [bl_len]; omega), List.getElem?_eq_none (by rw [bl_len]; omega)]
theorem bl_false (n : Nat) : (madeCells #[.bool false] n).toList = bl (fun _ => false) n := by
  rw [toList_madeCells_one]
  apply List.ext_getElem?
  intro i
  by_cases h : i < n
  · rw [bl_get _ h]; simp [h]
  · simp [bl, h]
end Go.Proofs.YtkbgpajconhgjaaGreatDoor
end
section
/- A labelled body inside a fence: the scope is gone through straight. -/
namespace Go.Proofs.YtkbgpajconhgjaaGreatDoor
open Go.RowKit Go.Shelf

theorem stepR_scope {P : Program} {b : Frame} {a : Act} {k : List Item} {cs : List Frame} {w : World} {c : Code} :
    step P (lone (b.atR a (.code (.scope c) :: k)) cs w) = .next (lone (b.atR a (.code c :: .inScope c :: k)) cs w) :=
  step_lone_go (by simp [stepG, stepG.exec, Frame.atR])
theorem stepR_inScope {P : Program} {b : Frame} {a : Act} {k : List Item} {cs : List Frame} {w : World} {c : Code} :
    step P (lone (b.atR a (.inScope c :: k)) cs w) = .next (lone (b.atR a k) cs w) :=
  step_lone_go (by simp [stepG, stepG.exec, Frame.atR])

theorem wpIn_scope {F : Fence} {n : Nat} {P : Program} {Q : Exit → Act → World → Prop} {a : Act} {w : World} {c : Code}
    (h : c.wpIn F n P (Exit.noGoto Q) a w) : (Code.scope c).wpIn F n P Q a w := by
  intro b k cs hro hb hr
  have h0 : (lone (b.atR a (.code (.scope c) :: k)) cs w).fenced P F := fenced_calm hb hr rfl
  obtain ⟨e, a₁, w₁, hq, harr⟩ := h b (.inScope c :: k) cs hro hb hr
  cases e with
  | normal => exact ⟨.normal, a₁, w₁, hq, .head h0 stepR_scope (StepsIn.trans harr (.one (fenced_calm hb hr rfl) stepR_inScope))⟩
  | exit id =>
    have hx : exitTo id (.inScope c :: k) = exitTo id k := by simp [exitTo]
    exact ⟨.exit id, a₁, w₁, hq, fun k' hk => .head h0 stepR_scope (harr.1 k' (by rw [hx]; exact hk)),
      fun hr' hk => let ⟨k₁, h1, h2⟩ := harr.2 hr' (by rw [hx]; exact hk); ⟨k₁, h1, .head h0 stepR_scope h2⟩⟩
  | goto l => exact hq.elim
  | ret => exact ⟨_, a₁, w₁, hq, .of_steps (.one h0 stepR_scope) harr⟩
  | panic ch => exact ⟨_, a₁, w₁, hq, .of_steps (.one h0 stepR_scope) harr⟩
  | outgrown => exact ⟨_, a₁, w₁, hq, .of_steps (.one h0 stepR_scope) harr⟩
theorem noGoto_normal (Q : Exit → Act → World → Prop) (a : Act) (w : World) : Exit.noGoto Q .normal a w = Q .normal a w := rfl
theorem noGoto_ret' (Q : Exit → Act → World → Prop) (a : Act) (w : World) : Exit.noGoto Q .ret a w = Q .ret a w := rfl
end Go.Proofs.YtkbgpajconhgjaaGreatDoor
end
section
/- fold.Compare: which of two texts stands ahead. -/
namespace Go.Proofs.YtkbgpajconhgjaaGreatDoor
open Go.RowKit

def foldL (l : List UInt8) : List UInt8 := l.map foldB
@[simp] theorem foldL_nil : foldL [] = [] := rfl
@[simp] theorem foldL_cons (x : UInt8) (l : List UInt8) : foldL (x :: l) = foldB x :: foldL l := rfl
@[simp] theorem foldL_length (l : List UInt8) : (foldL l).length = l.length := by simp [foldL]
@[simp] theorem foldL_append (a b : List UInt8) : foldL (a ++ b) = foldL a ++ foldL b := by simp [foldL]

/-- which of two rows of bytes stands ahead -/
def cmpL : List UInt8 → List UInt8 → Int
  | [], [] => 0
  | [], _ :: _ => -1
  | _ :: _, [] => 1
  | x :: xs, y :: ys => if x.toNat < y.toNat then -1 else if y.toNat < x.toNat then 1 else cmpL xs ys

theorem ba_drop (s : ByteArray) (k : Nat) (h : k < s.size) : s.data.toList.drop k = s[k] :: s.data.toList.drop (k + 1) := by
  rw [List.drop_eq_getElem_cons (by simpa using h)]; rfl
theorem ba_drop_end (s : ByteArray) (k : Nat) (h : s.size ≤ k) : s.data.toList.drop k = [] := by
  rw [List.drop_eq_nil_iff]; simpa using h
theorem ba_take (s : ByteArray) (k : Nat) (h : k < s.size) : s.data.toList.take (k + 1) = s.data.toList.take k ++ [s[k]] := by
  rw [List.take_succ_eq_append_getElem (by simpa using h)]; rfl
theorem ba_len (s : ByteArray) : s.data.toList.length = s.size := by simp

/-- two texts, folded, from a place on -/
def cmpAt (a b : ByteArray) (k : Nat) : Int := cmpL (foldL (a.data.toList.drop k)) (foldL (b.data.toList.drop k))
theorem cmpAt_stop {a b : ByteArray} {k : Nat} (ha : k < a.size) (hb : k < b.size) (h : cmpI ↑(foldB a[k]).toNat ↑(foldB b[k]).toNat ≠ 0) :
    cmpI ↑(foldB a[k]).toNat ↑(foldB b[k]).toNat = cmpAt a b k := by
  unfold cmpAt
  rw [ba_drop a k ha, ba_drop b k hb]
  simp only [foldL_cons, cmpL]
  unfold cmpI at *
  split
  · rw [if_pos (by omega)]
  · rename_i h1
    rw [if_neg h1] at h
    split
    · rw [if_neg (by omega), if_pos (by omega)]
    · rename_i h2; rw [if_neg h2] at h; exact absurd rfl h
theorem cmpAt_step {a b : ByteArray} {k : Nat} (ha : k < a.size) (hb : k < b.size) (h : cmpI ↑(foldB a[k]).toNat ↑(foldB b[k]).toNat = 0) :
    cmpAt a b (k + 1) = cmpAt a b k := by
  unfold cmpAt
  rw [ba_drop a k ha, ba_drop b k hb]
  simp only [foldL_cons, cmpL]
  unfold cmpI at h
  split at h
  · cases h
  · split at h
    · cases h
    · rw [if_neg (by omega), if_neg (by omega)]
theorem cmpAt_end {a b : ByteArray} {k : Nat} (h : k = a.size ∨ k = b.size) (ha : k ≤ a.size) (hb : k ≤ b.size) : cmpI ↑a.size ↑b.size = cmpAt a b k := by
  unfold cmpAt
  by_cases h1 : k < a.size
  · rw [ba_drop a k h1, ba_drop_end b k (by omega), cmpI_gt (by omega)]; rfl
  · rw [ba_drop_end a k (by omega)]
    by_cases h2 : k < b.size
    · rw [ba_drop b k h2, cmpI_lt (by omega)]; rfl
    · rw [ba_drop_end b k (by omega), cmpI_eq (by omega)]; rfl





/-- what compares two texts, folded -/
def cmpF (a b : List UInt8) : Int := cmpL (foldL a) (foldL b)
end Go.Proofs.YtkbgpajconhgjaaGreatDoor
end
section
/- fold.Same, fold.Prefix; the document's Byte. -/
namespace Go.Proofs.YtkbgpajconhgjaaGreatDoor
open Go.RowKit

theorem cmpL_zero : ∀ {a b : List UInt8}, cmpL a b = 0 ↔ a = b
  | [], [] => by simp [cmpL]
  | [], _ :: _ => by simp [cmpL]
  | _ :: _, [] => by simp [cmpL]
  | x :: xs, y :: ys => by
    simp only [cmpL, List.cons.injEq]
    by_cases h1 : x.toNat < y.toNat
    · rw [if_pos h1]; constructor
      · intro h; cases h
      · rintro ⟨rfl, _⟩; omega
    · rw [if_neg h1]
      by_cases h2 : y.toNat < x.toNat
      · rw [if_pos h2]; constructor
        · intro h; cases h
        · rintro ⟨rfl, _⟩; omega
      · rw [if_neg h2, cmpL_zero]
        have : x = y := UInt8.toNat_inj.mp (by omega)
        simp [this]

/-- are two texts alike? -/
def sameF (a b : List UInt8) : Bool := foldL a == foldL b
theorem sameF_iff {a b : List UInt8} : sameF a b = true ↔ foldL a = foldL b := by simp [sameF]
theorem sameF_len {a b : List UInt8} (h : a.length ≠ b.length) : sameF a b = false := by
  rw [Bool.eq_false_iff]; intro e
  rw [sameF_iff] at e
  have := congrArg List.length e
  simp at this; exact h this
theorem sameF_cmp (a b : List UInt8) : (cmpF a b == 0) = sameF a b := by
  rw [Bool.eq_iff_iff, sameF_iff, beq_iff_eq]; exact cmpL_zero

end Go.Proofs.YtkbgpajconhgjaaGreatDoor
end
section
/- fold.Prefix; the document's Byte. -/
namespace Go.Proofs.YtkbgpajconhgjaaGreatDoor
open Go.RowKit

theorem ba_extract0 (s : ByteArray) (n : Nat) : (s.extract 0 n).data.toList = s.data.toList.take n := by
  simp [ByteArray.data_extract]
theorem ba_extract_to (s : ByteArray) (n : Nat) : (s.extract n s.size).data.toList = s.data.toList.drop n := by
  simp only [ByteArray.data_extract, Array.toList_extract, List.extract_eq_take_drop]
  rw [List.take_of_length_le]; simp



def fromB : ByteArray := ⟨#[65, 66, 67, 68, 69, 70, 71, 72, 73, 74, 75, 76, 77, 78, 79, 80, 81, 82, 83, 84, 85, 86, 87, 88, 89, 90, 91, 93, 92, 126]⟩
def toB : ByteArray := ⟨#[97, 98, 99, 100, 101, 102, 103, 104, 105, 106, 107, 108, 109, 110, 111, 112, 113, 114, 115, 116, 117, 118, 119, 120, 121, 122, 123, 125, 124, 94]⟩
theorem from_found : ∀ k : Fin 30, foldB (fromB[k.1]'(k.2)) = toB[k.1]'(k.2) := by decide +kernel
theorem from_all : ∀ n : Fin 256, foldB (UInt8.ofNat n) = UInt8.ofNat n ∨ ∃ k : Fin 30, fromB[k.1]'(k.2) = UInt8.ofNat n := by decide +kernel
theorem from_none (b : UInt8) (h : ∀ k : Fin 30, fromB[k.1]'(k.2) ≠ b) : foldB b = b := by
  have := from_all ⟨b.toNat, b.toNat_lt⟩
  simp only [UInt8.ofNat_toNat] at this
  rcases this with h1 | ⟨k, hk⟩
  · exact h1
  · exact absurd hk (h k)

end Go.Proofs.YtkbgpajconhgjaaGreatDoor
end
section
/- fold.Runs: the pieces of a text, one by one, as a function that ranges. -/
namespace Go.Proofs.YtkbgpajconhgjaaGreatDoor
open Go.RowKit Go.Shelf
attribute [local go_sem] Oper.semAt_some

/-- a piece: its text, and whether its bytes are changed by folding -/
abbrev Piece := { x : ByteArray × Bool // x.1.size ≤ 1000000 }
abbrev encPiece (x : Piece) : Array Value := #[.string x.1.1, .bool x.1.2]
def tb (b : UInt8) : Bool := foldB b != b

def flat : List Piece → List UInt8
  | [] => []
  | x :: r => x.1.1.data.toList ++ flat r
theorem flat_snoc (l : List Piece) (x : Piece) : flat (l ++ [x]) = flat l ++ x.1.1.data.toList := by
  induction l with
  | nil => simp [flat]
  | cons y r ih => simp [flat, ih]
/-- is the next piece as it must be behind these: not empty, of one sort, of the other sort than the last one? -/
def okNext (pre : List Piece) (x : Piece) : Prop :=
  x.1.1.size ≠ 0 ∧ (∀ b ∈ x.1.1.data.toList, tb b = x.1.2) ∧ ∀ y, pre.getLast? = some y → x.1.2 ≠ y.1.2
/-- are pieces as they must be, each behind those ahead of it? -/
def okAll : List Piece → Prop
  | l => ∀ a x r, l = a ++ x :: r → okNext a x
theorem okAll_nil : okAll [] := by intro a x r h; simp at h
theorem okAll_snoc {l : List Piece} {x : Piece} : okAll (l ++ [x]) ↔ okAll l ∧ okNext l x := by
  constructor
  · intro h
    exact ⟨fun a y r e => h a y (r ++ [x]) (by rw [e]; simp), h l x [] rfl⟩
  · rintro ⟨h1, h2⟩ a y r e
    rcases List.eq_nil_or_concat r with rfl | ⟨r', z, rfl⟩
    · have : l ++ [x] = a ++ [y] := e
      obtain ⟨e1, e2⟩ := List.append_inj' this rfl
      simp at e2
      subst e1 e2; exact h2
    · have : l ++ [x] = (a ++ y :: r') ++ [z] := by rw [e]; simp
      obtain ⟨e1, e2⟩ := List.append_inj' this rfl
      exact h1 a y r' e1

/-- how far the pieces have come: what they are of, what is left -/
def RunsAt (l : List UInt8) (pre : List Piece) (rest : List UInt8) : Prop :=
  flat pre ++ rest = l ∧ okAll pre ∧ ∀ y b r, pre.getLast? = some y → rest = b :: r → tb b ≠ y.1.2

theorem flat_len {pre : List Piece} (h : okAll pre) : pre.length ≤ (flat pre).length := by
  induction pre using snoc_ind with
  | nil => simp
  | snoc l x ih =>
    rw [okAll_snoc] at h
    have := ih h.1
    have hx := h.2.1
    rw [flat_snoc]
    simp; omega

theorem runsAt_nil (l : List UInt8) : RunsAt l [] l := ⟨by simp [flat], okAll_nil, by intro y b r h; simp at h⟩

theorem RunsAt.snoc {l : List UInt8} {pre : List Piece} {p q : List UInt8} {t : Bool} (h : RunsAt l pre (p ++ q)) (hp : p ≠ [])
    (ht : ∀ b ∈ p, tb b = t) (hq : ∀ b r, q = b :: r → tb b ≠ t) (x : Piece) (hx : x.1 = (bs p, t)) : RunsAt l (pre ++ [x]) q := by
  obtain ⟨h1, h2, h3⟩ := h
  refine ⟨?_, okAll_snoc.2 ⟨h2, ?_⟩, ?_⟩
  · rw [flat_snoc, hx]; simpa using h1
  · refine ⟨?_, ?_, ?_⟩
    · rw [hx]; simp; exact hp
    · rw [hx]; simpa using ht
    · intro y hy
      rw [hx]
      obtain ⟨b, p', rfl⟩ := List.exists_cons_of_ne_nil hp
      have := h3 y b (p' ++ q) hy rfl
      rw [ht b (by simp)] at this
      exact this
  · intro y b r hy hr
    simp at hy
    subst hy
    rw [hx]
    exact hq b r hr

theorem RunsAt.bound {l : List UInt8} {pre : List Piece} {b : UInt8} {r : List UInt8} (h : RunsAt l pre (b :: r)) : pre.length < l.length := by
  have := flat_len h.2.1
  rw [← h.1]; simp; omega

theorem all_take (R : ByteArray) (t : Bool) (k : Nat) (hk : k ≤ R.size) (h : ∀ j (h : j < R.size), j < k → tb R[j] = t) : ∀ b ∈ R.data.toList.take k, tb b = t := by
  intro b hb
  obtain ⟨j, hj, rfl⟩ := List.mem_iff_getElem.1 hb
  simp only [List.length_take, ba_len] at hj
  rw [List.getElem_take]
  exact h j (by omega) (by omega)

theorem RunsAt.cut {l : List UInt8} {pre : List Piece} {R : ByteArray} (h : RunsAt l pre R.data.toList) (k : Nat) (hk : k < R.size) (t : Bool) (h0 : t = tb (R[0]'(by omega)))
    (ha : ∀ j (h : j < R.size), j < k → tb R[j] = t) (hn : tb R[k] ≠ t) (x : Piece) (hx : x.1 = (R.extract 0 k, t)) : RunsAt l (pre ++ [x]) (R.extract k R.size).data.toList := by
  have hk0 : k ≠ 0 := by rintro rfl; exact hn h0.symm
  rw [ba_extract_to]
  refine RunsAt.snoc (p := R.data.toList.take k) (t := t) (by rw [List.take_append_drop]; exact h) ?_ (all_take R t k (by omega) ha) ?_ x ?_
  · intro e
    have := congrArg List.length e
    rw [List.length_take, ba_len, List.length_nil] at this
    omega
  · intro b r e
    rw [ba_drop R k hk] at e
    cases e
    exact hn
  · rw [hx, ← ba_extract0]; rfl

theorem RunsAt.last {l : List UInt8} {pre : List Piece} {R : ByteArray} (h : RunsAt l pre R.data.toList) (hk : 0 < R.size) (t : Bool)
    (ha : ∀ j (h : j < R.size), j < R.size → tb R[j] = t) (x : Piece) (hx : x.1 = (R, t)) : RunsAt l (pre ++ [x]) [] := by
  refine RunsAt.snoc (p := R.data.toList) (t := t) (by rw [List.append_nil]; exact h) ?_ ?_ (by intro b r e; cases e) x (by rw [hx]; rfl)
  · intro e
    have := congrArg List.length e
    rw [ba_len, List.length_nil] at this
    omega
  · have := all_take R t R.size (Nat.le_refl _) ha
    rw [List.take_of_length_le (by rw [ba_len]; exact Nat.le_refl _)] at this
    exact this
end Go.Proofs.YtkbgpajconhgjaaGreatDoor
end
section
/- fold.Runs: the walk of its function that ranges. -/
namespace Go.Proofs.YtkbgpajconhgjaaGreatDoor
open Go.RowKit Go.Shelf
attribute [local go_sem] Oper.semAt_some



end Go.Proofs.YtkbgpajconhgjaaGreatDoor
end
section
/- append onto a slice of the call's own, from whatever source: a text's bytes too. -/
namespace Go.Proofs.YtkbgpajconhgjaaGreatDoor
open Go Go.RowKit

section
variable {P : Program} (w : World)

theorem run_room_src (t tx ty e : TypeId) (i : TypeInfo) (ht : P.underlying t = some (.slice e)) (hi : P.info? e = some i)
    (g sLen sCap : Nat) (cur : Array Value) (hg : w.heap[g]? = some (.cells cur e (0, 0))) (x : Value) (m : Nat) (news : List Value) (hs : Src P i.size tx x m news w)
    (hroom : sLen + m ≤ sCap) (hfit : sLen * i.size + news.length ≤ cur.size) :
    (Builtin.append_ #[t, tx] ty #[.slice (some ⟨g, 0, none⟩) sLen sCap, x]).run P w =
      .ok (.slice (some ⟨g, 0, none⟩) (sLen + m) sCap) (w.setRow g (cur.toList.take (sLen * i.size) ++ news ++ cur.toList.drop (sLen * i.size + news.length)).toArray) := by
  have hst := run_storeCells_at P g (sLen * i.size) e news 0 cur w hg (by simpa using hfit) hs.one
  simp only [Nat.add_zero] at hst
  rcases hs.kind with ⟨e', hk⟩ | hk <;> simp [Builtin.append_, run_underlying ht, run_underlying hk, sizeOf, typeInfo, hi, hs.len, hroom, hs.cells, Addr.add_lit, hst]

theorem run_app_src (base : Nat) (t tx ty e : TypeId) (i : TypeInfo) (z : Value) (size bytes : Nat) (ht : P.underlying t = some (.slice e)) (hi : P.info? e = some i) (hz : i.zero = some z)
    (hsize : i.size = size) (hby : i.bytes = bytes) (hzs : z.cells.size = size) (g cap n : Nat) (xs : List Value)
    (hown : w.ownsRow base e size (.slice (some ⟨g, 0, none⟩) n cap) n xs) (x : Value) (m : Nat) (news : List Value) (hs : Src P size tx x m news w)
    (h63 : n + m ≤ maxLen) (hbytes : (n + m) * bytes ≤ 140737488355328) (hbase : base ≤ w.heap.size) :
    ∃ g' cap' w', (Builtin.append_ #[t, tx] ty #[.slice (some ⟨g, 0, none⟩) n cap, x]).run P w = .ok (.slice (some ⟨g', 0, none⟩) (n + m) cap') w' ∧
      w'.ownsRow base e size (.slice (some ⟨g', 0, none⟩) (n + m) cap') (n + m) (xs ++ news) ∧ w.grownBy w' (some g) := by
  subst hsize
  subst hby
  have hsmall : n + m ≤ 9223372036854775807 := by simp only [maxLen] at h63; omega
  have hlen : (xs ++ news).length = (n + m) * i.size := by rw [List.length_append, hown.1, hs.newsLen, Nat.add_mul]
  have hown' := hown
  rcases hown.2 with ⟨h, _⟩ | ⟨g0, cap0, cur, h, hbg, hg, hnc, hcm, hcs, htake⟩
  · cases h
  · simp only [Value.slice.injEq, Option.some.injEq, Addr.mk.injEq, true_and, and_true] at h
    obtain ⟨rfl, rfl⟩ := h
    by_cases hroom : n + m ≤ cap
    · have hfit : n * i.size + news.length ≤ cur.size := by rw [hs.newsLen, hcs, ← Nat.add_mul]; exact Nat.mul_le_mul_right _ hroom
      have hr := run_room_src (P := P) w t tx ty e i ht hi g n cap cur hg x m news hs hroom hfit
      refine ⟨_, _, _, hr, ⟨hlen, .inr ⟨g, cap, _, rfl, hbg, setRow_heap w g cur _ e _ hg, hroom, hcm, ?_, ?_⟩⟩, ⟨rfl, rfl, rfl, by simp, fun k _ hk => setRow_other w g k _ (fun e => hk (by rw [e]))⟩⟩
      · simp only [List.size_toArray, List.length_append, List.length_take, List.length_drop, Array.length_toList]
        omega
      · rw [htake, ← hlen]
        exact List.take_left
    · have holds : ∀ j u, xs[j]? = some u → w.cell? ((⟨g, 0, none⟩ : Addr).add j) = some u := hown'.cells (g := g) rfl
      have hold := run_firstCells_some (P := P) w.drew i.size n ⟨g, 0, none⟩ n cap xs hown'.1 (by simpa using holds)
      have hr := run_append_grow_src (P := P) w t tx ty e i z ht hi hz (some ⟨g, 0, none⟩) n cap xs hold x m news hs (by omega) (by omega) (growslice_fits (by omega) hbytes)
      refine ⟨_, _, _, hr, ⟨hlen, .inr ⟨w.heap.size, _, _, rfl, hbase, heap_alloc_new w.drew _, grownCap_ge w (n + m) cap e, grownCap_le_maxLen w (n + m) cap e h63, ?_, ?_⟩⟩, ⟨rfl, rfl, rfl, by simp, fun k hk _ => heap_alloc_old w.drew _ hk⟩⟩
      · simp only [Array.size_append, List.size_toArray, size_zeroCells, hzs, hlen, ← Nat.add_mul]
        have := grownCap_ge w (n + m) cap e
        congr 1
        omega
      · simp only [Array.toList_append]
        rw [← hlen]
        exact List.take_left
end

theorem wpListIn_app_src {F : Fence} {n : Nat} {P : Program} (w : World) {ops : Array Oper} {rest : List Oper} {o : Oper} {a : Act} {Q : Exit → Act → World → Prop}
    (hg : o.guard = none) (s x : Operand) (t tx : TypeId) (hop : o.op = Op.call { callee := Callee.builtin Builtin.append, args := #[s, x], argTypes := #[t, tx] })
    (base : Nat) (e : TypeId) (i : TypeInfo) (z : Value) (size bytes : Nat) (h1 : P.underlying t = some (.slice e)) (h2 : P.info? e = some i) (h3 : i.zero = some z) (h4 : i.size = size) (h5 : i.bytes = bytes) (h6 : z.cells.size = size)
    (g cap k : Nat) (xs : List Value) (hs : a.eval s = .slice (some ⟨g, 0, none⟩) k cap) (hown : w.ownsRow base e size (.slice (some ⟨g, 0, none⟩) k cap) k xs) (v : Value) (m : Nat) (news : List Value) (hx : a.eval x = v) (hsrc : Src P size tx v m news w)
    (b1 : k + m ≤ maxLen) (b2 : (k + m) * bytes ≤ 140737488355328) (b3 : base ≤ w.heap.size)
    (hK : ∀ g' cap' w', w'.ownsRow base e size (.slice (some ⟨g', 0, none⟩) (k + m) cap') (k + m) (xs ++ news) → w.grownBy w' (some g) → wpListIn F n P ops Q rest (a.put o.dst (.slice (some ⟨g', 0, none⟩) (k + m) cap')) w') :
    wpListIn F n P ops Q (o :: rest) a w := by
  refine wpListIn_plain hg fun K hK' => ?_
  obtain ⟨g', cap', w', hrun, r1, r2⟩ := run_app_src (P := P) w base t tx o.type e i z size bytes h1 h2 h3 h4 h5 h6 g cap k xs hown v m news hsrc b1 b2 b3
  unfold Oper.wpIn
  refine ⟨?_, ?_⟩
  · simp [Oper.about, hop, resolve, Target.leads, Sem.run_pure]
  · rw [Oper.semAt_plain F _ _ (by rw [hop]; intro c hc'; cases hc')]
    simp [execOp, hop, resolve, invoke, builtin, hs, hx, hrun, Result.andThen]
    exact hK' _ _ (hK g' cap' w' r1 r2)

theorem wp_app_src {P : Program} (w : World) {o : Oper} {a : Act} {K : Act → World → Prop} {Q : Exit → Act → World → Prop} (s x : Operand) (t tx : TypeId)
    (ho : o.op = .call { callee := .builtin .append, args := #[s, x], argTypes := #[t, tx] })
    (base : Nat) (e : TypeId) (i : TypeInfo) (z : Value) (size bytes : Nat) (h1 : P.underlying t = some (.slice e)) (h2 : P.info? e = some i) (h3 : i.zero = some z) (h4 : i.size = size) (h5 : i.bytes = bytes) (h6 : z.cells.size = size)
    (g cap k : Nat) (xs : List Value) (hs : a.eval s = .slice (some ⟨g, 0, none⟩) k cap) (hown : w.ownsRow base e size (.slice (some ⟨g, 0, none⟩) k cap) k xs) (v : Value) (m : Nat) (news : List Value) (hx : a.eval x = v) (hsrc : Src P size tx v m news w)
    (b1 : k + m ≤ maxLen) (b2 : (k + m) * bytes ≤ 140737488355328) (b3 : base ≤ w.heap.size)
    (h : ∀ g' cap' w', w'.ownsRow base e size (.slice (some ⟨g', 0, none⟩) (k + m) cap') (k + m) (xs ++ news) → w.grownBy w' (some g) → K (a.put o.dst (.slice (some ⟨g', 0, none⟩) (k + m) cap')) w') : o.wp P a w K Q := by
  obtain ⟨g', cap', w', hr, r1, r2⟩ := run_app_src (P := P) w base t tx o.type e i z size bytes h1 h2 h3 h4 h5 h6 g cap k xs hown v m news hsrc b1 b2 b3
  unfold Oper.wp execOp
  simp only [ho, resolve, invoke, builtin, Sem.run_bind, Sem.run_pure, Result.andThen_ok, List.map_toArray, List.map_cons, List.map_nil, hs, hx, hr]
  exact h g' cap' w' r1 r2

theorem wpList_app_src {P : Program} (w : World) {ops : Array Oper} {rest : List Oper} {o : Oper} {a : Act} {Q : Exit → Act → World → Prop} (hgd : o.guard = none) (s x : Operand) (t tx : TypeId)
    (ho : o.op = .call { callee := .builtin .append, args := #[s, x], argTypes := #[t, tx] })
    (base : Nat) (e : TypeId) (i : TypeInfo) (z : Value) (size bytes : Nat) (h1 : P.underlying t = some (.slice e)) (h2 : P.info? e = some i) (h3 : i.zero = some z) (h4 : i.size = size) (h5 : i.bytes = bytes) (h6 : z.cells.size = size)
    (g cap k : Nat) (xs : List Value) (hs : a.eval s = .slice (some ⟨g, 0, none⟩) k cap) (hown : w.ownsRow base e size (.slice (some ⟨g, 0, none⟩) k cap) k xs) (v : Value) (m : Nat) (news : List Value) (hx : a.eval x = v) (hsrc : Src P size tx v m news w)
    (b1 : k + m ≤ maxLen) (b2 : (k + m) * bytes ≤ 140737488355328) (b3 : base ≤ w.heap.size)
    (h : ∀ g' cap' w', w'.ownsRow base e size (.slice (some ⟨g', 0, none⟩) (k + m) cap') (k + m) (xs ++ news) → w.grownBy w' (some g) → wpList P ops Q rest (a.put o.dst (.slice (some ⟨g', 0, none⟩) (k + m) cap')) w') : wpList P ops Q (o :: rest) a w :=
  wpList_plain hgd fun _ hK => wp_app_src w s x t tx ho base e i z size bytes h1 h2 h3 h4 h5 h6 g cap k xs hs hown v m news hx hsrc b1 b2 b3 fun g' cap' w' r1 r2 => hK _ _ (h g' cap' w' r1 r2)
end Go.Proofs.YtkbgpajconhgjaaGreatDoor
end
section
/- fold.Text: what is folded. -/
namespace Go.Proofs.YtkbgpajconhgjaaGreatDoor
open Go.RowKit Go.Shelf
attribute [local go_sem] Oper.semAt_some

/-- bytes as cells -/
def u8s (l : List UInt8) : List Value := l.map fun b => Value.int .u8 b.toNat
theorem u8s_append (a b : List UInt8) : u8s (a ++ b) = u8s a ++ u8s b := by simp [u8s]
theorem u8s_bytes (s : ByteArray) : byteCells s = u8s s.data.toList := rfl

theorem u8s_step (a : List UInt8) (p : ByteArray) (k : Nat) (h : k < p.size) :
    u8s (a ++ (p.data.toList.map foldB).take (k + 1)) = u8s (a ++ (p.data.toList.map foldB).take k) ++ [.int .u8 (foldB p[k]).toNat] := by
  rw [← List.map_take, ba_take p k h, List.map_append, ← List.append_assoc, u8s_append, List.map_take]
  rfl

/-- what pieces are folded to -/
def tx (pre : List Piece) : List UInt8 := pre.flatMap fun x => if x.1.2 then x.1.1.data.toList.map foldB else x.1.1.data.toList
theorem tx_snoc (pre : List Piece) (x : Piece) : tx (pre ++ [x]) = tx pre ++ (if x.1.2 then x.1.1.data.toList.map foldB else x.1.1.data.toList) := by simp [tx]
theorem tx_len (pre : List Piece) : (tx pre).length ≤ pre.length * 1000000 := by
  induction pre using snoc_ind with
  | nil => simp [tx]
  | snoc l x ih =>
    rw [tx_snoc, List.length_append]
    have hx := x.2
    have e : (if x.1.2 then x.1.1.data.toList.map foldB else x.1.1.data.toList).length = x.1.1.size := by split <;> simp
    rw [e]
    simp only [List.length_append, List.length_cons, List.length_nil]
    omega
theorem tx_fold {pre : List Piece} (h : okAll pre) : tx pre = foldL (flat pre) := by
  induction pre using snoc_ind with
  | nil => rfl
  | snoc l x ih =>
    rw [okAll_snoc] at h
    rw [tx_snoc, flat_snoc, foldL_append, ih h.1]
    congr 1
    obtain ⟨_, hb, _⟩ := h.2
    cases hx : x.1.2 with
    | true => simp [foldL]
    | false =>
      rw [hx] at hb
      simp only [Bool.false_eq_true, if_false]
      unfold foldL
      have : ∀ l : List UInt8, (∀ b ∈ l, tb b = false) → l = l.map foldB := by
        intro l
        induction l with
        | nil => intro _; rfl
        | cons b r ih =>
          intro h
          have hb := h b (by simp)
          simp only [tb, bne_eq_false_iff_eq] at hb
          rw [List.map_cons, hb, ← ih fun c hc => h c (by simp [hc])]
      exact this _ hb

/-- 'out = append(out, ..)' onto a box's own row: what the walk owes. -/
theorem boxed_app {W w1 : World} {n₀ B : Nat} {t e : TypeId} {size g cap k m : Nat} {v' : Value} {xs ys : List Value} (hv : Boxed W B t (.slice (some ⟨g, 0, none⟩) k cap)) (hte : t ≠ e)
    (hrow : W.ownsRow n₀ e size (.slice (some ⟨g, 0, none⟩) k cap) k xs) (hn₀ : n₀ ≤ W.heap.size) (hB : n₀ ≤ B) (hown' : w1.ownsRow n₀ e size v' m ys) (hgrow : W.grownBy w1 (some g)) :
    Boxed w1 B t (.slice (some ⟨g, 0, none⟩) k cap) ∧ Boxed (w1.setCell ⟨B, 0, none⟩ v') B t v' ∧ (w1.setCell ⟨B, 0, none⟩ v').ownsRow n₀ e size v' m ys ∧ KeepsOthers W (w1.setCell ⟨B, 0, none⟩ v') ∧ Below n₀ W (w1.setCell ⟨B, 0, none⟩ v') := by
  have hv1 : Boxed w1 B t (.slice (some ⟨g, 0, none⟩) k cap) := hv.kept hgrow (hv.not_row hte hrow)
  rcases hrow.2 with ⟨h, _⟩ | ⟨g0, cap0, cur, h, hb, hgb, _⟩
  · cases h
  · simp only [Value.slice.injEq, Option.some.injEq, Addr.mk.injEq, true_and, and_true] at h
    obtain ⟨rfl, rfl⟩ := h
    refine ⟨hv1, hv1.set v', hown'.kept (grownBy_setCell' w1 B v') (.inr (hv1.not_row hte hown').symm), ?_, ?_⟩
    · refine (KeepsOthers.of_grownBy hgrow fun j o ej hj => ?_).trans (KeepsOthers.setCell _ _ _)
      cases ej
      rw [hgb] at hj; cases hj; rfl
    · refine ((Below.refl n₀ W).grown hgrow hn₀ fun j ej => ?_).setCell (p := ⟨B, 0, none⟩) hB v'
      cases ej
      exact hb

theorem conv_own {P : Program} (W : World) (src dst e : TypeId) (base g cap : Nat) (l : List UInt8) (hs : P.underlying src = some (.slice e)) (he : P.underlying e = some (.int .u8)) (hd : P.underlying dst = some .string)
    (h : W.ownsRow base e 1 (.slice (some ⟨g, 0, none⟩) l.length cap) l.length (u8s l)) :
    (convert src dst (.slice (some ⟨g, 0, none⟩) l.length cap)).run P W = .ok (.string (bs l)) W :=
  run_convert_bytes_back W src dst e ⟨g, 0, none⟩ cap l hs he hd fun j hj => h.cells (g := g) rfl j _ (by simp [u8s, hj])

theorem Tryz.infoU8 : (Tryz.prog.info? 5).map (fun i => (i.zero, i.size, i.bytes)) = some (some (.int .u8 0), 1, 1) := by kernel_rfl

end Go.Proofs.YtkbgpajconhgjaaGreatDoor
end
section
/- The document's Text, Same, Compare of layer 1; awake. -/
namespace Go.Proofs.YtkbgpajconhgjaaGreatDoor
open Go.RowKit

/-- 'string([]byte{b})' -/
theorem conv_one {P : Program} (W : World) (src dst e : TypeId) (b : UInt8) (hs : P.underlying src = some (.slice e)) (he : P.underlying e = some (.int .u8)) (hd : P.underlying dst = some .string) :
    (convert src dst (.slice (some ⟨W.heap.size, 0, none⟩) 1 1)).run P (W.alloc (.cells #[.int .u8 b.toNat] e)) = .ok (.string (bs [b])) (W.alloc (.cells #[.int .u8 b.toNat] e)) :=
  run_convert_bytes_back (W.alloc (.cells #[.int .u8 b.toNat] e)) src dst e ⟨W.heap.size, 0, none⟩ 1 [b] hs he hd fun j hj => by
    simp at hj
    subst hj
    simp [Addr.add]
theorem bs_append (a b : List UInt8) : bs a ++ bs b = bs (a ++ b) := by
  apply ba_ext
  simp [bs]
theorem foldL_step (s : ByteArray) (k : Nat) (h : k < s.size) : bs (foldL (s.data.toList.take k)) ++ bs [foldB s[k]] = bs (foldL (s.data.toList.take (k + 1))) := by
  rw [bs_append, ba_take s k h, foldL_append]; rfl



theorem bs_inj {a b : List UInt8} (h : bs a = bs b) : a = b := by
  have := congrArg (fun x : ByteArray => x.data.toList) h
  simpa using this
end Go.Proofs.YtkbgpajconhgjaaGreatDoor
end
section
/- The document's Same and Compare of layer 1. -/
namespace Go.Proofs.YtkbgpajconhgjaaGreatDoor
open Go.RowKit



theorem less_cmpL : ∀ (x y : List UInt8), Op.bytesLess x y = true ↔ cmpL x y = -1
  | [], [] => by simp [Op.bytesLess, cmpL]
  | [], _ :: _ => by simp [Op.bytesLess, cmpL]
  | _ :: _, [] => by simp [Op.bytesLess, cmpL]
  | a :: x, b :: y => by
    simp only [Op.bytesLess, cmpL, Bool.or_eq_true, decide_eq_true_eq, Bool.and_eq_true, beq_iff_eq, UInt8.lt_iff_toNat_lt]
    by_cases h1 : a.toNat < b.toNat
    · simp [h1]
    · rw [if_neg h1]
      by_cases h2 : b.toNat < a.toNat
      · rw [if_pos h2]
        constructor
        · rintro (h | ⟨rfl, _⟩) <;> omega
        · intro h; cases h
      · rw [if_neg h2, ← less_cmpL x y]
        have : a = b := UInt8.toNat_inj.mp (by omega)
        subst this
        simp
theorem cmpL_three : ∀ (x y : List UInt8), cmpL x y = -1 ∨ cmpL x y = 0 ∨ cmpL x y = 1
  | [], [] => by simp [cmpL]
  | [], _ :: _ => by simp [cmpL]
  | _ :: _, [] => by simp [cmpL]
  | a :: x, b :: y => by
    simp only [cmpL]
    split
    · simp
    · split
      · simp
      · exact cmpL_three x y
theorem cmpF_lt {a b : List UInt8} {x y : ByteArray} (hx : x = bs (foldL a)) (hy : y = bs (foldL b)) (h : Op.bytesLess x.toList y.toList = true) : cmpF a b = -1 := by
  subst hx hy
  rw [ByteArray.toList_eq, ByteArray.toList_eq] at h
  exact (less_cmpL _ _).1 h
theorem cmpF_eq {a b : List UInt8} {x y : ByteArray} (hx : x = bs (foldL a)) (hy : y = bs (foldL b)) (h : (!x.toList == y.toList) = false) : cmpF a b = 0 := by
  subst hx hy
  rw [beq_bs] at h
  simp at h
  exact cmpL_zero.2 h
theorem cmpF_gt {a b : List UInt8} {x y : ByteArray} (hx : x = bs (foldL a)) (hy : y = bs (foldL b)) (h : Op.bytesLess x.toList y.toList = false) (h2 : (!x.toList == y.toList) = true) : cmpF a b = 1 := by
  subst hx hy
  rw [ByteArray.toList_eq, ByteArray.toList_eq] at h
  rw [beq_bs] at h2
  simp at h2
  rcases cmpL_three (foldL a) (foldL b) with h3 | h3 | h3
  · have := (less_cmpL (foldL a) (foldL b)).2 h3
    rw [bs_toList, bs_toList] at h
    rw [h] at this; cases this
  · exact absurd (cmpL_zero.1 h3) h2
  · exact h3

end Go.Proofs.YtkbgpajconhgjaaGreatDoor
end
