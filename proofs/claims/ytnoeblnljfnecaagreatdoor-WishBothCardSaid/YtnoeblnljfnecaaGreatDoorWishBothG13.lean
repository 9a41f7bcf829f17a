/- Texts of this proof, one behind the other. -/
import Derived.Test.YtnoeblnljfnecaaGreatDoorWishBothG7
import Derived.Deep.QuietTactic
import Derived.BigQuiet
import Derived.Outline
import Derived.Lib.Strings
import Derived.Lib.Bytealg
import Derived.Lib.IndexLaws
import Derived.Lib.Walk
import Derived.Test.YtnoeblnljfnecaaGreatDoorWishBothG3
import Derived.Test.YtnoeblnljfnecaaGreatDoorWishBothG12
import Derived.Test.YtnoeblnljfnecaaGreatDoorWishBothG2
import Derived.Test.YtnoeblnljfnecaaGreatDoorWishBothG4
import Derived.Lib.IndexAny
import Derived.Sort.LoopGhostIn
import Derived.IntWalk
section
/- valid.kindOf: what a byte is, where the rows of bytes lie as they are laid. -/
namespace Go.Proofs.YtnoeblnljfnecaaGreatDoor
open Go.RowKit

set_option maxRecDepth 100000 in
theorem idxByte0 (s : ByteArray) (c : Int) (w : World) :
    Calls Tryz.prog 118 #[.string s, .int .u8 c] w fun e w' => e = .returned (.int .i64 (Lib.indexByte s.data.toList c.toNat.toUInt8)) ∧ w = w' := by
  go_enter Tryz.func118, Tryz.ntmps118
  go_wp2
  rw [run_callFunc_extern Tryz.func142 (by kernel_rfl) (by kernel_rfl) (by kernel_rfl) (e := Extern.BytealgIndexByte.indexByte) (by kernel_rfl), Lib.run_indexByteString]
  simp only [Result.andThen]
  rw [Oper.upon_value]
  go_wp2
  go_ret
  exact ⟨rfl, rfl⟩
theorem idxByte (s : ByteArray) (c : Int) (w : World) :
    Calls Tryz.prog 109 #[.string s, .int .u8 c] w fun e w' => e = .returned (.int .i64 (Lib.indexByte s.data.toList c.toNat.toUInt8)) ∧ w = w' := by
  go_enter Tryz.func109, Tryz.ntmps109
  go_wp2_with (go_at_call 118; refine (idxByte0 _ _ _).mono ?_; rintro e w' ⟨rfl, rfl⟩)
  go_ret
  exact ⟨rfl, rfl⟩

/-- the rows of bytes, as they are laid -/
def laidRow (i : Nat) : List UInt8 := ([[65, 66, 67, 68, 69, 70, 71, 72, 73, 74, 75, 76, 77, 78, 79, 80, 81, 82, 83, 84, 85, 86, 87, 88, 89, 90, 97, 98, 99, 100, 101, 102, 103, 104, 105, 106, 107, 108, 109, 110, 111, 112, 113, 114, 115, 116, 117, 118, 119, 120, 121, 122], [48, 49, 50, 51, 52, 53, 54, 55, 56, 57], [91, 93, 92, 95, 94, 123, 124, 125, 96], [45], [46], [58], [44], [33, 64, 42, 63], [0, 13, 10], [7], [32]] : List (List UInt8)).getD i []
def Rowed (w : World) : Prop := ∀ i, i < 11 → ∃ s : ByteArray, w.cell? ⟨0, i, none⟩ = some (.string s) ∧ s.data.toList = laidRow i

/-- what a byte is, by the first rows -/
def kAcc (b : UInt8) : Nat → Int
  | 0 => 0
  | k + 1 => if 0 ≤ Lib.indexByte (laidRow k) b then bits .or .i64 (kAcc b k) (2 ^ k) else kAcc b k

theorem kAcc_yes {b : UInt8} {k : Nat} (hk : k < 11) (h : 0 ≤ Lib.indexByte (laidRow k) b) : bits .or .i64 (kAcc b k) (wrap64 (2 ^ k)) = kAcc b (k + 1) := by
  have e : wrap64 (2 ^ k) = 2 ^ k := by
    rcases (by omega : k = 0 ∨ k = 1 ∨ k = 2 ∨ k = 3 ∨ k = 4 ∨ k = 5 ∨ k = 6 ∨ k = 7 ∨ k = 8 ∨ k = 9 ∨ k = 10) with rfl|rfl|rfl|rfl|rfl|rfl|rfl|rfl|rfl|rfl|rfl <;> decide +kernel
  rw [e, kAcc, if_pos h]
theorem kAcc_no {b : UInt8} {k : Nat} (h : Lib.indexByte (laidRow k) b < 0) : kAcc b k = kAcc b (k + 1) := by
  rw [kAcc, if_neg (by omega)]

set_option maxHeartbeats 1000000 in
theorem kind_any (b : UInt8) (w : World) (hr : Rowed w) :
    Calls Tryz.prog 91 #[.int .u8 ↑b.toNat] w fun e w' => e = .returned (.int .i64 (kAcc b 11)) ∧ w = w' := by
  go_enter Tryz.func91, Tryz.ntmps91
  go_wp2_with fail
  go_loopw [3, 4, 5] (fun v _ i wr => ∃ k : Nat, k ≤ 11 ∧ i = .int .i64 k ∧ v = .int .i64 (kAcc b k) ∧ wr = w) (fun _ _ i _ => 11 - (Go.RowKit.intOf i).toNat)
  case atStart => exact ⟨0, by omega, rfl, rfl, rfl⟩
  case round =>
    obtain ⟨k, hk, rfl, rfl, rfl⟩ := hrel
    by_cases hlt : k < 11
    · obtain ⟨s, hs, hl⟩ := hr k hlt
      go_wp2_with (go_at_call 109; refine (idxByte _ _ _).mono ?_; rintro e w' ⟨rfl, rfl⟩)
      all_goals rename_i _h0 hx
      all_goals try (rw [show ((b.toNat : Int)).toNat.toUInt8 = b from by simp] at hx)
      all_goals refine ⟨⟨k + 1, by omega, by push_cast; rfl, ?_, by simp⟩, by simp only [Go.RowKit.intOf]; omega⟩
      all_goals first | rw [kAcc_yes hlt hx] | rw [kAcc_no hx]
    · obtain rfl : k = 11 := by omega
      go_wp2_with fail
      go_ret
      exact ⟨rfl, rfl⟩
end Go.Proofs.YtnoeblnljfnecaaGreatDoor
end
section
/- valid.sized, only, none, plain, and the answers' in, Letter, Digit, Sign: what each tells. -/
namespace Go.Proofs.YtnoeblnljfnecaaGreatDoor
open Go.RowKit

/-- all bytes of a text, with their places, are so -/
noncomputable def allI (s : ByteArray) (p : Nat → UInt8 → Bool) : Bool := @decide (∀ i (h : i < s.size), p i s[i] = true) (Classical.propDecidable _)
theorem allI_iff {s : ByteArray} {p : Nat → UInt8 → Bool} : allI s p = true ↔ ∀ i (h : i < s.size), p i s[i] = true := by
  unfold allI; exact @decide_eq_true_iff _ (Classical.propDecidable _)
theorem allI_no {s : ByteArray} {p : Nat → UInt8 → Bool} {k : Nat} (h : k < s.size) (hp : p k s[k] = false) : false = allI s p := by
  cases e : allI s p with
  | false => rfl
  | true => rw [allI_iff.1 e k h] at hp; cases hp
theorem allI_yes {s : ByteArray} {p : Nat → UInt8 → Bool} {k : Nat} (hk : s.size ≤ k) (h : ∀ i, i < k → ∀ (hi : i < s.size), p i s[i] = true) : true = allI s p :=
  (allI_iff.2 fun i hi => h i (by omega) hi).symm
theorem all_step {s : ByteArray} {p : Nat → UInt8 → Bool} {k : Nat} (h : ∀ i, i < k → ∀ (hi : i < s.size), p i s[i] = true) (hk : k < s.size) (hp : p k s[k] = true) :
    ∀ i, i < k + 1 → ∀ (hi : i < s.size), p i s[i] = true := by
  intro i h1 h2
  by_cases e : i = k
  · subst e; exact hp
  · exact h i (by omega) h2

/-- is a byte of one of some kinds? -/
def isK (kinds : Int) (b : UInt8) : Bool := !(bits .and .i64 (kAcc b 11) kinds == 0)

set_option maxHeartbeats 1000000 in
theorem only_any (s : ByteArray) (kinds : Int) (w : World) (hs : s.size ≤ 1000000) (hr : Rowed w) :
    Calls Tryz.prog 75 #[.string s, .int .i64 kinds] w fun e w' => e = .returned (.bool (allI s fun _ b => isK kinds b)) ∧ w = w' := by
  go_enter Tryz.func75, Tryz.ntmps75
  go_wp2_with fail
  go_loopw [8] (fun i wr => ∃ k : Nat, k ≤ s.size ∧ i = .int .i64 k ∧ (∀ i, i < k → ∀ (hi : i < s.size), (fun _ b => isK kinds b) i s[i] = true) ∧ wr = w) (fun i _ => s.size - (Go.RowKit.intOf i).toNat)
  case atStart => exact ⟨0, Nat.zero_le _, rfl, fun _ h => absurd h (Nat.not_lt_zero _), rfl⟩
  case round =>
    obtain ⟨k, hk, rfl, hq, rfl⟩ := hrel
    have Hq := Lib.hid hq
    clear hq
    by_cases hlt : k < s.size
    · cases hb : (bits .and .i64 (kAcc s[k] 11) kinds == 0)
      · go_wp2_with (go_at_call 91; refine (kind_any _ _ (by assumption)).mono ?_; rintro e w' ⟨rfl, rfl⟩)
        exact ⟨⟨k + 1, by omega, by push_cast; rfl, all_step Hq.out hlt (by simp only [isK, hb]; rfl), by simp⟩, by simp only [Go.RowKit.intOf]; omega⟩
      · go_wp2_with (go_at_call 91; refine (kind_any _ _ (by assumption)).mono ?_; rintro e w' ⟨rfl, rfl⟩)
        go_ret
        exact ⟨ret_bool (allI_no hlt (by simp only [isK, hb]; rfl)), rfl⟩
    · obtain rfl : k = s.size := by omega
      go_wp2_with fail
      go_ret
      exact ⟨ret_bool (allI_yes (Nat.le_refl _) Hq.out), rfl⟩



/-- can a byte be seen? -/
def seen (b : UInt8) : Bool := decide (33 ≤ b.toNat ∧ b.toNat ≤ 126)


def sizedB (n : Nat) (a b : Int) : Bool := decide (a ≤ n ∧ (n : Int) ≤ b)
theorem sized_any (s : ByteArray) (a b : Int) (w : World) :
    Calls Tryz.prog 74 #[.string s, .int .i64 a, .int .i64 b] w fun e w' => e = .returned (.bool (sizedB s.size a b)) ∧ w = w' := by
  by_cases h : a ≤ s.size
  · go_enter Tryz.func74, Tryz.ntmps74
    go_wp2_with fail
    go_ret
    exact ⟨ret_bool (by unfold sizedB; rw [Bool.eq_iff_iff]; simp; try omega), rfl⟩
  · go_enter Tryz.func74, Tryz.ntmps74
    go_wp2_with fail
    go_ret
    exact ⟨ret_bool (by unfold sizedB; rw [Bool.eq_iff_iff]; simp; try omega), rfl⟩
/-- is a byte one of a row? -/
def inB (l : List UInt8) (b : UInt8) : Bool := l.contains b
theorem at_mem (s : ByteArray) (k : Nat) (h : k < s.size) : s[k] ∈ s.data.toList := by
  have : s[k] = s.data.toList[k]'(by simpa using h) := rfl
  rw [this]; exact List.getElem_mem _
theorem mem_at {s : ByteArray} {b : UInt8} (h : b ∈ s.data.toList) : ∃ k, ∃ h : k < s.size, s[k] = b := by
  obtain ⟨k, hk, e⟩ := List.mem_iff_getElem.1 h
  exact ⟨k, by simpa using hk, e⟩
theorem inB_yes {s : ByteArray} {b : UInt8} {k : Nat} (h : k < s.size) (e : s[k] = b) : true = inB s.data.toList b := by
  unfold inB; symm; rw [List.contains_iff_mem, ← e]; exact at_mem s k h
theorem inB_no {s : ByteArray} {b : UInt8} {k : Nat} (hk : s.size ≤ k) (h : ∀ i, i < k → ∀ (hi : i < s.size), s[i] ≠ b) : false = inB s.data.toList b := by
  unfold inB; symm
  rw [Bool.eq_false_iff, ne_eq, List.contains_iff_mem]
  intro hm
  obtain ⟨i, hi, e⟩ := mem_at hm
  exact h i (by omega) hi e



def letterB (b : UInt8) : Bool := decide ((65 ≤ b.toNat ∧ b.toNat ≤ 90) ∨ (97 ≤ b.toNat ∧ b.toNat ≤ 122))
def digitB (b : UInt8) : Bool := decide (48 ≤ b.toNat ∧ b.toNat ≤ 57)
def signB (b : UInt8) : Bool := decide (b.toNat = 96) || inB [91, 93, 92, 95, 94, 123, 124, 125] b


end Go.Proofs.YtnoeblnljfnecaaGreatDoor
end
section
/- What the kinds of bytes are, byte by byte. -/
namespace Go.Proofs.YtnoeblnljfnecaaGreatDoor
open Go.RowKit

theorem all256 {p : UInt8 → Bool} (h : ((List.range 256).all fun n => p n.toUInt8) = true) (b : UInt8) : p b = true := by
  have := List.all_eq_true.1 h b.toNat (List.mem_range.2 b.toNat_lt)
  simpa using this
theorem isK5 (b : UInt8) : isK 5 b = (letterB b || signB b) := by
  have := all256 (p := fun b => isK 5 b == (letterB b || signB b)) (by kernel_rfl) b
  simpa using this
theorem isK15 (b : UInt8) : isK 15 b = (letterB b || signB b || digitB b || decide (b.toNat = 45)) := by
  have := all256 (p := fun b => isK 15 b == (letterB b || signB b || digitB b || decide (b.toNat = 45))) (by kernel_rfl) b
  simpa using this
/-- may a byte stand in a channel? -/
def chanB (b : UInt8) : Bool := !(decide (b.toNat = 0 ∨ b.toNat = 7 ∨ b.toNat = 10 ∨ b.toNat = 13 ∨ b.toNat = 32 ∨ b.toNat = 44 ∨ b.toNat = 58))
theorem isK1888 (b : UInt8) : isK 1888 b = !chanB b := by
  have := all256 (p := fun b => isK 1888 b == !chanB b) (by kernel_rfl) b
  simpa using this
theorem isK160 (b : UInt8) : isK 160 b = inB [33, 64, 42, 63, 58] b := by
  have := all256 (p := fun b => isK 160 b == inB [33, 64, 42, 63, 58] b) (by kernel_rfl) b
  simpa using this

end Go.Proofs.YtnoeblnljfnecaaGreatDoor
end
section
/- valid.Nick, Channel, User and the answers' ones: both tell the same of any text. -/
namespace Go.Proofs.YtnoeblnljfnecaaGreatDoor
open Go.RowKit

noncomputable def dec (p : Prop) : Bool := @decide p (Classical.propDecidable _)
theorem dec_iff {p : Prop} : dec p = true ↔ p := by unfold dec; exact @decide_eq_true_iff _ (Classical.propDecidable _)
theorem dec_yes {p : Prop} (h : p) : true = dec p := (dec_iff.2 h).symm
theorem dec_no {p : Prop} (h : ¬ p) : false = dec p := by
  cases e : dec p with
  | false => rfl
  | true => exact absurd (dec_iff.1 e) h
theorem dec_of {b : Bool} {p : Prop} (h : b = true ↔ p) : b = dec p := by
  rw [Bool.eq_iff_iff, h, dec_iff]

theorem sized_yes (s : ByteArray) (a b : Int) (w : World) (h : a ≤ s.size ∧ (s.size : Int) ≤ b) :
    Calls Tryz.prog 74 #[.string s, .int .i64 a, .int .i64 b] w fun e w' => e = .returned (.bool true) ∧ w = w' :=
  (sized_any s a b w).mono fun _ _ hh => by rw [show sizedB s.size a b = true from decide_eq_true h] at hh; exact hh
theorem sized_no (s : ByteArray) (a b : Int) (w : World) (h : ¬ (a ≤ s.size ∧ (s.size : Int) ≤ b)) :
    Calls Tryz.prog 74 #[.string s, .int .i64 a, .int .i64 b] w fun e w' => e = .returned (.bool false) ∧ w = w' :=
  (sized_any s a b w).mono fun _ _ hh => by rw [show sizedB s.size a b = false from decide_eq_false h] at hh; exact hh

/-- may a byte stand so in a nickname? -/
def nickAt (i : Nat) (b : UInt8) : Bool := letterB b || signB b || (decide (i ≠ 0) && (digitB b || decide (b.toNat = 45)))
def NickP (s : ByteArray) : Prop := (1 ≤ s.size ∧ s.size ≤ 16) ∧ ∀ i (h : i < s.size), nickAt i s[i] = true
def ChanP (s : ByteArray) : Prop := (2 ≤ s.size ∧ s.size ≤ 50) ∧ (∃ h : 0 < s.size, s[0].toNat = 35) ∧ ∀ i (h : i < s.size), chanB s[i] = true
def UserP (s : ByteArray) : Prop := (1 ≤ s.size ∧ s.size ≤ 10) ∧ ∀ i (h : i < s.size), (seen s[i] && !inB [33, 64, 42, 63, 58] s[i]) = true

theorem extract_one (s : ByteArray) (h : 1 ≤ s.size) (p : Nat → UInt8 → Bool) : allI (s.extract 0 1) p = p 0 s[0] := by
  rw [Bool.eq_iff_iff, allI_iff]
  have hs : (s.extract 0 1).size = 1 := by simp [ByteArray.size_extract]; omega
  have e : ∀ i (hi : i < (s.extract 0 1).size), (s.extract 0 1)[i] = s[0] := by
    intro i hi
    obtain rfl : i = 0 := by omega
    simp [ByteArray.getElem_extract]
  constructor
  · intro hh; have := hh 0 (by omega); rwa [e] at this
  · intro hh i hi; rw [e]; obtain rfl : i = 0 := by omega
    exact hh

set_option maxHeartbeats 1000000 in
theorem nick_v (s : ByteArray) (w : World) (hs : s.size ≤ 1000000) (hr : Rowed w) :
    Calls Tryz.prog 59 #[.string s] w fun e w' => e = .returned (.bool (dec (NickP s))) ∧ w = w' := by
  by_cases h : 1 ≤ s.size ∧ s.size ≤ 16
  · have h1 := h.1
    go_enter Tryz.func59, Tryz.ntmps59
    go_wp2_with (first | (go_at_call 74; refine (sized_yes _ _ _ _ (by omega)).mono ?_; rintro e w' ⟨rfl, rfl⟩) | (go_at_call 75; refine (only_any _ _ _ (by first | assumption | (simp [ByteArray.size_extract]; omega)) (by assumption)).mono ?_; rintro e w' ⟨rfl, rfl⟩))
    all_goals go_ret
    all_goals rename_i hx
    · rw [extract_one s h1] at hx
      refine ⟨ret_bool (dec_of ?_), rfl⟩
      rw [allI_iff]
      constructor
      · intro hh
        refine ⟨h, fun i hi => ?_⟩
        have a := hh i hi
        rw [isK15] at a; rw [isK5] at hx
        unfold nickAt
        by_cases e : i = 0
        · subst e; rw [hx]; rfl
        · rw [decide_eq_true e, Bool.true_and, ← Bool.or_assoc]; exact a
      · intro hh i hi
        have a := hh.2 i hi
        rw [isK15]
        unfold nickAt at a
        simp only [Bool.or_eq_true, Bool.and_eq_true] at a ⊢
        rcases a with a | ⟨_, a | a⟩
        · exact .inl (.inl a)
        · exact .inl (.inr a)
        · exact .inr a
    · rw [extract_one s h1, isK5] at hx
      refine ⟨ret_bool (dec_no fun hh => hx ?_), rfl⟩
      have a := hh.2 0 (by omega)
      unfold nickAt at a
      simpa using a
  · go_enter Tryz.func59, Tryz.ntmps59
    go_wp2_with (go_at_call 74; refine (sized_no _ _ _ _ (by omega)).mono ?_; rintro e w' ⟨rfl, rfl⟩)
    go_ret
    exact ⟨ret_bool (dec_no fun hh => h hh.1), rfl⟩









end Go.Proofs.YtnoeblnljfnecaaGreatDoor
end
section
/- valid.Host, Server, Key and the answers' ones: both tell the same of any text. -/
namespace Go.Proofs.YtnoeblnljfnecaaGreatDoor
set_option linter.unusedVariables false
set_option linter.unusedSimpArgs false
open Go.RowKit

theorem isK59 (b : UInt8) : isK 59 b = (letterB b || digitB b || decide (b.toNat = 46) || decide (b.toNat = 45) || decide (b.toNat = 58)) := by
  have := all256 (p := fun b => isK 59 b == (letterB b || digitB b || decide (b.toNat = 46) || decide (b.toNat = 45) || decide (b.toNat = 58))) (by kernel_rfl) b
  simpa using this
theorem isK32 (b : UInt8) : isK 32 b = decide (b.toNat = 58) := by
  have := all256 (p := fun b => isK 32 b == decide (b.toNat = 58)) (by kernel_rfl) b
  simpa using this
theorem isK16 (b : UInt8) : isK 16 b = decide (b.toNat = 46) := by
  have := all256 (p := fun b => isK 16 b == decide (b.toNat = 46)) (by kernel_rfl) b
  simpa using this
theorem isK1 (b : UInt8) : isK 1 b = letterB b := by
  have := all256 (p := fun b => isK 1 b == letterB b) (by kernel_rfl) b
  simpa using this
theorem isK64 (b : UInt8) : isK 64 b = decide (b.toNat = 44) := by
  have := all256 (p := fun b => isK 64 b == decide (b.toNat = 44)) (by kernel_rfl) b
  simpa using this

/-- may a byte stand so in a host? -/
def hostAt (i : Nat) (b : UInt8) : Bool := letterB b || digitB b || decide (b.toNat = 46) || decide (b.toNat = 45) || (decide (b.toNat = 58) && decide (i ≠ 0))
def HostP (s : ByteArray) : Prop := (1 ≤ s.size ∧ s.size ≤ 63) ∧ ∀ i (h : i < s.size), hostAt i s[i] = true
def ServP (s : ByteArray) : Prop := HostP s ∧ (∃ h : 0 < s.size, letterB s[0] = true) ∧ inB s.data.toList 46 = true ∧ inB s.data.toList 58 = false
def KeyP (s : ByteArray) : Prop := (1 ≤ s.size ∧ s.size ≤ 23) ∧ (∀ i (h : i < s.size), (seen s[i] && !decide (s[i].toNat = 44)) = true) ∧ ∃ h : 0 < s.size, s[0].toNat ≠ 58
theorem u8_eq {b : UInt8} {n : Nat} (hn : n < 256) : b.toNat = n ↔ b = n.toUInt8 := by
  constructor
  · intro h; rw [← h]; simp
  · intro h; rw [h]; simp; omega
theorem allI_noneB (s : ByteArray) (c : UInt8) : allI s (fun _ b => !decide (b.toNat = c.toNat)) = !inB s.data.toList c := by
  rw [Bool.eq_iff_iff, allI_iff]
  constructor
  · intro h
    rw [Bool.not_eq_true']
    symm
    exact inB_no (Nat.le_refl _) fun i _ hi e => by have := h i hi; rw [e] at this; simp at this
  · intro h i hi
    rw [Bool.not_eq_true'] at h
    by_cases e : s[i] = c
    · have := inB_yes hi e; rw [h] at this; cases this
    · simp; intro e2; exact e (UInt8.toNat_inj.mp e2)







end Go.Proofs.YtnoeblnljfnecaaGreatDoor
end
section
/- Layer 15: what may be a password, on both sides; the answers' Check. -/
namespace Go.Proofs.YtnoeblnljfnecaaGreatDoor
set_option linter.unusedVariables false
set_option linter.unusedSimpArgs false
open Go.RowKit

theorem rowed_below {w w' : World} {B : Nat} (h : Rowed w) (hB : w.heap.size ≤ B) (hb : Below B w w') : Rowed w' := by
  intro i hi
  obtain ⟨s, h1, h2⟩ := h i hi
  refine ⟨s, ?_, h2⟩
  rw [← h1]
  exact hb.cell (Nat.lt_of_lt_of_le (World.block_lt_of_cell? _ _ h1) hB)
def PassP (s : ByteArray) : Prop := (∀ i (h : i < s.size), seen s[i] = true) ∧ s.size ≤ 50 ∧ ∀ h : 0 < s.size, s[0].toNat ≠ 58
/-- does a text begin with a byte? -/
def headB (s : ByteArray) (c : UInt8) : Bool := s.data.toList.head? == some c
theorem head_at {s : ByteArray} {c : UInt8} (h : 0 < s.size) : headB s c = (s[0] == c) := by
  unfold headB
  have : s.data.toList.head? = some s[0] := by
    rw [List.head?_eq_getElem?, List.getElem?_eq_getElem (by simpa using h)]; rfl
  rw [this]; rfl
theorem head_em {s : ByteArray} {c : UInt8} (h : s.size = 0) : headB s c = false := by
  unfold headB
  rw [str_nil h]; rfl
theorem extract1 (s : ByteArray) (c : UInt8) (h : 0 < s.size) : ((s.extract 0 1).toList == (⟨#[c]⟩ : ByteArray).toList) = (s[0] == c) := by
  have e : (s.extract 0 1).data.toList = [s[0]] := by
    rw [Lib.extract_data, List.drop_zero]
    have := List.take_succ_eq_append_getElem (l := s.data.toList) (i := 0) (by simpa using h)
    rw [Nat.sub_zero]
    rw [this]; rfl
  rw [beq_ba, e]
  show ([s[0]] == [c]) = _
  simp










def inR (n a b : Int) : Bool := decide (a ≤ n ∧ n ≤ b)
end Go.Proofs.YtnoeblnljfnecaaGreatDoor
end
section
/- Layer 12: strings.Index with one byte, CutPrefix, SplitSeq at a blank as a function that ranges. -/
namespace Go.Proofs.YtnoeblnljfnecaaGreatDoor
set_option linter.unusedVariables false
set_option linter.unusedSimpArgs false
open Go.RowKit Go.Shelf
attribute [local go_sem] Oper.semAt_some

set_option maxRecDepth 1000000 in
set_option maxHeartbeats 2000000 in
theorem ix1_lite (s : ByteArray) (c : UInt8) (w : World) (hs : s.size ≤ 1000000) :
    Calls Tryz.prog 108 #[.string s, .string ⟨#[c]⟩] w fun e w' => e = .returned (.int .i64 (Lib.indexByte s.data.toList c)) ∧ w = w' := by
  go_enter Tryz.func108, Tryz.ntmps108
  go_wp2_with (go_at_call 118; refine (idxByte0 _ _ _).mono ?_; rintro e w' ⟨rfl, rfl⟩)
  · go_ret
    rename_i h
    rw [ByteArray.toList_eq, beq_iff_eq] at h
    exact ⟨ret_int (by rw [← h]; simp [Lib.indexByte]), rfl⟩
  · go_ret
    exact ⟨ret_int rfl, rfl⟩
set_option maxRecDepth 1000000 in
theorem ix1 (s : ByteArray) (c : UInt8) (w : World) (hs : s.size ≤ 1000000) :
    Calls Tryz.prog 90 #[.string s, .string ⟨#[c]⟩] w fun e w' => e = .returned (.int .i64 (Lib.indexByte s.data.toList c)) ∧ w = w' := by
  go_enter Tryz.func90, Tryz.ntmps90
  go_wp2_with (go_at_call 108; refine (ix1_lite _ _ _ hs).mono ?_; rintro e w' ⟨rfl, rfl⟩)
  go_ret
  exact ⟨rfl, rfl⟩

/-- a text at its first blank -/
theorem split_none (R : ByteArray) (h : Lib.indexByte R.data.toList 32 = -1) : splitL R.data.toList = [R.data.toList] :=
  splitL_none _ (fun hm => by
    obtain ⟨k, hk⟩ := List.getElem?_of_mem hm
    exact Lib.indexByte_none h k hk)
theorem split_some (R : ByteArray) (o : Nat) (h : Lib.indexByte R.data.toList 32 = o) : o < R.size ∧ splitL R.data.toList = (R.extract 0 o).data.toList :: splitL (R.extract (o + 1) R.size).data.toList := by
  obtain ⟨h1, h2⟩ := Lib.indexByte_some h
  have ho : o < R.data.toList.length := (List.getElem?_eq_some_iff.1 h1).1
  have e : R.data.toList = R.data.toList.take o ++ 32 :: R.data.toList.drop (o + 1) := by
    have h3 := List.drop_eq_getElem_cons ho
    have h4 : R.data.toList[o] = 32 := (List.getElem?_eq_some_iff.1 h1).2
    rw [h4] at h3
    rw [← h3, List.take_append_drop]
  have hn : (32 : UInt8) ∉ R.data.toList.take o := fun hm => by
    obtain ⟨k, hk⟩ := List.getElem?_of_mem hm
    rw [List.getElem?_take] at hk
    split at hk
    · exact h2 k ‹_› hk
    · cases hk
  refine ⟨by simpa using ho, ?_⟩
  have e1 : (R.extract 0 o).data.toList = R.data.toList.take o := by simp
  have e2 : (R.extract (o + 1) R.size).data.toList = R.data.toList.drop (o + 1) := by
    simp [List.take_of_length_le]
  rw [e1, e2]
  conv => lhs; rw [e]
  exact splitL_cut _ _ hn

abbrev Word := { x : ByteArray // x.size ≤ 1000000 }
abbrev encWord (x : Word) : Array Value := #[.string x.1]
def wordsL (l : List Word) : List (List UInt8) := l.map fun x => x.1.data.toList
theorem wordsL_snoc (l : List Word) (x : Word) : wordsL (l ++ [x]) = wordsL l ++ [x.1.data.toList] := by simp [wordsL]

theorem split_any (s : ByteArray) (w : World) :
    Calls Tryz.prog 58 #[.string s, .string ⟨#[32]⟩] w fun e w' => e = .returned (.func (.func 88) #[] #[.pointer (some ⟨w.heap.size + 1, 0, none⟩), .pointer (some ⟨w.heap.size, 0, none⟩), .pointer (some ⟨w.heap.size + 1 + 1, 0, none⟩)]) ∧
      w' = ((w.alloc (.cells #[.string s] 9)).alloc (.cells #[.string ⟨#[32]⟩] 9)).alloc (.cells #[.int .i64 0] 3) := by
  have h : Calls Tryz.prog 73 #[.string s, .string ⟨#[32]⟩, .int .i64 0] w fun e w' => e = .returned (.func (.func 88) #[] #[.pointer (some ⟨w.heap.size + 1, 0, none⟩), .pointer (some ⟨w.heap.size, 0, none⟩), .pointer (some ⟨w.heap.size + 1 + 1, 0, none⟩)]) ∧
      w' = ((w.alloc (.cells #[.string s] 9)).alloc (.cells #[.string ⟨#[32]⟩] 9)).alloc (.cells #[.int .i64 0] 3) := by
    go_enter Tryz.func73, Tryz.ntmps73
    go_wp2
    go_ret
    exact ⟨rfl, rfl⟩
  go_enter Tryz.func58, Tryz.ntmps58
  go_wp2_with (go_at_call 73; refine h.mono ?_; rintro e w' ⟨rfl, hw⟩)
  go_ret
  first | exact ⟨rfl, hw⟩ | exact ⟨rfl, rfl⟩

set_option maxRecDepth 100000 in
set_option maxHeartbeats 4000000 in
theorem split_stops (n : Nat) (hn : 4 ≤ n) (B : Nat) (s : ByteArray) (w : World) (hs : s.size ≤ 1000000) (b0 : Boxed w B 9 (.string s)) (b1 : Boxed w (B + 1) 9 (.string ⟨#[32]⟩)) (b2 : Boxed w (B + 1 + 1) 3 (.int .i64 0)) :
    SeqW Fence.wide n Tryz.prog 88 #[.pointer (some ⟨B + 1, 0, none⟩), .pointer (some ⟨B, 0, none⟩), .pointer (some ⟨B + 1 + 1, 0, none⟩)] encWord (fun b => b = B ∨ b = B + 1 ∨ b = B + 1 + 1)
      (fun xs => wordsL xs = splitL s.data.toList) (fun pre => ∃ r, wordsL pre ++ r = splitL s.data.toList) (s.size + 1) w := fun l J Jx V hV hJ hJx hY h0 => by
  have d0 : Boxed V B 9 (.string s) := (hV.block B b0.lt).trans b0
  have d1 : Boxed V (B + 1) 9 (.string ⟨#[32]⟩) := (hV.block (B + 1) b1.lt).trans b1
  have d2 : Boxed V (B + 1 + 1) 3 (.int .i64 0) := (hV.block (B + 1 + 1) b2.lt).trans b2
  have e1 := d1.cell
  clear b0 b1 b2
  refine callsIn_of_wp Tryz.func88 rfl trivial ?_ rfl
  simp only [Tryz.ntmps88, List.size_toArray, List.length_cons, List.length_nil, Nat.reduceAdd, Nat.reduceSub, Array.replicate_succ, Array.replicate_zero, List.push_toArray, List.append_toArray, List.nil_append, List.cons_append]
  gi_wp2_with fail
  gi_loopg [29] s.size (fun r _ wr => ∃ (pre : List Word) (R : ByteArray), r = R.size ∧ Hid (wordsL pre ++ splitL R.data.toList = splitL s.data.toList) ∧ pre.length + R.size ≤ s.size ∧ Boxed wr B 9 (.string R) ∧ Boxed wr (B + 1) 9 (.string ⟨#[32]⟩) ∧ Boxed wr (B + 1 + 1) 3 (.int .i64 0) ∧ J pre wr)
  case atStart => exact ⟨[], s, rfl, by simp [wordsL, Hid], by simp, d0, d1, d2, h0⟩
  case round =>
    obtain ⟨pre, R, hr, HR, hsz, k0, k1, k2, hJs⟩ := hrel
    have hR : R.size ≤ 1000000 := by omega
    have HG := Lib.hid hr
    clear hr d0 d1 d2 e1
    have c0 := k0.cell; have c1 := k1.cell; have c2 := k2.cell
    have hix : ∀ W, Calls Tryz.prog 90 #[.string R, .string ⟨#[32]⟩] W fun e w' => e = .returned (.int .i64 (Lib.indexByte R.data.toList 32)) ∧ W = w' := fun W => ix1 R 32 W hR
    have hge := Lib.indexByte_ge R.data.toList 32
    by_cases hno : Lib.indexByte R.data.toList 32 = -1
    · have hsp := split_none R hno
      rw [hno] at hix
      have HN : Hid (wordsL (pre ++ [⟨R, hR⟩]) = splitL s.data.toList) := by
        have := HR.out; rw [hsp] at this; rw [wordsL_snoc]; exact this
      clear hno hsp hge
      obtain ⟨fn, tmps, assign, body, hy, hRd⟩ := hY pre ⟨R, hR⟩ wr hJs (by omega)
      dsimp only [encWord] at hy
      gi_wp2_with fail
      refine ⟨trivial, fun _ => by omega, ((callsIn_wide (n := n - 1)).2 (hix _)).mono ?_⟩
      rintro e w' ⟨rfl, rfl⟩
      gi_wp2_with fail
      refine ⟨fun _ => by omega, hRd.mono ?_⟩
      rintro e W3 (⟨rfl, hJ3, _⟩ | ⟨rfl, hJx3⟩)
      · gi_wp2_with fail
        go_end0
        exact ⟨⟨_, rfl⟩, .inl ⟨_, HN.out, hJ3⟩⟩
      · gi_wp2_with fail
        go_end0
        exact ⟨⟨_, rfl⟩, .inr ⟨_, ⟨[], by rw [List.append_nil]; exact HN.out⟩, hJx3⟩⟩
    · obtain ⟨o, ho⟩ : ∃ o : Nat, Lib.indexByte R.data.toList 32 = o := ⟨(Lib.indexByte R.data.toList 32).toNat, by omega⟩
      obtain ⟨hoR, hsp⟩ := split_some R o ho
      rw [ho] at hix
      have hxs : (R.extract 0 o).size ≤ 1000000 := by simp; omega
      have hrs : (R.extract (o + 1) R.size).size = R.size - (o + 1) := by simp
      have HN : Hid (wordsL (pre ++ [⟨R.extract 0 o, hxs⟩]) ++ splitL (R.extract (o + 1) R.size).data.toList = splitL s.data.toList) := by
        have := HR.out; rw [hsp] at this; rw [wordsL_snoc, List.append_assoc]; exact this
      have HRS := Lib.hid hrs
      have hp0 : ¬ ((o : Int) < 0) := by omega
      have hp1 : (o : Int) ≤ (R.size : Int) := by omega
      have hp2 : (o : Int) + 1 ≤ (R.size : Int) := by omega
      clear hno hsp hge ho hrs
      obtain ⟨fn, tmps, assign, body, hy, hRd⟩ := hY pre ⟨R.extract 0 o, hxs⟩ wr hJs (by omega)
      dsimp only [encWord] at hy
      gi_wp2_with fail
      refine ⟨trivial, fun _ => by omega, ((callsIn_wide (n := n - 1)).2 (hix _)).mono ?_⟩
      rintro e w' ⟨rfl, rfl⟩
      gi_wp2_with fail
      refine ⟨fun _ => by omega, hRd.mono ?_⟩
      rintro e W3 (⟨rfl, hJ3, hS3⟩ | ⟨rfl, hJx3⟩)
      · have m0 : Boxed W3 B 9 (.string R) := (hS3 B (.inl rfl)).trans k0
        have m1 : Boxed W3 (B + 1) 9 (.string ⟨#[32]⟩) := (hS3 (B + 1) (.inr (.inl rfl))).trans k1
        have m2 : Boxed W3 (B + 1 + 1) 3 (.int .i64 0) := (hS3 (B + 1 + 1) (.inr (.inr rfl))).trans k2
        have g0 := m0.cell; have g1 := m1.cell; have f0 := m0.frozen
        have hJ4 : J (pre ++ [⟨R.extract 0 o, hxs⟩]) (W3.setCell ⟨B, 0, none⟩ (.string (R.extract (o + 1) R.size))) := hJ _ _ _ (some B) hJ3 (grownBy_setCell' _ _ _) (fun r e => by cases e; exact .inl (.inl rfl))
        have HJ := Lib.hid hJ4
        clear hJ4 hJ3 hS3
        gi_wp2_with fail
        gi_roundg (R.extract (o + 1) R.size).size
        case measure => rw [HG.out, HRS.out]; omega
        case rel => exact ⟨_, _, rfl, HN, by rw [HRS.out]; simp; omega, m0.set _, m1.other (by omega) _, m2.other (by omega) _, HJ.out⟩
      · gi_wp2_with fail
        refine bodyPost_ret (results_none rfl _ _ _) rfl ?_
        exact ⟨⟨_, rfl⟩, .inr ⟨_, ⟨_, HN.out⟩, hJx3⟩⟩
end Go.Proofs.YtnoeblnljfnecaaGreatDoor
end
section
/- A range over a function that writes blocks Z of its own between the rounds: as RangeF. -/
namespace Go.Proofs.YtnoeblnljfnecaaGreatDoor
open Go Go.RowKit

/-- what a function that ranges is worth, if it tells the row xs out of blocks Y -/
def SeqZ {α : Type} (P : Program) (g : Nat) (lb : Array Value) (encs : α → Array Value) (Y Z : Nat → Prop) (xs : List α) (w : World) : Prop :=
  ∀ (l : Nat) (J Jx : List α → (Nat → Prop) → World → Prop) (X : Nat → Prop) (V : World), SameX (fun b => Y b ∨ Z b) w V → (∀ b, Y b ∨ Z b → b < V.heap.size) → (∀ k, X k → k < V.heap.size ∧ ¬ (Y k ∨ Z k)) → Stays J → Stays Jx →
    (∀ pre x r X1 V1, pre ++ x :: r = xs → GrowX X X1 V V1 → J pre X1 V1 → Fr (fun k => X k ∨ Z k) V V1 →
      YieldAt Fence.wide 0 P l (encs x) V1 fun e V' => ∃ X2, GrowX X1 X2 V1 V' ∧ Fr X1 V1 V' ∧ ((e = .returned (.bool true) ∧ J (pre ++ [x]) X2 V') ∨ (e = .returned (.bool false) ∧ Jx (pre ++ [x]) X2 V'))) →
    J [] X V → Calls P g (#[.func (.yield l) #[] #[]] ++ lb) V fun e V' => (∃ v, e = .returned v) ∧ ∃ X2, GrowX X X2 V V' ∧ Fr (fun k => X k ∨ Z k) V V' ∧ (J xs X2 V' ∨ ∃ pre r, pre ++ r = xs ∧ Jx pre X2 V')
/-- the rounds, of whatever loop: what the function that ranges makes of them -/
theorem range_coreZ {P : Program} {n : Nat} {α : Type} {ps : Array Tmp} {assign body : Code} {fn : Nat} {tmps : Array Value} {d gf l : Nat} {lb : Array Value} {Y Z X E : Nat → Prop} {encs : α → Array Value} {xs : List α} {w V1 : World}
    (I : List α → (Nat → Prop) → World → Prop) (Ix : Code → List α → (Nat → Prop) → World → Prop)
    (hseq : SeqZ P gf lb encs Y Z xs w) (hX : ∀ k, X k → k < w.heap.size ∧ ¬ (Y k ∨ Z k)) (hY : ∀ b, Y b ∨ Z b → b < w.heap.size) (hps : ∀ x, (encs x).size = ps.size) (hI : Stays I) (hIx : ∀ c, Stays (Ix c)) (h0 : I [] X w)
    (hw : Fr (fun _ => False) w V1) (hl : w.heap.size ≤ l) (hE : ∀ k, E k → w.heap.size ≤ k ∧ k < V1.heap.size ∧ k ≠ l) (hr : V1.heap[l]? = some (.loop (recF fn tmps ps assign body d .ready none)))
    (hround : ∀ pre x r X1 V (K : Act → World → Prop) rb, pre ++ x :: r = xs → I pre X1 V → GrowX X X1 w V → (∀ k, X1 k → k ≠ l ∧ ¬ E k) → Fr (fun k => X k ∨ Z k) w V → l < V.heap.size →
      (∀ a1 Va, Fr (fun _ => False) V Va → (∀ Vb, Fr (fun k => k = l) V Vb → Vb.heap.size = Va.heap.size → (∀ k, k ≠ l → Vb.heap[k]? = Va.heap[k]?) → Vb.heap[l]? = some (.loop rb) → body.wpIn (Fence.wide.inRound l) n P (EndF l rb X1 I Ix (pre ++ [x]) V) a1 Vb) → K a1 Va) →
      assign.wpIn (Fence.wide.inRound l) n P (Exit.then K fun _ _ _ => False) { tmps := (ps.zip (encs x)).foldl (fun t (p, v) => t.setIfInBounds p v) tmps, defers := [] } V) :
    Calls P gf (#[.func (.yield l) #[] #[]] ++ lb) V1 fun e V2 => (∃ v, e = .returned v) ∧ ∃ X2, GrowX X X2 w V2 ∧ (∀ k, X2 k → k ≠ l ∧ ¬ E k) ∧ Fr (fun k => X k ∨ Z k) w V2 ∧ (∀ k, E k → V2.heap[k]? = V1.heap[k]?) ∧ l < V2.heap.size ∧
      ((I xs X2 V2 ∧ V2.heap[l]? = some (.loop (recF fn tmps ps assign body d .ready none))) ∨ ∃ pre r c, pre ++ r = xs ∧ Ix c pre X2 V2 ∧ V2.heap[l]? = some (.loop (recF fn tmps ps assign body d .done (some c)))) := by
  have hlV := blk_lt hr
  have key : ∀ (Q : List α → (Nat → Prop) → World → Prop) (o : Obj), Stays Q → Stays (fun pre X' V => ∃ X1, (∀ k, X' k ↔ (X1 k ∨ k = l ∨ E k)) ∧ Q pre X1 V ∧ V.heap[l]? = some o ∧ (∀ k, E k → V.heap[k]? = V1.heap[k]?) ∧ (∀ k, X1 k → k ≠ l ∧ ¬ E k)) := fun Q o hQ s X' V V' ⟨X1, h1, h2, h3, h4, h5⟩ hlt hf =>
    ⟨X1, h1, hQ s X1 V V' h2 (fun k hk => hlt k ((h1 k).2 (.inl hk))) (hf.mono fun k _ hn e => hn ((h1 k).2 (.inl e))), (hf.block l (blk_lt h3) (fun e => e ((h1 l).2 (.inr (.inl rfl))))).trans h3,
      fun k hk => (hf.block k (hlt k ((h1 k).2 (.inr (.inr hk)))) (fun e => e ((h1 k).2 (.inr (.inr hk))))).trans (h4 k hk), h5⟩
  have thru : ∀ {V2 : World}, Fr (fun k => (X k ∨ k = l ∨ E k) ∨ Z k) V1 V2 → Fr (fun k => X k ∨ Z k) w V2 := fun hf => (hw.mono fun _ _ h => h.elim).trans3 hf fun k hk e => by
    rcases e with (e | rfl | e) | e
    · exact .inl e
    · omega
    · have := (hE k e).1; omega
    · exact .inr e
  have grow : ∀ {X' X1 : Nat → Prop} {V2 : World}, (∀ k, X' k ↔ (X1 k ∨ k = l ∨ E k)) → GrowX (fun k => X k ∨ k = l ∨ E k) X' V1 V2 → GrowX X X1 w V2 := fun h1 hg k hk => by
    have h2 := hg k ((h1 k).2 (.inl hk))
    refine ⟨h2.1, fun hlt => ?_⟩
    rcases h2.2 (Nat.lt_of_lt_of_le hlt hw.size) with e | rfl | e
    · exact e
    · omega
    · have := (hE k e).1; omega
  refine (hseq l (fun pre X' V => ∃ X1, (∀ k, X' k ↔ (X1 k ∨ k = l ∨ E k)) ∧ I pre X1 V ∧ V.heap[l]? = some (.loop (recF fn tmps ps assign body d .ready none)) ∧ (∀ k, E k → V.heap[k]? = V1.heap[k]?) ∧ (∀ k, X1 k → k ≠ l ∧ ¬ E k))
    (fun pre X' V => ∃ c, ∃ X1, (∀ k, X' k ↔ (X1 k ∨ k = l ∨ E k)) ∧ Ix c pre X1 V ∧ V.heap[l]? = some (.loop (recF fn tmps ps assign body d .done (some c))) ∧ (∀ k, E k → V.heap[k]? = V1.heap[k]?) ∧ (∀ k, X1 k → k ≠ l ∧ ¬ E k))
    (fun k => X k ∨ k = l ∨ E k) V1 (fun b hb => hw.block b (hY b hb) fun e => e) (fun b hb => Nat.lt_of_lt_of_le (hY b hb) hw.size) ?hX (key I _ hI) (fun s X' V V' ⟨c, h⟩ h1 h2 => ⟨c, key (Ix c) _ (hIx c) s X' V V' h h1 h2⟩) ?round
    ⟨X, fun k => Iff.rfl, hI [] X w V1 h0 (fun k hk => (hX k hk).1) (hw.mono fun _ _ h => h.elim), hr, fun _ _ => rfl, fun k hk => ⟨by have := (hX k hk).1; omega, fun e => by have := (hX k hk).1; have := (hE k e).1; omega⟩⟩).mono ?behind
  case hX =>
    rintro k (e | rfl | e)
    · exact ⟨Nat.lt_of_lt_of_le (hX k e).1 hw.size, (hX k e).2⟩
    · exact ⟨hlV, fun e => by have := hY _ e; omega⟩
    · exact ⟨(hE k e).2.1, fun e2 => by have := hY _ e2; have := (hE k e).1; omega⟩
  case behind =>
    rintro e V2 ⟨hv, X', hg, hf, (⟨X1, h1, h2, h3, h4, h5⟩ | ⟨pre, r, hpr, c, X1, h1, h2, h3, h4, h5⟩)⟩
    · exact ⟨hv, X1, grow h1 hg, h5, thru hf, h4, blk_lt h3, .inl ⟨h2, h3⟩⟩
    · exact ⟨hv, X1, grow h1 hg, h5, thru hf, h4, blk_lt h3, .inr ⟨pre, r, c, hpr, h2, h3⟩⟩
  case round =>
    rintro pre x r X' V hpx hgx ⟨X1, h1, h2, h3, h4, h5⟩ hfx
    have hy := run_yield (P := P) (args := encs x) h3 (by exact hps x)
    have hlv := blk_lt h3
    have hV1 := hfx.size
    obtain ⟨rb, hrb⟩ : ∃ rb : Loop, { recF fn tmps ps assign body d .ready none with state := .busy } = rb := ⟨_, rfl⟩
    refine ⟨fn, _, assign, body, hy, round_wide (n := n) (.inl rfl) (roundIn_of_wpIn (F := Fence.wide) trivial (hround pre x r X1 V _ rb hpx h2 (grow h1 hgx) h5 (thru hfx) hlv fun a1 Va hfa hbody => ⟨_, run_beginRound (hfa.blk h3 fun h => h) rfl, ?_⟩))⟩
    rw [hrb]
    have hla : l < Va.heap.size := Nat.lt_of_lt_of_le hlv hfa.size
    refine wpIn_mono (hbody (Va.putObj l (.loop rb)) (Fr.putObj (X := fun k => k = l) (hfa.mono fun _ _ h => h.elim) l rfl _) (putObj_size _ _ _) (fun k hk => World.putObj_heap_other hk) (World.putObj_heap_same hla)) ?_
    have fin : ∀ (Q : List α → (Nat → Prop) → World → Prop), Stays Q → ∀ {X2 : Nat → Prop} {V3 : World} (o : Obj), GrowX X1 X2 V V3 → Fr (fun k => k = l ∨ X1 k) V V3 → Q (pre ++ [x]) X2 V3 →
        GrowX X' (fun k => X2 k ∨ k = l ∨ E k) V (V3.putObj l o) ∧ Fr X' V (V3.putObj l o) ∧ ∃ X1', (∀ k, (X2 k ∨ k = l ∨ E k) ↔ (X1' k ∨ k = l ∨ E k)) ∧ Q (pre ++ [x]) X1' (V3.putObj l o) ∧ (V3.putObj l o).heap[l]? = some o ∧ (∀ k, E k → (V3.putObj l o).heap[k]? = V1.heap[k]?) ∧ (∀ k, X1' k → k ≠ l ∧ ¬ E k) := fun Q hQ X2 V3 o g2 f2 q2 => by
      have hl3 : l < V3.heap.size := Nat.lt_of_lt_of_le hlv f2.size
      have hEV : ∀ k, E k → k < V.heap.size := fun k hk => Nat.lt_of_lt_of_le (hE k hk).2.1 hV1
      have x2 : ∀ k, X2 k → k ≠ l ∧ ¬ E k := fun k hk => ⟨fun e => by subst e; exact (h5 _ ((g2 _ hk).2 hlv)).1 rfl, fun e => (h5 _ ((g2 _ hk).2 (hEV k e))).2 e⟩
      refine ⟨fun k hk => ?_, (f2.putObj l (.inl rfl) o).mono fun k _ e => ?_, X2, fun k => Iff.rfl, hQ _ X2 V3 _ q2 (fun k hk => (g2 k hk).1) ((Fr.refl _ V3).putObj l (fun e => (x2 l e).1 rfl) o), World.putObj_heap_same hl3, fun k hk => ?_, x2⟩
      · rw [putObj_size]
        rcases hk with hk | rfl | hk
        · exact ⟨(g2 k hk).1, fun hlt => (h1 k).2 (.inl ((g2 k hk).2 hlt))⟩
        · exact ⟨hl3, fun _ => (h1 _).2 (.inr (.inl rfl))⟩
        · exact ⟨Nat.lt_of_lt_of_le (hEV k hk) f2.size, fun _ => (h1 _).2 (.inr (.inr hk))⟩
      · rcases e with rfl | e
        · exact (h1 _).2 (.inr (.inl rfl))
        · exact (h1 _).2 (.inl e)
      · refine (World.putObj_heap_other (hE k hk).2.2).trans ((f2.block k (hEV k hk) ?_).trans (h4 k hk))
        rintro (e | e)
        · exact (hE k hk).2.2 e
        · exact (h5 k e).2 hk
    rintro e a3 V3 hp
    cases e with
    | normal =>
      obtain ⟨X2, g2, f2, r2, i2⟩ := hp
      have hend := run_endRound (P := P) none r2
      rw [← hrb] at hend
      obtain ⟨q1, q2, q3⟩ := fin I hI _ g2 f2 i2
      exact ⟨_, _, hend, _, q1, q2, .inl ⟨rfl, q3⟩⟩
    | ret =>
      obtain ⟨X2, g2, f2, r2, i2⟩ := hp
      have hend := run_endRound (P := P) (some .ret) r2
      rw [← hrb] at hend
      obtain ⟨q1, q2, q3⟩ := fin _ (hIx .ret) _ g2 f2 i2
      exact ⟨_, _, hend, _, q1, q2, .inr ⟨rfl, _, q3⟩⟩
    | exit id =>
      obtain ⟨X2, g2, f2, r2, i2⟩ := hp
      have hend := run_endRound (P := P) (some (.exit id)) r2
      rw [← hrb] at hend
      obtain ⟨q1, q2, q3⟩ := fin _ (hIx (.exit id)) _ g2 f2 i2
      exact ⟨_, _, hend, _, q1, q2, .inr ⟨rfl, _, q3⟩⟩
    | goto t =>
      obtain ⟨X2, g2, f2, r2, i2⟩ := hp
      have hend := run_endRound (P := P) (some (.goto t)) r2
      rw [← hrb] at hend
      obtain ⟨q1, q2, q3⟩ := fin _ (hIx (.goto t)) _ g2 f2 i2
      exact ⟨_, _, hend, _, q1, q2, .inr ⟨rfl, _, q3⟩⟩
    | panic ch => exact hp.elim
    | outgrown => exact hp.elim
/-- an outermost loop -/
theorem wpIn_rangeZ {n : Nat} {P : Program} {w : World} {α : Type} {a : Act} {Q : Exit → Act → World → Prop} {g : Operand} {assign body : Code} {ps : Array Tmp} {gf : Nat} {lb : Array Value}
    {X Y Z : Nat → Prop} {encs : α → Array Value} {xs : List α} (I : List α → (Nat → Prop) → World → Prop) (Ix : Code → List α → (Nat → Prop) → World → Prop)
    (hg : a.eval g = .func (.func gf) #[] lb) (hseq : SeqZ P gf lb encs Y Z xs w) (hX : ∀ k, X k → k < w.heap.size ∧ ¬ (Y k ∨ Z k)) (hY : ∀ b, Y b ∨ Z b → b < w.heap.size) (h1 : 1 ≤ n)
    (eg : ∀ args v, (callFunc gf args).run P v = .ok (.enter gf args) v) (hps : ∀ x, (encs x).size = ps.size) (hI : Stays I) (hIx : ∀ c, Stays (Ix c)) (h0 : I [] X w)
    (hround : ∀ l pre x r X1 V (K : Act → World → Prop) rb, w.heap.size ≤ l → pre ++ x :: r = xs → I pre X1 V → GrowX X X1 w V → ¬ X1 l → Fr (fun k => X k ∨ Z k) w V → l < V.heap.size →
      (∀ a1 Va, Fr (fun _ => False) V Va → (∀ Vb, Fr (fun k => k = l) V Vb → Vb.heap.size = Va.heap.size → (∀ k, k ≠ l → Vb.heap[k]? = Va.heap[k]?) → Vb.heap[l]? = some (.loop rb) → body.wpIn (Fence.wide.inRound l) (n - 1 - 1) P (EndF l rb X1 I Ix (pre ++ [x]) V) a1 Vb) → K a1 Va) →
      assign.wpIn (Fence.wide.inRound l) (n - 1 - 1) P (Exit.then K fun _ _ _ => False) { tmps := (ps.zip (encs x)).foldl (fun t (p, v) => t.setIfInBounds p v) a.tmps, defers := [] } V)
    (hdone : ∀ D X2 V, w.heap.size ≤ D → ¬ X2 D → GrowX X X2 w V → Fr (fun k => X k ∨ Z k) w V → I xs X2 V → V.heap[D]? = some (.deferred (some [])) → Q .normal { a with defers := { target := .collected D, args := #[] } :: a.defers } V)
    (hstop : ∀ D c pre r X2 V, w.heap.size ≤ D → pre ++ r = xs → ¬ X2 D → GrowX X X2 w V → Fr (fun k => X k ∨ Z k) w V → Ix c pre X2 V → V.heap[D]? = some (.deferred (some [])) → c.wpIn Fence.wide n P Q { a with defers := { target := .collected D, args := #[] } :: a.defers } V) :
    (Code.rangeFunc g ps assign body).wpIn Fence.wide n P Q a w := by
  refine wpIn_rangeFunc fun fn hfn => ?_
  obtain ⟨V1, hV1⟩ : ∃ V1, (w.alloc (.deferred (some []))).alloc (.loop (recF fn a.tmps ps assign body w.heap.size .ready none)) = V1 := ⟨_, rfl⟩
  have hz : V1.heap.size = w.heap.size + 2 := by rw [← hV1]; simp
  have hr : V1.heap[w.heap.size + 1]? = some (.loop (recF fn a.tmps ps assign body w.heap.size .ready none)) := by
    subst hV1
    have h := World.alloc_heap_new (w.alloc (.deferred (some []))) (.loop (recF fn a.tmps ps assign body w.heap.size .ready none))
    rwa [World.size_alloc] at h
  have hd : V1.heap[w.heap.size]? = some (.deferred (some [])) := by
    subst hV1
    exact (Below.heap_alloc _ _ _ (by simp)).trans (World.alloc_heap_new w _)
  have hw : Fr (fun _ => False) w V1 := by subst hV1; exact ((Fr.refl _ w).alloc _).alloc _
  refine ⟨w.heap.size + 1, [{ target := .collected w.heap.size, args := #[] }], V1, { target := .fn (.func gf) lb, args := #[.func (.yield (w.heap.size + 1)) #[] #[]] }, V1, gf, #[.func (.yield (w.heap.size + 1)) #[] #[]] ++ lb, V1, ?_, ?_, ?_, ?_, fun _ => h1, ?_⟩
  · rw [← hV1]; exact run_enterLoop_outer _ _ _ _ _
  · simp only [resolve, hg]; simp [go_sem]
  · intro f' _; trivial
  · simp [invoke, go_sem, eg]
  refine (calls_wide (.inl rfl) (range_coreZ (n := n - 1 - 1) (E := fun k => k = w.heap.size) I Ix hseq hX hY hps hI hIx h0 hw (by omega) (fun k hk => by subst hk; omega) hr
    (fun pre x r X1 V K rb h1 h2 h3 h4 h5 h6 h7 => hround (w.heap.size + 1) pre x r X1 V K rb (by omega) h1 h2 h3 (fun e => (h4 _ e).1 rfl) h5 h6 h7))).mono ?_
  rintro e V2 ⟨⟨v, rfl⟩, X2, g2, x2, f2, e2, l2, h⟩
  have hD : ∀ o, (V2.putObj (w.heap.size + 1) o).heap[w.heap.size]? = some (.deferred (some [])) := fun o => (World.putObj_heap_other (by omega)).trans ((e2 _ rfl).trans hd)
  have hput : ∀ o, Fr (fun k => X k ∨ Z k) w (V2.putObj (w.heap.size + 1) o) := fun o => f2.trans3 ((Fr.refl (fun k => k = w.heap.size + 1) V2).putObj _ rfl o) fun k hk e => by omega
  have hst : ∀ o, Fr (fun k => ¬ X2 k) V2 (V2.putObj (w.heap.size + 1) o) := fun o => (Fr.refl _ V2).putObj _ (fun e => (x2 _ e).1 rfl) o
  have hgr : ∀ o, GrowX X X2 w (V2.putObj (w.heap.size + 1) o) := fun o k hk => by rw [putObj_size]; exact g2 k hk
  rcases h with ⟨hi, hr2⟩ | ⟨pre, r, c, hpr, hi, hr2⟩
  · exact ⟨none, _, run_endLoop (P := P) hr2 (by simp [recF]), hdone _ X2 _ (Nat.le_refl _) (fun e => (x2 _ e).2 rfl) (hgr _) (hput _) (hI _ X2 V2 _ hi (fun k hk => (g2 k hk).1) (hst _)) (hD _)⟩
  · exact ⟨some c, _, run_endLoop (P := P) hr2 (by simp [recF]), hstop _ c pre r X2 _ (Nat.le_refl _) hpr (fun e => (x2 _ e).2 rfl) (hgr _) (hput _) (hIx c _ X2 V2 _ hi (fun k hk => (g2 k hk).1) (hst _)) (hD _)⟩
/-- a loop within a round -/
theorem wpIn_rangeZN {n : Nat} {P : Program} {w : World} {α : Type} {a : Act} {Q : Exit → Act → World → Prop} {g : Operand} {assign body : Code} {ps : Array Tmp} {gf : Nat} {lb : Array Value} {l0 : Nat} {r0 : Loop}
    {X Y Z : Nat → Prop} {encs : α → Array Value} {xs : List α} (I : List α → (Nat → Prop) → World → Prop) (Ix : Code → List α → (Nat → Prop) → World → Prop) (hl0 : w.heap[l0]? = some (.loop r0))
    (hg : a.eval g = .func (.func gf) #[] lb) (hseq : SeqZ P gf lb encs Y Z xs w) (hX : ∀ k, X k → k < w.heap.size ∧ ¬ (Y k ∨ Z k)) (hY : ∀ b, Y b ∨ Z b → b < w.heap.size) (h1 : 1 ≤ n)
    (eg : ∀ args v, (callFunc gf args).run P v = .ok (.enter gf args) v) (hps : ∀ x, (encs x).size = ps.size) (hI : Stays I) (hIx : ∀ c, Stays (Ix c)) (h0 : I [] X w)
    (hround : ∀ l pre x r X1 V (K : Act → World → Prop) rb, w.heap.size ≤ l → pre ++ x :: r = xs → I pre X1 V → GrowX X X1 w V → ¬ X1 l → Fr (fun k => X k ∨ Z k) w V → l < V.heap.size →
      (∀ a1 Va, Fr (fun _ => False) V Va → (∀ Vb, Fr (fun k => k = l) V Vb → Vb.heap.size = Va.heap.size → (∀ k, k ≠ l → Vb.heap[k]? = Va.heap[k]?) → Vb.heap[l]? = some (.loop rb) → body.wpIn (Fence.wide.inRound l) (n - 1 - 1) P (EndF l rb X1 I Ix (pre ++ [x]) V) a1 Vb) → K a1 Va) →
      assign.wpIn (Fence.wide.inRound l) (n - 1 - 1) P (Exit.then K fun _ _ _ => False) { tmps := (ps.zip (encs x)).foldl (fun t (p, v) => t.setIfInBounds p v) a.tmps, defers := [] } V)
    (hdone : ∀ X2 V, GrowX X X2 w V → Fr (fun k => X k ∨ Z k) w V → I xs X2 V → Q .normal a V)
    (hstop : ∀ c pre r X2 V, pre ++ r = xs → GrowX X X2 w V → Fr (fun k => X k ∨ Z k) w V → Ix c pre X2 V → c.wpIn (Fence.wide.inRound l0) n P Q a V) :
    (Code.rangeFunc g ps assign body).wpIn (Fence.wide.inRound l0) n P Q a w := by
  refine wpIn_rangeFunc fun fn hfn => ?_
  obtain ⟨V1, hV1⟩ : ∃ V1, w.alloc (.loop (recF fn a.tmps ps assign body r0.defers .ready none)) = V1 := ⟨_, rfl⟩
  have hz : V1.heap.size = w.heap.size + 1 := by rw [← hV1]; simp
  have hr : V1.heap[w.heap.size]? = some (.loop (recF fn a.tmps ps assign body r0.defers .ready none)) := by subst hV1; exact World.alloc_heap_new w _
  have hw : Fr (fun _ => False) w V1 := by subst hV1; exact (Fr.refl _ w).alloc _
  refine ⟨w.heap.size, [], V1, { target := .fn (.func gf) lb, args := #[.func (.yield w.heap.size) #[] #[]] }, V1, gf, #[.func (.yield w.heap.size) #[] #[]] ++ lb, V1, ?_, ?_, ?_, ?_, fun _ => h1, ?_⟩
  · rw [← hV1]; exact run_enterLoop_inner hl0 _ _ _ _ _
  · simp only [resolve, hg]; simp [go_sem]
  · intro f' _; trivial
  · simp [invoke, go_sem, eg]
  refine (calls_wide (.inr ⟨l0, rfl⟩) (range_coreZ (n := n - 1 - 1) (E := fun _ => False) I Ix hseq hX hY hps hI hIx h0 hw (Nat.le_refl _) (fun k hk => hk.elim) hr
    (fun pre x r X1 V K rb h1 h2 h3 h4 h5 h6 h7 => hround w.heap.size pre x r X1 V K rb (Nat.le_refl _) h1 h2 h3 (fun e => (h4 _ e).1 rfl) h5 h6 h7))).mono ?_
  rintro e V2 ⟨⟨v, rfl⟩, X2, g2, x2, f2, e2, l2, h⟩
  have hput : ∀ o, Fr (fun k => X k ∨ Z k) w (V2.putObj w.heap.size o) := fun o => f2.trans3 ((Fr.refl (fun k => k = w.heap.size) V2).putObj _ rfl o) fun k hk e => by omega
  have hst : ∀ o, Fr (fun k => ¬ X2 k) V2 (V2.putObj w.heap.size o) := fun o => (Fr.refl _ V2).putObj _ (fun e => (x2 _ e).1 rfl) o
  have hgr : ∀ o, GrowX X X2 w (V2.putObj w.heap.size o) := fun o k hk => by rw [putObj_size]; exact g2 k hk
  rcases h with ⟨hi, hr2⟩ | ⟨pre, r, c, hpr, hi, hr2⟩
  · exact ⟨none, _, run_endLoop (P := P) hr2 (by simp [recF]), hdone X2 _ (hgr _) (hput _) (hI _ X2 V2 _ hi (fun k hk => (g2 k hk).1) (hst _))⟩
  · exact ⟨some c, _, run_endLoop (P := P) hr2 (by simp [recF]), hstop c pre r X2 _ hpr (hgr _) (hput _) (hIx c _ X2 V2 _ hi (fun k hk => (g2 k hk).1) (hst _))⟩
end Go.Proofs.YtnoeblnljfnecaaGreatDoor
end
section
/- strings.SplitSeq at one byte, as a function that ranges and writes a box of its own. -/
namespace Go.Proofs.YtnoeblnljfnecaaGreatDoor
set_option linter.unusedVariables false
set_option linter.unusedSimpArgs false
open Go Go.RowKit Go.Shelf Go.Lib
attribute [local go_sem] Oper.semAt_some

/-- the pieces between bytes c -/
def splitC (c : UInt8) : List UInt8 → List (List UInt8)
  | [] => [[]]
  | b :: r => if b = c then [] :: splitC c r else match splitC c r with
    | [] => [[b]]
    | p :: ps => (b :: p) :: ps
theorem splitC_ne (c : UInt8) : ∀ l, splitC c l ≠ []
  | [] => by simp [splitC]
  | b :: r => by
    unfold splitC
    split
    · simp
    · split <;> simp
theorem splitC_len (c : UInt8) : ∀ l, (splitC c l).length ≤ l.length + 1
  | [] => by simp [splitC]
  | b :: r => by
    have h := splitC_len c r
    unfold splitC
    split
    · simp; omega
    · split
      · simp
      · rename_i p ps hp
        rw [hp] at h
        simp at h ⊢
        omega
theorem splitC_none (c : UInt8) : ∀ p : List UInt8, c ∉ p → splitC c p = [p]
  | [], _ => rfl
  | b :: r, h => by
    have h1 : ¬ b = c := fun e => h (by rw [e]; exact List.mem_cons_self)
    unfold splitC
    rw [if_neg h1, splitC_none c r (fun e => h (List.mem_cons_of_mem _ e))]
theorem splitC_cut (c : UInt8) : ∀ (p q : List UInt8), c ∉ p → splitC c (p ++ c :: q) = p :: splitC c q
  | [], q, _ => by simp [splitC]
  | b :: r, q, h => by
    have h1 : ¬ b = c := fun e => h (by rw [e]; exact List.mem_cons_self)
    rw [List.cons_append]
    conv => lhs; unfold splitC
    rw [if_neg h1, splitC_cut c r q (fun e => h (List.mem_cons_of_mem _ e))]
theorem splitC_no (c : UInt8) (R : ByteArray) (h : Lib.indexByte R.data.toList c = -1) : splitC c R.data.toList = [R.data.toList] :=
  splitC_none c _ (fun hm => by
    obtain ⟨k, hk⟩ := List.getElem?_of_mem hm
    exact Lib.indexByte_none h k hk)
theorem splitC_at (c : UInt8) (R : ByteArray) (o : Nat) (h : Lib.indexByte R.data.toList c = o) : o < R.size ∧ splitC c R.data.toList = (R.extract 0 o).data.toList :: splitC c (R.extract (o + 1) R.size).data.toList := by
  obtain ⟨h1, h2⟩ := Lib.indexByte_some h
  have ho : o < R.data.toList.length := (List.getElem?_eq_some_iff.1 h1).1
  have e : R.data.toList = R.data.toList.take o ++ c :: R.data.toList.drop (o + 1) := by
    have h3 := List.drop_eq_getElem_cons ho
    have h4 : R.data.toList[o] = c := (List.getElem?_eq_some_iff.1 h1).2
    rw [h4] at h3
    rw [← h3, List.take_append_drop]
  have hn : c ∉ R.data.toList.take o := fun hm => by
    obtain ⟨k, hk⟩ := List.getElem?_of_mem hm
    rw [List.getElem?_take] at hk
    split at hk
    · exact h2 k ‹_› hk
    · cases hk
  refine ⟨by simpa using ho, ?_⟩
  have e1 : (R.extract 0 o).data.toList = R.data.toList.take o := by simp
  have e2 : (R.extract (o + 1) R.size).data.toList = R.data.toList.drop (o + 1) := by
    simp [List.take_of_length_le]
  rw [e1, e2]
  conv => lhs; rw [e]
  exact splitC_cut c _ _ hn
/-- the call: three boxes -/
theorem splitc_any (s : ByteArray) (c : UInt8) (w : World) :
    Calls Tryz.prog 58 #[.string s, .string ⟨#[c]⟩] w fun e w' => e = .returned (.func (.func 88) #[] #[.pointer (some ⟨w.heap.size + 1, 0, none⟩), .pointer (some ⟨w.heap.size, 0, none⟩), .pointer (some ⟨w.heap.size + 1 + 1, 0, none⟩)]) ∧
      w' = ((w.alloc (.cells #[.string s] 9)).alloc (.cells #[.string ⟨#[c]⟩] 9)).alloc (.cells #[.int .i64 0] 3) := by
  have h : Calls Tryz.prog 73 #[.string s, .string ⟨#[c]⟩, .int .i64 0] w fun e w' => e = .returned (.func (.func 88) #[] #[.pointer (some ⟨w.heap.size + 1, 0, none⟩), .pointer (some ⟨w.heap.size, 0, none⟩), .pointer (some ⟨w.heap.size + 1 + 1, 0, none⟩)]) ∧
      w' = ((w.alloc (.cells #[.string s] 9)).alloc (.cells #[.string ⟨#[c]⟩] 9)).alloc (.cells #[.int .i64 0] 3) := by
    go_enter Tryz.func73, Tryz.ntmps73
    go_wp2_with fail
    go_ret
    exact ⟨rfl, rfl⟩
  go_enter Tryz.func58, Tryz.ntmps58
  go_wp2_with fail
  refine h.mono ?_
  rintro e w' ⟨rfl, rfl⟩
  go_wp2_with fail
  go_ret
  exact ⟨rfl, rfl⟩
def SplB (B : Nat) (c : UInt8) (R : ByteArray) (W : World) : Prop := W.heap[B]? = some (.cells #[.string R] 9 (0, 0)) ∧ W.heap[B + 1]? = some (.cells #[.string ⟨#[c]⟩] 9 (0, 0)) ∧ W.heap[B + 1 + 1]? = some (.cells #[.int .i64 0] 3 (0, 0))
set_option maxRecDepth 100000 in
set_option maxHeartbeats 8000000 in
theorem split_seqZ (B : Nat) (c : UInt8) (s : ByteArray) (w : World) (hs : s.size ≤ 1000000) (hb : SplB B c s w) :
    SeqZ Tryz.prog 88 #[.pointer (some ⟨B + 1, 0, none⟩), .pointer (some ⟨B, 0, none⟩), .pointer (some ⟨B + 1 + 1, 0, none⟩)] encL (fun b => b = B + 1 ∨ b = B + 1 + 1) (fun b => b = B) (splitC c s.data.toList) w := fun l J Jx X V hsm hYl hX hJ hJx hY h0 => by
  have kB := (hsm B (.inr rfl)).trans hb.1
  have k1 := (hsm (B + 1) (.inl (.inl rfl))).trans hb.2.1
  have k2 := (hsm (B + 1 + 1) (.inl (.inr rfl))).trans hb.2.2
  have hXB : ¬ X B ∧ ¬ X (B + 1) ∧ ¬ X (B + 1 + 1) := ⟨fun e => (hX _ e).2 (.inr rfl), fun e => (hX _ e).2 (.inl (.inl rfl)), fun e => (hX _ e).2 (.inl (.inr rfl))⟩
  have H := Lib.hid (And.intro hX (And.intro hJ (And.intro hJx (And.intro hY hXB))))
  have hBV := blk_lt k2
  have e1 := blk_cell k1 0
  have hfix : ∀ W, Fr (fun k => X k ∨ k = B) V W → W.heap[B + 1]? = some (.cells #[.string ⟨#[c]⟩] 9 (0, 0)) ∧ W.heap[B + 1 + 1]? = some (.cells #[.int .i64 0] 3 (0, 0)) := fun W hf => ⟨hf.blk k1 fun e => e.elim hXB.2.1 (by omega), hf.blk k2 fun e => e.elim hXB.2.2 (by omega)⟩
  have HFX := Lib.hid hfix
  have h00 : Hid (∃ X1 pre, GrowX X X1 V V ∧ Fr (fun k => X k ∨ k = B) V V ∧ J pre X1 V ∧ pre ++ splitC c s.data.toList = splitC c s.data.toList ∧ V.heap[B]? = some (.cells #[.string s] 9 (0, 0))) :=
    ⟨X, [], GrowX.refl fun k hk => (hX k hk).1, Fr.refl _ _, h0, rfl, kB⟩
  clear hb hsm hYl hX hJ hJx hY h0 kB k1 k2 hXB hfix
  refine (callsIn_wide (n := 20)).1 ?_
  refine callsIn_of_wp Tryz.func88 rfl trivial ?_ rfl
  simp only [Tryz.ntmps88, List.size_toArray, List.length_cons, List.length_nil, Nat.reduceAdd, Nat.reduceSub, Array.replicate_succ, Array.replicate_zero, List.push_toArray, List.append_toArray, List.nil_append, List.cons_append]
  gi_wp2_with fail
  gi_loopg [29] s.size (fun r _ wr => ∃ R : ByteArray, r = R.size ∧ R.size ≤ s.size ∧ Hid (∃ X1 pre, GrowX X X1 V wr ∧ Fr (fun k => X k ∨ k = B) V wr ∧ J pre X1 wr ∧ pre ++ splitC c R.data.toList = splitC c s.data.toList ∧ wr.heap[B]? = some (.cells #[.string R] 9 (0, 0))))
  case atStart => exact ⟨s, rfl, Nat.le_refl _, h00⟩
  case round =>
    clear h00 e1
    obtain ⟨R, hr, hRs, HR⟩ := hrel
    have HG := Lib.hid hr
    clear hr
    obtain ⟨X1, pre, g1, f1, j1, hsp, kB⟩ := HR.out
    obtain ⟨kk1, kk2⟩ := HFX.out _ f1
    have c0 := blk_cell kB 0
    have z0 := blk_free kB 0
    have c1 := blk_cell kk1 0
    have c2 := blk_cell kk2 0
    have HR1 := Lib.hid (And.intro g1 (And.intro f1 (And.intro j1 (And.intro hsp kB))))
    clear g1 f1 j1 hsp kB HR kk1 kk2
    have hR : R.size ≤ 1000000 := by omega
    have hix := fun W => ix1 R c W hR
    have hge := Lib.indexByte_ge R.data.toList c
    by_cases hno : Lib.indexByte R.data.toList c = -1
    · rw [hno] at hix
      have HIX := Lib.hid hix
      have HNO := Lib.hid (splitC_no c R hno)
      clear hno hge hix
      obtain ⟨hX, hJ, hJx, hY, hXB⟩ := H.out
      obtain ⟨g1, f1, j1, hsp, kB⟩ := HR1.out
      have hsp4 : pre ++ R.data.toList :: [] = splitC c s.data.toList := by rw [← hsp, HNO.out]
      obtain ⟨fn, tmps, assign, body, hy, hRd⟩ := hY pre R.data.toList [] X1 wr hsp4 g1 j1 f1
      simp only [encL, bs_of] at hy
      have HP := Lib.hid (And.intro g1 (And.intro f1 (And.intro hsp4 hJx)))
      clear hX hJ hJx hY hXB g1 f1 j1 hsp kB hsp4
      gi_wp2_with fail
      refine ⟨trivial, (calls_wide (.inl rfl) (HIX.out _)).mono ?_⟩
      rintro e w' ⟨rfl, rfl⟩
      gi_wp2_with fail
      refine (round_wide (.inl rfl) hRd).mono ?_
      rintro e W5 ⟨X2, g2, f2, (⟨rfl, hJ3⟩ | ⟨rfl, hJx3⟩)⟩
      · obtain ⟨g4, f4, hsp4, hJx⟩ := HP.out
        have HN : Hid (∃ X2, GrowX X X2 V W5 ∧ Fr (fun k => X k ∨ k = B) V W5 ∧ J (splitC c s.data.toList) X2 W5) :=
          ⟨X2, g4.trans g2 f4.size, f4.trans3 f2 fun k hk e => .inl ((g4 k e).2 hk), by rw [← hsp4]; exact hJ3⟩
        clear g4 f4 hsp4 hJx g2 f2 hJ3 hRd hy
        gi_wp2_with fail
        go_end0
        obtain ⟨X3, a1, a2, a3⟩ := HN.out
        exact ⟨⟨_, rfl⟩, X3, a1, a2, .inl a3⟩
      · obtain ⟨g4, f4, hsp4, hJx⟩ := HP.out
        have HN : Hid (∃ X2, GrowX X X2 V W5 ∧ Fr (fun k => X k ∨ k = B) V W5 ∧ ∃ pre r, pre ++ r = splitC c s.data.toList ∧ Jx pre X2 W5) :=
          ⟨X2, g4.trans g2 f4.size, f4.trans3 f2 fun k hk e => .inl ((g4 k e).2 hk), _, [], by rw [List.append_nil]; exact hsp4, hJx3⟩
        clear g4 f4 hsp4 hJx g2 f2 hJx3 hRd hy
        gi_wp2_with fail
        go_end0
        obtain ⟨X3, a1, a2, a3⟩ := HN.out
        exact ⟨⟨_, rfl⟩, X3, a1, a2, .inr a3⟩
    · obtain ⟨o, ho⟩ : ∃ o : Nat, Lib.indexByte R.data.toList c = o := ⟨(Lib.indexByte R.data.toList c).toNat, by omega⟩
      obtain ⟨hoR, hso⟩ := splitC_at c R o ho
      rw [ho] at hix
      have HIX := Lib.hid hix
      have hrs : (R.extract (o + 1) R.size).size = R.size - (o + 1) := by simp
      have HRS := Lib.hid hrs
      have hp0 : ¬ ((o : Int) < 0) := by omega
      have hp1 : (o : Int) ≤ (R.size : Int) := by omega
      have hp2 : (o : Int) + 1 ≤ (R.size : Int) := by omega
      obtain ⟨hX, hJ, hJx, hY, hXB⟩ := H.out
      obtain ⟨g1, f1, j1, hsp, kB⟩ := HR1.out
      have hsp4 : pre ++ (R.extract 0 o).data.toList :: splitC c (R.extract (o + 1) R.size).data.toList = splitC c s.data.toList := by rw [← hsp, hso]
      obtain ⟨fn, tmps, assign, body, hy, hRd⟩ := hY pre (R.extract 0 o).data.toList _ X1 wr hsp4 g1 j1 f1
      simp only [encL, bs_of] at hy
      have hX1B : ¬ X1 B := fun e => hXB.1 ((g1 B e).2 (by omega))
      have hsep : ∀ W, Fr X1 wr W → W.heap[B]? = some (.cells #[.string R] 9 (0, 0)) ∧ W.heap[B + 1]? = some (.cells #[.string ⟨#[c]⟩] 9 (0, 0)) := fun W hf => by
        obtain ⟨kk1, kk2⟩ := HFX.out _ f1
        exact ⟨hf.blk kB hX1B, hf.blk kk1 fun e => hXB.2.1 ((g1 _ e).2 (by omega))⟩
      have HP := Lib.hid (And.intro g1 (And.intro f1 (And.intro hsp4 (And.intro hJ (And.intro hJx (And.intro hX1B hsep))))))
      clear hX hJ hJx hY hXB g1 f1 j1 hsp kB hsp4 hno hge ho hrs hso hix hX1B hsep
      gi_wp2_with fail
      refine ⟨trivial, (calls_wide (.inl rfl) (HIX.out _)).mono ?_⟩
      rintro e w' ⟨rfl, rfl⟩
      gi_wp2_with fail
      refine (round_wide (.inl rfl) hRd).mono ?_
      rintro e W5 ⟨X2, g2, f2, (⟨rfl, hJ3⟩ | ⟨rfl, hJx3⟩)⟩
      · obtain ⟨g4, f4, hsp4, hJ, hJx, hX1B, hsep⟩ := HP.out
        obtain ⟨m0, m1⟩ := hsep W5 f2
        have d0 := blk_cell m0 0
        have d1 := blk_cell m1 0
        have y0 := blk_free m0 0
        obtain ⟨W6, hW6⟩ : ∃ W6, W5.setCell ⟨B, 0, none⟩ (.string (R.extract (o + 1) R.size)) = W6 := ⟨_, rfl⟩
        have fB : Fr (fun k => k = B) W5 W6 := by rw [← hW6]; exact Fr.setCell (X := fun k => k = B) (Fr.refl _ _) ⟨B, 0, none⟩ rfl _
        have zB : W6.heap.size = W5.heap.size := by rw [← hW6]; simp
        have hX2B : ¬ X2 B := fun e => hX1B ((g2 B e).2 (by have := f4.size; omega))
        have HN : Hid (∃ X1 pre, GrowX X X1 V W6 ∧ Fr (fun k => X k ∨ k = B) V W6 ∧ J pre X1 W6 ∧ pre ++ splitC c (R.extract (o + 1) R.size).data.toList = splitC c s.data.toList ∧ W6.heap[B]? = some (.cells #[.string (R.extract (o + 1) R.size)] 9 (0, 0))) :=
          ⟨X2, _, fun k hk => ⟨by rw [zB]; exact ((g4.trans g2 f4.size) k hk).1, ((g4.trans g2 f4.size) k hk).2⟩, (f4.trans3 f2 fun k hk e => .inl ((g4 k e).2 hk)).trans3 fB fun k _ e => .inr e, hJ.fr hJ3 (fun k hk => (g2 k hk).1) fB fun k e h => hX2B (e ▸ h), by rw [List.append_assoc]; exact hsp4, by rw [← hW6]; exact blk_set m0 0 _⟩
        rw [← hW6] at HN
        clear g4 f4 hsp4 hJ hJx hX1B hsep g2 f2 hJ3 hRd hy m0 m1 hW6 fB zB hX2B c0 c1 z0
        gi_wp2_with fail
        gi_roundg (R.extract (o + 1) R.size).size
        case measure => rw [HG.out, HRS.out]; omega
        case rel => exact ⟨_, rfl, by rw [HRS.out]; omega, HN⟩
      · obtain ⟨g4, f4, hsp4, hJ, hJx, hX1B, hsep⟩ := HP.out
        have HN : Hid (∃ X2, GrowX X X2 V W5 ∧ Fr (fun k => X k ∨ k = B) V W5 ∧ ∃ pre r, pre ++ r = splitC c s.data.toList ∧ Jx pre X2 W5) :=
          ⟨X2, g4.trans g2 f4.size, f4.trans3 f2 fun k hk e => .inl ((g4 k e).2 hk), _, splitC c (R.extract (o + 1) R.size).data.toList, by rw [List.append_assoc]; exact hsp4, hJx3⟩
        clear g4 f4 hsp4 hJ hJx hX1B hsep g2 f2 hJx3 hRd hy
        gi_wp2_with fail
        refine bodyPost_ret (results_none rfl _ _ _) rfl ?_
        obtain ⟨X3, a1, a2, a3⟩ := HN.out
        exact ⟨⟨_, rfl⟩, X3, a1, a2, .inr a3⟩
end Go.Proofs.YtnoeblnljfnecaaGreatDoor
end
section
/- Layer 21: mathematics: letters, nicknames between commas, what WATCH asks for. -/
namespace Go.Proofs.YtnoeblnljfnecaaGreatDoor
set_option linter.unusedVariables false
set_option linter.unusedSimpArgs false
open Go Go.RowKit

def letV (l : List UInt8) : UInt8 := if l = [67] then 67 else if l = [99] then 67 else if l = [76] then 76 else if l = [108] then 76 else if l = [83] then 83 else if l = [115] then 83 else 0
noncomputable def nickB (l : List UInt8) : Bool := dec (NickP (bs l))
noncomputable def nicksV (l : List UInt8) : List (List UInt8) := (splitC 44 l).filter nickB
theorem nickB_nil : nickB [] = false := (dec_no fun h => absurd h.1.1 (by decide)).symm
theorem splitC_mem_len (c : UInt8) : ∀ (l : List UInt8), ∀ p ∈ splitC c l, p.length ≤ l.length
  | [], p, hp => by simp [splitC] at hp; simp [hp]
  | b :: r, p, hp => by
    have ih := splitC_mem_len c r
    unfold splitC at hp
    split at hp
    · rw [List.mem_cons] at hp
      rcases hp with rfl | hp
      · simp
      · have := ih p hp; simp; omega
    · split at hp
      · simp at hp; subst hp; simp
      · rename_i q qs hq
        rw [List.mem_cons] at hp
        rcases hp with rfl | hp
        · have := ih q (by rw [hq]; exact List.mem_cons_self); simp; omega
        · have := ih p (by rw [hq]; exact List.mem_cons_of_mem _ hp); simp; omega
abbrev WishV := UInt8 × List UInt8
noncomputable def wishV (l : List UInt8) : Option WishV := if letV l ≠ 0 then some (letV l, []) else match l with
  | [] => none
  | c :: r => if (c = 43 ∨ c = 45) ∧ nickB r = true then some (c, r) else none
noncomputable def watchV (ps : List (List UInt8)) : List WishV := ps.filterMap wishV
noncomputable def watchA (ps : List (List UInt8)) : List WishV := if ps = [] then [(76, [])] else watchV ps
theorem watchV_snoc (ps : List (List UInt8)) (p : List UInt8) : watchV (ps ++ [p]) = watchV ps ++ (wishV p).toList := by
  unfold watchV
  rw [List.filterMap_append]
  cases h : wishV p <;> simp [h]
theorem watchV_len (ps : List (List UInt8)) : (watchV ps).length ≤ ps.length := List.length_filterMap_le _ _
theorem letV_long {l : List UInt8} (h : l.length ≠ 1) : letV l = 0 := by
  have : ∀ x : UInt8, l ≠ [x] := fun x e => h (by rw [e]; rfl)
  unfold letV
  simp [this]
def opM (ps : List (List UInt8)) : UInt8 := match ps with
  | [] => 0
  | p :: _ => if p = [43] then 43 else if p = [45] then 45 else letV p
noncomputable def namesM (ps : List (List UInt8)) : List (List UInt8) := match ps with
  | p :: q :: _ => if p = [43] ∨ p = [45] then nicksV q else []
  | _ => []
end Go.Proofs.YtnoeblnljfnecaaGreatDoor
end
section
/- Layer 21: letter, both. -/
namespace Go.Proofs.YtnoeblnljfnecaaGreatDoor
set_option linter.unusedVariables false
set_option linter.unusedSimpArgs false
open Go Go.RowKit

theorem let_cases (s : ByteArray) : s = ⟨#[67]⟩ ∨ s = ⟨#[99]⟩ ∨ s = ⟨#[76]⟩ ∨ s = ⟨#[108]⟩ ∨ s = ⟨#[83]⟩ ∨ s = ⟨#[115]⟩ ∨
    (letV s.data.toList = 0 ∧ ∀ x : UInt8, x ∈ ([67, 99, 76, 108, 83, 115] : List UInt8) → (s.toList == [x]) = false ∧ ([x] == s.toList) = false ∧ s ≠ ⟨#[x]⟩) := by
  by_cases h1 : s = ⟨#[67]⟩
  · exact .inl h1
  by_cases h2 : s = ⟨#[99]⟩
  · exact .inr (.inl h2)
  by_cases h3 : s = ⟨#[76]⟩
  · exact .inr (.inr (.inl h3))
  by_cases h4 : s = ⟨#[108]⟩
  · exact .inr (.inr (.inr (.inl h4)))
  by_cases h5 : s = ⟨#[83]⟩
  · exact .inr (.inr (.inr (.inr (.inl h5))))
  by_cases h6 : s = ⟨#[115]⟩
  · exact .inr (.inr (.inr (.inr (.inr (.inl h6)))))
  have key : ∀ x : UInt8, s ≠ ⟨#[x]⟩ → s.data.toList ≠ [x] := fun x h e => h (ba_ext (by rw [e]))
  refine .inr (.inr (.inr (.inr (.inr (.inr ⟨?_, fun x hx => ?_⟩)))))
  · unfold letV
    rw [if_neg (key _ h1), if_neg (key _ h2), if_neg (key _ h3), if_neg (key _ h4), if_neg (key _ h5), if_neg (key _ h6)]
  · have hne : s ≠ ⟨#[x]⟩ := by
      simp only [List.mem_cons, List.not_mem_nil, or_false] at hx
      rcases hx with rfl | rfl | rfl | rfl | rfl | rfl <;> assumption
    have := key x hne
    rw [ByteArray.toList_eq]
    exact ⟨by simpa using this, by simpa using fun e => this e.symm, hne⟩
set_option maxHeartbeats 4000000 in
theorem letter_w (s : ByteArray) (w : World) : Calls Tryz.prog 43 #[.string s] w fun e w' => e = .returned (.int .u8 (letV s.data.toList).toNat) ∧ w = w' := by
  rcases let_cases s with rfl | rfl | rfl | rfl | rfl | rfl | ⟨h0, h⟩
  iterate 6
    · go_enter Tryz.func43, Tryz.ntmps43
      go_wp2_with fail
      go_ret
      exact ⟨rfl, rfl⟩
  · have q1 := (h 67 (by simp)).1
    have q2 := (h 99 (by simp)).1
    have q3 := (h 76 (by simp)).1
    have q4 := (h 108 (by simp)).1
    have q5 := (h 83 (by simp)).1
    have q6 := (h 115 (by simp)).1
    rw [h0]
    clear h h0
    go_enter Tryz.func43, Tryz.ntmps43
    go_wp2_with fail
    go_ret
    exact ⟨rfl, rfl⟩
end Go.Proofs.YtnoeblnljfnecaaGreatDoor
end
section
/- ValidNames, walked. -/
namespace Go.Proofs.YtnoeblnljfnecaaGreatDoor
open Go.RowKit

theorem nickP_ab : NickP ⟨#[97, 45, 98]⟩ := by
  refine ⟨by decide, fun i hi => ?_⟩
  have hi' : i < 3 := hi
  rcases (by omega : i = 0 ∨ i = 1 ∨ i = 2) with rfl | rfl | rfl <;> rfl
theorem nickP_da : ¬ NickP ⟨#[45, 97]⟩ := fun h => by
  have := h.2 0 (by decide)
  rw [show nickAt 0 (⟨#[45, 97]⟩ : ByteArray)[0] = false from by kernel_rfl] at this; cases this
theorem nickP_1a : ¬ NickP ⟨#[49, 97]⟩ := fun h => by
  have := h.2 0 (by decide)
  rw [show nickAt 0 (⟨#[49, 97]⟩ : ByteArray)[0] = false from by kernel_rfl] at this; cases this
theorem chanP_a : ChanP ⟨#[35, 97]⟩ := by
  refine ⟨by decide, ⟨by decide, by kernel_rfl⟩, fun i hi => ?_⟩
  have hi' : i < 2 := hi
  rcases (by omega : i = 0 ∨ i = 1) with rfl | rfl <;> rfl
theorem chanP_h : ¬ ChanP ⟨#[35]⟩ := fun h => by
  have := h.1.1; revert this; decide



end Go.Proofs.YtnoeblnljfnecaaGreatDoor
end
