/- Texts of this proof, one behind the other. -/
import Derived.WalkKit
import Derived.Lib.Hide
import Derived.WalkSpells
import Derived.WalkLawsBesides
import Derived.Test.YtlkeomcillencaaGreatProg
import Derived.Test.YtlkeomcillencaaGreatRoomsPlayG1
import Derived.Deep.QuietTactic
import Derived.BigQuiet
import Derived.Outline
import Derived.Test.YtlkeomcillencaaGreatRoomsPlayG2
import Derived.Sort.CutIn
import Derived.Stop.RegionWithIn
import Derived.Test.YtlkeomcillencaaGreatRoomsPlayG8
import Derived.Test.YtlkeomcillencaaGreatChecked
import Derived.Maps.OwnOps
import Derived.Maps.OwnSet
import Derived.Maps.StringElems
import Derived.Sort.KeysCollected
import Derived.Laws.Cover1
set_option linter.unusedVariables false
set_option linter.unusedSimpArgs false
section
/- fold.Byte, fold.turns, cmp.Compare of bytes and numbers: what each answers, for every argument. -/
namespace Go.Proofs.YtlkeomcillencaaGreat
open Go.RowKit

/-- a byte, folded, as a number -/
def foldI (b : Int) : Int := if 65 ≤ b ∧ b ≤ 93 then b + 32 else if b = 126 then 94 else b
theorem foldI_up {b : Int} (h : 65 ≤ b) (h' : b ≤ 93) : foldI b = b + 32 := by rw [foldI, if_pos ⟨h, h'⟩]
theorem foldI_lo {b : Int} (h : b < 65) : foldI b = b := by rw [foldI, if_neg (by omega), if_neg (by omega)]
theorem foldI_hi {b : Int} (h : 93 < b) (h' : (b == 126) = false) : foldI b = b := by
  have := of_decide_eq_false h'
  rw [foldI, if_neg (by omega), if_neg (by omega)]
theorem foldI_bd (b : Int) (h0 : 0 ≤ b) (h1 : b ≤ 255) : 0 ≤ foldI b ∧ foldI b ≤ 255 := by
  unfold foldI; split
  · omega
  · split <;> omega

theorem byte_any (b : Int) (w : World) (h0 : 0 ≤ b) (h1 : b ≤ 255) :
    Calls Tryz.prog 71 #[.int .u8 b] w fun e w' => e = .returned (.int .u8 (foldI b)) ∧ w = w' := by
  by_cases ha : 65 ≤ b
  · by_cases hb : b ≤ 93
    · go_enter Tryz.func71, Tryz.ntmps71
      go_wp2
      go_ret
      exact ⟨ret_int (foldI_up ha hb).symm, rfl⟩
    · by_cases hc : b = 126
      · subst hc
        go_enter Tryz.func71, Tryz.ntmps71
        go_wp2
        go_ret
        exact ⟨ret_int (by simp [foldI]), rfl⟩
      · have hc' : (b == 126) = false := by simpa using hc
        go_enter Tryz.func71, Tryz.ntmps71
        go_wp2
        go_ret
        exact ⟨ret_int (foldI_hi (by omega) hc').symm, rfl⟩
  · have hc' : (b == 126) = false := by simp; omega
    go_enter Tryz.func71, Tryz.ntmps71
    go_wp2
    go_ret
    exact ⟨ret_int (foldI_lo (by omega)).symm, rfl⟩

theorem turns_any (b : Int) (w : World) (h0 : 0 ≤ b) (h1 : b ≤ 255) :
    Calls Tryz.prog 99 #[.int .u8 b] w fun e w' => e = .returned (.bool (foldI b != b)) ∧ w = w' := by
  go_enter Tryz.func99, Tryz.ntmps99
  go_wp2_with (go_at_call 71; refine (byte_any _ _ h0 h1).mono ?_; rintro e w' ⟨rfl, rfl⟩)
  go_ret
  exact ⟨rfl, rfl⟩

/-- what compares two numbers -/
def cmpI (a b : Int) : Int := if a < b then -1 else if b < a then 1 else 0
theorem cmpI_lt {a b : Int} (h : a < b) : cmpI a b = -1 := by rw [cmpI, if_pos h]
theorem cmpI_gt {a b : Int} (h : b < a) : cmpI a b = 1 := by rw [cmpI, if_neg (by omega), if_pos h]
theorem cmpI_eq {a b : Int} (h : a = b) : cmpI a b = 0 := by rw [cmpI, if_neg (by omega), if_neg (by omega)]
theorem cmpI_bd (a b : Int) : -1 ≤ cmpI a b ∧ cmpI a b ≤ 1 := by
  unfold cmpI; split
  · omega
  · split <;> omega



theorem cmpInt_any (a b : Int) (w : World) :
    Calls Tryz.prog 95 #[.int .i64 a, .int .i64 b] w fun e w' => e = .returned (.int .i64 (cmpI a b)) ∧ w = w' := by
  by_cases h : a < b
  · go_enter Tryz.func95, Tryz.ntmps95
    go_wp2
    go_ret
    exact ⟨ret_int (cmpI_lt h).symm, rfl⟩
  · by_cases h' : b < a
    · go_enter Tryz.func95, Tryz.ntmps95
      go_wp2
      go_ret
      exact ⟨ret_int (cmpI_gt h').symm, rfl⟩
    · go_enter Tryz.func95, Tryz.ntmps95
      go_wp2
      go_ret
      exact ⟨ret_int (cmpI_eq (by omega)).symm, rfl⟩
/-- a byte, folded -/
def foldB (b : UInt8) : UInt8 := if 65 ≤ b ∧ b ≤ 93 then b + 32 else if b = 126 then 94 else b
theorem foldB_nat (b : UInt8) : foldI (b.toNat : Int) = ((foldB b).toNat : Int) := by
  have hb := b.toNat_lt
  unfold foldB foldI
  by_cases h : 65 ≤ b ∧ b ≤ 93
  · rw [if_pos h]
    simp only [UInt8.le_iff_toNat_le] at h
    have e1 : (65 : UInt8).toNat = 65 := rfl
    have e2 : (93 : UInt8).toNat = 93 := rfl
    rw [e1, e2] at h
    rw [if_pos (by omega), UInt8.toNat_add]
    have e3 : (32 : UInt8).toNat = 32 := rfl
    omega
  · rw [if_neg h]
    simp only [UInt8.le_iff_toNat_le] at h
    have e1 : (65 : UInt8).toNat = 65 := rfl
    have e2 : (93 : UInt8).toNat = 93 := rfl
    rw [e1, e2] at h
    rw [if_neg (by omega)]
    by_cases h2 : b = 126
    · subst h2; rfl
    · rw [if_neg h2, if_neg]
      intro e
      apply h2
      apply UInt8.toNat_inj.mp
      have : (126 : UInt8).toNat = 126 := rfl
      omega
theorem byte_u8 (c : UInt8) (w : World) :
    Calls Tryz.prog 71 #[.int .u8 ↑c.toNat] w fun e w' => e = .returned (.int .u8 ↑(foldB c).toNat) ∧ w = w' :=
  (byte_any _ w (u8_bd c).1 (u8_bd c).2).mono fun _ _ h => by rw [foldB_nat] at h; exact h
theorem turns_u8 (c : UInt8) (w : World) :
    Calls Tryz.prog 99 #[.int .u8 ↑c.toNat] w fun e w' => e = .returned (.bool (foldB c != c)) ∧ w = w' :=
  (turns_any _ w (u8_bd c).1 (u8_bd c).2).mono fun _ _ h => by
    have e : (foldI (c.toNat : Int) != (c.toNat : Int)) = (foldB c != c) := by
      rw [foldB_nat, Bool.eq_iff_iff]
      simp only [bne_iff_ne, ne_eq]
      constructor
      · intro h1 h2; exact h1 (by rw [h2])
      · intro h1 h2; exact h1 (UInt8.toNat_inj.mp (by omega))
    rw [e] at h; exact h
end Go.Proofs.YtlkeomcillencaaGreat
end
section
/- fold.Compare: which of two texts stands ahead. -/
namespace Go.Proofs.YtlkeomcillencaaGreat
open Go.RowKit

def foldL (l : List UInt8) : List UInt8 := l.map foldB
@[simp] theorem foldL_nil : foldL [] = [] := rfl
@[simp] theorem foldL_cons (x : UInt8) (l : List UInt8) : foldL (x :: l) = foldB x :: foldL l := rfl
@[simp] theorem foldL_length (l : List UInt8) : (foldL l).length = l.length := by simp [foldL]
@[simp] theorem foldL_append (a b : List UInt8) : foldL (a ++ b) = foldL a ++ foldL b := by simp [foldL]

/-- which of two rows of bytes stands ahead -/
def cmpL : List UInt8 → List UInt8 → Int
  | [], [] => 0
  | [], _ :: _ => -1
  | _ :: _, [] => 1
  | x :: xs, y :: ys => if x.toNat < y.toNat then -1 else if y.toNat < x.toNat then 1 else cmpL xs ys

theorem ba_drop (s : ByteArray) (k : Nat) (h : k < s.size) : s.data.toList.drop k = s[k] :: s.data.toList.drop (k + 1) := by
  rw [List.drop_eq_getElem_cons (by simpa using h)]; rfl
theorem ba_drop_end (s : ByteArray) (k : Nat) (h : s.size ≤ k) : s.data.toList.drop k = [] := by
  rw [List.drop_eq_nil_iff]; simpa using h
theorem ba_take (s : ByteArray) (k : Nat) (h : k < s.size) : s.data.toList.take (k + 1) = s.data.toList.take k ++ [s[k]] := by
  rw [List.take_succ_eq_append_getElem (by simpa using h)]; rfl
theorem ba_len (s : ByteArray) : s.data.toList.length = s.size := by simp

/-- two texts, folded, from a place on -/
def cmpAt (a b : ByteArray) (k : Nat) : Int := cmpL (foldL (a.data.toList.drop k)) (foldL (b.data.toList.drop k))
theorem cmpAt_stop {a b : ByteArray} {k : Nat} (ha : k < a.size) (hb : k < b.size) (h : cmpI ↑(foldB a[k]).toNat ↑(foldB b[k]).toNat ≠ 0) :
    cmpI ↑(foldB a[k]).toNat ↑(foldB b[k]).toNat = cmpAt a b k := by
  unfold cmpAt
  rw [ba_drop a k ha, ba_drop b k hb]
  simp only [foldL_cons, cmpL]
  unfold cmpI at *
  split
  · rw [if_pos (by omega)]
  · rename_i h1
    rw [if_neg h1] at h
    split
    · rw [if_neg (by omega), if_pos (by omega)]
    · rename_i h2; rw [if_neg h2] at h; exact absurd rfl h
theorem cmpAt_step {a b : ByteArray} {k : Nat} (ha : k < a.size) (hb : k < b.size) (h : cmpI ↑(foldB a[k]).toNat ↑(foldB b[k]).toNat = 0) :
    cmpAt a b (k + 1) = cmpAt a b k := by
  unfold cmpAt
  rw [ba_drop a k ha, ba_drop b k hb]
  simp only [foldL_cons, cmpL]
  unfold cmpI at h
  split at h
  · cases h
  · split at h
    · cases h
    · rw [if_neg (by omega), if_neg (by omega)]
theorem cmpAt_end {a b : ByteArray} {k : Nat} (h : k = a.size ∨ k = b.size) (ha : k ≤ a.size) (hb : k ≤ b.size) : cmpI ↑a.size ↑b.size = cmpAt a b k := by
  unfold cmpAt
  by_cases h1 : k < a.size
  · rw [ba_drop a k h1, ba_drop_end b k (by omega), cmpI_gt (by omega)]; rfl
  · rw [ba_drop_end a k (by omega)]
    by_cases h2 : k < b.size
    · rw [ba_drop b k h2, cmpI_lt (by omega)]; rfl
    · rw [ba_drop_end b k (by omega), cmpI_eq (by omega)]; rfl





/-- what compares two texts, folded -/
def cmpF (a b : List UInt8) : Int := cmpL (foldL a) (foldL b)
end Go.Proofs.YtlkeomcillencaaGreat
end
section
/- fold.Same, fold.Prefix; the document's Byte. -/
namespace Go.Proofs.YtlkeomcillencaaGreat
open Go.RowKit

theorem cmpL_zero : ∀ {a b : List UInt8}, cmpL a b = 0 ↔ a = b
  | [], [] => by simp [cmpL]
  | [], _ :: _ => by simp [cmpL]
  | _ :: _, [] => by simp [cmpL]
  | x :: xs, y :: ys => by
    simp only [cmpL, List.cons.injEq]
    by_cases h1 : x.toNat < y.toNat
    · rw [if_pos h1]; constructor
      · intro h; cases h
      · rintro ⟨rfl, _⟩; omega
    · rw [if_neg h1]
      by_cases h2 : y.toNat < x.toNat
      · rw [if_pos h2]; constructor
        · intro h; cases h
        · rintro ⟨rfl, _⟩; omega
      · rw [if_neg h2, cmpL_zero]
        have : x = y := UInt8.toNat_inj.mp (by omega)
        simp [this]

/-- are two texts alike? -/
def sameF (a b : List UInt8) : Bool := foldL a == foldL b
theorem sameF_iff {a b : List UInt8} : sameF a b = true ↔ foldL a = foldL b := by simp [sameF]
theorem sameF_len {a b : List UInt8} (h : a.length ≠ b.length) : sameF a b = false := by
  rw [Bool.eq_false_iff]; intro e
  rw [sameF_iff] at e
  have := congrArg List.length e
  simp at this; exact h this
theorem sameF_cmp (a b : List UInt8) : (cmpF a b == 0) = sameF a b := by
  rw [Bool.eq_iff_iff, sameF_iff, beq_iff_eq]; exact cmpL_zero

end Go.Proofs.YtlkeomcillencaaGreat
end
section
/- fold.Prefix; the document's Byte. -/
namespace Go.Proofs.YtlkeomcillencaaGreat
open Go.RowKit

theorem ba_extract0 (s : ByteArray) (n : Nat) : (s.extract 0 n).data.toList = s.data.toList.take n := by
  simp [ByteArray.data_extract]
theorem ba_extract_to (s : ByteArray) (n : Nat) : (s.extract n s.size).data.toList = s.data.toList.drop n := by
  simp only [ByteArray.data_extract, Array.toList_extract, List.extract_eq_take_drop]
  rw [List.take_of_length_le]; simp



def fromB : ByteArray := ⟨#[65, 66, 67, 68, 69, 70, 71, 72, 73, 74, 75, 76, 77, 78, 79, 80, 81, 82, 83, 84, 85, 86, 87, 88, 89, 90, 91, 93, 92, 126]⟩
def toB : ByteArray := ⟨#[97, 98, 99, 100, 101, 102, 103, 104, 105, 106, 107, 108, 109, 110, 111, 112, 113, 114, 115, 116, 117, 118, 119, 120, 121, 122, 123, 125, 124, 94]⟩
theorem from_found : ∀ k : Fin 30, foldB (fromB[k.1]'(k.2)) = toB[k.1]'(k.2) := by decide +kernel
theorem from_all : ∀ n : Fin 256, foldB (UInt8.ofNat n) = UInt8.ofNat n ∨ ∃ k : Fin 30, fromB[k.1]'(k.2) = UInt8.ofNat n := by decide +kernel
theorem from_none (b : UInt8) (h : ∀ k : Fin 30, fromB[k.1]'(k.2) ≠ b) : foldB b = b := by
  have := from_all ⟨b.toNat, b.toNat_lt⟩
  simp only [UInt8.ofNat_toNat] at this
  rcases this with h1 | ⟨k, hk⟩
  · exact h1
  · exact absurd hk (h k)

theorem refbyte (b : UInt8) (w : World) :
    Calls Tryz.prog 92 #[.int .u8 ↑b.toNat] w fun e w' => e = .returned (.int .u8 ↑(foldB b).toNat) ∧ w = w' := by
  obtain ⟨F, hF⟩ : ∃ F : ByteArray, F = fromB := ⟨_, rfl⟩
  obtain ⟨T, hT⟩ : ∃ T : ByteArray, T = toB := ⟨_, rfl⟩
  have hF1 : F.size = 30 := by rw [hF]; rfl
  have hT1 : T.size = 30 := by rw [hT]; rfl
  have hf1 : F.size ≤ 30 := by omega
  have hf2 : 30 ≤ F.size := by omega
  have ht1 : T.size ≤ 30 := by omega
  have ht2 : 30 ≤ T.size := by omega
  have hfound : ∀ k (h : k < F.size) (h' : k < T.size), F[k] = b → T[k] = foldB b := by
    intro k h h' e
    subst hF hT
    rw [← e]; exact (from_found ⟨k, by omega⟩).symm
  have hnone : (∀ k (h : k < F.size), F[k] ≠ b) → foldB b = b := by
    intro h
    subst hF
    exact from_none b fun k => h k.1 (by have := k.2; omega)
  have HF := Lib.hid hF
  have HT := Lib.hid hT
  have Hfound := Lib.hid hfound
  have Hnone := Lib.hid hnone
  clear hF hT hF1 hT1 hfound hnone
  go_enter Tryz.func92, Tryz.ntmps92
  go_wp2_with fail
  rw [show ({ data := #[65, 66, 67, 68, 69, 70, 71, 72, 73, 74, 75, 76, 77, 78, 79, 80, 81, 82, 83, 84, 85, 86, 87, 88, 89, 90, 91, 93, 92, 126] } : ByteArray) = F from HF.out.symm,
    show ({ data := #[97, 98, 99, 100, 101, 102, 103, 104, 105, 106, 107, 108, 109, 110, 111, 112, 113, 114, 115, 116, 117, 118, 119, 120, 121, 122, 123, 125, 124, 94] } : ByteArray) = T from HT.out.symm]
  go_loop [5] (fun i => ∃ k : Nat, k ≤ 30 ∧ i = .int .i64 k ∧ Hid (∀ j (h : j < F.size), j < k → F[j] ≠ b)) (fun i => 30 - (Go.RowKit.intOf i).toNat)
  case atStart => exact ⟨0, by omega, rfl, fun j _ h => absurd h (Nat.not_lt_zero j)⟩
  case round =>
    obtain ⟨k, hk, rfl, Hq⟩ := hrel
    by_cases hlt : k < 30
    · have hlF : k < F.size := by omega
      have hlT : k < T.size := by omega
      by_cases he : F[k] = b
      · have hr := Hfound.out k hlF hlT he
        have Hr := Lib.hid hr
        have heb : ((F[k].toNat : Int) == (b.toNat : Int)) = true := by rw [he]; simp
        clear hr he
        go_wp2
        go_ret
        exact ⟨ret_int (by rw [Hr.out]), rfl⟩
      · have heb : ((F[k].toNat : Int) == (b.toNat : Int)) = false := by
          rw [beq_eq_false_iff_ne]; intro h; exact he (UInt8.toNat_inj.mp (by omega))
        have He := Lib.hid he
        clear he
        go_wp2
        go_round
        case rel => exact ⟨k + 1, by omega, by go_num, fun j h hj => by
            by_cases hjk : j = k
            · subst hjk; exact He.out
            · exact Hq.out j h (by omega)⟩
        case measure => simp [Go.RowKit.intOf]; omega
    · have hr := Hnone.out (fun j h => Hq.out j h (by omega))
      have Hr := Lib.hid hr
      clear hr
      go_wp2
      go_ret
      exact ⟨ret_int (by rw [Hr.out]), rfl⟩
end Go.Proofs.YtlkeomcillencaaGreat
end
section
/- fold.Runs: the pieces of a text, one by one, as a function that ranges. -/
namespace Go.Proofs.YtlkeomcillencaaGreat
open Go.RowKit Go.Shelf
attribute [local go_sem] Oper.semAt_some

/-- a piece: its text, and whether its bytes are changed by folding -/
abbrev Piece := { x : ByteArray × Bool // x.1.size ≤ 1000000 }
abbrev encPiece (x : Piece) : Array Value := #[.string x.1.1, .bool x.1.2]
def tb (b : UInt8) : Bool := foldB b != b
theorem turns_tb (c : UInt8) (w : World) :
    Calls Tryz.prog 99 #[.int .u8 ↑c.toNat] w fun e w' => e = .returned (.bool (tb c)) ∧ w = w' := turns_u8 c w
/-- all bytes of pieces -/
def flat : List Piece → List UInt8
  | [] => []
  | x :: r => x.1.1.data.toList ++ flat r
theorem flat_snoc (l : List Piece) (x : Piece) : flat (l ++ [x]) = flat l ++ x.1.1.data.toList := by
  induction l with
  | nil => simp [flat]
  | cons y r ih => simp [flat, ih]
/-- is the next piece as it must be behind these: not empty, of one sort, of the other sort than the last one? -/
def okNext (pre : List Piece) (x : Piece) : Prop :=
  x.1.1.size ≠ 0 ∧ (∀ b ∈ x.1.1.data.toList, tb b = x.1.2) ∧ ∀ y, pre.getLast? = some y → x.1.2 ≠ y.1.2
/-- are pieces as they must be, each behind those ahead of it? -/
def okAll : List Piece → Prop
  | l => ∀ a x r, l = a ++ x :: r → okNext a x
theorem okAll_nil : okAll [] := by intro a x r h; simp at h
theorem okAll_snoc {l : List Piece} {x : Piece} : okAll (l ++ [x]) ↔ okAll l ∧ okNext l x := by
  constructor
  · intro h
    exact ⟨fun a y r e => h a y (r ++ [x]) (by rw [e]; simp), h l x [] rfl⟩
  · rintro ⟨h1, h2⟩ a y r e
    rcases List.eq_nil_or_concat r with rfl | ⟨r', z, rfl⟩
    · have : l ++ [x] = a ++ [y] := e
      obtain ⟨e1, e2⟩ := List.append_inj' this rfl
      simp at e2
      subst e1 e2; exact h2
    · have : l ++ [x] = (a ++ y :: r') ++ [z] := by rw [e]; simp
      obtain ⟨e1, e2⟩ := List.append_inj' this rfl
      exact h1 a y r' e1

/-- how far the pieces have come: what they are of, what is left -/
def RunsAt (l : List UInt8) (pre : List Piece) (rest : List UInt8) : Prop :=
  flat pre ++ rest = l ∧ okAll pre ∧ ∀ y b r, pre.getLast? = some y → rest = b :: r → tb b ≠ y.1.2

theorem flat_len {pre : List Piece} (h : okAll pre) : pre.length ≤ (flat pre).length := by
  induction pre using snoc_ind with
  | nil => simp
  | snoc l x ih =>
    rw [okAll_snoc] at h
    have := ih h.1
    have hx := h.2.1
    rw [flat_snoc]
    simp; omega

theorem runsAt_nil (l : List UInt8) : RunsAt l [] l := ⟨by simp [flat], okAll_nil, by intro y b r h; simp at h⟩

theorem RunsAt.snoc {l : List UInt8} {pre : List Piece} {p q : List UInt8} {t : Bool} (h : RunsAt l pre (p ++ q)) (hp : p ≠ [])
    (ht : ∀ b ∈ p, tb b = t) (hq : ∀ b r, q = b :: r → tb b ≠ t) (x : Piece) (hx : x.1 = (bs p, t)) : RunsAt l (pre ++ [x]) q := by
  obtain ⟨h1, h2, h3⟩ := h
  refine ⟨?_, okAll_snoc.2 ⟨h2, ?_⟩, ?_⟩
  · rw [flat_snoc, hx]; simpa using h1
  · refine ⟨?_, ?_, ?_⟩
    · rw [hx]; simp; exact hp
    · rw [hx]; simpa using ht
    · intro y hy
      rw [hx]
      obtain ⟨b, p', rfl⟩ := List.exists_cons_of_ne_nil hp
      have := h3 y b (p' ++ q) hy rfl
      rw [ht b (by simp)] at this
      exact this
  · intro y b r hy hr
    simp at hy
    subst hy
    rw [hx]
    exact hq b r hr

theorem RunsAt.bound {l : List UInt8} {pre : List Piece} {b : UInt8} {r : List UInt8} (h : RunsAt l pre (b :: r)) : pre.length < l.length := by
  have := flat_len h.2.1
  rw [← h.1]; simp; omega

theorem all_take (R : ByteArray) (t : Bool) (k : Nat) (hk : k ≤ R.size) (h : ∀ j (h : j < R.size), j < k → tb R[j] = t) : ∀ b ∈ R.data.toList.take k, tb b = t := by
  intro b hb
  obtain ⟨j, hj, rfl⟩ := List.mem_iff_getElem.1 hb
  simp only [List.length_take, ba_len] at hj
  rw [List.getElem_take]
  exact h j (by omega) (by omega)

theorem RunsAt.cut {l : List UInt8} {pre : List Piece} {R : ByteArray} (h : RunsAt l pre R.data.toList) (k : Nat) (hk : k < R.size) (t : Bool) (h0 : t = tb (R[0]'(by omega)))
    (ha : ∀ j (h : j < R.size), j < k → tb R[j] = t) (hn : tb R[k] ≠ t) (x : Piece) (hx : x.1 = (R.extract 0 k, t)) : RunsAt l (pre ++ [x]) (R.extract k R.size).data.toList := by
  have hk0 : k ≠ 0 := by rintro rfl; exact hn h0.symm
  rw [ba_extract_to]
  refine RunsAt.snoc (p := R.data.toList.take k) (t := t) (by rw [List.take_append_drop]; exact h) ?_ (all_take R t k (by omega) ha) ?_ x ?_
  · intro e
    have := congrArg List.length e
    rw [List.length_take, ba_len, List.length_nil] at this
    omega
  · intro b r e
    rw [ba_drop R k hk] at e
    cases e
    exact hn
  · rw [hx, ← ba_extract0]; rfl

theorem RunsAt.last {l : List UInt8} {pre : List Piece} {R : ByteArray} (h : RunsAt l pre R.data.toList) (hk : 0 < R.size) (t : Bool)
    (ha : ∀ j (h : j < R.size), j < R.size → tb R[j] = t) (x : Piece) (hx : x.1 = (R, t)) : RunsAt l (pre ++ [x]) [] := by
  refine RunsAt.snoc (p := R.data.toList) (t := t) (by rw [List.append_nil]; exact h) ?_ ?_ (by intro b r e; cases e) x (by rw [hx]; rfl)
  · intro e
    have := congrArg List.length e
    rw [ba_len, List.length_nil] at this
    omega
  · have := all_take R t R.size (Nat.le_refl _) ha
    rw [List.take_of_length_le (by rw [ba_len]; exact Nat.le_refl _)] at this
    exact this
end Go.Proofs.YtlkeomcillencaaGreat
end
section
/- fold.Runs: the walk of its function that ranges. -/
namespace Go.Proofs.YtlkeomcillencaaGreat
open Go.RowKit Go.Shelf
attribute [local go_sem] Oper.semAt_some

theorem runs_any (s : ByteArray) (w : World) :
    Calls Tryz.prog 70 #[.string s] w fun e w' => e = .returned (.func (.func 98) #[] #[.pointer (some ⟨w.heap.size, 0, none⟩)]) ∧ w' = w.alloc (.cells #[.string s] 9) := by
  go_enter Tryz.func70, Tryz.ntmps70
  go_wp2
  go_ret
  exact ⟨rfl, rfl⟩

set_option maxRecDepth 100000 in
set_option maxHeartbeats 1000000 in
theorem runs_stops (n : Nat) (hn : 2 ≤ n) (B : Nat) (s : ByteArray) (w : World) (hs : s.size ≤ 1000000) (hB : B < w.heap.size) (hc : w.cell? ⟨B, 0, none⟩ = some (.string s)) :
    SeqStopsK Fence.wide n Tryz.prog 98 #[.pointer (some ⟨B, 0, none⟩)] encPiece (fun _ _ => True)
      (fun xs => RunsAt s.data.toList xs []) (fun pre => ∃ r, RunsAt s.data.toList pre r) s.size w := fun l J Jx W hW hJ hJx hY h0 => by
  have hc1 : W.cell? ⟨B, 0, none⟩ = some (.string s) := (hW.cell (p := ⟨B, 0, none⟩) hB).trans hc
  refine callsIn_of_wp Tryz.func98 rfl trivial ?_ rfl
  simp only [Tryz.ntmps98, List.size_toArray, List.length_cons, List.length_nil, Nat.reduceAdd, Nat.reduceSub, Array.replicate_succ, Array.replicate_zero, List.push_toArray, List.append_toArray, List.nil_append, List.cons_append]
  gi_wp2
  refine wpIn_scope ?_
  gi_wp2
  refine wpIn_label ?_
  gi_wp2
  gi_loopw [3] (fun p wr => ∃ (pre : List Piece) (R : ByteArray), p = .string R ∧ Hid (RunsAt s.data.toList pre R.data.toList ∧ R.size ≤ s.size) ∧ J pre wr) (fun p _ => match p with | .string R => R.size | _ => 0)
  case atStart => exact ⟨[], s, rfl, ⟨runsAt_nil _, Nat.le_refl _⟩, h0⟩
  case round =>
    obtain ⟨pre, R, rfl, HR, hJs⟩ := hrel
    by_cases hR : R.size = 0
    · have hRb := str_em hR
      have hd := HR.out.1
      rw [str_nil hR] at hd
      have Hd := Lib.hid hd
      clear hd hR
      gi_wp2_with fail
      rw [noGoto_normal]
      go_end0
      exact ⟨⟨_, rfl⟩, .inl ⟨pre, Hd.out, hJs⟩⟩
    · have hR0 : 0 < R.size := by omega
      have hRb := str_ne hR0
      have hRs : R.size ≤ 1000000 := by have := HR.out.2; omega
      have hlen : pre.length < s.size := by
        have := HR.out.1
        rw [show R.data.toList = R.data.toList.drop 0 from rfl, ba_drop R 0 hR0] at this
        simpa using this.bound
      clear hR
      gi_wp2_with fail
      refine ⟨trivial, fun _ => by omega, ((callsIn_wide (n := n - 1)).2 (turns_tb _ _)).mono ?_⟩
      rintro e w' ⟨rfl, rfl⟩
      obtain ⟨t, ht⟩ : ∃ t, t = tb R[0] := ⟨_, rfl⟩
      rw [← ht]
      have Ht := Lib.hid ht
      clear ht
      gi_wp2_with fail
      gi_loop [3, 14] (fun p i => ∃ k : Nat, p = .string R ∧ i = .int .i64 k ∧ k ≤ R.size ∧ Hid (∀ j (h : j < R.size), j < k → tb R[j] = t)) (fun _ i => R.size - (Go.RowKit.intOf i).toNat)
      case atStart => exact ⟨0, rfl, rfl, Nat.zero_le _, fun j _ h => absurd h (Nat.not_lt_zero j)⟩
      case round =>
        obtain ⟨k, rfl, rfl, hk, Hk⟩ := hrel
        by_cases hlt : k < R.size
        · gi_wp2_with fail
          refine ⟨trivial, fun _ => by omega, ((callsIn_wide (n := n - 1)).2 (turns_tb _ _)).mono ?_⟩
          rintro e w' ⟨rfl, rfl⟩
          by_cases he : tb R[k] = t
          · have heb : (tb R[k] == t) = true := by rw [he]; simp
            have He := Lib.hid he
            clear he
            gi_wp2_with fail
            go_round
            case rel => exact ⟨k + 1, rfl, by go_num, by omega, fun j h hj => by
              by_cases hjk : j = k
              · subst hjk; exact He.out
              · exact Hk.out j h (by omega)⟩
            case measure => simp [Go.RowKit.intOf]; omega
          · have heb : (tb R[k] == t) = false := by rw [beq_eq_false_iff_ne]; exact he
            have He := Lib.hid he
            clear he
            have hsz : (R.extract 0 k).size ≤ 1000000 := by simp; omega
            obtain ⟨fn, tmps, assign, body, hy, hR⟩ := hY pre ⟨(R.extract 0 k, t), hsz⟩ wr hJs hlen
            dsimp only [encPiece] at hy
            gi_wp2_with fail
            refine ⟨fun _ => by omega, hR.mono ?_⟩
            rintro e W3 (⟨rfl, hJ3, _⟩ | ⟨rfl, hJx3⟩)
            · have hcut := HR.out.1.cut k hlt t Ht.out Hk.out He.out ⟨(R.extract 0 k, t), hsz⟩ rfl
              have hsm : (R.extract k R.size).size < R.size := by
                have hk0 : k ≠ 0 := by rintro rfl; exact He.out Ht.out.symm
                simp; omega
              have Hcut := Lib.hid (And.intro hcut (And.intro hsm HR.out.2))
              clear hcut hsm
              gi_wp2_with fail
              go_roundw
              case rel => exact ⟨pre ++ [⟨(R.extract 0 k, t), hsz⟩], _, rfl, ⟨Hcut.out.1, by have := Hcut.out.2; omega⟩, hJ3⟩
              case measure => exact Hcut.out.2.1
            · have hcut := HR.out.1.cut k hlt t Ht.out Hk.out He.out ⟨(R.extract 0 k, t), hsz⟩ rfl
              have Hcut := Lib.hid hcut
              clear hcut
              gi_wp2_with fail
              rw [noGoto_ret']
              refine bodyPost_ret (results_none rfl _ _ _) rfl ?_
              exact ⟨⟨_, rfl⟩, .inr ⟨_, ⟨_, Hcut.out⟩, hJx3⟩⟩
        · have hlast := HR.out.1.last hR0 t (fun j h hj => Hk.out j h (by omega)) ⟨(R, t), hRs⟩ rfl
          have Hlast := Lib.hid hlast
          clear hlast
          obtain ⟨fn, tmps, assign, body, hy, hR⟩ := hY pre ⟨(R, t), hRs⟩ wr hJs hlen
          dsimp only [encPiece] at hy
          gi_wp2_with fail
          refine ⟨fun _ => by omega, hR.mono ?_⟩
          rintro e W3 (⟨rfl, hJ3, _⟩ | ⟨rfl, hJx3⟩)
          · gi_wp2_with fail
            rw [noGoto_ret']
            refine bodyPost_ret (results_none rfl _ _ _) rfl ?_
            exact ⟨⟨_, rfl⟩, .inl ⟨_, Hlast.out, hJ3⟩⟩
          · gi_wp2_with fail
            rw [noGoto_ret']
            refine bodyPost_ret (results_none rfl _ _ _) rfl ?_
            exact ⟨⟨_, rfl⟩, .inr ⟨_, ⟨_, Hlast.out⟩, hJx3⟩⟩
end Go.Proofs.YtlkeomcillencaaGreat
end
section
/- fold.Text: what is folded. -/
namespace Go.Proofs.YtlkeomcillencaaGreat
open Go.RowKit Go.Shelf
attribute [local go_sem] Oper.semAt_some

/-- bytes as cells -/
def u8s (l : List UInt8) : List Value := l.map fun b => Value.int .u8 b.toNat
theorem u8s_append (a b : List UInt8) : u8s (a ++ b) = u8s a ++ u8s b := by simp [u8s]
theorem u8s_bytes (s : ByteArray) : byteCells s = u8s s.data.toList := rfl

theorem u8s_step (a : List UInt8) (p : ByteArray) (k : Nat) (h : k < p.size) :
    u8s (a ++ (p.data.toList.map foldB).take (k + 1)) = u8s (a ++ (p.data.toList.map foldB).take k) ++ [.int .u8 (foldB p[k]).toNat] := by
  rw [← List.map_take, ba_take p k h, List.map_append, ← List.append_assoc, u8s_append, List.map_take]
  rfl

/-- what pieces are folded to -/
def tx (pre : List Piece) : List UInt8 := pre.flatMap fun x => if x.1.2 then x.1.1.data.toList.map foldB else x.1.1.data.toList
theorem tx_snoc (pre : List Piece) (x : Piece) : tx (pre ++ [x]) = tx pre ++ (if x.1.2 then x.1.1.data.toList.map foldB else x.1.1.data.toList) := by simp [tx]
theorem tx_len (pre : List Piece) : (tx pre).length ≤ pre.length * 1000000 := by
  induction pre using snoc_ind with
  | nil => simp [tx]
  | snoc l x ih =>
    rw [tx_snoc, List.length_append]
    have hx := x.2
    have e : (if x.1.2 then x.1.1.data.toList.map foldB else x.1.1.data.toList).length = x.1.1.size := by split <;> simp
    rw [e]
    simp only [List.length_append, List.length_cons, List.length_nil]
    omega
theorem tx_fold {pre : List Piece} (h : okAll pre) : tx pre = foldL (flat pre) := by
  induction pre using snoc_ind with
  | nil => rfl
  | snoc l x ih =>
    rw [okAll_snoc] at h
    rw [tx_snoc, flat_snoc, foldL_append, ih h.1]
    congr 1
    obtain ⟨_, hb, _⟩ := h.2
    cases hx : x.1.2 with
    | true => simp [foldL]
    | false =>
      rw [hx] at hb
      simp only [Bool.false_eq_true, if_false]
      unfold foldL
      have : ∀ l : List UInt8, (∀ b ∈ l, tb b = false) → l = l.map foldB := by
        intro l
        induction l with
        | nil => intro _; rfl
        | cons b r ih =>
          intro h
          have hb := h b (by simp)
          simp only [tb, bne_eq_false_iff_eq] at hb
          rw [List.map_cons, hb, ← ih fun c hc => h c (by simp [hc])]
      exact this _ hb

/-- 'out = append(out, ..)' onto a box's own row: what the walk owes. -/
theorem boxed_app {W w1 : World} {n₀ B : Nat} {t e : TypeId} {size g cap k m : Nat} {v' : Value} {xs ys : List Value} (hv : Boxed W B t (.slice (some ⟨g, 0, none⟩) k cap)) (hte : t ≠ e)
    (hrow : W.ownsRow n₀ e size (.slice (some ⟨g, 0, none⟩) k cap) k xs) (hn₀ : n₀ ≤ W.heap.size) (hB : n₀ ≤ B) (hown' : w1.ownsRow n₀ e size v' m ys) (hgrow : W.grownBy w1 (some g)) :
    Boxed w1 B t (.slice (some ⟨g, 0, none⟩) k cap) ∧ Boxed (w1.setCell ⟨B, 0, none⟩ v') B t v' ∧ (w1.setCell ⟨B, 0, none⟩ v').ownsRow n₀ e size v' m ys ∧ KeepsOthers W (w1.setCell ⟨B, 0, none⟩ v') ∧ Below n₀ W (w1.setCell ⟨B, 0, none⟩ v') := by
  have hv1 : Boxed w1 B t (.slice (some ⟨g, 0, none⟩) k cap) := hv.kept hgrow (hv.not_row hte hrow)
  rcases hrow.2 with ⟨h, _⟩ | ⟨g0, cap0, cur, h, hb, hgb, _⟩
  · cases h
  · simp only [Value.slice.injEq, Option.some.injEq, Addr.mk.injEq, true_and, and_true] at h
    obtain ⟨rfl, rfl⟩ := h
    refine ⟨hv1, hv1.set v', hown'.kept (grownBy_setCell' w1 B v') (.inr (hv1.not_row hte hown').symm), ?_, ?_⟩
    · refine (KeepsOthers.of_grownBy hgrow fun j o ej hj => ?_).trans (KeepsOthers.setCell _ _ _)
      cases ej
      rw [hgb] at hj; cases hj; rfl
    · refine ((Below.refl n₀ W).grown hgrow hn₀ fun j ej => ?_).setCell (p := ⟨B, 0, none⟩) hB v'
      cases ej
      exact hb

theorem conv_own {P : Program} (W : World) (src dst e : TypeId) (base g cap : Nat) (l : List UInt8) (hs : P.underlying src = some (.slice e)) (he : P.underlying e = some (.int .u8)) (hd : P.underlying dst = some .string)
    (h : W.ownsRow base e 1 (.slice (some ⟨g, 0, none⟩) l.length cap) l.length (u8s l)) :
    (convert src dst (.slice (some ⟨g, 0, none⟩) l.length cap)).run P W = .ok (.string (bs l)) W :=
  run_convert_bytes_back W src dst e ⟨g, 0, none⟩ cap l hs he hd fun j hj => h.cells (g := g) rfl j _ (by simp [u8s, hj])

theorem Tryz.infoU8 : (Tryz.prog.info? 5).map (fun i => (i.zero, i.size, i.bytes)) = some (some (.int .u8 0), 1, 1) := by kernel_rfl

set_option maxRecDepth 100000 in
set_option maxHeartbeats 2000000 in
theorem text_any (s : ByteArray) (w : World) (hs : s.size ≤ 1000000) :
    Calls Tryz.prog 40 #[.string s] w fun e w' => e = .returned (.string (bs (foldL s.data.toList))) ∧ Below w.heap.size w w' := by
  obtain ⟨i0, hi, hz0, hz1, hz2⟩ := info_parts Tryz.infoU8
  refine (callsIn_wide (n := 5)).1 ?_
  refine callsIn_of_wp_marks Tryz.func40 rfl trivial ?_ rfl
  simp only [Tryz.ntmps40, List.size_toArray, List.length_cons, List.length_nil, Nat.reduceAdd, Nat.reduceSub, Array.replicate_succ, Array.replicate_zero, List.push_toArray, List.append_toArray, List.nil_append, List.cons_append]
  gi_wp2_with (gi_at_make; refine wpListIn_make_own _ rfl _ _ 127 rfl w.heap.size 5 i0 (.int .u8 0) 1 Tryz.underlying127 hi hz0 hz1 .i64 .i64 (s.size : Int) s.size rfl rfl rfl (by rw [hz2]; omega) (by unfold maxLen; omega) (Nat.le_refl _) ?_; intro w1 hown hgrow)
  refine ⟨trivial, ((callsIn_wide (n := 4)).2 (runs_any _ _)).mono ?_⟩
  rintro e w2 ⟨rfl, hw2⟩
  have hwl : w.heap.size ≤ w1.heap.size := hgrow.size
  have hB1 : Below w.heap.size w w1 := ⟨hgrow.os, hgrow.tape, hgrow.output, hgrow.size, fun i hi => hgrow.block i hi (by simp)⟩
  have bO := (Boxed.new w1 127 (.slice (some ⟨w.heap.size, 0, none⟩) 0 s.size)).alloc (.cells #[.string s] 9)
  have bS := Boxed.new (w1.alloc (.cells #[.slice (some ⟨w.heap.size, 0, none⟩) 0 s.size] 127)) 9 (.string s)
  have hrow := (hown.alloc (.cells #[.slice (some ⟨w.heap.size, 0, none⟩) 0 s.size] 127)).alloc (.cells #[.string s] 9)
  have hB2 : Below w.heap.size w w2 := by rw [hw2]; exact (hB1.alloc hwl _).alloc (by simp; omega) _
  have hsz : w2.heap.size = w1.heap.size + 2 := by rw [hw2]; simp
  rw [World.size_alloc] at bS
  rw [← hw2] at bO bS hrow
  obtain ⟨B, hBd⟩ : ∃ B, B = w1.heap.size := ⟨_, rfl⟩
  simp only [World.size_alloc]
  rw [← hBd] at bO bS hsz hwl ⊢
  have hle : B + 2 ≤ w2.heap.size := by omega
  have HX := Lib.hid (And.intro hw2 (And.intro hsz hBd))
  clear hw2 hsz hBd hB1 hown hgrow
  gi_wp2_with fail
  refine wpIn_rangeFunc_ownG rfl (by omega) (gf := 98) (lb := #[.pointer (some ⟨B + 1, 0, none⟩)]) rfl trivial (enters_of Tryz.func98 (by kernel_rfl) rfl)
    (runs_stops 4 (by omega) (B + 1) s w2 hs (by omega) bS.cell) (fun _ _ => trivial) (fun _ _ _ _ _ _ _ _ => trivial) (Below.refl _ _) (fun _ => rfl)
    (fun pre W => (∃ v, Boxed W B 127 v ∧ W.ownsRow w.heap.size 5 1 v (tx pre).length (u8s (tx pre)) ∧ ∃ g cap, v = .slice (some ⟨g, 0, none⟩) (tx pre).length cap) ∧ Below w.heap.size w W)
    (fun _ _ _ => False)
    (OwnFrom.and (Own.from (holdsRow_own w.heap.size B 127 5 1 (fun pre => (tx pre).length) (fun pre => u8s (tx pre)) (fun pre v => ∃ g cap, v = .slice (some ⟨g, 0, none⟩) (tx pre).length cap)) _) (ownFrom_below (by omega) (by omega)))
    (fun _ _ _ _ _ hs _ _ => hs)
    ⟨⟨_, bO, hrow, _, _, rfl⟩, hB2⟩
    (fun x => { tmps := #[.string s, undef, .string ⟨#[]⟩, .pointer (some ⟨B, 0, none⟩), .string x.1.1, .bool x.1.2, undef, .string s, .int .i64 s.size, .slice (some ⟨w.heap.size, 0, none⟩) 0 s.size, .string s, .func (.func 98) #[] #[.pointer (some ⟨B + 1, 0, none⟩)], .string x.1.1, .bool x.1.2, undef, undef, undef, undef, undef, undef, undef, undef, undef, undef, undef, undef, undef, undef, undef, undef, undef, undef, undef, undef], defers := [] }) ?assign ?body ?done ?stop
  case assign =>
    intro l x W K hK
    gi_wp2
    exact hK
  case stop =>
    rintro D c pre W _ _ h _
    exact h.elim
  case done =>
    rintro D xs W hD hS ⟨⟨v, hv, hrow, g, cap, rfl⟩, hB⟩ hK
    have hc := hv.cell
    have hconv := conv_own W 127 9 5 w.heap.size g cap (tx xs) Tryz.underlying127 Tryz.underlying5 Tryz.underlying9 hrow
    have ht : tx xs = foldL s.data.toList := by rw [tx_fold hS.2.1]; have := hS.1; rw [List.append_nil] at this; rw [this]
    have Ht := Lib.hid ht
    clear ht
    gi_wp2
    refine ⟨by simp, .inl ⟨_, _, rfl, run_takeDeferred hK, ?_⟩⟩
    exact ⟨_, results_tmp rfl _ _ _, by rw [← Ht.out]; rfl, hB.trans (belowK_b (w := w) (Nat.le_refl _) W D _ _ (by omega) hK rfl rfl)⟩
  case body =>
    rintro l pre x W ⟨⟨v, hv, hrow, g, cap, rfl⟩, hB⟩ hlt
    have htl := tx_len pre
    have hts := tx_snoc pre x
    have Hts := Lib.hid hts
    clear hts
    obtain ⟨⟨p, t⟩, hp⟩ := x
    have hp' : p.size ≤ 1000000 := hp
    have hc := hv.cell
    cases t with
    | false =>
      have hsrc := Src.ofString (P := Tryz.prog) W (tx := 9) Tryz.underlying9 p
      gi_wp2_with (gi_at_builtin; refine wpListIn_app_src _ rfl _ _ 127 9 rfl w.heap.size 5 i0 (.int .u8 0) 1 1 Tryz.underlying127 hi hz0 hz1 hz2 rfl g cap _ _ rfl hrow _ p.size _ rfl hsrc (by unfold maxLen; omega) (by omega) hB.size ?_; intro g1 cap1 w3 hown3 hgrow3; obtain ⟨hv1, hv2, hr2, hk2, hb2⟩ := boxed_app hv (by decide) hrow hB.size hwl hown3 hgrow3; have hc1 := hv1.cell; have hf1 := hv1.frozen)
      have e : tx (pre ++ [⟨(p, false), hp⟩]) = tx pre ++ p.data.toList := Hts.out
      have e2 : (tx pre).length + p.size = (tx (pre ++ [⟨(p, false), hp⟩])).length := by rw [e]; simp
      refine ⟨hk2.from _, trivial, ⟨_, hv2, ?_, g1, cap1, by rw [e2]⟩, hB.trans hb2⟩
      rw [e, u8s_append, ← u8s_bytes]
      simpa using hr2
    | true =>
      gi_wp2_with fail
      gi_loopw [21] (fun i wr => ∃ (k g cap : Nat), i = .int .i64 k ∧ k ≤ p.size ∧ Boxed wr B 127 (.slice (some ⟨g, 0, none⟩) ((tx pre).length + k) cap) ∧
        wr.ownsRow w.heap.size 5 1 (.slice (some ⟨g, 0, none⟩) ((tx pre).length + k) cap) ((tx pre).length + k) (u8s (tx pre ++ (p.data.toList.map foldB).take k)) ∧ Hid (KeepsOthers W wr ∧ Below w.heap.size W wr)) (fun i _ => p.size - (Go.RowKit.intOf i).toNat)
      case atStart => exact ⟨0, g, cap, rfl, Nat.zero_le _, hv, by simpa using hrow, KeepsOthers.refl _, Below.refl _ _⟩
      case round =>
        obtain ⟨k, g2, cap2, rfl, hk, hv2, hrow2, HK⟩ := hrel
        clear hc hv hrow
        have hc2 := hv2.cell
        by_cases hlt2 : k < p.size
        · have hsrc := Src.ofSlice (P := Tryz.prog) (w := (wr.alloc (.cells #[.int .u8 (foldB p[k]).toNat] 5)).drew) (size := 1) (tx := 127) Tryz.underlying127 ⟨wr.heap.size, 0, none⟩ 1 1 [.int .u8 (foldB p[k]).toNat] rfl (cell_one_new wr _ _) (by simp [Value.oneCell'])
          have hv3 : Boxed (wr.alloc (.cells #[.int .u8 (foldB p[k]).toNat] 5)).drew B 127 _ := hv2.alloc (.cells #[.int .u8 (foldB p[k]).toNat] 5)
          have hrow3 : (wr.alloc (.cells #[.int .u8 (foldB p[k]).toNat] 5)).drew.ownsRow _ _ _ _ _ _ := hrow2.alloc (.cells #[.int .u8 (foldB p[k]).toNat] 5)
          obtain ⟨g4, cap4, w4, hrun, hown4, hgrow4⟩ := run_app_src (P := Tryz.prog) _ w.heap.size 127 127 127 5 i0 (.int .u8 0) 1 1 Tryz.underlying127 hi hz0 hz1 hz2 rfl g2 cap2 _ _ hrow3 _ 1 _ hsrc (by unfold maxLen; omega) (by omega) (by have := HK.out.2.size; have := hB.size; simp; omega)
          obtain ⟨hv5, hv6, hr6, hk6, hb6⟩ := boxed_app hv3 (by decide) hrow3 (by have := HK.out.2.size; have := hB.size; simp; omega) hwl hown4 hgrow4
          have hc3 := hv3.cell
          have hc5 := hv5.cell
          have hf5 := hv5.frozen
          have H6 := Lib.hid (And.intro hv6 (And.intro hr6 (And.intro hk6 hb6)))
          clear hv6 hr6 hk6 hb6 hown4 hgrow4 hrow3 hv3 hv5 hsrc
          have hrun2 : (Sem.run Tryz.prog (Builtin.append_ #[127, 127] 127 #[.slice (some ⟨g2, 0, none⟩) ((tx pre).length + k) cap2, .slice (some ⟨wr.heap.size, 0, none⟩) 1 1]) (wr.alloc (.cells #[.int .u8 (foldB p[k]).toNat] 5)).drew).andThen (fun a w' => Result.ok (Next.value a) w') = .ok (.value (.slice (some ⟨g4, 0, none⟩) ((tx pre).length + k + 1) cap4)) w4 := by rw [hrun]; rfl
          simp [go_sem] at hrun2
          gi_upto_region 10 with (fail)
          gi_region_with (first | (refine ⟨trivial, ?_⟩; gi_at_call 71; refine (CallsIn.inRound l ((callsIn_wide (n := 2)).2 (byte_u8 _ _))).mono ?_; rintro e w' ⟨rfl, rfl⟩)| (fail))
          all_goals
            clear hrun hrun2 hc2 hc3 hc5 hf5
            gi_wp2_with fail
            go_roundw
            case rel =>
              refine ⟨k + 1, g4, cap4, by go_num, by omega, H6.out.1, ?_, (HK.out.1.trans (((KeepsOthers.alloc wr _).trans (KeepsOthers.drew _)).trans H6.out.2.2.1)), HK.out.2.trans ((((Below.refl _ wr).alloc (by have := HK.out.2.size; have := hB.size; omega) _).drew).trans H6.out.2.2.2)⟩
              rw [u8s_step _ p k hlt2]
              exact H6.out.2.1
            case measure => simp [Go.RowKit.intOf]; omega
        · have hkp : k = p.size := by omega
          have Hkp := Lib.hid hkp
          clear hkp
          gi_wp2_with fail
          have e : tx (pre ++ [⟨(p, true), hp⟩]) = tx pre ++ p.data.toList.map foldB := Hts.out
          have e2 : (tx pre).length + k = (tx (pre ++ [⟨(p, true), hp⟩])).length := by rw [e, Hkp.out]; simp
          refine ⟨HK.out.1.from _, trivial, ⟨_, hv2, ?_, g2, cap2, by rw [e2]⟩, hB.trans HK.out.2⟩
          have e3 : (p.data.toList.map foldB).take k = p.data.toList.map foldB := List.take_of_length_le (by rw [Hkp.out]; simp)
          rw [e3] at hrow2
          rw [e] at e2 ⊢
          rw [← e2]
          exact hrow2
end Go.Proofs.YtlkeomcillencaaGreat
end
section
/- The document's Text, Same, Compare of layer 1; awake. -/
namespace Go.Proofs.YtlkeomcillencaaGreat
open Go.RowKit

/-- 'string([]byte{b})' -/
theorem conv_one {P : Program} (W : World) (src dst e : TypeId) (b : UInt8) (hs : P.underlying src = some (.slice e)) (he : P.underlying e = some (.int .u8)) (hd : P.underlying dst = some .string) :
    (convert src dst (.slice (some ⟨W.heap.size, 0, none⟩) 1 1)).run P (W.alloc (.cells #[.int .u8 b.toNat] e)) = .ok (.string (bs [b])) (W.alloc (.cells #[.int .u8 b.toNat] e)) :=
  run_convert_bytes_back (W.alloc (.cells #[.int .u8 b.toNat] e)) src dst e ⟨W.heap.size, 0, none⟩ 1 [b] hs he hd fun j hj => by
    simp at hj
    subst hj
    simp [Addr.add]
theorem bs_append (a b : List UInt8) : bs a ++ bs b = bs (a ++ b) := by
  apply ba_ext
  simp [bs]
theorem foldL_step (s : ByteArray) (k : Nat) (h : k < s.size) : bs (foldL (s.data.toList.take k)) ++ bs [foldB s[k]] = bs (foldL (s.data.toList.take (k + 1))) := by
  rw [bs_append, ba_take s k h, foldL_append]; rfl

set_option maxHeartbeats 1000000 in
theorem reftext (s : ByteArray) (w : World) (hs : s.size ≤ 1000000) :
    Calls Tryz.prog 66 #[.string s] w fun e w' => e = .returned (.string (bs (foldL s.data.toList))) ∧ Below w.heap.size w w' := by
  go_enter Tryz.func66, Tryz.ntmps66
  go_wp2_with fail
  go_loopw [3, 4] (fun t i wr => ∃ k : Nat, k ≤ s.size ∧ i = .int .i64 k ∧ t = .string (bs (foldL (s.data.toList.take k))) ∧ Hid (Below w.heap.size w wr)) (fun _ i _ => s.size - (Go.RowKit.intOf i).toNat)
  case atStart => exact ⟨0, Nat.zero_le _, rfl, rfl, Below.refl _ _⟩
  case round =>
    obtain ⟨k, hk, rfl, rfl, HB⟩ := hrel
    by_cases hlt : k < s.size
    · have hconv := conv_one (P := Tryz.prog) wr 127 9 5 (foldB s[k]) Tryz.underlying127 Tryz.underlying5 Tryz.underlying9
      have hst := foldL_step s k hlt
      have Hst := Lib.hid hst
      clear hst
      have hn : (bs (foldL (s.data.toList.take k))).size ≤ 1000000 := by simp; omega
      go_wp2_with (go_at_call 92; refine (refbyte _ _).mono ?_; rintro e w' ⟨rfl, rfl⟩)
      go_roundw
      case rel => exact ⟨k + 1, by omega, by go_num, by rw [← Hst.out], (HB.out.alloc HB.out.size _)⟩
      case measure => simp [Go.RowKit.intOf]; omega
    · have hkp : k = s.size := by omega
      have Hkp := Lib.hid hkp
      clear hkp
      go_wp2_with fail
      go_ret
      exact ⟨by rw [Hkp.out, List.take_of_length_le (by simp)]; rfl, HB.out⟩

theorem bs_inj {a b : List UInt8} (h : bs a = bs b) : a = b := by
  have := congrArg (fun x : ByteArray => x.data.toList) h
  simpa using this
end Go.Proofs.YtlkeomcillencaaGreat
end
section
/- Layer 2: keys of a book: folded names. -/
namespace Go.Proofs.YtlkeomcillencaaGreat
open Go Go.RowKit Go.Maps

abbrev KeyB := List UInt8
def kVB (k : KeyB) : Value := .string (bs k)
def kLB (k : KeyB) : Lit := .string k
def OkKB (k : KeyB) : Prop := k.length ≤ maxLen
theorem kLB_inj : ∀ a b : KeyB, kLB a = kLB b → a = b := fun a b h => by simpa [kLB] using h
theorem kLB_key (k : KeyB) : WideAt.IsKeyLit (kLB k) := by simp [kLB, WideAt.IsKeyLit]
theorem keyedB : Keyed Tryz.prog 9 := string_keyed Tryz.underlying9
theorem keyOfB {k : KeyB} (h : OkKB k) : keyOf Tryz.prog 9 (kVB k) = some (kLB k) := WideMaps.keyOf_string_mk Tryz.underlying9 (by simpa [OkKB] using h)
theorem ownsB_same {H : Type} {P : Program} {k : TypeId} {R : Value → Option (DataW H × List MemPlace)} {w w' : World} {b n : Nat} {D : DataW H} (h : w.ownsMap P k R b n D) (he : w'.heap[b]? = w.heap[b]?) : w'.ownsMap P k R b n D := by
  obtain ⟨es, clock, hb, F, hs, hD⟩ := h
  exact ⟨es, clock, he.trans hb, F, hs, hD⟩
theorem ownsB_tight {H : Type} {P : Program} {k : TypeId} {R : Value → Option (DataW H × List MemPlace)} {w : World} {b n : Nat} {D : DataW H} (h : w.ownsMap P k R b n D) : w.ownsMap P k R b (Maps.size D) D := by
  obtain ⟨es, clock, hb, F, hs, hD⟩ := h
  refine ⟨es, clock, hb, F, ?_, hD⟩
  rw [hD]
  show es.size ≤ ((es.toList.map (WideElems.rg P k R)).foldr DataW.insert []).length
  rw [length_sorted]; simp
/-- an entry: its name, its name folded, its thing -/
structure Ent (V : Type) where
  name : ByteArray
  fold : KeyB
  thing : V
theorem fold_ok (s : ByteArray) (h : s.size ≤ 1000000) : OkKB (foldL s.data.toList) := by
  have h1 : s.data.toList.length = s.size := rfl
  have h2 : (foldL s.data.toList).length ≤ 1000000 := by rw [foldL_length, h1]; exact h
  exact Nat.le_trans h2 (by decide)
theorem lookM_in {α β : Type} [DecidableEq α] {T : List (α × β)} {k : α} {v : β} (h : lookM T k = some v) : (k, v) ∈ T := by
  unfold lookM at h
  rw [Option.map_eq_some_iff] at h
  obtain ⟨p, h1, rfl⟩ := h
  have h2 := List.find?_some h1
  have h3 : p.1 = k := by simpa using h2
  subst h3
  exact List.mem_of_find?_eq_some h1
theorem lookM_none {α β : Type} [DecidableEq α] {T : List (α × β)} {k : α} (h : (lookM T k).isSome = false) : delM T k = T := by
  unfold delM
  rw [List.filter_eq_self]
  intro p hp
  simp
  rintro rfl
  unfold lookM at h
  rw [Option.isSome_map] at h
  cases hf : T.find? fun q => decide (q.1 = p.1) with
  | none => rw [List.find?_eq_none] at hf; exact absurd (hf p hp) (by simp)
  | some x => rw [hf] at h; cases h
end Go.Proofs.YtlkeomcillencaaGreat
end
section
/- Layer 2: a book of *rollcall/room.Room: its map. -/
namespace Go.Proofs.YtlkeomcillencaaGreat
open Go Go.RowKit Go.Maps

/-- a pointer to a block -/
def adP : Option Nat → Option Addr | none => none | some s => some ⟨s, 0, none⟩
def adI : Option Nat → Int | none => -1 | some s => s
theorem adP_inj {a b : Option Nat} (h : adP a = adP b) : a = b := by
  cases a <;> cases b <;> simp [adP] at h ⊢
  exact h
theorem adI_inj {a b : Option Nat} (h : adI a = adI b) : a = b := by
  cases a <;> cases b <;> simp [adI] at h ⊢
  all_goals omega
abbrev VP := Option Nat
def thVP (v : VP) : Value := .pointer (adP v)
def OkVP (v : VP) : Prop := v = v
def valEP (e : Ent VP) : Value := .agg #[.string e.name, .string (bs e.fold), thVP e.thing]
def evEP (e : Ent VP) : DataW Unit := .agg [.lit (.string e.name.data.toList), .lit (.string e.fold), .lit (.int .i64 (adI e.thing))]
theorem valEP_inj {a b : Ent VP} (h : valEP a = valEP b) : a = b := by
  obtain ⟨n, f, t⟩ := a
  obtain ⟨n2, f2, t2⟩ := b
  unfold valEP thVP at h
  simp only [Value.agg.injEq] at h
  have h' := congrArg Array.toList h
  simp only [List.cons.injEq, Value.string.injEq, Value.int.injEq, Value.bool.injEq, Value.pointer.injEq, and_true, true_and] at h'
  obtain ⟨h1, h2, h3⟩ := h'
  have h2 := bs_inj h2
  have h3 := adP_inj h3
  subst h1; subst h2; subst h3; rfl
open Classical in
/-- how an entry reads -/
noncomputable def readEP (v : Value) : Option (DataW Unit × List MemPlace) := if h : ∃ e, v = valEP e then some (evEP h.choose, []) else none
theorem readEP_val (e : Ent VP) : readEP (valEP e) = some (evEP e, []) := by
  have h : ∃ e2, valEP e = valEP e2 := ⟨e, rfl⟩
  unfold readEP
  rw [dif_pos h, ← valEP_inj h.choose_spec]
theorem evEP_inj : ∀ a b : Ent VP, evEP a = evEP b → a = b := fun a b h => by
  obtain ⟨n, f, t⟩ := a
  obtain ⟨n2, f2, t2⟩ := b
  simp only [evEP, DataW.agg.injEq, List.cons.injEq, DataW.lit.injEq, Lit.string.injEq, Lit.int.injEq, and_true, true_and] at h
  obtain ⟨h1, h2, h3⟩ := h
  have h1 := ba_ext h1
  have h3 := adI_inj h3
  subst h1; subst h2; subst h3; rfl
theorem readEP_inv {v : Value} {z : DataW Unit × List MemPlace} (h : readEP v = some z) : ∃ e, v = valEP e ∧ z = (evEP e, []) := by
  unfold readEP at h
  split at h
  · rename_i hx
    cases h
    exact ⟨_, hx.choose_spec, rfl⟩
  · cases h
def zeroEP : Ent VP := ⟨⟨#[]⟩, [], none⟩
/-- block b is the map of a book with these entries -/
def OkTPB (T : List (KeyB × Ent VP)) : Prop := ∀ p ∈ T, OkKB p.1 ∧ p.2.fold = p.1 ∧ foldL p.2.name.data.toList = p.1 ∧ p.2.name.size ≤ 1000000 ∧ OkVP p.2.thing
def MapBP (w : World) (b : Nat) (T : List (KeyB × Ent VP)) : Prop := ∃ D : DataW Unit, w.ownsMap Tryz.prog 9 readEP b T.length D ∧ MapHas kLB evEP D T ∧ OkTPB T
/-- block t is a book for 'most' entries whose map is block b -/
def BokP (base : Nat) (w : World) (t b : Nat) (most : Int) (T : List (KeyB × Ent VP)) : Prop := base ≤ t ∧ base ≤ b ∧ t ≠ b ∧ w.heap[t]? = some (.cells #[.int .i64 most, .map (some b)] 120 (0, 0)) ∧ MapBP w b T
theorem mapBP_lt {w : World} {b : Nat} {T : List (KeyB × Ent VP)} (h : MapBP w b T) : b < w.heap.size := by
  obtain ⟨D, h1, _⟩ := h
  exact h1.lt
theorem mapBP_same {w w' : World} {b : Nat} {T : List (KeyB × Ent VP)} (h : MapBP w b T) (he : w'.heap[b]? = w.heap[b]?) : MapBP w' b T := by
  obtain ⟨D, h1, h2, h3⟩ := h
  exact ⟨D, ownsB_same h1 he, h2, h3⟩
theorem bokP_fr {base : Nat} {w w' : World} {t b : Nat} {most : Int} {T : List (KeyB × Ent VP)} {X : Nat → Prop} (h : BokP base w t b most T) (hf : Fr X w w') (h1 : ¬ X t) (h2 : ¬ X b) : BokP base w' t b most T :=
  ⟨h.1, h.2.1, h.2.2.1, hf.blk h.2.2.2.1 h1, mapBP_same h.2.2.2.2 (hf.block b (mapBP_lt h.2.2.2.2) h2)⟩
theorem bokP_below {base : Nat} {w w' : World} {t b : Nat} {most : Int} {T : List (KeyB × Ent VP)} (h : BokP base w t b most T) (hb : Below w.heap.size w w') : BokP base w' t b most T := bokP_fr (X := fun _ => False) h (Fr.of_below hb) (fun e => e) fun e => e
theorem bokP_lt {base : Nat} {w : World} {t b : Nat} {most : Int} {T : List (KeyB × Ent VP)} (h : BokP base w t b most T) : t < w.heap.size ∧ b < w.heap.size := ⟨blk_lt h.2.2.2.1, mapBP_lt h.2.2.2.2⟩
theorem okTPB_set {T : List (KeyB × Ent VP)} (h : OkTPB T) {name : ByteArray} {v : VP} (hn : name.size ≤ 1000000) (hv : OkVP v) : OkTPB (setM T (foldL name.data.toList) ⟨name, foldL name.data.toList, v⟩) := fun p hp => by
  unfold setM at hp
  rw [List.mem_append] at hp
  rcases hp with hp | hp
  · exact h p (List.mem_filter.1 hp).1
  · simp at hp; subst hp; exact ⟨fold_ok name hn, rfl, rfl, hn, hv⟩
theorem okTPB_del {T : List (KeyB × Ent VP)} (h : OkTPB T) (k : KeyB) : OkTPB (delM T k) := fun p hp => h p (List.mem_filter.1 hp).1
theorem lookBP {w : World} {b : Nat} {T : List (KeyB × Ent VP)} (h : MapBP w b T) {k : KeyB} (hk : OkKB k) : (Instr.lookup 118 (.map (some b)) (kVB k) true).run Tryz.prog w = .ok (.tuple #[valEP ((lookM T k).getD zeroEP), .bool (lookM T k).isSome]) w := by
  obtain ⟨D, a5, a6, a7⟩ := h
  have hz : (zeroValue 134).run Tryz.prog w = .ok (valEP zeroEP) w := by kernel_rfl
  obtain ⟨v, ps, h1, h2⟩ := a5.look_ok keyedB Tryz.underlying118 hz (readEP_val zeroEP) (keyOfB hk)
  obtain ⟨c, rfl, h3⟩ := readEP_inv h2
  rw [h1, a6.has_look kLB_inj]
  have h5 := (Prod.mk.inj h3).1
  rw [a6.look kLB_inj] at h5
  have h6 : c = (lookM T k).getD zeroEP := by
    cases hl : lookM T k with
    | none => rw [hl] at h5; exact (evEP_inj _ _ h5).symm
    | some v => rw [hl] at h5; exact (evEP_inj _ _ h5).symm
  rw [h6]
end Go.Proofs.YtlkeomcillencaaGreat
end
