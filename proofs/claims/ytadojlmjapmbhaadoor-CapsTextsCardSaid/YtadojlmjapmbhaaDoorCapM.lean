/- Layer 12, as mathematics: words between blanks; what requests make of capabilities, bit by bit. -/
import Derived.Laws.Entries
import Derived.WalkKit
namespace Go.Proofs.YtadojlmjapmbhaaDoor
open Go

/-- the pieces between blanks -/
def splitL : List UInt8 → List (List UInt8)
  | [] => [[]]
  | c :: r => if c = 32 then [] :: splitL r else match splitL r with
    | [] => [[c]]
    | p :: ps => (c :: p) :: ps
theorem splitL_ne : ∀ l, splitL l ≠ []
  | [] => by simp [splitL]
  | c :: r => by
    unfold splitL
    split
    · simp
    · split <;> simp
theorem splitL_none : ∀ p : List UInt8, (32 : UInt8) ∉ p → splitL p = [p]
  | [], _ => rfl
  | c :: r, h => by
    have h1 : c ≠ 32 := fun e => h (by rw [e]; exact List.mem_cons_self)
    unfold splitL
    rw [if_neg h1, splitL_none r (fun e => h (List.mem_cons_of_mem _ e))]
theorem splitL_cut : ∀ (p q : List UInt8), (32 : UInt8) ∉ p → splitL (p ++ 32 :: q) = p :: splitL q
  | [], q, _ => by simp [splitL]
  | c :: r, q, h => by
    have h1 : c ≠ 32 := fun e => h (by rw [e]; exact List.mem_cons_self)
    rw [List.cons_append]
    conv => lhs; unfold splitL
    rw [if_neg h1, splitL_cut r q (fun e => h (List.mem_cons_of_mem _ e))]
theorem splitL_blank (r : List UInt8) : splitL (32 :: r) = [] :: splitL r := by
  conv => lhs; unfold splitL
  rw [if_pos rfl]
theorem splitL_more {c : UInt8} {r p : List UInt8} {ps : List (List UInt8)} (h : c ≠ 32) (hs : splitL r = p :: ps) : splitL (c :: r) = (c :: p) :: ps := by
  conv => lhs; unfold splitL
  rw [if_neg h, hs]
theorem splitL_append : ∀ (a b : List UInt8), splitL (a ++ 32 :: b) = splitL a ++ splitL b
  | [], b => by rw [List.nil_append, splitL_blank]; rfl
  | c :: r, b => by
    have ih := splitL_append r b
    rw [List.cons_append]
    by_cases hc : c = 32
    · subst hc; rw [splitL_blank, splitL_blank, ih]; rfl
    · cases hs : splitL r with
      | nil => exact absurd hs (splitL_ne r)
      | cons p ps =>
        rw [hs] at ih
        rw [splitL_more hc hs, splitL_more hc (by rw [ih]; rfl)]
        rfl
theorem splitL_len : ∀ l : List UInt8, (splitL l).length ≤ l.length + 1
  | [] => by simp [splitL]
  | c :: r => by
    have := splitL_len r
    unfold splitL
    split
    · simp; omega
    · split
      · simp
      · rename_i h; rw [h] at this; simp at this ⊢; omega

/-! whole numbers of 64 bits -/
theorem wrap_nat (v : BitVec 64) : IntKind.i64.wrap ((v.toNat : Nat) : Int) = v.toInt := by
  have h := v.isLt
  rw [IntKind.wrap_i64, BitVec.toInt_eq_toNat_cond]
  split <;> omega
/-- what a whole number is, of 64 bits -/
def IV (v : BitVec 64) : Int := v.toInt
theorem of_toInt (v : BitVec 64) : BitVec.ofInt 64 v.toInt = v := BitVec.ofInt_toInt
theorem bits_or_v (v m : BitVec 64) : bits .or .i64 (IV v) (IV m) = IV (v ||| m) := by
  show IntKind.i64.wrap (((BitVec.ofInt 64 v.toInt ||| BitVec.ofInt 64 m.toInt).toNat : Nat) : Int) = _
  rw [of_toInt, of_toInt, wrap_nat]; rfl
theorem bits_and_v (v m : BitVec 64) : bits .and .i64 (IV v) (IV m) = IV (v &&& m) := by
  show IntKind.i64.wrap (((BitVec.ofInt 64 v.toInt &&& BitVec.ofInt 64 m.toInt).toNat : Nat) : Int) = _
  rw [of_toInt, of_toInt, wrap_nat]; rfl
theorem bits_xor_v (v m : BitVec 64) : bits .xor .i64 (IV v) (IV m) = IV (v ^^^ m) := by
  show IntKind.i64.wrap (((BitVec.ofInt 64 v.toInt ^^^ BitVec.ofInt 64 m.toInt).toNat : Nat) : Int) = _
  rw [of_toInt, of_toInt, wrap_nat]; rfl
theorem bits_andNot_v (v m : BitVec 64) : bits .andNot .i64 (IV v) (IV m) = IV (v &&& ~~~m) := by
  show IntKind.i64.wrap (((BitVec.ofInt 64 v.toInt &&& ~~~BitVec.ofInt 64 m.toInt).toNat : Nat) : Int) = _
  rw [of_toInt, of_toInt, wrap_nat]; rfl
theorem IV_beq (v m : BitVec 64) : (IV v == IV m) = (v == m) := by
  unfold IV
  rw [Bool.eq_iff_iff, beq_iff_eq, beq_iff_eq]
  exact ⟨fun h => BitVec.eq_of_toInt_eq h, fun h => by rw [h]⟩
theorem bit_eq {v m : BitVec 64} (h : ∀ i, v.getLsbD i = m.getLsbD i) : v = m := BitVec.eq_of_getLsbD_eq fun i _ => h i
theorem toggle_set {v m : BitVec 64} (h : v &&& m = m) : v ||| m = v ∧ v ^^^ m = v &&& ~~~m := by
  have hb : ∀ i, (v.getLsbD i && m.getLsbD i) = m.getLsbD i := fun i => by rw [← BitVec.getLsbD_and, h]
  refine ⟨BitVec.eq_of_getLsbD_eq fun i hi => ?_, BitVec.eq_of_getLsbD_eq fun i hi => ?_⟩
  · have := hb i
    rw [BitVec.getLsbD_or]
    cases hv : v.getLsbD i <;> cases hm : m.getLsbD i <;> simp_all
  · have := hb i
    rw [BitVec.getLsbD_xor, BitVec.getLsbD_and, BitVec.getLsbD_not]
    cases hv : v.getLsbD i <;> cases hm : m.getLsbD i <;> simp_all
theorem toggle_clear {v m : BitVec 64} (h : v &&& m = 0#64) : v ||| m = v ^^^ m ∧ v &&& ~~~m = v := by
  have hb : ∀ i, (v.getLsbD i && m.getLsbD i) = false := fun i => by rw [← BitVec.getLsbD_and, h]; simp
  refine ⟨BitVec.eq_of_getLsbD_eq fun i hi => ?_, BitVec.eq_of_getLsbD_eq fun i hi => ?_⟩
  · have := hb i
    rw [BitVec.getLsbD_or, BitVec.getLsbD_xor]
    cases hv : v.getLsbD i <;> cases hm : m.getLsbD i <;> simp_all
  · have := hb i
    rw [BitVec.getLsbD_and, BitVec.getLsbD_not]
    cases hv : v.getLsbD i <;> cases hm : m.getLsbD i <;> simp_all

/-! capabilities -/
def awayL : List UInt8 := [97, 119, 97, 121, 45, 110, 111, 116, 105, 102, 121]
def echoL : List UInt8 := [101, 99, 104, 111, 45, 109, 101, 115, 115, 97, 103, 101]
def multiL : List UInt8 := [109, 117, 108, 116, 105, 45, 112, 114, 101, 102, 105, 120]
/-- a name's number -/
def numV (l : List UInt8) : BitVec 64 := if l = awayL then 1#64 else if l = echoL then 2#64 else if l = multiL then 4#64 else 0#64
theorem numV_bit (l : List UInt8) (h : numV l ≠ 0#64) (v : BitVec 64) : v &&& numV l = numV l ∨ v &&& numV l = 0#64 := by
  have two : ∀ i, v &&& BitVec.twoPow 64 i = BitVec.twoPow 64 i ∨ v &&& BitVec.twoPow 64 i = 0#64 := fun i => by
    rw [BitVec.and_twoPow]
    split
    · exact .inl rfl
    · exact .inr rfl
  unfold numV at h ⊢
  split
  · exact two 0
  · split
    · exact two 1
    · split
      · exact two 2
      · simp_all
/-- a word's name, and whether it is taken off -/
def cutV : List UInt8 → List UInt8 × Bool
  | [] => ([], false)
  | c :: r => if c = 45 then (r, true) else (c :: r, false)
def stepV (v m : BitVec 64) (off : Bool) : BitVec 64 := if off then v &&& ~~~m else v ||| m
def appV (h : BitVec 64) : BitVec 64 → List (List UInt8) → BitVec 64 × Bool
  | v, [] => (v, true)
  | v, w :: r => if w = [] then appV h v r else if numV (cutV w).1 = 0#64 then (h, false) else appV h (stepV v (numV (cutV w).1) (cutV w).2) r
theorem appV_skip {h v : BitVec 64} {r : List (List UInt8)} : appV h v ([] :: r) = appV h v r := by simp [appV]
theorem appV_bad {h v : BitVec 64} {w : List UInt8} {r : List (List UInt8)} (hw : w ≠ []) (hn : numV (cutV w).1 = 0#64) : appV h v (w :: r) = (h, false) := by simp [appV, hw, hn]
theorem appV_good {h v : BitVec 64} {w : List UInt8} {r : List (List UInt8)} (hw : w ≠ []) (hn : numV (cutV w).1 ≠ 0#64) : appV h v (w :: r) = appV h (stepV v (numV (cutV w).1) (cutV w).2) r := by simp [appV, hw, hn]
/-- the document's step is the same -/
theorem step_same (l : List UInt8) (hl : numV l ≠ 0#64) (v : BitVec 64) (on : Bool) : (if ((v &&& numV l) == numV l) != on then v ^^^ numV l else v) = stepV v (numV l) (!on) := by
  unfold stepV
  rcases numV_bit l hl v with h | h
  · have := toggle_set h
    rw [h, this.1, ← this.2]
    cases on <;> simp
  · have := toggle_clear h
    rw [h, this.1, this.2]
    have h0 : (0#64 == numV l) = false := by rw [beq_eq_false_iff_ne]; exact fun e => hl e.symm
    rw [h0]
    cases on <;> simp
theorem form_off (v m M S : BitVec 64) : ((v &&& ~~~m) &&& ~~~M) ||| S = (v &&& ~~~(m ||| M)) ||| S := BitVec.eq_of_getLsbD_eq fun i hi => by
  simp only [BitVec.getLsbD_or, BitVec.getLsbD_and, BitVec.getLsbD_not, hi]
  cases v.getLsbD i <;> cases m.getLsbD i <;> cases M.getLsbD i <;> cases S.getLsbD i <;> rfl
theorem form_on (v m M S : BitVec 64) : ((v ||| m) &&& ~~~M) ||| S = (v &&& ~~~M) ||| ((m &&& ~~~M) ||| S) := BitVec.eq_of_getLsbD_eq fun i hi => by
  simp only [BitVec.getLsbD_or, BitVec.getLsbD_and, BitVec.getLsbD_not, hi]
  cases v.getLsbD i <;> cases m.getLsbD i <;> cases M.getLsbD i <;> cases S.getLsbD i <;> rfl
theorem form_twice (v M S : BitVec 64) : ((((v &&& ~~~M) ||| S) &&& ~~~M) ||| S) = (v &&& ~~~M) ||| S := BitVec.eq_of_getLsbD_eq fun i hi => by
  simp only [BitVec.getLsbD_or, BitVec.getLsbD_and, BitVec.getLsbD_not, hi]
  cases v.getLsbD i <;> cases M.getLsbD i <;> cases S.getLsbD i <;> rfl
theorem appV_form : ∀ ws : List (List UInt8), (∃ M S : BitVec 64, ∀ h v, appV h v ws = ((v &&& ~~~M) ||| S, true)) ∨ (∀ h v, appV h v ws = (h, false))
  | [] => .inl ⟨0#64, 0#64, fun h v => by
      have : (v &&& ~~~(0#64)) ||| 0#64 = v := BitVec.eq_of_getLsbD_eq fun i hi => by
        have h0 : (0#64).getLsbD i = false := by simp
        rw [BitVec.getLsbD_or, BitVec.getLsbD_and, BitVec.getLsbD_not, h0]
        simp only [hi, decide_true, Bool.true_and, Bool.not_false, Bool.and_true, Bool.or_false]
      rw [this]; rfl⟩
  | w :: r => by
    by_cases hw : w = []
    · subst hw
      rcases appV_form r with ⟨M, S, hf⟩ | hf
      · exact .inl ⟨M, S, fun h v => by rw [appV_skip, hf]⟩
      · exact .inr fun h v => by rw [appV_skip, hf]
    · by_cases hn : numV (cutV w).1 = 0#64
      · exact .inr fun h v => appV_bad hw hn
      · rcases appV_form r with ⟨M, S, hf⟩ | hf
        · cases ho : (cutV w).2 with
          | true => exact .inl ⟨numV (cutV w).1 ||| M, S, fun h v => by rw [appV_good hw hn, hf, ho]; unfold stepV; rw [if_pos rfl, form_off]⟩
          | false => exact .inl ⟨M, (numV (cutV w).1 &&& ~~~M) ||| S, fun h v => by rw [appV_good hw hn, hf, ho]; unfold stepV; rw [if_neg (by simp), form_on]⟩
        · exact .inr fun h v => by rw [appV_good hw hn, hf]
theorem appV_append (h : BitVec 64) : ∀ (a b : List (List UInt8)) (v : BitVec 64), appV h v (a ++ b) = if (appV h v a).2 then appV h (appV h v a).1 b else (h, false)
  | [], b, v => by simp [appV]
  | w :: r, b, v => by
    rw [List.cons_append]
    by_cases hw : w = []
    · subst hw; rw [appV_skip, appV_skip, appV_append h r b v]
    · by_cases hn : numV (cutV w).1 = 0#64
      · rw [appV_bad hw hn, appV_bad hw hn]; simp
      · rw [appV_good hw hn, appV_good hw hn, appV_append h r b]
/-- what a request makes of capabilities -/
def capV (h : BitVec 64) (l : List UInt8) : BitVec 64 × Bool := appV h h (splitL l)
theorem cap_again (h : BitVec 64) (l : List UInt8) : capV (capV h l).1 l = capV h l := by
  unfold capV
  rcases appV_form (splitL l) with ⟨M, S, hf⟩ | hf
  · rw [hf, hf, form_twice]
  · rw [hf, hf]
theorem cap_two (h : BitVec 64) (a b : List UInt8) :
    ((capV h a).2 = true ∧ (capV (capV h a).1 b).2 = true → capV h (a ++ 32 :: b) = ((capV (capV h a).1 b).1, true)) ∧
    (¬ ((capV h a).2 = true ∧ (capV (capV h a).1 b).2 = true) → capV h (a ++ 32 :: b) = (h, false)) ∧ ((capV h a).2 = false → (capV h a).1 = h) ∧ ((capV (capV h a).1 b).2 = false → (capV (capV h a).1 b).1 = (capV h a).1) := by
  unfold capV
  rw [splitL_append, appV_append]
  rcases appV_form (splitL a) with ⟨M, S, hf⟩ | hf <;> rcases appV_form (splitL b) with ⟨M', S', hg⟩ | hg <;> simp only [hf, hg] <;> simp
end Go.Proofs.YtadojlmjapmbhaaDoor
