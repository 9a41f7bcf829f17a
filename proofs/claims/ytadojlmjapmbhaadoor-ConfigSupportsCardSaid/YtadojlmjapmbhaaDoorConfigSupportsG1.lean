/- Texts of this proof, one behind the other. -/
import Derived.Laws.Entries
import Derived.WalkKit
import Derived.Lib.Hide
import Derived.RangeFuncNested
import Derived.RangeFuncBound
import Derived.RangeFuncCalls
import Derived.RangeFuncLeaves
import Derived.RangeFuncBox
import Derived.Shelf.Abstract
import Derived.Shelf.RegionOpen
import Derived.OwnWalkIn
import Derived.TacticsInMore
import Derived.LoopNIn
import Derived.LoopIn
import Derived.Maps.AppendAt
import Derived.Scope
import Derived.WalkSpells
import Derived.WalkLawsBesides
import Derived.Test.YtadojlmjapmbhaaDoorProg
import Derived.Deep.QuietTactic
import Derived.BigQuiet
import Derived.Outline
import Derived.Lib.Strings
import Derived.Lib.Bytealg
import Derived.Lib.IndexLaws
import Derived.Lib.Walk
import Derived.OwnWalk
import Derived.Below
import Derived.Laws.AppendOwn
import Derived.Laws.OwnMore
import Derived.Laws.BytesArg
section
/- Layer 12, as mathematics: words between blanks; what requests make of capabilities, bit by bit. -/
namespace Go.Proofs.YtadojlmjapmbhaaDoor
open Go

/-- the pieces between blanks -/
def splitL : List UInt8 → List (List UInt8)
  | [] => [[]]
  | c :: r => if c = 32 then [] :: splitL r else match splitL r with
    | [] => [[c]]
    | p :: ps => (c :: p) :: ps
theorem splitL_ne : ∀ l, splitL l ≠ []
  | [] => by simp [splitL]
  | c :: r => by
    unfold splitL
    split
    · simp
    · split <;> simp
theorem splitL_none : ∀ p : List UInt8, (32 : UInt8) ∉ p → splitL p = [p]
  | [], _ => rfl
  | c :: r, h => by
    have h1 : c ≠ 32 := fun e => h (by rw [e]; exact List.mem_cons_self)
    unfold splitL
    rw [if_neg h1, splitL_none r (fun e => h (List.mem_cons_of_mem _ e))]
theorem splitL_cut : ∀ (p q : List UInt8), (32 : UInt8) ∉ p → splitL (p ++ 32 :: q) = p :: splitL q
  | [], q, _ => by simp [splitL]
  | c :: r, q, h => by
    have h1 : c ≠ 32 := fun e => h (by rw [e]; exact List.mem_cons_self)
    rw [List.cons_append]
    conv => lhs; unfold splitL
    rw [if_neg h1, splitL_cut r q (fun e => h (List.mem_cons_of_mem _ e))]
theorem splitL_blank (r : List UInt8) : splitL (32 :: r) = [] :: splitL r := by
  conv => lhs; unfold splitL
  rw [if_pos rfl]
theorem splitL_more {c : UInt8} {r p : List UInt8} {ps : List (List UInt8)} (h : c ≠ 32) (hs : splitL r = p :: ps) : splitL (c :: r) = (c :: p) :: ps := by
  conv => lhs; unfold splitL
  rw [if_neg h, hs]
theorem splitL_append : ∀ (a b : List UInt8), splitL (a ++ 32 :: b) = splitL a ++ splitL b
  | [], b => by rw [List.nil_append, splitL_blank]; rfl
  | c :: r, b => by
    have ih := splitL_append r b
    rw [List.cons_append]
    by_cases hc : c = 32
    · subst hc; rw [splitL_blank, splitL_blank, ih]; rfl
    · cases hs : splitL r with
      | nil => exact absurd hs (splitL_ne r)
      | cons p ps =>
        rw [hs] at ih
        rw [splitL_more hc hs, splitL_more hc (by rw [ih]; rfl)]
        rfl
theorem splitL_len : ∀ l : List UInt8, (splitL l).length ≤ l.length + 1
  | [] => by simp [splitL]
  | c :: r => by
    have := splitL_len r
    unfold splitL
    split
    · simp; omega
    · split
      · simp
      · rename_i h; rw [h] at this; simp at this ⊢; omega

/-! whole numbers of 64 bits -/
theorem wrap_nat (v : BitVec 64) : IntKind.i64.wrap ((v.toNat : Nat) : Int) = v.toInt := by
  have h := v.isLt
  rw [IntKind.wrap_i64, BitVec.toInt_eq_toNat_cond]
  split <;> omega
/-- what a whole number is, of 64 bits -/
def IV (v : BitVec 64) : Int := v.toInt
theorem of_toInt (v : BitVec 64) : BitVec.ofInt 64 v.toInt = v := BitVec.ofInt_toInt
theorem bits_or_v (v m : BitVec 64) : bits .or .i64 (IV v) (IV m) = IV (v ||| m) := by
  show IntKind.i64.wrap (((BitVec.ofInt 64 v.toInt ||| BitVec.ofInt 64 m.toInt).toNat : Nat) : Int) = _
  rw [of_toInt, of_toInt, wrap_nat]; rfl
theorem bits_and_v (v m : BitVec 64) : bits .and .i64 (IV v) (IV m) = IV (v &&& m) := by
  show IntKind.i64.wrap (((BitVec.ofInt 64 v.toInt &&& BitVec.ofInt 64 m.toInt).toNat : Nat) : Int) = _
  rw [of_toInt, of_toInt, wrap_nat]; rfl
theorem bits_xor_v (v m : BitVec 64) : bits .xor .i64 (IV v) (IV m) = IV (v ^^^ m) := by
  show IntKind.i64.wrap (((BitVec.ofInt 64 v.toInt ^^^ BitVec.ofInt 64 m.toInt).toNat : Nat) : Int) = _
  rw [of_toInt, of_toInt, wrap_nat]; rfl
theorem bits_andNot_v (v m : BitVec 64) : bits .andNot .i64 (IV v) (IV m) = IV (v &&& ~~~m) := by
  show IntKind.i64.wrap (((BitVec.ofInt 64 v.toInt &&& ~~~BitVec.ofInt 64 m.toInt).toNat : Nat) : Int) = _
  rw [of_toInt, of_toInt, wrap_nat]; rfl
theorem IV_beq (v m : BitVec 64) : (IV v == IV m) = (v == m) := by
  unfold IV
  rw [Bool.eq_iff_iff, beq_iff_eq, beq_iff_eq]
  exact ⟨fun h => BitVec.eq_of_toInt_eq h, fun h => by rw [h]⟩
theorem bit_eq {v m : BitVec 64} (h : ∀ i, v.getLsbD i = m.getLsbD i) : v = m := BitVec.eq_of_getLsbD_eq fun i _ => h i
theorem toggle_set {v m : BitVec 64} (h : v &&& m = m) : v ||| m = v ∧ v ^^^ m = v &&& ~~~m := by
  have hb : ∀ i, (v.getLsbD i && m.getLsbD i) = m.getLsbD i := fun i => by rw [← BitVec.getLsbD_and, h]
  refine ⟨BitVec.eq_of_getLsbD_eq fun i hi => ?_, BitVec.eq_of_getLsbD_eq fun i hi => ?_⟩
  · have := hb i
    rw [BitVec.getLsbD_or]
    cases hv : v.getLsbD i <;> cases hm : m.getLsbD i <;> simp_all
  · have := hb i
    rw [BitVec.getLsbD_xor, BitVec.getLsbD_and, BitVec.getLsbD_not]
    cases hv : v.getLsbD i <;> cases hm : m.getLsbD i <;> simp_all
theorem toggle_clear {v m : BitVec 64} (h : v &&& m = 0#64) : v ||| m = v ^^^ m ∧ v &&& ~~~m = v := by
  have hb : ∀ i, (v.getLsbD i && m.getLsbD i) = false := fun i => by rw [← BitVec.getLsbD_and, h]; simp
  refine ⟨BitVec.eq_of_getLsbD_eq fun i hi => ?_, BitVec.eq_of_getLsbD_eq fun i hi => ?_⟩
  · have := hb i
    rw [BitVec.getLsbD_or, BitVec.getLsbD_xor]
    cases hv : v.getLsbD i <;> cases hm : m.getLsbD i <;> simp_all
  · have := hb i
    rw [BitVec.getLsbD_and, BitVec.getLsbD_not]
    cases hv : v.getLsbD i <;> cases hm : m.getLsbD i <;> simp_all

/-! capabilities -/
def awayL : List UInt8 := [97, 119, 97, 121, 45, 110, 111, 116, 105, 102, 121]
def echoL : List UInt8 := [101, 99, 104, 111, 45, 109, 101, 115, 115, 97, 103, 101]
def multiL : List UInt8 := [109, 117, 108, 116, 105, 45, 112, 114, 101, 102, 105, 120]
/-- a name's number -/
def numV (l : List UInt8) : BitVec 64 := if l = awayL then 1#64 else if l = echoL then 2#64 else if l = multiL then 4#64 else 0#64
theorem numV_bit (l : List UInt8) (h : numV l ≠ 0#64) (v : BitVec 64) : v &&& numV l = numV l ∨ v &&& numV l = 0#64 := by
  have two : ∀ i, v &&& BitVec.twoPow 64 i = BitVec.twoPow 64 i ∨ v &&& BitVec.twoPow 64 i = 0#64 := fun i => by
    rw [BitVec.and_twoPow]
    split
    · exact .inl rfl
    · exact .inr rfl
  unfold numV at h ⊢
  split
  · exact two 0
  · split
    · exact two 1
    · split
      · exact two 2
      · simp_all
/-- a word's name, and whether it is taken off -/
def cutV : List UInt8 → List UInt8 × Bool
  | [] => ([], false)
  | c :: r => if c = 45 then (r, true) else (c :: r, false)
def stepV (v m : BitVec 64) (off : Bool) : BitVec 64 := if off then v &&& ~~~m else v ||| m
def appV (h : BitVec 64) : BitVec 64 → List (List UInt8) → BitVec 64 × Bool
  | v, [] => (v, true)
  | v, w :: r => if w = [] then appV h v r else if numV (cutV w).1 = 0#64 then (h, false) else appV h (stepV v (numV (cutV w).1) (cutV w).2) r
theorem appV_skip {h v : BitVec 64} {r : List (List UInt8)} : appV h v ([] :: r) = appV h v r := by simp [appV]
theorem appV_bad {h v : BitVec 64} {w : List UInt8} {r : List (List UInt8)} (hw : w ≠ []) (hn : numV (cutV w).1 = 0#64) : appV h v (w :: r) = (h, false) := by simp [appV, hw, hn]
theorem appV_good {h v : BitVec 64} {w : List UInt8} {r : List (List UInt8)} (hw : w ≠ []) (hn : numV (cutV w).1 ≠ 0#64) : appV h v (w :: r) = appV h (stepV v (numV (cutV w).1) (cutV w).2) r := by simp [appV, hw, hn]
/-- the document's step is the same -/
theorem step_same (l : List UInt8) (hl : numV l ≠ 0#64) (v : BitVec 64) (on : Bool) : (if ((v &&& numV l) == numV l) != on then v ^^^ numV l else v) = stepV v (numV l) (!on) := by
  unfold stepV
  rcases numV_bit l hl v with h | h
  · have := toggle_set h
    rw [h, this.1, ← this.2]
    cases on <;> simp
  · have := toggle_clear h
    rw [h, this.1, this.2]
    have h0 : (0#64 == numV l) = false := by rw [beq_eq_false_iff_ne]; exact fun e => hl e.symm
    rw [h0]
    cases on <;> simp
theorem form_off (v m M S : BitVec 64) : ((v &&& ~~~m) &&& ~~~M) ||| S = (v &&& ~~~(m ||| M)) ||| S := BitVec.eq_of_getLsbD_eq fun i hi => by
  simp only [BitVec.getLsbD_or, BitVec.getLsbD_and, BitVec.getLsbD_not, hi]
  cases v.getLsbD i <;> cases m.getLsbD i <;> cases M.getLsbD i <;> cases S.getLsbD i <;> rfl
theorem form_on (v m M S : BitVec 64) : ((v ||| m) &&& ~~~M) ||| S = (v &&& ~~~M) ||| ((m &&& ~~~M) ||| S) := BitVec.eq_of_getLsbD_eq fun i hi => by
  simp only [BitVec.getLsbD_or, BitVec.getLsbD_and, BitVec.getLsbD_not, hi]
  cases v.getLsbD i <;> cases m.getLsbD i <;> cases M.getLsbD i <;> cases S.getLsbD i <;> rfl
theorem form_twice (v M S : BitVec 64) : ((((v &&& ~~~M) ||| S) &&& ~~~M) ||| S) = (v &&& ~~~M) ||| S := BitVec.eq_of_getLsbD_eq fun i hi => by
  simp only [BitVec.getLsbD_or, BitVec.getLsbD_and, BitVec.getLsbD_not, hi]
  cases v.getLsbD i <;> cases M.getLsbD i <;> cases S.getLsbD i <;> rfl
theorem appV_form : ∀ ws : List (List UInt8), (∃ M S : BitVec 64, ∀ h v, appV h v ws = ((v &&& ~~~M) ||| S, true)) ∨ (∀ h v, appV h v ws = (h, false))
  | [] => .inl ⟨0#64, 0#64, fun h v => by
      have : (v &&& ~~~(0#64)) ||| 0#64 = v := BitVec.eq_of_getLsbD_eq fun i hi => by
        have h0 : (0#64).getLsbD i = false := by simp
        rw [BitVec.getLsbD_or, BitVec.getLsbD_and, BitVec.getLsbD_not, h0]
        simp only [hi, decide_true, Bool.true_and, Bool.not_false, Bool.and_true, Bool.or_false]
      rw [this]; rfl⟩
  | w :: r => by
    by_cases hw : w = []
    · subst hw
      rcases appV_form r with ⟨M, S, hf⟩ | hf
      · exact .inl ⟨M, S, fun h v => by rw [appV_skip, hf]⟩
      · exact .inr fun h v => by rw [appV_skip, hf]
    · by_cases hn : numV (cutV w).1 = 0#64
      · exact .inr fun h v => appV_bad hw hn
      · rcases appV_form r with ⟨M, S, hf⟩ | hf
        · cases ho : (cutV w).2 with
          | true => exact .inl ⟨numV (cutV w).1 ||| M, S, fun h v => by rw [appV_good hw hn, hf, ho]; unfold stepV; rw [if_pos rfl, form_off]⟩
          | false => exact .inl ⟨M, (numV (cutV w).1 &&& ~~~M) ||| S, fun h v => by rw [appV_good hw hn, hf, ho]; unfold stepV; rw [if_neg (by simp), form_on]⟩
        · exact .inr fun h v => by rw [appV_good hw hn, hf]
theorem appV_append (h : BitVec 64) : ∀ (a b : List (List UInt8)) (v : BitVec 64), appV h v (a ++ b) = if (appV h v a).2 then appV h (appV h v a).1 b else (h, false)
  | [], b, v => by simp [appV]
  | w :: r, b, v => by
    rw [List.cons_append]
    by_cases hw : w = []
    · subst hw; rw [appV_skip, appV_skip, appV_append h r b v]
    · by_cases hn : numV (cutV w).1 = 0#64
      · rw [appV_bad hw hn, appV_bad hw hn]; simp
      · rw [appV_good hw hn, appV_good hw hn, appV_append h r b]
/-- what a request makes of capabilities -/
def capV (h : BitVec 64) (l : List UInt8) : BitVec 64 × Bool := appV h h (splitL l)
theorem cap_again (h : BitVec 64) (l : List UInt8) : capV (capV h l).1 l = capV h l := by
  unfold capV
  rcases appV_form (splitL l) with ⟨M, S, hf⟩ | hf
  · rw [hf, hf, form_twice]
  · rw [hf, hf]
theorem cap_two (h : BitVec 64) (a b : List UInt8) :
    ((capV h a).2 = true ∧ (capV (capV h a).1 b).2 = true → capV h (a ++ 32 :: b) = ((capV (capV h a).1 b).1, true)) ∧
    (¬ ((capV h a).2 = true ∧ (capV (capV h a).1 b).2 = true) → capV h (a ++ 32 :: b) = (h, false)) ∧ ((capV h a).2 = false → (capV h a).1 = h) ∧ ((capV (capV h a).1 b).2 = false → (capV (capV h a).1 b).1 = (capV h a).1) := by
  unfold capV
  rw [splitL_append, appV_append]
  rcases appV_form (splitL a) with ⟨M, S, hf⟩ | hf <;> rcases appV_form (splitL b) with ⟨M', S', hg⟩ | hg <;> simp only [hf, hg] <;> simp
end Go.Proofs.YtadojlmjapmbhaaDoor
end
section
/- Small words that the walks of this family lean on: equal results, equal bytes. -/
namespace Go.Proofs.YtadojlmjapmbhaaDoor
open Go.RowKit

theorem ret_int {k : IntKind} {a b : Int} (h : a = b) : Ending.returned (.int k a) = .returned (.int k b) := by rw [h]
theorem ret_bool {a b : Bool} (h : a = b) : Ending.returned (.bool a) = .returned (.bool b) := by rw [h]
theorem ret_str {a b : ByteArray} (h : a = b) : Ending.returned (.string a) = .returned (.string b) := by rw [h]
theorem ret_strl {a b : ByteArray} (h : a.data.toList = b.data.toList) : Ending.returned (.string a) = .returned (.string b) := by
  have : a = b := by
    cases a; cases b; simp only [ByteArray.mk.injEq]; exact Array.toList_inj.mp h
  rw [this]

/-- the bytes of a list, as a text -/
def bs (l : List UInt8) : ByteArray := ⟨l.toArray⟩
@[simp] theorem bs_toList (l : List UInt8) : (bs l).data.toList = l := rfl
@[simp] theorem bs_size (l : List UInt8) : (bs l).size = l.length := by simp [bs, ByteArray.size]
theorem bs_of (s : ByteArray) : bs s.data.toList = s := rfl
theorem ba_ext {a b : ByteArray} (h : a.data.toList = b.data.toList) : a = b := by
  cases a; cases b; simp only [ByteArray.mk.injEq]; exact Array.toList_inj.mp h
theorem u8_bd (b : UInt8) : 0 ≤ (b.toNat : Int) ∧ (b.toNat : Int) ≤ 255 := by
  have := b.toNat_lt; omega
theorem snoc_ind {α : Type} {motive : List α → Prop} (nil : motive []) (snoc : ∀ l x, motive l → motive (l ++ [x])) : ∀ l, motive l := by
  intro l
  have h : ∀ k : List α, motive k.reverse := by
    intro k
    induction k with
    | nil => exact nil
    | cons a r ih => rw [List.reverse_cons]; exact snoc _ _ ih
  have := h l.reverse
  rwa [List.reverse_reverse] at this
theorem str_ne {s : ByteArray} (h : 0 < s.size) : s.toList.isEmpty = false := by
  rw [ByteArray.toList_eq, List.isEmpty_eq_false_iff]
  intro e
  have h1 : s.data.toList.length = 0 := by rw [e]; rfl
  have h2 : s.data.toList.length = s.size := rfl
  omega
theorem str_em {s : ByteArray} (h : s.size = 0) : s.toList.isEmpty = true := by
  rw [ByteArray.toList_eq, List.isEmpty_iff, List.eq_nil_iff_length_eq_zero]
  simpa using h
theorem str_nil {s : ByteArray} (h : s.size = 0) : s.data.toList = [] := by
  rw [List.eq_nil_iff_length_eq_zero]; simpa using h
theorem beq_bs (l m : List UInt8) : ((bs l).toList == (bs m).toList) = (l == m) := by
  rw [ByteArray.toList_eq, ByteArray.toList_eq]; rfl
theorem beq_ba (a b : ByteArray) : (a.toList == b.toList) = (a.data.toList == b.data.toList) := by
  rw [ByteArray.toList_eq, ByteArray.toList_eq]
end Go.Proofs.YtadojlmjapmbhaaDoor
end
section
/- A range over a function that keeps what it has come to in variables of its own: blocks X lie ahead of the loop; the function that ranges writes them between the rounds; the body leaves them alone. -/
namespace Go.Proofs.YtadojlmjapmbhaaDoor
open Go Go.RowKit

/-- J holds on where the heap grows, a block of X is written, or a walk beyond B goes on -/
def AbX {β : Type} (X : Nat → Prop) (B : Nat) (J : β → World → Prop) : Prop :=
  ∀ s V V' row, J s V → V.grownBy V' row → (∀ r, row = some r → X r ∨ (B ≤ r ∧ ∃ o : Obj, V.heap[r]? = some o ∧ o.isWalk = true)) → J s V'
/-- no block of X was written -/
def SameX (X : Nat → Prop) (V V' : World) : Prop := ∀ b, X b → V'.heap[b]? = V.heap[b]?
theorem SameX.trans {X : Nat → Prop} {A B C : World} (h : SameX X A B) (k : SameX X B C) : SameX X A C := fun b hb => (k b hb).trans (h b hb)
theorem SameX.cell {X : Nat → Prop} {V V' : World} (h : SameX X V V') {b o : Nat} (hb : X b) : V'.cell? ⟨b, o, none⟩ = V.cell? ⟨b, o, none⟩ := World.cell?_of_block (w := V) (a := ⟨b, o, none⟩) (h b hb)
theorem SameX.frozen {X : Nat → Prop} {V V' : World} (h : SameX X V V') {b o : Nat} (hb : X b) : V'.frozen? ⟨b, o, none⟩ = V.frozen? ⟨b, o, none⟩ := World.frozen?_of_block (w := V) (a := ⟨b, o, none⟩) (h b hb)

/-- what a function that ranges is worth: whatever J the rounds carry on -/
def SeqW {α : Type} (F : Fence) (n : Nat) (P : Program) (g : Nat) (lb : Array Value) (encs : α → Array Value) (X : Nat → Prop) (S Sp : List α → Prop) (N : Nat) (w : World) : Prop :=
  ∀ (l : Nat) (J Jx : List α → World → Prop) (V : World), Below w.heap.size w V → AbX X V.heap.size J → AbX X V.heap.size Jx →
    (∀ pre x V1, J pre V1 → pre.length < N → YieldAt F (n - 1) P l (encs x) V1 fun e V' => (e = .returned (.bool true) ∧ J (pre ++ [x]) V' ∧ SameX X V1 V') ∨ (e = .returned (.bool false) ∧ Jx (pre ++ [x]) V')) →
    J [] V → CallsIn F n P g (#[.func (.yield l) #[] #[]] ++ lb) V fun e V' => (∃ v, e = .returned v) ∧ ((∃ xs, S xs ∧ J xs V') ∨ ∃ pre, Sp pre ∧ Jx pre V')

/-- the two blocks of the loop's book -/
def Bk (l D : Nat) (r : Loop) (V : World) : Prop := V.heap[l]? = some (.loop r) ∧ V.heap[D]? = some (.deferred (some []))
section
variable {l D : Nat} {r : Loop} {V V' : World}
theorem Bk.lt (h : Bk l D r V) : l < V.heap.size ∧ D < V.heap.size := ⟨(Array.getElem?_eq_some_iff.1 h.1).1, (Array.getElem?_eq_some_iff.1 h.2).1⟩
theorem Bk.grown (h : Bk l D r V) {row : Option Nat} (hg : V.grownBy V' row) (h1 : some l ≠ row) (h2 : some D ≠ row) : Bk l D r V' :=
  ⟨(hg.block l h.lt.1 h1).trans h.1, (hg.block D h.lt.2 h2).trans h.2⟩
theorem Bk.put (h : Bk l D r V) (hne : D ≠ l) (r' : Loop) : Bk l D r' (V.putObj l (.loop r')) :=
  ⟨World.putObj_heap_same h.lt.1, (World.putObj_heap_other hne).trans h.2⟩
theorem Bk.keeps (h : Bk l D r V) {B : Nat} (hk : KeepsFrom B V V') (h1 : B ≤ l) (h2 : B ≤ D) : Bk l D r V' :=
  ⟨hk.same _ _ h1 h.1 rfl, hk.same _ _ h2 h.2 rfl⟩
end
/-- how a round of the body ends -/
def EndW {α : Type} (B : Nat) (X : Nat → Prop) (I : List α → World → Prop) (Ix : Code → List α → World → Prop) (xs : List α) (V : World) : Exit → Act → World → Prop
  | .normal, _, V' => KeepsFrom B V V' ∧ SameX X V V' ∧ I xs V'
  | .ret, _, V' => KeepsFrom B V V' ∧ Ix .ret xs V'
  | .exit id, _, V' => KeepsFrom B V V' ∧ Ix (.exit id) xs V'
  | .goto t, _, V' => KeepsFrom B V V' ∧ Ix (.goto t) xs V'
  | .panic _, _, _ => False
  | .outgrown, _, _ => False
/-- a block of X may be written: I says nothing of it -/
def Lets {β : Type} (X : Nat → Prop) (I : β → World → Prop) : Prop := ∀ s V V' b, X b → I s V → V.grownBy V' (some b) → I s V'

theorem wpIn_rangeW {F : Fence} {n : Nat} {P : Program} {w : World} {α : Type} {a : Act} {Q : Exit → Act → World → Prop} {g : Operand} {assign body : Code} {ps : Array Tmp} {gf : Nat} {lb : Array Value}
    {X : Nat → Prop} {encs : α → Array Value} {S Sp : List α → Prop} {N : Nat} {w0 : World} (I : List α → World → Prop) (Ix : Code → List α → World → Prop) (a₁ : α → Act)
    (hg : a.eval g = .func (.func gf) #[] lb) (hseq : SeqW F (n - 1) P gf lb encs X S Sp N w0) (hb0 : Below w0.heap.size w0 w) (hX : ∀ b, X b → b < w.heap.size) (hro : F.round = none) (h1 : 1 ≤ n) (hFg : F.fn gf)
    (eg : ∀ args v, (callFunc gf args).run P v = .ok (.enter gf args) v) (hps : ∀ x, (encs x).size = ps.size)
    (hI : OwnFrom w.heap.size I) (hIX : Lets X I) (hIx : ∀ c, OwnFrom w.heap.size (Ix c)) (hIxX : ∀ c, Lets X (Ix c)) (h0 : I [] w)
    (hassign : ∀ l x V (K : Act → World → Prop), K (a₁ x) V → assign.wpIn (F.inRound l) (n - 1 - 1) P (Exit.then K fun _ _ _ => False) { tmps := (ps.zip (encs x)).foldl (fun t (p, v) => t.setIfInBounds p v) a.tmps, defers := [] } V)
    (hbody : ∀ l pre x V, I pre V → pre.length < N → body.wpIn (F.inRound l) (n - 1 - 1) P (EndW w.heap.size X I Ix (pre ++ [x]) V) (a₁ x) V)
    (hdone : ∀ D xs V, w.heap.size ≤ D → S xs → I xs V → V.heap[D]? = some (.deferred (some [])) → Q .normal { a with defers := { target := .collected D, args := #[] } :: a.defers } V)
    (hstop : ∀ D c pre V, w.heap.size ≤ D → Sp pre → Ix c pre V → V.heap[D]? = some (.deferred (some [])) → c.wpIn F n P Q { a with defers := { target := .collected D, args := #[] } :: a.defers } V) :
    (Code.rangeFunc g ps assign body).wpIn F n P Q a w := by
  refine wpIn_rangeFunc fun fn hfn => ?_
  rw [hro]
  obtain ⟨R, hR⟩ : ∃ R : LoopState → Option Code → Loop, ∀ st pe, R st pe = { state := st, pending := pe, fn := fn, tmps := a.tmps, params := ps, assign := assign, body := body, defers := w.heap.size } := ⟨_, fun _ _ => rfl⟩
  obtain ⟨V1, hV1⟩ : ∃ V1, (w.alloc (.deferred (some []))).alloc (.loop (R .ready none)) = V1 := ⟨_, rfl⟩
  have hz : V1.heap.size = w.heap.size + 2 := by rw [← hV1]; simp
  have bk : Bk (w.heap.size + 1) w.heap.size (R .ready none) V1 := by
    subst hV1
    refine ⟨?_, (Below.heap_alloc _ _ _ (by simp)).trans (World.alloc_heap_new w _)⟩
    have h := World.alloc_heap_new (w.alloc (.deferred (some []))) (.loop (R .ready none))
    rwa [World.size_alloc] at h
  have i1 : I [] V1 := by subst hV1; exact hI.alloc _ (hI.alloc _ h0)
  have bel : Below w0.heap.size w0 V1 := by subst hV1; exact (hb0.alloc hb0.size _).alloc (by rw [World.size_alloc]; have := hb0.size; omega) _
  have hput : ∀ {s : List α} {V : World} {r : Loop} (r' : Loop), I s V → Bk (w.heap.size + 1) w.heap.size r V → I s (V.putObj (w.heap.size + 1) (.loop r')) := fun r' hi hb => hI.putObj _ hi (by omega) hb.1 rfl
  have hputx : ∀ {c : Code} {s : List α} {V : World} {r : Loop} (r' : Loop), Ix c s V → Bk (w.heap.size + 1) w.heap.size r V → Ix c s (V.putObj (w.heap.size + 1) (.loop r')) := fun {c} _ _ _ r' hi hb => (hIx c).putObj _ hi (by omega) hb.1 rfl
  have sput : ∀ (V : World) (r' : Loop), SameX X V (V.putObj (w.heap.size + 1) (.loop r')) := fun V r' b hb => World.putObj_heap_other (by have := hX b hb; omega)
  have abook : ∀ {V V' : World} {row : Option Nat} {r : Loop}, Bk (w.heap.size + 1) w.heap.size r V → V.grownBy V' row → (∀ r, row = some r → X r ∨ (V1.heap.size ≤ r ∧ ∃ o : Obj, V.heap[r]? = some o ∧ o.isWalk = true)) → Bk (w.heap.size + 1) w.heap.size r V' := fun hb hgr hrow => by
    refine hb.grown hgr (fun e => ?_) (fun e => ?_)
    · rcases hrow _ e.symm with h | h
      · have := hX _ h; omega
      · omega
    · rcases hrow _ e.symm with h | h
      · have := hX _ h; omega
      · omega
  have own : ∀ {J : List α → World → Prop}, OwnFrom w.heap.size J → Lets X J → ∀ {s : List α} {V V' : World} {row : Option Nat}, J s V → V.grownBy V' row → (∀ r, row = some r → X r ∨ (V1.heap.size ≤ r ∧ ∃ o : Obj, V.heap[r]? = some o ∧ o.isWalk = true)) → J s V' := fun hJ hL s V V' row hj hgr hrow => by
    cases row with
    | none => exact hJ s V V' none hj hgr (fun _ e => by cases e)
    | some r =>
      rcases hrow r rfl with h | ⟨h, o, ho, hw⟩
      · exact hL s V V' r h hj hgr
      · exact hJ s V V' (some r) hj hgr (fun _ e => by cases e; exact ⟨by omega, o, ho, Obj.not_cells_of_walk hw⟩)
  refine ⟨w.heap.size + 1, [{ target := .collected w.heap.size, args := #[] }], V1, { target := .fn (.func gf) lb, args := #[.func (.yield (w.heap.size + 1)) #[] #[]] }, V1, gf, #[.func (.yield (w.heap.size + 1)) #[] #[]] ++ lb, V1, ?_, ?_, ?_, ?_, fun _ => h1, ?_⟩
  · rw [← hV1, hR]; exact run_enterLoop_outer _ _ _ _ _
  · simp only [resolve, hg]; simp [go_sem]
  · intro f' hf'; simp [Target.leads] at hf'; subst hf'; exact hFg
  · simp [invoke, go_sem, eg]
  refine (hseq (w.heap.size + 1) (fun pre V => I pre V ∧ Bk (w.heap.size + 1) w.heap.size (R .ready none) V) (fun pre V => ∃ c, Ix c pre V ∧ Bk (w.heap.size + 1) w.heap.size (R .done (some c)) V) V1 bel
    (fun s V V' row hj hgr hrow => ⟨own hI hIX hj.1 hgr hrow, abook hj.2 hgr hrow⟩)
    (fun s V V' row hj hgr hrow => hj.elim fun c hc => ⟨c, own (hIx c) (hIxX c) hc.1 hgr hrow, abook hc.2 hgr hrow⟩) ?round ⟨i1, bk⟩).mono ?behind
  case behind =>
    rintro e V2 ⟨⟨v, rfl⟩, (⟨xs, hS, hi, hb⟩ | ⟨pre, hSp, c, hi, hb⟩)⟩
    · have hend := run_endLoop (P := P) hb.1 (by rw [hR]; simp)
      rw [hR] at hend
      exact ⟨none, _, hend, hdone _ xs _ (Nat.le_refl _) hS (hput _ hi hb) (hb.put (by omega) _).2⟩
    · have hend := run_endLoop (P := P) hb.1 (by rw [hR]; simp)
      rw [hR] at hend
      exact ⟨some c, _, hend, hstop _ c pre _ (Nat.le_refl _) hSp (hputx _ hi hb) (hb.put (by omega) _).2⟩
  case round =>
    rintro pre x V ⟨hi, hb⟩ hlen
    have hy := run_yield (P := P) (args := encs x) hb.1 (by rw [hR]; exact hps x)
    rw [hR] at hy
    refine ⟨fn, _, assign, body, hy, roundIn_of_wpIn hfn (hassign _ x V _ ⟨_, run_beginRound hb.1 (by rw [hR]), ?_⟩)⟩
    have hb2 := hb.put (by omega) { R .ready none with state := .busy }
    refine wpIn_mono (hbody _ pre x _ (hput _ hi hb) hlen) ?_
    -- behind the body: the record is turned, whatever the way
    have turn : ∀ (j : Option Code) {V3 : World}, KeepsFrom w.heap.size (V.putObj (w.heap.size + 1) (.loop { R .ready none with state := .busy })) V3 →
        ∃ st, st = (if j.isNone then LoopState.ready else .done) ∧ (Instr.endRound (w.heap.size + 1) j).run P V3 = .ok (.bool j.isNone) (V3.putObj (w.heap.size + 1) (.loop (R st j))) ∧ Bk (w.heap.size + 1) w.heap.size { R .ready none with state := .busy } V3 ∧
          Bk (w.heap.size + 1) w.heap.size (R st j) (V3.putObj (w.heap.size + 1) (.loop (R st j))) := fun j V3 hk => by
      have hb3 := hb2.keeps hk (by omega) (Nat.le_refl _)
      have hend := run_endRound (P := P) j hb3.1
      refine ⟨_, rfl, ?_, hb3, hb3.put (by omega) _⟩
      rw [hend, hR, hR]
    rintro e a3 V3 hp
    cases e with
    | normal =>
      obtain ⟨hk, hs, hi3⟩ := hp
      obtain ⟨st, rfl, hr, hb3, hb4⟩ := turn none hk
      exact ⟨_, _, hr, .inl ⟨rfl, ⟨hput _ hi3 hb3, hb4⟩, ((sput V _).trans hs).trans (sput V3 _)⟩⟩
    | ret =>
      obtain ⟨st, rfl, hr, hb3, hb4⟩ := turn (some .ret) hp.1
      exact ⟨_, _, hr, .inr ⟨rfl, _, hputx _ hp.2 hb3, hb4⟩⟩
    | exit id =>
      obtain ⟨st, rfl, hr, hb3, hb4⟩ := turn (some (.exit id)) hp.1
      exact ⟨_, _, hr, .inr ⟨rfl, _, hputx _ hp.2 hb3, hb4⟩⟩
    | goto t =>
      obtain ⟨st, rfl, hr, hb3, hb4⟩ := turn (some (.goto t)) hp.1
      exact ⟨_, _, hr, .inr ⟨rfl, _, hputx _ hp.2 hb3, hb4⟩⟩
    | panic ch => exact hp.elim
    | outgrown => exact hp.elim
end Go.Proofs.YtadojlmjapmbhaaDoor
end
section
/- A labelled body inside a fence: the scope is gone through straight. -/
namespace Go.Proofs.YtadojlmjapmbhaaDoor
open Go.RowKit Go.Shelf

theorem stepR_scope {P : Program} {b : Frame} {a : Act} {k : List Item} {cs : List Frame} {w : World} {c : Code} :
    step P (lone (b.atR a (.code (.scope c) :: k)) cs w) = .next (lone (b.atR a (.code c :: .inScope c :: k)) cs w) :=
  step_lone_go (by simp [stepG, stepG.exec, Frame.atR])
theorem stepR_inScope {P : Program} {b : Frame} {a : Act} {k : List Item} {cs : List Frame} {w : World} {c : Code} :
    step P (lone (b.atR a (.inScope c :: k)) cs w) = .next (lone (b.atR a k) cs w) :=
  step_lone_go (by simp [stepG, stepG.exec, Frame.atR])

theorem wpIn_scope {F : Fence} {n : Nat} {P : Program} {Q : Exit → Act → World → Prop} {a : Act} {w : World} {c : Code}
    (h : c.wpIn F n P (Exit.noGoto Q) a w) : (Code.scope c).wpIn F n P Q a w := by
  intro b k cs hro hb hr
  have h0 : (lone (b.atR a (.code (.scope c) :: k)) cs w).fenced P F := fenced_calm hb hr rfl
  obtain ⟨e, a₁, w₁, hq, harr⟩ := h b (.inScope c :: k) cs hro hb hr
  cases e with
  | normal => exact ⟨.normal, a₁, w₁, hq, .head h0 stepR_scope (StepsIn.trans harr (.one (fenced_calm hb hr rfl) stepR_inScope))⟩
  | exit id =>
    have hx : exitTo id (.inScope c :: k) = exitTo id k := by simp [exitTo]
    exact ⟨.exit id, a₁, w₁, hq, fun k' hk => .head h0 stepR_scope (harr.1 k' (by rw [hx]; exact hk)),
      fun hr' hk => let ⟨k₁, h1, h2⟩ := harr.2 hr' (by rw [hx]; exact hk); ⟨k₁, h1, .head h0 stepR_scope h2⟩⟩
  | goto l => exact hq.elim
  | ret => exact ⟨_, a₁, w₁, hq, .of_steps (.one h0 stepR_scope) harr⟩
  | panic ch => exact ⟨_, a₁, w₁, hq, .of_steps (.one h0 stepR_scope) harr⟩
  | outgrown => exact ⟨_, a₁, w₁, hq, .of_steps (.one h0 stepR_scope) harr⟩
theorem noGoto_normal (Q : Exit → Act → World → Prop) (a : Act) (w : World) : Exit.noGoto Q .normal a w = Q .normal a w := rfl
theorem noGoto_ret' (Q : Exit → Act → World → Prop) (a : Act) (w : World) : Exit.noGoto Q .ret a w = Q .ret a w := rfl
end Go.Proofs.YtadojlmjapmbhaaDoor
end
section
/- fold.Byte, fold.turns, cmp.Compare of bytes and numbers: what each answers, for every argument. -/
namespace Go.Proofs.YtadojlmjapmbhaaDoor
open Go.RowKit

/-- a byte, folded, as a number -/
def foldI (b : Int) : Int := if 65 ≤ b ∧ b ≤ 93 then b + 32 else if b = 126 then 94 else b
theorem foldI_up {b : Int} (h : 65 ≤ b) (h' : b ≤ 93) : foldI b = b + 32 := by rw [foldI, if_pos ⟨h, h'⟩]
theorem foldI_lo {b : Int} (h : b < 65) : foldI b = b := by rw [foldI, if_neg (by omega), if_neg (by omega)]
theorem foldI_hi {b : Int} (h : 93 < b) (h' : (b == 126) = false) : foldI b = b := by
  have := of_decide_eq_false h'
  rw [foldI, if_neg (by omega), if_neg (by omega)]
theorem foldI_bd (b : Int) (h0 : 0 ≤ b) (h1 : b ≤ 255) : 0 ≤ foldI b ∧ foldI b ≤ 255 := by
  unfold foldI; split
  · omega
  · split <;> omega





/-- what compares two numbers -/
def cmpI (a b : Int) : Int := if a < b then -1 else if b < a then 1 else 0
theorem cmpI_lt {a b : Int} (h : a < b) : cmpI a b = -1 := by rw [cmpI, if_pos h]
theorem cmpI_gt {a b : Int} (h : b < a) : cmpI a b = 1 := by rw [cmpI, if_neg (by omega), if_pos h]
theorem cmpI_eq {a b : Int} (h : a = b) : cmpI a b = 0 := by rw [cmpI, if_neg (by omega), if_neg (by omega)]
theorem cmpI_bd (a b : Int) : -1 ≤ cmpI a b ∧ cmpI a b ≤ 1 := by
  unfold cmpI; split
  · omega
  · split <;> omega




def foldB (b : UInt8) : UInt8 := if 65 ≤ b ∧ b ≤ 93 then b + 32 else if b = 126 then 94 else b
theorem foldB_nat (b : UInt8) : foldI (b.toNat : Int) = ((foldB b).toNat : Int) := by
  have hb := b.toNat_lt
  unfold foldB foldI
  by_cases h : 65 ≤ b ∧ b ≤ 93
  · rw [if_pos h]
    simp only [UInt8.le_iff_toNat_le] at h
    have e1 : (65 : UInt8).toNat = 65 := rfl
    have e2 : (93 : UInt8).toNat = 93 := rfl
    rw [e1, e2] at h
    rw [if_pos (by omega), UInt8.toNat_add]
    have e3 : (32 : UInt8).toNat = 32 := rfl
    omega
  · rw [if_neg h]
    simp only [UInt8.le_iff_toNat_le] at h
    have e1 : (65 : UInt8).toNat = 65 := rfl
    have e2 : (93 : UInt8).toNat = 93 := rfl
    rw [e1, e2] at h
    rw [if_neg (by omega)]
    by_cases h2 : b = 126
    · subst h2; rfl
    · rw [if_neg h2, if_neg]
      intro e
      apply h2
      apply UInt8.toNat_inj.mp
      have : (126 : UInt8).toNat = 126 := rfl
      omega

end Go.Proofs.YtadojlmjapmbhaaDoor
end
section
/- valid.kindOf: what a byte is, where the rows of bytes lie as they are laid. -/
namespace Go.Proofs.YtadojlmjapmbhaaDoor
open Go.RowKit

set_option maxRecDepth 100000 in
theorem idxByte0 (s : ByteArray) (c : Int) (w : World) :
    Calls Tryd.prog 60 #[.string s, .int .u8 c] w fun e w' => e = .returned (.int .i64 (Lib.indexByte s.data.toList c.toNat.toUInt8)) ∧ w = w' := by
  go_enter Tryd.func60, Tryd.ntmps60
  go_wp2
  rw [run_callFunc_extern Tryd.func70 (by kernel_rfl) (by kernel_rfl) (by kernel_rfl) (e := Extern.BytealgIndexByte.indexByte) (by kernel_rfl), Lib.run_indexByteString]
  simp only [Result.andThen]
  rw [Oper.upon_value]
  go_wp2
  go_ret
  exact ⟨rfl, rfl⟩
theorem idxByte (s : ByteArray) (c : Int) (w : World) :
    Calls Tryd.prog 64 #[.string s, .int .u8 c] w fun e w' => e = .returned (.int .i64 (Lib.indexByte s.data.toList c.toNat.toUInt8)) ∧ w = w' := by
  go_enter Tryd.func64, Tryd.ntmps64
  go_wp2_with (go_at_call 60; refine (idxByte0 _ _ _).mono ?_; rintro e w' ⟨rfl, rfl⟩)
  go_ret
  exact ⟨rfl, rfl⟩

/-- the rows of bytes, as they are laid -/
def laidRow (i : Nat) : List UInt8 := ([[65, 66, 67, 68, 69, 70, 71, 72, 73, 74, 75, 76, 77, 78, 79, 80, 81, 82, 83, 84, 85, 86, 87, 88, 89, 90, 97, 98, 99, 100, 101, 102, 103, 104, 105, 106, 107, 108, 109, 110, 111, 112, 113, 114, 115, 116, 117, 118, 119, 120, 121, 122], [48, 49, 50, 51, 52, 53, 54, 55, 56, 57], [91, 93, 92, 95, 94, 123, 124, 125, 96], [45], [46], [58], [44], [33, 64, 42, 63], [0, 13, 10], [7], [32]] : List (List UInt8)).getD i []
def Rowed (w : World) : Prop := ∀ i, i < 11 → ∃ s : ByteArray, w.cell? ⟨4, i, none⟩ = some (.string s) ∧ s.data.toList = laidRow i

/-- what a byte is, by the first rows -/
def kAcc (b : UInt8) : Nat → Int
  | 0 => 0
  | k + 1 => if 0 ≤ Lib.indexByte (laidRow k) b then bits .or .i64 (kAcc b k) (2 ^ k) else kAcc b k

theorem kAcc_yes {b : UInt8} {k : Nat} (hk : k < 11) (h : 0 ≤ Lib.indexByte (laidRow k) b) : bits .or .i64 (kAcc b k) (wrap64 (2 ^ k)) = kAcc b (k + 1) := by
  have e : wrap64 (2 ^ k) = 2 ^ k := by
    rcases (by omega : k = 0 ∨ k = 1 ∨ k = 2 ∨ k = 3 ∨ k = 4 ∨ k = 5 ∨ k = 6 ∨ k = 7 ∨ k = 8 ∨ k = 9 ∨ k = 10) with rfl|rfl|rfl|rfl|rfl|rfl|rfl|rfl|rfl|rfl|rfl <;> decide +kernel
  rw [e, kAcc, if_pos h]
theorem kAcc_no {b : UInt8} {k : Nat} (h : Lib.indexByte (laidRow k) b < 0) : kAcc b k = kAcc b (k + 1) := by
  rw [kAcc, if_neg (by omega)]

set_option maxHeartbeats 1000000 in
theorem kind_any (b : UInt8) (w : World) (hr : Rowed w) :
    Calls Tryd.prog 55 #[.int .u8 ↑b.toNat] w fun e w' => e = .returned (.int .i64 (kAcc b 11)) ∧ w = w' := by
  go_enter Tryd.func55, Tryd.ntmps55
  go_wp2_with fail
  go_loopw [3, 4, 5] (fun v _ i wr => ∃ k : Nat, k ≤ 11 ∧ i = .int .i64 k ∧ v = .int .i64 (kAcc b k) ∧ wr = w) (fun _ _ i _ => 11 - (Go.RowKit.intOf i).toNat)
  case atStart => exact ⟨0, by omega, rfl, rfl, rfl⟩
  case round =>
    obtain ⟨k, hk, rfl, rfl, rfl⟩ := hrel
    by_cases hlt : k < 11
    · obtain ⟨s, hs, hl⟩ := hr k hlt
      go_wp2_with (go_at_call 64; refine (idxByte _ _ _).mono ?_; rintro e w' ⟨rfl, rfl⟩)
      all_goals rename_i _h0 hx
      all_goals try (rw [show ((b.toNat : Int)).toNat.toUInt8 = b from by simp] at hx)
      all_goals refine ⟨⟨k + 1, by omega, by push_cast; rfl, ?_, by simp⟩, by simp only [Go.RowKit.intOf]; omega⟩
      all_goals first | rw [kAcc_yes hlt hx] | rw [kAcc_no hx]
    · obtain rfl : k = 11 := by omega
      go_wp2_with fail
      go_ret
      exact ⟨rfl, rfl⟩
end Go.Proofs.YtadojlmjapmbhaaDoor
end
section
/- valid.sized, only, none, plain, and the answers' in, Letter, Digit, Sign: what each tells. -/
namespace Go.Proofs.YtadojlmjapmbhaaDoor
open Go.RowKit

/-- all bytes of a text, with their places, are so -/
noncomputable def allI (s : ByteArray) (p : Nat → UInt8 → Bool) : Bool := @decide (∀ i (h : i < s.size), p i s[i] = true) (Classical.propDecidable _)
theorem allI_iff {s : ByteArray} {p : Nat → UInt8 → Bool} : allI s p = true ↔ ∀ i (h : i < s.size), p i s[i] = true := by
  unfold allI; exact @decide_eq_true_iff _ (Classical.propDecidable _)
theorem allI_no {s : ByteArray} {p : Nat → UInt8 → Bool} {k : Nat} (h : k < s.size) (hp : p k s[k] = false) : false = allI s p := by
  cases e : allI s p with
  | false => rfl
  | true => rw [allI_iff.1 e k h] at hp; cases hp
theorem allI_yes {s : ByteArray} {p : Nat → UInt8 → Bool} {k : Nat} (hk : s.size ≤ k) (h : ∀ i, i < k → ∀ (hi : i < s.size), p i s[i] = true) : true = allI s p :=
  (allI_iff.2 fun i hi => h i (by omega) hi).symm
theorem all_step {s : ByteArray} {p : Nat → UInt8 → Bool} {k : Nat} (h : ∀ i, i < k → ∀ (hi : i < s.size), p i s[i] = true) (hk : k < s.size) (hp : p k s[k] = true) :
    ∀ i, i < k + 1 → ∀ (hi : i < s.size), p i s[i] = true := by
  intro i h1 h2
  by_cases e : i = k
  · subst e; exact hp
  · exact h i (by omega) h2

/-- is a byte of one of some kinds? -/
def isK (kinds : Int) (b : UInt8) : Bool := !(bits .and .i64 (kAcc b 11) kinds == 0)

set_option maxHeartbeats 1000000 in
theorem only_any (s : ByteArray) (kinds : Int) (w : World) (hs : s.size ≤ 1000000) (hr : Rowed w) :
    Calls Tryd.prog 47 #[.string s, .int .i64 kinds] w fun e w' => e = .returned (.bool (allI s fun _ b => isK kinds b)) ∧ w = w' := by
  go_enter Tryd.func47, Tryd.ntmps47
  go_wp2_with fail
  go_loopw [8] (fun i wr => ∃ k : Nat, k ≤ s.size ∧ i = .int .i64 k ∧ (∀ i, i < k → ∀ (hi : i < s.size), (fun _ b => isK kinds b) i s[i] = true) ∧ wr = w) (fun i _ => s.size - (Go.RowKit.intOf i).toNat)
  case atStart => exact ⟨0, Nat.zero_le _, rfl, fun _ h => absurd h (Nat.not_lt_zero _), rfl⟩
  case round =>
    obtain ⟨k, hk, rfl, hq, rfl⟩ := hrel
    have Hq := Lib.hid hq
    clear hq
    by_cases hlt : k < s.size
    · cases hb : (bits .and .i64 (kAcc s[k] 11) kinds == 0)
      · go_wp2_with (go_at_call 55; refine (kind_any _ _ (by assumption)).mono ?_; rintro e w' ⟨rfl, rfl⟩)
        exact ⟨⟨k + 1, by omega, by push_cast; rfl, all_step Hq.out hlt (by simp only [isK, hb]; rfl), by simp⟩, by simp only [Go.RowKit.intOf]; omega⟩
      · go_wp2_with (go_at_call 55; refine (kind_any _ _ (by assumption)).mono ?_; rintro e w' ⟨rfl, rfl⟩)
        go_ret
        exact ⟨ret_bool (allI_no hlt (by simp only [isK, hb]; rfl)), rfl⟩
    · obtain rfl : k = s.size := by omega
      go_wp2_with fail
      go_ret
      exact ⟨ret_bool (allI_yes (Nat.le_refl _) Hq.out), rfl⟩

set_option maxHeartbeats 1000000 in
theorem none_any (s : ByteArray) (kinds : Int) (w : World) (hs : s.size ≤ 1000000) (hr : Rowed w) :
    Calls Tryd.prog 46 #[.string s, .int .i64 kinds] w fun e w' => e = .returned (.bool (allI s fun _ b => !isK kinds b)) ∧ w = w' := by
  go_enter Tryd.func46, Tryd.ntmps46
  go_wp2_with fail
  go_loopw [8] (fun i wr => ∃ k : Nat, k ≤ s.size ∧ i = .int .i64 k ∧ (∀ i, i < k → ∀ (hi : i < s.size), (fun _ b => !isK kinds b) i s[i] = true) ∧ wr = w) (fun i _ => s.size - (Go.RowKit.intOf i).toNat)
  case atStart => exact ⟨0, Nat.zero_le _, rfl, fun _ h => absurd h (Nat.not_lt_zero _), rfl⟩
  case round =>
    obtain ⟨k, hk, rfl, hq, rfl⟩ := hrel
    have Hq := Lib.hid hq
    clear hq
    by_cases hlt : k < s.size
    · cases hb : (bits .and .i64 (kAcc s[k] 11) kinds == 0)
      · go_wp2_with (go_at_call 55; refine (kind_any _ _ (by assumption)).mono ?_; rintro e w' ⟨rfl, rfl⟩)
        go_ret
        exact ⟨ret_bool (allI_no hlt (p := fun _ b => !isK kinds b) (by simp only [isK, hb]; rfl)), rfl⟩
      · go_wp2_with (go_at_call 55; refine (kind_any _ _ (by assumption)).mono ?_; rintro e w' ⟨rfl, rfl⟩)
        exact ⟨⟨k + 1, by omega, by push_cast; rfl, all_step (p := fun _ b => !isK kinds b) Hq.out hlt (by simp only [isK, hb]; rfl), by simp⟩, by simp only [Go.RowKit.intOf]; omega⟩
    · obtain rfl : k = s.size := by omega
      go_wp2_with fail
      go_ret
      exact ⟨ret_bool (allI_yes (Nat.le_refl _) Hq.out), rfl⟩

/-- can a byte be seen? -/
def seen (b : UInt8) : Bool := decide (33 ≤ b.toNat ∧ b.toNat ≤ 126)


def sizedB (n : Nat) (a b : Int) : Bool := decide (a ≤ n ∧ (n : Int) ≤ b)
theorem sized_any (s : ByteArray) (a b : Int) (w : World) :
    Calls Tryd.prog 54 #[.string s, .int .i64 a, .int .i64 b] w fun e w' => e = .returned (.bool (sizedB s.size a b)) ∧ w = w' := by
  by_cases h : a ≤ s.size
  · go_enter Tryd.func54, Tryd.ntmps54
    go_wp2_with fail
    go_ret
    exact ⟨ret_bool (by unfold sizedB; rw [Bool.eq_iff_iff]; simp; try omega), rfl⟩
  · go_enter Tryd.func54, Tryd.ntmps54
    go_wp2_with fail
    go_ret
    exact ⟨ret_bool (by unfold sizedB; rw [Bool.eq_iff_iff]; simp; try omega), rfl⟩
/-- is a byte one of a row? -/
def inB (l : List UInt8) (b : UInt8) : Bool := l.contains b
theorem at_mem (s : ByteArray) (k : Nat) (h : k < s.size) : s[k] ∈ s.data.toList := by
  have : s[k] = s.data.toList[k]'(by simpa using h) := rfl
  rw [this]; exact List.getElem_mem _
theorem mem_at {s : ByteArray} {b : UInt8} (h : b ∈ s.data.toList) : ∃ k, ∃ h : k < s.size, s[k] = b := by
  obtain ⟨k, hk, e⟩ := List.mem_iff_getElem.1 h
  exact ⟨k, by simpa using hk, e⟩
theorem inB_yes {s : ByteArray} {b : UInt8} {k : Nat} (h : k < s.size) (e : s[k] = b) : true = inB s.data.toList b := by
  unfold inB; symm; rw [List.contains_iff_mem, ← e]; exact at_mem s k h
theorem inB_no {s : ByteArray} {b : UInt8} {k : Nat} (hk : s.size ≤ k) (h : ∀ i, i < k → ∀ (hi : i < s.size), s[i] ≠ b) : false = inB s.data.toList b := by
  unfold inB; symm
  rw [Bool.eq_false_iff, ne_eq, List.contains_iff_mem]
  intro hm
  obtain ⟨i, hi, e⟩ := mem_at hm
  exact h i (by omega) hi e



def letterB (b : UInt8) : Bool := decide ((65 ≤ b.toNat ∧ b.toNat ≤ 90) ∨ (97 ≤ b.toNat ∧ b.toNat ≤ 122))
def digitB (b : UInt8) : Bool := decide (48 ≤ b.toNat ∧ b.toNat ≤ 57)
def signB (b : UInt8) : Bool := decide (b.toNat = 96) || inB [91, 93, 92, 95, 94, 123, 124, 125] b


end Go.Proofs.YtadojlmjapmbhaaDoor
end
section
/- What the kinds of bytes are, byte by byte. -/
namespace Go.Proofs.YtadojlmjapmbhaaDoor
open Go.RowKit

theorem all256 {p : UInt8 → Bool} (h : ((List.range 256).all fun n => p n.toUInt8) = true) (b : UInt8) : p b = true := by
  have := List.all_eq_true.1 h b.toNat (List.mem_range.2 b.toNat_lt)
  simpa using this
theorem isK5 (b : UInt8) : isK 5 b = (letterB b || signB b) := by
  have := all256 (p := fun b => isK 5 b == (letterB b || signB b)) (by kernel_rfl) b
  simpa using this
theorem isK15 (b : UInt8) : isK 15 b = (letterB b || signB b || digitB b || decide (b.toNat = 45)) := by
  have := all256 (p := fun b => isK 15 b == (letterB b || signB b || digitB b || decide (b.toNat = 45))) (by kernel_rfl) b
  simpa using this
/-- may a byte stand in a channel? -/
def chanB (b : UInt8) : Bool := !(decide (b.toNat = 0 ∨ b.toNat = 7 ∨ b.toNat = 10 ∨ b.toNat = 13 ∨ b.toNat = 32 ∨ b.toNat = 44 ∨ b.toNat = 58))
theorem isK1888 (b : UInt8) : isK 1888 b = !chanB b := by
  have := all256 (p := fun b => isK 1888 b == !chanB b) (by kernel_rfl) b
  simpa using this
theorem isK160 (b : UInt8) : isK 160 b = inB [33, 64, 42, 63, 58] b := by
  have := all256 (p := fun b => isK 160 b == inB [33, 64, 42, 63, 58] b) (by kernel_rfl) b
  simpa using this

end Go.Proofs.YtadojlmjapmbhaaDoor
end
section
/- valid.Nick, Channel, User and the answers' ones: both tell the same of any text. -/
namespace Go.Proofs.YtadojlmjapmbhaaDoor
open Go.RowKit

noncomputable def dec (p : Prop) : Bool := @decide p (Classical.propDecidable _)
theorem dec_iff {p : Prop} : dec p = true ↔ p := by unfold dec; exact @decide_eq_true_iff _ (Classical.propDecidable _)
theorem dec_yes {p : Prop} (h : p) : true = dec p := (dec_iff.2 h).symm
theorem dec_no {p : Prop} (h : ¬ p) : false = dec p := by
  cases e : dec p with
  | false => rfl
  | true => exact absurd (dec_iff.1 e) h
theorem dec_of {b : Bool} {p : Prop} (h : b = true ↔ p) : b = dec p := by
  rw [Bool.eq_iff_iff, h, dec_iff]

theorem sized_yes (s : ByteArray) (a b : Int) (w : World) (h : a ≤ s.size ∧ (s.size : Int) ≤ b) :
    Calls Tryd.prog 54 #[.string s, .int .i64 a, .int .i64 b] w fun e w' => e = .returned (.bool true) ∧ w = w' :=
  (sized_any s a b w).mono fun _ _ hh => by rw [show sizedB s.size a b = true from decide_eq_true h] at hh; exact hh
theorem sized_no (s : ByteArray) (a b : Int) (w : World) (h : ¬ (a ≤ s.size ∧ (s.size : Int) ≤ b)) :
    Calls Tryd.prog 54 #[.string s, .int .i64 a, .int .i64 b] w fun e w' => e = .returned (.bool false) ∧ w = w' :=
  (sized_any s a b w).mono fun _ _ hh => by rw [show sizedB s.size a b = false from decide_eq_false h] at hh; exact hh

/-- may a byte stand so in a nickname? -/
def nickAt (i : Nat) (b : UInt8) : Bool := letterB b || signB b || (decide (i ≠ 0) && (digitB b || decide (b.toNat = 45)))
def NickP (s : ByteArray) : Prop := (1 ≤ s.size ∧ s.size ≤ 16) ∧ ∀ i (h : i < s.size), nickAt i s[i] = true
def ChanP (s : ByteArray) : Prop := (2 ≤ s.size ∧ s.size ≤ 50) ∧ (∃ h : 0 < s.size, s[0].toNat = 35) ∧ ∀ i (h : i < s.size), chanB s[i] = true
def UserP (s : ByteArray) : Prop := (1 ≤ s.size ∧ s.size ≤ 10) ∧ ∀ i (h : i < s.size), (seen s[i] && !inB [33, 64, 42, 63, 58] s[i]) = true

theorem extract_one (s : ByteArray) (h : 1 ≤ s.size) (p : Nat → UInt8 → Bool) : allI (s.extract 0 1) p = p 0 s[0] := by
  rw [Bool.eq_iff_iff, allI_iff]
  have hs : (s.extract 0 1).size = 1 := by simp [ByteArray.size_extract]; omega
  have e : ∀ i (hi : i < (s.extract 0 1).size), (s.extract 0 1)[i] = s[0] := by
    intro i hi
    obtain rfl : i = 0 := by omega
    simp [ByteArray.getElem_extract]
  constructor
  · intro hh; have := hh 0 (by omega); rwa [e] at this
  · intro hh i hi; rw [e]; obtain rfl : i = 0 := by omega
    exact hh











end Go.Proofs.YtadojlmjapmbhaaDoor
end
section
/- valid.Host, Server, Key and the answers' ones: both tell the same of any text. -/
namespace Go.Proofs.YtadojlmjapmbhaaDoor
set_option linter.unusedVariables false
set_option linter.unusedSimpArgs false
open Go.RowKit

theorem isK59 (b : UInt8) : isK 59 b = (letterB b || digitB b || decide (b.toNat = 46) || decide (b.toNat = 45) || decide (b.toNat = 58)) := by
  have := all256 (p := fun b => isK 59 b == (letterB b || digitB b || decide (b.toNat = 46) || decide (b.toNat = 45) || decide (b.toNat = 58))) (by kernel_rfl) b
  simpa using this
theorem isK32 (b : UInt8) : isK 32 b = decide (b.toNat = 58) := by
  have := all256 (p := fun b => isK 32 b == decide (b.toNat = 58)) (by kernel_rfl) b
  simpa using this
theorem isK16 (b : UInt8) : isK 16 b = decide (b.toNat = 46) := by
  have := all256 (p := fun b => isK 16 b == decide (b.toNat = 46)) (by kernel_rfl) b
  simpa using this
theorem isK1 (b : UInt8) : isK 1 b = letterB b := by
  have := all256 (p := fun b => isK 1 b == letterB b) (by kernel_rfl) b
  simpa using this
theorem isK64 (b : UInt8) : isK 64 b = decide (b.toNat = 44) := by
  have := all256 (p := fun b => isK 64 b == decide (b.toNat = 44)) (by kernel_rfl) b
  simpa using this

/-- may a byte stand so in a host? -/
def hostAt (i : Nat) (b : UInt8) : Bool := letterB b || digitB b || decide (b.toNat = 46) || decide (b.toNat = 45) || (decide (b.toNat = 58) && decide (i ≠ 0))
def HostP (s : ByteArray) : Prop := (1 ≤ s.size ∧ s.size ≤ 63) ∧ ∀ i (h : i < s.size), hostAt i s[i] = true
def ServP (s : ByteArray) : Prop := HostP s ∧ (∃ h : 0 < s.size, letterB s[0] = true) ∧ inB s.data.toList 46 = true ∧ inB s.data.toList 58 = false
def KeyP (s : ByteArray) : Prop := (1 ≤ s.size ∧ s.size ≤ 23) ∧ (∀ i (h : i < s.size), (seen s[i] && !decide (s[i].toNat = 44)) = true) ∧ ∃ h : 0 < s.size, s[0].toNat ≠ 58
theorem u8_eq {b : UInt8} {n : Nat} (hn : n < 256) : b.toNat = n ↔ b = n.toUInt8 := by
  constructor
  · intro h; rw [← h]; simp
  · intro h; rw [h]; simp; omega
theorem allI_noneB (s : ByteArray) (c : UInt8) : allI s (fun _ b => !decide (b.toNat = c.toNat)) = !inB s.data.toList c := by
  rw [Bool.eq_iff_iff, allI_iff]
  constructor
  · intro h
    rw [Bool.not_eq_true']
    symm
    exact inB_no (Nat.le_refl _) fun i _ hi e => by have := h i hi; rw [e] at this; simp at this
  · intro h i hi
    rw [Bool.not_eq_true'] at h
    by_cases e : s[i] = c
    · have := inB_yes hi e; rw [h] at this; cases this
    · simp; intro e2; exact e (UInt8.toNat_inj.mp e2)

set_option maxHeartbeats 1000000 in
theorem host_v (s : ByteArray) (w : World) (hs : s.size ≤ 1000000) (hr : Rowed w) :
    Calls Tryd.prog 45 #[.string s] w fun e w' => e = .returned (.bool (dec (HostP s))) ∧ w = w' := by
  by_cases h : 1 ≤ s.size ∧ s.size ≤ 63
  · have h1 := h.1
    go_enter Tryd.func45, Tryd.ntmps45
    go_wp2_with (first | (go_at_call 54; refine (sized_yes _ _ _ _ (by omega)).mono ?_; rintro e w' ⟨rfl, rfl⟩) | (go_at_call 47; refine (only_any _ _ _ (by first | assumption | (simp [ByteArray.size_extract]; omega)) (by assumption)).mono ?_; rintro e w' ⟨rfl, rfl⟩) | (go_at_call 46; refine (none_any _ _ _ (by first | assumption | (simp [ByteArray.size_extract]; omega)) (by assumption)).mono ?_; rintro e w' ⟨rfl, rfl⟩))
    all_goals go_ret
    all_goals rename_i hx
    · rw [extract_one s h1] at hx
      refine ⟨ret_bool (dec_of ?_), rfl⟩
      rw [allI_iff]
      rw [isK32] at hx
      constructor
      · intro hh
        refine ⟨h, fun i hi => ?_⟩
        have a := hh i hi
        rw [isK59] at a
        unfold hostAt
        by_cases e : i = 0
        · subst e
          simp only [Bool.or_eq_true, Bool.and_eq_true, Bool.not_eq_true', decide_eq_true_eq, decide_eq_false_iff_not] at a hx ⊢
          rcases a with a | a
          · exact .inl a
          · exact absurd a hx
        · rw [decide_eq_true e, Bool.and_true]; exact a
      · intro hh i hi
        have a := hh.2 i hi
        rw [isK59]
        unfold hostAt at a
        simp only [Bool.or_eq_true, Bool.and_eq_true] at a ⊢
        rcases a with a | ⟨a, _⟩
        · exact .inl a
        · exact .inr a
    · rw [extract_one s h1, isK32] at hx
      refine ⟨ret_bool (dec_no fun hh => hx ?_), rfl⟩
      have a := hh.2 0 (by omega)
      unfold hostAt at a
      simp only [Bool.or_eq_true, Bool.and_eq_true, decide_eq_true_eq, ne_eq, not_true_eq_false, and_false, or_false, Bool.not_eq_true', decide_eq_false_iff_not] at a ⊢
      intro e
      rcases a with ((a | a) | a) | a
      · unfold letterB at a; simp at a; omega
      · unfold digitB at a; simp at a; omega
      · omega
      · omega
  · go_enter Tryd.func45, Tryd.ntmps45
    go_wp2_with (go_at_call 54; refine (sized_no _ _ _ _ (by omega)).mono ?_; rintro e w' ⟨rfl, rfl⟩)
    go_ret
    exact ⟨ret_bool (dec_no fun hh => h hh.1), rfl⟩



set_option maxHeartbeats 2000000 in
theorem serv_v (s : ByteArray) (w : World) (hs : s.size ≤ 1000000) (hr : Rowed w) :
    Calls Tryd.prog 34 #[.string s] w fun e w' => e = .returned (.bool (dec (ServP s))) ∧ w = w' := by
  by_cases hh : HostP s
  · have h1 : 1 ≤ s.size := hh.1.1
    have hhd := dec_iff.2 hh
    have e32 : (allI s fun _ b => !isK 32 b) = !inB s.data.toList 58 := by rw [← allI_noneB s 58]; congr 1; funext _ b; rw [isK32]; rfl
    have e16 : (allI s fun _ b => !isK 16 b) = !inB s.data.toList 46 := by rw [← allI_noneB s 46]; congr 1; funext _ b; rw [isK16]; rfl
    have e1 : (allI (s.extract 0 1) fun _ b => isK 1 b) = letterB s[0] := by rw [extract_one s h1, isK1]
    obtain ⟨x, hx⟩ : ∃ x, inB s.data.toList 58 = x := ⟨_, rfl⟩
    obtain ⟨y, hy⟩ : ∃ x, inB s.data.toList 46 = x := ⟨_, rfl⟩
    obtain ⟨z, hz⟩ : ∃ x, letterB s[0] = x := ⟨_, rfl⟩
    rw [hx] at e32
    rw [hy] at e16
    rw [hz] at e1
    have hfin : (!x && y && z) = dec (ServP s) := by
      refine dec_of ?_
      unfold ServP
      rw [hx, hy]
      constructor
      · intro h
        simp only [Bool.and_eq_true, Bool.not_eq_true'] at h
        exact ⟨hh, ⟨by omega, by rw [hz]; exact h.2⟩, h.1.2, h.1.1⟩
      · rintro ⟨_, ⟨_, h2⟩, h3, h4⟩
        rw [hz] at h2
        simp [h2, h3, h4]
    have E32 := Lib.hid e32
    have E16 := Lib.hid e16
    have E1 := Lib.hid e1
    have HD := Lib.hid hhd
    have HF := Lib.hid hfin
    have hs1 : (s.extract 0 1).size ≤ 1000000 := by simp [ByteArray.size_extract]; omega
    clear e32 e16 e1 hhd hfin hx hy hz
    cases x
    · cases y
      · go_enter Tryd.func34, Tryd.ntmps34
        go_wp2_with fail
        refine (host_v _ _ hs hr).mono ?_
        rintro e w' ⟨rfl, rfl⟩
        rw [HD.out]
        go_wp2_with fail
        refine (none_any _ _ _ hs hr).mono ?_
        rintro e w' ⟨rfl, rfl⟩
        rw [E32.out]
        go_wp2_with fail
        refine (none_any _ _ _ hs hr).mono ?_
        rintro e w' ⟨rfl, rfl⟩
        rw [E16.out]
        go_wp2_with fail
        go_ret
        exact ⟨ret_bool (by rw [← HF.out]; rfl), rfl⟩
      · go_enter Tryd.func34, Tryd.ntmps34
        go_wp2_with fail
        refine (host_v _ _ hs hr).mono ?_
        rintro e w' ⟨rfl, rfl⟩
        rw [HD.out]
        go_wp2_with fail
        refine (none_any _ _ _ hs hr).mono ?_
        rintro e w' ⟨rfl, rfl⟩
        rw [E32.out]
        go_wp2_with fail
        refine (none_any _ _ _ hs hr).mono ?_
        rintro e w' ⟨rfl, rfl⟩
        rw [E16.out]
        go_wp2_with fail
        refine (only_any _ _ _ hs1 hr).mono ?_
        rintro e w' ⟨rfl, rfl⟩
        rw [E1.out]
        go_wp2_with fail
        go_ret
        exact ⟨ret_bool (by rw [← HF.out]; rfl), rfl⟩
    · go_enter Tryd.func34, Tryd.ntmps34
      go_wp2_with fail
      refine (host_v _ _ hs hr).mono ?_
      rintro e w' ⟨rfl, rfl⟩
      rw [HD.out]
      go_wp2_with fail
      refine (none_any _ _ _ hs hr).mono ?_
      rintro e w' ⟨rfl, rfl⟩
      rw [E32.out]
      go_wp2_with fail
      go_ret
      exact ⟨ret_bool (by rw [← HF.out]; rfl), rfl⟩
  · have hd : dec (HostP s) = false := (dec_no hh).symm
    have HD := Lib.hid hd
    have hfin : false = dec (ServP s) := dec_no fun h => hh h.1
    have HF := Lib.hid hfin
    clear hd hfin hh
    go_enter Tryd.func34, Tryd.ntmps34
    go_wp2_with fail
    refine (host_v _ _ hs hr).mono ?_
    rintro e w' ⟨rfl, rfl⟩
    rw [HD.out]
    go_wp2_with fail
    go_ret
    exact ⟨ret_bool HF.out, rfl⟩

end Go.Proofs.YtadojlmjapmbhaaDoor
end
section
/- A slice of the call's own: one element more; rows of booleans; a store into a row. -/
namespace Go.Proofs.YtadojlmjapmbhaaDoor
open Go Go.RowKit

theorem cells_new (W : World) (cs : Array Value) (e : TypeId) : ∀ j u, cs.toList[j]? = some u → (W.alloc (.cells cs e)).cell? ((⟨W.heap.size, 0, none⟩ : Addr).add j) = some u := by
  intro j u hu
  have hadd : (⟨W.heap.size, 0, none⟩ : Addr).add j = ⟨W.heap.size, j, none⟩ := by unfold Addr.add; split <;> simp_all
  rw [hadd, cell_of_row _ W.heap.size j cs e (0, 0) (heap_alloc_new W _)]
  simpa using hu

/-- 'out = append(out, x)': x lies in the newest block. -/
theorem wpList_app_one {P : Program} {W w0 : World} {ops : Array Oper} {rest : List Oper} {o : Oper} {a : Act} {Q : Exit → Act → World → Prop} (hgd : o.guard = none) (s x : Operand) (t : TypeId)
    (ho : o.op = .call { callee := .builtin .append, args := #[s, x], argTypes := #[t, t] })
    (base : Nat) (e : TypeId) (i : TypeInfo) (z : Value) (size bytes : Nat) (ht : P.underlying t = some (.slice e)) (hi : P.info? e = some i) (hz : i.zero = some z)
    (hsize : i.size = size) (hby : i.bytes = bytes) (hzs : z.cells.size = size) (hsz : 0 < size)
    (v : Value) (n : Nat) (xs : List Value) (hs : a.eval s = v) (hown : W.ownsRow base e size v n xs)
    (cs : Array Value) (hx : a.eval x = .slice (some ⟨W.heap.size, 0, none⟩) 1 1) (hl : cs.size = size) (h1 : ∀ u ∈ cs.toList, u.oneCell' = true)
    (hn : n ≤ 1000000000) (hbs : bytes ≤ 1000) (hB : Below base w0 W) (hbase : base ≤ W.heap.size)
    (h : ∀ v' w', w'.ownsRow base e size v' (n + 1) (xs ++ cs.toList) → Below base w0 w' → base ≤ w'.heap.size → wpList P ops Q rest (a.put o.dst v') w') : wpList P ops Q (o :: rest) a (W.alloc (.cells cs e)) := by
  have hnb : (n + 1) * bytes ≤ 140737488355328 := Nat.le_trans (Nat.mul_le_mul (show n + 1 ≤ 1000000001 by omega) hbs) (by decide)
  refine wpList_append_own _ hgd s x t ho base e i z size bytes ht hi hz hsize hby hzs hsz v n xs hs (hown.alloc _) ⟨W.heap.size, 0, none⟩ 1 1 cs.toList hx (by simpa using hl) (cells_new W cs e) h1 (by unfold maxLen; omega) hnb (by simp; omega) ?_
  intro v' w' hown' hgrow _
  have hsz' := hgrow.size
  rw [World.size_alloc] at hsz'
  refine h v' w' hown' ((hB.alloc hbase _).grown hgrow (by simp; omega) fun k hk => (hown.lt k hk).1) (by omega)

theorem wpList_app_oneN {P : Program} {W w0 : World} {ops : Array Oper} {rest : List Oper} {o : Oper} {a : Act} {Q : Exit → Act → World → Prop} (hgd : o.guard = none) (s x : Operand) (t : TypeId)
    (ho : o.op = .call { callee := .builtin .append, args := #[s, x], argTypes := #[t, t] })
    (base : Nat) (e : TypeId) (i : TypeInfo) (z : Value) (size bytes : Nat) (ht : P.underlying t = some (.slice e)) (hi : P.info? e = some i) (hz : i.zero = some z)
    (hsize : i.size = size) (hby : i.bytes = bytes) (hzs : z.cells.size = size) (hsz : 0 < size)
    (v : Value) (n : Nat) (xs : List Value) (hs : a.eval s = v) (hown : W.ownsRow base e size v n xs)
    (cs : Array Value) (N : Nat) (hx : a.eval x = .slice (some ⟨N, 0, none⟩) 1 1) (hN : W.heap.size = N) (hl : cs.size = size) (h1 : ∀ u ∈ cs.toList, u.oneCell' = true)
    (hn : n ≤ 1000000000) (hbs : bytes ≤ 1000) (hB : Below base w0 W) (hbase : base ≤ W.heap.size)
    (h : ∀ v' w', w'.ownsRow base e size v' (n + 1) (xs ++ cs.toList) → Below base w0 w' → base ≤ w'.heap.size → wpList P ops Q rest (a.put o.dst v') w') : wpList P ops Q (o :: rest) a (W.alloc (.cells cs e)) := by
  subst hN
  exact wpList_app_one hgd s x t ho base e i z size bytes ht hi hz hsize hby hzs hsz v n xs hs hown cs hx hl h1 hn hbs hB hbase h

/-- the same, as a step of a region whose order is drawn -/
theorem step_app_oneN {P : Program} {W w0 : World} {ys : Nat → Option Bool} {o : Oper} {a : Act} {K : Act → World → Prop} {Q : Exit → Act → World → Prop} {E : Prop} (hgd : o.guard = none) (s x : Operand) (t : TypeId)
    (ho : o.op = .call { callee := .builtin .append, args := #[s, x], argTypes := #[t, t] })
    (base : Nat) (e : TypeId) (i : TypeInfo) (z : Value) (size bytes : Nat) (ht : P.underlying t = some (.slice e)) (hi : P.info? e = some i) (hz : i.zero = some z)
    (hsize : i.size = size) (hby : i.bytes = bytes) (hzs : z.cells.size = size) (hsz : 0 < size)
    (v : Value) (n : Nat) (xs : List Value) (hs : a.eval s = v) (hown : W.ownsRow base e size v n xs)
    (cs : Array Value) (N : Nat) (hx : a.eval x = .slice (some ⟨N, 0, none⟩) 1 1) (hN : W.heap.size = N) (hl : cs.size = size) (h1 : ∀ u ∈ cs.toList, u.oneCell' = true)
    (hn : n ≤ 1000000000) (hbs : bytes ≤ 1000) (hB : Below base w0 W) (hbase : base ≤ W.heap.size)
    (h : ∀ v' w', w'.ownsRow base e size v' (n + 1) (xs ++ cs.toList) → Below base w0 w' → base ≤ w'.heap.size → K (a.put o.dst v') w') : if Region.wanted o ys = true then Oper.wp P o a (W.alloc (.cells cs e)) K Q else E := by
  subst hN
  rw [if_pos (by simp [Region.wanted, hgd])]
  have hnb : (n + 1) * bytes ≤ 140737488355328 := Nat.le_trans (Nat.mul_le_mul (show n + 1 ≤ 1000000001 by omega) hbs) (by decide)
  refine wp_append_own _ s x t ho base e i z size bytes ht hi hz hsize hby hzs hsz v n xs hs (hown.alloc _) ⟨W.heap.size, 0, none⟩ 1 1 cs.toList hx (by simpa using hl) (cells_new W cs e) h1 (by unfold maxLen; omega) hnb (by simp; omega) ?_
  intro v' w' hown' hgrow _
  have hsz' := hgrow.size
  rw [World.size_alloc] at hsz'
  exact h v' w' hown' ((hB.alloc hbase _).grown hgrow (by simp; omega) fun k hk => (hown.lt k hk).1) (by omega)

/-- 'string(out)', out a slice of bytes of the call's own -/
theorem conv_owned {P : Program} (W : World) (src dst e : TypeId) (base : Nat) (v : Value) (l : List UInt8) (hs : P.underlying src = some (.slice e)) (he : P.underlying e = some (.int .u8)) (hd : P.underlying dst = some .string)
    (h : W.ownsRow base e 1 v l.length (l.map fun b => Value.int .u8 b.toNat)) :
    (convert src dst v).run P W = .ok (.string (bs l)) W := by
  rcases h.2 with ⟨rfl, hn⟩ | ⟨g, cap, cur, rfl, hrest⟩
  · have hl : l = [] := List.length_eq_zero_iff.1 hn
    subst hl
    exact run_convert_bytes_nil W src e hs he 0 0 dst hd
  · exact run_convert_bytes_back W src dst e ⟨g, 0, none⟩ cap l hs he hd fun j hj => h.cells (g := g) rfl j _ (by simp [hj])

/-- booleans as cells -/
def bl (f : Nat → Bool) (n : Nat) : List Value := (List.range n).map fun i => .bool (f i)
theorem bl_len (f : Nat → Bool) (n : Nat) : (bl f n).length = n := by simp [bl]
theorem bl_get (f : Nat → Bool) {n j : Nat} (h : j < n) : (bl f n)[j]? = some (.bool (f j)) := by simp [bl, h]
theorem bl_set (f g : Nat → Bool) {n j : Nat} (b : Bool) (hj : f j = b) (h : ∀ i, i < n → i ≠ j → f i = g i) : (bl g n).set j (.bool b) = bl f n := by
  apply List.ext_getElem?
  intro i
  rw [List.getElem?_set]
  by_cases e : j = i
  · subst e
    rw [if_pos rfl]
    by_cases hl : j < n
    · rw [bl_get f hl, hj]; simp [bl_len, hl]
    · rw [if_neg (by rw [bl_len]; exact hl), List.getElem?_eq_none (by rw [bl_len]; omega)]
  · rw [if_neg e]
    by_cases hl : i < n
    · rw [bl_get f hl, bl_get g hl, h i hl (fun h => e h.symm)]
    · rw [List.getElem?_eq_none (by rw [bl_len]; omega), List.getElem?_eq_none (by rw [bl_len]; omega)]
theorem bl_false (n : Nat) : (madeCells #[.bool false] n).toList = bl (fun _ => false) n := by
  rw [toList_madeCells_one]
  apply List.ext_getElem?
  intro i
  by_cases h : i < n
  · rw [bl_get _ h]; simp [h]
  · simp [bl, h]
end Go.Proofs.YtadojlmjapmbhaaDoor
end
section
/- Layer 15: what may be a password, on both sides; the answers' Check. -/
namespace Go.Proofs.YtadojlmjapmbhaaDoor
set_option linter.unusedVariables false
set_option linter.unusedSimpArgs false
open Go.RowKit

theorem rowed_below {w w' : World} {B : Nat} (h : Rowed w) (hB : w.heap.size ≤ B) (hb : Below B w w') : Rowed w' := by
  intro i hi
  obtain ⟨s, h1, h2⟩ := h i hi
  refine ⟨s, ?_, h2⟩
  rw [← h1]
  exact hb.cell (Nat.lt_of_lt_of_le (World.block_lt_of_cell? _ _ h1) hB)
def PassP (s : ByteArray) : Prop := (∀ i (h : i < s.size), seen s[i] = true) ∧ s.size ≤ 50 ∧ ∀ h : 0 < s.size, s[0].toNat ≠ 58
/-- does a text begin with a byte? -/
def headB (s : ByteArray) (c : UInt8) : Bool := s.data.toList.head? == some c
theorem head_at {s : ByteArray} {c : UInt8} (h : 0 < s.size) : headB s c = (s[0] == c) := by
  unfold headB
  have : s.data.toList.head? = some s[0] := by
    rw [List.head?_eq_getElem?, List.getElem?_eq_getElem (by simpa using h)]; rfl
  rw [this]; rfl
theorem head_em {s : ByteArray} {c : UInt8} (h : s.size = 0) : headB s c = false := by
  unfold headB
  rw [str_nil h]; rfl
theorem extract1 (s : ByteArray) (c : UInt8) (h : 0 < s.size) : ((s.extract 0 1).toList == (⟨#[c]⟩ : ByteArray).toList) = (s[0] == c) := by
  have e : (s.extract 0 1).data.toList = [s[0]] := by
    rw [Lib.extract_data, List.drop_zero]
    have := List.take_succ_eq_append_getElem (l := s.data.toList) (i := 0) (by simpa using h)
    rw [Nat.sub_zero]
    rw [this]; rfl
  rw [beq_ba, e]
  show ([s[0]] == [c]) = _
  simp

theorem pre_lite (s : ByteArray) (c : UInt8) (w : World) (hs : s.size ≤ 1000000) :
    Calls Tryd.prog 44 #[.string s, .string ⟨#[c]⟩] w fun e w' => e = .returned (.bool (headB s c)) ∧ w = w' := by
  by_cases h : 0 < s.size
  · have e := extract1 s c h
    rw [← head_at h] at e
    have h1 : 1 ≤ s.size := h
    have E := Lib.hid e
    clear e
    go_enter Tryd.func44, Tryd.ntmps44
    go_wp2_with fail
    go_ret
    exact ⟨ret_bool (by rw [← E.out, show (⟨#[c]⟩ : ByteArray).toList = [c] from by rw [ByteArray.toList_eq]]), rfl⟩
  · have e := head_em (s := s) (c := c) (by omega)
    have E := Lib.hid e
    clear e
    go_enter Tryd.func44, Tryd.ntmps44
    go_wp2_with fail
    go_ret
    exact ⟨ret_bool (by rw [E.out]), rfl⟩
theorem pre_any (s : ByteArray) (c : UInt8) (w : World) (hs : s.size ≤ 1000000) :
    Calls Tryd.prog 48 #[.string s, .string ⟨#[c]⟩] w fun e w' => e = .returned (.bool (headB s c)) ∧ w = w' := by
  go_enter Tryd.func48, Tryd.ntmps48
  go_wp2_with (go_at_call 44; refine (pre_lite s c _ hs).mono ?_; rintro e w' ⟨rfl, rfl⟩)
  go_ret
  exact ⟨rfl, rfl⟩

set_option maxHeartbeats 1000000 in
theorem pass_v (s : ByteArray) (w : World) (hs : s.size ≤ 1000000) :
    Calls Tryd.prog 35 #[.string s] w fun e w' => e = .returned (.bool (dec (PassP s))) ∧ w = w' := by
  go_enter Tryd.func35, Tryd.ntmps35
  go_wp2_with fail
  go_loopw [3, 6] (fun _ i wr => ∃ k : Nat, k ≤ s.size ∧ i = .int .i64 k ∧ (∀ i, i < k → ∀ (hi : i < s.size), (fun _ b => seen b) i s[i] = true) ∧ wr = w) (fun _ i _ => s.size - (Go.RowKit.intOf i).toNat)
  case atStart => exact ⟨0, Nat.zero_le _, rfl, fun _ h => absurd h (Nat.not_lt_zero _), rfl⟩
  case round =>
    obtain ⟨k, hk, rfl, hq, rfl⟩ := hrel
    have Hq := Lib.hid hq
    clear hq
    by_cases hlt : k < s.size
    · by_cases hb : 33 ≤ s[k].toNat
      · by_cases hb2 : s[k].toNat ≤ 126
        · go_wp2_with fail
          go_roundw
          case rel => exact ⟨k + 1, by omega, by push_cast; rfl, all_step Hq.out hlt (decide_eq_true ⟨hb, hb2⟩), by simp⟩
          case measure => simp only [Go.RowKit.intOf]; omega
        · go_wp2_with fail
          go_ret
          exact ⟨ret_bool (dec_no fun h => hb2 (by have := of_decide_eq_true (h.1 k hlt); exact this.2)), rfl⟩
      · go_wp2_with fail
        go_ret
        exact ⟨ret_bool (dec_no fun h => hb (by have := of_decide_eq_true (h.1 k hlt); exact this.1)), rfl⟩
    · obtain rfl : k = s.size := by omega
      by_cases h50 : s.size ≤ 50
      · go_wp2_with (go_at_call 48; refine (pre_any s 58 _ hs).mono ?_; rintro e w' ⟨rfl, rfl⟩)
        go_ret
        refine ⟨ret_bool (dec_of ?_), rfl⟩
        constructor
        · intro h
          refine ⟨fun i hi => Hq.out i hi hi, h50, fun h0 e => ?_⟩
          rw [head_at h0, show s[0] = 58 from UInt8.toNat_inj.mp e] at h
          simp at h
        · rintro ⟨_, _, h⟩
          by_cases h0 : 0 < s.size
          · rw [head_at h0]
            simp
            intro e; exact h h0 (by rw [e]; rfl)
          · rw [head_em (by omega)]; rfl
      · go_wp2_with fail
        go_ret
        exact ⟨ret_bool (dec_no fun h => h50 h.2.1), rfl⟩





def inR (n a b : Int) : Bool := decide (a ≤ n ∧ n ≤ b)
end Go.Proofs.YtadojlmjapmbhaaDoor
end
