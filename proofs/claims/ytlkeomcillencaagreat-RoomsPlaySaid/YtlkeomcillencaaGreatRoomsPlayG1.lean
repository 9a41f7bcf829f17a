/- Texts of this proof, one behind the other. -/
import Derived.WalkKit
import Derived.Lib.Hide
import Derived.Below
import Derived.Laws.Rows
import Derived.RangeFuncNested
import Derived.Deep.Draws
import Derived.Test.YtlkeomcillencaaGreatChecked
import Derived.Sort.Walk0
import Derived.Laws.Cover1
import Derived.LoopTactic
import Derived.Outline
import Derived.OwnWalk
import Derived.Laws.OwnMore
import Derived.Deep.LoopGhost
import Derived.RangeFuncBound
import Derived.RangeFuncCalls
import Derived.RangeFuncLeaves
set_option linter.unusedVariables false
set_option linter.unusedSimpArgs false
section
/- Small words that the walks of this family lean on: equal results, equal bytes. -/
namespace Go.Proofs.YtlkeomcillencaaGreat
open Go.RowKit

theorem ret_int {k : IntKind} {a b : Int} (h : a = b) : Ending.returned (.int k a) = .returned (.int k b) := by rw [h]
theorem ret_bool {a b : Bool} (h : a = b) : Ending.returned (.bool a) = .returned (.bool b) := by rw [h]
theorem ret_str {a b : ByteArray} (h : a = b) : Ending.returned (.string a) = .returned (.string b) := by rw [h]
theorem ret_strl {a b : ByteArray} (h : a.data.toList = b.data.toList) : Ending.returned (.string a) = .returned (.string b) := by
  have : a = b := by
    cases a; cases b; simp only [ByteArray.mk.injEq]; exact Array.toList_inj.mp h
  rw [this]

/-- the bytes of a list, as a text -/
def bs (l : List UInt8) : ByteArray := ⟨l.toArray⟩
@[simp] theorem bs_toList (l : List UInt8) : (bs l).data.toList = l := rfl
@[simp] theorem bs_size (l : List UInt8) : (bs l).size = l.length := by simp [bs, ByteArray.size]
theorem bs_of (s : ByteArray) : bs s.data.toList = s := rfl
theorem ba_ext {a b : ByteArray} (h : a.data.toList = b.data.toList) : a = b := by
  cases a; cases b; simp only [ByteArray.mk.injEq]; exact Array.toList_inj.mp h
theorem u8_bd (b : UInt8) : 0 ≤ (b.toNat : Int) ∧ (b.toNat : Int) ≤ 255 := by
  have := b.toNat_lt; omega
theorem snoc_ind {α : Type} {motive : List α → Prop} (nil : motive []) (snoc : ∀ l x, motive l → motive (l ++ [x])) : ∀ l, motive l := by
  intro l
  have h : ∀ k : List α, motive k.reverse := by
    intro k
    induction k with
    | nil => exact nil
    | cons a r ih => rw [List.reverse_cons]; exact snoc _ _ ih
  have := h l.reverse
  rwa [List.reverse_reverse] at this
theorem str_ne {s : ByteArray} (h : 0 < s.size) : s.toList.isEmpty = false := by
  rw [ByteArray.toList_eq, List.isEmpty_eq_false_iff]
  intro e
  have h1 : s.data.toList.length = 0 := by rw [e]; rfl
  have h2 : s.data.toList.length = s.size := rfl
  omega
theorem str_em {s : ByteArray} (h : s.size = 0) : s.toList.isEmpty = true := by
  rw [ByteArray.toList_eq, List.isEmpty_iff, List.eq_nil_iff_length_eq_zero]
  simpa using h
theorem str_nil {s : ByteArray} (h : s.size = 0) : s.data.toList = [] := by
  rw [List.eq_nil_iff_length_eq_zero]; simpa using h
theorem beq_bs (l m : List UInt8) : ((bs l).toList == (bs m).toList) = (l == m) := by
  rw [ByteArray.toList_eq, ByteArray.toList_eq]; rfl
theorem beq_ba (a b : ByteArray) : (a.toList == b.toList) = (a.data.toList == b.data.toList) := by
  rw [ByteArray.toList_eq, ByteArray.toList_eq]
end Go.Proofs.YtlkeomcillencaaGreat
end
section
/- Layer 19: mathematics: members, in the order of their numbers. -/
namespace Go.Proofs.YtlkeomcillencaaGreat

/-- a member: its number, operator, voice -/
abbrev Mem := Int × Bool × Bool
def UpM (l : List Mem) : Prop := l.Pairwise fun a b => a.1 < b.1
/-- where a number stands, or would stand -/
def ixM (l : List Mem) (id : Int) : Nat := l.countP fun a => decide (a.1 < id)
def hasM (l : List Mem) (id : Int) : Bool := l.any fun a => a.1 == id
theorem ixM_le (l : List Mem) (id : Int) : ixM l id ≤ l.length := List.countP_le_length
theorem hasM_mem {l : List Mem} {id : Int} : hasM l id = true ↔ ∃ a ∈ l, a.1 = id := by simp [hasM]
theorem hasM_no {l : List Mem} {id : Int} : hasM l id = false ↔ ∀ a ∈ l, a.1 ≠ id := by simp [hasM]
/-- what stands ahead is less, what stands from there on isn't -/
theorem ixM_cut : ∀ {l : List Mem}, UpM l → ∀ id j (h : j < l.length), (j < ixM l id ↔ l[j].1 < id)
  | [], _, id, j, h => by simp at h
  | a :: l, hu, id, j, h => by
    unfold UpM at hu
    rw [List.pairwise_cons] at hu
    have ih := ixM_cut (l := l) hu.2 id
    by_cases c : a.1 < id
    · have e : ixM (a :: l) id = ixM l id + 1 := by unfold ixM; rw [List.countP_cons_of_pos (by simpa using c)]
      rw [e]
      cases j with
      | zero => simp [c]
      | succ j => simp only [List.getElem_cons_succ]; rw [← ih j (by simpa using h)]; omega
    · have e : ixM (a :: l) id = 0 := by
        unfold ixM
        rw [List.countP_eq_zero]
        intro b hb
        rcases List.mem_cons.1 hb with rfl | hb
        · simpa using c
        · have := hu.1 b hb; simp; omega
      rw [e]
      cases j with
      | zero => simp [c]
      | succ j =>
        simp only [List.getElem_cons_succ]
        have := hu.1 (l[j]'(by simpa using h)) (List.getElem_mem _)
        omega
theorem ixM_at {l : List Mem} (hu : UpM l) {id : Int} (h : hasM l id = true) : ∃ h2 : ixM l id < l.length, (l[ixM l id]'h2).1 = id := by
  obtain ⟨a, ha, e⟩ := hasM_mem.1 h
  obtain ⟨j, hj, rfl⟩ := List.getElem_of_mem ha
  have h1 := ixM_cut hu id j hj
  have hle : ¬ j < ixM l id := fun c => by have := h1.1 c; omega
  have hlt : ixM l id < l.length := by omega
  refine ⟨hlt, ?_⟩
  have h2 := ixM_cut hu id (ixM l id) hlt
  rcases Nat.lt_or_ge (ixM l id) j with c | c
  · have := List.pairwise_iff_getElem.1 hu (ixM l id) j hlt hj c
    have h3 : ¬ (l[ixM l id]).1 < id := fun d => by have := h2.2 d; omega
    omega
  · have : ixM l id = j := by omega
    simp only [this]; exact e
theorem hasM_at {l : List Mem} (hu : UpM l) (id : Int) : hasM l id = true ↔ ∃ h2 : ixM l id < l.length, (l[ixM l id]'h2).1 = id :=
  ⟨ixM_at hu, fun ⟨h2, e⟩ => hasM_mem.2 ⟨_, List.getElem_mem h2, e⟩⟩
/-- one more -/
def insM (l : List Mem) (m : Mem) : List Mem := l.take (ixM l m.1) ++ m :: l.drop (ixM l m.1)
def delMb (l : List Mem) (id : Int) : List Mem := l.take (ixM l id) ++ l.drop (ixM l id + 1)
theorem insM_perm (l : List Mem) (m : Mem) : (insM l m).Perm (m :: l) := by
  unfold insM
  refine List.perm_middle.trans ?_
  rw [List.take_append_drop]
theorem insM_len (l : List Mem) (m : Mem) : (insM l m).length = l.length + 1 := (insM_perm l m).length_eq
theorem delM_perm {l : List Mem} {i : Nat} (h : i < l.length) : l.Perm (l[i] :: (l.take i ++ l.drop (i + 1))) := by
  have e : l.take i ++ l[i] :: l.drop (i + 1) = l := by rw [← List.drop_eq_getElem_cons h, List.take_append_drop]
  exact (List.Perm.of_eq e.symm).trans List.perm_middle
theorem setM_perm {l : List Mem} {i : Nat} (h : i < l.length) (m : Mem) : (l.set i m).Perm (m :: (l.take i ++ l.drop (i + 1))) := by
  rw [List.set_eq_take_append_cons_drop, if_pos h]
  exact List.perm_middle
theorem insM_up {l : List Mem} (hu : UpM l) {m : Mem} (h : hasM l m.1 = false) : UpM (insM l m) := by
  unfold insM UpM
  have hp := hu
  unfold UpM at hp
  rw [← List.take_append_drop (ixM l m.1) l] at hp
  obtain ⟨p1, p2, p3⟩ := List.pairwise_append.1 hp
  have t1 : ∀ a ∈ l.take (ixM l m.1), a.1 < m.1 := fun a ha => by
    obtain ⟨j, hj, rfl⟩ := List.getElem_of_mem ha
    rw [List.length_take] at hj
    rw [List.getElem_take]
    exact (ixM_cut hu m.1 j (by omega)).1 (by omega)
  have t2 : ∀ a ∈ l.drop (ixM l m.1), m.1 < a.1 := fun a ha => by
    obtain ⟨j, hj, e⟩ := List.getElem_of_mem ha
    rw [List.length_drop] at hj
    rw [List.getElem_drop] at e
    have h1 := ixM_cut hu m.1 (ixM l m.1 + j) (by omega)
    have h2 : ¬ (l[ixM l m.1 + j]).1 < m.1 := fun d => by have := h1.2 d; omega
    have h3 := hasM_no.1 h _ (List.mem_of_mem_drop ha)
    rw [e] at h2
    omega
  refine List.pairwise_append.2 ⟨p1, List.pairwise_cons.2 ⟨t2, p2⟩, fun a ha b hb => ?_⟩
  rcases List.mem_cons.1 hb with rfl | hb
  · exact t1 a ha
  · exact p3 a ha b hb
theorem delM_up {l : List Mem} (hu : UpM l) (i : Nat) : UpM (l.take i ++ l.drop (i + 1)) := by
  refine hu.sublist ?_
  conv => rhs; rw [← List.take_append_drop i l]
  exact List.Sublist.append (List.Sublist.refl _) (by rw [← List.drop_drop]; exact List.drop_sublist _ _)
theorem setM_up {l : List Mem} (hu : UpM l) {i : Nat} (h : i < l.length) {m : Mem} (hm : m.1 = l[i].1) : UpM (l.set i m) := by
  unfold UpM at *
  rw [List.pairwise_iff_getElem] at hu ⊢
  intro a b ha hb hab
  rw [List.length_set] at ha hb
  have k : ∀ j (hj : j < l.length), ((l.set i m)[j]'(by rw [List.length_set]; exact hj)).1 = l[j].1 := fun j hj => by
    rw [List.getElem_set]
    split
    · next e => subst e; exact hm
    · rfl
  rw [k a ha, k b hb]
  exact hu a b ha hb hab
/-- two rows of the same, both rising, are one -/
theorem upM_ext : ∀ {a b : List Mem}, UpM a → UpM b → a.Perm b → a = b
  | [], b, _, _, h => (List.nil_perm.1 h).symm
  | x :: a, [], _, _, h => by have := h.length_eq; simp at this
  | x :: a, y :: b, ha, hb, h => by
    unfold UpM at ha hb
    rw [List.pairwise_cons] at ha hb
    have e : x = y := by
      have h1 := h.mem_iff.1 (List.mem_cons_self (a := x) (l := a))
      have h2 := h.mem_iff.2 (List.mem_cons_self (a := y) (l := b))
      rcases List.mem_cons.1 h1 with h1 | h1
      · exact h1
      · rcases List.mem_cons.1 h2 with h2 | h2
        · exact h2.symm
        · have := ha.1 y h2; have := hb.1 x h1; omega
    subst e
    rw [upM_ext ha.2 hb.2 (List.Perm.cons_inv h)]
/-- where the document's member stands; -1: nowhere -/
def atM : List Mem → Int → Int
  | [], _ => -1
  | a :: l, id => if a.1 = id then 0 else if atM l id < 0 then -1 else atM l id + 1
theorem atM_lt : ∀ (l : List Mem) (id : Int), -1 ≤ atM l id ∧ atM l id < l.length
  | [], _ => by simp [atM]
  | a :: l, id => by
    have := atM_lt l id
    unfold atM
    split
    · simp
    · split <;> simp <;> omega
theorem atM_no : ∀ {l : List Mem} {id : Int}, atM l id < 0 ↔ hasM l id = false
  | [], id => by simp [atM, hasM]
  | a :: l, id => by
    have ih := atM_no (l := l) (id := id)
    unfold atM
    by_cases e : a.1 = id
    · rw [if_pos e]; simp [hasM, e]
    · rw [if_neg e]
      have : hasM (a :: l) id = hasM l id := by simp [hasM, e]
      rw [this, ← ih]
      split
      · next c => simp [c]
      · next c => constructor <;> intro h <;> omega
theorem atM_yes : ∀ {l : List Mem} {id : Int} {k : Nat}, atM l id = k → ∃ h : k < l.length, l[k].1 = id ∧ ∀ j (hj : j < k), (l[j]'(by omega)).1 ≠ id
  | [], id, k, h => by unfold atM at h; omega
  | a :: l, id, k, h => by
    unfold atM at h
    by_cases e : a.1 = id
    · rw [if_pos e] at h
      obtain rfl : k = 0 := by omega
      exact ⟨by simp, e, fun j hj => by omega⟩
    · rw [if_neg e] at h
      by_cases c : atM l id < 0
      · rw [if_pos c] at h; omega
      · rw [if_neg c] at h
        obtain ⟨k', rfl⟩ : ∃ k', k = k' + 1 := ⟨k - 1, by omega⟩
        obtain ⟨h1, h2, h3⟩ := atM_yes (l := l) (id := id) (k := k') (by omega)
        refine ⟨by simpa using h1, by simpa using h2, fun j hj => ?_⟩
        cases j with
        | zero => simpa using e
        | succ j => simpa using h3 j (by omega)
/-- of members no two of which have one number: what is found of a number is one and the same -/
def Apart (l : List Mem) : Prop := (l.map (·.1)).Nodup
theorem UpM.apart {l : List Mem} (h : UpM l) : Apart l := by
  unfold Apart UpM at *
  rw [List.nodup_iff_pairwise_ne, List.pairwise_map]
  exact h.imp fun h => by omega
theorem Apart.perm {a b : List Mem} (h : Apart a) (p : a.Perm b) : Apart b := (p.map fun x : Mem => x.1).nodup_iff.1 h
theorem Apart.same {l : List Mem} (h : Apart l) {a b : Mem} (ha : a ∈ l) (hb : b ∈ l) (e : a.1 = b.1) : a = b := by
  obtain ⟨i, hi, rfl⟩ := List.getElem_of_mem ha
  obtain ⟨j, hj, rfl⟩ := List.getElem_of_mem hb
  unfold Apart at h
  rw [List.nodup_iff_pairwise_ne, List.pairwise_map, List.pairwise_iff_getElem] at h
  rcases Nat.lt_trichotomy i j with c | c | c
  · exact absurd e (h i j hi hj c)
  · subst c; rfl
  · exact absurd e.symm (h j i hj hi c)
theorem hasM_perm {a b : List Mem} (p : a.Perm b) (id : Int) : hasM a id = hasM b id := by
  rw [Bool.eq_iff_iff, hasM_mem, hasM_mem]
  exact ⟨fun ⟨x, hx, e⟩ => ⟨x, p.mem_iff.1 hx, e⟩, fun ⟨x, hx, e⟩ => ⟨x, p.mem_iff.2 hx, e⟩⟩
/-- both find the same -/
theorem find_same {l L : List Mem} (hu : UpM l) (p : l.Perm L) {id : Int} {k : Nat} (hk : atM L id = k) : ∃ (h1 : ixM l id < l.length) (h2 : k < L.length), l[ixM l id] = L[k] := by
  obtain ⟨h2, e2, _⟩ := atM_yes hk
  have hh : hasM l id = true := by rw [hasM_perm p, hasM_mem]; exact ⟨_, List.getElem_mem h2, e2⟩
  obtain ⟨h1, e1⟩ := ixM_at hu hh
  exact ⟨h1, h2, hu.apart.same (List.getElem_mem h1) (p.mem_iff.2 (List.getElem_mem h2)) (e1.trans e2.symm)⟩
/-- one more, on both sides -/
theorem ins_rel {l L : List Mem} (p : l.Perm L) (m : Mem) : (insM l m).Perm (L ++ [m]) :=
  (insM_perm l m).trans ((p.cons m).trans (List.perm_append_singleton m L).symm)
theorem del_rel {l L : List Mem} (hu : UpM l) (p : l.Perm L) {id : Int} {k : Nat} (hk : atM L id = k) : (delMb l id).Perm (L.take k ++ L.drop (k + 1)) := by
  obtain ⟨h1, h2, e⟩ := find_same hu p hk
  have q := (delM_perm h1).symm.trans (p.trans (delM_perm h2))
  rw [e] at q
  exact List.Perm.cons_inv q
theorem set_rel {l L : List Mem} (hu : UpM l) (p : l.Perm L) {id : Int} {k : Nat} (hk : atM L id = k) (m : Mem) : (l.set (ixM l id) m).Perm (L.set k m) := by
  obtain ⟨h1, h2, e⟩ := find_same hu p hk
  exact (setM_perm h1 m).trans (((del_rel hu p hk).cons m).trans (setM_perm h2 m).symm)
/-- the document tells them rising: number by number -/
theorem told_rel {l L : List Mem} (hu : UpM l) (p : l.Perm L) (j : Nat) (hj : j < l.length) : ∃ k : Nat, atM L l[j].1 = k ∧ ∃ h : k < L.length, L[k] = l[j] := by
  have hm : hasM L l[j].1 = true := by rw [← hasM_perm p, hasM_mem]; exact ⟨_, List.getElem_mem hj, rfl⟩
  have h0 : ¬ atM L l[j].1 < 0 := fun c => by rw [atM_no, hm] at c; cases c
  obtain ⟨k, hk⟩ : ∃ k : Nat, atM L l[j].1 = k := ⟨(atM L l[j].1).toNat, by omega⟩
  obtain ⟨h2, e2, _⟩ := atM_yes hk
  exact ⟨k, hk, h2, hu.apart.same (p.mem_iff.2 (List.getElem_mem h2)) (List.getElem_mem hj) e2⟩
theorem ids_up {l : List Mem} (hu : UpM l) : (l.map (·.1)).Pairwise (· < ·) := by rw [List.pairwise_map]; exact hu
end Go.Proofs.YtlkeomcillencaaGreat
end
section
/- What a call leaves as it lay: all blocks but those of X, and new ones. A block of cells, known whole. -/
namespace Go.Proofs.YtlkeomcillencaaGreat
open Go Go.RowKit

structure Fr (X : Nat → Prop) (w w' : World) : Prop where
  os : w'.os = w.os
  tape : w'.tape = w.tape
  output : w'.output = w.output
  size : w.heap.size ≤ w'.heap.size
  block : ∀ k, k < w.heap.size → ¬ X k → w'.heap[k]? = w.heap[k]?
section
variable {X Y : Nat → Prop} {a b c w w' : World}
theorem Fr.refl (X : Nat → Prop) (w : World) : Fr X w w := ⟨rfl, rfl, rfl, Nat.le_refl _, fun _ _ _ => rfl⟩
theorem Fr.trans (h : Fr X a b) (k : Fr X b c) : Fr X a c :=
  ⟨k.os.trans h.os, k.tape.trans h.tape, k.output.trans h.output, Nat.le_trans h.size k.size, fun i hi hx => (k.block i (Nat.lt_of_lt_of_le hi h.size) hx).trans (h.block i hi hx)⟩
theorem Fr.mono (h : Fr X w w') (hx : ∀ k, k < w.heap.size → X k → Y k) : Fr Y w w' := ⟨h.os, h.tape, h.output, h.size, fun k hk hy => h.block k hk fun e => hy (hx k hk e)⟩
theorem Fr.drew (h : Fr X a w) : Fr X a w.drew := ⟨h.os, h.tape, h.output, h.size, h.block⟩
theorem Fr.drewN (h : Fr X a w) : ∀ n, Fr X a (w.drewN n)
  | 0 => h
  | n + 1 => ⟨h.os, h.tape, h.output, h.size, h.block⟩
theorem Fr.alloc (h : Fr X a w) (o : Obj) : Fr X a (w.alloc o) :=
  ⟨h.os, h.tape, h.output, by rw [World.size_alloc]; have := h.size; omega, fun k hk hx => (Below.heap_alloc w o k (Nat.lt_of_lt_of_le hk h.size)).trans (h.block k hk hx)⟩
theorem Fr.setCell (h : Fr X a w) (p : Addr) (hp : X p.block) (u : Value) : Fr X a (w.setCell p u) := by
  refine ⟨?_, ?_, ?_, ?_, fun k hk hx => (Below.heap_setCell w p u k fun e => hx (e ▸ hp)).trans (h.block k hk hx)⟩
  all_goals have B := (Below.refl 0 w).setCell (p := p) (Nat.zero_le _) u
  · exact B.os.trans h.os
  · exact B.tape.trans h.tape
  · exact B.output.trans h.output
  · exact Nat.le_trans h.size B.size
theorem Fr.setNew (h : Fr X a w) (p : Addr) (hp : a.heap.size ≤ p.block) (u : Value) : Fr X a (w.setCell p u) := by
  refine ⟨?_, ?_, ?_, ?_, fun k hk hx => (Below.heap_setCell w p u k fun e => by omega).trans (h.block k hk hx)⟩
  all_goals have B := (Below.refl 0 w).setCell (p := p) (Nat.zero_le _) u
  · exact B.os.trans h.os
  · exact B.tape.trans h.tape
  · exact B.output.trans h.output
  · exact Nat.le_trans h.size B.size
theorem Fr.of_below (h : Below w.heap.size w w') : Fr X w w' := ⟨h.os, h.tape, h.output, h.size, fun k hk _ => h.block k hk⟩
theorem Fr.below (h : Fr X w w') {B : Nat} (hB : B ≤ w.heap.size) (hx : ∀ k, k < w.heap.size → X k → B ≤ k) : Below B w w' :=
  ⟨h.os, h.tape, h.output, h.size, fun k hk => h.block k (Nat.lt_of_lt_of_le hk hB) fun e => by have := hx k (Nat.lt_of_lt_of_le hk hB) e; omega⟩
theorem Fr.grown {row : Option Nat} (h : Fr X a w) (hg : w.grownBy w' row) (hr : ∀ k, row = some k → a.heap.size ≤ k ∨ X k) : Fr X a w' :=
  ⟨hg.os.trans h.os, hg.tape.trans h.tape, hg.output.trans h.output, Nat.le_trans h.size hg.size, fun k hk hx => (hg.block k (Nat.lt_of_lt_of_le hk h.size) fun e => by rcases hr k e.symm with h | h; omega; exact hx h).trans (h.block k hk hx)⟩
theorem Fr.cell (h : Fr X w w') {p : Addr} (hp : p.block < w.heap.size) (hx : ¬ X p.block) : w'.cell? p = w.cell? p := World.cell?_of_block (w := w) (h.block p.block hp hx)
theorem Fr.frozen (h : Fr X w w') {p : Addr} (hp : p.block < w.heap.size) (hx : ¬ X p.block) : w'.frozen? p = w.frozen? p := World.frozen?_of_block (w := w) (h.block p.block hp hx)
theorem Fr.blk (h : Fr X w w') {k : Nat} {o : Obj} (hk : w.heap[k]? = some o) (hx : ¬ X k) : w'.heap[k]? = some o := (h.block k (Array.getElem?_eq_some_iff.1 hk).1 hx).trans hk
/-- no block of cells was made anything else: what a round of a loop over a function owes -/
theorem Fr.keeps (h : Fr X w w') (hx : ∀ k, k < w.heap.size → X k → ∃ o, w.heap[k]? = some o ∧ o.isCells = true) (B : Nat) : KeepsFrom B w w' :=
  ⟨h.size, fun k o _ ho hc => h.blk ho fun e => by
    obtain ⟨o2, h2, h3⟩ := hx k (Array.getElem?_eq_some_iff.1 ho).1 e
    rw [ho] at h2; cases h2; rw [hc] at h3; cases h3⟩
end
section
variable {W : World} {B : Nat} {cs : Array Value} {T : TypeId}
theorem blk_lt {o : Obj} (h : W.heap[B]? = some o) : B < W.heap.size := (Array.getElem?_eq_some_iff.1 h).1
theorem blk_cell (h : W.heap[B]? = some (.cells cs T (0, 0))) (j : Nat) : W.cell? ⟨B, j, none⟩ = cs[j]? := cell_of_row W B j cs T _ h
theorem blk_free (h : W.heap[B]? = some (.cells cs T (0, 0))) (j : Nat) : W.frozen? ⟨B, j, none⟩ = false := frozen_of_row W B j cs T h
theorem blk_set (h : W.heap[B]? = some (.cells cs T (0, 0))) (j : Nat) (v : Value) : (W.setCell ⟨B, j, none⟩ v).heap[B]? = some (.cells (cs.setIfInBounds j v) T (0, 0)) := heap_setCell_same W B j cs T v h
theorem blk_other {o : Obj} (h : W.heap[B]? = some o) (p : Addr) (hp : B ≠ p.block) (v : Value) : (W.setCell p v).heap[B]? = some o := (heap_setCell_other W p B v hp).trans h
theorem blk_alloc {o : Obj} (h : W.heap[B]? = some o) (o' : Obj) : (W.alloc o').heap[B]? = some o := (Below.heap_alloc W o' B (blk_lt h)).trans h
theorem blk_drew {o : Obj} (h : W.heap[B]? = some o) : W.drew.heap[B]? = some o := h
end
/-- a row lies as it lay, if its block does -/
theorem row_same {w w' : World} {base : Nat} {e : TypeId} {size : Nat} {v : Value} {n : Nat} {xs : List Value} (h : w.ownsRow base e size v n xs) (hs : ∀ g, v.ownBlock = some g → w'.heap[g]? = w.heap[g]?) : w'.ownsRow base e size v n xs := by
  obtain ⟨h1, h2⟩ := h
  refine ⟨h1, ?_⟩
  rcases h2 with h2 | ⟨g, cap, cur, rfl, h3, h4, h5⟩
  · exact .inl h2
  · exact .inr ⟨g, cap, cur, rfl, h3, (hs g rfl).trans h4, h5⟩
theorem row_slice {w : World} {base : Nat} {e : TypeId} {size : Nat} {v : Value} {n : Nat} {xs : List Value} (h : w.ownsRow base e size v n xs) : ∃ A c, v = .slice A n c := by
  rcases h.2 with ⟨rfl, rfl⟩ | ⟨g, cap, cur, rfl, _⟩
  · exact ⟨_, _, rfl⟩
  · exact ⟨_, _, rfl⟩
/-- what is no cells turned: blocks of cells lie as they lay -/
theorem put_blk {W : World} {D k : Nat} {o o' : Obj} {cs : Array Value} {T : TypeId} (hD : W.heap[D]? = some o) (ho : o.isCells = false) (hk : W.heap[k]? = some (.cells cs T (0, 0))) : (W.putObj D o').heap[k]? = some (.cells cs T (0, 0)) :=
  (World.putObj_heap_other fun e => by subst e; rw [hk] at hD; cases hD; cases ho).trans hk
theorem put_row {W : World} {D : Nat} {o o' : Obj} (hD : W.heap[D]? = some o) (ho : o.isCells = false) {base : Nat} {e : TypeId} {size : Nat} {v : Value} {n : Nat} {xs : List Value} (h : W.ownsRow base e size v n xs) : (W.putObj D o').ownsRow base e size v n xs := by
  obtain ⟨h1, h2⟩ := h
  refine ⟨h1, ?_⟩
  rcases h2 with h2 | ⟨g, cap, cur, rfl, h3, h4, h5⟩
  · exact .inl h2
  · exact .inr ⟨g, cap, cur, rfl, h3, put_blk hD ho h4, h5⟩
theorem put_below {W : World} {D B : Nat} {o' : Obj} (hD : B ≤ D) (hB : B ≤ W.heap.size) : Below B W (W.putObj D o') := (Below.refl B W).grown (grownBy_putObj' W D o') hB (fun k e => by cases e; exact hD)
/-- a result that lies in a cell -/
theorem results_box {P : Program} {fn : Func} {p : Tmp} {ty : TypeId} (h : fn.results = #[.cell p ty]) (tmps : Array Value) (w : World) (g : Nat) (v : Value) (d : TypeDesc) (hp : tmps.getD p undef = .pointer (some ⟨g, 0, none⟩)) (hc : w.cell? ⟨g, 0, none⟩ = some v)
    (hu : P.underlying ty = some d) (hd : (match d with | .struct _ | .array _ _ => true | _ => false) = false) : (results fn tmps).run P w = .ok v w := by
  have hp' : tmps[p]?.getD undef = .pointer (some ⟨g, 0, none⟩) := by simpa using hp
  have hagg : (isAgg ty).run P w = .ok false w := by
    unfold isAgg
    rw [Sem.run_bind, run_underlying hu w]
    cases d <;> simp_all
  simp [results, h, hp', asAddr, loadVar, Sem.run_bind, hagg, go_sem, hc]
/-- block B holds these cells, whatever is laid besides -/
theorem blk_own {β : Type} (B : Nat) (T : TypeId) (f : β → Array Value) : Own (fun s W => W.heap[B]? = some (.cells (f s) T (0, 0))) := fun s X Y row hs hg hrow =>
  (hg.block B (blk_lt hs) (fun e => by obtain ⟨o, ho, hc⟩ := hrow B e.symm; rw [hs] at ho; cases ho; cases hc)).trans hs
end Go.Proofs.YtlkeomcillencaaGreat
end
section
/- Layer 19: rows of members; where a number stands among them. -/
namespace Go.Proofs.YtlkeomcillencaaGreat
open Go Go.RowKit

def cmpR (a b : Int) : Int := if a < b then -1 else if b < a then 1 else 0
theorem nan_intR (a : Int) (w : World) : Calls Tryz.prog 119 #[.int .i64 a] w fun e w' => e = .returned (.bool false) ∧ w' = w := by
  go_enter Tryz.func119, Tryz.ntmps119
  go_wp2_with fail
  go_ret
  exact ⟨ret_bool (by simp), rfl⟩
theorem cmp_intR (a b : Int) (w : World) : Calls Tryz.prog 95 #[.int .i64 a, .int .i64 b] w fun e w' => e = .returned (.int .i64 (cmpR a b)) ∧ w' = w := by
  unfold cmpR
  rcases Int.lt_trichotomy a b with h | h | h
  · rw [if_pos h]
    go_enter Tryz.func95, Tryz.ntmps95
    go_wp2_with (go_at_call 119; refine (nan_intR _ _).mono ?_; rintro e w' ⟨rfl, rfl⟩)
    go_ret
    exact ⟨rfl, rfl⟩
  · subst h
    rw [if_neg (by omega), if_neg (by omega)]
    go_enter Tryz.func95, Tryz.ntmps95
    go_wp2_with (go_at_call 119; refine (nan_intR _ _).mono ?_; rintro e w' ⟨rfl, rfl⟩)
    go_ret
    exact ⟨rfl, rfl⟩
  · rw [if_neg (by omega), if_pos h]
    have h2 : ¬ a < b := by omega
    go_enter Tryz.func95, Tryz.ntmps95
    go_wp2_with (go_at_call 119; refine (nan_intR _ _).mono ?_; rintro e w' ⟨rfl, rfl⟩)
    go_ret
    exact ⟨rfl, rfl⟩
theorem flatMap_at {α : Type} [Inhabited α] (enc : α → List Value) (k : Nat) (hk : ∀ x, (enc x).length = k) (hk0 : 0 < k) : ∀ (xs : List α) (t : Nat), t < xs.length * k → (xs.flatMap enc)[t]? = (enc (xs.getD (t / k) default))[t % k]?
  | [], t, h => by simp at h
  | x :: r, t, h => by
    rw [List.flatMap_cons]
    by_cases ht : t < k
    · rw [List.getElem?_append_left (by rw [hk]; exact ht), Nat.div_eq_of_lt ht, Nat.mod_eq_of_lt ht]; rfl
    · rw [List.getElem?_append_right (by rw [hk]; omega), hk, flatMap_at enc k hk hk0 r (t - k) (by rw [List.length_cons, Nat.add_mul, Nat.one_mul] at h; omega)]
      obtain ⟨u, rfl⟩ : ∃ u, t = u + k := ⟨t - k, by omega⟩
      rw [Nat.add_sub_cancel, Nat.add_div_right _ hk0, Nat.add_mod_right]; rfl
def encM (m : Mem) : List Value := [.int .i64 m.1, .bool m.2.1, .bool m.2.2]
abbrev memV (m : Mem) : Value := .agg #[.int .i64 m.1, .bool m.2.1, .bool m.2.2]
instance : Inhabited Mem := ⟨(0, false, false)⟩
theorem Tryz.infoMb : (Tryz.prog.info? 71).map (fun i => (i.zero, i.size, i.bytes)) = some (some (memV (0, false, false)), 3, 16) := by kernel_rfl
/-- a row of members of the call's own -/
def OwnM (base : Nat) (W : World) (v : Value) (xs : List Mem) : Prop := W.ownsRow base 71 3 v xs.length (xs.flatMap encM)
theorem ownM_nil (base : Nat) (w : World) : OwnM base w (.slice none 0 0) [] := World.ownsRow_nil _ _ _ _
theorem ownM_kept {base : Nat} {w W : World} {v : Value} {xs : List Mem} (h : OwnM base w v xs) (hs : ∀ g, v.ownBlock = some g → W.heap[g]? = w.heap[g]?) : OwnM base W v xs := row_same h hs
theorem ownM_snoc {base : Nat} {w : World} {v : Value} {xs : List Mem} {x : Mem} (h : w.ownsRow base 71 3 v (xs.length + 1) (xs.flatMap encM ++ encM x)) : OwnM base w v (xs ++ [x]) := by
  unfold OwnM; rw [List.length_append, List.flatMap_append]; simpa using h
theorem ownM_base {W : World} {base base' : Nat} {v : Value} {xs : List Mem} (h : OwnM base W v xs) (hb : base' ≤ base) : OwnM base' W v xs := by
  obtain ⟨h1, h2⟩ := h
  refine ⟨h1, ?_⟩
  rcases h2 with h2 | ⟨g, cap, cur, h3, h4, h5⟩
  · exact .inl h2
  · exact .inr ⟨g, cap, cur, h3, by omega, h5⟩
/-- what a slice of members reads -/
def ReadsM (w : World) (A : Option Addr) (xs : List Mem) : Prop := 0 < xs.length → ∃ g o, A = some ⟨g, o, none⟩ ∧ g < w.heap.size ∧ ∀ j (h : j < xs.length), w.cell? ⟨g, o + j * 3, none⟩ = some (.int .i64 xs[j].1) ∧ w.cell? ⟨g, o + j * 3 + 1, none⟩ = some (.bool xs[j].2.1) ∧ w.cell? ⟨g, o + j * 3 + 2, none⟩ = some (.bool xs[j].2.2)
theorem reads_ownM {base : Nat} {w : World} {A : Option Addr} {n c : Nat} {xs : List Mem} (h : OwnM base w (.slice A n c) xs) : ReadsM w A xs := fun h0 => by
  have h' := h
  rcases h.2 with ⟨h1, h2⟩ | ⟨g, cap, cur, h1, h3, h4, h5, _, h6, h7⟩
  · omega
  · injection h1 with q1 q2 q3
    subst q1
    have hadd : ∀ j, (⟨g, 0, none⟩ : Addr).add j = ⟨g, 0 + j, none⟩ := fun j => by
      unfold Addr.add
      split
      · simp_all
      · rfl
    have key : ∀ t u, (xs.flatMap encM)[t]? = some u → w.cell? ⟨g, 0 + t, none⟩ = some u := fun t u ht => by
      have := h'.cells (g := g) rfl t u ht
      rwa [hadd] at this
    have one : ∀ j (hj : j < xs.length) i (hi : i < 3) u, (encM xs[j])[i]? = some u → w.cell? ⟨g, 0 + j * 3 + i, none⟩ = some u := fun j hj i hi u hu => by
      rw [Nat.add_assoc]
      refine key _ _ ?_
      rw [flatMap_at encM 3 (fun _ => rfl) (by decide) xs (j * 3 + i) (by omega), show (j * 3 + i) / 3 = j by omega, show (j * 3 + i) % 3 = i by omega]
      simpa [List.getD, hj] using hu
    exact ⟨g, 0, rfl, blk_lt h4, fun j hj => ⟨one j hj 0 (by decide) _ rfl, one j hj 1 (by decide) _ rfl, one j hj 2 (by decide) _ rfl⟩⟩
theorem ReadsM.below {w W : World} {A : Option Addr} {xs : List Mem} (h : ReadsM w A xs) {n : Nat} (hb : RowKit.Below n w W) (hn : w.heap.size ≤ n := by exact Nat.le_refl _) : ReadsM W A xs := fun h0 => by
  obtain ⟨g, o, h1, h2, h3⟩ := h h0
  have k : ∀ i, W.cell? ⟨g, i, none⟩ = w.cell? ⟨g, i, none⟩ := fun i => World.cell?_of_block (w := w) (w' := W) (a := ⟨g, i, none⟩) (hb.block g (Nat.lt_of_lt_of_le h2 hn))
  exact ⟨g, o, h1, Nat.lt_of_lt_of_le h2 hb.size, fun j hj => by rw [k, k, k]; exact h3 j hj⟩
set_option maxHeartbeats 1000000 in
theorem place_cmp (m : Mem) (id : Int) (w : World) :
    Calls Tryz.prog 94 #[memV m, .int .i64 id] w fun e w' => e = .returned (.int .i64 (cmpR m.1 id)) ∧ RowKit.Below w.heap.size w w' := by
  have HC := Lib.hid (fun W => cmp_intR m.1 id W)
  obtain ⟨c, hc⟩ : ∃ c, cmpR m.1 id = c := ⟨_, rfl⟩
  rw [hc] at HC ⊢
  clear hc
  go_enter Tryz.func94, Tryz.ntmps94
  go_wp2_with (go_at_call 95; refine (HC.out _).mono ?_; rintro e w' ⟨rfl, rfl⟩)
  go_ret
  exact ⟨rfl, by first | exact Below.refl _ _ | exact (Below.refl _ _).alloc (Nat.le_refl _) _⟩
theorem cmpM_neg {a b : Int} : cmpR a b < 0 ↔ a < b := by unfold cmpR; split <;> (try split) <;> omega
theorem cmpM_eq {a b : Int} : cmpR a b = 0 ↔ a = b := by unfold cmpR; split <;> (try split) <;> omega
set_option maxHeartbeats 4000000 in
set_option maxRecDepth 1000000 in
theorem search_any (A : Option Addr) (c : Nat) (xs : List Mem) (hu : UpM xs) (id : Int) (w : World) (hR : ReadsM w A xs) (hl : xs.length ≤ 1000000) :
    Calls Tryz.prog 93 #[.slice A xs.length c, .int .i64 id, .func (.func 94) #[] #[]] w fun e w' => e = .returned (.tuple #[.int .i64 (ixM xs id), .bool (hasM xs id)]) ∧ RowKit.Below w.heap.size w w' := by
  have HR := Lib.hid hR
  have HU := Lib.hid hu
  have H0 : Hid (RowKit.Below w.heap.size w w) := Below.refl _ _
  obtain ⟨p, hp⟩ : ∃ p, ixM xs id = p := ⟨_, rfl⟩
  obtain ⟨b, hb⟩ : ∃ b, hasM xs id = b := ⟨_, rfl⟩
  rw [hp, hb]
  have HP := Lib.hid (And.intro hp hb)
  clear hR hu hp hb
  go_enter Tryz.func93, Tryz.ntmps93
  go_wp2_with fail
  go_loopg [9, 10] xs.length (fun kx s9 s10 wr => ∃ lo hi : Nat, s9 = .int .i64 lo ∧ s10 = .int .i64 hi ∧ lo ≤ hi ∧ hi ≤ xs.length ∧ hi - lo ≤ kx ∧ Hid (RowKit.Below w.heap.size w wr) ∧ Hid ((∀ t (h : t < xs.length), t < lo → xs[t].1 < id) ∧ (∀ t (h : t < xs.length), hi ≤ t → id ≤ xs[t].1)))
  case atStart => exact ⟨0, xs.length, rfl, rfl, Nat.zero_le _, Nat.le_refl _, by omega, H0, fun t _ ht => absurd ht (Nat.not_lt_zero _), fun t h1 h2 => by omega⟩
  case round =>
    clear H0
    obtain ⟨lo, hi, rfl, rfl, hlh, hin, hg, S1, I⟩ := hrel
    by_cases hlt : lo < hi
    · obtain ⟨g, o, rfl, hgl, hc⟩ := HR.out (by omega)
      have hm : (lo + hi) / 2 < xs.length := by omega
      obtain ⟨q0, q1, q2⟩ := hc _ hm
      have k : ∀ i, wr.cell? ⟨g, i, none⟩ = w.cell? ⟨g, i, none⟩ := fun i => World.cell?_of_block (w := w) (w' := wr) (a := ⟨g, i, none⟩) (S1.out.block g hgl)
      rw [← k] at q0 q1 q2
      obtain ⟨y, hy⟩ : ∃ y, xs[(lo + hi) / 2] = y := ⟨_, rfl⟩
      rw [hy] at q0 q1 q2
      have Y := Lib.hid hy
      have hcall := fun W => place_cmp y id W
      obtain ⟨c2, hc2⟩ : ∃ c2, cmpR y.1 id = c2 := ⟨_, rfl⟩
      rw [hc2] at hcall
      have HCALL := Lib.hid hcall
      by_cases hyx : y.1 < id
      · have hneg : c2 < 0 := by rw [← hc2]; exact cmpM_neg.2 hyx
        have HYX := Lib.hid hyx
        clear hc k hy hcall hc2 hyx hgl
        go_wp2_with fail
        refine (HCALL.out _).mono ?_
        rintro e w1 ⟨rfl, hb⟩
        have S2 : Hid (RowKit.Below w.heap.size w w1) := S1.out.trans (hb.mono S1.out.size)
        clear hb q0 q1 q2
        go_wp2_with fail
        go_roundg (hi - ((lo + hi) / 2 + 1))
        case measure => omega
        case rel =>
          have I2 : Hid ((∀ t (h : t < xs.length), t < (lo + hi) / 2 + 1 → xs[t].1 < id) ∧ (∀ t (h : t < xs.length), hi ≤ t → id ≤ xs[t].1)) := ⟨fun t h ht => by
            rcases Nat.lt_or_ge t ((lo + hi) / 2) with e | e
            · have h1 := List.pairwise_iff_getElem.1 HU.out t ((lo + hi) / 2) h hm e
              have h2 := HYX.out
              rw [← Y.out] at h2
              omega
            · have e1 : t = (lo + hi) / 2 := by omega
              have h2 := HYX.out
              rw [← Y.out] at h2
              simp only [e1]; exact h2, I.out.2⟩
          exact ⟨(lo + hi) / 2 + 1, hi, by rw [show ((lo : Int) + (hi : Int)) / 2 + 1 = (((lo + hi) / 2 + 1 : Nat) : Int) by omega], rfl, by omega, hin, Nat.le_refl _, S2, I2⟩
      · have hneg : ¬ c2 < 0 := by rw [← hc2]; exact fun h => hyx (cmpM_neg.1 h)
        have HYX := Lib.hid hyx
        clear hc k hy hcall hc2 hyx hgl
        go_wp2_with fail
        refine (HCALL.out _).mono ?_
        rintro e w1 ⟨rfl, hb⟩
        have S2 : Hid (RowKit.Below w.heap.size w w1) := S1.out.trans (hb.mono S1.out.size)
        clear hb q0 q1 q2
        go_wp2_with fail
        go_roundg ((lo + hi) / 2 - lo)
        case measure => omega
        case rel =>
          have I2 : Hid ((∀ t (h : t < xs.length), t < lo → xs[t].1 < id) ∧ (∀ t (h : t < xs.length), (lo + hi) / 2 ≤ t → id ≤ xs[t].1)) := ⟨I.out.1, fun t h ht => by
            have h2 := HYX.out
            rw [← Y.out] at h2
            rcases Nat.lt_or_ge ((lo + hi) / 2) t with e | e
            · have h1 := List.pairwise_iff_getElem.1 HU.out ((lo + hi) / 2) t hm h e
              omega
            · have e1 : t = (lo + hi) / 2 := by omega
              simp only [e1]; omega⟩
          exact ⟨lo, (lo + hi) / 2, rfl, by rw [show ((lo : Int) + (hi : Int)) / 2 = (((lo + hi) / 2 : Nat) : Int) by omega], by omega, by omega, Nat.le_refl _, S2, I2⟩
    · obtain rfl : hi = lo := by omega
      have hix : ixM xs id = hi := by
        have h1 := ixM_le xs id
        rcases Nat.lt_trichotomy (ixM xs id) hi with e | e | e
        · have := (ixM_cut HU.out id (ixM xs id) (by omega)).2 (I.out.1 _ (by omega) e)
          omega
        · exact e
        · have h3 := (ixM_cut HU.out id hi (by omega)).1 e
          have h4 := I.out.2 hi (by omega) (Nat.le_refl _)
          omega
      have hph : p = hi := by rw [← HP.out.1]; exact hix
      subst hph
      by_cases hn : p < xs.length
      · obtain ⟨g, o, rfl, hgl, hc⟩ := HR.out (by omega)
        obtain ⟨q0, q1, q2⟩ := hc _ hn
        have k : ∀ i, wr.cell? ⟨g, i, none⟩ = w.cell? ⟨g, i, none⟩ := fun i => World.cell?_of_block (w := w) (w' := wr) (a := ⟨g, i, none⟩) (S1.out.block g hgl)
        rw [← k] at q0 q1 q2
        have hbb : b = decide (xs[p].1 = id) := by
          rw [← HP.out.2, Bool.eq_iff_iff, hasM_at HU.out, decide_eq_true_eq]
          constructor
          · rintro ⟨h2, e⟩; simp only [hix] at e; exact e
          · intro e; exact ⟨by omega, by simp only [hix]; exact e⟩
        obtain ⟨y, hy⟩ : ∃ y, xs[p] = y := ⟨_, rfl⟩
        rw [hy] at q0 q1 q2 hbb
        have hcall := fun W => place_cmp y id W
        obtain ⟨c2, hc2⟩ : ∃ c2, cmpR y.1 id = c2 := ⟨_, rfl⟩
        rw [hc2] at hcall
        have HCALL := Lib.hid hcall
        have hbc : b = (c2 == 0) := by rw [hbb, Bool.eq_iff_iff, decide_eq_true_eq, beq_iff_eq, ← hc2]; exact cmpM_eq.symm
        have HBC := Lib.hid hbc
        clear hc k hy hcall hc2 hgl hbb hbc hix
        go_wp2_with fail
        refine (HCALL.out _).mono ?_
        rintro e w1 ⟨rfl, hb⟩
        have S2 : Hid (RowKit.Below w.heap.size w w1) := S1.out.trans (hb.mono S1.out.size)
        clear hb q0 q1 q2
        go_wp2_with fail
        go_ret2
        exact ⟨by rw [HBC.out]; rfl, S2.out⟩
      · have hbb : b = false := by
          rw [← HP.out.2, ← Bool.not_eq_true, hasM_at HU.out]
          rintro ⟨h2, _⟩; omega
        subst hbb
        clear hix
        go_wp2_with fail
        go_ret2
        exact ⟨rfl, S1.out⟩
/-- where somebody stands, or would stand -/
theorem place_nil (id : Int) (w : World) : Calls Tryz.prog 67 #[.pointer none, .int .i64 id] w fun e w' => e = .returned (.tuple #[.int .i64 0, .bool false]) ∧ w' = w := by
  go_enter Tryz.func67, Tryz.ntmps67
  go_wp2_with fail
  go_ret2
  exact ⟨rfl, rfl⟩
end Go.Proofs.YtlkeomcillencaaGreat
end
section
/- Layer 19: mathematics: flags as a number, and by their letters. -/
namespace Go.Proofs.YtlkeomcillencaaGreat
open Go

/-- the flags i, m, n, s, t -/
structure Fl where
  i : Bool
  m : Bool
  n : Bool
  s : Bool
  t : Bool
def flN (f : Fl) : Int := (if f.i then 1 else 0) + (if f.m then 2 else 0) + (if f.n then 4 else 0) + (if f.s then 8 else 0) + (if f.t then 16 else 0)
def bitI (c : UInt8) : Int := if c = 105 then 1 else if c = 109 then 2 else if c = 110 then 4 else if c = 115 then 8 else if c = 116 then 16 else 0
def Fl.has (f : Fl) (c : UInt8) : Bool := if c = 105 then f.i else if c = 109 then f.m else if c = 110 then f.n else if c = 115 then f.s else if c = 116 then f.t else false
def Fl.flip (f : Fl) (c : UInt8) : Fl := if c = 105 then { f with i := !f.i } else if c = 109 then { f with m := !f.m } else if c = 110 then { f with n := !f.n } else if c = 115 then { f with s := !f.s } else if c = 116 then { f with t := !f.t } else f
def fl0 : Fl := ⟨false, false, true, false, true⟩
/-- a letter, told -/
theorem letter_cases (c : UInt8) : c = 105 ∨ c = 109 ∨ c = 110 ∨ c = 115 ∨ c = 116 ∨ (c ≠ 105 ∧ c ≠ 109 ∧ c ≠ 110 ∧ c ≠ 115 ∧ c ≠ 116) := by
  by_cases a : c = 105
  · exact .inl a
  · by_cases b : c = 109
    · exact .inr (.inl b)
    · by_cases d : c = 110
      · exact .inr (.inr (.inl d))
      · by_cases e : c = 115
        · exact .inr (.inr (.inr (.inl e)))
        · by_cases g : c = 116
          · exact .inr (.inr (.inr (.inr (.inl g))))
          · exact .inr (.inr (.inr (.inr (.inr ⟨a, b, d, e, g⟩))))
theorem bitI_other {c : UInt8} (h : c ≠ 105 ∧ c ≠ 109 ∧ c ≠ 110 ∧ c ≠ 115 ∧ c ≠ 116) : bitI c = 0 := by
  unfold bitI; rw [if_neg h.1, if_neg h.2.1, if_neg h.2.2.1, if_neg h.2.2.2.1, if_neg h.2.2.2.2]
theorem has_other {f : Fl} {c : UInt8} (h : c ≠ 105 ∧ c ≠ 109 ∧ c ≠ 110 ∧ c ≠ 115 ∧ c ≠ 116) : f.has c = false := by
  unfold Fl.has; rw [if_neg h.1, if_neg h.2.1, if_neg h.2.2.1, if_neg h.2.2.2.1, if_neg h.2.2.2.2]
theorem flip_other {f : Fl} {c : UInt8} (h : c ≠ 105 ∧ c ≠ 109 ∧ c ≠ 110 ∧ c ≠ 115 ∧ c ≠ 116) : f.flip c = f := by
  unfold Fl.flip; rw [if_neg h.1, if_neg h.2.1, if_neg h.2.2.1, if_neg h.2.2.2.1, if_neg h.2.2.2.2]
theorem fl_and (f : Fl) (c : UInt8) : (bits .and .i64 (flN f) (bitI c) == 0) = !f.has c := by
  rcases letter_cases c with rfl | rfl | rfl | rfl | rfl | h
  all_goals
    obtain ⟨a, b, d, e, g⟩ := f
    first
    | (rw [bitI_other h, has_other h]; cases a <;> cases b <;> cases d <;> cases e <;> cases g <;> decide +kernel)
    | (cases a <;> cases b <;> cases d <;> cases e <;> cases g <;> decide +kernel)
theorem fl_xor (f : Fl) (c : UInt8) : bits .xor .i64 (flN f) (bitI c) = flN (f.flip c) := by
  rcases letter_cases c with rfl | rfl | rfl | rfl | rfl | h
  all_goals
    obtain ⟨a, b, d, e, g⟩ := f
    first
    | (rw [bitI_other h, flip_other h]; cases a <;> cases b <;> cases d <;> cases e <;> cases g <;> decide +kernel)
    | (cases a <;> cases b <;> cases d <;> cases e <;> cases g <;> decide +kernel)
def IsFlag (c : UInt8) : Prop := c = 105 ∨ c = 109 ∨ c = 110 ∨ c = 115 ∨ c = 116
theorem has_flip {f : Fl} {c : UInt8} (hc : IsFlag c) (d : UInt8) : (f.flip c).has d = if d = c then !f.has c else f.has d := by
  rcases hc with rfl | rfl | rfl | rfl | rfl
  all_goals
    by_cases h1 : d = 105
    · subst h1; simp [Fl.flip, Fl.has]
    · by_cases h2 : d = 109
      · subst h2; simp [Fl.flip, Fl.has]
      · by_cases h3 : d = 110
        · subst h3; simp [Fl.flip, Fl.has]
        · by_cases h4 : d = 115
          · subst h4; simp [Fl.flip, Fl.has]
          · by_cases h5 : d = 116
            · subst h5; simp [Fl.flip, Fl.has]
            · simp [Fl.flip, Fl.has, h1, h2, h3, h4, h5]
theorem fl0_has (d : UInt8) : fl0.has d = (d == 110 || d == 116) := by
  unfold Fl.has fl0
  by_cases h1 : d = 105
  · subst h1; rfl
  · by_cases h2 : d = 109
    · subst h2; rfl
    · by_cases h3 : d = 110
      · subst h3; rfl
      · by_cases h4 : d = 115
        · subst h4; rfl
        · by_cases h5 : d = 116
          · subst h5; rfl
          · simp [h1, h2, h3, h4, h5]
/-- the letters that are on, in their order -/
def lettersL : List UInt8 := [105, 107, 108, 109, 110, 115, 116]
def onB (f : UInt8 → Bool) (k l : Bool) (c : UInt8) : Bool := f c || (decide (c = 107) && k) || (decide (c = 108) && l)
def rowU (f : UInt8 → Bool) (k l : Bool) (j : Nat) : List UInt8 := 43 :: (lettersL.take j).filter (onB f k l)
theorem rowU_step (f : UInt8 → Bool) (k l : Bool) (j : Nat) (h : j < 7) : rowU f k l (j + 1) = rowU f k l j ++ (if onB f k l (lettersL.getD j 0) then [lettersL.getD j 0] else []) := by
  unfold rowU
  have h7 : j < lettersL.length := h
  rw [List.take_succ_eq_append_getElem h7, List.filter_append, List.cons_append, List.getD_eq_getElem?_getD, List.getElem?_eq_getElem h7]
  simp only [Option.getD_some]
  congr 1
  by_cases e : onB f k l lettersL[j] = true
  · rw [List.filter_cons_of_pos (by simpa using e), if_pos e]; rfl
  · rw [List.filter_cons_of_neg (by simpa using e), if_neg e]; rfl
theorem rowU_len (f : UInt8 → Bool) (k l : Bool) (j : Nat) : (rowU f k l j).length ≤ 8 := by
  unfold rowU
  have h1 := List.length_filter_le (onB f k l) (lettersL.take j)
  have h2 : (lettersL.take j).length ≤ 7 := by rw [List.length_take]; exact Nat.min_le_right _ _
  simp; omega
/-- what is told of the modes -/
def modesL (f : UInt8 → Bool) (key : List UInt8) (lim : Nat) (num : List UInt8) (all : Bool) : List (List UInt8) :=
  rowU f (decide (key ≠ [])) (decide (lim ≠ 0)) 7 :: ((if key = [] then [] else [if all then key else [42]]) ++ (if lim ≠ 0 ∧ all = true then [num] else []))
end Go.Proofs.YtlkeomcillencaaGreat
end
section
/- A range over a function that keeps what it has come to in variables of its own: blocks X lie ahead of the loop; the function that ranges writes them between the rounds; the body leaves them alone. -/
namespace Go.Proofs.YtlkeomcillencaaGreat
open Go Go.RowKit

/-- J holds on where the heap grows, a block of X is written, or a walk beyond B goes on -/
def AbX {β : Type} (X : Nat → Prop) (B : Nat) (J : β → World → Prop) : Prop :=
  ∀ s V V' row, J s V → V.grownBy V' row → (∀ r, row = some r → X r ∨ (B ≤ r ∧ ∃ o : Obj, V.heap[r]? = some o ∧ o.isWalk = true)) → J s V'
/-- no block of X was written -/
def SameX (X : Nat → Prop) (V V' : World) : Prop := ∀ b, X b → V'.heap[b]? = V.heap[b]?
theorem SameX.trans {X : Nat → Prop} {A B C : World} (h : SameX X A B) (k : SameX X B C) : SameX X A C := fun b hb => (k b hb).trans (h b hb)
theorem SameX.cell {X : Nat → Prop} {V V' : World} (h : SameX X V V') {b o : Nat} (hb : X b) : V'.cell? ⟨b, o, none⟩ = V.cell? ⟨b, o, none⟩ := World.cell?_of_block (w := V) (a := ⟨b, o, none⟩) (h b hb)
theorem SameX.frozen {X : Nat → Prop} {V V' : World} (h : SameX X V V') {b o : Nat} (hb : X b) : V'.frozen? ⟨b, o, none⟩ = V.frozen? ⟨b, o, none⟩ := World.frozen?_of_block (w := V) (a := ⟨b, o, none⟩) (h b hb)

/-- what a function that ranges is worth: whatever J the rounds carry on -/
def SeqW {α : Type} (F : Fence) (n : Nat) (P : Program) (g : Nat) (lb : Array Value) (encs : α → Array Value) (X : Nat → Prop) (S Sp : List α → Prop) (N : Nat) (w : World) : Prop :=
  ∀ (l : Nat) (J Jx : List α → World → Prop) (V : World), Below w.heap.size w V → AbX X V.heap.size J → AbX X V.heap.size Jx →
    (∀ pre x V1, J pre V1 → pre.length < N → YieldAt F (n - 1) P l (encs x) V1 fun e V' => (e = .returned (.bool true) ∧ J (pre ++ [x]) V' ∧ SameX X V1 V') ∨ (e = .returned (.bool false) ∧ Jx (pre ++ [x]) V')) →
    J [] V → CallsIn F n P g (#[.func (.yield l) #[] #[]] ++ lb) V fun e V' => (∃ v, e = .returned v) ∧ ((∃ xs, S xs ∧ J xs V') ∨ ∃ pre, Sp pre ∧ Jx pre V')

/-- the two blocks of the loop's book -/
def Bk (l D : Nat) (r : Loop) (V : World) : Prop := V.heap[l]? = some (.loop r) ∧ V.heap[D]? = some (.deferred (some []))
section
variable {l D : Nat} {r : Loop} {V V' : World}
theorem Bk.lt (h : Bk l D r V) : l < V.heap.size ∧ D < V.heap.size := ⟨(Array.getElem?_eq_some_iff.1 h.1).1, (Array.getElem?_eq_some_iff.1 h.2).1⟩
theorem Bk.grown (h : Bk l D r V) {row : Option Nat} (hg : V.grownBy V' row) (h1 : some l ≠ row) (h2 : some D ≠ row) : Bk l D r V' :=
  ⟨(hg.block l h.lt.1 h1).trans h.1, (hg.block D h.lt.2 h2).trans h.2⟩
theorem Bk.put (h : Bk l D r V) (hne : D ≠ l) (r' : Loop) : Bk l D r' (V.putObj l (.loop r')) :=
  ⟨World.putObj_heap_same h.lt.1, (World.putObj_heap_other hne).trans h.2⟩
theorem Bk.keeps (h : Bk l D r V) {B : Nat} (hk : KeepsFrom B V V') (h1 : B ≤ l) (h2 : B ≤ D) : Bk l D r V' :=
  ⟨hk.same _ _ h1 h.1 rfl, hk.same _ _ h2 h.2 rfl⟩
end
/-- how a round of the body ends -/
def EndW {α : Type} (B : Nat) (X : Nat → Prop) (I : List α → World → Prop) (Ix : Code → List α → World → Prop) (xs : List α) (V : World) : Exit → Act → World → Prop
  | .normal, _, V' => KeepsFrom B V V' ∧ SameX X V V' ∧ I xs V'
  | .ret, _, V' => KeepsFrom B V V' ∧ Ix .ret xs V'
  | .exit id, _, V' => KeepsFrom B V V' ∧ Ix (.exit id) xs V'
  | .goto t, _, V' => KeepsFrom B V V' ∧ Ix (.goto t) xs V'
  | .panic _, _, _ => False
  | .outgrown, _, _ => False
/-- a block of X may be written: I says nothing of it -/
def Lets {β : Type} (X : Nat → Prop) (I : β → World → Prop) : Prop := ∀ s V V' b, X b → I s V → V.grownBy V' (some b) → I s V'

theorem wpIn_rangeW {F : Fence} {n : Nat} {P : Program} {w : World} {α : Type} {a : Act} {Q : Exit → Act → World → Prop} {g : Operand} {assign body : Code} {ps : Array Tmp} {gf : Nat} {lb : Array Value}
    {X : Nat → Prop} {encs : α → Array Value} {S Sp : List α → Prop} {N : Nat} {w0 : World} (I : List α → World → Prop) (Ix : Code → List α → World → Prop) (a₁ : α → Act)
    (hg : a.eval g = .func (.func gf) #[] lb) (hseq : SeqW F (n - 1) P gf lb encs X S Sp N w0) (hb0 : Below w0.heap.size w0 w) (hX : ∀ b, X b → b < w.heap.size) (hro : F.round = none) (h1 : 1 ≤ n) (hFg : F.fn gf)
    (eg : ∀ args v, (callFunc gf args).run P v = .ok (.enter gf args) v) (hps : ∀ x, (encs x).size = ps.size)
    (hI : OwnFrom w.heap.size I) (hIX : Lets X I) (hIx : ∀ c, OwnFrom w.heap.size (Ix c)) (hIxX : ∀ c, Lets X (Ix c)) (h0 : I [] w)
    (hassign : ∀ l x V (K : Act → World → Prop), K (a₁ x) V → assign.wpIn (F.inRound l) (n - 1 - 1) P (Exit.then K fun _ _ _ => False) { tmps := (ps.zip (encs x)).foldl (fun t (p, v) => t.setIfInBounds p v) a.tmps, defers := [] } V)
    (hbody : ∀ l pre x V, I pre V → pre.length < N → body.wpIn (F.inRound l) (n - 1 - 1) P (EndW w.heap.size X I Ix (pre ++ [x]) V) (a₁ x) V)
    (hdone : ∀ D xs V, w.heap.size ≤ D → S xs → I xs V → V.heap[D]? = some (.deferred (some [])) → Q .normal { a with defers := { target := .collected D, args := #[] } :: a.defers } V)
    (hstop : ∀ D c pre V, w.heap.size ≤ D → Sp pre → Ix c pre V → V.heap[D]? = some (.deferred (some [])) → c.wpIn F n P Q { a with defers := { target := .collected D, args := #[] } :: a.defers } V) :
    (Code.rangeFunc g ps assign body).wpIn F n P Q a w := by
  refine wpIn_rangeFunc fun fn hfn => ?_
  rw [hro]
  obtain ⟨R, hR⟩ : ∃ R : LoopState → Option Code → Loop, ∀ st pe, R st pe = { state := st, pending := pe, fn := fn, tmps := a.tmps, params := ps, assign := assign, body := body, defers := w.heap.size } := ⟨_, fun _ _ => rfl⟩
  obtain ⟨V1, hV1⟩ : ∃ V1, (w.alloc (.deferred (some []))).alloc (.loop (R .ready none)) = V1 := ⟨_, rfl⟩
  have hz : V1.heap.size = w.heap.size + 2 := by rw [← hV1]; simp
  have bk : Bk (w.heap.size + 1) w.heap.size (R .ready none) V1 := by
    subst hV1
    refine ⟨?_, (Below.heap_alloc _ _ _ (by simp)).trans (World.alloc_heap_new w _)⟩
    have h := World.alloc_heap_new (w.alloc (.deferred (some []))) (.loop (R .ready none))
    rwa [World.size_alloc] at h
  have i1 : I [] V1 := by subst hV1; exact hI.alloc _ (hI.alloc _ h0)
  have bel : Below w0.heap.size w0 V1 := by subst hV1; exact (hb0.alloc hb0.size _).alloc (by rw [World.size_alloc]; have := hb0.size; omega) _
  have hput : ∀ {s : List α} {V : World} {r : Loop} (r' : Loop), I s V → Bk (w.heap.size + 1) w.heap.size r V → I s (V.putObj (w.heap.size + 1) (.loop r')) := fun r' hi hb => hI.putObj _ hi (by omega) hb.1 rfl
  have hputx : ∀ {c : Code} {s : List α} {V : World} {r : Loop} (r' : Loop), Ix c s V → Bk (w.heap.size + 1) w.heap.size r V → Ix c s (V.putObj (w.heap.size + 1) (.loop r')) := fun {c} _ _ _ r' hi hb => (hIx c).putObj _ hi (by omega) hb.1 rfl
  have sput : ∀ (V : World) (r' : Loop), SameX X V (V.putObj (w.heap.size + 1) (.loop r')) := fun V r' b hb => World.putObj_heap_other (by have := hX b hb; omega)
  have abook : ∀ {V V' : World} {row : Option Nat} {r : Loop}, Bk (w.heap.size + 1) w.heap.size r V → V.grownBy V' row → (∀ r, row = some r → X r ∨ (V1.heap.size ≤ r ∧ ∃ o : Obj, V.heap[r]? = some o ∧ o.isWalk = true)) → Bk (w.heap.size + 1) w.heap.size r V' := fun hb hgr hrow => by
    refine hb.grown hgr (fun e => ?_) (fun e => ?_)
    · rcases hrow _ e.symm with h | h
      · have := hX _ h; omega
      · omega
    · rcases hrow _ e.symm with h | h
      · have := hX _ h; omega
      · omega
  have own : ∀ {J : List α → World → Prop}, OwnFrom w.heap.size J → Lets X J → ∀ {s : List α} {V V' : World} {row : Option Nat}, J s V → V.grownBy V' row → (∀ r, row = some r → X r ∨ (V1.heap.size ≤ r ∧ ∃ o : Obj, V.heap[r]? = some o ∧ o.isWalk = true)) → J s V' := fun hJ hL s V V' row hj hgr hrow => by
    cases row with
    | none => exact hJ s V V' none hj hgr (fun _ e => by cases e)
    | some r =>
      rcases hrow r rfl with h | ⟨h, o, ho, hw⟩
      · exact hL s V V' r h hj hgr
      · exact hJ s V V' (some r) hj hgr (fun _ e => by cases e; exact ⟨by omega, o, ho, Obj.not_cells_of_walk hw⟩)
  refine ⟨w.heap.size + 1, [{ target := .collected w.heap.size, args := #[] }], V1, { target := .fn (.func gf) lb, args := #[.func (.yield (w.heap.size + 1)) #[] #[]] }, V1, gf, #[.func (.yield (w.heap.size + 1)) #[] #[]] ++ lb, V1, ?_, ?_, ?_, ?_, fun _ => h1, ?_⟩
  · rw [← hV1, hR]; exact run_enterLoop_outer _ _ _ _ _
  · simp only [resolve, hg]; simp [go_sem]
  · intro f' hf'; simp [Target.leads] at hf'; subst hf'; exact hFg
  · simp [invoke, go_sem, eg]
  refine (hseq (w.heap.size + 1) (fun pre V => I pre V ∧ Bk (w.heap.size + 1) w.heap.size (R .ready none) V) (fun pre V => ∃ c, Ix c pre V ∧ Bk (w.heap.size + 1) w.heap.size (R .done (some c)) V) V1 bel
    (fun s V V' row hj hgr hrow => ⟨own hI hIX hj.1 hgr hrow, abook hj.2 hgr hrow⟩)
    (fun s V V' row hj hgr hrow => hj.elim fun c hc => ⟨c, own (hIx c) (hIxX c) hc.1 hgr hrow, abook hc.2 hgr hrow⟩) ?round ⟨i1, bk⟩).mono ?behind
  case behind =>
    rintro e V2 ⟨⟨v, rfl⟩, (⟨xs, hS, hi, hb⟩ | ⟨pre, hSp, c, hi, hb⟩)⟩
    · have hend := run_endLoop (P := P) hb.1 (by rw [hR]; simp)
      rw [hR] at hend
      exact ⟨none, _, hend, hdone _ xs _ (Nat.le_refl _) hS (hput _ hi hb) (hb.put (by omega) _).2⟩
    · have hend := run_endLoop (P := P) hb.1 (by rw [hR]; simp)
      rw [hR] at hend
      exact ⟨some c, _, hend, hstop _ c pre _ (Nat.le_refl _) hSp (hputx _ hi hb) (hb.put (by omega) _).2⟩
  case round =>
    rintro pre x V ⟨hi, hb⟩ hlen
    have hy := run_yield (P := P) (args := encs x) hb.1 (by rw [hR]; exact hps x)
    rw [hR] at hy
    refine ⟨fn, _, assign, body, hy, roundIn_of_wpIn hfn (hassign _ x V _ ⟨_, run_beginRound hb.1 (by rw [hR]), ?_⟩)⟩
    have hb2 := hb.put (by omega) { R .ready none with state := .busy }
    refine wpIn_mono (hbody _ pre x _ (hput _ hi hb) hlen) ?_
    -- behind the body: the record is turned, whatever the way
    have turn : ∀ (j : Option Code) {V3 : World}, KeepsFrom w.heap.size (V.putObj (w.heap.size + 1) (.loop { R .ready none with state := .busy })) V3 →
        ∃ st, st = (if j.isNone then LoopState.ready else .done) ∧ (Instr.endRound (w.heap.size + 1) j).run P V3 = .ok (.bool j.isNone) (V3.putObj (w.heap.size + 1) (.loop (R st j))) ∧ Bk (w.heap.size + 1) w.heap.size { R .ready none with state := .busy } V3 ∧
          Bk (w.heap.size + 1) w.heap.size (R st j) (V3.putObj (w.heap.size + 1) (.loop (R st j))) := fun j V3 hk => by
      have hb3 := hb2.keeps hk (by omega) (Nat.le_refl _)
      have hend := run_endRound (P := P) j hb3.1
      refine ⟨_, rfl, ?_, hb3, hb3.put (by omega) _⟩
      rw [hend, hR, hR]
    rintro e a3 V3 hp
    cases e with
    | normal =>
      obtain ⟨hk, hs, hi3⟩ := hp
      obtain ⟨st, rfl, hr, hb3, hb4⟩ := turn none hk
      exact ⟨_, _, hr, .inl ⟨rfl, ⟨hput _ hi3 hb3, hb4⟩, ((sput V _).trans hs).trans (sput V3 _)⟩⟩
    | ret =>
      obtain ⟨st, rfl, hr, hb3, hb4⟩ := turn (some .ret) hp.1
      exact ⟨_, _, hr, .inr ⟨rfl, _, hputx _ hp.2 hb3, hb4⟩⟩
    | exit id =>
      obtain ⟨st, rfl, hr, hb3, hb4⟩ := turn (some (.exit id)) hp.1
      exact ⟨_, _, hr, .inr ⟨rfl, _, hputx _ hp.2 hb3, hb4⟩⟩
    | goto t =>
      obtain ⟨st, rfl, hr, hb3, hb4⟩ := turn (some (.goto t)) hp.1
      exact ⟨_, _, hr, .inr ⟨rfl, _, hputx _ hp.2 hb3, hb4⟩⟩
    | panic ch => exact hp.elim
    | outgrown => exact hp.elim
end Go.Proofs.YtlkeomcillencaaGreat
end
