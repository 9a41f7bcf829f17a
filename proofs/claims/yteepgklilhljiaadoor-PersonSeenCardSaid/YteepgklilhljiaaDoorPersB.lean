/- Layer 22: person.Seen, Marks, Who, Userhost and the document's answers to them, of anybody. -/
import Derived.Test.YteepgklilhljiaaDoorPersA
namespace Go.Proofs.YteepgklilhljiaaDoor
set_option linter.unusedVariables false
set_option linter.unusedSimpArgs false
open Go.RowKit Go.Shelf

/-- somebody, as a value -/
def per (id : Int) (n u h r a : ByteArray) (o d : Bool) (si sp : Int) : Value :=
  .agg #[.int .i64 id, .string n, .string u, .string h, .string r, .string a, .bool o, .bool d, .int .i64 si, .int .i64 sp]
def memb (id : Int) (op vo : Bool) : Value := .agg #[.int .i64 id, .bool op, .bool vo]
def atB : ByteArray := ⟨#[64]⟩
def plB : ByteArray := ⟨#[43]⟩
def marksB (op vo many : Bool) : ByteArray := if op then (if vo && many then ⟨#[64, 43]⟩ else ⟨#[64]⟩) else (if vo then ⟨#[43]⟩ else ⟨#[]⟩)
def hostB (n u h : ByteArray) (o e : Bool) : ByteArray := (if o then n ++ ⟨#[42]⟩ else n) ++ (if e then ⟨#[61, 43]⟩ else ⟨#[61, 45]⟩) ++ u ++ ⟨#[64]⟩ ++ h

theorem seen_any (a b : Int) (n1 u1 h1 r1 a1 n2 u2 h2 r2 a2 : ByteArray) (o1 d1 o2 d2 c : Bool) (s1 p1 s2 p2 : Int) (w : World) :
    Calls Tryd.prog 12 #[per a n1 u1 h1 r1 a1 o1 d1 s1 p1, per b n2 u2 h2 r2 a2 o2 d2 s2 p2, .bool c] w fun e w' => e = .returned (.bool (!d2 || c || o1 || a == b)) ∧ Below w.heap.size w w' := by
  unfold per
  obtain ⟨d, hd⟩ : ∃ d, (a == b) = d := ⟨_, rfl⟩
  rw [hd]
  cases d2 <;> cases c <;> cases o1 <;> cases d
  all_goals
    go_enter Tryd.func12, Tryd.ntmps12
    go_wp2_with fail
    go_ret
    exact ⟨ret_bool (by simp), by first | exact Below.refl _ _ | exact (Below.refl _ _).alloc (Nat.le_refl _) _ | exact below_two _ _ _⟩
theorem rseen_any (a b : Int) (n1 u1 h1 r1 a1 n2 u2 h2 r2 a2 : ByteArray) (o1 d1 o2 d2 c : Bool) (s1 p1 s2 p2 : Int) (w : World) :
    Calls Tryd.prog 13 #[per a n1 u1 h1 r1 a1 o1 d1 s1 p1, per b n2 u2 h2 r2 a2 o2 d2 s2 p2, .bool c] w fun e w' => e = .returned (.bool (!d2 || c || o1 || a == b)) ∧ Below w.heap.size w w' := by
  unfold per
  obtain ⟨d, hd⟩ : ∃ d, (a == b) = d := ⟨_, rfl⟩
  rw [hd]
  cases d2 <;> cases c <;> cases o1 <;> cases d
  all_goals
    go_enter Tryd.func13, Tryd.ntmps13
    go_wp2_with fail
    go_ret
    exact ⟨ret_bool (by simp), by first | exact Below.refl _ _ | exact (Below.refl _ _).alloc (Nat.le_refl _) _ | exact below_two _ _ _⟩
theorem marks_any (i : Int) (op vo many : Bool) (w : World) :
    Calls Tryd.prog 14 #[memb i op vo, .bool many] w fun e w' => e = .returned (.string (marksB op vo many)) ∧ Below w.heap.size w w' := by
  unfold memb
  cases op <;> cases vo <;> cases many
  all_goals
    go_enter Tryd.func14, Tryd.ntmps14
    go_wp2_with fail
    go_ret
    exact ⟨ret_str (by rfl), by first | exact Below.refl _ _ | exact (Below.refl _ _).alloc (Nat.le_refl _) _⟩
theorem rmarks_any (i : Int) (op vo many : Bool) (w : World) :
    Calls Tryd.prog 15 #[memb i op vo, .bool many] w fun e w' => e = .returned (.string (marksB op vo many)) ∧ Below w.heap.size w w' := by
  unfold memb
  cases op <;> cases vo <;> cases many
  all_goals
    go_enter Tryd.func15, Tryd.ntmps15
    go_wp2_with fail
    go_ret
    exact ⟨ret_str (by rfl), by first | exact Below.refl _ _ | exact (Below.refl _ _).alloc (Nat.le_refl _) _⟩
theorem ba_assoc (a b c : ByteArray) : a ++ b ++ c = a ++ (b ++ c) := by
  apply ba_ext; simp
theorem userhost_any (a : Int) (n u h r y : ByteArray) (o d : Bool) (si sp : Int) (w : World) (hn : n.size ≤ 200) (hu : u.size ≤ 200) (hh : h.size ≤ 200) :
    Calls Tryd.prog 19 #[per a n u h r y o d si sp] w fun e w' => e = .returned (.string (hostB n u h o y.toList.isEmpty)) ∧ Below w.heap.size w w' := by
  unfold per
  obtain ⟨z, hz⟩ : ∃ z, y.toList.isEmpty = z := ⟨_, rfl⟩
  rw [hz]
  cases o <;> cases z
  all_goals
    go_enter Tryd.func19, Tryd.ntmps19
    go_wp2_with fail
    go_ret
    exact ⟨ret_str (by apply ba_ext; simp [hostB]), by first | exact Below.refl _ _ | exact (Below.refl _ _).alloc (Nat.le_refl _) _⟩
theorem ruserhost_any (a : Int) (n u h r y : ByteArray) (o d : Bool) (si sp : Int) (w : World) (hn : n.size ≤ 200) (hu : u.size ≤ 200) (hh : h.size ≤ 200) :
    Calls Tryd.prog 20 #[per a n u h r y o d si sp] w fun e w' => e = .returned (.string (hostB n u h o y.toList.isEmpty)) ∧ Below w.heap.size w w' := by
  unfold per
  obtain ⟨z, hz⟩ : ∃ z, y.toList.isEmpty = z := ⟨_, rfl⟩
  rw [hz]
  cases o <;> cases z
  all_goals
    go_enter Tryd.func20, Tryd.ntmps20
    go_wp2_with fail
    go_ret
    exact ⟨ret_str (by apply ba_ext; simp [hostB]), by first | exact Below.refl _ _ | exact (Below.refl _ _).alloc (Nat.le_refl _) _⟩
def whoB (n u h : ByteArray) : ByteArray := n ++ ⟨#[33]⟩ ++ u ++ ⟨#[64]⟩ ++ h
theorem rwho_any (n u h : ByteArray) (w : World) (hn : n.size ≤ 200) (hu : u.size ≤ 200) (hh : h.size ≤ 200) :
    Calls Tryd.prog 25 #[.string n, .string u, .string h] w fun e w' => e = .returned (.string (whoB n u h)) ∧ Below w.heap.size w w' := by
  go_enter Tryd.func25, Tryd.ntmps25
  go_wp2_with fail
  go_ret
  exact ⟨ret_str (by rfl), by first | exact Below.refl _ _ | exact (Below.refl _ _).alloc (Nat.le_refl _) _⟩
theorem who_any (a : Int) (n u h r y : ByteArray) (o d : Bool) (si sp : Int) (w : World) (hn : n.size ≤ 200) (hu : u.size ≤ 200) (hh : h.size ≤ 200) :
    Calls Tryd.prog 16 #[per a n u h r y o d si sp] w fun e w' => e = .returned (.string (whoB n u h)) ∧ Below w.heap.size w w' := by
  unfold per
  go_enter Tryd.func16, Tryd.ntmps16
  go_wp2_with fail
  refine (rwho_any _ _ _ _ hn hu hh).mono ?_
  rintro e w1 ⟨rfl, q1⟩
  go_wp2_with fail
  go_ret
  exact ⟨rfl, ((Below.refl _ w).alloc (Nat.le_refl _) _).trans (q1.mono (by simp))⟩
end Go.Proofs.YteepgklilhljiaaDoor
