/- Layer 22: person.Seen, person.Userhost of what the law looks at first; PersonHidden. -/
import Derived.Test.YteepgklilhljiaaDoorBase
import Derived.Test.YteepgklilhljiaaDoorChecked
import Derived.Test.YteepgklilhljiaaDoorScope
import Derived.RangeFuncKeeps
import Derived.Outline
namespace Go.Proofs.YteepgklilhljiaaDoor
set_option linter.unusedVariables false
set_option linter.unusedSimpArgs false
open Go.RowKit Go.Shelf

theorem below_two (w : World) (x y) : Below w.heap.size w ((w.alloc x).alloc y) := ((Below.refl _ w).alloc (Nat.le_refl _) x).alloc (by simp) y

theorem userhost_ann (w : World) :
    Calls Tryd.prog 19 #[.agg #[.int .i64 0, .string ⟨#[97, 110, 110]⟩, .string ⟨#[117]⟩, .string ⟨#[104]⟩, .string ⟨#[]⟩, .string ⟨#[120]⟩, .bool false, .bool false, .int .i64 0, .int .i64 0]] w fun e w' => e = .returned (.string ⟨#[97, 110, 110, 61, 45, 117, 64, 104]⟩) ∧ Below w.heap.size w w' := by
  go_enter Tryd.func19, Tryd.ntmps19
  go_wp2_with fail
  go_ret
  exact ⟨ret_str (by rfl), by first | exact Below.refl _ _ | exact (Below.refl _ _).alloc (Nat.le_refl _) _ | exact below_two _ _ _⟩

theorem awake22 (w : World) : Calls Tryd.prog 10 #[] w fun e w' => e = .returned (.bool true) ∧ Below w.heap.size w w' := by
  go_enter Tryd.func10, Tryd.ntmps10
  go_wp2_with fail
  refine (userhost_ann _).mono ?_
  rintro e w1 ⟨rfl, q1⟩
  go_wp2_with fail
  go_ret
  exact ⟨ret_bool (by decide), by first | exact q1 | exact ((Below.refl _ w).alloc (Nat.le_refl _) _).trans (q1.mono (by simp))⟩

theorem seen_v (a b : Int) (o h c : Bool) (w : World) :
    Calls Tryd.prog 12 #[.agg #[.int .i64 a, .string ⟨#[]⟩, .string ⟨#[]⟩, .string ⟨#[]⟩, .string ⟨#[]⟩, .string ⟨#[]⟩, .bool o, .bool false, .int .i64 0, .int .i64 0], .agg #[.int .i64 b, .string ⟨#[]⟩, .string ⟨#[]⟩, .string ⟨#[]⟩, .string ⟨#[]⟩, .string ⟨#[]⟩, .bool false, .bool h, .int .i64 0, .int .i64 0], .bool c] w fun e w' => e = .returned (.bool (!h || c || o || a == b)) ∧ Below w.heap.size w w' := by
  obtain ⟨d, hd⟩ : ∃ d, (a == b) = d := ⟨_, rfl⟩
  rw [hd]
  cases h <;> cases c <;> cases o <;> cases d
  all_goals
    go_enter Tryd.func12, Tryd.ntmps12
    go_wp2_with fail
    go_ret
    exact ⟨ret_bool (by simp), by first | exact Below.refl _ _ | exact (Below.refl _ _).alloc (Nat.le_refl _) _ | exact below_two _ _ _⟩

end Go.Proofs.YteepgklilhljiaaDoor
