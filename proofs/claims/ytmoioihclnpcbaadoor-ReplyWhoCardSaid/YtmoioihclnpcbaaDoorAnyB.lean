/- strings.ContainsAny of whatever bytes, among some ASCII ones: the shelf's long road beside the short one. -/
import Derived.Test.YtmoioihclnpcbaaDoorAny
import Derived.Test.YtmoioihclnpcbaaDoorShelf
import Derived.Shelf.Strings.IndexAnyAll
namespace Go.Proofs.YtmoioihclnpcbaaDoor
set_option linter.unusedVariables false
set_option linter.unusedSimpArgs false
open Go.RowKit

theorem any_index (l c : List UInt8) : decide ((0 : Int) ≤ Lib.indexAny l c) = l.any fun x => c.contains x := by
  induction l with
  | nil => rfl
  | cons b l ih =>
    rw [List.any_cons, ← ih, Lib.indexAny]
    have hge := Lib.indexAny_ge c l
    cases h : c.contains b with
    | true => simp
    | false =>
      simp only [Bool.false_eq_true, if_false, Bool.false_or]
      by_cases h2 : Lib.indexAny l c = -1
      · rw [h2]; rfl
      · have : (Lib.indexAny l c == -1) = false := by simpa using h2
        rw [this]
        simp only [Bool.false_eq_true, if_false]
        rw [decide_eq_true (by omega), decide_eq_true (by omega)]

theorem Tryd.infoSet : (Tryd.prog.info? 95).map (fun i => (i.zero, i.size)) = some (some (.agg (Array.replicate 256 (.bool false))), 256) := by kernel_rfl

theorem idxAny_all (s chars : ByteArray) (w : World) (hs : s.size ≤ 1000000) (h2 : 2 ≤ chars.size) (hc8 : chars.size ≤ 1000) (ha : asciiL chars.data.toList) :
    Calls Tryd.prog 55 #[.string s, .string chars] w fun e w' => e = .returned (.int .i64 (Lib.indexAny s.data.toList chars.data.toList)) ∧ Below w.heap.size w w' := by
  by_cases h8 : s.size ≤ 8
  · exact idxAny_short s chars w h2 hc8 h8 ha
  · refine (Tryd.strings_IndexAny_long (zero_of_info Tryd.infoSet).1 s chars w h2 (by omega) (by omega) (by omega) fun j b hj => ha.at b (List.mem_of_getElem? hj)).mono fun e w' ⟨h1, h3⟩ => ⟨h1, ?_⟩
    rw [h3]
    exact ((Below.refl _ _).alloc (Nat.le_refl _) _).alloc (by simp) _
theorem containsAnyB (s chars : ByteArray) (w : World) (hs : s.size ≤ 1000000) (h2 : 2 ≤ chars.size) (hc8 : chars.size ≤ 1000) (ha : asciiL chars.data.toList) :
    Calls Tryd.prog 41 #[.string s, .string chars] w fun e w' => e = .returned (.bool (s.data.toList.any fun x => chars.data.toList.contains x)) ∧ Below w.heap.size w w' := by
  have hb := any_index s.data.toList chars.data.toList
  have HB := Lib.hid hb
  clear hb
  go_enter Tryd.func41, Tryd.ntmps41
  go_wp2_with fail
  refine (idxAny_all s chars _ hs h2 hc8 ha).mono ?_
  rintro e w1 ⟨rfl, q⟩
  go_wp2_with fail
  go_ret
  exact ⟨ret_bool HB.out, q⟩
end Go.Proofs.YtmoioihclnpcbaaDoor
