/- strings.Index, Contains, Cut with one byte. -/
import Derived.Test.YtoaimmojnmgelaaDoorGlobB
import Derived.Lib.IndexAny
namespace Go.Proofs.YtoaimmojnmgelaaDoor
open Go.RowKit

set_option maxRecDepth 1000000 in
set_option maxHeartbeats 2000000 in
theorem index1_lite (s : ByteArray) (c : UInt8) (w : World) (hs : s.size ≤ 1000000) :
    Calls Tryd.prog 85 #[.string s, .string ⟨#[c]⟩] w fun e w' => e = .returned (.int .i64 (Lib.indexByte s.data.toList c)) ∧ w = w' := by
  go_enter Tryd.func85, Tryd.ntmps85
  go_wp2_with (go_at_call 81; refine (idxByte0 _ _ _).mono ?_; rintro e w' ⟨rfl, rfl⟩)
  · go_ret
    rename_i h
    rw [ByteArray.toList_eq, beq_iff_eq] at h
    exact ⟨ret_int (by rw [← h]; simp [Lib.indexByte]), rfl⟩
  · go_ret
    exact ⟨ret_int rfl, rfl⟩
set_option maxRecDepth 1000000 in
theorem index1 (s : ByteArray) (c : UInt8) (w : World) (hs : s.size ≤ 1000000) :
    Calls Tryd.prog 77 #[.string s, .string ⟨#[c]⟩] w fun e w' => e = .returned (.int .i64 (Lib.indexByte s.data.toList c)) ∧ w = w' := by
  go_enter Tryd.func77, Tryd.ntmps77
  go_wp2_with (go_at_call 85; refine (index1_lite _ _ _ hs).mono ?_; rintro e w' ⟨rfl, rfl⟩)
  go_ret
  exact ⟨rfl, rfl⟩
theorem idx_bool (l : List UInt8) (c : UInt8) : decide (Lib.indexByte l c ≥ 0) = l.contains c := by
  have h1 := Lib.contains_iff_indexByte l c
  rw [h1]
set_option maxRecDepth 1000000 in
theorem contains1 (s : ByteArray) (c : UInt8) (w : World) (hs : s.size ≤ 1000000) :
    Calls Tryd.prog 61 #[.string s, .string ⟨#[c]⟩] w fun e w' => e = .returned (.bool (s.data.toList.contains c)) ∧ w = w' := by
  go_enter Tryd.func61, Tryd.ntmps61
  go_wp2_with (go_at_call 77; refine (index1 _ _ _ hs).mono ?_; rintro e w' ⟨rfl, rfl⟩)
  go_ret
  exact ⟨ret_bool (idx_bool _ _), rfl⟩
theorem idx_lt {l : List UInt8} {c : UInt8} {o : Nat} (h : Lib.indexByte l c = o) : o < l.length := by
  have := (Lib.indexByte_some h).1
  exact (List.getElem?_eq_some_iff.1 this).1
set_option maxRecDepth 1000000 in
set_option maxHeartbeats 1000000 in
theorem cut_yes (s : ByteArray) (c : UInt8) (o : Nat) (w : World) (hs : s.size ≤ 1000000) (h : Lib.indexByte s.data.toList c = o) :
    Calls Tryd.prog 60 #[.string s, .string ⟨#[c]⟩] w fun e w' => e = .returned (.tuple #[.string (s.extract 0 o), .string (s.extract (o + 1) s.size), .bool true]) ∧ (∃ n, w' = w.drewN n) := by
  have ho := idx_lt h
  rw [len_ba] at ho
  have hlite : Calls Tryd.prog 76 #[.string s, .string ⟨#[c]⟩] w fun e w' => e = .returned (.tuple #[.string (s.extract 0 o), .string (s.extract (o + 1) s.size), .bool true]) ∧ (∃ n, w' = w.drewN n) := by
    go_enter Tryd.func76, Tryd.ntmps76
    go_wp2_with (go_at_call 85; refine (index1_lite _ _ _ hs).mono ?_; rintro e w' ⟨rfl, rfl⟩; rw [h])
    go_quiet (fail)
    all_goals go_wp2_with fail
    all_goals go_ret3
    all_goals exact ⟨rfl, _, rfl⟩
  go_enter Tryd.func60, Tryd.ntmps60
  go_wp2_with (go_at_call 76; refine hlite.mono ?_; rintro e w' ⟨rfl, hw⟩)
  go_ret3
  exact ⟨rfl, hw⟩
set_option maxRecDepth 1000000 in
set_option maxHeartbeats 1000000 in
theorem cut_no (s : ByteArray) (c : UInt8) (w : World) (hs : s.size ≤ 1000000) (h : Lib.indexByte s.data.toList c = -1) :
    Calls Tryd.prog 60 #[.string s, .string ⟨#[c]⟩] w fun e w' => e = .returned (.tuple #[.string s, .string ⟨#[]⟩, .bool false]) ∧ w = w' := by
  have hlite : Calls Tryd.prog 76 #[.string s, .string ⟨#[c]⟩] w fun e w' => e = .returned (.tuple #[.string s, .string ⟨#[]⟩, .bool false]) ∧ w = w' := by
    go_enter Tryd.func76, Tryd.ntmps76
    go_wp2_with (go_at_call 85; refine (index1_lite _ _ _ hs).mono ?_; rintro e w' ⟨rfl, rfl⟩; rw [h])
    go_ret3
    exact ⟨rfl, rfl⟩
  go_enter Tryd.func60, Tryd.ntmps60
  go_wp2_with (go_at_call 76; refine hlite.mono ?_; rintro e w' ⟨rfl, rfl⟩)
  go_ret3
  exact ⟨rfl, rfl⟩
end Go.Proofs.YtoaimmojnmgelaaDoor
