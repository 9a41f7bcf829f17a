/- The document's Complete of layer 4. -/
import Derived.Test.YtoaimmojnmgelaaDoorGlobE
namespace Go.Proofs.YtoaimmojnmgelaaDoor
open Go.RowKit

theorem star_r (s : ByteArray) (w : World) (hs : s.size ≤ 1000000) :
    Calls Tryd.prog 64 #[.string s] w fun e w' => (∃ r : ByteArray, e = .returned (.string r) ∧ r.data.toList = starL s.data.toList ∧ r.size ≤ 1000001) ∧ w = w' := by
  refine (star_any s w).mono ?_
  rintro e w' ⟨rfl, rfl⟩
  refine ⟨⟨_, rfl, starB_data s, ?_⟩, rfl⟩
  unfold starB
  split
  · decide
  · omega
theorem index_0 (s : ByteArray) (c : UInt8) (w : World) (hs : s.size ≤ 1000000) :
    Calls Tryd.prog 63 #[.string s, .int .u8 ↑c.toNat, .int .i64 0] w fun e w' => e = .returned (.int .i64 (Lib.indexByte s.data.toList c)) ∧ w = w' := by
  refine (index_any s c 0 w hs (by decide)).mono ?_
  rintro e w' ⟨rfl, rfl⟩
  refine ⟨ret_int ?_, rfl⟩
  unfold ixFrom
  rw [List.drop_zero]
  split
  · rename_i h; exact h.symm
  · simp
theorem index_33 (s : ByteArray) (w : World) (hs : s.size ≤ 1000000) {v : Int} (h : Lib.indexByte s.data.toList 33 = v) :
    Calls Tryd.prog 63 #[.string s, .int .u8 33, .int .i64 0] w fun e w' => e = .returned (.int .i64 v) ∧ w = w' := by
  subst h; exact index_0 s 33 w hs
theorem index_64 (s : ByteArray) (w : World) (hs : s.size ≤ 1000000) {v : Int} (h : Lib.indexByte s.data.toList 64 = v) :
    Calls Tryd.prog 63 #[.string s, .int .u8 64, .int .i64 0] w fun e w' => e = .returned (.int .i64 v) ∧ w = w' := by
  subst h; exact index_0 s 64 w hs
theorem index_from (s : ByteArray) (k : Nat) (w : World) (hs : s.size ≤ 1000000) (hk : k ≤ 1000000) {v : Int} (h : ixFrom s.data.toList 64 k = v) :
    Calls Tryd.prog 63 #[.string s, .int .u8 64, .int .i64 ↑k] w fun e w' => e = .returned (.int .i64 v) ∧ w = w' := by
  subst h; exact index_any s 64 k w hs hk

set_option maxRecDepth 1000000 in
set_option maxHeartbeats 4000000 in
/-- no ! and no @ -/
theorem rcomp_d (s : ByteArray) (w : World) (hs : s.size ≤ 1000000) (hb : Lib.indexByte s.data.toList 33 = -1) (ha : Lib.indexByte s.data.toList 64 = -1) :
    Calls Tryd.prog 39 #[.string s] w fun e w' => (∃ r : ByteArray, e = .returned (.string r) ∧ r.data.toList = joinL s.data.toList (⟨#[]⟩ : ByteArray).data.toList (⟨#[]⟩ : ByteArray).data.toList) ∧ ∃ n, w' = w.drewN n := by
  go_enter Tryd.func39, Tryd.ntmps39
  go_wp2_with fail
  refine (index_33 s _ hs hb).mono ?_
  rintro e w1 ⟨rfl, rfl⟩
  go_wp2_with fail
  refine (index_64 s _ hs ha).mono ?_
  rintro e w1 ⟨rfl, rfl⟩
  go_wp2_with (go_at_call 64; refine (star_r _ _ (by first | exact hs | decide)).mono ?_; rintro e w' ⟨⟨r, rfl, hr1, hr2⟩, rfl⟩)
  all_goals go_ret
  all_goals exact ⟨⟨_, rfl, join_data (by assumption) (by assumption) (by assumption)⟩, drewN_none _⟩

set_option maxRecDepth 1000000 in
set_option maxHeartbeats 4000000 in
/-- no !, an @ at a -/
theorem rcomp_c (s : ByteArray) (a : Nat) (w : World) (hs : s.size ≤ 1000000) (hb : Lib.indexByte s.data.toList 33 = -1) (ha : Lib.indexByte s.data.toList 64 = a) :
    Calls Tryd.prog 39 #[.string s] w fun e w' => (∃ r : ByteArray, e = .returned (.string r) ∧ r.data.toList = joinL (⟨#[]⟩ : ByteArray).data.toList (s.extract 0 a).data.toList (s.extract (a + 1) s.size).data.toList) ∧ ∃ n, w' = w.drewN n := by
  have hl : a < s.size := by have := idx_lt ha; rwa [len_ba] at this
  have hU := size_ex 0 a hs
  have hH := size_ex (a + 1) s.size hs
  go_enter Tryd.func39, Tryd.ntmps39
  go_wp2_with fail
  refine (index_33 s _ hs hb).mono ?_
  rintro e w1 ⟨rfl, rfl⟩
  go_wp2_with fail
  refine (index_64 s _ hs ha).mono ?_
  rintro e w1 ⟨rfl, rfl⟩
  go_wp2_with fail
  refine (index_64 s _ hs ha).mono ?_
  rintro e w1 ⟨rfl, rfl⟩
  go_wp2_with (go_at_call 64; refine (star_r _ _ (by first | exact hs | exact hN | exact hU | exact hH | decide)).mono ?_; rintro e w' ⟨⟨r, rfl, hr1, hr2⟩, rfl⟩)
  all_goals go_ret
  all_goals exact ⟨⟨_, rfl, join_data (by assumption) (by assumption) (by assumption)⟩, drewN_none _⟩

set_option maxRecDepth 1000000 in
set_option maxHeartbeats 4000000 in
/-- a !, no @ -/
theorem rcomp_a0 (s : ByteArray) (b : Nat) (w : World) (hs : s.size ≤ 1000000) (hb : Lib.indexByte s.data.toList 33 = b) (ha : Lib.indexByte s.data.toList 64 = -1) (hf : ixFrom s.data.toList 64 (b + 1) = -1) :
    Calls Tryd.prog 39 #[.string s] w fun e w' => (∃ r : ByteArray, e = .returned (.string r) ∧ r.data.toList = joinL (s.extract 0 b).data.toList (s.extract (b + 1) s.size).data.toList (⟨#[]⟩ : ByteArray).data.toList) ∧ ∃ n, w' = w.drewN n := by
  have hl : b < s.size := by have := idx_lt hb; rwa [len_ba] at this
  have hN := size_ex 0 b hs
  have hU := size_ex (b + 1) s.size hs
  go_enter Tryd.func39, Tryd.ntmps39
  go_wp2_with fail
  refine (index_33 s _ hs hb).mono ?_
  rintro e w1 ⟨rfl, rfl⟩
  go_wp2_with fail
  refine (index_64 s _ hs ha).mono ?_
  rintro e w1 ⟨rfl, rfl⟩
  go_wp2_with fail
  refine (index_from s (b + 1) _ hs (by omega) hf).mono ?_
  rintro e w1 ⟨rfl, rfl⟩
  go_wp2_with (go_at_call 64; refine (star_r _ _ (by first | exact hs | exact hN | exact hU | exact hH | decide)).mono ?_; rintro e w' ⟨⟨r, rfl, hr1, hr2⟩, rfl⟩)
  all_goals go_ret
  all_goals exact ⟨⟨_, rfl, join_data (by assumption) (by assumption) (by assumption)⟩, drewN_none _⟩

set_option maxRecDepth 1000000 in
set_option maxHeartbeats 4000000 in
/-- a !, an @ behind it -/
theorem rcomp_a (s : ByteArray) (b a : Nat) (w : World) (hs : s.size ≤ 1000000) (hb : Lib.indexByte s.data.toList 33 = b) (ha : Lib.indexByte s.data.toList 64 = a) (hba : b < a) (hal : a < s.size) (hf : ixFrom s.data.toList 64 (b + 1) = a) :
    Calls Tryd.prog 39 #[.string s] w fun e w' => (∃ r : ByteArray, e = .returned (.string r) ∧ r.data.toList = joinL (s.extract 0 b).data.toList (s.extract (b + 1) a).data.toList (s.extract (a + 1) s.size).data.toList) ∧ ∃ n, w' = w.drewN n := by
  have hl : b < s.size := by have := idx_lt hb; rwa [len_ba] at this
  have hN := size_ex 0 b hs
  have hU := size_ex (b + 1) a hs
  have hH := size_ex (a + 1) s.size hs
  go_enter Tryd.func39, Tryd.ntmps39
  go_wp2_with fail
  refine (index_33 s _ hs hb).mono ?_
  rintro e w1 ⟨rfl, rfl⟩
  go_wp2_with fail
  refine (index_64 s _ hs ha).mono ?_
  rintro e w1 ⟨rfl, rfl⟩
  go_wp2_with fail
  refine (index_from s (b + 1) _ hs (by omega) hf).mono ?_
  rintro e w1 ⟨rfl, rfl⟩
  go_wp2_with (go_at_call 64; refine (star_r _ _ (by first | exact hs | exact hN | exact hU | exact hH | decide)).mono ?_; rintro e w' ⟨⟨r, rfl, hr1, hr2⟩, rfl⟩)
  all_goals go_ret
  all_goals exact ⟨⟨_, rfl, join_data (by assumption) (by assumption) (by assumption)⟩, drewN_none _⟩

set_option maxRecDepth 1000000 in
set_option maxHeartbeats 4000000 in
/-- an @ ahead of the first ! -/
theorem rcomp_b (s : ByteArray) (b a : Nat) (w : World) (hs : s.size ≤ 1000000) (hb : Lib.indexByte s.data.toList 33 = b) (ha : Lib.indexByte s.data.toList 64 = a) (hba : a < b) (hal : a < s.size) :
    Calls Tryd.prog 39 #[.string s] w fun e w' => (∃ r : ByteArray, e = .returned (.string r) ∧ r.data.toList = joinL (⟨#[]⟩ : ByteArray).data.toList (s.extract 0 a).data.toList (s.extract (a + 1) s.size).data.toList) ∧ ∃ n, w' = w.drewN n := by
  have hl : b < s.size := by have := idx_lt hb; rwa [len_ba] at this
  have hN := size_ex 0 b hs
  have hU := size_ex 0 a hs
  have hH := size_ex (a + 1) s.size hs
  go_enter Tryd.func39, Tryd.ntmps39
  go_wp2_with fail
  refine (index_33 s _ hs hb).mono ?_
  rintro e w1 ⟨rfl, rfl⟩
  go_wp2_with fail
  refine (index_64 s _ hs ha).mono ?_
  rintro e w1 ⟨rfl, rfl⟩
  go_wp2_with fail
  refine (index_64 s _ hs ha).mono ?_
  rintro e w1 ⟨rfl, rfl⟩
  go_wp2_with (go_at_call 64; refine (star_r _ _ (by first | exact hs | exact hN | exact hU | exact hH | decide)).mono ?_; rintro e w' ⟨⟨r, rfl, hr1, hr2⟩, rfl⟩)
  all_goals go_ret
  all_goals exact ⟨⟨_, rfl, join_data (by assumption) (by assumption) (by assumption)⟩, drewN_none _⟩

end Go.Proofs.YtoaimmojnmgelaaDoor
