/- glob.Complete. -/
import Derived.Test.YtoaimmojnmgelaaDoorGlobD
namespace Go.Proofs.YtoaimmojnmgelaaDoor
open Go.RowKit

def starL (l : List UInt8) : List UInt8 := if l.length = 0 then [42] else l
theorem starB_data (s : ByteArray) : (starB s).data.toList = starL s.data.toList := by
  unfold starB starL
  rw [len_ba]
  by_cases h : s.size = 0
  · rw [if_pos h, if_pos h]
  · rw [if_neg h, if_neg h]
def cutL (l : List UInt8) (c : UInt8) : List UInt8 × List UInt8 := if Lib.indexByte l c = -1 then (l, []) else (l.take (Lib.indexByte l c).toNat, l.drop ((Lib.indexByte l c).toNat + 1))
/-- three parts, as one mask -/
def joinL (n u h : List UInt8) : List UInt8 := starL n ++ [33] ++ starL u ++ [64] ++ starL h

theorem orStar_r (s : ByteArray) (w : World) (hs : s.size ≤ 1000000) :
    Calls Tryd.prog 62 #[.string s] w fun e w' => (∃ r : ByteArray, e = .returned (.string r) ∧ r.data.toList = starL s.data.toList ∧ r.size ≤ 1000001) ∧ w = w' := by
  refine (orStar_any s w).mono ?_
  rintro e w' ⟨rfl, rfl⟩
  refine ⟨⟨_, rfl, starB_data s, ?_⟩, rfl⟩
  unfold starB
  split
  · decide
  · omega
theorem drewN_two {w w1 w2 : World} (h : ∃ n, w1 = w.drewN n) (h2 : ∃ n, w2 = w1.drewN n) : ∃ n, w2 = w.drewN n := by
  obtain ⟨n, rfl⟩ := h; obtain ⟨m, rfl⟩ := h2; exact ⟨n + m, by rw [World.drewN_drewN]⟩
theorem drewN_none (w : World) : ∃ n, w = w.drewN n := ⟨0, rfl⟩
theorem join_data {x y z : ByteArray} {n u h : List UInt8} (hx : x.data.toList = starL n) (hy : y.data.toList = starL u) (hz : z.data.toList = starL h) : (x ++ ⟨#[33]⟩ ++ y ++ ⟨#[64]⟩ ++ z).data.toList = joinL n u h := by
  unfold joinL
  simp [hx, hy, hz]
theorem size_ex {s : ByteArray} (a b : Nat) (hs : s.size ≤ 1000000) : (s.extract a b).size ≤ 1000000 := by simp [ByteArray.size_extract]; omega

set_option maxRecDepth 1000000 in
set_option maxHeartbeats 4000000 in
theorem comp_a (s : ByteArray) (b o : Nat) (w : World) (hs : s.size ≤ 1000000) (hb : Lib.indexByte s.data.toList 33 = b) (hn : (s.extract 0 b).data.toList.contains 64 = false) (ho : Lib.indexByte (s.extract (b + 1) s.size).data.toList 64 = o) :
    Calls Tryd.prog 36 #[.string s] w fun e w' => (∃ r : ByteArray, e = .returned (.string r) ∧ r.data.toList = joinL (s.extract 0 b).data.toList ((s.extract (b + 1) s.size).extract 0 o).data.toList ((s.extract (b + 1) s.size).extract (o + 1) (s.size - (b + 1))).data.toList) ∧ ∃ n, w' = w.drewN n := by
  have hN := size_ex 0 b hs
  have hR := size_ex (b + 1) s.size hs
  have hU := size_ex 0 o hR
  have hH := size_ex (o + 1) (s.size - (b + 1)) hR
  go_enter Tryd.func36, Tryd.ntmps36
  go_wp2_with fail
  refine (cut_yes s 33 b _ hs hb).mono ?_
  rintro e w1 ⟨rfl, hw1⟩
  go_wp2_with fail
  refine (contains1 (s.extract 0 b) 64 _ (size_ex _ _ hs)).mono ?_
  rintro e w2 ⟨rfl, rfl⟩
  rw [hn]
  go_wp2_with fail
  refine (cut_yes (s.extract (b + 1) s.size) 64 o _ hR ho).mono ?_
  rintro e w3 ⟨rfl, hw3⟩
  go_wp2_with (go_at_call 62; refine (orStar_r _ _ (by first | exact hs | exact hN | exact hU | exact hH | exact hR | decide)).mono ?_; rintro e w' ⟨⟨r, rfl, hr1, hr2⟩, rfl⟩)
  all_goals go_ret
  all_goals exact ⟨⟨_, rfl, join_data (by assumption) (by assumption) (by assumption)⟩, drewN_two hw1 hw3⟩

set_option maxRecDepth 1000000 in
set_option maxHeartbeats 4000000 in
theorem comp_a0 (s : ByteArray) (b : Nat) (w : World) (hs : s.size ≤ 1000000) (hb : Lib.indexByte s.data.toList 33 = b) (hn : (s.extract 0 b).data.toList.contains 64 = false) (ho : Lib.indexByte (s.extract (b + 1) s.size).data.toList 64 = -1) :
    Calls Tryd.prog 36 #[.string s] w fun e w' => (∃ r : ByteArray, e = .returned (.string r) ∧ r.data.toList = joinL (s.extract 0 b).data.toList (s.extract (b + 1) s.size).data.toList (⟨#[]⟩ : ByteArray).data.toList) ∧ ∃ n, w' = w.drewN n := by
  have hN := size_ex 0 b hs
  have hR := size_ex (b + 1) s.size hs
  go_enter Tryd.func36, Tryd.ntmps36
  go_wp2_with fail
  refine (cut_yes s 33 b _ hs hb).mono ?_
  rintro e w1 ⟨rfl, hw1⟩
  go_wp2_with fail
  refine (contains1 (s.extract 0 b) 64 _ (size_ex _ _ hs)).mono ?_
  rintro e w2 ⟨rfl, rfl⟩
  rw [hn]
  go_wp2_with fail
  refine (cut_no (s.extract (b + 1) s.size) 64 _ hR ho).mono ?_
  rintro e w3 ⟨rfl, rfl⟩
  go_wp2_with (go_at_call 62; refine (orStar_r _ _ (by first | exact hs | exact hN | exact hU | exact hH | exact hR | decide)).mono ?_; rintro e w' ⟨⟨r, rfl, hr1, hr2⟩, rfl⟩)
  all_goals go_ret
  all_goals exact ⟨⟨_, rfl, join_data (by assumption) (by assumption) (by assumption)⟩, hw1⟩

set_option maxRecDepth 1000000 in
set_option maxHeartbeats 4000000 in
theorem comp_b (s : ByteArray) (b o : Nat) (w : World) (hs : s.size ≤ 1000000) (hb : Lib.indexByte s.data.toList 33 = b) (hn : (s.extract 0 b).data.toList.contains 64 = true) (hm : s.data.toList.contains 64 = true) (ho : Lib.indexByte s.data.toList 64 = o) :
    Calls Tryd.prog 36 #[.string s] w fun e w' => (∃ r : ByteArray, e = .returned (.string r) ∧ r.data.toList = joinL (⟨#[]⟩ : ByteArray).data.toList (s.extract 0 o).data.toList (s.extract (o + 1) s.size).data.toList) ∧ ∃ n, w' = w.drewN n := by
  have hU := size_ex 0 o hs
  have hH := size_ex (o + 1) s.size hs
  go_enter Tryd.func36, Tryd.ntmps36
  go_wp2_with fail
  refine (cut_yes s 33 b _ hs hb).mono ?_
  rintro e w1 ⟨rfl, hw1⟩
  go_wp2_with fail
  refine (contains1 (s.extract 0 b) 64 _ (size_ex _ _ hs)).mono ?_
  rintro e w2 ⟨rfl, rfl⟩
  rw [hn]
  go_wp2_with fail
  refine (contains1 s 64 _ hs).mono ?_
  rintro e w2 ⟨rfl, rfl⟩
  rw [hm]
  go_wp2_with fail
  refine (cut_yes s 64 o _ hs ho).mono ?_
  rintro e w3 ⟨rfl, hw3⟩
  go_wp2_with (go_at_call 62; refine (orStar_r _ _ (by first | exact hs | exact hN | exact hU | exact hH | exact hR | decide)).mono ?_; rintro e w' ⟨⟨r, rfl, hr1, hr2⟩, rfl⟩)
  all_goals go_ret
  all_goals exact ⟨⟨_, rfl, join_data (by assumption) (by assumption) (by assumption)⟩, drewN_two hw1 hw3⟩

set_option maxRecDepth 1000000 in
set_option maxHeartbeats 4000000 in
theorem comp_c (s : ByteArray) (o : Nat) (w : World) (hs : s.size ≤ 1000000) (hb : Lib.indexByte s.data.toList 33 = -1) (hm : s.data.toList.contains 64 = true) (ho : Lib.indexByte s.data.toList 64 = o) :
    Calls Tryd.prog 36 #[.string s] w fun e w' => (∃ r : ByteArray, e = .returned (.string r) ∧ r.data.toList = joinL (⟨#[]⟩ : ByteArray).data.toList (s.extract 0 o).data.toList (s.extract (o + 1) s.size).data.toList) ∧ ∃ n, w' = w.drewN n := by
  have hU := size_ex 0 o hs
  have hH := size_ex (o + 1) s.size hs
  go_enter Tryd.func36, Tryd.ntmps36
  go_wp2_with fail
  refine (cut_no s 33 _ hs hb).mono ?_
  rintro e w1 ⟨rfl, rfl⟩
  go_wp2_with fail
  refine (contains1 s 64 _ hs).mono ?_
  rintro e w2 ⟨rfl, rfl⟩
  rw [hm]
  go_wp2_with fail
  refine (cut_yes s 64 o _ hs ho).mono ?_
  rintro e w3 ⟨rfl, hw3⟩
  go_wp2_with (go_at_call 62; refine (orStar_r _ _ (by first | exact hs | exact hN | exact hU | exact hH | exact hR | decide)).mono ?_; rintro e w' ⟨⟨r, rfl, hr1, hr2⟩, rfl⟩)
  all_goals go_ret
  all_goals exact ⟨⟨_, rfl, join_data (by assumption) (by assumption) (by assumption)⟩, hw3⟩

set_option maxRecDepth 1000000 in
set_option maxHeartbeats 4000000 in
theorem comp_d (s : ByteArray) (w : World) (hs : s.size ≤ 1000000) (hb : Lib.indexByte s.data.toList 33 = -1) (hm : s.data.toList.contains 64 = false) :
    Calls Tryd.prog 36 #[.string s] w fun e w' => (∃ r : ByteArray, e = .returned (.string r) ∧ r.data.toList = joinL s.data.toList (⟨#[]⟩ : ByteArray).data.toList (⟨#[]⟩ : ByteArray).data.toList) ∧ ∃ n, w' = w.drewN n := by
  go_enter Tryd.func36, Tryd.ntmps36
  go_wp2_with fail
  refine (cut_no s 33 _ hs hb).mono ?_
  rintro e w1 ⟨rfl, rfl⟩
  go_wp2_with fail
  refine (contains1 s 64 _ hs).mono ?_
  rintro e w2 ⟨rfl, rfl⟩
  rw [hm]
  go_wp2_with fail
  refine (cut_no ⟨#[]⟩ 64 _ (by decide) (by rfl)).mono ?_
  rintro e w3 ⟨rfl, rfl⟩
  go_wp2_with (go_at_call 62; refine (orStar_r _ _ (by first | exact hs | exact hN | exact hU | exact hH | exact hR | decide)).mono ?_; rintro e w' ⟨⟨r, rfl, hr1, hr2⟩, rfl⟩)
  all_goals go_ret
  all_goals exact ⟨⟨_, rfl, join_data (by assumption) (by assumption) (by assumption)⟩, drewN_none _⟩

end Go.Proofs.YtoaimmojnmgelaaDoor
