/- glob.Cut and the answers' Cut. -/
import Derived.Test.YtoaimmojnmgelaaDoorGlobG
import Derived.OwnWalk
namespace Go.Proofs.YtoaimmojnmgelaaDoor
open Go.RowKit

theorem results_tmp4 {fn : Func} {t u v x : Tmp} (h : fn.results = #[.tmp t, .tmp u, .tmp v, .tmp x]) (tmps : Array Value) (P : Program) (w : World) :
    (results fn tmps).run P w = .ok (.tuple #[tmps.getD t undef, tmps.getD u undef, tmps.getD v undef, tmps.getD x undef]) w := by
  simp [results, h]

def noCut : Value := .tuple #[.string ⟨#[]⟩, .string ⟨#[]⟩, .string ⟨#[]⟩, .bool false]

set_option maxRecDepth 1000000 in
set_option maxHeartbeats 4000000 in
/-- no !, or it stands first -/
theorem rcut_n (s : ByteArray) (w : World) (hs : s.size ≤ 1000000) (v : Int) (hv : v < 1) (hb : Lib.indexByte s.data.toList 33 = v) :
    Calls Tryd.prog 38 #[.string s] w fun e w' => e = .returned noCut ∧ w = w' := by
  go_enter Tryd.func38, Tryd.ntmps38
  go_wp2_with fail
  refine (index_33 s _ hs hb).mono ?_
  rintro e w1 ⟨rfl, rfl⟩
  go_wp2_with fail
  refine bodyPost_ret (results_tmp4 rfl _ _ _) rfl ?_
  exact ⟨rfl, rfl⟩
set_option maxRecDepth 1000000 in
set_option maxHeartbeats 4000000 in
/-- a !, and behind it the first @ (or none) at v, too near or last -/
theorem rcut_m (s : ByteArray) (b : Nat) (v : Int) (w : World) (hs : s.size ≤ 1000000) (hb1 : 1 ≤ b) (hb : Lib.indexByte s.data.toList 33 = b) (hv : ixFrom s.data.toList 64 b = v) (hn : v < b + 2 ∨ v = s.size - 1) :
    Calls Tryd.prog 38 #[.string s] w fun e w' => e = .returned noCut ∧ w = w' := by
  have hl : b < s.size := by have := idx_lt hb; rwa [len_ba] at this
  by_cases h1 : v < b + 2
  · go_enter Tryd.func38, Tryd.ntmps38
    go_wp2_with fail
    refine (index_33 s _ hs hb).mono ?_
    rintro e w1 ⟨rfl, rfl⟩
    go_wp2_with fail
    refine (index_from s b _ hs (by omega) hv).mono ?_
    rintro e w1 ⟨rfl, rfl⟩
    go_wp2_with fail
    refine bodyPost_ret (results_tmp4 rfl _ _ _) rfl ?_
    exact ⟨rfl, rfl⟩
  · have h2 : v = s.size - 1 := by omega
    subst h2
    go_enter Tryd.func38, Tryd.ntmps38
    go_wp2_with fail
    refine (index_33 s _ hs hb).mono ?_
    rintro e w1 ⟨rfl, rfl⟩
    go_wp2_with fail
    refine (index_from s b _ hs (by omega) hv).mono ?_
    rintro e w1 ⟨rfl, rfl⟩
    go_wp2_with fail
    refine bodyPost_ret (results_tmp4 rfl _ _ _) rfl ?_
    exact ⟨rfl, rfl⟩

set_option maxRecDepth 1000000 in
set_option maxHeartbeats 4000000 in
/-- a !, an @ behind it, neither near nor last -/
theorem rcut_y (s : ByteArray) (b a : Nat) (v : Int) (w : World) (hs : s.size ≤ 1000000) (hb1 : 1 ≤ b) (hb : Lib.indexByte s.data.toList 33 = b) (ha : ixFrom s.data.toList 64 b = a) (h1 : b + 2 ≤ a) (h2 : a + 1 < s.size) (hv : Lib.indexByte (s.extract 0 b).data.toList 64 = v) :
    Calls Tryd.prog 38 #[.string s] w fun e w' => e = .returned (if 0 ≤ v then noCut else .tuple #[.string (s.extract 0 b), .string (s.extract (b + 1) a), .string (s.extract (a + 1) s.size), .bool true]) ∧ ∃ n, w' = w.drewN n := by
  have h3 : ((a : Int) == s.size - 1) = false := by rw [beq_eq_false_iff_ne]; omega
  have hN := size_ex 0 b hs
  go_enter Tryd.func38, Tryd.ntmps38
  go_wp2_with fail
  refine (index_33 s _ hs hb).mono ?_
  rintro e w1 ⟨rfl, rfl⟩
  go_wp2_with fail
  refine (index_from s b _ hs (by omega) ha).mono ?_
  rintro e w1 ⟨rfl, rfl⟩
  go_wp2_with fail
  refine (index_64 (s.extract 0 b) _ hN hv).mono ?_
  rintro e w1 ⟨rfl, rfl⟩
  go_wp2_with fail
  · refine bodyPost_ret (results_tmp4 rfl _ _ _) rfl ?_
    exact ⟨rfl, 0, rfl⟩
  · go_quiet (fail)
    go_wp2_with fail
    refine bodyPost_ret (results_tmp4 rfl _ _ _) rfl ?_
    exact ⟨rfl, _, rfl⟩

set_option maxRecDepth 1000000 in
set_option maxHeartbeats 4000000 in
/-- no ! -/
theorem gcut_n (s : ByteArray) (w : World) (hs : s.size ≤ 1000000) (hb : Lib.indexByte s.data.toList 33 = -1) :
    Calls Tryd.prog 37 #[.string s] w fun e w' => e = .returned noCut ∧ ∃ n, w' = w.drewN n := by
  go_enter Tryd.func37, Tryd.ntmps37
  go_wp2_with fail
  refine (cut_no s 33 _ hs hb).mono ?_
  rintro e w1 ⟨rfl, rfl⟩
  go_wp2_with fail
  refine (cut_no ⟨#[]⟩ 64 _ (by decide) (by rfl)).mono ?_
  rintro e w3 ⟨rfl, rfl⟩
  go_wp2_with fail
  refine bodyPost_ret (results_tmp4 rfl _ _ _) rfl ?_
  exact ⟨rfl, 0, rfl⟩

set_option maxRecDepth 1000000 in
set_option maxHeartbeats 4000000 in
/-- a !, and no @ behind it -/
theorem gcut_m (s : ByteArray) (b : Nat) (w : World) (hs : s.size ≤ 1000000) (hb : Lib.indexByte s.data.toList 33 = b) (ho : Lib.indexByte (s.extract (b + 1) s.size).data.toList 64 = -1) :
    Calls Tryd.prog 37 #[.string s] w fun e w' => e = .returned noCut ∧ ∃ n, w' = w.drewN n := by
  have hR := size_ex (b + 1) s.size hs
  go_enter Tryd.func37, Tryd.ntmps37
  go_wp2_with fail
  refine (cut_yes s 33 b _ hs hb).mono ?_
  rintro e w1 ⟨rfl, hw1⟩
  go_wp2_with fail
  refine (cut_no (s.extract (b + 1) s.size) 64 _ hR ho).mono ?_
  rintro e w3 ⟨rfl, rfl⟩
  go_wp2_with fail
  refine bodyPost_ret (results_tmp4 rfl _ _ _) rfl ?_
  exact ⟨rfl, hw1⟩

/-- what a mask with a ! at b and an @ as many behind it is cut into -/
def gV (s : ByteArray) (b o : Nat) : Value := if (64 ∈ s.data.toList.take b) ∨ (s.extract 0 b).toList = [] ∨ ((s.extract (b + 1) s.size).extract 0 o).toList = [] ∨ ((s.extract (b + 1) s.size).extract (o + 1) (s.size - (b + 1))).toList = [] then noCut else .tuple #[.string (s.extract 0 b), .string ((s.extract (b + 1) s.size).extract 0 o), .string ((s.extract (b + 1) s.size).extract (o + 1) (s.size - (b + 1))), .bool true]
set_option maxRecDepth 1000000 in
set_option maxHeartbeats 4000000 in
/-- a !, an @ behind it -/
theorem gcut_y (s : ByteArray) (b o : Nat) (w : World) (hs : s.size ≤ 1000000) (hb : Lib.indexByte s.data.toList 33 = b) (ho : Lib.indexByte (s.extract (b + 1) s.size).data.toList 64 = o) :
    Calls Tryd.prog 37 #[.string s] w fun e w' => e = .returned (gV s b o) ∧ ∃ n, w' = w.drewN n := by
  have hN := size_ex 0 b hs
  have hR := size_ex (b + 1) s.size hs
  go_enter Tryd.func37, Tryd.ntmps37
  go_wp2_with fail
  refine (cut_yes s 33 b _ hs hb).mono ?_
  rintro e w1 ⟨rfl, hw1⟩
  go_wp2_with fail
  refine (cut_yes (s.extract (b + 1) s.size) 64 o _ hR ho).mono ?_
  rintro e w3 ⟨rfl, hw3⟩
  have hw := drewN_two hw1 hw3
  go_wp2_with (go_at_call 61; refine (contains1 (s.extract 0 b) 64 _ hN).mono ?_; rintro e w' ⟨rfl, rfl⟩)
  all_goals first
    | (refine bodyPost_ret (results_tmp4 rfl _ _ _) rfl ?_; refine ⟨?_, hw⟩; unfold gV; first | (rw [if_pos (.inl (by assumption))]; rfl) | (rw [if_pos (.inr (.inl (by assumption)))]; rfl) | (rw [if_pos (.inr (.inr (.inl (by assumption))))]; rfl) | (rw [if_pos (.inr (.inr (.inr (by assumption))))]; rfl) | (rw [if_neg (by rintro (h | h | h | h) <;> first | contradiction | (rename_i h9; simp [h] at h9))]; rfl) | (rename_i h9; rw [if_pos (by rcases h9 with (h9 | h9) | h9 <;> simp at h9 <;> simp [h9])]; rfl))

end Go.Proofs.YtoaimmojnmgelaaDoor
