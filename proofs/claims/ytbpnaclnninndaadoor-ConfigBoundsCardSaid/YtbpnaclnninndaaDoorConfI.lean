/- ConfigBounds, walked. -/
import Derived.Test.YtbpnaclnninndaaDoorConfF
import Derived.Test.YtbpnaclnninndaaDoorConfG
import Derived.Test.YtbpnaclnninndaaDoorConfH
namespace Go.Proofs.YtbpnaclnninndaaDoor
set_option linter.unusedVariables false
set_option linter.unusedSimpArgs false
open Go.RowKit

theorem hz_of {n lo hi : Int} {v : Int} (h1 : lo ≤ n → n ≤ hi → 0 = v) (h2 : ¬ (lo ≤ n ∧ n ≤ hi) → 2 = v) : (0 = v ∧ lo ≤ n ∧ n ≤ hi) ∨ (2 = v ∧ ¬ (lo ≤ n ∧ n ≤ hi)) := by
  by_cases h : lo ≤ n ∧ n ≤ hi
  · exact .inl ⟨h1 h.1 h.2, h⟩
  · exact .inr ⟨h2 h, h⟩
theorem configBounds_walk (x n : Int) (w : World) (h0 : 0 ≤ x) (h1 : x ≤ 255) (hr : Rowed w) :
    Calls Tryd.prog 8 #[.int .u8 x, .int .i64 n] w fun e w' => e = .returned (.bool true) ∧ Below w.heap.size w w' := by
  rcases (by omega : x % 11 = 0 ∨ x % 11 = 1 ∨ x % 11 = 2 ∨ x % 11 = 3 ∨ x % 11 = 4 ∨ x % 11 = 5 ∨ x % 11 = 6 ∨ x % 11 = 7 ∨ x % 11 = 8 ∨ x % 11 = 9 ∨ x % 11 = 10) with h | h | h | h | h | h | h | h | h | h | h
  · exact bounds_0 x n w h0 h1 h hr ⟨_, chk_usual n 8192 10 100 20 30 30 50 60 30 20, hz_of (fun l1 l2 => chkN_yes (by simp [numsB, inR, l1, l2])) (fun l => chkN_no (k := 0) (inR_no l))⟩
  · exact bounds_1 x n w h0 h1 h hr ⟨_, chk_usual 100 n 10 100 20 30 30 50 60 30 20, hz_of (fun l1 l2 => chkN_yes (by simp [numsB, inR, l1, l2])) (fun l => chkN_no (k := 1) (inR_no l))⟩
  · exact bounds_2 x n w h0 h1 h hr ⟨_, chk_usual 100 8192 n 100 20 30 30 50 60 30 20, hz_of (fun l1 l2 => chkN_yes (by simp [numsB, inR, l1, l2])) (fun l => chkN_no (k := 2) (inR_no l))⟩
  · exact bounds_3 x n w h0 h1 h hr ⟨_, chk_usual 100 8192 10 n 20 30 30 50 60 30 20, hz_of (fun l1 l2 => chkN_yes (by simp [numsB, inR, l1, l2])) (fun l => chkN_no (k := 3) (inR_no l))⟩
  · exact bounds_4 x n w h0 h1 h hr ⟨_, chk_usual 100 8192 10 100 n 30 30 50 60 30 20, hz_of (fun l1 l2 => chkN_yes (by simp [numsB, inR, l1, l2])) (fun l => chkN_no (k := 4) (inR_no l))⟩
  · exact bounds_5 x n w h0 h1 h hr ⟨_, chk_usual 100 8192 10 100 20 n 30 50 60 30 20, hz_of (fun l1 l2 => chkN_yes (by simp [numsB, inR, l1, l2])) (fun l => chkN_no (k := 5) (inR_no l))⟩
  · exact bounds_6 x n w h0 h1 h hr ⟨_, chk_usual 100 8192 10 100 20 30 n 50 60 30 20, hz_of (fun l1 l2 => chkN_yes (by simp [numsB, inR, l1, l2])) (fun l => chkN_no (k := 6) (inR_no l))⟩
  · exact bounds_7 x n w h0 h1 h hr ⟨_, chk_usual 100 8192 10 100 20 30 30 n 60 30 20, hz_of (fun l1 l2 => chkN_yes (by simp [numsB, inR, l1, l2])) (fun l => chkN_no (k := 7) (inR_no l))⟩
  · exact bounds_8 x n w h0 h1 h hr ⟨_, chk_usual 100 8192 10 100 20 30 30 50 n 30 20, hz_of (fun l1 l2 => chkN_yes (by simp [numsB, inR, l1, l2])) (fun l => chkN_no (k := 8) (inR_no l))⟩
  · exact bounds_9 x n w h0 h1 h hr ⟨_, chk_usual 100 8192 10 100 20 30 30 50 60 n 20, hz_of (fun l1 l2 => chkN_yes (by simp [numsB, inR, l1, l2])) (fun l => chkN_no (k := 9) (inR_no l))⟩
  · exact bounds_10 x n w h0 h1 h hr ⟨_, chk_usual 100 8192 10 100 20 30 30 50 60 30 n, hz_of (fun l1 l2 => chkN_yes (by simp [numsB, inR, l1, l2])) (fun l => chkN_no (k := 10) (inR_no l))⟩
end Go.Proofs.YtbpnaclnninndaaDoor
