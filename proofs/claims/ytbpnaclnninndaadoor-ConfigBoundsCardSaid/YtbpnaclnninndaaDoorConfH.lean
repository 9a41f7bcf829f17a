/- ConfigBounds, walked: the last numbers. -/
import Derived.Test.YtbpnaclnninndaaDoorConfE
namespace Go.Proofs.YtbpnaclnninndaaDoor
set_option linter.unusedVariables false
set_option linter.unusedSimpArgs false
open Go.RowKit

set_option maxRecDepth 100000 in
set_option maxHeartbeats 8000000 in
theorem bounds_8 (x n : Int) (w : World) (h0 : 0 ≤ x) (h1 : x ≤ 255) (hx : x % 11 = 8) (hr : Rowed w) (hz : ∃ v : Int, chkA ircB ⟨#[]⟩ ⟨#[]⟩ ⟨#[]⟩ 100 8192 10 100 20 30 30 50 n 30 20 = v ∧ ((0 = v ∧ 1 ≤ n ∧ n ≤ 1000000) ∨ (2 = v ∧ ¬ (1 ≤ n ∧ n ≤ 1000000)))) :
    Calls Tryd.prog 8 #[.int .u8 x, .int .i64 n] w fun e w' => e = .returned (.bool true) ∧ Below w.heap.size w w' := by
  have hq := Nat.le_refl w.heap.size
  have q := Below.refl w.heap.size w
  obtain ⟨v, hv, hh⟩ := hz
  have HV := Lib.hid hv
  have HH := Lib.hid hh
  clear hv hh
  go_enter Tryd.func8, Tryd.ntmps8
  go_wp2_with fail
  refine (awake15 _ hr).mono ?_
  rintro e w1 ⟨rfl, q1⟩
  have hr1 := rowed_below hr (Nat.le_refl _) q1
  replace q := bjoin' q hq q1; clear q1
  go_wp2_with fail
  refine (usual_any _).mono ?_
  rintro e w2 ⟨rfl, q1⟩
  have hr2 := rowed_below hr1 (Nat.le_refl _) q1
  have hs1 : w.heap.size ≤ w1.heap.size := q.size
  replace q := bjoin' q hs1 q1; clear q1
  have hs2 : w.heap.size ≤ w2.heap.size := q.size
  unfold cfg ircB
  have hr3 : Rowed (w2.alloc (.cells #[.string ⟨#[105, 114, 99, 46, 101, 120, 97, 109, 112, 108, 101]⟩, .string ⟨#[]⟩, .string ⟨#[]⟩, .string ⟨#[]⟩, .int .i64 100, .int .i64 8192, .int .i64 10, .int .i64 100, .int .i64 20, .int .i64 30, .int .i64 30, .int .i64 50, .int .i64 n, .int .i64 30, .int .i64 20] 34)) := rowed_below hr2 (Nat.le_refl _) ((Below.refl _ _).alloc (Nat.le_refl _) _)
  have q3 : Below w.heap.size w (w2.alloc (.cells #[.string ⟨#[105, 114, 99, 46, 101, 120, 97, 109, 112, 108, 101]⟩, .string ⟨#[]⟩, .string ⟨#[]⟩, .string ⟨#[]⟩, .int .i64 100, .int .i64 8192, .int .i64 10, .int .i64 100, .int .i64 20, .int .i64 30, .int .i64 30, .int .i64 50, .int .i64 n, .int .i64 30, .int .i64 20] 34)) := q.alloc hs2 _
  clear hr1 hr2
  go_wp2_with fail
  refine (check_v ircB ⟨#[]⟩ ⟨#[]⟩ ⟨#[]⟩ 100 8192 10 100 20 30 30 50 n 30 20 _ (by exact hr3) (by decide) (by decide) (by decide) (by decide)).mono ?_
  rintro e w4 ⟨rfl, q4⟩
  rw [HV.out]
  have q5 := bjoin' q3 (by simp; omega) q4
  clear q3 q4 hr3 q
  rcases HH.out with ⟨rfl, l1, l2⟩ | ⟨rfl, l⟩
  · go_wp2_with fail
    go_ret
    exact ⟨ret_bool (by first | rfl | (simp; try omega)), q5⟩
  · by_cases l1 : 1 ≤ n
    · have l2 : ¬ n ≤ 1000000 := fun h => l ⟨l1, h⟩
      clear l
      go_wp2_with fail
      go_ret
      exact ⟨ret_bool (by first | rfl | (simp; try omega)), q5⟩
    · clear l
      go_wp2_with fail
      go_ret
      exact ⟨ret_bool (by first | rfl | (simp; try omega)), q5⟩
set_option maxRecDepth 100000 in
set_option maxHeartbeats 8000000 in
theorem bounds_9 (x n : Int) (w : World) (h0 : 0 ≤ x) (h1 : x ≤ 255) (hx : x % 11 = 9) (hr : Rowed w) (hz : ∃ v : Int, chkA ircB ⟨#[]⟩ ⟨#[]⟩ ⟨#[]⟩ 100 8192 10 100 20 30 30 50 60 n 20 = v ∧ ((0 = v ∧ 1 ≤ n ∧ n ≤ 1000000) ∨ (2 = v ∧ ¬ (1 ≤ n ∧ n ≤ 1000000)))) :
    Calls Tryd.prog 8 #[.int .u8 x, .int .i64 n] w fun e w' => e = .returned (.bool true) ∧ Below w.heap.size w w' := by
  have hq := Nat.le_refl w.heap.size
  have q := Below.refl w.heap.size w
  obtain ⟨v, hv, hh⟩ := hz
  have HV := Lib.hid hv
  have HH := Lib.hid hh
  clear hv hh
  go_enter Tryd.func8, Tryd.ntmps8
  go_wp2_with fail
  refine (awake15 _ hr).mono ?_
  rintro e w1 ⟨rfl, q1⟩
  have hr1 := rowed_below hr (Nat.le_refl _) q1
  replace q := bjoin' q hq q1; clear q1
  go_wp2_with fail
  refine (usual_any _).mono ?_
  rintro e w2 ⟨rfl, q1⟩
  have hr2 := rowed_below hr1 (Nat.le_refl _) q1
  have hs1 : w.heap.size ≤ w1.heap.size := q.size
  replace q := bjoin' q hs1 q1; clear q1
  have hs2 : w.heap.size ≤ w2.heap.size := q.size
  unfold cfg ircB
  have hr3 : Rowed (w2.alloc (.cells #[.string ⟨#[105, 114, 99, 46, 101, 120, 97, 109, 112, 108, 101]⟩, .string ⟨#[]⟩, .string ⟨#[]⟩, .string ⟨#[]⟩, .int .i64 100, .int .i64 8192, .int .i64 10, .int .i64 100, .int .i64 20, .int .i64 30, .int .i64 30, .int .i64 50, .int .i64 60, .int .i64 n, .int .i64 20] 34)) := rowed_below hr2 (Nat.le_refl _) ((Below.refl _ _).alloc (Nat.le_refl _) _)
  have q3 : Below w.heap.size w (w2.alloc (.cells #[.string ⟨#[105, 114, 99, 46, 101, 120, 97, 109, 112, 108, 101]⟩, .string ⟨#[]⟩, .string ⟨#[]⟩, .string ⟨#[]⟩, .int .i64 100, .int .i64 8192, .int .i64 10, .int .i64 100, .int .i64 20, .int .i64 30, .int .i64 30, .int .i64 50, .int .i64 60, .int .i64 n, .int .i64 20] 34)) := q.alloc hs2 _
  clear hr1 hr2
  go_wp2_with fail
  refine (check_v ircB ⟨#[]⟩ ⟨#[]⟩ ⟨#[]⟩ 100 8192 10 100 20 30 30 50 60 n 20 _ (by exact hr3) (by decide) (by decide) (by decide) (by decide)).mono ?_
  rintro e w4 ⟨rfl, q4⟩
  rw [HV.out]
  have q5 := bjoin' q3 (by simp; omega) q4
  clear q3 q4 hr3 q
  rcases HH.out with ⟨rfl, l1, l2⟩ | ⟨rfl, l⟩
  · go_wp2_with fail
    go_ret
    exact ⟨ret_bool (by first | rfl | (simp; try omega)), q5⟩
  · by_cases l1 : 1 ≤ n
    · have l2 : ¬ n ≤ 1000000 := fun h => l ⟨l1, h⟩
      clear l
      go_wp2_with fail
      go_ret
      exact ⟨ret_bool (by first | rfl | (simp; try omega)), q5⟩
    · clear l
      go_wp2_with fail
      go_ret
      exact ⟨ret_bool (by first | rfl | (simp; try omega)), q5⟩
set_option maxRecDepth 100000 in
set_option maxHeartbeats 8000000 in
theorem bounds_10 (x n : Int) (w : World) (h0 : 0 ≤ x) (h1 : x ≤ 255) (hx : x % 11 = 10) (hr : Rowed w) (hz : ∃ v : Int, chkA ircB ⟨#[]⟩ ⟨#[]⟩ ⟨#[]⟩ 100 8192 10 100 20 30 30 50 60 30 n = v ∧ ((0 = v ∧ 1 ≤ n ∧ n ≤ 1000000) ∨ (2 = v ∧ ¬ (1 ≤ n ∧ n ≤ 1000000)))) :
    Calls Tryd.prog 8 #[.int .u8 x, .int .i64 n] w fun e w' => e = .returned (.bool true) ∧ Below w.heap.size w w' := by
  have hq := Nat.le_refl w.heap.size
  have q := Below.refl w.heap.size w
  obtain ⟨v, hv, hh⟩ := hz
  have HV := Lib.hid hv
  have HH := Lib.hid hh
  clear hv hh
  go_enter Tryd.func8, Tryd.ntmps8
  go_wp2_with fail
  refine (awake15 _ hr).mono ?_
  rintro e w1 ⟨rfl, q1⟩
  have hr1 := rowed_below hr (Nat.le_refl _) q1
  replace q := bjoin' q hq q1; clear q1
  go_wp2_with fail
  refine (usual_any _).mono ?_
  rintro e w2 ⟨rfl, q1⟩
  have hr2 := rowed_below hr1 (Nat.le_refl _) q1
  have hs1 : w.heap.size ≤ w1.heap.size := q.size
  replace q := bjoin' q hs1 q1; clear q1
  have hs2 : w.heap.size ≤ w2.heap.size := q.size
  unfold cfg ircB
  have hr3 : Rowed (w2.alloc (.cells #[.string ⟨#[105, 114, 99, 46, 101, 120, 97, 109, 112, 108, 101]⟩, .string ⟨#[]⟩, .string ⟨#[]⟩, .string ⟨#[]⟩, .int .i64 100, .int .i64 8192, .int .i64 10, .int .i64 100, .int .i64 20, .int .i64 30, .int .i64 30, .int .i64 50, .int .i64 60, .int .i64 30, .int .i64 n] 34)) := rowed_below hr2 (Nat.le_refl _) ((Below.refl _ _).alloc (Nat.le_refl _) _)
  have q3 : Below w.heap.size w (w2.alloc (.cells #[.string ⟨#[105, 114, 99, 46, 101, 120, 97, 109, 112, 108, 101]⟩, .string ⟨#[]⟩, .string ⟨#[]⟩, .string ⟨#[]⟩, .int .i64 100, .int .i64 8192, .int .i64 10, .int .i64 100, .int .i64 20, .int .i64 30, .int .i64 30, .int .i64 50, .int .i64 60, .int .i64 30, .int .i64 n] 34)) := q.alloc hs2 _
  clear hr1 hr2
  go_wp2_with fail
  refine (check_v ircB ⟨#[]⟩ ⟨#[]⟩ ⟨#[]⟩ 100 8192 10 100 20 30 30 50 60 30 n _ (by exact hr3) (by decide) (by decide) (by decide) (by decide)).mono ?_
  rintro e w4 ⟨rfl, q4⟩
  rw [HV.out]
  have q5 := bjoin' q3 (by simp; omega) q4
  clear q3 q4 hr3 q
  rcases HH.out with ⟨rfl, l1, l2⟩ | ⟨rfl, l⟩
  · go_wp2_with fail
    go_ret
    exact ⟨ret_bool (by first | rfl | (simp; try omega)), q5⟩
  · by_cases l1 : 1 ≤ n
    · have l2 : ¬ n ≤ 1000000 := fun h => l ⟨l1, h⟩
      clear l
      go_wp2_with fail
      go_ret
      exact ⟨ret_bool (by first | rfl | (simp; try omega)), q5⟩
    · clear l
      go_wp2_with fail
      go_ret
      exact ⟨ret_bool (by first | rfl | (simp; try omega)), q5⟩
end Go.Proofs.YtbpnaclnninndaaDoor
