/- Layer 16: PulseNone. -/
import Derived.Test.YtbgmjieagnmpkaaPulE
namespace Go.Proofs.Ytbgmjieagnmpkaa
set_option linter.unusedVariables false
set_option linter.unusedSimpArgs false
open Go Go.RowKit Go.Maps Go.Sort Go.Shelf Go.Lib

theorem same_nil (now : Int) (W : World) : Calls Try.prog 36 #[.pointer none, .slice none 0 0, .int .i64 now] W fun e W' => e = .returned (.bool true) ∧ Fr (fun _ => False) W W' :=
  (same16 (R := []) (fun _ => False) (fun _ => True) (fun _ e => e.elim) (fun _ _ h _ => h) (fun V hf => (pul_due_nil now V).mono fun e W' ⟨h1, h2⟩ => ⟨h1, trivial, h2⟩) (by simp) none 0 (reads_none _) (fun _ _ h => by simp at h)).mono fun e W' ⟨h1, _, h2⟩ => ⟨h1, h2⟩
set_option maxRecDepth 100000 in
set_option maxHeartbeats 8000000 in
theorem pulseNone_walk (rg id : Int) (h0 : 0 ≤ rg) (h1 : rg ≤ 255) (hk : OkKI id) (w : World) : Calls Try.prog 8 #[.int .u8 rg, .int .i64 id] w fun e w' => e = .returned (.bool true) ∧ RowKit.Below w.heap.size w w' := by
  obtain ⟨k, hk1⟩ : ∃ k, 1 + rg % 20 = k := ⟨_, rfl⟩
  have hk2 : 1 ≤ k ∧ k ≤ 20 := by omega
  have hw2 : IntKind.i64.wrap (k - 1) = k - 1 := IntWalk.i64_in _ ⟨by omega, by omega⟩
  have hw3 : IntKind.i64.wrap (k + 1) = k + 1 := IntWalk.i64_in _ ⟨by omega, by omega⟩
  have HN : Hid (∀ W, RowKit.Below w.heap.size w W → _) := fun W hW => s_new (pg := 1) (gr := 1) (rg := k) ⟨by decide, by decide, by decide, by decide, hk2.1, by omega⟩ (w := w) (W := W) hW
  unfold cfgV at HN
  have HK := Lib.hid hk
  clear hk
  go_enter Try.func8, Try.ntmps8
  go_wp2_with fail
  refine (awake16 w).mono ?_
  rintro e w1 ⟨rfl, b1⟩
  have B1 := Lib.hid b1
  clear b1
  go_wp2_with fail
  refine (pul_join_nil _ _ _).mono ?_
  rintro e w2 ⟨rfl, rfl⟩
  go_wp2_with fail
  refine (pul_reg_nil _ _ _).mono ?_
  rintro e w2 ⟨rfl, rfl⟩
  go_wp2_with fail
  refine (pul_line_nil _ _ _).mono ?_
  rintro e w2 ⟨rfl, rfl⟩
  go_wp2_with fail
  refine (pul_leave_nil _ _).mono ?_
  rintro e w2 ⟨rfl, rfl⟩
  go_wp2_with fail
  refine (pul_idle_nil _ _ _).mono ?_
  rintro e w2 ⟨rfl, rfl⟩
  go_wp2_with fail
  refine (HN.out w2 B1.out).mono ?_
  rintro e w3 ⟨B, rfl, h3, _, _⟩
  have K3 := Lib.hid h3
  clear h3 HN B1
  go_wp2_with fail
  refine (s_join K3.out (id := id) (now := 0) HK.out (by decide) (by decide)).mono ?_
  rintro e w4 ⟨rfl, h4, _⟩
  have K4 : Hid (PulS w w4 B 1 1 k [⟨id, 0, false, false⟩]) := h4
  clear h4 K3
  go_wp2_with fail
  refine (s_line K4.out (id := id) (now := k) HK.out (by omega) (by simp)).mono ?_
  rintro e w5 ⟨rfl, h5, _⟩
  have K5 : Hid (PulS w w5 B 1 1 k [⟨id, 0, false, false⟩]) := by
    have : lineC [⟨id, 0, false, false⟩] id k = [⟨id, 0, false, false⟩] := by simp [lineC]
    rw [this] at h5
    exact h5
  clear h5 K4
  go_wp2_with fail
  refine (same_nil _ _).mono ?_
  rintro e w6 ⟨rfl, f6⟩
  have K6 := Lib.hid (K5.out.still f6)
  clear f6 K5
  have d1 := due_one 1 1 k (k - 1) ⟨id, 0, false, false⟩
  have e1 : whatC 1 1 k (k - 1) ⟨id, 0, false, false⟩ = 0 := by unfold whatC; simp; omega
  have c1 : dueC 1 1 k (k - 1) [⟨id, 0, false, false⟩] = [⟨id, 0, false, false⟩] := by simp [dueC, askC, e1]
  rw [e1, if_pos rfl] at d1
  have H7 := Lib.hid (s_same K6.out (now := k - 1) (by omega) (by simp) (R := []) d1 (by decide) none 0 (reads_none _) (fun g o h => by simp at h))
  rw [c1] at H7
  clear d1 e1 c1 K6
  go_wp2_with fail
  refine H7.out.mono ?_
  rintro e w7 ⟨rfl, h7, _⟩
  have K7 := Lib.hid h7
  clear h7 H7
  have d2 := due_one 1 1 k k ⟨id, 0, false, false⟩
  have e2 : whatC 1 1 k k ⟨id, 0, false, false⟩ = 1 := by unfold whatC; simp
  have c2 : dueC 1 1 k k [⟨id, 0, false, false⟩] = [⟨id, 0, false, false⟩] := by simp [dueC, askC, e2]
  rw [e2, if_neg (by decide)] at d2
  have H8 := Lib.hid (s_same (K7.out.still ((Fr.refl _ w7).alloc _)) (now := k) (by omega) (by simp) (R := [(id, 1)]) d2 (by simp) _ 1 (reads_lit w7 id 1) (fun g o _ e h => by have := K7.out.lt _ h; cases e; omega))
  rw [c2] at H8
  clear d2 e2 c2 K7
  go_wp2_with fail
  refine H8.out.mono ?_
  rintro e w8 ⟨rfl, h8, _⟩
  have K8 := Lib.hid h8
  clear h8 H8
  have d3 := due_one 1 1 k (k + 1) ⟨id, 0, false, false⟩
  have e3 : whatC 1 1 k (k + 1) ⟨id, 0, false, false⟩ = 1 := by unfold whatC; simp; omega
  have c3 : dueC 1 1 k (k + 1) [⟨id, 0, false, false⟩] = [⟨id, 0, false, false⟩] := by simp [dueC, askC, e3]
  rw [e3, if_neg (by decide)] at d3
  have H9 := Lib.hid (s_same (K8.out.still ((Fr.refl _ w8).alloc _)) (now := k + 1) (by omega) (by simp) (R := [(id, 1)]) d3 (by simp) _ 1 (reads_lit w8 id 1) (fun g o _ e h => by have := K8.out.lt _ h; cases e; omega))
  rw [c3] at H9
  clear d3 e3 c3 K8
  go_wp2_with fail
  refine H9.out.mono ?_
  rintro e w9 ⟨rfl, h9, _⟩
  have K9 := Lib.hid h9.below
  clear h9 H9
  go_wp2_with fail
  go_ret
  exact ⟨rfl, K9.out⟩
end Go.Proofs.Ytbgmjieagnmpkaa
