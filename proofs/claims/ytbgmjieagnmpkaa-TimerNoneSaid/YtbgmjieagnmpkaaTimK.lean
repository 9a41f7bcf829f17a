/- Layer 9: TimerNone. -/
import Derived.Test.YtbgmjieagnmpkaaTimJ
namespace Go.Proofs.Ytbgmjieagnmpkaa
set_option linter.unusedVariables false
set_option linter.unusedSimpArgs false
open Go Go.RowKit Go.Maps Go.Sort Go.Shelf Go.Lib

theorem next_nil (w : World) : Calls Try.prog 22 #[.pointer none] w fun e w' => e = .returned (.tuple #[.string ⟨#[]⟩, .int .i64 0, .bool false]) ∧ RowKit.Below w.heap.size w w' :=
  (tim_nextS (T := []) (.inl ⟨rfl, rfl⟩)).mono fun e w' ⟨⟨ys, hys, he⟩, hb⟩ => by
    obtain rfl := hys.eq_nil
    exact ⟨he, hb⟩
set_option maxRecDepth 100000 in
set_option maxHeartbeats 8000000 in
theorem timerNone_walk (k : ByteArray) (at_ : Int) (w : World) : Calls Try.prog 5 #[.string k, .int .i64 at_] w fun e w' => e = .returned (.bool true) ∧ RowKit.Below w.heap.size w w' := by
  obtain ⟨ks, rfl⟩ : ∃ ks, k = bs ks := ⟨k.data.toList, rfl⟩
  by_cases h20 : ks.length ≤ 20
  · have p1 : ¬ ((20 : Int) < (ks.length : Int)) := by omega
    have k1 := tim_set_nilS ks at_
    have k2 := tim_at_nilS ks
    have k3 := tim_stop_nilS ks
    have k4 : ∀ W, Calls Try.prog 21 #[.pointer none, .slice none 0 0, .int .i64 at_] W fun e w' => e = .returned (.bool true) ∧ RowKit.Below W.heap.size W w' := fun W =>
      same9 (T := []) (want := []) (.inl ⟨rfl, rfl⟩) (by simp) (by simp) at_ (List.length_eq_zero_iff.1 (Nat.le_zero.1 (dueMS_len [] at_))) none 0 (fun h => by simp at h)
    unfold kVS at k1 k2 k3
    have K1 := Lib.hid k1
    have K2 := Lib.hid k2
    have K3 := Lib.hid k3
    have K4 := Lib.hid k4
    clear k1 k2 k3 k4
    go_enter Try.func5, Try.ntmps5
    go_wp2_with fail
    refine (awake9 w).mono ?_
    rintro e w1 ⟨rfl, b1⟩
    have B1 := Lib.hid b1
    clear b1
    go_wp2_with fail
    refine (K1.out w1).mono ?_
    rintro e w2 ⟨rfl, rfl⟩
    go_wp2_with fail
    refine (K2.out w2).mono ?_
    rintro e w3 ⟨rfl, rfl⟩
    go_wp2_with fail
    refine (next_nil w3).mono ?_
    rintro e w4 ⟨rfl, b4⟩
    have B4 := Lib.hid (B1.out.trans (b4.mono B1.out.size))
    clear b4 B1
    go_wp2_with fail
    refine (tim_len_nilS w4).mono ?_
    rintro e w5 ⟨rfl, rfl⟩
    go_wp2_with fail
    refine (K3.out w5).mono ?_
    rintro e w6 ⟨rfl, rfl⟩
    go_wp2_with fail
    refine (tim_take_nilS w6 at_).mono ?_
    rintro e w7 ⟨rfl, b7⟩
    have B7 := Lib.hid (B4.out.trans (b7.mono B4.out.size))
    clear b7 B4
    go_wp2_with fail
    refine (K4.out w7).mono ?_
    rintro e w8 ⟨rfl, b8⟩
    have B8 := Lib.hid (B7.out.trans (b8.mono B7.out.size))
    clear b8 B7
    go_wp2_with fail
    go_ret
    exact ⟨rfl, B8.out⟩
  · have p1 : (20 : Int) < (ks.length : Int) := by omega
    go_enter Try.func5, Try.ntmps5
    go_wp2_with fail
    refine (awake9 w).mono ?_
    rintro e w1 ⟨rfl, b1⟩
    have B1 := Lib.hid b1
    clear b1
    go_wp2_with fail
    go_ret
    exact ⟨rfl, B1.out⟩
end Go.Proofs.Ytbgmjieagnmpkaa
