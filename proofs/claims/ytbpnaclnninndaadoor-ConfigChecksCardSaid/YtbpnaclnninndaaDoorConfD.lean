/- Layer 15: Usual; awake; ConfigChecks, ConfigBounds, walked. -/
import Derived.Test.YtbpnaclnninndaaDoorConfC
namespace Go.Proofs.YtbpnaclnninndaaDoor
set_option linter.unusedVariables false
set_option linter.unusedSimpArgs false
open Go.RowKit

/-- irc.example -/
def ircB : ByteArray := ⟨#[105, 114, 99, 46, 101, 120, 97, 109, 112, 108, 101]⟩
theorem serv_irc : ServP ircB := by
  refine ⟨⟨by decide, fun i hi => ?_⟩, ⟨by decide, by decide⟩, by decide, by decide⟩
  have hi' : i < 11 := hi
  rcases (by omega : i = 0 ∨ i = 1 ∨ i = 2 ∨ i = 3 ∨ i = 4 ∨ i = 5 ∨ i = 6 ∨ i = 7 ∨ i = 8 ∨ i = 9 ∨ i = 10) with rfl | rfl | rfl | rfl | rfl | rfl | rfl | rfl | rfl | rfl | rfl <;> rfl
theorem pass_em : PassP ⟨#[]⟩ := ⟨fun i h => absurd h (Nat.not_lt_zero _), by decide, fun h => absurd h (Nat.not_lt_zero _)⟩
theorem chk_usual (n0 n1 n2 n3 n4 n5 n6 n7 n8 n9 n10 : Int) : chkA ircB ⟨#[]⟩ ⟨#[]⟩ ⟨#[]⟩ n0 n1 n2 n3 n4 n5 n6 n7 n8 n9 n10 = chkN n0 n1 n2 n3 n4 n5 n6 n7 n8 n9 n10 := by
  unfold chkA
  rw [dec_iff.2 serv_irc, dec_iff.2 pass_em]
  simp
theorem bcell {W w1 : World} (hb : Below W.heap.size W w1) : (∀ b o, b < W.heap.size → w1.cell? ⟨b, o, none⟩ = W.cell? ⟨b, o, none⟩) ∧ (∀ b o, b < W.heap.size → w1.frozen? ⟨b, o, none⟩ = W.frozen? ⟨b, o, none⟩) :=
  ⟨fun b o h => hb.cell (p := ⟨b, o, none⟩) h, fun b o h => hb.frozen (p := ⟨b, o, none⟩) h⟩
theorem usual_any (w : World) : Calls Tryd.prog 25 #[] w fun e w' => e = .returned (cfg ircB ⟨#[]⟩ ⟨#[]⟩ ⟨#[]⟩ 100 8192 10 100 20 30 30 50 60 30 20) ∧ Below w.heap.size w w' := by
  unfold cfg ircB
  go_enter Tryd.func25, Tryd.ntmps25
  go_wp2_with fail
  refine bodyPost_ret (v := .agg #[.string ⟨#[105, 114, 99, 46, 101, 120, 97, 109, 112, 108, 101]⟩, .string ⟨#[]⟩, .string ⟨#[]⟩, .string ⟨#[]⟩, .int .i64 100, .int .i64 8192, .int .i64 10, .int .i64 100, .int .i64 20, .int .i64 30, .int .i64 30, .int .i64 50, .int .i64 60, .int .i64 30, .int .i64 20]) (by simp [results, Tryd.results25, go_sem]) rfl ?_
  exact ⟨rfl, (Below.refl _ _).alloc (Nat.le_refl _) _⟩

set_option maxRecDepth 100000 in
set_option maxHeartbeats 4000000 in
theorem awake15 (w : World) (hr : Rowed w) : Calls Tryd.prog 18 #[] w fun e w' => e = .returned (.bool true) ∧ Below w.heap.size w w' := by
  have hc : chkA ircB ⟨#[]⟩ ⟨#[]⟩ ⟨#[]⟩ 100 8192 10 100 20 30 30 50 60 30 20 = 0 := by rw [chk_usual]; decide
  have HC := Lib.hid hc
  have hq := Nat.le_refl w.heap.size
  have q := Below.refl w.heap.size w
  clear hc
  go_enter Tryd.func18, Tryd.ntmps18
  go_wp2_with fail
  refine (usual_any _).mono ?_
  rintro e w1 ⟨rfl, q1⟩
  unfold cfg ircB
  go_wp2_with fail
  have hr1 := rowed_below hr hq q1
  have hr2 := rowed_below hr1 (Nat.le_refl _) ((Below.refl _ _).alloc (Nat.le_refl _) (.cells #[.string ⟨#[105, 114, 99, 46, 101, 120, 97, 109, 112, 108, 101]⟩, .string ⟨#[]⟩, .string ⟨#[]⟩, .string ⟨#[]⟩, .int .i64 100, .int .i64 8192, .int .i64 10, .int .i64 100, .int .i64 20, .int .i64 30, .int .i64 30, .int .i64 50, .int .i64 60, .int .i64 30, .int .i64 20] 34))
  refine (check_v ircB ⟨#[]⟩ ⟨#[]⟩ ⟨#[]⟩ 100 8192 10 100 20 30 30 50 60 30 20 _ hr2 (by decide) (by decide) (by decide) (by decide)).mono ?_
  rintro e w2 ⟨rfl, q2⟩
  rw [HC.out]
  obtain ⟨hcc, hff⟩ := bcell q2
  clear hr1 hr2
  go_wp2_with fail
  go_ret
  refine ⟨ret_bool (str_em (by decide)), ?_⟩
  have q3 := q1.alloc q1.size (.cells #[.string ⟨#[105, 114, 99, 46, 101, 120, 97, 109, 112, 108, 101]⟩, .string ⟨#[]⟩, .string ⟨#[]⟩, .string ⟨#[]⟩, .int .i64 100, .int .i64 8192, .int .i64 10, .int .i64 100, .int .i64 20, .int .i64 30, .int .i64 30, .int .i64 50, .int .i64 60, .int .i64 30, .int .i64 20] 34)
  exact q3.trans (q2.mono (by have := q1.size; simp; omega))
end Go.Proofs.YtbpnaclnninndaaDoor
