/- Layer 13: a past or none; awake. -/
import Derived.Test.YtkifblbmppjicaaWasF
namespace Go.Proofs.Ytkifblbmppjicaa
set_option linter.unusedVariables false
set_option linter.unusedSimpArgs false
open Go.RowKit Go.Shelf

set_option maxRecDepth 100000 in
theorem past_all_nil (w : World) :
    Calls Try.prog 15 #[.pointer none] w fun e w' => (∃ f, e = .returned f ∧ Tale w.heap.size w' [] f) ∧ Below w.heap.size w w' := by
  obtain ⟨i0, hi, hz0, hz1, hz2⟩ := info_parts Try.infoWE
  have hmk := run_make (P := Try.prog) w 78 82 i0 _ Try.underlying78 hi hz0 .i64 .i64 0 ((0 : Nat) : Int) (by omega) (by omega) (by rw [hz2]; omega) (by omega)
  rw [Int.toNat_natCast, hz1] at hmk
  have hown := World.ownsRow_made (base := w.heap.size) (e := 82) (size := 2) w (madeCells #[.string ⟨#[]⟩, .int .i64 0] (0 * 2)) 0 (Nat.le_refl _) (by unfold maxLen; omega) (size_madeCells _ _)
  have hmk : (Instr.makeSlice 78 (.int .i64 0) (.int .i64 0)).run Try.prog w = .ok (.slice (some ⟨w.heap.size, 0, none⟩) 0 0) (w.alloc (.cells (zrow 0) 82)) := hmk
  have HO := Lib.hid hown
  clear hown hi hz0 hz1 hz2 i0
  go_enter Try.func15, Try.ntmps15
  go_wp2_with fail
  refine (past_len_nil _).mono ?_
  rintro e w' ⟨rfl, rfl⟩
  go_wp2_with fail
  refine (past_len_nil _).mono ?_
  rintro e w' ⟨rfl, rfl⟩
  go_wp2_with fail
  obtain ⟨wz, hwz⟩ : ∃ wz, w.alloc (.cells (zrow 0) 82) = wz := ⟨_, rfl⟩
  have hO := HO.out
  have hB : Below w.heap.size w wz := hwz ▸ (Below.refl _ w).alloc (Nat.le_refl _) _
  have hO : wz.ownsRow w.heap.size 82 2 (.slice (some ⟨w.heap.size, 0, none⟩) 0 0) 0 [] := hwz ▸ hO
  rw [hwz]
  have HO2 := Lib.hid hO
  have HB := Lib.hid hB
  clear hO hB hwz hmk
  go_loopw [3, 10] (fun v c wr => c = .int .i64 0 ∧ v = .slice (some ⟨w.heap.size, 0, none⟩) 0 0 ∧ Hid (wr.ownsRow w.heap.size 82 2 (.slice (some ⟨w.heap.size, 0, none⟩) 0 0) 0 []) ∧ Hid (Below w.heap.size w wr)) (fun _ _ _ => 0)
  case atStart => exact ⟨rfl, rfl, HO2, HB⟩
  case round =>
    obtain ⟨rfl, rfl, HO3, HB3⟩ := hrel
    go_wp2_with fail
    refine (was_told _ _ _ _).mono ?_
    rintro e w' ⟨rfl, rfl⟩
    go_wp2_with fail
    go_ret
    have hB := HB3.out
    exact ⟨⟨_, rfl, tale_new (xs := []) hB.size HO3.out⟩, hB.alloc hB.size _⟩

/-- a past, or none -/
def PastV (w : World) (p : Value) (N : Nat) (h : List Ent) : Prop := (p = .pointer none ∧ h = []) ∨ ∃ q R, p = .pointer (some ⟨q, 0, none⟩) ∧ PastAt w q R N h
theorem pastv_kept {w W : World} {p : Value} {N : Nat} {h : List Ent} (k : PastV w p N h) (hb : Below w.heap.size w W) : PastV W p N h := by
  rcases k with k | ⟨q, R, rfl, k⟩
  · exact .inl k
  · exact .inr ⟨q, R, rfl, past_kept k (hb.block q (blk_lt k.hd)) (by obtain ⟨cs, hr, _⟩ := k.row; exact hb.block R (blk_lt hr))⟩
theorem pastv_all {w : World} {p : Value} {N : Nat} {h : List Ent} (k : PastV w p N h) (hN : N ≤ 100000) :
    Calls Try.prog 15 #[p] w fun e w' => (∃ f, e = .returned f ∧ Tale w.heap.size w' (lastN N h) f) ∧ Below w.heap.size w w' := by
  rcases k with ⟨rfl, rfl⟩ | ⟨q, R, rfl, k⟩
  · rw [show lastN N [] = [] by simp [lastN]]; exact past_all_nil w
  · exact past_all k hN
theorem lastN_mem {N : Nat} {h : List Ent} {x : Ent} (hx : x ∈ lastN N h) : x ∈ h := by simpa using List.mem_of_mem_take hx
theorem pastv_find {w : World} {p : Value} {N : Nat} {h : List Ent} (k : PastV w p N h) (hN : N ≤ 100000) (hsz : ∀ x ∈ h, x.1.size ≤ 1000000) (nm : ByteArray) (hnm : nm.size ≤ 1000000) :
    Calls Try.prog 40 #[p, .string nm] w fun e w' => (∃ f, e = .returned f ∧ Tale w.heap.size w' (named nm (lastN N h)) f) ∧ Below w.heap.size w w' :=
  past_find_of (n0 := 0) nm hnm (by rw [lastN_len]; omega) (fun x hx => hsz x (lastN_mem hx)) fun W hW => pastv_all (pastv_kept k hW) hN
/-- what a past tells: all, or those under a name -/
def toldE (N : Nat) (h : List Ent) (nm : ByteArray) (all : Bool) : List Ent := if all then lastN N h else named nm (lastN N h)
theorem same13 {w : World} {p : Value} {N : Nat} {h ws : List Ent} {base : Nat} {wv : Value} (k : PastV w p N h) (hN : N ≤ 100000) (hsz : ∀ x ∈ h, x.1.size ≤ 1000000) (nm : ByteArray) (all : Bool) (hnm : nm.size ≤ 1000000) (hws : ws.length ≤ 100000)
    (hwv : w.ownsRow base 29 2 wv ws.length (entL ws)) :
    Calls Try.prog 13 #[p, wv, .string nm, .bool all] w fun e w' => e = .returned (.bool (decide (toldE N h nm all = ws))) ∧ Below w.heap.size w w' :=
  same13_of nm all hnm (by rw [lastN_len]; omega) (Nat.le_trans (named_len _ _) (by rw [lastN_len]; omega)) hws hwv (fun W hW => pastv_find (pastv_kept k hW) hN hsz nm hnm) fun W hW => pastv_all (pastv_kept k hW) hN
theorem past_fresh (n : Nat) (w : World) : PastAt ((w.alloc (.cells (zrow n) 82)).alloc (.cells #[.slice (some ⟨w.heap.size, 0, none⟩) n n, .int .i64 0, .bool false] 80)) (w.heap.size + 1) w.heap.size n [] := by
  refine ⟨by omega, ?_, ⟨zrow n, blk_alloc (heap_alloc_new w _) _, by simp [zrow, size_madeCells], fun j hj => by simp at hj⟩, fun _ => rfl⟩
  have := heap_alloc_new (w.alloc (.cells (zrow n) 82)) (.cells #[.slice (some ⟨w.heap.size, 0, none⟩) n n, .int .i64 0, .bool false] 80)
  rw [World.size_alloc] at this
  rw [this]
  have e : fullB n [] = false := by unfold fullB; rw [decide_eq_false_iff_not]; rintro ⟨h1, h2⟩; simp at h2; omega
  rw [e]
  simp

set_option maxRecDepth 100000 in
set_option maxHeartbeats 1000000 in
theorem awake13 (w : World) : Calls Try.prog 9 #[] w fun e w' => e = .returned (.bool true) ∧ Below w.heap.size w w' := by
  go_enter Try.func9, Try.ntmps9
  go_wp2_with fail
  refine (was_new 2 (by omega) w).mono ?_
  rintro e w0 ⟨rfl, hw0⟩
  have hP0 := past_fresh 2 w
  rw [← hw0] at hP0
  have hB0 : Below w.heap.size w w0 := by rw [hw0]; exact ((Below.refl _ w).alloc (Nat.le_refl _) _).alloc (by simp) _
  have H0 := Lib.hid (And.intro hP0 hB0)
  clear hP0 hB0 hw0
  go_wp2_with fail
  refine (past_put H0.out.1 (by omega) _ _).mono ?_
  rintro e w1 ⟨rfl, hP1, hF1⟩
  have H1 := Lib.hid (And.intro hP1 (H0.out.2.trans (hF1.below H0.out.2.size fun k _ hk => by rcases hk with rfl | rfl <;> omega)))
  clear hP1 hF1
  go_wp2_with fail
  refine (past_put H1.out.1 (by omega) _ _).mono ?_
  rintro e w2 ⟨rfl, hP2, hF2⟩
  have H2 := Lib.hid (And.intro hP2 (H1.out.2.trans (hF2.below H1.out.2.size fun k _ hk => by rcases hk with rfl | rfl <;> omega)))
  clear hP2 hF2
  go_wp2_with fail
  refine (past_put H2.out.1 (by omega) _ _).mono ?_
  rintro e w3 ⟨rfl, hP3, hF3⟩
  have H3 := Lib.hid (And.intro hP3 (H2.out.2.trans (hF3.below H2.out.2.size fun k _ hk => by rcases hk with rfl | rfl <;> omega)))
  clear hP3 hF3
  go_wp2_with fail
  refine (same13 (ws := [(⟨#[65]⟩, 3), (⟨#[98]⟩, 2)]) (base := w3.heap.size) (pastv_kept (.inr ⟨_, _, rfl, H3.out.1⟩) ((Below.refl _ _).alloc (Nat.le_refl _) _)) (by omega) (by decide) _ _ (by decide) (by decide) (World.ownsRow_lit w3 _ 2 (Nat.le_refl _) (by decide) rfl)).mono ?_
  rintro e w4 ⟨rfl, q4⟩
  rw [show decide (toldE 2 (went 2 (went 2 (went 2 [] (⟨#[97]⟩, 1)) (⟨#[98]⟩, 2)) (⟨#[65]⟩, 3)) ⟨#[]⟩ true = [(⟨#[65]⟩, 3), (⟨#[98]⟩, 2)]) = true by decide]
  have hB4 : Below w.heap.size w w4 := H3.out.2.trans (((Below.refl _ w3).alloc (Nat.le_refl _) _ |>.trans (q4.mono (by simp))).mono H3.out.2.size)
  have hP4 : PastAt w4 (w.heap.size + 1) w.heap.size 2 _ := past_kept H3.out.1 (((Below.refl _ w3).alloc (Nat.le_refl _) _ |>.trans (q4.mono (by simp))).block _ (blk_lt H3.out.1.hd)) (by obtain ⟨cs, hr, _⟩ := H3.out.1.row; exact ((Below.refl _ w3).alloc (Nat.le_refl _) _ |>.trans (q4.mono (by simp))).block _ (blk_lt hr))
  have H4 := Lib.hid (And.intro hP4 hB4)
  clear q4 hP4 hB4
  go_wp2_with fail
  refine (same13 (ws := [(⟨#[65]⟩, 3)]) (base := w4.heap.size) (pastv_kept (.inr ⟨_, _, rfl, H4.out.1⟩) ((Below.refl _ _).alloc (Nat.le_refl _) _)) (by omega) (by decide) _ _ (by decide) (by decide) (World.ownsRow_lit w4 _ 1 (Nat.le_refl _) (by decide) rfl)).mono ?_
  rintro e w5 ⟨rfl, q5⟩
  rw [show decide (toldE 2 (went 2 (went 2 (went 2 [] (⟨#[97]⟩, 1)) (⟨#[98]⟩, 2)) (⟨#[65]⟩, 3)) ⟨#[97]⟩ false = [(⟨#[65]⟩, 3)]) = true by decide]
  have hB5 : Below w.heap.size w w5 := H4.out.2.trans (((Below.refl _ w4).alloc (Nat.le_refl _) _ |>.trans (q5.mono (by simp))).mono H4.out.2.size)
  have H5 := Lib.hid hB5
  clear q5 hB5
  go_wp2_with fail
  go_ret
  exact ⟨ret_bool (by decide), H5.out⟩
end Go.Proofs.Ytkifblbmppjicaa
