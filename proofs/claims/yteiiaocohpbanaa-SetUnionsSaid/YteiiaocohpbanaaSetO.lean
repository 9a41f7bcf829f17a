/- Layer 10: awake. -/
import Derived.Test.YteiiaocohpbanaaSetN
namespace Go.Proofs.Yteiiaocohpbanaa
set_option linter.unusedVariables false
set_option linter.unusedSimpArgs false
open Go Go.RowKit Go.Lib Go.Sort Go.Shelf

theorem set_of' {w : World} (A : Option Addr) (xs : List Int) (n c : Nat) (hn : xs.length = n) (hl : xs.length ≤ 1000000) (hr : ReadsI w A xs) (zs : List Int) (hz : normI xs = zs) :
    Calls Try.prog 7 #[.slice A n c] w (OfP zs w) := by
  subst hn; subst hz
  exact set_of A xs c hl hr (normI_ok xs).1
theorem reads_new {w : World} {cs : Array Value} {xs : List Int} (h : ∀ j (h : j < xs.length), cs[j]? = some (.int .i64 xs[j])) : ReadsI (w.alloc (.cells cs 3)) (some ⟨w.heap.size, 0, none⟩) xs := fun _ =>
  ⟨_, _, rfl, by simp, fun j hj => by rw [Nat.zero_add, blk_cell (heap_alloc_new w _) j]; exact h j hj⟩
theorem reads_own {base : Nat} {w : World} {A : Option Addr} {n c : Nat} {xs : List Int} (h : OwnI base w (.slice A n c) xs) : ReadsI w A xs := fun h0 => by
  rcases h.2 with ⟨h1, h2⟩ | ⟨g, cap, cur, h1, h3, h4, h5, _, h6, h7⟩
  · omega
  · injection h1 with q1 q2 q3
    subst q1
    rw [Nat.mul_one] at h7
    refine ⟨g, 0, rfl, blk_lt h4, fun j hj => ?_⟩
    rw [Nat.zero_add, blk_cell h4 j, own_get (base := 0) (w := w) (cap := 0) h4 h7 j hj]
theorem same10 {w : World} (A B : Option Addr) (xs ys : List Int) (n m c d : Nat) (hn : xs.length = n) (hm : ys.length = m) (hlen : n = m) (hl : xs.length ≤ 1000000) (hA : ReadsI w A xs) (hB : ReadsI w B ys) :
    Calls Try.prog 14 #[.slice A n c, .slice B m d] w fun e w' => e = .returned (.bool (decide (xs = ys))) ∧ ∃ n, w' = w.drewN n := by
  subst hn; subst hm
  exact same10_eq A B xs ys c d hlen hl hA hB
theorem union' {w : World} (A : Option Addr) (xss : List (List Int)) (n c : Nat) (hn : xss.length = n) (hn1 : xss.length ≤ 1000) (hl : xss.flatten.length ≤ 1000000)
    (hc : 0 < xss.length → ∃ g o, A = some ⟨g, o, none⟩ ∧ g < w.heap.size ∧ ∀ j (h : j < xss.length), ∃ p, w.cell? ⟨g, o + j, none⟩ = some p ∧ PtrAt w p xss[j]) (zs : List Int) (hz : normI xss.flatten = zs) :
    Calls Try.prog 19 #[.slice A n c] w (AllP zs w) := by
  subst hn; subst hz
  exact set_union A xss c hn1 hl hc
set_option maxRecDepth 100000 in
set_option maxHeartbeats 4000000 in
theorem awake10 (w : World) : Calls Try.prog 6 #[] w fun e w' => e = .returned (.bool true) ∧ Below w.heap.size w w' := by
  have H1 := Lib.hid (set_of' (w := w.alloc (.cells #[.int .i64 1, .int .i64 3] 3)) (some ⟨w.heap.size, 0, none⟩) [1, 3] 2 2 rfl (by decide) (reads_new fun j hj => by match j, hj with | 0, _ => rfl | 1, _ => rfl) [1, 3] (by rw [normI_ins]; rfl))
  go_enter Try.func6, Try.ntmps6
  go_wp2_with fail
  refine H1.out.mono ?_
  rintro e w1 ⟨⟨s1, ob1, rfl, h1, h2⟩, h3⟩
  rw [World.size_alloc] at h2 h1 h3
  have H2 := Lib.hid (set_of' (w := w1.alloc (.cells #[.int .i64 2, .int .i64 3] 3)) (some ⟨w1.heap.size, 0, none⟩) [2, 3] 2 2 rfl (by decide) (reads_new fun j hj => by match j, hj with | 0, _ => rfl | 1, _ => rfl) [2, 3] (by rw [normI_ins]; rfl))
  have hb1 : Below w.heap.size w w1 := ((Below.refl _ w).alloc (Nat.le_refl _) _).trans (h3.mono (by omega))
  have K1 := Lib.hid (And.intro h1 hb1)
  clear h1 h2 h3 hb1
  go_wp2_with fail
  refine H2.out.mono ?_
  rintro e w2 ⟨⟨s2, ob2, rfl, h1, h2⟩, h3⟩
  rw [World.size_alloc] at h2 h1 h3
  have hb2 : Below w1.heap.size w1 w2 := ((Below.refl _ w1).alloc (Nat.le_refl _) _).trans (h3.mono (by omega))
  obtain ⟨W3, hW3⟩ : ∃ W3, w2.alloc (.cells #[.pointer (some ⟨s1, 0, none⟩), .pointer (some ⟨s2, 0, none⟩)] 24) = W3 := ⟨_, rfl⟩
  have hb3 : Below w2.heap.size w2 W3 := by rw [← hW3]; exact (Below.refl _ _).alloc (Nat.le_refl _) _
  have hz3 : w2.heap.size < W3.heap.size := by rw [← hW3, World.size_alloc]; omega
  have hbk : W3.heap[w2.heap.size]? = some (.cells #[.pointer (some ⟨s1, 0, none⟩), .pointer (some ⟨s2, 0, none⟩)] 24 (0, 0)) := by rw [← hW3]; exact heap_alloc_new _ _
  have p1 : PtrAt W3 (.pointer (some ⟨s1, 0, none⟩)) [1, 3] := .inr ⟨_, _, _, rfl, set_below (set_below K1.out.1 hb2) hb3⟩
  have p2 : PtrAt W3 (.pointer (some ⟨s2, 0, none⟩)) [2, 3] := .inr ⟨_, _, _, rfl, set_below h1 hb3⟩
  have hU := union' (w := W3) (some ⟨w2.heap.size, 0, none⟩) [[1, 3], [2, 3]] 2 2 rfl (by decide) (by decide) (fun _ => ⟨_, _, rfl, hz3, fun j hj => by
    rw [Nat.zero_add, blk_cell hbk j]
    match j, hj with
    | 0, _ => exact ⟨_, rfl, p1⟩
    | 1, _ => exact ⟨_, rfl, p2⟩⟩) [1, 2, 3] (by rw [normI_ins]; rfl)
  have hz1 := K1.out.2.size
  have hz2 := hb2.size
  have hB : Below w.heap.size w W3 := K1.out.2.trans ((hb2.mono hz1).trans (hb3.mono (by omega)))
  have HU := Lib.hid hU
  have HB := Lib.hid hB
  have HW := Lib.hid hW3
  clear h1 h2 h3 hb2 hb3 hz3 hbk p1 p2 hU hB hW3
  go_wp2_with fail
  rw [HW.out]
  refine HU.out.mono ?_
  rintro e w4 ⟨⟨F, rfl, hF⟩, hb4⟩
  have HT := Lib.hid (law_told (tells_tale hF (by decide)) (by decide) 9 (by decide) (by decide))
  have H4 := Lib.hid hb4
  clear hF hb4
  go_wp2_with fail
  refine HT.out.mono ?_
  rintro e w5 ⟨⟨v5, rfl, h5⟩, hb5⟩
  obtain ⟨A5, c5, rfl⟩ := row_slice h5
  have hz4 := H4.out.size
  have hzB := HB.out.size
  have hB5 : Below w.heap.size w w5 := HB.out.trans ((H4.out.mono hzB).trans (hb5.mono (by omega)))
  have hr5 : ReadsI w5 A5 [1, 2, 3] := reads_own h5
  obtain ⟨W6, hW6⟩ : ∃ W6, w5.alloc (.cells #[.int .i64 1, .int .i64 2, .int .i64 3] 3) = W6 := ⟨_, rfl⟩
  have hb6 : Below w5.heap.size w5 W6 := by rw [← hW6]; exact (Below.refl _ _).alloc (Nat.le_refl _) _
  have hS := same10 (w := W6) A5 (some ⟨w5.heap.size, 0, none⟩) [1, 2, 3] [1, 2, 3] 3 3 c5 3 rfl rfl rfl (by decide) (hr5.below hb6) (by rw [← hW6]; exact reads_new fun j hj => by match j, hj with | 0, _ => rfl | 1, _ => rfl | 2, _ => rfl)
  have HS := Lib.hid hS
  have HW6 := Lib.hid hW6
  have H6 := Lib.hid (And.intro hB5 hb6)
  clear h5 hb5 hB5 hr5 hb6 hW6 hS
  go_wp2_with fail
  rw [HW6.out]
  refine HS.out.mono ?_
  rintro e w7 ⟨rfl, q, rfl⟩
  go_wp2_with fail
  go_ret
  obtain ⟨hB5, hb6⟩ := H6.out
  have h7 : Below w.heap.size w W6 := hB5.trans (hb6.mono hB5.size)
  exact ⟨by simp, h7.os, h7.tape, h7.output, h7.size, h7.block⟩
end Go.Proofs.Yteiiaocohpbanaa
