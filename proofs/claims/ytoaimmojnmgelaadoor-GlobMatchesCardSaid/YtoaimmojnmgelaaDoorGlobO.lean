/- GlobMatches, GlobHits, GlobCompletes, walked. -/
import Derived.Test.YtoaimmojnmgelaaDoorGlobN
namespace Go.Proofs.YtoaimmojnmgelaaDoor
open Go.RowKit

theorem mm_all (s : List UInt8) : mm [42] s = true := by
  rw [mm_star]; exact ⟨s.length, Nat.le_refl _, by simp [mm]⟩
theorem cells_one {W w' : World} {x : ByteArray} {e : TypeId} (h : Below (W.heap.size + 1) (W.alloc (.cells #[.string x] e)) w') : ∀ j (hj : j < [x].length), w'.cell? ⟨W.heap.size, j, none⟩ = some (.string [x][j]) := by
  intro j hj
  rw [h.cell (by simp)]
  have := cells_new W #[.string x] e j (.string [x][j]) (by simp at hj; subst hj; simp)
  have hadd : (⟨W.heap.size, 0, none⟩ : Addr).add j = ⟨W.heap.size, j, none⟩ := by unfold Addr.add; split <;> simp_all
  rwa [hadd] at this
theorem cells_three {W w' : World} {x y z : ByteArray} {e : TypeId} (h : Below (W.heap.size + 1) (W.alloc (.cells #[.string x, .string y, .string z] e)) w') : ∀ j (hj : j < [x, y, z].length), w'.cell? ⟨W.heap.size, j, none⟩ = some (.string [x, y, z][j]) := by
  intro j hj
  rw [h.cell (by simp)]
  have := cells_new W #[.string x, .string y, .string z] e j (.string [x, y, z][j]) (by
    simp at hj
    rcases (by omega : j = 0 ∨ j = 1 ∨ j = 2) with rfl | rfl | rfl <;> simp)
  have hadd : (⟨W.heap.size, 0, none⟩ : Addr).add j = ⟨W.heap.size, j, none⟩ := by unfold Addr.add; split <;> simp_all
  rwa [hadd] at this

set_option maxHeartbeats 2000000 in
theorem globMatches_walk (m s : ByteArray) (w : World) (_hm : m.size ≤ maxLen) (_hs : s.size ≤ maxLen) :
    Calls Tryd.prog 7 #[.string m, .string s] w fun e w' => e = .returned (.bool true) ∧ Below w.heap.size w w' := by
  unfold maxLen at _hm _hs
  have hq := Nat.le_refl w.heap.size
  have q := Below.refl w.heap.size w
  by_cases h1 : 60 < m.size
  · go_enter Tryd.func7, Tryd.ntmps7
    go_wp2_with (go_at_call 32; refine (awake4 _).mono ?_; rintro e w' ⟨rfl, q1⟩)
    go_ret
    exact ⟨rfl, q1⟩
  by_cases h2 : 60 < s.size
  · go_enter Tryd.func7, Tryd.ntmps7
    go_wp2_with (go_at_call 32; refine (awake4 _).mono ?_; rintro e w' ⟨rfl, q1⟩)
    go_ret
    exact ⟨rfl, q1⟩
  have hm : m.size ≤ 1000000 := by omega
  have hs : s.size ≤ 1000000 := by omega
  have e1 : ([m].any fun x => mm x.data.toList s.data.toList) = mm m.data.toList s.data.toList := by simp
  have e3 : ([(⟨#[]⟩ : ByteArray), m, ⟨#[42]⟩].any fun x => mm x.data.toList s.data.toList) = true := by simp [mm_all]
  obtain ⟨b, hb⟩ : ∃ b, mm m.data.toList s.data.toList = b := ⟨_, rfl⟩
  rw [hb] at e1
  have Hb := Lib.hid hb
  have E1 := Lib.hid e1
  have E3 := Lib.hid e3
  clear hb e1 e3
  go_enter Tryd.func7, Tryd.ntmps7
  go_wp2_with fail
  refine (awake4 _).mono ?_
  rintro e w1 ⟨rfl, q1⟩
  replace q := bjoin q hq q1; clear q1
  go_wp2_with fail
  refine (rmatch_any _ _ _ hm hs).mono ?_
  rintro e w2 ⟨rfl, q1⟩
  rw [Hb.out]
  replace q := bjoin q hq q1; clear q1
  cases b
  all_goals
    go_wp2_with fail
    refine (matchB _ _ _ hm hs).mono ?_
    rintro e w3 ⟨rfl, q1⟩
    rw [Hb.out]
    replace q := bjoin q hq q1; clear q1
    go_wp2_with fail
    refine (any_gen s [m] _ 1 1 _ hs rfl (by omega) (cells_one (Below.refl _ _)) (by intro x hx; simp at hx; subst hx; exact hm)).mono ?_
    rintro e w5 ⟨rfl, q1⟩
    rw [E1.out]
    replace q := bjoin (q.alloc q.size (.cells #[.string m] 9)) hq q1; clear q1
    go_wp2_with fail
    refine (any_nil s _).mono ?_
    rintro e w4 ⟨rfl, rfl⟩
    go_wp2_with fail
    refine (any_gen s [⟨#[]⟩, m, ⟨#[42]⟩] _ 3 3 _ hs rfl (by omega) (cells_three (Below.refl _ _)) (by intro x hx; simp at hx; rcases hx with rfl | rfl | rfl <;> first | exact hm | decide)).mono ?_
    rintro e w6 ⟨rfl, q1⟩
    rw [E3.out]
    replace q := bjoin (q.alloc q.size (.cells #[.string ⟨#[]⟩, .string m, .string ⟨#[42]⟩] 9)) hq q1; clear q1
    go_wp2_with fail
    go_ret
    exact ⟨rfl, q⟩

set_option maxHeartbeats 2000000 in
theorem globHits_walk (m a b c : ByteArray) (w : World) (_hm : m.size ≤ maxLen) (_ha : a.size ≤ maxLen) (_hb : b.size ≤ maxLen) (_hc : c.size ≤ maxLen) :
    Calls Tryd.prog 9 #[.string m, .string a, .string b, .string c] w fun e w' => e = .returned (.bool true) ∧ Below w.heap.size w w' := by
  unfold maxLen at _hm _ha _hb _hc
  by_cases h : m.size ≤ 40 ∧ a.size ≤ 40 ∧ b.size ≤ 40 ∧ c.size ≤ 40
  · obtain ⟨h1, h2, h3, h4⟩ := h
    have hm : m.size ≤ 1000 := by omega
    have ha : a.size ≤ 1000 := by omega
    have hb : b.size ≤ 1000 := by omega
    have hc : c.size ≤ 1000 := by omega
    have hm1 : m.size ≤ 1000000 := by omega
    have hcm : (bs (compS m)).size ≤ 1000000 := by have := comp_len m; omega
    have hj : (a ++ ⟨#[33]⟩ ++ b ++ ⟨#[64]⟩ ++ c).size ≤ 1000000 := by
      have e1 : (⟨#[33]⟩ : ByteArray).size = 1 := rfl
      have e2 : (⟨#[64]⟩ : ByteArray).size = 1 := rfl
      simp only [ByteArray.size_append]; omega
    have HM := Lib.hid hcm
    have HJ := Lib.hid hj
    have hq := Nat.le_refl w.heap.size
    have q := Below.refl w.heap.size w
    clear hcm hj
    go_enter Tryd.func9, Tryd.ntmps9
    go_wp2_with fail
    refine (awake4 _).mono ?_
    rintro e w1 ⟨rfl, q1⟩
    replace q := bjoin q hq q1; clear q1
    go_wp2_with fail
    refine (hits_any _ _ _ _ _ hm ha hb hc HM.out).mono ?_
    rintro e w2 ⟨rfl, q1⟩
    replace q := bjoin q hq q1; clear q1
    go_wp2_with fail
    refine (compB_ref _ _ hm1).mono ?_
    rintro e w3 ⟨rfl, q1⟩
    replace q := bjoin q hq q1; clear q1
    go_wp2_with fail
    refine (rmatch_any _ _ _ HM.out HJ.out).mono ?_
    rintro e w4 ⟨rfl, q1⟩
    replace q := bjoin q hq q1; clear q1
    go_wp2_with fail
    go_ret
    exact ⟨ret_bool (by simp), q⟩
  · go_enter Tryd.func9, Tryd.ntmps9
    go_wp2_with (go_at_call 32; refine (awake4 _).mono ?_; rintro e w' ⟨rfl, q1⟩)
    all_goals go_ret
    all_goals exact ⟨rfl, q1⟩

set_option maxRecDepth 100000 in
set_option maxHeartbeats 4000000 in
theorem globCompletes_walk (s : ByteArray) (w : World) (_hs : s.size ≤ maxLen) :
    Calls Tryd.prog 8 #[.string s] w fun e w' => e = .returned (.bool true) ∧ Below w.heap.size w w' := by
  unfold maxLen at _hs
  have hq := Nat.le_refl w.heap.size
  have q := Below.refl w.heap.size w
  by_cases h1 : 80 < s.size
  · go_enter Tryd.func8, Tryd.ntmps8
    go_wp2_with (go_at_call 32; refine (awake4 _).mono ?_; rintro e w' ⟨rfl, q1⟩)
    go_ret
    exact ⟨rfl, q1⟩
  have hs : s.size ≤ 1000000 := by omega
  have hcm : (bs (compS s)).size ≤ 1000000 := by have := comp_len s; omega
  obtain ⟨n, u, h, hW⟩ := comp_whole s
  have hcut : cutV (bs (compS s)) = .tuple #[.string (bs n), .string (bs u), .string (bs h), .bool true] := cutV_yes (by rw [bs_toList]; exact hW)
  have hcc : bs (compS (bs (compS s))) = bs (compS s) := by rw [whole_comp (s := bs (compS s)) (n := n) (u := u) (h := h) (by rw [bs_toList]; exact hW), bs_toList]
  have HC := Lib.hid hcut
  have HCC := Lib.hid hcc
  have HM := Lib.hid hcm
  clear hW hcut hcc hcm
  by_cases hx : ∃ n u h, Whole s.data.toList n u h
  · obtain ⟨n1, u1, h1, hW1⟩ := hx
    have hv := cutV_yes hW1
    have hws : bs (compS s) = s := by rw [whole_comp hW1]; rfl
    have HV := Lib.hid hv
    have HS := Lib.hid hws
    clear hW1 hv hws
    go_enter Tryd.func8, Tryd.ntmps8
    go_wp2_with fail
    refine (awake4 _).mono ?_
    rintro e w1 ⟨rfl, q1⟩
    replace q := bjoin q hq q1; clear q1
    go_wp2_with fail
    refine (compB_glob _ _ hs).mono ?_
    rintro e w1 ⟨rfl, q1⟩
    replace q := bjoin q hq q1; clear q1
    rw [HS.out]
    go_wp2_with fail
    refine (cutB_glob _ _ hs).mono ?_
    rintro e w1 ⟨rfl, q1⟩
    replace q := bjoin q hq q1; clear q1
    rw [HV.out]
    go_wp2_with fail
    refine (cutB_ref _ _ hs).mono ?_
    rintro e w1 ⟨rfl, q1⟩
    replace q := bjoin q hq q1; clear q1
    rw [HV.out]
    go_wp2_with fail
    refine (compB_ref _ _ hs).mono ?_
    rintro e w1 ⟨rfl, q1⟩
    replace q := bjoin q hq q1; clear q1
    rw [HS.out]
    go_wp2_with fail
    refine (cutB_glob _ _ hs).mono ?_
    rintro e w1 ⟨rfl, q1⟩
    replace q := bjoin q hq q1; clear q1
    rw [HV.out]
    go_wp2_with fail
    refine (compB_glob _ _ hs).mono ?_
    rintro e w1 ⟨rfl, q1⟩
    replace q := bjoin q hq q1; clear q1
    rw [HS.out]
    go_wp2_with fail
    go_ret
    exact ⟨rfl, q⟩
  · have hv := cutV_no hx
    have HV := Lib.hid hv
    clear hx hv
    go_enter Tryd.func8, Tryd.ntmps8
    go_wp2_with fail
    refine (awake4 _).mono ?_
    rintro e w1 ⟨rfl, q1⟩
    replace q := bjoin q hq q1; clear q1
    go_wp2_with fail
    refine (compB_glob _ _ hs).mono ?_
    rintro e w1 ⟨rfl, q1⟩
    replace q := bjoin q hq q1; clear q1
    go_wp2_with fail
    refine (cutB_glob _ _ hs).mono ?_
    rintro e w1 ⟨rfl, q1⟩
    replace q := bjoin q hq q1; clear q1
    rw [HV.out]
    unfold noCut
    go_wp2_with fail
    refine (cutB_ref _ _ hs).mono ?_
    rintro e w1 ⟨rfl, q1⟩
    replace q := bjoin q hq q1; clear q1
    rw [HV.out]
    unfold noCut
    go_wp2_with fail
    refine (compB_ref _ _ hs).mono ?_
    rintro e w1 ⟨rfl, q1⟩
    replace q := bjoin q hq q1; clear q1
    go_wp2_with fail
    refine (cutB_glob _ _ HM.out).mono ?_
    rintro e w1 ⟨rfl, q1⟩
    replace q := bjoin q hq q1; clear q1
    rw [HC.out]
    go_wp2_with fail
    refine (compB_glob _ _ HM.out).mono ?_
    rintro e w1 ⟨rfl, q1⟩
    replace q := bjoin q hq q1; clear q1
    rw [HCC.out]
    go_wp2_with fail
    go_ret
    exact ⟨rfl, q⟩
end Go.Proofs.YtoaimmojnmgelaaDoor
