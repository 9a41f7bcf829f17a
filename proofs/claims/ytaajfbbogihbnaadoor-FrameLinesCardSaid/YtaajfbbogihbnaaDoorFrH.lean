/- Layer 5: Same; awake. -/
import Derived.Test.YtaajfbbogihbnaaDoorFrG
import Derived.Test.YtaajfbbogihbnaaDoorFrE
namespace Go.Proofs.YtaajfbbogihbnaaDoor
set_option linter.unusedVariables false
set_option linter.unusedSimpArgs false
open Go Go.RowKit Go.Lib

theorem ownLn_cell {base : Nat} {W : World} {v : Value} {xs : List FSt} (h : OwnLn base W v xs) (h0 : 0 < xs.length) : ∃ g c, v = .slice (some ⟨g, 0, none⟩) xs.length c ∧ base ≤ g ∧ g < W.heap.size ∧ ∀ j (hj : j < xs.length), W.cell? ⟨g, j * 2, none⟩ = some (.string (bs xs[j].1)) ∧ W.cell? ⟨g, j * 2 + 1, none⟩ = some (.bool xs[j].2) := by
  have h' := h
  rcases h.2 with ⟨rfl, h1⟩ | ⟨g, cap, cur, rfl, hb, hg, hn, hm, _⟩
  · omega
  · refine ⟨g, cap, rfl, hb, (Array.getElem?_eq_some_iff.1 hg).1, fun j hj => ?_⟩
    have fm : ∀ (l : List FSt) (j : Nat) (hj : j < l.length), (l.flatMap encL2)[j * 2]? = some (.string (bs l[j].1)) ∧ (l.flatMap encL2)[j * 2 + 1]? = some (.bool l[j].2) := by
      intro l
      induction l with
      | nil => intro j hj; simp at hj
      | cons a l ih =>
        intro j hj
        cases j with
        | zero => exact ⟨rfl, rfl⟩
        | succ j =>
          have := ih j (by simpa using hj)
          rw [List.flatMap_cons]
          have e1 : (j + 1) * 2 = (encL2 a).length + j * 2 := by simp [encL2]; omega
          have e2 : (j + 1) * 2 + 1 = (encL2 a).length + (j * 2 + 1) := by simp [encL2]; omega
          rw [e2, e1, List.getElem?_append_right (by omega), List.getElem?_append_right (by omega)]
          simpa using this
    obtain ⟨q1, q2⟩ := fm xs j hj
    have r1 := h'.cells (g := g) rfl _ _ q1
    have r2 := h'.cells (g := g) rfl _ _ q2
    rw [add8, Nat.zero_add] at r1 r2
    exact ⟨r1, r2⟩
set_option maxRecDepth 1000000 in
set_option maxHeartbeats 8000000 in
theorem sameLn (b1 b2 : Nat) (v u : Value) (xs ys : List FSt) (w : World) (h1 : OwnLn b1 w v xs) (h2 : OwnLn b2 w u ys) (hl : xs.length ≤ 1000000) (hl2 : ys.length ≤ 1000000) :
    Calls Tryd.prog 11 #[v, u] w fun e w' => e = .returned (.bool (decide (xs = ys))) ∧ Fr (fun _ => False) w w' := by
  have hc1 := ownLn_cell h1
  have hc2 := ownLn_cell h2
  obtain ⟨A, c, rfl⟩ := row_slice h1
  obtain ⟨B, d, rfl⟩ := row_slice h2
  clear h1 h2
  by_cases hne : xs.length = ys.length
  · have hq : ((xs.length : Int) != (ys.length : Int)) = false := by rw [hne]; exact bne_self_eq_false _
    have HC := Lib.hid (And.intro hc1 hc2)
    have HNE := Lib.hid hne
    clear hc1 hc2 hne
    go_enter Tryd.func11, Tryd.ntmps11
    go_wp2_with fail
    go_loopg [5] xs.length (fun g s5 wr => ∃ i : Nat, i + g = xs.length ∧ s5 = .int .i64 i ∧ Hid (xs.take i = ys.take i ∧ Fr (fun _ => False) w wr))
    case atStart => exact ⟨0, by omega, rfl, rfl, Fr.refl _ _⟩
    case round =>
      obtain ⟨i, hig, rfl, HX⟩ := hrel
      cases gk with
      | zero =>
        obtain rfl : i = xs.length := by omega
        have hiz : ¬ ((xs.length : Int) < (xs.length : Int)) := by omega
        go_wp2_with fail
        go_ret
        refine ⟨ret_bool (decide_eq_true ?_).symm, HX.out.2⟩
        have := HX.out.1
        rw [List.take_length, HNE.out, List.take_length] at this
        exact this
      | succ gm =>
        have hi : i < xs.length := by omega
        have hiz : (i : Int) < (xs.length : Int) := by omega
        have hi2 : i < ys.length := by have := HNE.out; omega
        have hiz2 : (i : Int) < (ys.length : Int) := by omega
        have hwi : IntKind.i64.wrap ((i : Int) + 1) = (i : Int) + 1 := IntWalk.i64_in _ (by omega)
        obtain ⟨g1, c1, e1, _, gl1, k1⟩ := HC.out.1 (by omega)
        cases e1
        obtain ⟨g2, c2, e2, _, gl2, k2⟩ := HC.out.2 (by omega)
        cases e2
        have a1 := (HX.out.2.cell (p := ⟨g1, i * 2, none⟩) gl1 fun e => e).trans (k1 i hi).1
        have a2 := (HX.out.2.cell (p := ⟨g1, i * 2 + 1, none⟩) gl1 fun e => e).trans (k1 i hi).2
        have a3 := (HX.out.2.cell (p := ⟨g2, i * 2, none⟩) gl2 fun e => e).trans (k2 i hi2).1
        have a4 := (HX.out.2.cell (p := ⟨g2, i * 2 + 1, none⟩) gl2 fun e => e).trans (k2 i hi2).2
        obtain ⟨⟨xa, xb⟩, hx⟩ : ∃ x, xs[i] = x := ⟨_, rfl⟩
        obtain ⟨⟨ya, yb⟩, hy⟩ : ∃ y, ys[i] = y := ⟨_, rfl⟩
        rw [hx] at a1 a2
        rw [hy] at a3 a4
        have HXY := Lib.hid (And.intro hx hy)
        clear hx hy k1 k2 gl1 gl2
        by_cases ha : xa = ya
        · subst ha
          by_cases hb : xb = yb
          · subst hb
            go_wp2_with fail
            go_region
            all_goals
              go_wp2_with fail
              go_roundg gm
              case measure => omega
              case rel => exact ⟨i + 1, by omega, by simp, by rw [List.take_succ_eq_append_getElem hi, List.take_succ_eq_append_getElem hi2, HX.out.1, HXY.out.1, HXY.out.2], HX.out.2.drew⟩
          · have HB := Lib.hid hb
            go_wp2_with fail
            go_region
            all_goals
              go_wp2_with fail
              go_ret
              refine ⟨ret_bool (decide_eq_false ?_).symm, HX.out.2.drew⟩
              intro e
              subst e
              have := HXY.out.1.symm.trans HXY.out.2
              cases this
              exact HB.out rfl
        · have hb : ¬ ((bs xa).toList = (bs ya).toList) := fun e => ha (by
            rw [Lib.toList_data, Lib.toList_data] at e
            exact e)
          have HA := Lib.hid ha
          clear ha
          go_wp2_with fail
          go_region
          all_goals
            go_wp2_with fail
            go_ret
            refine ⟨ret_bool (decide_eq_false ?_).symm, HX.out.2.drew⟩
            intro e
            subst e
            have := HXY.out.1.symm.trans HXY.out.2
            cases this
            exact HA.out rfl
  · have hq : ((xs.length : Int) != (ys.length : Int)) = true := by rw [bne_iff_ne]; omega
    clear hc1 hc2
    go_enter Tryd.func11, Tryd.ntmps11
    go_wp2_with fail
    go_ret
    exact ⟨ret_bool (decide_eq_false (fun e => hne (by rw [e]))).symm, Fr.refl _ _⟩
end Go.Proofs.YtaajfbbogihbnaaDoor
