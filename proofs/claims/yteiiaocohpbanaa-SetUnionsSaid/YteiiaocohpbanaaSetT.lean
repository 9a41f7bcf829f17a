/- Layer 10: the document's Add. -/
import Derived.Test.YteiiaocohpbanaaSetS
namespace Go.Proofs.Yteiiaocohpbanaa
set_option linter.unusedVariables false
set_option linter.unusedSimpArgs false
open Go Go.RowKit Go.Lib Go.Sort Go.Shelf

theorem own_snoc {base : Nat} {w : World} {v : Value} {zs : List Int} {y : Int} (h : w.ownsRow base 3 1 v (zs.length + 1) (zs.map (Value.int .i64) ++ #[Value.int .i64 y].toList)) : OwnI base w v (zs ++ [y]) := by
  unfold OwnI; rw [List.length_append, List.map_append]; exact h
theorem tie_own {w W : World} {v v' : Value} {zs : List Int} (h : OwnI w.heap.size W v' zs) : Tie w v v' := fun k hk hl => by have := (h.lt k hk).1; omega
/-- a row handed back: the one that was given, or a new one -/
def RowT (base : Nat) (zs : List Int) (v : Value) (w : World) (e : Ending) (w' : World) : Prop := (∃ v', e = .returned v' ∧ OwnI base w' v' zs ∧ Tie w v v') ∧ Below w.heap.size w w'
set_option maxRecDepth 100000 in
set_option maxHeartbeats 4000000 in
theorem add10 {base : Nat} {w : World} {v : Value} {xs : List Int} (hv : OwnI base w v xs) (hup : xs.Pairwise (· < ·)) (hl : xs.length ≤ 900000) (hbw : base ≤ w.heap.size) (x : Int) :
    Calls Try.prog 10 #[v, .int .i64 x] w (RowT base (insI xs x) v w) := by
  obtain ⟨i0, hi, hz0, hz1, hz2⟩ := info_parts Try.infoI
  obtain ⟨A, c, rfl⟩ := row_slice hv
  have HA := Lib.hid (reads_own hv)
  have HV := Lib.hid hv
  have HU := Lib.hid hup
  have hh := has10 A xs c x (by omega) HA.out
  obtain ⟨b, hb⟩ : ∃ b, xs.contains x = b := ⟨_, rfl⟩
  rw [hb] at hh
  have HH := Lib.hid hh
  have HB := Lib.hid hb
  clear hv hup hh hb
  go_enter Try.func10, Try.ntmps10
  go_wp2_with fail
  refine HH.out.mono ?_
  rintro e w1 ⟨rfl, rfl⟩
  cases b with
  | true =>
    go_wp2_with fail
    go_ret
    have hx : insI xs x = xs := by unfold insI; rw [if_pos HB.out]
    rw [hx]
    exact ⟨⟨_, rfl, HV.out, tie_same rfl⟩, Below.refl _ _⟩
  | false =>
    go_wp2_with fail
    have h00 : OwnI w1.heap.size w1 (.slice none 0 0) (addZ xs x 0) := by unfold addZ; rw [if_pos (Nat.zero_le _)]; exact own_nil _ _
    obtain ⟨p, hp⟩ : ∃ p, xs.countP (fun y => decide (y < x)) = p := ⟨_, rfl⟩
    have HP := Lib.hid hp
    have hpl : p ≤ xs.length := by rw [← hp]; exact countP_le xs x
    clear hp
    go_loopw [5, 6, 7] (fun v d i wr => ∃ k : Nat, i = .int .i64 k ∧ k ≤ xs.length ∧ d = .bool (decide (p < k)) ∧ Hid (OwnI w1.heap.size wr v (addZ xs x k) ∧ Below w1.heap.size w1 wr)) (fun _ _ i _ => xs.length - (intOf i).toNat)
    case atStart => exact ⟨0, rfl, Nat.zero_le _, by simp, h00, Below.refl _ _⟩
    case round =>
      clear h00
      obtain ⟨k, rfl, hk, rfl, HQ⟩ := hrel
      obtain ⟨q1, q2⟩ := HQ.out
      have hz := q2.size
      have hzl := addZ_len xs x k
      obtain ⟨zs, hzs⟩ : ∃ zs, addZ xs x k = zs := ⟨_, rfl⟩
      rw [hzs] at q1 hzl
      have hor : wr.ownsRow w1.heap.size 3 1 u5 zs.length (zs.map (Value.int .i64)) := q1
      have HO := Lib.hid hor
      have HQ2 := Lib.hid (And.intro q1 (And.intro q2 hzs))
      by_cases hlt : k < xs.length
      · obtain ⟨g, o, rfl, hg, ha⟩ := HA.out (by omega)
        have a1 : wr.cell? ⟨g, o + k, none⟩ = some (.int .i64 xs[k]) := (World.cell?_of_block (w := w1) (w' := wr) (a := ⟨g, o + k, none⟩) (q2.block g hg)).trans (ha k hlt)
        have hne : xs[k] ≠ x := fun e => by
          have := HB.out
          rw [← e] at this
          simp at this
        have hlow : k < p → xs[k] < x := fun h => low_lt HU.out (by rw [HP.out]; exact h) hlt
        have hhigh : p ≤ k → x ≤ xs[k] := fun h => high_ge HU.out (by rw [HP.out]; exact h) hlt
        have e1 : k < p → addZ xs x (k + 1) = addZ xs x k ++ [xs[k]] := fun h => addZ_low (by rw [HP.out]; exact h) hlt
        have e2 : k = p → addZ xs x (k + 1) = (addZ xs x k ++ [x]) ++ [xs[k]] := fun h => addZ_at (by rw [HP.out]; exact h) hlt
        have e3 : p < k → addZ xs x (k + 1) = addZ xs x k ++ [xs[k]] := fun h => addZ_high (by rw [HP.out]; exact h) hlt
        obtain ⟨y, hy⟩ : ∃ y, xs[k] = y := ⟨_, rfl⟩
        rw [hy] at a1 hne hlow hhigh e1 e2 e3
        rw [hzs] at e1 e2 e3
        have p1 : (k : Int) < (xs.length : Int) := by omega
        have HE := Lib.hid (And.intro e1 (And.intro e2 e3))
        clear ha hy e1 e2 e3 q1 q2 hzs hor
        rcases Nat.lt_trichotomy k p with h | h | h
        · have hd : decide (p < k) = false := by simp; omega
          have hx : ¬ (x < y) := by have := hlow h; omega
          rw [hd]
          clear hlow hhigh hd
          go_wp2_with (at_builtin; refine Hid.out ?_)
          refine Lib.hid ?_
          refine wpList_app_fr rfl _ _ 26 rfl w1.heap.size 3 i0 _ 1 8 Try.underlying26 hi hz0 hz1 hz2 rfl (by decide) u5 (zs).length ((zs).map (Value.int .i64)) rfl HO.out #[.int .i64 y] _ rfl rfl rfl (by intro u hu; simp at hu; subst hu; rfl) (by omega) (by decide) (by omega) ?_
          intro v1 W2 o1 f1
          obtain ⟨q1, q2, hzs⟩ := HQ2.out
          have HN : Hid (OwnI w1.heap.size W2 v1 (addZ xs x (k + 1)) ∧ Below w1.heap.size w1 W2) := ⟨by rw [HE.out.1 h]; exact own_snoc o1, q2.trans (f1.below q2.size fun j _ ej => (q1.lt j ej).1)⟩
          clear q1 q2 hzs o1 f1
          go_wp2_with fail
          go_roundw
          case rel => exact ⟨k + 1, by go_num, by omega, by simp; omega, HN⟩
          case measure => simp [intOf]; omega
        · have hd : decide (p < k) = false := by simp; omega
          have hx : x < y := by have := hhigh (by omega); omega
          have h9 : p ≤ k := by omega
          have h8 : k ≤ p := by omega
          rw [hd]
          have E2 := Lib.hid (HE.out.2.1 h)
          clear hlow hhigh hd h
          go_wp2_with (at_builtin; refine Hid.out ?_)
          refine Lib.hid ?_
          refine wpList_app_fr rfl _ _ 26 rfl w1.heap.size 3 i0 _ 1 8 Try.underlying26 hi hz0 hz1 hz2 rfl (by decide) u5 (zs).length ((zs).map (Value.int .i64)) rfl HO.out #[.int .i64 x] _ rfl rfl rfl (by intro u hu; simp at hu; subst hu; rfl) (by omega) (by decide) (by omega) ?_
          intro v1 W2 o1 f1
          have o2 := own_snoc o1
          have zl2 : (zs ++ [x]).length ≤ 1000000 := by rw [List.length_append]; simp; omega
          have zw2 := f1.size
          have a2 : W2.cell? ⟨g, o + k, none⟩ = some (.int .i64 y) := (f1.cell (p := ⟨g, o + k, none⟩) (by have := hg; simp; omega) (fun e => by have := (HQ2.out.1.lt g e).1; omega)).trans a1
          obtain ⟨z2, hz2e⟩ : ∃ z2, zs ++ [x] = z2 := ⟨_, rfl⟩
          rw [hz2e] at o2 zl2
          have hor2 : W2.ownsRow w1.heap.size 3 1 v1 z2.length (z2.map (Value.int .i64)) := o2
          have HO2 := Lib.hid hor2
          have HF := Lib.hid (And.intro o2 (And.intro f1 hz2e))
          clear o1 o2 f1 hor2 hz2e
          go_wp2_with (at_builtin; refine Hid.out ?_)
          refine Lib.hid ?_
          refine wpList_app_fr rfl _ _ 26 rfl w1.heap.size 3 i0 _ 1 8 Try.underlying26 hi hz0 hz1 hz2 rfl (by decide) v1 (z2).length ((z2).map (Value.int .i64)) rfl HO2.out #[.int .i64 y] _ rfl rfl rfl (by intro u hu; simp at hu; subst hu; rfl) (by omega) (by decide) (by omega) ?_
          intro v2 W3 o3 f3
          obtain ⟨q1, q2, hzs⟩ := HQ2.out
          obtain ⟨o2, f1, hz2e⟩ := HF.out
          have q3 : Below w1.heap.size w1 W2 := q2.trans (f1.below q2.size fun j _ ej => (q1.lt j ej).1)
          have HN : Hid (OwnI w1.heap.size W3 v2 (addZ xs x (k + 1)) ∧ Below w1.heap.size w1 W3) := ⟨by rw [E2.out, hz2e]; exact own_snoc o3, q3.trans (f3.below q3.size fun j _ ej => (o2.lt j ej).1)⟩
          clear q1 q2 hzs o2 f1 hz2e q3 o3 f3
          go_wp2_with fail
          go_roundw
          case rel => exact ⟨k + 1, by go_num, by omega, by simp; omega, HN⟩
          case measure => simp [intOf]; omega
        · have hd : decide (p < k) = true := by simp; omega
          rw [hd]
          clear hlow hhigh hd
          go_wp2_with (at_builtin; refine Hid.out ?_)
          refine Lib.hid ?_
          refine wpList_app_fr rfl _ _ 26 rfl w1.heap.size 3 i0 _ 1 8 Try.underlying26 hi hz0 hz1 hz2 rfl (by decide) u5 (zs).length ((zs).map (Value.int .i64)) rfl HO.out #[.int .i64 y] _ rfl rfl rfl (by intro u hu; simp at hu; subst hu; rfl) (by omega) (by decide) (by omega) ?_
          intro v1 W2 o1 f1
          obtain ⟨q1, q2, hzs⟩ := HQ2.out
          have HN : Hid (OwnI w1.heap.size W2 v1 (addZ xs x (k + 1)) ∧ Below w1.heap.size w1 W2) := ⟨by rw [HE.out.2.2 h]; exact own_snoc o1, q2.trans (f1.below q2.size fun j _ ej => (q1.lt j ej).1)⟩
          clear q1 q2 hzs o1 f1
          go_wp2_with fail
          go_roundw
          case rel => exact ⟨k + 1, by go_num, by omega, by simp; omega, HN⟩
          case measure => simp [intOf]; omega
      · obtain rfl : k = xs.length := by omega
        have p1 : ¬ ((xs.length : Int) < (xs.length : Int)) := by omega
        have hend := addZ_end xs x HB.out
        rw [HP.out, hzs] at hend
        clear q1 q2 hzs hor
        by_cases h : p < xs.length
        · have hd : decide (p < xs.length) = true := by simp; omega
          rw [if_pos h] at hend
          rw [hd]
          clear hd
          go_wp2_with fail
          go_ret
          obtain ⟨q1, q2, hzs⟩ := HQ2.out
          first | rw [hend] | skip
          exact ⟨⟨u5, rfl, row_base' q1 hbw, tie_own q1⟩, q2⟩
        · have hd : decide (p < xs.length) = false := by simp; omega
          rw [if_neg h] at hend
          rw [hd]
          clear hd
          go_wp2_with (at_builtin; refine Hid.out ?_)
          refine Lib.hid ?_
          refine wpList_app_fr rfl _ _ 26 rfl w1.heap.size 3 i0 _ 1 8 Try.underlying26 hi hz0 hz1 hz2 rfl (by decide) u5 (zs).length ((zs).map (Value.int .i64)) rfl HO.out #[.int .i64 x] _ rfl rfl rfl (by intro u hu; simp at hu; subst hu; rfl) (by omega) (by decide) (by omega) ?_
          intro v1 W2 o1 f1
          have HF := Lib.hid (And.intro (own_snoc o1) f1)
          clear o1 f1
          go_wp2_with fail
          go_ret
          obtain ⟨q1, q2, hzs⟩ := HQ2.out
          obtain ⟨o2, f1⟩ := HF.out
          first | rw [hend] | skip
          exact ⟨⟨v1, rfl, row_base' o2 hbw, tie_own o2⟩, q2.trans (f1.below q2.size fun j _ ej => (q1.lt j ej).1)⟩
end Go.Proofs.Yteiiaocohpbanaa
