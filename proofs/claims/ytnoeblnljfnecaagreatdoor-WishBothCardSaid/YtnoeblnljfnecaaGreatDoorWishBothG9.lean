/- Texts of this proof, one behind the other. -/
import Derived.Test.YtnoeblnljfnecaaGreatDoorWishBothG8
import Derived.Test.YtnoeblnljfnecaaGreatDoorWishBothG4
import Derived.Sort.QuietThIn
import Derived.Sort.QuietTacIn
import Derived.StillTail
import Derived.TacticsIn
section
/- Layer 10: the document's Add. -/
namespace Go.Proofs.YtnoeblnljfnecaaGreatDoor
set_option linter.unusedVariables false
set_option linter.unusedSimpArgs false
open Go Go.RowKit Go.Lib Go.Sort Go.Shelf

theorem own_snoc {base : Nat} {w : World} {v : Value} {zs : List Int} {y : Int} (h : w.ownsRow base 3 1 v (zs.length + 1) (zs.map (Value.int .i64) ++ #[Value.int .i64 y].toList)) : OwnI base w v (zs ++ [y]) := by
  unfold OwnI; rw [List.length_append, List.map_append]; exact h
theorem tie_own {w W : World} {v v' : Value} {zs : List Int} (h : OwnI w.heap.size W v' zs) : Tie w v v' := fun k hk hl => by have := (h.lt k hk).1; omega
/-- a row handed back: the one that was given, or a new one -/
def RowNT (base : Nat) (zs : List Int) (v : Value) (w : World) (e : Ending) (w' : World) : Prop := (∃ v', e = .returned v' ∧ OwnI base w' v' zs ∧ Tie w v v') ∧ Below w.heap.size w w'
set_option maxRecDepth 100000 in
set_option maxHeartbeats 4000000 in
theorem add10 {base : Nat} {w : World} {v : Value} {xs : List Int} (hv : OwnI base w v xs) (hup : xs.Pairwise (· < ·)) (hl : xs.length ≤ 900000) (hbw : base ≤ w.heap.size) (x : Int) :
    Calls Tryz.prog 40 #[v, .int .i64 x] w (RowNT base (insI xs x) v w) := by
  obtain ⟨i0, hi, hz0, hz1, hz2⟩ := info_parts Tryz.infoI
  obtain ⟨A, c, rfl⟩ := row_slice hv
  have HA := Lib.hid (reads_own hv)
  have HV := Lib.hid hv
  have HU := Lib.hid hup
  have hh := has10 A xs c x (by omega) HA.out
  obtain ⟨b, hb⟩ : ∃ b, xs.contains x = b := ⟨_, rfl⟩
  rw [hb] at hh
  have HH := Lib.hid hh
  have HB := Lib.hid hb
  clear hv hup hh hb
  go_enter Tryz.func40, Tryz.ntmps40
  go_wp2_with fail
  refine HH.out.mono ?_
  rintro e w1 ⟨rfl, rfl⟩
  cases b with
  | true =>
    go_wp2_with fail
    go_ret
    have hx : insI xs x = xs := by unfold insI; rw [if_pos HB.out]
    rw [hx]
    exact ⟨⟨_, rfl, HV.out, tie_same rfl⟩, Below.refl _ _⟩
  | false =>
    go_wp2_with fail
    have h00 : OwnI w1.heap.size w1 (.slice none 0 0) (addZ xs x 0) := by unfold addZ; rw [if_pos (Nat.zero_le _)]; exact own_nil _ _
    obtain ⟨p, hp⟩ : ∃ p, xs.countP (fun y => decide (y < x)) = p := ⟨_, rfl⟩
    have HP := Lib.hid hp
    have hpl : p ≤ xs.length := by rw [← hp]; exact countP_le xs x
    clear hp
    go_loopw [5, 6, 7] (fun v d i wr => ∃ k : Nat, i = .int .i64 k ∧ k ≤ xs.length ∧ d = .bool (decide (p < k)) ∧ Hid (OwnI w1.heap.size wr v (addZ xs x k) ∧ Below w1.heap.size w1 wr)) (fun _ _ i _ => xs.length - (Go.RowKit.intOf i).toNat)
    case atStart => exact ⟨0, rfl, Nat.zero_le _, by simp, h00, Below.refl _ _⟩
    case round =>
      clear h00
      obtain ⟨k, rfl, hk, rfl, HQ⟩ := hrel
      obtain ⟨q1, q2⟩ := HQ.out
      have hz := q2.size
      have hzl := addZ_len xs x k
      obtain ⟨zs, hzs⟩ : ∃ zs, addZ xs x k = zs := ⟨_, rfl⟩
      rw [hzs] at q1 hzl
      have hor : wr.ownsRow w1.heap.size 3 1 u5 zs.length (zs.map (Value.int .i64)) := q1
      have HO := Lib.hid hor
      have HQ2 := Lib.hid (And.intro q1 (And.intro q2 hzs))
      by_cases hlt : k < xs.length
      · obtain ⟨g, o, rfl, hg, ha⟩ := HA.out (by omega)
        have a1 : wr.cell? ⟨g, o + k, none⟩ = some (.int .i64 xs[k]) := (World.cell?_of_block (w := w1) (w' := wr) (a := ⟨g, o + k, none⟩) (q2.block g hg)).trans (ha k hlt)
        have hne : xs[k] ≠ x := fun e => by
          have := HB.out
          rw [← e] at this
          simp at this
        have hlow : k < p → xs[k] < x := fun h => low_lt HU.out (by rw [HP.out]; exact h) hlt
        have hhigh : p ≤ k → x ≤ xs[k] := fun h => high_ge HU.out (by rw [HP.out]; exact h) hlt
        have e1 : k < p → addZ xs x (k + 1) = addZ xs x k ++ [xs[k]] := fun h => addZ_low (by rw [HP.out]; exact h) hlt
        have e2 : k = p → addZ xs x (k + 1) = (addZ xs x k ++ [x]) ++ [xs[k]] := fun h => addZ_at (by rw [HP.out]; exact h) hlt
        have e3 : p < k → addZ xs x (k + 1) = addZ xs x k ++ [xs[k]] := fun h => addZ_high (by rw [HP.out]; exact h) hlt
        obtain ⟨y, hy⟩ : ∃ y, xs[k] = y := ⟨_, rfl⟩
        rw [hy] at a1 hne hlow hhigh e1 e2 e3
        rw [hzs] at e1 e2 e3
        have p1 : (k : Int) < (xs.length : Int) := by omega
        have HE := Lib.hid (And.intro e1 (And.intro e2 e3))
        clear ha hy e1 e2 e3 q1 q2 hzs hor
        rcases Nat.lt_trichotomy k p with h | h | h
        · have hd : decide (p < k) = false := by simp; omega
          have hx : ¬ (x < y) := by have := hlow h; omega
          rw [hd]
          clear hlow hhigh hd
          go_wp2_with (at_builtin; refine Hid.out ?_)
          refine Lib.hid ?_
          refine wpList_app_fr rfl _ _ 41 rfl w1.heap.size 3 i0 _ 1 8 Tryz.underlying41 hi hz0 hz1 hz2 rfl (by decide) u5 (zs).length ((zs).map (Value.int .i64)) rfl HO.out #[.int .i64 y] _ rfl rfl rfl (by intro u hu; simp at hu; subst hu; rfl) (by omega) (by decide) (by omega) ?_
          intro v1 W2 o1 f1
          obtain ⟨q1, q2, hzs⟩ := HQ2.out
          have HN : Hid (OwnI w1.heap.size W2 v1 (addZ xs x (k + 1)) ∧ Below w1.heap.size w1 W2) := ⟨by rw [HE.out.1 h]; exact own_snoc o1, q2.trans (f1.below q2.size fun j _ ej => (q1.lt j ej).1)⟩
          clear q1 q2 hzs o1 f1
          go_wp2_with fail
          go_roundw
          case rel => exact ⟨k + 1, by go_num, by omega, by simp; omega, HN⟩
          case measure => simp [Go.RowKit.intOf]; omega
        · have hd : decide (p < k) = false := by simp; omega
          have hx : x < y := by have := hhigh (by omega); omega
          have h9 : p ≤ k := by omega
          have h8 : k ≤ p := by omega
          rw [hd]
          have E2 := Lib.hid (HE.out.2.1 h)
          clear hlow hhigh hd h
          go_wp2_with (at_builtin; refine Hid.out ?_)
          refine Lib.hid ?_
          refine wpList_app_fr rfl _ _ 41 rfl w1.heap.size 3 i0 _ 1 8 Tryz.underlying41 hi hz0 hz1 hz2 rfl (by decide) u5 (zs).length ((zs).map (Value.int .i64)) rfl HO.out #[.int .i64 x] _ rfl rfl rfl (by intro u hu; simp at hu; subst hu; rfl) (by omega) (by decide) (by omega) ?_
          intro v1 W2 o1 f1
          have o2 := own_snoc o1
          have zl2 : (zs ++ [x]).length ≤ 1000000 := by rw [List.length_append]; simp; omega
          have zw2 := f1.size
          have a2 : W2.cell? ⟨g, o + k, none⟩ = some (.int .i64 y) := (f1.cell (p := ⟨g, o + k, none⟩) (by have := hg; simp; omega) (fun e => by have := (HQ2.out.1.lt g e).1; omega)).trans a1
          obtain ⟨z2, hz2e⟩ : ∃ z2, zs ++ [x] = z2 := ⟨_, rfl⟩
          rw [hz2e] at o2 zl2
          have hor2 : W2.ownsRow w1.heap.size 3 1 v1 z2.length (z2.map (Value.int .i64)) := o2
          have HO2 := Lib.hid hor2
          have HF := Lib.hid (And.intro o2 (And.intro f1 hz2e))
          clear o1 o2 f1 hor2 hz2e
          go_wp2_with (at_builtin; refine Hid.out ?_)
          refine Lib.hid ?_
          refine wpList_app_fr rfl _ _ 41 rfl w1.heap.size 3 i0 _ 1 8 Tryz.underlying41 hi hz0 hz1 hz2 rfl (by decide) v1 (z2).length ((z2).map (Value.int .i64)) rfl HO2.out #[.int .i64 y] _ rfl rfl rfl (by intro u hu; simp at hu; subst hu; rfl) (by omega) (by decide) (by omega) ?_
          intro v2 W3 o3 f3
          obtain ⟨q1, q2, hzs⟩ := HQ2.out
          obtain ⟨o2, f1, hz2e⟩ := HF.out
          have q3 : Below w1.heap.size w1 W2 := q2.trans (f1.below q2.size fun j _ ej => (q1.lt j ej).1)
          have HN : Hid (OwnI w1.heap.size W3 v2 (addZ xs x (k + 1)) ∧ Below w1.heap.size w1 W3) := ⟨by rw [E2.out, hz2e]; exact own_snoc o3, q3.trans (f3.below q3.size fun j _ ej => (o2.lt j ej).1)⟩
          clear q1 q2 hzs o2 f1 hz2e q3 o3 f3
          go_wp2_with fail
          go_roundw
          case rel => exact ⟨k + 1, by go_num, by omega, by simp; omega, HN⟩
          case measure => simp [Go.RowKit.intOf]; omega
        · have hd : decide (p < k) = true := by simp; omega
          rw [hd]
          clear hlow hhigh hd
          go_wp2_with (at_builtin; refine Hid.out ?_)
          refine Lib.hid ?_
          refine wpList_app_fr rfl _ _ 41 rfl w1.heap.size 3 i0 _ 1 8 Tryz.underlying41 hi hz0 hz1 hz2 rfl (by decide) u5 (zs).length ((zs).map (Value.int .i64)) rfl HO.out #[.int .i64 y] _ rfl rfl rfl (by intro u hu; simp at hu; subst hu; rfl) (by omega) (by decide) (by omega) ?_
          intro v1 W2 o1 f1
          obtain ⟨q1, q2, hzs⟩ := HQ2.out
          have HN : Hid (OwnI w1.heap.size W2 v1 (addZ xs x (k + 1)) ∧ Below w1.heap.size w1 W2) := ⟨by rw [HE.out.2.2 h]; exact own_snoc o1, q2.trans (f1.below q2.size fun j _ ej => (q1.lt j ej).1)⟩
          clear q1 q2 hzs o1 f1
          go_wp2_with fail
          go_roundw
          case rel => exact ⟨k + 1, by go_num, by omega, by simp; omega, HN⟩
          case measure => simp [Go.RowKit.intOf]; omega
      · obtain rfl : k = xs.length := by omega
        have p1 : ¬ ((xs.length : Int) < (xs.length : Int)) := by omega
        have hend := addZ_end xs x HB.out
        rw [HP.out, hzs] at hend
        clear q1 q2 hzs hor
        by_cases h : p < xs.length
        · have hd : decide (p < xs.length) = true := by simp; omega
          rw [if_pos h] at hend
          rw [hd]
          clear hd
          go_wp2_with fail
          go_ret
          obtain ⟨q1, q2, hzs⟩ := HQ2.out
          first | rw [hend] | skip
          exact ⟨⟨u5, rfl, row_base' q1 hbw, tie_own q1⟩, q2⟩
        · have hd : decide (p < xs.length) = false := by simp; omega
          rw [if_neg h] at hend
          rw [hd]
          clear hd
          go_wp2_with (at_builtin; refine Hid.out ?_)
          refine Lib.hid ?_
          refine wpList_app_fr rfl _ _ 41 rfl w1.heap.size 3 i0 _ 1 8 Tryz.underlying41 hi hz0 hz1 hz2 rfl (by decide) u5 (zs).length ((zs).map (Value.int .i64)) rfl HO.out #[.int .i64 x] _ rfl rfl rfl (by intro u hu; simp at hu; subst hu; rfl) (by omega) (by decide) (by omega) ?_
          intro v1 W2 o1 f1
          have HF := Lib.hid (And.intro (own_snoc o1) f1)
          clear o1 f1
          go_wp2_with fail
          go_ret
          obtain ⟨q1, q2, hzs⟩ := HQ2.out
          obtain ⟨o2, f1⟩ := HF.out
          first | rw [hend] | skip
          exact ⟨⟨v1, rfl, row_base' o2 hbw, tie_own o2⟩, q2.trans (f1.below q2.size fun j _ ej => (q1.lt j ej).1)⟩
end Go.Proofs.YtnoeblnljfnecaaGreatDoor
end
section
/- Layer 21: the document's lists: the row, At, By. -/
namespace Go.Proofs.YtnoeblnljfnecaaGreatDoor
set_option linter.unusedVariables false
set_option linter.unusedSimpArgs false
open Go Go.RowKit Go.Maps Go.Sort Go.Shelf Go.Lib

theorem flatMap_getWR {α : Type} [Inhabited α] (enc : α → List Value) (k : Nat) (hk : ∀ x, (enc x).length = k) (hk0 : 0 < k) : ∀ (xs : List α) (t : Nat), t < xs.length * k → (xs.flatMap enc)[t]? = (enc (xs.getD (t / k) default))[t % k]?
  | [], t, h => by simp at h
  | x :: r, t, h => by
    rw [List.flatMap_cons]
    by_cases ht : t < k
    · rw [List.getElem?_append_left (by rw [hk]; exact ht), Nat.div_eq_of_lt ht, Nat.mod_eq_of_lt ht]; rfl
    · rw [List.getElem?_append_right (by rw [hk]; omega), hk, flatMap_getWR enc k hk hk0 r (t - k) (by rw [List.length_cons, Nat.add_mul, Nat.one_mul] at h; omega)]
      obtain ⟨u, rfl⟩ : ∃ u, t = u + k := ⟨t - k, by omega⟩
      rw [Nat.add_sub_cancel, Nat.add_div_right _ hk0, Nat.add_mod_right]; rfl
theorem Tryz.infoWR : (Tryz.prog.info? 73).map (fun i => (i.zero, i.size, i.bytes)) = some (some (.agg #[.int .i64 0, .string ByteArray.empty]), 2, 24) := by kernel_rfl
def encWR (e : WEnt) : List Value := [.int .i64 e.1, .string (bs e.2)]
/-- pairs as they are read -/
def ReadsWR (w : World) (A : Option Addr) (xs : List WEnt) : Prop := 0 < xs.length → ∃ g o, A = some ⟨g, o, none⟩ ∧ g < w.heap.size ∧ ∀ j (h : j < xs.length), w.cell? ⟨g, o + j * 2, none⟩ = some (.int .i64 xs[j].1) ∧ w.cell? ⟨g, o + j * 2 + 1, none⟩ = some (.string (bs xs[j].2))
/-- a row of the document's pairs, of the call's own -/
def OwnWR (base : Nat) (W : World) (v : Value) (xs : List WEnt) : Prop := W.ownsRow base 73 2 v xs.length (xs.flatMap encWR)
theorem ownWR_nil (base : Nat) (w : World) : OwnWR base w (.slice none 0 0) [] := World.ownsRow_nil _ _ _ _
theorem ownWR_kept {base : Nat} {w W : World} {v : Value} {xs : List WEnt} (h : OwnWR base w v xs) (hs : ∀ g, v.ownBlock = some g → W.heap[g]? = w.heap[g]?) : OwnWR base W v xs := row_same h hs
theorem reads_ownWR {base : Nat} {w : World} {A : Option Addr} {n c : Nat} {xs : List WEnt} (h : OwnWR base w (.slice A n c) xs) : ReadsWR w A xs := fun h0 => by
  have h' := h
  rcases h.2 with ⟨h1, h2⟩ | ⟨g, cap, cur, h1, h3, h4, h5, _, h6, h7⟩
  · omega
  · injection h1 with q1 q2 q3
    subst q1
    have hadd : ∀ j, (⟨g, 0, none⟩ : Addr).add j = ⟨g, 0 + j, none⟩ := fun j => by
      unfold Addr.add
      split
      · simp_all
      · rfl
    have key : ∀ t u, (xs.flatMap encWR)[t]? = some u → w.cell? ⟨g, 0 + t, none⟩ = some u := fun t u ht => by
      have := h'.cells (g := g) rfl t u ht
      rwa [hadd] at this
    refine ⟨g, 0, rfl, blk_lt h4, fun j hj => ⟨key (j * 2) _ ?_, ?_⟩⟩
    · rw [flatMap_getWR encWR 2 (fun _ => rfl) (by decide) xs (j * 2) (by omega), Nat.mul_div_cancel j (by decide), Nat.mul_mod_left]
      simp [List.getD, hj, encWR]
    · have := key (j * 2 + 1) (.string (bs xs[j].2)) (by
        rw [flatMap_getWR encWR 2 (fun _ => rfl) (by decide) xs (j * 2 + 1) (by omega), show (j * 2 + 1) / 2 = j by omega, show (j * 2 + 1) % 2 = 1 by omega]
        simp [List.getD, hj, encWR])
      exact this
/-- the document's relation as it lies -/
def RefWR (base : Nat) (w : World) (x : Nat) (most : Int) (U : List WEnt) : Prop := base ≤ x ∧ ∃ A c, w.heap[x]? = some (.cells #[.int .i64 most, .slice A U.length c] 30 (0, 0)) ∧ OwnWR base w (.slice A U.length c) U ∧ (Value.slice A U.length c).ownBlock ≠ some x
theorem refWR_fr {base : Nat} {w w' : World} {x : Nat} {most : Int} {U : List WEnt} {X : Nat → Prop} (h : RefWR base w x most U) (hf : Fr X w w') (h1 : ∀ b, base ≤ b → b < w.heap.size → ¬ X b) : RefWR base w' x most U := by
  obtain ⟨h0, A, c, h2, h3, h4⟩ := h
  exact ⟨h0, A, c, hf.blk h2 (h1 x h0 (blk_lt h2)), ownWR_kept h3 fun g hg => hf.block g (h3.lt g hg).2 (h1 g (h3.lt g hg).1 (h3.lt g hg).2), h4⟩
theorem refWR_lt {base : Nat} {w : World} {x : Nat} {most : Int} {U : List WEnt} (h : RefWR base w x most U) : x < w.heap.size := by
  obtain ⟨_, _, _, h2, _⟩ := h
  exact blk_lt h2
theorem encWR_len (T : List WEnt) : (T.flatMap encWR).length = T.length * 2 := by
  induction T with
  | nil => rfl
  | cons a r ih => rw [List.flatMap_cons, List.length_append, ih, List.length_cons]; simp [encWR]; omega
theorem encWR_one (T : List WEnt) : ∀ u ∈ T.flatMap encWR, u.oneCell' = true := by
  intro u hu
  obtain ⟨p, _, hp⟩ := List.mem_flatMap.1 hu
  simp only [encWR, List.mem_cons, List.not_mem_nil, or_false] at hp
  rcases hp with rfl | rfl <;> rfl
theorem ownWR_of {base : Nat} {W : World} {v : Value} {xs : List WEnt} {n : Nat} {cs : List Value} (h : W.ownsRow base 73 2 v n cs) (hn : n = xs.length) (hc : cs = xs.flatMap encWR) : OwnWR base W v xs := by
  subst hn; subst hc; exact h
theorem srcWR {w : World} {base : Nat} {A : Option Addr} {c : Nat} {xs : List WEnt} (h : OwnWR base w (.slice A xs.length c) xs) : Src Tryz.prog 2 28 (.slice A xs.length c) xs.length (xs.flatMap encWR) w := by
  rcases h.2 with ⟨h1, h2⟩ | ⟨g, cap, cur, h1, h3, h4, h5, _, h6, h7⟩
  · have h3 : xs = [] := List.length_eq_zero_iff.1 h2
    subst h3
    injection h1 with q1 q2 q3
    subst q1
    exact Src.ofNil w Tryz.underlying28 c
  · injection h1 with q1 q2 q3
    subst q1
    exact Src.ofSlice w Tryz.underlying28 ⟨g, 0, none⟩ xs.length c (xs.flatMap encWR) (encWR_len xs) (fun j u hu => h.cells (g := g) rfl j u hu) (encWR_one xs)
theorem sameF_dec (a b : List UInt8) : sameF a b = decide (foldL a = foldL b) := by
  unfold sameF
  by_cases h : foldL a = foldL b <;> simp [h]
/-- where a name of a number stands -/
def AtIs (U : List WEnt) (a : Int) (f : List UInt8) (k : Int) : Prop :=
  (∃ i, ∃ h : i < U.length, k = (i : Int) ∧ fkW U[i] = (a, f) ∧ ∀ q (hq : q < U.length), q < i → fkW U[q] ≠ (a, f)) ∨ (k = -1 ∧ (a, f) ∉ U.map fkW)
set_option maxRecDepth 100000 in
set_option maxHeartbeats 8000000 in
theorem refw_at {base : Nat} {w : World} {x : Nat} {most : Int} {U : List WEnt} (h : RefWR base w x most U) (hlen : U.length ≤ 1000000) (hok : OkW U) (a : Int) {n : List UInt8} (hn : n.length ≤ 1000) :
    Calls Tryz.prog 19 #[.pointer (some ⟨x, 0, none⟩), .int .i64 a, .string (bs n)] w fun e w' => (∃ k : Int, e = .returned (.int .i64 k) ∧ AtIs U a (foldL n) k) ∧ Below w.heap.size w w' := by
  obtain ⟨h0, A, c, h2, h3, h4⟩ := h
  have hx : ∀ W, Below w.heap.size w W → W.cell? ⟨x, 1, none⟩ = some (.slice A U.length c) := fun W hb => (blk_cell ((Fr.of_below hb).blk (X := fun _ => False) h2 fun e => e) 1).trans rfl
  have hrd : ∀ W, Below w.heap.size w W → ReadsWR W A U := fun W hb => reads_ownWR (ownWR_kept h3 fun g hg => hb.block g (h3.lt g hg).2)
  have HC := Lib.hid (And.intro hx (And.intro hrd hok))
  clear hx hrd h0 h2 h3 h4 hok
  go_enter Tryz.func19, Tryz.ntmps19
  go_wp2_with fail
  go_loopw [7] (fun i wr => ∃ j : Nat, i = .int .i64 j ∧ j ≤ U.length ∧ Hid (Below w.heap.size w wr ∧ ∀ q (h : q < U.length), q < j → fkW U[q] ≠ (a, foldL n))) (fun i _ => U.length - (RowKit.intOf i).toNat)
  case atStart => exact ⟨0, rfl, Nat.zero_le _, Below.refl _ _, fun q _ hq => by omega⟩
  case round =>
    obtain ⟨j, rfl, hj, HF⟩ := hrel
    have hcx := HC.out.1 wr HF.out.1
    by_cases hlt : j < U.length
    · obtain ⟨g, o, rfl, hg, hcell⟩ := HC.out.2.1 wr HF.out.1 (by omega)
      obtain ⟨e1, e2⟩ := hcell j hlt
      have hkl : U[j].2.length ≤ 1000 := (HC.out.2.2 _ (List.getElem_mem hlt)).2
      obtain ⟨p1, p2⟩ : ∃ p : WEnt, U[j] = p := ⟨_, rfl⟩
      rw [p2] at e1 e2 hkl
      obtain ⟨ka, kb⟩ := p1
      dsimp only at e1 e2 hkl
      have HP := Lib.hid p2
      have n1 : (j : Int) < (U.length : Int) := by omega
      have n0 : (0 : Int) ≤ (j : Int) := by omega
      have next : fkW (ka, kb) ≠ (a, foldL n) → Hid (∀ q (h : q < U.length), q < j + 1 → fkW U[q] ≠ (a, foldL n)) := fun hne q hq hq2 => by
        rcases Nat.lt_or_ge q j with h | h
        · exact HF.out.2 q hq h
        · obtain rfl : q = j := by omega
          rw [HP.out]; exact hne
      have HN := Lib.hid next
      clear hcell p2 next hg
      by_cases hka : ka = a
      · subst hka
        have hk1 : (ka == ka) = true := by simp
        have HS : Hid (Calls Tryz.prog 24 #[.string (bs kb), .string (bs n)] wr fun e w' => e = .returned (.bool (sameF kb n)) ∧ Below wr.heap.size wr w') := refsame (bs kb) (bs n) wr (by simp; omega) (by simp; omega)
        obtain ⟨d, hd⟩ : ∃ d, sameF kb n = d := ⟨_, rfl⟩
        rw [hd] at HS
        rw [sameF_dec] at hd
        have HD := Lib.hid hd
        clear hd
        go_wp2_with fail
        refine HS.out.mono ?_
        rintro e w2 ⟨rfl, b2⟩
        have B2 : Hid (Below w.heap.size w w2) := HF.out.1.trans (b2.mono HF.out.1.size)
        clear b2
        cases d with
        | true =>
          go_wp2_with fail
          go_ret
          refine ⟨⟨_, rfl, .inl ⟨j, hlt, rfl, ?_, HF.out.2⟩⟩, B2.out⟩
          rw [HP.out]; unfold fkW
          rw [of_decide_eq_true HD.out]
        | false =>
          have HN2 := HN.out (fun e => of_decide_eq_false HD.out (Prod.mk.inj e).2)
          go_wp2_with fail
          go_roundw
          case rel => exact ⟨j + 1, by go_num, by omega, B2.out, HN2.out⟩
          case measure => simp [RowKit.intOf]; omega
      · have hk1 : (ka == a) = false := by simpa using hka
        have HN2 := HN.out (fun e => hka (Prod.mk.inj e).1)
        go_wp2_with fail
        go_roundw
        case rel => exact ⟨j + 1, by go_num, by omega, HF.out.1, HN2.out⟩
        case measure => simp [RowKit.intOf]; omega
    · have n1 : ¬ (j : Int) < (U.length : Int) := by omega
      go_wp2_with fail
      go_ret
      refine ⟨⟨_, rfl, .inr ⟨rfl, fun hm => ?_⟩⟩, HF.out.1⟩
      obtain ⟨u, hu, he⟩ := List.mem_map.1 hm
      obtain ⟨q, hq, rfl⟩ := List.getElem_of_mem hu
      exact HF.out.2 q hq (by omega) he
/-- the left things of b among some pairs -/
def byW (U : List WEnt) (b : List UInt8) : List Int := insAll [] ((U.filter fun p => decide (foldL p.2 = b)).map (·.1))
theorem byW_snoc_yes (U : List WEnt) {b : List UInt8} {p : WEnt} (h : foldL p.2 = b) : byW (U ++ [p]) b = insI (byW U b) p.1 := by
  unfold byW
  rw [List.filter_append, List.map_append, List.filter_cons_of_pos (by simpa using h)]
  exact insAll_snoc _ _ _
theorem byW_snoc_no (U : List WEnt) {b : List UInt8} {p : WEnt} (h : foldL p.2 ≠ b) : byW (U ++ [p]) b = byW U b := by
  unfold byW
  rw [List.filter_append, List.filter_cons_of_neg (by simpa using h)]
  simp
theorem byW_up (U : List WEnt) (b : List UInt8) : (byW U b).Pairwise (· < ·) := insAll_up List.Pairwise.nil _
theorem byW_mem (U : List WEnt) (b : List UInt8) (a : Int) : a ∈ byW U b ↔ (a, b) ∈ U.map fkW := by
  unfold byW
  rw [insAll_mem]
  simp only [List.not_mem_nil, false_or, List.mem_map, List.mem_filter, decide_eq_true_eq]
  constructor
  · rintro ⟨p, ⟨h1, h2⟩, rfl⟩; exact ⟨p, h1, by unfold fkW; rw [h2]⟩
  · rintro ⟨p, h1, h2⟩
    obtain ⟨e1, e2⟩ := Prod.mk.inj h2
    exact ⟨p, ⟨h1, e2⟩, e1⟩
theorem byW_len (U : List WEnt) (b : List UInt8) : (byW U b).length ≤ U.length := by
  unfold byW
  have h := (insAll_len [] ((U.filter fun p => decide (foldL p.2 = b)).map (·.1))).1
  rw [List.length_map] at h
  have := List.length_filter_le (fun p : WEnt => decide (foldL p.2 = b)) U
  simp only [List.length_nil] at h
  omega
def ByWR (D : List Int) (w : World) (e : Ending) (w' : World) : Prop := (∃ v, e = .returned v ∧ OwnI w.heap.size w' v D) ∧ Below w.heap.size w w'
def ByGW (w : World) (D : List Int) (v : Value) (W : World) : Prop := OwnI w.heap.size W v D ∧ Below w.heap.size w W
set_option maxRecDepth 100000 in
set_option maxHeartbeats 8000000 in
theorem refw_by {base : Nat} {w : World} {x : Nat} {most : Int} {U : List WEnt} (h : RefWR base w x most U) (hlen : U.length ≤ 900000) (hok : OkW U) {n : List UInt8} (hn : n.length ≤ 1000) :
    Calls Tryz.prog 23 #[.pointer (some ⟨x, 0, none⟩), .string (bs n)] w (ByWR (byW U (foldL n)) w) := by
  obtain ⟨h0, A, c, h2, h3, h4⟩ := h
  have hx : ∀ W, Below w.heap.size w W → W.cell? ⟨x, 1, none⟩ = some (.slice A U.length c) := fun W hb => (blk_cell ((Fr.of_below hb).blk (X := fun _ => False) h2 fun e => e) 1).trans rfl
  have hrd : ∀ W, Below w.heap.size w W → ReadsWR W A U := fun W hb => reads_ownWR (ownWR_kept h3 fun g hg => hb.block g (h3.lt g hg).2)
  have HC := Lib.hid (And.intro hx (And.intro hrd hok))
  obtain ⟨b, hbb⟩ : ∃ b, foldL n = b := ⟨_, rfl⟩
  rw [hbb]
  have HBB := Lib.hid hbb
  have H0 : Hid (ByGW w (byW (U.take 0) b) (.slice none 0 0) w) := ⟨own_nil _ _, Below.refl _ _⟩
  clear hx hrd h0 h2 h3 h4 hok hbb
  go_enter Tryz.func23, Tryz.ntmps23
  go_wp2_with fail
  go_loopw [5, 6] (fun o i wr => ∃ (j : Nat) (A1 : Option Addr) (n1 c1 : Nat), i = .int .i64 j ∧ o = .slice A1 n1 c1 ∧ j ≤ U.length ∧ Hid (ByGW w (byW (U.take j) b) (.slice A1 n1 c1) wr)) (fun _ i _ => U.length - (RowKit.intOf i).toNat)
  case atStart => exact ⟨0, none, 0, 0, rfl, rfl, Nat.zero_le _, H0⟩
  case round =>
    obtain ⟨j, A1, n1, c1, rfl, rfl, hj, HF⟩ := hrel
    clear H0
    have hcx := HC.out.1 wr HF.out.2
    by_cases hlt : j < U.length
    · obtain ⟨g, o, rfl, hg, hcell⟩ := HC.out.2.1 wr HF.out.2 (by omega)
      have hcell2 : ∀ W, Below wr.heap.size wr W → W.cell? ⟨g, o + j * 2, none⟩ = some (.int .i64 U[j].1) := fun W hb => ((Fr.of_below hb).cell (X := fun _ => False) (p := ⟨g, o + j * 2, none⟩) hg fun e => e).trans (hcell j hlt).1
      obtain ⟨e1, e2⟩ := hcell j hlt
      have htk : U.take (j + 1) = U.take j ++ [U[j]] := List.take_succ_eq_append_getElem hlt
      have hkl : U[j].2.length ≤ 1000 := (HC.out.2.2 _ (List.getElem_mem hlt)).2
      obtain ⟨p1, p2⟩ : ∃ p : WEnt, U[j] = p := ⟨_, rfl⟩
      rw [p2] at e1 e2 htk hkl
      rw [p2] at hcell2
      obtain ⟨ka, kb⟩ := p1
      dsimp only at e1 e2 hkl hcell2
      have q1 : (j : Int) < (U.length : Int) := by omega
      have q0 : (0 : Int) ≤ (j : Int) := by omega
      have HT := Lib.hid (And.intro htk hcell2)
      have HS : Hid (Calls Tryz.prog 24 #[.string (bs kb), .string (bs n)] wr fun e w' => e = .returned (.bool (sameF kb n)) ∧ Below wr.heap.size wr w') := refsame (bs kb) (bs n) wr (by simp; omega) (by simp; omega)
      obtain ⟨d, hd⟩ : ∃ d, sameF kb n = d := ⟨_, rfl⟩
      rw [hd] at HS
      rw [sameF_dec, HBB.out] at hd
      have HD := Lib.hid hd
      clear hcell p2 htk hg hcell2 hd
      go_wp2_with fail
      refine HS.out.mono ?_
      rintro e W1 ⟨rfl, b1⟩
      have B1 : Hid (Below w.heap.size w W1) := HF.out.2.trans (b1.mono HF.out.2.size)
      have O1 : Hid (OwnI w.heap.size W1 (.slice A1 n1 c1) (byW (U.take j) b)) := own_kept HF.out.1 fun g hg => b1.block g (HF.out.1.lt g hg).2
      have hcx1 := HC.out.1 W1 B1.out
      have e3 := HT.out.2 W1 b1
      clear b1 hcx
      cases d with
      | true =>
        have hkb := of_decide_eq_true HD.out
        have hl := byW_len (U.take j) b
        rw [List.length_take] at hl
        have HA := Lib.hid (add10 O1.out (byW_up _ _) (by omega) B1.out.size ka)
        clear hl
        go_wp2_with fail
        refine HA.out.mono ?_
        rintro e W2 ⟨⟨v2, rfl, o2, _⟩, b2⟩
        obtain ⟨A2, c2, rfl⟩ := row_slice o2
        have HN : Hid (ByGW w (byW (U.take (j + 1)) b) (.slice A2 (insI (byW (U.take j) b) ka).length c2) W2) := ⟨by rw [HT.out.1, byW_snoc_yes _ hkb]; exact o2, B1.out.trans (b2.mono B1.out.size)⟩
        clear o2 b2 hkb
        go_wp2_with fail
        go_roundw
        case rel => exact ⟨j + 1, A2, _, c2, by go_num, rfl, by omega, HN⟩
        case measure => simp [RowKit.intOf]; omega
      | false =>
        have HN : Hid (ByGW w (byW (U.take (j + 1)) b) (.slice A1 n1 c1) W1) := ⟨by rw [HT.out.1, byW_snoc_no _ (of_decide_eq_false HD.out)]; exact O1.out, B1.out⟩
        go_wp2_with fail
        go_roundw
        case rel => exact ⟨j + 1, A1, n1, c1, by go_num, rfl, by omega, HN⟩
        case measure => simp [RowKit.intOf]; omega
    · have q1 : ¬ (j : Int) < (U.length : Int) := by omega
      obtain rfl : j = U.length := by omega
      rw [List.take_length] at HF
      go_wp2_with fail
      go_ret
      exact ⟨⟨_, rfl, HF.out.1⟩, HF.out.2⟩
end Go.Proofs.YtnoeblnljfnecaaGreatDoor
end
section
/- A region that draws its order, anywhere, a loop's round over a function too: what only reads, in whatever order; then what must come last, in its order. -/
namespace Go.Proofs.YtnoeblnljfnecaaGreatDoor
open Go

section
variable {F : Fence} {n : Nat} {P : Program} {ops : Array Oper} {md : Region.Mode} {C : World → Prop}

/-- no operation puts a call off -/
def noDefer (ops : Array Oper) : Bool := ops.all fun o => match o.op with | .defer _ => false | _ => true
theorem noDefer_spec (h : noDefer ops = true) {i : Nat} {o : Oper} (ho : ops[i]? = some o) : ∀ c, o.op ≠ .defer c := by
  intro c hc
  have := Array.all_eq_true.1 h i (Array.getElem?_eq_some_iff.1 ho).1
  rw [(Array.getElem?_eq_some_iff.1 ho).2, hc] at this
  cases this

theorem quiet_wpIn {o : Oper} {a : Act} {K : Act → Prop} {K' : Act → World → Prop} {Q' : Exit → Act → World → Prop} {w : World} (hd : ∀ c, o.op ≠ .defer c) (hw : C w) (h : ∀ a w', C w' → K a → K' a w')
    (ha : o.askedIn F P a C) (hh : o.quietIn F n P a C K) : o.wpIn F n P a w K' Q' := by
  obtain ⟨v, h1, h2⟩ := hh
  have h3 := h1 w hw
  unfold Oper.quietAtIn at h3
  refine ⟨ha w hw, ?_⟩
  rw [Oper.semAt_eq _ _ _ hd]
  generalize (execOp a.eval o).run P w = r at h3 ⊢
  match r, h3 with
  | .ok (.value u) w', h3 =>
    obtain ⟨rfl, rfl⟩ := h3
    exact h _ _ hw h2
  | .ok .skip w', h3 =>
    obtain ⟨rfl, rfl⟩ := h3
    exact h _ _ hw h2
  | .ok (.enter f args) w', h3 =>
    obtain ⟨rfl, hdep, hc⟩ := h3
    exact ⟨hdep, hc.mono fun e w'' hx => by obtain ⟨rfl, hw''⟩ := hx; exact h _ _ hw'' h2⟩

theorem quiet_wpOpIn {i : Nat} {a : Act} {K : Act → Prop} {K' : Act → World → Prop} {Q' : Exit → Act → World → Prop} {w : World} (hnd : noDefer ops = true) (hC : C w) (h : ∀ a w', C w' → K a → K' a w')
    (hh : qOpIn F n P ops C i K a) : wpOpIn F n P ops Q' i K' a w := by
  unfold qOpIn at hh
  unfold wpOpIn
  cases ho : ops[i]? with
  | none => simp only [ho] at hh ⊢; exact h _ _ hC hh
  | some o =>
    simp only [ho] at hh ⊢
    obtain ⟨ha, hh⟩ := hh
    by_cases hw : Region.wanted o (yielded ops a.tmps) = true
    · simp only [hw, if_true] at hh ⊢
      exact quiet_wpIn (noDefer_spec hnd ho) hC h ha hh
    · simp only [hw] at hh ⊢
      exact ⟨ha w hC, h _ _ hC hh⟩

/-- the head of a region: so many operations, whatever comes up, each below m -/
def headQ (F : Fence) (n : Nat) (P : Program) (md : Region.Mode) (ops : Array Oper) (C : World → Prop) (m : Nat) (L : Array Bool → Act → Prop) : Nat → Array Bool → Act → Prop
  | 0, listed, a => L listed a
  | f + 1, listed, a =>
    Region.ready md ops listed ≠ [] ∧ ∀ i ∈ Region.ready md ops listed, i < m ∧ qOpIn F n P ops C i (headQ F n P md ops C m L f (listed.setIfInBounds i true)) a

theorem wpAnyIn_of_headQ {m g : Nat} {L : Array Bool → Act → Prop} {Q' : Exit → Act → World → Prop} (hnd : noDefer ops = true) (hL : ∀ listed a w, C w → L listed a → wpAnyIn F n P md ops Q' g listed a w) :
    ∀ (f : Nat) (listed : Array Bool) (a : Act) (w : World), C w → headQ F n P md ops C m L f listed a → wpAnyIn F n P md ops Q' (f + g) listed a w
  | 0, listed, a, w, hw, h => by rw [Nat.zero_add]; exact hL _ _ _ hw h
  | f + 1, listed, a, w, hw, h => by
    rw [show f + 1 + g = (f + g) + 1 by omega]
    exact ⟨fun h0 => absurd h0 h.1, fun i hi => quiet_wpOpIn hnd hw (fun a' w' hw' h' => wpAnyIn_of_headQ hnd hL f _ a' w' hw' h') (h.2 i hi).2⟩

theorem headQ_first {m i : Nat} {oi : Oper} {v : Value} {L : Array Bool → Act → Prop} (hi : ops[i]? = some oi) (hsel : ∀ (j : Nat) (o : Oper) cs b, ops[j]? = some o → o.op ≠ .select cs b)
    (hs : Region.sinkB md ops m = true) (hc : Region.chainB md ops m = true) (hn : m < ops.size) (hin : i < m)
    (hdone : ∀ listed a, L listed a → ∀ j ∈ Region.ready md ops listed, m ≤ j) :
    ∀ (f : Nat) (listed : Array Bool) (a : Act), HeadInv md ops m listed →
      (∀ j oj, ops[j]? = some oj → j ≠ i → listed.getD j true = false → (∀ e ∈ oj.after, Region.binds md e = true → e.on ≠ i) → oi.apart ops oj = true) →
      i ∈ Region.ready md ops listed → YieldsQuiet F n P ops C oi v a →
      headQ F n P md ops C m L f (listed.setIfInBounds i true) (a.put oi.dst v) → headQ F n P md ops C m L (f + 1) listed a := by
  intro f
  induction f with
  | zero =>
    intro listed a inv _ hr hy H
    have hun := (mem_ready.1 hr).1
    refine ⟨fun h => (by rw [h] at hr; cases hr), fun j hj => ?_⟩
    have hjn : j < m := Nat.lt_of_not_le fun h => tail_waits hs hc hn inv _ i rfl hin hun j h hj
    refine ⟨hjn, ?_⟩
    by_cases hji : j = i
    · subst hji; exact hy.qOpIn hi H
    · exact absurd (hdone _ _ H j (ready_mono hj hji)) (by omega)
  | succ f ih =>
    intro listed a inv hfree hr hy H
    have hun := (mem_ready.1 hr).1
    refine ⟨fun h => (by rw [h] at hr; cases hr), fun j hj => ?_⟩
    have hjn : j < m := Nat.lt_of_not_le fun h => tail_waits hs hc hn inv _ i rfl hin hun j h hj
    refine ⟨hjn, ?_⟩
    by_cases hji : j = i
    · subst hji; exact hy.qOpIn hi H
    · have h1 := (H.2 j (ready_mono hj hji)).2
      obtain ⟨hjun, oj, hoj, hall⟩ := mem_ready.1 hj
      have hnot : ∀ e ∈ oj.after, Region.binds md e = true → e.on ≠ i := fun e he hb heq => by
        have h1 := hall e he hb
        rw [heq, getD_both hun] at h1
        cases h1
      have h2 := qOpIn_put hoj (hfree j oj hoj hji hjun hnot) (fun cs b => hsel i oi cs b hi) (fun cs b => hsel j oj cs b hoj) hy h1
      have hfree' : ∀ k ok, ops[k]? = some ok → k ≠ i → (listed.setIfInBounds j true).getD k true = false →
          (∀ e ∈ ok.after, Region.binds md e = true → e.on ≠ i) → oi.apart ops ok = true := fun k ok hk hki hun hno => by
        refine hfree k ok hk hki ?_ hno
        by_cases hjk : j = k
        · subst hjk; exact hjun
        · rw [getD_set_ne true hjk] at hun; exact hun
      refine qOpIn_mono (fun a' h3 => ih (listed.setIfInBounds j true) a' (inv.set hj hjn) hfree' (ready_mono hr (Ne.symm hji)) h3.1 ?_) h2
      rw [Array.setIfInBounds_comm _ _ hji]
      exact h3.2

theorem wpAnyIn_of_seq {Q' : Exit → Act → World → Prop} : ∀ (l : List Oper) (k : Nat) (listed : Array Bool) (a : Act) (w : World), (∀ j, l[j]? = ops[k + j]?) →
    Region.seqB md ops l.length k listed = true → wpListIn F n P ops Q' l a w → wpAnyIn F n P md ops Q' l.length listed a w
  | [], _, _, _, _, _, hB, h => ⟨by simpa [Region.seqB] using hB, h⟩
  | o :: l, k, listed, a, w, hl, hB, h => by
    have h0 : ops[k]? = some o := by simpa using (hl 0).symm
    simp only [List.length_cons, Region.seqB, Bool.and_eq_true, decide_eq_true_eq] at hB
    refine ⟨fun h1 => (by rw [hB.1] at h1; cases h1), fun i hi => ?_⟩
    rw [hB.1] at hi
    have hik : i = k := by simpa using hi
    subst hik
    have hw : wpOpIn F n P ops Q' i (wpListIn F n P ops Q' l) a w := by unfold wpOpIn; simp only [h0]; exact h
    exact wpOpIn_mono (fun a' w' h' => wpAnyIn_of_seq l (i + 1) _ a' w' (fun j => by have := hl (j + 1); simpa [Nat.add_assoc, Nat.add_comm 1 j] using this) hB.2 h') hw

theorem headQ_lex {m g : Nat} {Lq : Act → Prop} (hsel : Region.noSelect ops = true) (hs : Region.sinkB md ops m = true) (hc : Region.chainB md ops m = true) (hn : m < ops.size) :
    ∀ (l : List Oper) (k : Nat) (listed : Array Bool) (a : Act), (∀ j, j < l.length → l[j]? = ops[k + j]?) → k + l.length = m → HeadInv md ops m listed →
    Region.lexHead md ops g l.length k listed = true → wpQuietIn F n P ops C Lq l a →
    headQ F n P md ops C m (fun listed' a' => Region.seqB md ops g m listed' = true ∧ Lq a') l.length listed a
  | [], k, listed, a, _, hk, _, hB, h => by
    have : k = m := by simpa using hk
    subst this
    exact ⟨by simpa [Region.lexHead] using hB, h⟩
  | o :: l, k, listed, a, hl, hk, inv, hB, h => by
    have h0 : ops[k]? = some o := by simpa using (hl 0 (by simp)).symm
    simp only [List.length_cons, Region.lexHead, Bool.and_eq_true] at hB
    obtain ⟨⟨hr, hf⟩, hB'⟩ := hB
    have hkn : k < m := by simp only [List.length_cons] at hk; omega
    have hr' : k ∈ Region.ready md ops listed := by simpa using hr
    have hst : qOpIn F n P ops C k (wpQuietIn F n P ops C Lq l) a := by unfold qOpIn; simp only [h0]; exact h
    obtain ⟨v, hy, hK⟩ := yieldsQuiet_of_qOpIn h0 hst
    exact headQ_first h0 (Region.noSelect_spec hsel) hs hc hn hkn (fun listed' a' hL => seqB_ready hL.1) l.length listed a inv (Region.free_spec h0 hf) hr' hy
      (headQ_lex hsel hs hc hn l (k + 1) _ _ (fun j hj => by have := hl (j + 1) (by simp; omega); simpa [Nat.add_assoc, Nat.add_comm 1 j] using this) (by simp only [List.length_cons] at hk; omega) (inv.set hr' hkn) hB' hK)

/-- what only reads ahead, in whatever order; what must come last behind it, in its order -/
theorem wpIn_quiet_tail {id : Nat} {Q : Exit → Act → World → Prop} {a : Act} {w : World} {l : List Oper} (m : Nat) (hm : P.follows .mixedOrders = true) (hnd : noDefer l.toArray = true) (hB : Region.lexTailB .any l.toArray m = true)
    (h : wpQuietIn F n P l.toArray (fun w' => ∃ k, w' = w.drewN k) (fun a' => ∀ w', (∃ k, w' = w.drewN k) → wpListIn F n P l.toArray Q (l.drop m) a' w') (l.take m) a) : (Code.region id l.toArray true).wpIn F n P Q a w := by
  simp only [Region.lexTailB, Bool.and_eq_true, decide_eq_true_eq] at hB
  obtain ⟨⟨⟨⟨hsel, hn⟩, hs⟩, hc⟩, hlex⟩ := hB
  have hn' : m < l.length := by simpa using hn
  have htl : (l.take m).length = m := by simp; omega
  have hdl : (l.drop m).length = l.toArray.size - m := by simp
  have inv0 : HeadInv .any l.toArray m (Array.replicate l.toArray.size false) :=
    ⟨by simp, fun j oj _ hl => (by rw [getD_replicate_false] at hl; cases hl), fun t _ ht => getD_in (by simpa using ht) (getD_replicate_false _ _)⟩
  have H := headQ_lex (F := F) (n := n) (P := P) (md := .any) (g := l.toArray.size - m) hsel hs hc hn (l.take m) 0 _ a (fun j hj => by
    have hj' : j < m := by rw [htl] at hj; exact hj
    simp [hj']) (by simpa using htl) inv0 (by rw [htl]; exact hlex) h
  refine wpIn_region_any hm ?_
  have := wpAnyIn_of_headQ (Q' := Q) (g := l.toArray.size - m) hnd (fun listed a' w' hw' hL => by
    have := wpAnyIn_of_seq (F := F) (n := n) (P := P) (md := .any) (Q' := Q) (l.drop m) m listed a' w' (fun j => by simp [List.getElem?_drop]) (by rw [hdl]; exact hL.1) (hL.2 w' hw')
    rwa [hdl] at this) _ _ _ _ ⟨1, rfl⟩ H
  rw [htl, show m + (l.toArray.size - m) = l.toArray.size by omega] at this
  exact this

theorem wpAnyIn_of_allQ {Q : Act → Prop} {Q' : Exit → Act → World → Prop} (hnd : noDefer ops = true) (hQ : ∀ a w, C w → Q a → Q' .normal a w) : ∀ (fuel : Nat) (listed : Array Bool) (a : Act) (w : World), C w →
    wpAnyQIn F n P md ops C Q fuel listed a → wpAnyIn F n P md ops Q' fuel listed a w
  | 0, _, _, _, hw, h => ⟨h.1, hQ _ _ hw h.2⟩
  | fuel + 1, _, _, _, hw, h => ⟨fun h0 => hQ _ _ hw (h.1 h0), fun i hi => quiet_wpOpIn hnd hw (fun a' w' hw' => wpAnyIn_of_allQ hnd hQ fuel _ a' w' hw') (h.2 i hi)⟩

/-- all of it only reads -/
theorem wpIn_quiet_all {id : Nat} {Q : Exit → Act → World → Prop} {a : Act} {w : World} {l : List Oper} (hm : P.follows .mixedOrders = true) (hnd : noDefer l.toArray = true) (hB : Region.lexB .any l.toArray = true)
    (h : wpQuietIn F n P l.toArray (fun w' => ∃ k, w' = w.drewN k) (fun a' => ∀ w', (∃ k, w' = w.drewN k) → Q .normal a' w') l a) : (Code.region id l.toArray true).wpIn F n P Q a w := by
  simp only [Region.lexB, Bool.and_eq_true] at hB
  refine wpIn_region_any hm (wpAnyIn_of_allQ (Q := fun a' => ∀ w', (∃ k, w' = w.drewN k) → Q .normal a' w') hnd (fun _ w' hw' h => h w' hw') _ _ _ _ ⟨1, rfl⟩ ?_)
  have := wpAnyQIn_lex (F := F) (n := n) (P := P) (C := fun w' => ∃ k, w' = w.drewN k) (md := .any) hB.1 l.toArray.toList 0 (Array.replicate l.toArray.size false) a (by simp) (by simpa using hB.2) (by simpa using h)
  simpa using this

/-- one operation of the walk, where the fence lets every function by -/
theorem quiet_step_w (hF : ∀ f, F.fn f) {Q : Act → Prop} {a : Act} {o : Oper} {rest : List Oper}
    (h : ∀ K : Act → Prop, (∀ a, wpQuietIn F n P ops C Q rest a → K a) → if Region.wanted o (yielded ops a.tmps) then o.quietIn F n P a C K else K (a.put o.dst undef)) : wpQuietIn F n P ops C Q (o :: rest) a :=
  wpQuietIn_step (fun _ _ f _ => hF f) h
end
end Go.Proofs.YtnoeblnljfnecaaGreatDoor
end
section
/- Regions that draw their order, anywhere (a loop's round over a function too), walked op by op in one way, where the fence lets every function by: what only reads may be taken first; S holds behind every operation but the last (number z), which waits for what reads. -/
namespace Go.Proofs.YtnoeblnljfnecaaGreatDoor
open Go Go.RowKit

section
variable {F : Fence} {n : Nat} {P : Program} {md : Region.Mode} {ops : Array Oper} {Q : Exit → Act → World → Prop} {S : World → Prop} {z : Nat}
theorem wpOpIn_putIf {j : Nat} {oi oj : Oper} {v : Value} (hF : ∀ f, F.fn f) (hnd : noDefer ops = true) (hj : ops[j]? = some oj) (hap : oi.apart ops oj = true)
    (hsi : ∀ cs b, oi.op ≠ .select cs b) (hsj : ∀ cs b, oj.op ≠ .select cs b)
    (hQ : ∀ c a w, Q (.panic c) (a.put oi.dst v) w → Q (.panic c) a w) {K : Act → World → Prop} {a : Act} {w : World}
    (hy : YieldsIf P ops S oi v a) (h : wpOpIn F n P ops Q j K (a.put oi.dst v) w) :
    wpOpIn F n P ops Q j (fun a' w' => YieldsIf P ops S oi v a' ∧ K (a'.put oi.dst v) w') a w := by
  obtain ⟨h1, h2, h3⟩ := Oper.apart_spec hap
  have keep : ∀ (a : Act), YieldsIf P ops S oi v a → ∀ u, YieldsIf P ops S oi v (a.put oj.dst u) := fun a hy u =>
    hy.of_same (execOp_put oi hsi a oj.dst u h3) (wanted_put oi a oj.dst u h3)
  have keepD : ∀ d, YieldsIf P ops S oi v { a with defers := d :: a.defers } := fun d => hy.of_same rfl rfl
  have hnj := noDefer_spec hnd hj
  unfold wpOpIn at *
  simp only [hj] at *
  rw [wanted_put oj a oi.dst v h1, about_put oj w a oi.dst v h1] at h
  split
  · rename_i hw
    simp only [hw, if_true] at h
    unfold Oper.wpIn at *
    rw [about_put oj w a oi.dst v h1] at h
    refine ⟨h.1, ?_⟩
    have h := h.2
    rw [Oper.semAt_eq _ _ _ hnj, execOp_put oj hsj a oi.dst v h1] at h
    rw [Oper.semAt_eq _ _ _ hnj]
    generalize (execOp a.eval oj).run P w = r at *
    cases r with
    | ok x w' =>
      cases x <;> simp only [Oper.uponIn] at h ⊢
      case value u => exact ⟨keep a hy u, by rw [← Act.put_comm a v u h2]; exact h⟩
      case skip => exact ⟨keep a hy _, by rw [← Act.put_comm a v undef h2]; exact h⟩
      case defer d =>
        refine ⟨keep _ (keepD d) _, ?_⟩
        rw [← Act.put_comm _ v undef h2, ← Act.put_defers]
        exact h
      case enter f args =>
        refine ⟨h.1, CallsIn.mono h.2 fun e w'' he => ?_⟩
        cases e with
        | returned u => exact ⟨keep a hy u, by rw [← Act.put_comm a v u h2]; exact he⟩
        | panicked c => exact hQ _ _ _ he
        | outgrown => exact he
      case row row args => exact ⟨h.1, RowsIn.mono h.2 fun u w'' he => ⟨keep a hy u, by rw [← Act.put_comm a v u h2]; exact he⟩⟩
      case round l f tmps assign body =>
        refine ⟨h.1, RoundIn.mono h.2 fun e w'' he => ?_⟩
        cases e with
        | returned u => exact ⟨keep a hy u, by rw [← Act.put_comm a v u h2]; exact he⟩
        | panicked c => exact hQ _ _ _ he
        | outgrown => exact he
    | halt x w' =>
      cases x <;> simp only [Oper.uponIn] at h ⊢
      case panic u => exact hQ _ _ _ h
  · rename_i hw
    simp only [hw] at h
    exact ⟨h.1, keep a hy _, by rw [← Act.put_comm a v undef h2]; exact h.2⟩
theorem yieldsIf_wpOpIn {i : Nat} {o : Oper} {v : Value} {a : Act} (hF : ∀ f, F.fn f) (hnd : noDefer ops = true) (hi : ops[i]? = some o) (hy : YieldsIf P ops S o v a)
    {K : Act → World → Prop} {w : World} (hS : S w) (h : K (a.put o.dst v) w) : wpOpIn F n P ops Q i K a w := by
  unfold wpOpIn
  simp only [hi]
  rcases hy with ⟨hw, hv⟩ | ⟨hw, rfl⟩
  · simp only [hw, if_true, Oper.wpIn]
    refine ⟨fun f _ => hF f, ?_⟩
    rw [Oper.semAt_eq _ _ _ (noDefer_spec hnd hi), hv w hS]
    exact h
  · simp only [hw, Bool.false_eq_true, if_false]; exact ⟨fun f _ => hF f, h⟩
/-- whatever order is picked; S holds behind all but z -/
def wpAnyI (F : Fence) (n : Nat) (P : Program) (md : Region.Mode) (ops : Array Oper) (Q : Exit → Act → World → Prop) (S : World → Prop) (z : Nat) : Nat → Array Bool → Act → World → Prop
  | 0, listed, a, w => Region.ready md ops listed = [] ∧ Q .normal a w
  | fuel + 1, listed, a, w => (Region.ready md ops listed = [] → Q .normal a w) ∧
    ∀ i ∈ Region.ready md ops listed, wpOpIn F n P ops Q i (fun a' w' => (i ≠ z → S w') ∧ wpAnyI F n P md ops Q S z fuel (listed.setIfInBounds i true) a' w') a w
theorem wpAnyIn_of_i : ∀ (fuel : Nat) (listed : Array Bool) (a : Act) (w : World), wpAnyI F n P md ops Q S z fuel listed a w → wpAnyIn F n P md ops Q fuel listed a w
  | 0, _, _, _, h => h
  | fuel + 1, _, _, _, h => ⟨h.1, fun i hi => wpOpIn_mono (fun _ _ h' => wpAnyIn_of_i fuel _ _ _ h'.2) (h.2 i hi)⟩
theorem wpAnyI_first {i : Nat} {oi : Oper} {v : Value} (hF : ∀ f, F.fn f) (hnd : noDefer ops = true) (hi : ops[i]? = some oi) (hsel : ∀ (j : Nat) (o : Oper) cs b, ops[j]? = some o → o.op ≠ .select cs b)
    (hQ : ∀ c a w, Q (.panic c) (a.put oi.dst v) w → Q (.panic c) a w) (hz : waitsFor md ops z i = true) : ∀ (fuel : Nat) (listed : Array Bool) (a : Act) (w : World),
      (∀ j oj, ops[j]? = some oj → j ≠ i → listed.getD j true = false → (∀ e ∈ oj.after, Region.binds md e = true → e.on ≠ i) → oi.apart ops oj = true) →
      i ∈ Region.ready md ops listed → YieldsIf P ops S oi v a → S w → wpAnyI F n P md ops Q S z fuel (listed.setIfInBounds i true) (a.put oi.dst v) w → wpAnyI F n P md ops Q S z (fuel + 1) listed a w := by
  intro fuel
  induction fuel with
  | zero =>
    intro listed a w _ hr hy hS H
    refine ⟨fun h => (by rw [h] at hr; cases hr), fun j hj => ?_⟩
    by_cases hji : j = i
    · subst hji
      exact yieldsIf_wpOpIn hF hnd hi hy hS ⟨fun _ => hS, H⟩
    · have h1 := ready_mono hj hji
      rw [H.1] at h1
      cases h1
  | succ fuel ih =>
    intro listed a w hfree hr hy hS H
    refine ⟨fun h => (by rw [h] at hr; cases hr), fun j hj => ?_⟩
    by_cases hji : j = i
    · subst hji
      exact yieldsIf_wpOpIn hF hnd hi hy hS ⟨fun _ => hS, H⟩
    · have hjz := waits_not hz hr hj
      have h1 := H.2 j (ready_mono hj hji)
      obtain ⟨hjun, oj, hoj, hall⟩ := mem_ready.1 hj
      have hnot : ∀ e ∈ oj.after, Region.binds md e = true → e.on ≠ i := fun e he hb heq => by
        have h1 := hall e he hb
        have h0 := (mem_ready.1 hr).1
        rw [heq] at h1
        rcases Nat.lt_or_ge i listed.size with h' | h'
        · simp [h'] at h0 h1; rw [h0] at h1; cases h1
        · simp [Array.getElem?_eq_none h'] at h1
      have h2 := wpOpIn_putIf hF hnd hoj (hfree j oj hoj hji hjun hnot) (fun cs b => hsel i oi cs b hi) (fun cs b => hsel j oj cs b hoj) hQ hy h1
      refine wpOpIn_mono (fun a' w' h3 => ⟨h3.2.1, ih (listed.setIfInBounds j true) a' w' (fun k ok hk hki hun hno => hfree k ok hk hki ?_ hno) (ready_mono hr (Ne.symm hji)) h3.1 (h3.2.1 hjz) ?_⟩) h2
      · by_cases hjk : j = k
        · subst hjk; exact hjun
        · rw [getD_set_ne true hjk] at hun; exact hun
      · rw [Array.setIfInBounds_comm _ _ hji]
        exact h3.2.2
/-- what yields in every world that is held -/
theorem wpAnyI_read {i : Nat} {oi : Oper} (v : Value) {fuel : Nat} {listed : Array Bool} {a : Act} {w : World} (hF : ∀ f, F.fn f) (hnd : noDefer ops = true) (hi : ops[i]? = some oi)
    (hs : Region.noSelect ops = true) (hf : Region.free md ops listed i = true) (hr : (Region.ready md ops listed).contains i = true) (hz : waitsFor md ops z i = true)
    (hQ : ∀ c a w, Q (.panic c) (a.put oi.dst v) w → Q (.panic c) a w) (hw : Region.wanted oi (yielded ops a.tmps) = true) (hS : S w)
    (hy : ∀ w, S w → (execOp a.eval oi).run P w = .ok (.value v) w)
    (h : wpAnyI F n P md ops Q S z fuel (listed.setIfInBounds i true) (a.put oi.dst v) w) : wpAnyI F n P md ops Q S z (fuel + 1) listed a w :=
  wpAnyI_first hF hnd hi (Region.noSelect_spec hs) hQ hz fuel listed a w (Region.free_spec hi hf) (by simpa using hr) (Or.inl ⟨hw, hy⟩) hS h
/-- what is guarded, and not wanted -/
theorem wpAnyI_pass {i : Nat} {oi : Oper} {fuel : Nat} {listed : Array Bool} {a : Act} {w : World} (hF : ∀ f, F.fn f) (hnd : noDefer ops = true) (hi : ops[i]? = some oi)
    (hs : Region.noSelect ops = true) (hf : Region.free md ops listed i = true) (hr : (Region.ready md ops listed).contains i = true) (hz : waitsFor md ops z i = true)
    (hQ : ∀ c a w, Q (.panic c) (a.put oi.dst undef) w → Q (.panic c) a w) (hw : Region.wanted oi (yielded ops a.tmps) = false) (hS : S w)
    (h : wpAnyI F n P md ops Q S z fuel (listed.setIfInBounds i true) (a.put oi.dst undef) w) : wpAnyI F n P md ops Q S z (fuel + 1) listed a w :=
  wpAnyI_first hF hnd hi (Region.noSelect_spec hs) hQ hz fuel listed a w (Region.free_spec hi hf) (by simpa using hr) (Or.inr ⟨hw, rfl⟩) hS h
/-- one alone may come up: a call, a slice that is made -/
theorem wpAnyI_one {i : Nat} {o : Oper} {fuel : Nat} {listed : Array Bool} {a : Act} {w : World} (hr : Region.ready md ops listed = [i]) (ho : ops[i]? = some o) (hw : Region.wanted o (yielded ops a.tmps) = true)
    (h : ∀ K' : Act → World → Prop, Shut (∀ a w, S w → (S w → wpAnyI F n P md ops Q S z fuel (listed.setIfInBounds i true) a w) → K' a w) → Oper.wpIn F n P o a w K' Q) : wpAnyI F n P md ops Q S z (fuel + 1) listed a w :=
  ⟨fun h0 => absurd (hr ▸ h0) (by simp), by
    rw [hr]
    intro j hj
    obtain rfl := List.mem_singleton.1 hj
    exact wpOpIn_step ho fun K' hK => by rw [if_pos hw]; exact h K' fun a w hS hW => hK a w ⟨fun _ => hS, hW hS⟩⟩
/-- z comes up -/
theorem wpAnyI_last {o : Oper} {fuel : Nat} {listed : Array Bool} {a : Act} {w : World} (hr : Region.ready md ops listed = [z]) (ho : ops[z]? = some o) (hw : Region.wanted o (yielded ops a.tmps) = true)
    (h : ∀ K' : Act → World → Prop, Shut (∀ a w, wpAnyI F n P md ops Q S z fuel (listed.setIfInBounds z true) a w → K' a w) → Oper.wpIn F n P o a w K' Q) : wpAnyI F n P md ops Q S z (fuel + 1) listed a w :=
  ⟨fun h0 => absurd (hr ▸ h0) (by simp), by
    rw [hr]
    intro j hj
    obtain rfl := List.mem_singleton.1 hj
    exact wpOpIn_step ho fun K' hK => by rw [if_pos hw]; exact h K' fun a w hW => hK a w ⟨fun e => absurd rfl e, hW⟩⟩
theorem wpAnyI_done {listed : Array Bool} {a : Act} {w : World} (hr : Region.ready md ops listed = []) (h : Q .normal a w) : ∀ fuel, wpAnyI F n P md ops Q S z fuel listed a w
  | 0 => ⟨hr, h⟩
  | _ + 1 => ⟨fun _ => h, by rw [hr]; simp⟩
theorem wpIn_region_i (S : World → Prop) (z : Nat) {id : Nat} {a : Act} {w : World} (hm : P.follows .mixedOrders = true) (hS : S w.drew)
    (h : S w.drew → wpAnyI F n P .any ops Q S z ops.size (Array.replicate ops.size false) a w.drew) : (Code.region id ops true).wpIn F n P Q a w :=
  wpIn_region_any hm (wpAnyIn_of_i _ _ _ _ (h hS))
/-- append whose run is known -/
theorem wpIn_app_run {W W' : World} {o : Oper} {a : Act} {K : Act → World → Prop} (s x : Operand) (t tx : TypeId)
    (ho : o.op = .call { callee := .builtin .append, args := #[s, x], argTypes := #[t, tx] }) {v : Value} (hr : (Builtin.append_ #[t, tx] o.type #[a.eval s, a.eval x]).run P W = .ok v W') (h : K (a.put o.dst v) W') : Oper.wpIn F n P o a W K Q := by
  unfold Oper.wpIn
  refine ⟨?_, ?_⟩
  · simp [Oper.about, ho, resolve, Target.leads, Sem.run_pure]
  · rw [Oper.semAt_plain F _ _ (by rw [ho]; intro c hc'; cases hc')]
    simp [execOp, ho, resolve, invoke, builtin, hr, Result.andThen]
    exact h
end
/-- one element more, that lies in the newest block: as a run -/
theorem run_one_t {P : Program} {W : World} (base : Nat) (t ty e : TypeId) (i : TypeInfo) (z : Value) (size bytes : Nat) (ht : P.underlying t = some (.slice e)) (hi : P.info? e = some i) (hz : i.zero = some z)
    (hsize : i.size = size) (hby : i.bytes = bytes) (hzs : z.cells.size = size) (hsz : 0 < size) (v : Value) (n : Nat) (xs : List Value) (hown : W.ownsRow base e size v n xs)
    (cs : Array Value) (hl : cs.size = size) (h1 : ∀ u ∈ cs.toList, u.oneCell' = true) (hn : n + 1 ≤ 1000000000) (hbs : bytes ≤ 1000) (hbase : base ≤ W.heap.size) :
    ∃ v' w', (Builtin.append_ #[t, t] ty #[v, .slice (some ⟨W.heap.size, 0, none⟩) 1 1]).run P (W.alloc (.cells cs e)) = .ok v' w' ∧ w'.ownsRow base e size v' (n + 1) (xs ++ cs.toList) ∧ Fr (fun k => v.ownBlock = some k) W w' ∧ (∀ k, v'.ownBlock = some k → v.ownBlock = some k ∨ W.heap.size ≤ k) := by
  have hnb : (n + 1) * bytes ≤ 140737488355328 := Nat.le_trans (Nat.mul_le_mul hn hbs) (by decide)
  have h63 : n + 1 ≤ maxLen := by unfold maxLen; omega
  have hx : (hown.alloc (.cells cs e)) = hown.alloc (.cells cs e) := rfl
  have hl1 : cs.toList.length = 1 * size := by simpa using hl
  obtain ⟨v', w', hr, h2, h3, h4⟩ := run_append_own (P := P) (W.alloc (.cells cs e)) base t ty e i z size bytes ht hi hz hsize hby hzs hsz v n xs (hown.alloc _) ⟨W.heap.size, 0, none⟩ 1 1 cs.toList hl1 (cells_new W cs e) h1 h63 hnb (by simp; omega)
  have htie := run_append_tie (W.alloc (.cells cs e)) base t ty e i z size bytes ht hi hz hsize hby v n xs (hown.alloc _) ⟨W.heap.size, 0, none⟩ 1 1 cs.toList hl1 (cells_new W cs e) h1 h63 hnb hr
  refine ⟨v', w', hr, h2, (((Fr.refl _ W).alloc _).grown h3 fun k hk => .inr hk), fun k hk => (htie k hk).imp id fun e => by simp at e; omega⟩
end Go.Proofs.YtnoeblnljfnecaaGreatDoor
end
section
/- Layer 1: that folded texts stand in one row (numbers and lists alone). -/
namespace Go.Proofs.YtnoeblnljfnecaaGreatDoor
open Go.RowKit

theorem cmpL_anti : ∀ (x y : List UInt8), cmpL y x = -cmpL x y
  | [], [] => rfl
  | [], _ :: _ => rfl
  | _ :: _, [] => rfl
  | a :: x, b :: y => by
    simp only [cmpL]
    by_cases h1 : a.toNat < b.toNat
    · rw [if_pos h1, if_neg (by omega), if_pos h1]; rfl
    · by_cases h2 : b.toNat < a.toNat
      · rw [if_pos h2, if_neg h1, if_pos h2]
      · rw [if_neg h2, if_neg h1, if_neg h1, if_neg h2, cmpL_anti x y]
theorem cmpF_anti (x y : List UInt8) : cmpF y x = -cmpF x y := cmpL_anti _ _
theorem cmpL_trans : ∀ (x y z : List UInt8), cmpL x y ≤ 0 → cmpL y z ≤ 0 → cmpL x z ≤ 0
  | [], _, [] => by simp [cmpL]
  | [], _, _ :: _ => by simp [cmpL]
  | _ :: _, [], _ => by intro h; simp [cmpL] at h
  | _ :: _, _ :: _, [] => by intro _ h; simp [cmpL] at h
  | a :: x, b :: y, c :: z => by
    simp only [cmpL]
    intro h1 h2
    by_cases e1 : a.toNat < b.toNat
    · by_cases e2 : b.toNat < c.toNat
      · rw [if_pos (by omega)]; omega
      · rw [if_neg e2] at h2
        by_cases e3 : c.toNat < b.toNat
        · rw [if_pos e3] at h2; omega
        · rw [if_pos (by omega)]; omega
    · rw [if_neg e1] at h1
      by_cases e2 : b.toNat < a.toNat
      · rw [if_pos e2] at h1; omega
      · rw [if_neg e2] at h1
        by_cases e3 : b.toNat < c.toNat
        · rw [if_pos (by omega)]; omega
        · rw [if_neg e3] at h2
          by_cases e4 : c.toNat < b.toNat
          · rw [if_pos e4] at h2; omega
          · rw [if_neg e4] at h2
            rw [if_neg (by omega), if_neg (by omega)]
            exact cmpL_trans x y z h1 h2
theorem cmpF_trans {x y z : List UInt8} : cmpF x y ≤ 0 → cmpF y z ≤ 0 → cmpF x z ≤ 0 := cmpL_trans _ _ _
theorem cmpL_app : ∀ (c x y : List UInt8), cmpL (c ++ x) (c ++ y) = cmpL x y
  | [], _, _ => rfl
  | b :: c, x, y => by
    simp only [List.cons_append, cmpL]
    rw [if_neg (by omega), if_neg (by omega)]
    exact cmpL_app c x y
theorem cmpF_app (c x y : List UInt8) : cmpF (c ++ x) (c ++ y) = cmpF x y := by
  unfold cmpF; rw [foldL_append, foldL_append]; exact cmpL_app _ _ _
theorem cmpF_zero_len {x y : List UInt8} (h : cmpF x y = 0) : x.length = y.length := by
  have := congrArg List.length (cmpL_zero.1 h)
  simpa using this
theorem sameF_take (a b : List UInt8) : sameF ((a ++ b).take a.length) a = true := by
  rw [List.take_left]; exact sameF_iff.2 rfl
theorem sameF_refl (a : List UInt8) : sameF a a = true := sameF_iff.2 rfl
theorem sameF_halves {a b c d : List UInt8} (h : a.length = c.length) : sameF (a ++ b) (c ++ d) = (sameF a c && sameF b d) := by
  rw [Bool.eq_iff_iff, Bool.and_eq_true, sameF_iff, sameF_iff, sameF_iff, foldL_append, foldL_append]
  constructor
  · intro e
    exact List.append_inj e (by simp [h])
  · rintro ⟨e1, e2⟩
    rw [e1, e2]
theorem cmpF_bd (x y : List UInt8) : -1 ≤ cmpF x y ∧ cmpF x y ≤ 1 := by
  rcases cmpL_three (foldL x) (foldL y) with h | h | h <;> (unfold cmpF; omega)
end Go.Proofs.YtnoeblnljfnecaaGreatDoor
end
section
/- Layer 21: the document's lists: Of. -/
namespace Go.Proofs.YtnoeblnljfnecaaGreatDoor
set_option linter.unusedVariables false
set_option linter.unusedSimpArgs false
open Go Go.RowKit Go.Maps Go.Sort Go.Shelf Go.Lib

section
variable {P : Program} {w W' : World} {ops : Array Oper} {rest : List Oper} {o : Oper} {a : Act} {Q : Exit → Act → World → Prop}
theorem wpList_app_run (hgd : o.guard = none) (s x : Operand) (t tx : TypeId) (ho : o.op = .call { callee := .builtin .append, args := #[s, x], argTypes := #[t, tx] })
    {v : Value} (hr : (Builtin.append_ #[t, tx] o.type #[a.eval s, a.eval x]).run P w = .ok v W') (h : wpList P ops Q rest (a.put o.dst v) W') : wpList P ops Q (o :: rest) a w := by
  refine wpList_plain hgd fun _ hK => ?_
  unfold Oper.wp execOp
  simp only [ho, resolve, invoke, builtin, Sem.run_bind, Sem.run_pure, Result.andThen_ok, List.map_toArray, List.map_cons, List.map_nil, hr]
  exact hK _ _ h
end
theorem cmpF_pos (a b : List UInt8) : 0 < cmpF a b ↔ foldL b < foldL a := by
  have h1 : cmpL (foldL b) (foldL a) = -1 ↔ foldL b < foldL a := by rw [← less_cmpL, bytesLess_eq, decide_eq_true_eq]
  have h2 := cmpL_anti (foldL a) (foldL b)
  unfold cmpF
  rw [← h1]
  rcases cmpL_three (foldL a) (foldL b) with h | h | h <;> omega
theorem add_anyW (g o j : Nat) : (⟨g, o, none⟩ : Addr).add j = ⟨g, o + j, none⟩ := by
  unfold Addr.add
  split
  · simp_all
  · rfl
theorem slice_texts (g o n c : Nat) (hc : n ≤ c) (hc0 : 0 < c) (i : Nat) (hi : i ≤ n) :
    (∀ W, (Instr.slice 38 (.slice (some ⟨g, o, none⟩) n c) none (some (.int .i64 i)) none).run Tryz.prog W = .ok (.slice (some ⟨g, o, none⟩) i c) W) ∧
    ∃ g1 o1, (∀ W, (Instr.slice 38 (.slice (some ⟨g, o, none⟩) n c) (some (.int .i64 (i : Int))) none none).run Tryz.prog W = .ok (.slice (some ⟨g1, o1, none⟩) (n - i) (c - i)) W) ∧ (i < n → g1 = g ∧ o1 = o + i) := by
  have hu : Tryz.prog.underlying 38 = some (.slice (Tryz.prog.elem 38)) := by kernel_rfl
  obtain ⟨i0, hi0, _, hz1, _⟩ := info_parts Tryz.infoT
  refine ⟨fun W => ?_, ?_⟩
  · rw [run_slice_h W 38 _ _ _ hu _ _ (by omega) (by omega)]
    have h3 : ¬ (c = 0) := by omega
    simp [sliced, sizeOf, hi0, hz1, go_sem, h3, add_anyW, typeInfo]
  · by_cases h1 : c = i
    · refine ⟨g, o, fun W => ?_, fun h2 => by omega⟩
      rw [run_slice_l W 38 _ _ _ hu _ _ (by omega) (by omega)]
      simp [sliced, sizeOf, hi0, hz1, go_sem, h1, typeInfo]
    · refine ⟨g, o + i, fun W => ?_, fun h2 => ⟨rfl, rfl⟩⟩
      rw [run_slice_l W 38 _ _ _ hu _ _ (by omega) (by omega)]
      have h2 : ¬ c - i = 0 := by omega
      simp [sliced, sizeOf, hi0, hz1, go_sem, h1, h2, add_anyW, typeInfo]
theorem slice_none_h (W : World) : (Instr.slice 38 (.slice none 0 0) none (some (.int .i64 ((0 : Nat) : Int))) none).run Tryz.prog W = .ok (.slice none 0 0) W := by kernel_rfl
theorem slice_none_l (W : World) : (Instr.slice 38 (.slice none 0 0) (some (.int .i64 ((0 : Nat) : Int))) none none).run Tryz.prog W = .ok (.slice none 0 0) W := by kernel_rfl
theorem encT_one (T : List (List UInt8)) : ∀ u ∈ T.map encT, u.oneCell' = true := by
  intro u hu
  obtain ⟨p, _, rfl⟩ := List.mem_map.1 hu
  rfl
/-- a name put in among names: the slices, the three appends -/
theorem ins_runs {base : Nat} {w : World} {A : Option Addr} {c : Nat} {ns : List (List UInt8)} (h3 : OwnT base w (.slice A ns.length c) ns) (hnil : ns = [] → A = none ∧ c = 0) {i : Nat} (hi : i ≤ ns.length) (hl : ns.length ≤ 1000000) (s : List UInt8) :
    ∃ V1 V2 A3 c3 A4 c4 A5 c5 W3 W4 W5,
      (∀ W, (Instr.slice 38 (.slice A ns.length c) none (some (.int .i64 i)) none).run Tryz.prog W = .ok V1 W) ∧
      (∀ W, (Instr.slice 38 (.slice A ns.length c) (some (.int .i64 (i : Int))) none none).run Tryz.prog W = .ok V2 W) ∧
      (Builtin.append_ #[38, 38] 38 #[.slice none 0 0, V1]).run Tryz.prog w = .ok (.slice A3 i c3) W3 ∧
      (Builtin.append_ #[38, 38] 38 #[.slice A3 i c3, .slice (some ⟨W3.heap.size, 0, none⟩) 1 1]).run Tryz.prog (W3.alloc (.cells #[.string (bs s)] 9)) = .ok (.slice A4 (i + 1) c4) W4 ∧
      (Builtin.append_ #[38, 38] 38 #[.slice A4 (i + 1) c4, V2]).run Tryz.prog W4 = .ok (.slice A5 (ns.length + 1) c5) W5 ∧
      OwnT w.heap.size W5 (.slice A5 (ns.length + 1) c5) (ns.take i ++ s :: ns.drop i) ∧ Fr (fun _ => False) w W3 ∧ Fr (fun _ => False) w W4 ∧ Fr (fun _ => False) w W5 := by
  obtain ⟨i0, hi0, hz0, hz1, hz2⟩ := info_parts Tryz.infoT
  have h3' := h3
  obtain ⟨V1, V2, hs1, hs2, src1, src2⟩ : ∃ V1 V2,
      (∀ W, (Instr.slice 38 (.slice A ns.length c) none (some (.int .i64 i)) none).run Tryz.prog W = .ok V1 W) ∧
      (∀ W, (Instr.slice 38 (.slice A ns.length c) (some (.int .i64 (i : Int))) none none).run Tryz.prog W = .ok V2 W) ∧
      (∀ W, Fr (fun _ => False) w W → Src Tryz.prog 1 38 V1 i ((ns.take i).map encT) W) ∧ (∀ W, Fr (fun _ => False) w W → Src Tryz.prog 1 38 V2 (ns.length - i) ((ns.drop i).map encT) W) := by
    by_cases h0 : ns = []
    · obtain ⟨rfl, rfl⟩ := hnil h0
      subst h0
      obtain rfl : i = 0 := by simpa using hi
      exact ⟨_, _, slice_none_h, slice_none_l, fun W _ => Src.ofNil W Tryz.underlying38 0, fun W _ => Src.ofNil W Tryz.underlying38 0⟩
    · have hpos : 0 < ns.length := List.length_pos_iff.2 h0
      rcases h3.2 with ⟨_, hn⟩ | ⟨g, cap, cur, hv, hbg, hg, hnc, hcm, hcs, htake⟩
      · omega
      injection hv with q1 q2 q3
      subst q1
      subst q3
      obtain ⟨hs1, g1, o1, hs2, hg1⟩ := slice_texts g 0 ns.length c hnc (by omega) i hi
      have hgl : g < w.heap.size := blk_lt hg
      have hcell : ∀ (W : World), Fr (fun _ => False) w W → ∀ j u, (ns.map encT)[j]? = some u → W.cell? ⟨g, 0 + j, none⟩ = some u := fun W hf j u hu => by
        rw [hf.cell (p := ⟨g, 0 + j, none⟩) hgl (fun e => e)]
        have := h3'.cells (g := g) rfl j u hu
        rwa [add_anyW] at this
      have hsp : ns.map encT = (ns.take i).map encT ++ (ns.drop i).map encT := by rw [← List.map_append, List.take_append_drop]
      have l1 : ((ns.take i).map encT).length = i * 1 := by rw [List.length_map, List.length_take]; omega
      have l3 : ((ns.drop i).map encT).length = (ns.length - i) * 1 := by rw [List.length_map, List.length_drop]; omega
      refine ⟨_, _, hs1, hs2, fun W hf => Src.ofSlice W Tryz.underlying38 ⟨g, 0, none⟩ i c _ l1 (fun j u hu => by
        rw [add_anyW]
        refine hcell W hf j u ?_
        rw [hsp, List.getElem?_append_left (by have := (List.getElem?_eq_some_iff.1 hu).1; omega)]
        exact hu) (encT_one _), fun W hf => Src.ofSlice W Tryz.underlying38 ⟨g1, o1, none⟩ _ _ _ l3 (fun j u hu => by
        have hj := (List.getElem?_eq_some_iff.1 hu).1
        obtain ⟨rfl, rfl⟩ := hg1 (by omega)
        rw [add_anyW]
        have := hcell W hf (i + j) u (by rw [hsp, List.getElem?_append_right (by omega), l1, Nat.mul_one, Nat.add_sub_cancel_left]; exact hu)
        rwa [← Nat.add_assoc] at this) (encT_one _)⟩
  have hown0 : w.ownsRow w.heap.size 9 1 (.slice none 0 0) 0 [] := World.ownsRow_nil _ _ _ _
  obtain ⟨v3, W3, hr3, r1, r2, r3⟩ := run_app_any (P := Tryz.prog) w w.heap.size 38 38 38 9 i0 _ 1 16 Tryz.underlying38 hi0 hz0 hz1 hz2 rfl _ 0 [] hown0 _ i _ (src1 w (Fr.refl _ w)) (by unfold maxLen; omega) (by omega) (Nat.le_refl _)
  rw [Nat.zero_add] at r1
  rw [List.nil_append] at r1
  obtain ⟨A3, c3, rfl⟩ := row_slice r1
  have f3 : Fr (fun _ => False) w W3 := r2.mono fun k _ e => by simp [Value.ownBlock] at e
  obtain ⟨v4, W4, hr4, s1, s2, s3⟩ := run_one_t (P := Tryz.prog) (W := W3) w.heap.size 38 38 9 i0 _ 1 16 Tryz.underlying38 hi0 hz0 hz1 hz2 rfl (by decide) _ i _ r1 #[.string (bs s)] rfl (by intro u hu; simp at hu; subst hu; rfl) (by omega) (by decide) f3.size
  obtain ⟨A4, c4, rfl⟩ := row_slice s1
  have f4 : Fr (fun _ => False) w W4 := f3.trans3 s2 fun k hk e => by have := (r1.lt k e).1; omega
  obtain ⟨v5, W5, hr5, t1, t2, t3⟩ := run_app_any (P := Tryz.prog) W4 w.heap.size 38 38 38 9 i0 _ 1 16 Tryz.underlying38 hi0 hz0 hz1 hz2 rfl _ (i + 1) _ s1 _ (ns.length - i) _ (src2 W4 f4) (by unfold maxLen; omega) (by omega) f4.size
  have e5 : i + 1 + (ns.length - i) = ns.length + 1 := by omega
  rw [e5] at t1
  obtain ⟨A5, c5, rfl⟩ := row_slice t1
  refine ⟨V1, V2, A3, c3, A4, c4, A5, c5, W3, W4, W5, hs1, hs2, hr3, hr4, hr5, ?_, f3, f4, f4.trans3 t2 fun k hk e => by have := (s1.lt k e).1; omega⟩
  have hlen : (ns.take i ++ s :: ns.drop i).length = ns.length + 1 := by rw [List.length_append, List.length_cons, List.length_take, List.length_drop]; omega
  unfold OwnT
  rw [hlen, List.map_append, List.map_cons]
  have : (ns.take i).map encT ++ encT s :: (ns.drop i).map encT = (ns.take i).map encT ++ #[Value.string (bs s)].toList ++ (ns.drop i).map encT := by simp [encT]
  rw [this]
  exact t1
end Go.Proofs.YtnoeblnljfnecaaGreatDoor
end
