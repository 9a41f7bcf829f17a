/- Layer 10: SetUnions. -/
import Derived.Test.YteiiaocohpbanaaSetY
import Derived.Laws.AppendOwnNone
namespace Go.Proofs.Yteiiaocohpbanaa
set_option linter.unusedVariables false
set_option linter.unusedSimpArgs false
open Go Go.RowKit Go.Lib Go.Sort Go.Shelf

theorem drew_ex {w w' : World} (h : ∃ q, w' = w.drewN q) : RowKit.Below w.heap.size w w' := by
  obtain ⟨q, rfl⟩ := h
  exact drewN_below w q
theorem same10_self {w : World} (A B : Option Addr) (xs : List Int) (c d : Nat) (hl : xs.length ≤ 1000000) (hA : ReadsI w A xs) (hB : ReadsI w B xs) :
    Calls Try.prog 14 #[.slice A xs.length c, .slice B xs.length d] w fun e w' => e = .returned (.bool true) ∧ ∃ n, w' = w.drewN n :=
  (same10 A B xs xs _ _ c d rfl rfl rfl hl hA hB).mono fun e w' ⟨h1, h2⟩ => ⟨by rw [h1]; simp, h2⟩
theorem news_of {W : World} {ad : Addr} {ls : List Int} (hr : ReadsI W (some ad) ls) : ∀ j u, (ls.map (Value.int .i64))[j]? = some u → W.cell? (ad.add j) = some u := fun j u hu => by
  rw [List.getElem?_map, Option.map_eq_some_iff] at hu
  obtain ⟨y, hy, rfl⟩ := hu
  obtain ⟨hj, rfl⟩ := List.getElem?_eq_some_iff.1 hy
  obtain ⟨g, o, e, hg, h⟩ := hr (by omega)
  cases e
  rw [add_at]
  exact h j hj
theorem one_int (ls : List Int) : ∀ u ∈ ls.map (Value.int .i64), u.oneCell' = true := fun u hu => by
  rw [List.mem_map] at hu
  obtain ⟨y, _, rfl⟩ := hu
  rfl
theorem flat_mem_len {R : List (List Int)} {a : List Int} (h : a ∈ R) : a.length ≤ R.flatten.length := by
  induction R with
  | nil => cases h
  | cons b R ih =>
    rw [List.flatten_cons, List.length_append]
    rcases List.mem_cons.1 h with rfl | h
    · omega
    · have := ih h; omega
theorem any_take_succ (f : Int → Bool) (ls : List Int) (q : Nat) (hq : q < ls.length) : (ls.take (q + 1)).any f = ((ls.take q).any f || f ls[q]) := by
  rw [List.take_succ_eq_append_getElem hq, List.any_append]; simp
theorem rd_at {w W : World} {C : Option Addr} {ls : List Int} (hr : ReadsI w C ls) (hb : RowKit.Below w.heap.size w W) {k : Nat} (hk : k < ls.length) : ∃ g o, C = some ⟨g, o, none⟩ ∧ W.cell? ⟨g, o + k, none⟩ = some (.int .i64 ls[k]) := by
  obtain ⟨g, o, rfl, hg, h⟩ := hr (by omega)
  exact ⟨g, o, rfl, (World.cell?_of_block (w := w) (w' := W) (a := ⟨g, o + k, none⟩) (hb.block g hg)).trans (h k hk)⟩
set_option maxRecDepth 100000 in
set_option maxHeartbeats 16000000 in
theorem setUnions_main (A : Option Addr) (l : List zrowT) (c : Nat) (x : Int) (w : World) (hl : l.length ≤ 10) (hA : RowsI w A l) :
    Calls Try.prog 4 #[.slice A l.length c, .int .i64 x] w fun e w' => e = .returned (.bool true) ∧ RowKit.Below w.heap.size w w' := by
  have HA := Lib.hid hA
  clear hA
  obtain ⟨i0, hi, hz0, hz1, hz2⟩ := info_parts Try.infoI
  obtain ⟨i1, hi1, hy0, hy1, hy2⟩ := info_parts Try.infoP
  go_enter Try.func4, Try.ntmps4
  go_wp2_with fail
  refine (awake10 w).mono ?_
  rintro e w1 ⟨rfl, b1⟩
  have H0 : Hid ((rowsK l 0).flatten.length ≤ 20 * 0 ∧ UnI w (.slice none 0 0) (rowsK l 0).flatten (.slice none 0 0) (rowsK l 0) [] w1) := ⟨Nat.le_refl _, un_start b1⟩
  clear b1
  go_wp2_with fail
  go_loopw [5, 6, 7] (fun va vs i wr => ∃ (k : Nat) (ps : List Value), i = .int .i64 k ∧ k ≤ l.length ∧ Hid ((rowsK l k).flatten.length ≤ 20 * k ∧ UnI w va (rowsK l k).flatten vs (rowsK l k) ps wr)) (fun _ _ i _ => l.length - (intOf i).toNat)
  case atStart => exact ⟨0, [], rfl, Nat.zero_le _, H0⟩
  case round =>
    obtain ⟨k, ps, rfl, hk, HQ⟩ := hrel
    clear H0
    by_cases hlt : k < l.length
    · obtain ⟨g, o, C, cc, rfl, hr, h1, h2, h3, hat⟩ := rows_at HA.out hlt
      unfold maxLen at h2
      have a1 := hat wr HQ.out.2.below
      have hss := rowsK_succ hlt
      obtain ⟨ls, hls⟩ : ∃ ls, l[k].2.1 = ls := ⟨_, rfl⟩
      rw [hls] at hr h1 h3 a1 hss hat
      have hfl : (rowsK l (k + 1)).flatten = (rowsK l k).flatten ++ ls := by rw [hss, List.flatten_append, List.flatten_cons, List.flatten_nil, List.append_nil]
      have p0 : (k : Int) < (l.length : Int) := by omega
      have HR := Lib.hid (And.intro hr (And.intro hss (And.intro hfl (And.intro h3 hat))))
      clear hr hss hfl hls h3 hat
      by_cases h20 : ls.length ≤ 20
      · have p1 : ¬ ((20 : Int) < (ls.length : Int)) := by omega
        have hz := HQ.out.2.below.size
        have hql := HQ.out.1
        have hxl : (rowsK l (k + 1)).flatten.length ≤ 20 * (k + 1) := by rw [HR.out.2.2.1, List.length_append]; omega
        have HX := Lib.hid hxl
        clear hxl
        cases C with
        | none =>
          obtain ⟨hl0, rfl⟩ := HR.out.2.2.2.1 rfl
          have hln : ls = [] := List.length_eq_zero_iff.1 hl0
          subst hln
          have hu2 : UnI w u5 (rowsK l (k + 1)).flatten u6 (rowsK l k) ps wr := by rw [HR.out.2.2.1, List.append_nil]; exact HQ.out.2
          have hx2 := HX.out
          clear hl0 hql
          go_wp2_with (at_builtin; refine Hid.out ?_)
          refine Lib.hid ?_
          refine wpList_append_own_none rfl _ _ 26 rfl w.heap.size 3 i0 1 Try.underlying26 hi u5 _ _ rfl HQ.out.2.all rfl ?_
          have HU := Lib.hid (And.intro hu2 hx2)
          clear hu2 hx2
          go_wp2_with fail
          refine (set_of' none [] 0 0 rfl (by decide) (HR.out.1.below HU.out.1.below) _ rfl).mono ?_
          rintro e w3 ⟨⟨s, ob, rfl, s1, s2⟩, b3⟩
          have HU3 := Lib.hid (un_below HU.out.1 b3)
          have HS := Lib.hid (And.intro s1 (And.intro s2 b3))
          have hpl : ps.length = k := HU3.out.len.trans (rowsK_len hk)
          have hz3 := HU3.out.below.size
          clear s1 s2 b3
          go_wp2_with (at_builtin; refine Hid.out ?_)
          refine Lib.hid ?_
          refine wpList_one_t rfl _ _ 43 rfl w.heap.size 24 i1 _ 1 8 Try.underlying43 hi1 hy0 hy1 hy2 rfl (by decide) u6 ps.length ps rfl HU3.out.sets #[.pointer (some ⟨s, 0, none⟩)] _ rfl rfl rfl (by intro u hu; simp at hu; subst hu; rfl) (by omega) (by decide) (by omega) ?_
          intro v4 W4 o4 f4 t4
          have HN : Hid ((rowsK l (k + 1)).flatten.length ≤ 20 * (k + 1) ∧ UnI w u5 (rowsK l (k + 1)).flatten v4 (rowsK l (k + 1)) (ps ++ [.pointer (some ⟨s, 0, none⟩)]) W4) := by
            refine ⟨HU.out.2, ?_⟩
            have h5 := un_set HU.out.1 HS.out.1 HS.out.2.1 HS.out.2.2 o4 f4 t4
            rw [HR.out.2.1]
            rw [HR.out.2.1] at h5
            exact h5
          clear o4 f4 t4 HU3 HS HU
          go_wp2_with fail
          go_roundw
          case rel => exact ⟨k + 1, _, by go_num, by omega, HN⟩
          case measure => simp [intOf]; omega
        | some ad =>
          have hnw := news_of (HR.out.1.below HQ.out.2.below)
          have HNW := Lib.hid hnw
          clear hnw
          go_wp2_with (at_builtin; refine Hid.out ?_)
          refine Lib.hid ?_
          refine wpList_app_t rfl _ _ 26 rfl w.heap.size 3 i0 _ 1 8 Try.underlying26 hi hz0 hz1 hz2 rfl (by decide) u5 _ _ rfl HQ.out.2.all ad ls.length cc (ls.map (Value.int .i64)) rfl (by simp) HNW.out (one_int ls) (by omega) (by decide) (by omega) ?_
          intro v2 W2 o2 f2 t2
          have hu2 : UnI w v2 (rowsK l (k + 1)).flatten u6 (rowsK l k) ps W2 := by
            rw [HR.out.2.2.1]
            exact un_all HQ.out.2 (by unfold OwnI; rw [List.length_append, List.map_append]; exact o2) f2 t2
          have hx2 := HX.out
          have a2 := HR.out.2.2.2.2 W2 hu2.below
          clear o2 f2 t2 a1 HNW
          have HU := Lib.hid (And.intro hu2 hx2)
          clear hu2 hx2
          go_wp2_with fail
          refine (set_of' (some ad) ls ls.length cc rfl (by omega) (HR.out.1.below HU.out.1.below) _ rfl).mono ?_
          rintro e w3 ⟨⟨s, ob, rfl, s1, s2⟩, b3⟩
          have HU3 := Lib.hid (un_below HU.out.1 b3)
          have HS := Lib.hid (And.intro s1 (And.intro s2 b3))
          have hpl : ps.length = k := HU3.out.len.trans (rowsK_len hk)
          have hz3 := HU3.out.below.size
          clear s1 s2 b3
          go_wp2_with (at_builtin; refine Hid.out ?_)
          refine Lib.hid ?_
          refine wpList_one_t rfl _ _ 43 rfl w.heap.size 24 i1 _ 1 8 Try.underlying43 hi1 hy0 hy1 hy2 rfl (by decide) u6 ps.length ps rfl HU3.out.sets #[.pointer (some ⟨s, 0, none⟩)] _ rfl rfl rfl (by intro u hu; simp at hu; subst hu; rfl) (by omega) (by decide) (by omega) ?_
          intro v4 W4 o4 f4 t4
          have HN : Hid ((rowsK l (k + 1)).flatten.length ≤ 20 * (k + 1) ∧ UnI w v2 (rowsK l (k + 1)).flatten v4 (rowsK l (k + 1)) (ps ++ [.pointer (some ⟨s, 0, none⟩)]) W4) := by
            refine ⟨HU.out.2, ?_⟩
            have h5 := un_set HU.out.1 HS.out.1 HS.out.2.1 HS.out.2.2 o4 f4 t4
            rw [HR.out.2.1]
            rw [HR.out.2.1] at h5
            exact h5
          clear o4 f4 t4 HU3 HS HU
          go_wp2_with fail
          go_roundw
          case rel => exact ⟨k + 1, _, by go_num, by omega, HN⟩
          case measure => simp [intOf]; omega
      · have p1 : (20 : Int) < (ls.length : Int) := by omega
        go_wp2_with fail
        go_ret
        exact ⟨rfl, HQ.out.2.below⟩
    · obtain rfl : k = l.length := by omega
      have p1 : ¬ ((l.length : Int) < (l.length : Int)) := by omega
      have hrl : (rowsK l l.length).length = l.length := rowsK_len (Nat.le_refl _)
      obtain ⟨R, hR⟩ : ∃ R, rowsK l l.length = R := ⟨_, rfl⟩
      have hrg : ∀ j (h : j < R.length) (h2 : j < l.length), R[j] = l[j].2.1 := fun j h h2 => by subst hR; exact rowsK_get h h2
      rw [hR] at HQ hrl
      have HRG := Lib.hid hrg
      have HU := Lib.hid HQ.out.2
      have hpl : ps.length = l.length := HQ.out.2.len.trans hrl
      obtain ⟨A5, c5, h5⟩ := row_slice HQ.out.2.all
      obtain ⟨A6, c6, h6⟩ := row_slice HQ.out.2.sets
      rw [hpl] at h6
      obtain ⟨fs, hfs⟩ : ∃ fs, R.flatten = fs := ⟨_, rfl⟩
      rw [hfs] at HQ h5
      have HU := Lib.hid HQ.out.2
      have hfl : fs.length ≤ 200 := by have := HQ.out.1; omega
      obtain ⟨zs, hzs⟩ : ∃ zs, normI fs = zs := ⟨_, rfl⟩
      have hzl : zs.length ≤ 200 := by rw [← hzs]; exact Nat.le_trans (normI_len _) hfl
      have hzn : normI (R.map normI).flatten = zs := (un_norm R).trans (by rw [hfs]; exact hzs)
      have hzi : insAll [] fs = zs := (normI_ins _).symm.trans hzs
      have hmfl := normI_flat_len R 200 (by rw [hfs]; exact hfl)
      subst h5 h6
      have hun : ∀ W, UnI w (.slice A5 fs.length c5) fs (.slice A6 l.length c6) R ps W → Calls Try.prog 19 #[.slice A6 l.length c6] W (AllP zs W) := fun W hU =>
        union' A6 (R.map normI) l.length c6 (by rw [List.length_map]; exact hrl) (by rw [List.length_map]; omega) (by omega) (un_row hU rfl) zs hzn
      have HUN := Lib.hid (And.intro hun (And.intro hzi (And.intro hpl (And.intro hrl hfs))))
      clear HQ hR hrg hzs hzn hzi hmfl hun hpl hrl hfs
      go_wp2_with fail
      refine (HUN.out.1 _ HU.out).mono ?_
      rintro e w2 ⟨⟨F, rfl, f1⟩, b2⟩
      have HU2 := Lib.hid (un_below HU.out b2)
      have HT2 := Lib.hid (law_told (tells_tale f1 (by omega)) (by omega) 300 (by omega) (by decide))
      clear f1 b2 HU
      go_wp2_with fail
      refine HT2.out.mono ?_
      rintro e w3 ⟨⟨v3, rfl, o3⟩, b3⟩
      obtain ⟨A3, c3, hv3⟩ := row_slice o3
      subst hv3
      have HU3 := Lib.hid (And.intro (un_below HU2.out b3) o3)
      clear o3 b3 HT2 HU2
      go_wp2_with fail
      refine (HUN.out.1 _ HU3.out.1).mono ?_
      rintro e w4 ⟨⟨F4, rfl, f4⟩, b4⟩
      obtain ⟨Y4, _, t4⟩ := tellsF_tale f4 (by omega)
      have HW4 := Lib.hid (without_F t4 x)
      have hO4 : OwnI w3.heap.size w4 (.slice A3 zs.length c3) zs ∨ True := .inr trivial
      have HU4 := Lib.hid (And.intro (un_below HU3.out.1 b4) (And.intro (own_kept HU3.out.2 fun g hg => b4.block g (HU3.out.2.lt g hg).2) b4.size))
      clear f4 t4 b4 HU3 hO4
      go_wp2_with fail
      refine HW4.out.mono ?_
      rintro e w5 ⟨⟨F5, Y5, rfl, t5⟩, b5⟩
      obtain ⟨us, hus⟩ : ∃ us, zs.filter (fun y => decide (y ≠ x)) = us := ⟨_, rfl⟩
      rw [hus] at t5
      have hul : us.length ≤ 200 := by rw [← hus]; exact Nat.le_trans (List.length_filter_le _ _) hzl
      have HUS := Lib.hid hus
      have HT5 := Lib.hid (told_F t5 (by omega) 300 (by omega) (by decide))
      have HU5 := Lib.hid (And.intro (un_below HU4.out.1 b5) (own_kept HU4.out.2.1 fun g hg => b5.block g (HU4.out.2.1.lt g hg).2))
      clear t5 b5 HW4 HU4 hus
      go_wp2_with fail
      refine HT5.out.mono ?_
      rintro e w6 ⟨⟨v6, rfl, o6⟩, b6⟩
      obtain ⟨A7, c7, hv6⟩ := row_slice o6
      subst hv6
      have HU6 := Lib.hid (And.intro (un_below HU5.out.1 b6) (And.intro (own_kept HU5.out.2 fun g hg => b6.block g (HU5.out.2.lt g hg).2) o6))
      have HA6 := Lib.hid (all10 A5 fs c5 (by omega) (reads_own HU6.out.1.all))
      clear o6 b6 HT5 HU5
      go_wp2_with fail
      refine HA6.out.mono ?_
      rintro e w7 ⟨⟨v7, rfl, o7⟩, b7⟩
      rw [HUN.out.2.1] at o7
      obtain ⟨A8, c8, hv7⟩ := row_slice o7
      subst hv7
      have HU7 := Lib.hid (And.intro (un_below HU6.out.1 b7) (And.intro (own_kept HU6.out.2.1 fun g hg => b7.block g (HU6.out.2.1.lt g hg).2) (And.intro (own_kept HU6.out.2.2 fun g hg => b7.block g (HU6.out.2.2.lt g hg).2) o7)))
      have HS7 := Lib.hid (same10_self A3 A8 zs c3 c8 (by omega) (reads_own HU7.out.2.1) (reads_own HU7.out.2.2.2))
      clear o7 b7 HA6 HU6
      go_wp2_with fail
      refine HS7.out.mono ?_
      rintro e w8 ⟨rfl, hq⟩
      have b8 := drew_ex hq
      have HU8 := Lib.hid (And.intro (un_below HU7.out.1 b8) (And.intro (own_kept HU7.out.2.2.1 fun g hg => b8.block g (HU7.out.2.2.1.lt g hg).2) (own_kept HU7.out.2.2.2 fun g hg => b8.block g (HU7.out.2.2.2.lt g hg).2)))
      have HR8 := Lib.hid (rem10 A8 zs c8 x (by omega) (reads_own HU8.out.2.2))
      clear hq b8 HS7 HU7
      go_wp2_with fail
      refine HR8.out.mono ?_
      rintro e w9 ⟨⟨v9, rfl, o9⟩, b9⟩
      rw [HUS.out] at o9
      obtain ⟨A9, c9, hv9⟩ := row_slice o9
      subst hv9
      have HU9 := Lib.hid (And.intro (un_below HU8.out.1 b9) (And.intro (own_kept HU8.out.2.1 fun g hg => b9.block g (HU8.out.2.1.lt g hg).2) o9))
      have HS9 := Lib.hid (same10_self A7 A9 us c7 c9 (by omega) (reads_own HU9.out.2.1) (reads_own HU9.out.2.2))
      clear o9 b9 HR8 HU8
      go_wp2_with fail
      refine HS9.out.mono ?_
      rintro e w10 ⟨rfl, hq⟩
      have HUA := Lib.hid (un_below HU9.out.1 (drew_ex hq))
      have HL := Lib.hid HUN.out.2.2
      clear hq HS9 HU9 HUN HUS
      go_wp2_with fail
      go_loopw [13] (fun i wr => ∃ k : Nat, i = .int .i64 k ∧ k ≤ l.length ∧ Hid (UnI w (.slice A5 fs.length c5) fs (.slice A6 l.length c6) R ps wr)) (fun i _ => l.length - (intOf i).toNat)
      case atStart => exact ⟨0, rfl, Nat.zero_le _, HUA⟩
      case round =>
        obtain ⟨k, rfl, hk, HV⟩ := hrel
        clear HUA
        by_cases hlt : k + 1 < l.length
        · obtain ⟨g, o, C1, cc1, rfl, r1, l1, m1, _, at1⟩ := rows_at HA.out (k := k) (by omega)
          obtain ⟨g2, o2, C2, cc2, hA2, r2, l2, m2, _, at2⟩ := rows_at HA.out hlt
          simp only [Option.some.injEq, Addr.mk.injEq, and_true] at hA2
          obtain ⟨rfl, rfl⟩ := hA2
          have hR1 : ∀ j (h : j < l.length), l[j].2.1.length ≤ 200 := fun j h => by
            have h3 : j < R.length := by rw [HL.out.2.1]; exact h
            rw [← HRG.out j h3 h]
            refine Nat.le_trans (flat_mem_len (List.getElem_mem h3)) ?_
            rw [HL.out.2.2]; exact hfl
          have z1 := hR1 k (by omega)
          have z2 := hR1 (k + 1) hlt
          have hmn : ∀ W, UnI w (.slice A5 fs.length c5) fs (.slice A6 l.length c6) R ps W → ∃ p1 p2 g6, A6 = some ⟨g6, 0, none⟩ ∧ W.cell? ⟨g6, k, none⟩ = some p1 ∧ W.cell? ⟨g6, k + 1, none⟩ = some p2 ∧ ∀ W2, RowKit.Below W.heap.size W W2 → Calls Try.prog 22 #[p1, p2] W2 (MeetP (l[k].2.1.any fun y => l[k + 1].2.1.contains y) W2) := fun W hU => by
            have h3 : k < R.length := by rw [HL.out.2.1]; omega
            have h4 : k + 1 < R.length := by rw [HL.out.2.1]; omega
            have h5 : k < ps.length := by rw [HL.out.1]; omega
            have h6 : k + 1 < ps.length := by rw [HL.out.1]; omega
            obtain ⟨g6, c7, e1, e2, e3⟩ := un_cell hU (by omega)
            simp only [Value.slice.injEq] at e1
            refine ⟨ps[k], ps[k + 1], g6, e1.1, by simpa using e3 k h5, by simpa using e3 (k + 1) h6, fun W2 hb => ?_⟩
            have q1 := ptr_below (un_ptr hU h5 h3) hb
            have q2 := ptr_below (un_ptr hU h6 h4) hb
            rw [HRG.out k h3 (by omega)] at q1
            rw [HRG.out (k + 1) h4 hlt] at q2
            have := set_meet q1 q2 (by have := normI_len l[k].2.1; omega) (by have := normI_len l[k + 1].2.1; omega)
            rwa [meet_norm] at this
          obtain ⟨ls1, h1⟩ : ∃ ls1, l[k].2.1 = ls1 := ⟨_, rfl⟩
          obtain ⟨ls2, h2⟩ : ∃ ls2, l[k + 1].2.1 = ls2 := ⟨_, rfl⟩
          rw [h1] at r1 l1 at1 z1 hmn
          rw [h2] at r2 l2 at2 z2 hmn
          have a1 := at1 wr HV.out.below
          have a2 := at2 wr HV.out.below
          have HAT := Lib.hid (And.intro at1 (And.intro at2 (And.intro r1 (And.intro r2 hmn))))
          unfold maxLen at m1 m2
          have p0 : (k : Int) + 1 < (l.length : Int) := by omega
          clear h1 h2 at1 at2 r1 r2 hmn hR1
          go_wp2_with fail
          go_loopw [14, 15] (fun b j wr2 => ∃ q : Nat, j = .int .i64 q ∧ q ≤ ls1.length ∧ b = .bool ((ls1.take q).any fun y => ls2.contains y) ∧ Hid (UnI w (.slice A5 fs.length c5) fs (.slice A6 l.length c6) R ps wr2)) (fun _ j _ => ls1.length - (intOf j).toNat)
          case atStart => exact ⟨0, rfl, Nat.zero_le _, by simp, HV⟩
          case round =>
            obtain ⟨q, rfl, hq, hb, HV2⟩ := hrel
            obtain ⟨b, hbb⟩ : ∃ b, (ls1.take q).any (fun y => ls2.contains y) = b := ⟨_, rfl⟩
            rw [hbb] at hb
            subst hb
            clear a1 a2
            obtain ⟨at1, at2, r1, r2, hmn⟩ := HAT.out
            have a1 := at1 wr HV2.out.below
            have a2 := at2 wr HV2.out.below
            by_cases hql : q < ls1.length
            · obtain ⟨g3, o3, hC, a3⟩ := rd_at r1 HV2.out.below hql
              subst hC
              have hst := any_take_succ (fun y => ls2.contains y) ls1 q hql
              rw [hbb] at hst
              obtain ⟨y, hy⟩ : ∃ y, ls1[q] = y := ⟨_, rfl⟩
              rw [hy] at a3 hst
              have hw1 : IntKind.i64.wrap ((k : Int) + 1) = (k : Int) + 1 := IntWalk.i64_in _ (by omega)
              have hw2 : 0 ≤ (k : Int) + 1 := by omega
              have hw3 : ((k : Int) + 1).toNat = k + 1 := by omega
              have pq : (q : Int) < (ls1.length : Int) := by omega
              have HST := Lib.hid hst
              have hrd := r2.below HV2.out.below
              have HRd := Lib.hid hrd
              clear at1 at2 r1 r2 hmn hbb hst hy hrd
              cases b with
              | true =>
                go_wp2_with fail
                go_quiet (fail)
                go_wp2_with fail
                go_roundw
                case rel => exact ⟨q + 1, by go_num, by omega, by rw [HST.out]; simp, un_below HV2.out (drewN_below _ _)⟩
                case measure => simp [intOf]; omega
              | false =>
                go_wp2_with fail
                go_quiet ((go_at_call 18; exact Calls.quiet_of_same (has10 C2 ls2 cc2 y (by omega) HRd.out)))
                go_wp2_with fail
                go_roundw
                case rel => exact ⟨q + 1, by go_num, by omega, by rw [HST.out]; simp, un_below HV2.out (drewN_below _ _)⟩
                case measure => simp [intOf]; omega
            · obtain rfl : q = ls1.length := by omega
              rw [List.take_length] at hbb
              obtain ⟨pa, pb, g6, e6, a5, a6, hM⟩ := hmn wr HV2.out
              subst e6
              rw [hbb] at hM
              have HM := Lib.hid hM
              have pq : ¬ ((ls1.length : Int) < (ls1.length : Int)) := by omega
              have mixed : (Try.prog).follows Departure.mixedOrders = true := by kernel_rfl
              clear at1 at2 r1 r2 hmn hbb hM
              have hw1 : IntKind.i64.wrap ((k : Int) + 1) = (k : Int) + 1 := IntWalk.i64_in _ (by omega)
              have hw2 : 0 ≤ (k : Int) + 1 := by omega
              have hw3 : ((k : Int) + 1).toNat = k + 1 := by omega
              go_wp2_with fail
              go_region_with_o (refine (HM.out _ (by first | exact Below.refl _ _ | exact drewN_below _ _ | exact (Below.refl _ _).drew)).mono ?_; rintro e w' ⟨rfl, hb9⟩)
              all_goals
                have q9 := un_below (un_below HV2.out (show RowKit.Below wr.heap.size wr _ by first | exact Below.refl _ _ | exact drewN_below _ _ | exact (Below.refl _ _).drew | exact (Below.refl _ _).drew.drew)) hb9
                have HN := Lib.hid q9
                clear q9 hb9 hw1 hw2 hw3 HM a1 a2 a5 a6
                go_wp2_with fail
                go_roundw
                case rel => exact ⟨k + 1, by go_num, by omega, by first | exact HN.out | exact un_below HN.out ((Below.refl _ _).drew) | exact un_below HN.out (drewN_below _ _)⟩
                case measure => simp [intOf]; omega
        · have p2 : ¬ ((k : Int) + 1 < (l.length : Int)) := by omega
          go_wp2_with fail
          go_ret
          exact ⟨rfl, HV.out.below⟩
theorem setUnions_walk (A : Option Addr) (l : List zrowT) (c : Nat) (x : Int) (w : World) (hz : ∀ y ∈ l, zrowG w y)
    (hA : 0 < l.length → ∃ g o, A = some ⟨g, o, none⟩ ∧ g < w.heap.size ∧ ∀ i (h : i < l.length) j u, (rowL l[i])[j]? = some u → w.cell? ⟨g, o + i * 1 + j, none⟩ = some u) :
    Calls Try.prog 4 #[.slice A l.length c, .int .i64 x] w fun e w' => e = .returned (.bool true) ∧ RowKit.Below w.heap.size w w' := by
  by_cases h1 : l.length ≤ 10
  · exact setUnions_main A l c x w h1 ⟨hz, hA⟩
  · clear hA hz
    have p1 : (10 : Int) < (l.length : Int) := by omega
    go_enter Try.func4, Try.ntmps4
    go_wp2_with fail
    refine (awake10 w).mono ?_
    rintro e w1 ⟨rfl, b1⟩
    have B1 := Lib.hid b1
    clear b1
    go_wp2_with fail
    go_ret
    exact ⟨rfl, B1.out⟩
end Go.Proofs.Yteiiaocohpbanaa
