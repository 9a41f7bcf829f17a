/- Layer 10: SetPlays. -/
import Derived.Test.YteiiaocohpbanaaSetU
namespace Go.Proofs.Yteiiaocohpbanaa
set_option linter.unusedVariables false
set_option linter.unusedSimpArgs false
open Go Go.RowKit Go.Lib Go.Sort Go.Shelf

/-- the acts, as they lie -/
def ActsI (w : World) (A : Option Addr) (l : List zsaT) : Prop := (∀ y ∈ l, zsaG w y) ∧ (0 < l.length → ∃ g o, A = some ⟨g, o, none⟩ ∧ g < w.heap.size ∧ ∀ i (h : i < l.length) j u, (zsaL l[i])[j]? = some u → w.cell? ⟨g, o + i * 2 + j, none⟩ = some u)
theorem acts_at {w : World} {A : Option Addr} {l : List zsaT} (h : ActsI w A l) {k : Nat} (hk : k < l.length) :
    ∃ (g o : Nat) (κ : Int) (C : Option Addr) (ls : List Int) (cc : Nat), A = some ⟨g, o, none⟩ ∧ ReadsI w C ls ∧ ls.length ≤ cc ∧ cc ≤ maxLen ∧ ∀ W, RowKit.Below w.heap.size w W → W.cell? ⟨g, o + k * 2, none⟩ = some (.int .i64 κ) ∧ W.cell? ⟨g, o + k * 2 + 1, none⟩ = some (.slice C ls.length cc) := by
  obtain ⟨hz, ha⟩ := h
  obtain ⟨g, o, rfl, hg, ha⟩ := ha (by omega)
  have hzk := hz l[k] (List.getElem_mem hk)
  have hak := ha k hk
  obtain ⟨⟨κ, C, ls, cc⟩, hy⟩ : ∃ y, l[k] = y := ⟨_, rfl⟩
  rw [hy] at hzk hak
  refine ⟨g, o, κ, C, ls, cc, rfl, reads_of hzk.2.2.2.2, hzk.2.1, hzk.2.2.1, fun W hb => ⟨?_, ?_⟩⟩
  · exact (World.cell?_of_block (w := w) (w' := W) (a := ⟨g, o + k * 2, none⟩) (hb.block g hg)).trans (hak 0 _ rfl)
  · exact (World.cell?_of_block (w := w) (w' := W) (a := ⟨g, o + k * 2 + 1, none⟩) (hb.block g hg)).trans (hak 1 _ rfl)
theorem reads_at {w W : World} {C : Option Addr} {ls : List Int} (hr : ReadsI w C ls) (hb : RowKit.Below w.heap.size w W) {k : Nat} (hk : k < ls.length) : ∃ g o, C = some ⟨g, o, none⟩ ∧ W.cell? ⟨g, o + k, none⟩ = some (.int .i64 ls[k]) := by
  obtain ⟨g, o, rfl, hg, h⟩ := hr (by omega)
  exact ⟨g, o, rfl, (World.cell?_of_block (w := w) (w' := W) (a := ⟨g, o + k, none⟩) (hb.block g hg)).trans (h k hk)⟩
theorem take_snocI (f : List Int → Int → List Int) (xs ls : List Int) (k : Nat) (hk : k < ls.length) : (ls.take (k + 1)).foldl f xs = f ((ls.take k).foldl f xs) ls[k] := by
  rw [List.take_succ_eq_append_getElem hk, List.foldl_append]; rfl
theorem drew_ex {w w' : World} (h : ∃ q, w' = w.drewN q) : RowKit.Below w.heap.size w w' := by
  obtain ⟨q, rfl⟩ := h
  exact drewN_below w q
set_option maxRecDepth 100000 in
set_option maxHeartbeats 2000000 in
theorem same10_self {w : World} (A B : Option Addr) (xs : List Int) (c d : Nat) (hl : xs.length ≤ 1000000) (hA : ReadsI w A xs) (hB : ReadsI w B xs) :
    Calls Try.prog 14 #[.slice A xs.length c, .slice B xs.length d] w fun e w' => e = .returned (.bool true) ∧ ∃ n, w' = w.drewN n :=
  (same10 A B xs xs _ _ c d rfl rfl rfl hl hA hB).mono fun e w' ⟨h1, h2⟩ => ⟨by rw [h1]; simp, h2⟩
set_option maxRecDepth 100000 in
set_option maxHeartbeats 16000000 in
theorem setPlays_main (A : Option Addr) (l : List zsaT) (c : Nat) (x : Int) (w : World) (hl : l.length ≤ 30) (hA : ActsI w A l) :
    Calls Try.prog 3 #[.slice A l.length c, .int .i64 x] w fun e w' => e = .returned (.bool true) ∧ RowKit.Below w.heap.size w w' := by
  have HA := Lib.hid hA
  clear hA
  go_enter Try.func3, Try.ntmps3
  go_wp2_with fail
  refine (awake10 w).mono ?_
  rintro e w1 ⟨rfl, b1⟩
  have B1 := Lib.hid b1
  clear b1
  go_wp2_with fail
  refine (set_of' (w := w1) none [] 0 0 rfl (by decide) (fun h => absurd h (by decide)) [] (by rw [normI_ins]; rfl)).mono ?_
  rintro e w2 ⟨⟨s, ob, rfl, s1, s2⟩, b2⟩
  have H0 : Hid (PlayI w s (.slice none 0 0) [] [] w2) := play_start B1.out s1 s2 b2
  clear s1 s2 b2 B1
  go_wp2_with fail
  go_loopw [6, 7] (fun v i wr => ∃ (k : Nat) (xs : List Int), i = .int .i64 k ∧ k ≤ l.length ∧ xs.length ≤ 10 * k ∧ Hid (PlayI w s v xs xs wr)) (fun _ i _ => l.length - (intOf i).toNat)
  case atStart => exact ⟨0, [], rfl, Nat.zero_le _, Nat.le_refl _, H0⟩
  case round =>
    obtain ⟨k, xs, rfl, hk, hxl, HQ⟩ := hrel
    clear H0
    obtain ⟨wo, hwo⟩ : ∃ wo : World, wo = wr := ⟨_, rfl⟩
    rw [← hwo] at HQ ⊢
    clear hwo
    by_cases hlt : k < l.length
    · obtain ⟨g, o, κ, C, ls, cc, rfl, hr, h1, h2, hat⟩ := acts_at HA.out hlt
      unfold maxLen at h2
      obtain ⟨a0, a1⟩ := hat wo HQ.out.2.1
      have HT := Lib.hid hat
      have HR := Lib.hid hr
      obtain ⟨Av, cv, hv⟩ := row_slice HQ.out.2.2.1
      subst hv
      have p0 : (k : Int) < (l.length : Int) := by omega
      clear hat hr
      by_cases h10 : ls.length ≤ 10
      · have p1 : ¬ ((10 : Int) < (ls.length : Int)) := by omega
        by_cases hκ : κ = 1
        · subst hκ
          go_wp2_with fail
          go_loopw [6, 9] (fun v i wr => ∃ (j : Nat), i = .int .i64 j ∧ j ≤ ls.length ∧ Hid (PlayI w s v xs (delAll xs (ls.take j)) wr)) (fun _ i _ => ls.length - (intOf i).toNat)
          case atStart => exact ⟨0, rfl, Nat.zero_le _, HQ⟩
          case round =>
            obtain ⟨j, rfl, hj, HJ⟩ := hrel
            clear a0 a1
            obtain ⟨a0, a1⟩ := HT.out wr HJ.out.2.1
            by_cases hjt : j < ls.length
            · obtain ⟨g2, o2, hC, a2⟩ := reads_at HR.out HJ.out.2.1 hjt
              subst hC
              obtain ⟨y, hy⟩ : ∃ y, ls[j] = y := ⟨_, rfl⟩
              obtain ⟨ys, hys⟩ : ∃ ys, delAll xs (ls.take j) = ys := ⟨_, rfl⟩
              have hne : delAll xs (ls.take (j + 1)) = ys.filter (fun z => decide (z ≠ y)) := by rw [← hy, ← hys, ← delI_filter (delAll_up (play_up HQ.out) _)]; exact take_snocI delI xs ls j hjt
              have hyl : ys.length ≤ 1000 := by have := delAll_len xs (ls.take j); rw [hys] at this; omega
              rw [hy] at a2
              rw [hys] at HJ
              obtain ⟨Aj, cj, hv⟩ := row_slice HJ.out.2.2.1
              subst hv
              have HNE := Lib.hid hne
              have hjx : (j : Int) < (ls.length : Int) := by omega
              clear hy hys hne
              go_wp2_with fail
              refine (rem10 Aj ys cj y (by omega) (reads_own HJ.out.2.2.1)).mono ?_
              rintro e w3 ⟨⟨v3, rfl, o3⟩, b3⟩
              have HN : Hid (PlayI w s v3 xs (delAll xs (ls.take (j + 1))) w3) := by rw [HNE.out]; exact play_row HJ.out b3 (row_base' o3 HJ.out.2.1.size) (tie_own o3)
              clear o3 b3
              go_wp2_with fail
              go_roundw
              case rel => exact ⟨j + 1, by go_num, by omega, HN⟩
              case measure => simp [intOf]; omega
            · obtain rfl : j = ls.length := by omega
              rw [List.take_length] at HJ
              obtain ⟨zs, hzs⟩ : ∃ zs, delAll xs ls = zs := ⟨_, rfl⟩
              have hzl : zs.length ≤ 10 * k := by have := delAll_len xs ls; rw [hzs] at this; omega
              have hzx : zs.length ≤ xs.length := by have := delAll_len xs ls; rw [hzs] at this; omega
              have hcall := play_rem HJ.out HR.out cc (by omega) (by omega)
              rw [hzs] at hcall HJ
              obtain ⟨Az, cz, hv⟩ := row_slice HJ.out.2.2.1
              subst hv
              have HC := Lib.hid hcall
              have hjx : ¬ ((ls.length : Int) < (ls.length : Int)) := by omega
              clear hcall hzs
              go_wp2_with fail
              refine HC.out.mono ?_
              rintro e w4 ⟨rfl, h4⟩
              have HZ := Lib.hid h4
              clear h4 HC HJ HQ HT HR a0 a1

              go_wp2_with fail
              refine (play_all HZ.out (by omega)).mono ?_
              rintro e w5 ⟨⟨F, rfl, f1⟩, b5⟩
              have HT5 := Lib.hid (law_told (tells_tale f1 (by omega)) (by omega) 400 (by omega) (by decide))
              have HZ5 := Lib.hid (play_below HZ.out b5)
              clear f1 b5 HZ
              go_wp2_with fail
              refine HT5.out.mono ?_
              rintro e w6 ⟨⟨v6, rfl, o6⟩, b6⟩
              obtain ⟨A6, c6, hv6⟩ := row_slice o6
              subst hv6
              have HZ6 := Lib.hid (play_below HZ5.out b6)
              have HS6 := Lib.hid (same10_self A6 Az zs c6 cz (by omega) (reads_own o6) (reads_own HZ6.out.2.2.1))
              clear b6 o6 HZ5 HT5
              go_wp2_with fail
              refine HS6.out.mono ?_
              rintro e w7 ⟨rfl, hq⟩
              have HZ7 := Lib.hid (play_below HZ6.out (drew_ex hq))
              clear hq
              clear HZ6 HS6
              go_wp2_with fail
              refine (play_list HZ7.out (by omega)).mono ?_
              rintro e w8 ⟨⟨v8, rfl, o8⟩, b8⟩
              obtain ⟨A8, c8, hv8⟩ := row_slice o8
              subst hv8
              have HZ8 := Lib.hid (play_below HZ7.out b8)
              have HS8 := Lib.hid (same10_self A8 Az zs c8 cz (by omega) (reads_own o8) (reads_own HZ8.out.2.2.1))
              clear b8 o8 HZ7
              go_wp2_with fail
              refine HS8.out.mono ?_
              rintro e w9 ⟨rfl, hq⟩
              have HZ9 := Lib.hid (play_below HZ8.out (drew_ex hq))
              clear hq
              clear HZ8 HS8
              go_wp2_with fail
              refine (play_len HZ9.out).mono ?_
              rintro e w10 ⟨rfl, rfl⟩
              obtain ⟨bx, hbx⟩ : ∃ bx, zs.contains x = bx := ⟨_, rfl⟩
              have hh := play_has HZ9.out (by omega) x
              rw [hbx] at hh
              have HH := Lib.hid hh
              clear hh
              go_wp2_with fail
              refine HH.out.mono ?_
              rintro e w11 ⟨rfl, hq⟩
              have HZ11 := Lib.hid (play_below HZ9.out (drew_ex hq))
              clear hq
              have hh2 := has10 Az zs cz x (by omega) (reads_own HZ11.out.2.2.1)
              rw [hbx] at hh2
              have HH2 := Lib.hid hh2
              clear hh2 hbx HZ9 HH
              go_wp2_with fail
              refine HH2.out.mono ?_
              rintro e w12 ⟨rfl, rfl⟩
              clear HH2
              go_wp2_with fail
              go_roundw
              case rel => exact ⟨k + 1, zs, by go_num, by omega, by omega, HZ11⟩
              case measure => simp [intOf]; omega
        · have hk1 : (κ == 1) = false := by simpa using hκ
          go_wp2_with fail
          go_loopw [6, 10] (fun v i wr => ∃ (j : Nat), i = .int .i64 j ∧ j ≤ ls.length ∧ Hid (PlayI w s v xs (insAll xs (ls.take j)) wr)) (fun _ i _ => ls.length - (intOf i).toNat)
          case atStart => exact ⟨0, rfl, Nat.zero_le _, HQ⟩
          case round =>
            obtain ⟨j, rfl, hj, HJ⟩ := hrel
            clear a0 a1
            obtain ⟨a0, a1⟩ := HT.out wr HJ.out.2.1
            by_cases hjt : j < ls.length
            · obtain ⟨g2, o2, hC, a2⟩ := reads_at HR.out HJ.out.2.1 hjt
              subst hC
              obtain ⟨y, hy⟩ : ∃ y, ls[j] = y := ⟨_, rfl⟩
              obtain ⟨ys, hys⟩ : ∃ ys, insAll xs (ls.take j) = ys := ⟨_, rfl⟩
              have hne : insAll xs (ls.take (j + 1)) = insI ys y := by rw [← hy, ← hys]; exact take_snocI insI xs ls j hjt
              have HU : Hid (ys.Pairwise (· < ·)) := by rw [← hys]; exact insAll_up (play_up HQ.out) _
              have hyl : ys.length ≤ 1000 := by have := (insAll_len xs (ls.take j)).1; rw [hys, List.length_take] at this; omega
              rw [hy] at a2
              rw [hys] at HJ
              obtain ⟨Aj, cj, hv⟩ := row_slice HJ.out.2.2.1
              subst hv
              have HNE := Lib.hid hne
              have hjx : (j : Int) < (ls.length : Int) := by omega
              clear hy hys hne
              go_wp2_with fail
              refine (add10 HJ.out.2.2.1 HU.out (by omega) HJ.out.2.1.size y).mono ?_
              rintro e w3 ⟨⟨v3, rfl, o3, t3⟩, b3⟩
              have HN : Hid (PlayI w s v3 xs (insAll xs (ls.take (j + 1))) w3) := by rw [HNE.out]; exact play_row HJ.out b3 o3 t3
              clear o3 b3 t3
              go_wp2_with fail
              go_roundw
              case rel => exact ⟨j + 1, by go_num, by omega, HN⟩
              case measure => simp [intOf]; omega
            · obtain rfl : j = ls.length := by omega
              rw [List.take_length] at HJ
              obtain ⟨zs, hzs⟩ : ∃ zs, insAll xs ls = zs := ⟨_, rfl⟩
              have hzl : zs.length ≤ 10 * k + 10 := by have := (insAll_len xs ls).1; rw [hzs] at this; omega
              have hzx : xs.length ≤ zs.length := by have := (insAll_len xs ls).2; rw [hzs] at this; omega
              have hcall := play_add HJ.out HR.out cc (by omega)
              rw [hzs] at hcall HJ
              obtain ⟨Az, cz, hv⟩ := row_slice HJ.out.2.2.1
              subst hv
              have HC := Lib.hid hcall
              have hjx : ¬ ((ls.length : Int) < (ls.length : Int)) := by omega
              clear hcall hzs
              go_wp2_with fail
              refine HC.out.mono ?_
              rintro e w4 ⟨rfl, h4⟩
              have HZ := Lib.hid h4
              clear h4 HC HJ HQ HT HR a0 a1

              go_wp2_with fail
              refine (play_all HZ.out (by omega)).mono ?_
              rintro e w5 ⟨⟨F, rfl, f1⟩, b5⟩
              have HT5 := Lib.hid (law_told (tells_tale f1 (by omega)) (by omega) 400 (by omega) (by decide))
              have HZ5 := Lib.hid (play_below HZ.out b5)
              clear f1 b5 HZ
              go_wp2_with fail
              refine HT5.out.mono ?_
              rintro e w6 ⟨⟨v6, rfl, o6⟩, b6⟩
              obtain ⟨A6, c6, hv6⟩ := row_slice o6
              subst hv6
              have HZ6 := Lib.hid (play_below HZ5.out b6)
              have HS6 := Lib.hid (same10_self A6 Az zs c6 cz (by omega) (reads_own o6) (reads_own HZ6.out.2.2.1))
              clear b6 o6 HZ5 HT5
              go_wp2_with fail
              refine HS6.out.mono ?_
              rintro e w7 ⟨rfl, hq⟩
              have HZ7 := Lib.hid (play_below HZ6.out (drew_ex hq))
              clear hq
              clear HZ6 HS6
              go_wp2_with fail
              refine (play_list HZ7.out (by omega)).mono ?_
              rintro e w8 ⟨⟨v8, rfl, o8⟩, b8⟩
              obtain ⟨A8, c8, hv8⟩ := row_slice o8
              subst hv8
              have HZ8 := Lib.hid (play_below HZ7.out b8)
              have HS8 := Lib.hid (same10_self A8 Az zs c8 cz (by omega) (reads_own o8) (reads_own HZ8.out.2.2.1))
              clear b8 o8 HZ7
              go_wp2_with fail
              refine HS8.out.mono ?_
              rintro e w9 ⟨rfl, hq⟩
              have HZ9 := Lib.hid (play_below HZ8.out (drew_ex hq))
              clear hq
              clear HZ8 HS8
              go_wp2_with fail
              refine (play_len HZ9.out).mono ?_
              rintro e w10 ⟨rfl, rfl⟩
              obtain ⟨bx, hbx⟩ : ∃ bx, zs.contains x = bx := ⟨_, rfl⟩
              have hh := play_has HZ9.out (by omega) x
              rw [hbx] at hh
              have HH := Lib.hid hh
              clear hh
              go_wp2_with fail
              refine HH.out.mono ?_
              rintro e w11 ⟨rfl, hq⟩
              have HZ11 := Lib.hid (play_below HZ9.out (drew_ex hq))
              clear hq
              have hh2 := has10 Az zs cz x (by omega) (reads_own HZ11.out.2.2.1)
              rw [hbx] at hh2
              have HH2 := Lib.hid hh2
              clear hh2 hbx HZ9 HH
              go_wp2_with fail
              refine HH2.out.mono ?_
              rintro e w12 ⟨rfl, rfl⟩
              clear HH2
              go_wp2_with fail
              go_roundw
              case rel => exact ⟨k + 1, zs, by go_num, by omega, by omega, HZ11⟩
              case measure => simp [intOf]; omega
      · have p1 : (10 : Int) < (ls.length : Int) := by omega
        go_wp2_with fail
        go_ret
        exact ⟨rfl, HQ.out.2.1⟩
    · obtain rfl : k = l.length := by omega
      have p1 : ¬ ((l.length : Int) < (l.length : Int)) := by omega
      go_wp2_with fail
      go_ret
      exact ⟨rfl, HQ.out.2.1⟩
set_option maxHeartbeats 4000000 in
theorem setPlays_walk (A : Option Addr) (l : List zsaT) (c : Nat) (x : Int) (w : World) (hz : ∀ y ∈ l, zsaG w y)
    (hA : 0 < l.length → ∃ g o, A = some ⟨g, o, none⟩ ∧ g < w.heap.size ∧ ∀ i (h : i < l.length) j u, (zsaL l[i])[j]? = some u → w.cell? ⟨g, o + i * 2 + j, none⟩ = some u) :
    Calls Try.prog 3 #[.slice A l.length c, .int .i64 x] w fun e w' => e = .returned (.bool true) ∧ RowKit.Below w.heap.size w w' := by
  by_cases h1 : l.length ≤ 30
  · exact setPlays_main A l c x w h1 ⟨hz, hA⟩
  · clear hA hz
    have p1 : (30 : Int) < (l.length : Int) := by omega
    go_enter Try.func3, Try.ntmps3
    go_wp2_with fail
    refine (awake10 w).mono ?_
    rintro e w1 ⟨rfl, b1⟩
    have B1 := Lib.hid b1
    clear b1
    go_wp2_with fail
    go_ret
    exact ⟨rfl, B1.out⟩
end Go.Proofs.Yteiiaocohpbanaa
