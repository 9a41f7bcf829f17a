/- Layer 12: the answers' Text. -/
import Derived.Test.YtadojlmjapmbhaaDoorCapH
namespace Go.Proofs.YtadojlmjapmbhaaDoor
set_option linter.unusedVariables false
set_option linter.unusedSimpArgs false
open Go Go.RowKit Go.Shelf Go.Lib

theorem numr_is {name : ByteArray} {n : Int} (h : IV (numV name.data.toList) = n) (w : World) : Calls Tryd.prog 10 #[.string name] w fun e w' => e = .returned (.int .i64 n) ∧ RowKit.Below w.heap.size w w' := by
  subst h
  exact numr_any name w
theorem bit_is (v : BitVec 64) (w : World) : Calls Tryd.prog 20 #[.int .i64 (IV v), .int .i64 1] w (fun e w' => e = .returned (.bool (hasV v 1#64)) ∧ w = w') ∧ Calls Tryd.prog 20 #[.int .i64 (IV v), .int .i64 2] w (fun e w' => e = .returned (.bool (hasV v 2#64)) ∧ w = w') ∧ Calls Tryd.prog 20 #[.int .i64 (IV v), .int .i64 4] w (fun e w' => e = .returned (.bool (hasV v 4#64)) ∧ w = w') := by
  have h := bit_has v
  have h1 := bit_any v 1#64 w
  have h2 := bit_any v 2#64 w
  have h4 := bit_any v 4#64 w
  rw [show IV 1#64 = 1 by decide +kernel, h.1] at h1
  rw [show IV 2#64 = 2 by decide +kernel, h.2.1] at h2
  rw [show IV 4#64 = 4 by decide +kernel, h.2.2] at h4
  exact ⟨h1, h2, h4⟩
theorem bs_nil_or (l : List UInt8) : bs l = ⟨#[]⟩ ∧ l = [] ∨ 0 < (bs l).size ∧ l ≠ [] := by
  cases l with
  | nil => exact .inl ⟨rfl, rfl⟩
  | cons a r => exact .inr ⟨Nat.succ_pos _, by simp⟩
set_option maxRecDepth 100000 in
set_option maxHeartbeats 8000000 in
theorem textR_any (v : BitVec 64) (w : World) :
    Calls Tryd.prog 9 #[.int .i64 (IV v)] w fun e w' => e = .returned (.string (bs (txB (hasV v 1#64) (hasV v 2#64) (hasV v 4#64) 3))) ∧ RowKit.Below w.heap.size w w' := by
  have hc0 := name_at0; have hc1 := name_at1; have hc2 := name_at2
  have HB := Lib.hid (fun W => bit_is v W)
  have n0 : IV (numV awayB.data.toList) = 1 := by decide +kernel
  have n1 : IV (numV echoB.data.toList) = 2 := by decide +kernel
  have n2 : IV (numV multiB.data.toList) = 4 := by decide +kernel
  have HN := Lib.hid (And.intro n0 (And.intro n1 n2))
  clear n0 n1 n2
  obtain ⟨b0, hb0⟩ : ∃ b, hasV v 1#64 = b := ⟨_, rfl⟩
  obtain ⟨b1, hb1⟩ : ∃ b, hasV v 2#64 = b := ⟨_, rfl⟩
  obtain ⟨b2, hb2⟩ : ∃ b, hasV v 4#64 = b := ⟨_, rfl⟩
  rw [hb0, hb1, hb2]
  simp only [hb0, hb1, hb2] at HB
  clear hb0 hb1 hb2
  have f0 : bs (txB b0 b1 b2 0) = ⟨#[]⟩ := by rw [tx_0]; rfl
  have f1 := tx_1 b0 b1 b2
  have f2 := tx_2 b0 b1 b2
  have f3 := tx_3 b0 b1 b2
  have f4 : ∀ k, k ≤ 3 → (bs (txB b0 b1 b2 k)).size ≤ 100 := tx_len b0 b1 b2
  obtain ⟨tx, htx⟩ : ∃ tx : Nat → List UInt8, txB b0 b1 b2 = tx := ⟨_, rfl⟩
  rw [htx] at f0 f1 f2 f3 ⊢
  simp only [htx] at f4
  have HT := Lib.hid (And.intro f0 (And.intro f1 (And.intro f2 (And.intro f3 f4))))
  clear htx f0 f1 f2 f3 f4
  go_enter Tryd.func9, Tryd.ntmps9
  go_wp2_with fail
  go_loopw [3, 4] (fun s i wr => ∃ k : Nat, k ≤ 3 ∧ i = .int .i64 k ∧ s = .string (bs (tx k)) ∧ Hid (RowKit.Below w.heap.size w wr)) (fun _ i _ => 3 - (RowKit.intOf i).toNat)
  case atStart => exact ⟨0, by omega, rfl, by rw [HT.out.1], Below.refl _ _⟩
  case round =>
    obtain ⟨k, hk, rfl, rfl, HR⟩ := hrel
    rcases k with _ | _ | _ | _ | k
    · have hsz : (bs (tx 0)).size ≤ 100 := HT.out.2.2.2.2 0 (by omega)
      have hst := HT.out.2.1
      have hstF : b0 = false → tx 1 = tx 0 := fun h => by rw [hst, h]; rfl
      have hstT : b0 = true → tx 1 = awayB.data.toList := fun h => by rw [hst, h]; rfl
      have HST := Lib.hid (And.intro hstF hstT)
      clear hst hstF hstT
      cases b0 with
      | false =>
        obtain ⟨s, hs⟩ : ∃ s, bs (tx 0) = s := ⟨_, rfl⟩
        rw [hs] at hsz ⊢
        have HSS := Lib.hid hs
        clear hs
        go_wp2_with fail
        refine (names_any _).mono ?_
        rintro e w1 ⟨rfl, q1⟩
        have Q1 := Lib.hid (HR.out.trans (q1.mono HR.out.size))
        clear q1
        go_wp2_with fail
        refine (numr_is HN.out.1 _).mono ?_
        rintro e w2 ⟨rfl, q2⟩
        have Q2 := Lib.hid (Q1.out.trans (q2.mono Q1.out.size))
        clear q2
        go_wp2_with fail
        refine ((HB.out _).1).mono ?_
        rintro e w3 ⟨rfl, rfl⟩
        go_wp2_with fail
        go_roundw
        case rel => exact ⟨1, by omega, by go_num, by rw [HST.out.1 (by first | rfl | trivial), HSS.out], Q2.out⟩
        case measure => simp [RowKit.intOf]
      | true =>
        rw [HT.out.1]
        go_wp2_with fail
        refine (names_any _).mono ?_
        rintro e w1 ⟨rfl, q1⟩
        have Q1 := Lib.hid (HR.out.trans (q1.mono HR.out.size))
        clear q1
        go_wp2_with fail
        refine (numr_is HN.out.1 _).mono ?_
        rintro e w2 ⟨rfl, q2⟩
        have Q2 := Lib.hid (Q1.out.trans (q2.mono Q1.out.size))
        clear q2
        go_wp2_with fail
        refine ((HB.out _).1).mono ?_
        rintro e w3 ⟨rfl, rfl⟩
        go_wp2_with fail
        refine (names_any _).mono ?_
        rintro e w4 ⟨rfl, q4⟩
        have Q4 := Lib.hid (Q2.out.trans (q4.mono Q2.out.size))
        clear q4
        go_wp2_with fail
        go_roundw
        case rel => exact ⟨1, by omega, by go_num, by rw [HST.out.2 (by first | rfl | trivial)]; first | rfl | (congr 1), Q4.out⟩
        case measure => simp [RowKit.intOf]
    · have hsz : (bs (tx 1)).size ≤ 100 := HT.out.2.2.2.2 1 (by omega)
      have hst := HT.out.2.2.1
      have hstF : b1 = false → tx 2 = tx 1 := fun h => by rw [hst, h]; rfl
      have hstT : b1 = true → tx 2 = if tx 1 = [] then echoB.data.toList else tx 1 ++ [32] ++ echoB.data.toList := fun h => by rw [hst, h, if_pos rfl]
      have HST := Lib.hid (And.intro hstF hstT)
      clear hst hstF hstT
      cases b1 with
      | false =>
        obtain ⟨s, hs⟩ : ∃ s, bs (tx 1) = s := ⟨_, rfl⟩
        rw [hs] at hsz ⊢
        have HSS := Lib.hid hs
        clear hs
        go_wp2_with fail
        refine (names_any _).mono ?_
        rintro e w1 ⟨rfl, q1⟩
        have Q1 := Lib.hid (HR.out.trans (q1.mono HR.out.size))
        clear q1
        go_wp2_with fail
        refine (numr_is HN.out.2.1 _).mono ?_
        rintro e w2 ⟨rfl, q2⟩
        have Q2 := Lib.hid (Q1.out.trans (q2.mono Q1.out.size))
        clear q2
        go_wp2_with fail
        refine ((HB.out _).2.1).mono ?_
        rintro e w3 ⟨rfl, rfl⟩
        go_wp2_with fail
        go_roundw
        case rel => exact ⟨2, by omega, by go_num, by rw [HST.out.1 (by first | rfl | trivial), HSS.out], Q2.out⟩
        case measure => simp [RowKit.intOf]
      | true =>
        rcases bs_nil_or (tx 1) with ⟨he, hn⟩ | ⟨he, hn⟩
        · have HS := Lib.hid hn
          clear hn
          rw [he]
          go_wp2_with fail
          refine (names_any _).mono ?_
          rintro e w1 ⟨rfl, q1⟩
          have Q1 := Lib.hid (HR.out.trans (q1.mono HR.out.size))
          clear q1
          go_wp2_with fail
          refine (numr_is HN.out.2.1 _).mono ?_
          rintro e w2 ⟨rfl, q2⟩
          have Q2 := Lib.hid (Q1.out.trans (q2.mono Q1.out.size))
          clear q2
          go_wp2_with fail
          refine ((HB.out _).2.1).mono ?_
          rintro e w3 ⟨rfl, rfl⟩
          go_wp2_with fail
          refine (names_any _).mono ?_
          rintro e w4 ⟨rfl, q4⟩
          have Q4 := Lib.hid (Q2.out.trans (q4.mono Q2.out.size))
          clear q4
          go_wp2_with fail
          go_roundw
          case rel => exact ⟨2, by omega, by go_num, by rw [HST.out.2 (by first | rfl | trivial), if_pos HS.out]; first | rfl | (congr 1), Q4.out⟩
          case measure => simp [RowKit.intOf]
        · have HS := Lib.hid hn
          clear hn
          obtain ⟨s, hs⟩ : ∃ s, bs (tx 1) = s := ⟨_, rfl⟩
          rw [hs] at hsz he ⊢
          have hse := str_ne he
          have hse2 : (!s.toList.isEmpty) = true := by rw [hse]; rfl
          have hz1 : ¬ 9223372036854775807 < s.size + 1 + echoB.size := by have : echoB.size = 12 := rfl; omega
          have HSS := Lib.hid hs
          clear hs
          go_wp2_with fail
          refine (names_any _).mono ?_
          rintro e w1 ⟨rfl, q1⟩
          have Q1 := Lib.hid (HR.out.trans (q1.mono HR.out.size))
          clear q1
          go_wp2_with fail
          refine (numr_is HN.out.2.1 _).mono ?_
          rintro e w2 ⟨rfl, q2⟩
          have Q2 := Lib.hid (Q1.out.trans (q2.mono Q1.out.size))
          clear q2
          go_wp2_with fail
          refine ((HB.out _).2.1).mono ?_
          rintro e w3 ⟨rfl, rfl⟩
          go_wp2_with fail
          refine (names_any _).mono ?_
          rintro e w4 ⟨rfl, q4⟩
          have Q4 := Lib.hid (Q2.out.trans (q4.mono Q2.out.size))
          clear q4
          go_wp2_with fail
          go_roundw
          case rel => exact ⟨2, by omega, by go_num, by rw [HST.out.2 (by first | rfl | trivial), if_neg HS.out, ← HSS.out]; first | rfl | (congr 1), Q4.out⟩
          case measure => simp [RowKit.intOf]
    · have hsz : (bs (tx 2)).size ≤ 100 := HT.out.2.2.2.2 2 (by omega)
      have hst := HT.out.2.2.2.1
      have hstF : b2 = false → tx 3 = tx 2 := fun h => by rw [hst, h]; rfl
      have hstT : b2 = true → tx 3 = if tx 2 = [] then multiB.data.toList else tx 2 ++ [32] ++ multiB.data.toList := fun h => by rw [hst, h, if_pos rfl]
      have HST := Lib.hid (And.intro hstF hstT)
      clear hst hstF hstT
      cases b2 with
      | false =>
        obtain ⟨s, hs⟩ : ∃ s, bs (tx 2) = s := ⟨_, rfl⟩
        rw [hs] at hsz ⊢
        have HSS := Lib.hid hs
        clear hs
        go_wp2_with fail
        refine (names_any _).mono ?_
        rintro e w1 ⟨rfl, q1⟩
        have Q1 := Lib.hid (HR.out.trans (q1.mono HR.out.size))
        clear q1
        go_wp2_with fail
        refine (numr_is HN.out.2.2 _).mono ?_
        rintro e w2 ⟨rfl, q2⟩
        have Q2 := Lib.hid (Q1.out.trans (q2.mono Q1.out.size))
        clear q2
        go_wp2_with fail
        refine ((HB.out _).2.2).mono ?_
        rintro e w3 ⟨rfl, rfl⟩
        go_wp2_with fail
        go_roundw
        case rel => exact ⟨3, by omega, by go_num, by rw [HST.out.1 (by first | rfl | trivial), HSS.out], Q2.out⟩
        case measure => simp [RowKit.intOf]
      | true =>
        rcases bs_nil_or (tx 2) with ⟨he, hn⟩ | ⟨he, hn⟩
        · have HS := Lib.hid hn
          clear hn
          rw [he]
          go_wp2_with fail
          refine (names_any _).mono ?_
          rintro e w1 ⟨rfl, q1⟩
          have Q1 := Lib.hid (HR.out.trans (q1.mono HR.out.size))
          clear q1
          go_wp2_with fail
          refine (numr_is HN.out.2.2 _).mono ?_
          rintro e w2 ⟨rfl, q2⟩
          have Q2 := Lib.hid (Q1.out.trans (q2.mono Q1.out.size))
          clear q2
          go_wp2_with fail
          refine ((HB.out _).2.2).mono ?_
          rintro e w3 ⟨rfl, rfl⟩
          go_wp2_with fail
          refine (names_any _).mono ?_
          rintro e w4 ⟨rfl, q4⟩
          have Q4 := Lib.hid (Q2.out.trans (q4.mono Q2.out.size))
          clear q4
          go_wp2_with fail
          go_roundw
          case rel => exact ⟨3, by omega, by go_num, by rw [HST.out.2 (by first | rfl | trivial), if_pos HS.out]; first | rfl | (congr 1), Q4.out⟩
          case measure => simp [RowKit.intOf]
        · have HS := Lib.hid hn
          clear hn
          obtain ⟨s, hs⟩ : ∃ s, bs (tx 2) = s := ⟨_, rfl⟩
          rw [hs] at hsz he ⊢
          have hse := str_ne he
          have hse2 : (!s.toList.isEmpty) = true := by rw [hse]; rfl
          have hz1 : ¬ 9223372036854775807 < s.size + 1 + multiB.size := by have : multiB.size = 12 := rfl; omega
          have HSS := Lib.hid hs
          clear hs
          go_wp2_with fail
          refine (names_any _).mono ?_
          rintro e w1 ⟨rfl, q1⟩
          have Q1 := Lib.hid (HR.out.trans (q1.mono HR.out.size))
          clear q1
          go_wp2_with fail
          refine (numr_is HN.out.2.2 _).mono ?_
          rintro e w2 ⟨rfl, q2⟩
          have Q2 := Lib.hid (Q1.out.trans (q2.mono Q1.out.size))
          clear q2
          go_wp2_with fail
          refine ((HB.out _).2.2).mono ?_
          rintro e w3 ⟨rfl, rfl⟩
          go_wp2_with fail
          refine (names_any _).mono ?_
          rintro e w4 ⟨rfl, q4⟩
          have Q4 := Lib.hid (Q2.out.trans (q4.mono Q2.out.size))
          clear q4
          go_wp2_with fail
          go_roundw
          case rel => exact ⟨3, by omega, by go_num, by rw [HST.out.2 (by first | rfl | trivial), if_neg HS.out, ← HSS.out]; first | rfl | (congr 1), Q4.out⟩
          case measure => simp [RowKit.intOf]
    · go_wp2_with fail
      go_ret
      exact ⟨rfl, HR.out⟩
    · omega
end Go.Proofs.YtadojlmjapmbhaaDoor
