/- Layer 14: the law ReplyShort. -/
import Derived.Test.YtmoioihclnpcbaaDoorRepI
namespace Go.Proofs.YtmoioihclnpcbaaDoor
set_option linter.unusedVariables false
set_option linter.unusedSimpArgs false
open Go Go.RowKit

theorem sL_len (k : Nat) : (sL k).length = k := List.length_replicate
theorem sL_next (k : Nat) : bs (sL k) ++ ({ data := #[115] } : ByteArray) = bs (sL (k + 1)) := by
  refine ba_ext ?_
  simp [sL, List.replicate_succ']
theorem brk_ne {b : UInt8} (h : brkB b = false) : ((b.toNat : Int) == 0) = false ∧ ((b.toNat : Int) == 13) = false ∧ ((b.toNat : Int) == 10) = false := by
  have key : ∀ c : UInt8, brkB c = true → ((b.toNat : Int) == (c.toNat : Int)) = false := fun c hc => by
    rw [beq_eq_false_iff_ne]
    intro e
    have : b = c := UInt8.toNat_inj.1 (by omega)
    rw [this, hc] at h
    cases h
  exact ⟨key 0 rfl, key 13 rfl, key 10 rfl⟩
set_option maxRecDepth 100000 in
set_option maxHeartbeats 16000000 in
theorem replyShort_walk (a0 a1 : Int) (h0 : 0 ≤ a0) (h0' : a0 ≤ 255) (A : Option Addr) (c : Nat) (ps : List (List UInt8)) (w : World) (hR : ReadsT w A ps) (hl : ps.length ≤ 9223372036854775807) (hm : Mx w) (hp : PowW w) :
    Calls Tryd.prog 4 #[.int .u8 a0, .int .i64 a1, .slice A ps.length c] w fun e w' => e = .returned (.bool true) ∧ Below w.heap.size w w' := by
  have HA := Lib.hid (awake14 w hm hp)
  have HG := Lib.hid (fun W h => greatM A c ps W h hl)
  have HR := Lib.hid hR
  have HM := Lib.hid hm
  have HP := Lib.hid hp
  clear hm hp hR
  cases hgr : greatL ps
  · rw [hgr] at HG
    obtain ⟨hg1, hg2⟩ := great_mem hgr
    have HGM := Lib.hid hg2
    clear hgr hg2
    by_cases h14 : ps.length ≤ 14
    · by_cases hc1 : 1 ≤ a1
      · by_cases hc2 : a1 ≤ 999
        · obtain ⟨n, rfl⟩ : ∃ n : Nat, a1 = n := ⟨a1.toNat, by omega⟩
          obtain ⟨m, rfl⟩ : ∃ m : Nat, a0 = m := ⟨a0.toNat, by omega⟩
          have q1 : ¬ (14 : Int) < ps.length := by omega
          have q2 : ¬ ((n : Int) < 1) := by omega
          have q3 : ¬ ((999 : Int) < n) := by omega
          have htm : (m : Int).tmod 60 = ((m % 60 : Nat) : Int) := by rw [Int.tmod_eq_emod_of_nonneg (by omega)]; omega
          have hwm : wrap64 (m : Int) = m := by unfold wrap64; omega
          have HTM := Lib.hid htm
          have HNN := Lib.hid (And.intro hc1 hc2)
          clear h0 h0' hc1 hc2 hg1 htm
          go_enter Tryd.func4, Tryd.ntmps4
          go_wp2_with fail
          refine HA.out.mono ?_
          rintro e w1 ⟨rfl, hb1⟩
          have HB1 := Lib.hid hb1
          clear hb1
          have HR1 := Lib.hid (readsT_below HR.out HB1.out (Nat.le_refl _))
          go_wp2_with fail
          refine (HG.out w1 HR1.out).mono ?_
          rintro e w2 ⟨rfl, rfl⟩
          go_wp2_with fail
          go_loopw [8, 7] (fun i s wr => ∃ k : Nat, k ≤ m % 60 + 1 ∧ i = .int .i64 k ∧ s = .string (bs (sL k)) ∧ w2 = wr) (fun i _ _ => m % 60 + 1 - (intOf i).toNat)
          case atStart => exact ⟨0, by omega, rfl, rfl, rfl⟩
          case round =>
            obtain ⟨k, hk, rfl, rfl, rfl⟩ := hrel
            by_cases hlt : k < m % 60 + 1
            · have hle : (k : Int) ≤ (m : Int).tmod 60 := by rw [HTM.out]; omega
              have hsz : ¬ 9223372036854775807 < (sL k).length + 1 := by rw [sL_len]; omega
              have hsz2 : ¬ 9223372036854775807 < k + 1 := by omega
              go_wp2_with fail
              exact ⟨⟨k + 1, by omega, by push_cast; rfl, congrArg Value.string (sL_next k), by simp⟩, by simp only [intOf]; omega⟩
            · have hle : ¬ (k : Int) ≤ (m : Int).tmod 60 := by rw [HTM.out]; omega
              obtain ⟨R, hL, hll, hnb⟩ := short_line k n (by omega) (by omega) ps
              have hnum := numericM (sL k) annL n A c ps w2 HR1.out (mx_kept HM.out HB1.out (Nat.le_refl _)) (PowW.below HP.out HB1.out) (by have := HNN.out.1; omega) (by have := HNN.out.2; omega) h14 (by rw [sL_len]; omega) (by decide) (fun p hp => by have := HGM.out p hp; omega)
              rw [hL] at hnum
              obtain ⟨hd, hhd⟩ : ∃ h, headS k n = h := ⟨_, rfl⟩
              rw [hhd] at hnum hll hnb
              have HL := Lib.hid (And.intro hll hnb)
              have HHD := Lib.hid hhd
              have HNUM := Lib.hid hnum
              have HCODE := Lib.hid (codeM n (by have := HNN.out.2; omega))
              clear hnum hll hnb hL hhd
              go_wp2_with fail
              refine HNUM.out.mono ?_
              rintro e w3 ⟨rfl, hb3⟩
              have HB3 := Lib.hid hb3
              clear hb3
              have z1 : ¬ 9223372036854775807 < 1 + (sL k).length := by rw [sL_len]; omega
              have z2 : ¬ 9223372036854775807 < 1 + (sL k).length + 1 := by rw [sL_len]; omega
              go_wp2_with fail
              refine (HCODE.out w3).mono ?_
              rintro e w4 ⟨rfl, hb4⟩
              have HB4 := Lib.hid hb4
              clear hb4
              have hcl : (codeL n).length = 3 := rfl
              have hkl : (sL k).length = k := sL_len k
              have hdl : hd.length = 1 + (sL k).length + 1 + (codeL n).length + 4 := by rw [← HHD.out]; simp [headS]; omega
              have hll : (hd ++ R).length ≤ 510 := HL.out.1
              rw [List.length_append] at hll
              have z3 : ¬ 9223372036854775807 < 1 + (sL k).length + 1 + (codeL n).length := by rw [hcl, hkl]; omega
              have z4 : ¬ 9223372036854775807 < 1 + (sL k).length + 1 + (codeL n).length + 4 := by rw [hcl, hkl]; omega
              have z5 : ¬ (510 : Int) < (hd.length : Int) + (R.length : Int) := by omega
              have z6 : ¬ (hd.length : Int) + (R.length : Int) < 1 + ((sL k).length : Int) + 1 + ((codeL n).length : Int) + 4 := by omega
              have z7 : (0 : Int) ≤ 1 + ((sL k).length : Int) + 1 + ((codeL n).length : Int) + 4 := by omega
              have hcat : (({ data := #[58] } : ByteArray) ++ bs (sL k) ++ { data := #[32] } ++ bs (codeL n) ++ { data := #[32, 97, 110, 110] }) = bs hd := by
                rw [← HHD.out]
                exact ba_ext (by simp [headS])
              have hext : (bs (hd ++ R)).extract 0 (1 + (sL k).length + 1 + (codeL n).length + 4) = bs hd := by
                rw [← hdl]
                exact ba_ext (by simp)
              have z8 : (((bs (hd ++ R)).extract 0 (1 + (sL k).length + 1 + (codeL n).length + 4)).toList == (({ data := #[58] } : ByteArray) ++ bs (sL k) ++ { data := #[32] } ++ bs (codeL n) ++ { data := #[32, 97, 110, 110] }).toList) = true := by
                rw [hcat, hext]; exact beq_self_eq_true _
              clear hcl hkl hdl hll hcat hext
              go_wp2_with fail
              clear z1 z2 z3 z4 z5 z6 z7 z8 HNUM
              have hnb : ∀ i (hi : i < (bs (hd ++ R)).size), brkB (bs (hd ++ R))[i] = false := fun i hi => by
                refine HL.out.2 _ ?_
                have hi2 : i < (hd ++ R).length := by simpa using hi
                show (hd ++ R)[i] ∈ hd ++ R
                exact List.getElem_mem hi2
              have hs5 : (bs (hd ++ R)).size ≤ 510 := by have := HL.out.1; simpa using this
              clear HL
              generalize bs (hd ++ R) = sB at *
              have HNB := Lib.hid hnb
              clear hnb
              go_loopw [11] (fun i wr => ∃ k : Nat, k ≤ sB.size ∧ i = .int .i64 k ∧ w4 = wr) (fun i _ => sB.size - (intOf i).toNat)
              case atStart => exact ⟨0, Nat.zero_le _, rfl, rfl⟩
              case round =>
                obtain ⟨j, hj, rfl, rfl⟩ := hrel
                by_cases hjl : j < sB.size
                · obtain ⟨c1, c2, c3⟩ := brk_ne (HNB.out j hjl)
                  go_wp2_with fail
                  exact ⟨⟨j + 1, by omega, by push_cast; rfl, by simp⟩, by simp only [intOf]; omega⟩
                · obtain rfl : j = sB.size := by omega
                  go_wp2_with fail
                  go_ret
                  exact ⟨rfl, HB1.out.trans ((HB3.out.trans (HB4.out.mono HB3.out.size)).mono HB1.out.size)⟩
        · have q1 : ¬ (14 : Int) < ps.length := by omega
          have q2 : ¬ (a1 < 1) := by omega
          have q3 : (999 : Int) < a1 := by omega
          clear h0 h0' hc1 hc2 hg1 h14
          go_enter Tryd.func4, Tryd.ntmps4
          go_wp2_with fail
          refine HA.out.mono ?_
          rintro e w1 ⟨rfl, hb1⟩
          have HB1 := Lib.hid hb1
          clear hb1
          have HR1 := Lib.hid (readsT_below HR.out HB1.out (Nat.le_refl _))
          go_wp2_with fail
          refine (HG.out w1 HR1.out).mono ?_
          rintro e w2 ⟨rfl, rfl⟩
          go_wp2_with fail
          go_ret
          exact ⟨rfl, HB1.out⟩
      · have q1 : ¬ (14 : Int) < ps.length := by omega
        have q2 : a1 < 1 := by omega
        clear h0 h0' hc1 hg1 h14
        go_enter Tryd.func4, Tryd.ntmps4
        go_wp2_with fail
        refine HA.out.mono ?_
        rintro e w1 ⟨rfl, hb1⟩
        have HB1 := Lib.hid hb1
        clear hb1
        have HR1 := Lib.hid (readsT_below HR.out HB1.out (Nat.le_refl _))
        go_wp2_with fail
        refine (HG.out w1 HR1.out).mono ?_
        rintro e w2 ⟨rfl, rfl⟩
        go_wp2_with fail
        go_ret
        exact ⟨rfl, HB1.out⟩
    · have q1 : (14 : Int) < ps.length := by omega
      clear h0 h0' hg1 h14
      go_enter Tryd.func4, Tryd.ntmps4
      go_wp2_with fail
      refine HA.out.mono ?_
      rintro e w1 ⟨rfl, hb1⟩
      have HB1 := Lib.hid hb1
      clear hb1
      have HR1 := Lib.hid (readsT_below HR.out HB1.out (Nat.le_refl _))
      go_wp2_with fail
      refine (HG.out w1 HR1.out).mono ?_
      rintro e w2 ⟨rfl, rfl⟩
      go_wp2_with fail
      go_ret
      exact ⟨rfl, HB1.out⟩
  · rw [hgr] at HG
    clear h0 h0' hgr
    go_enter Tryd.func4, Tryd.ntmps4
    go_wp2_with fail
    refine HA.out.mono ?_
    rintro e w1 ⟨rfl, hb1⟩
    have HB1 := Lib.hid hb1
    clear hb1
    have HR1 := Lib.hid (readsT_below HR.out HB1.out (Nat.le_refl _))
    go_wp2_with fail
    refine (HG.out w1 HR1.out).mono ?_
    rintro e w2 ⟨rfl, rfl⟩
    go_wp2_with fail
    go_ret
    exact ⟨rfl, HB1.out⟩
theorem wf8r {a : Int} (h : (Lit.int .u8 a).wf = true) : 0 ≤ a ∧ a ≤ 255 := by
  simp only [Lit.wf, IntKind.has, Bool.and_eq_true, decide_eq_true_eq] at h
  exact ⟨h.1, h.2⟩
theorem replyShort_texts (A : Option Addr) (l : List ByteArray) (c : Nat) (a0 a1 : Int) (h0 : 0 ≤ a0) (h0' : a0 ≤ 255) (w : World) (hl : l.length ≤ maxLen) (hr : 0 < l.length → ∃ g o, A = some ⟨g, o, none⟩ ∧ ∀ i (h : i < l.length), w.cell? ⟨g, o + i, none⟩ = some (.string l[i])) (hm : Mx w) (hp : PowW w) :
    Calls Tryd.prog 4 #[.int .u8 a0, .int .i64 a1, .slice A l.length c] w fun e w' => e = .returned (.bool true) ∧ Below w.heap.size w w' := by
  have := replyShort_walk a0 a1 h0 h0' A c (l.map fun x => x.data.toList) w (fun h0 => by
    rw [List.length_map] at h0
    obtain ⟨g, o, e, hc⟩ := hr h0
    refine ⟨g, o, e, World.block_lt_of_cell? _ _ (hc 0 h0), fun j hj => ?_⟩
    rw [List.getElem_map]
    exact hc j (by rw [List.length_map] at hj; exact hj)) (by rw [List.length_map]; unfold maxLen at hl; omega) hm hp
  rwa [List.length_map] at this
end Go.Proofs.YtmoioihclnpcbaaDoor
