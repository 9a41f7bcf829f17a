/- Layer 12: the answers' Apply. -/
import Derived.Test.YtbpnaclnninndaaDoorCapD
namespace Go.Proofs.YtbpnaclnninndaaDoor
set_option linter.unusedVariables false
set_option linter.unusedSimpArgs false
open Go.RowKit Go.Shelf

/-- where the answers' loop stands -/
def AtR (h : BitVec 64) (l : List UInt8) (k f : Nat) (v : BitVec 64) : Prop :=
  (k ≤ l.length → f ≤ k ∧ capV h l = appV h v (splitL (l.drop f)) ∧ (32 : UInt8) ∉ (l.drop f).take (k - f)) ∧ (k = l.length + 1 → capV h l = (v, true))
/-- what is left behind a word -/
def restR (l : List UInt8) (k : Nat) : List (List UInt8) := if k < l.length then splitL (l.drop (k + 1)) else []
theorem AtR.more {h : BitVec 64} {l : List UInt8} {k f : Nat} {v : BitVec 64} (hA : AtR h l k f v) (hk : k < l.length) (hc : l[k] ≠ 32) : AtR h l (k + 1) f v := by
  obtain ⟨h1, h2, h3⟩ := hA.1 (by omega)
  refine ⟨fun _ => ⟨by omega, h2, ?_⟩, fun e => by omega⟩
  have e1 : k + 1 - f = (k - f) + 1 := by omega
  have hl : k - f < (l.drop f).length := by rw [List.length_drop]; omega
  rw [e1, List.take_succ_eq_append_getElem hl]
  intro hm
  rcases List.mem_append.1 hm with hm | hm
  · exact h3 hm
  · have hg : (l.drop f)[k - f] = l[k] := by rw [List.getElem_drop]; congr 1; omega
    rw [List.mem_singleton, hg] at hm
    exact hc hm.symm
theorem AtR.word {h : BitVec 64} {l : List UInt8} {k f : Nat} {v : BitVec 64} (hA : AtR h l k f v) (hk : k ≤ l.length) (hc : ∀ hk : k < l.length, l[k] = 32) : capV h l = appV h v ((l.drop f).take (k - f) :: restR l k) := by
  obtain ⟨h1, h2, h3⟩ := hA.1 hk
  rw [h2]
  unfold restR
  by_cases hlt : k < l.length
  · rw [if_pos hlt]
    have e : l.drop f = (l.drop f).take (k - f) ++ 32 :: l.drop (k + 1) := by
      have h4 := List.drop_eq_getElem_cons hlt
      rw [hc hlt] at h4
      have h5 : (l.drop f).drop (k - f) = l.drop k := by rw [List.drop_drop]; congr 1; omega
      rw [← h4, ← h5, List.take_append_drop]
    conv => lhs; rw [e]
    rw [splitL_cut _ _ h3]
  · rw [if_neg hlt]
    have e : (l.drop f).take (k - f) = l.drop f := List.take_of_length_le (by rw [List.length_drop]; omega)
    rw [e] at h3 ⊢
    rw [splitL_none _ h3]
theorem AtR.next {h : BitVec 64} {l : List UInt8} {k : Nat} {v : BitVec 64} (hk : k ≤ l.length) (hv : capV h l = appV h v (restR l k)) : AtR h l (k + 1) (k + 1) v := by
  refine ⟨fun hle => ⟨Nat.le_refl _, ?_, by simp⟩, fun e => ?_⟩
  · rw [hv]; unfold restR; rw [if_pos (by omega)]
  · rw [hv]; unfold restR; rw [if_neg (by omega)]; rfl

set_option maxRecDepth 100000 in
set_option maxHeartbeats 8000000 in
theorem applyr_any (h : BitVec 64) (s : ByteArray) (w : World) (hs : s.size ≤ 1000000) :
    Calls Tryd.prog 11 #[.int .i64 (IV h), .string s] w fun e w' => e = .returned (.tuple #[.int .i64 (IV (capV h s.data.toList).1), .bool (capV h s.data.toList).2]) ∧ Below w.heap.size w w' := by
  obtain ⟨cv, hcv⟩ : ∃ cv, capV h s.data.toList = cv := ⟨_, rfl⟩
  rw [hcv]
  have HCV := Lib.hid hcv
  clear hcv
  go_enter Tryd.func11, Tryd.ntmps11
  go_wp2_with fail
  go_loopw [6, 7, 8] (fun nw fr i wr => ∃ (k f : Nat) (v : BitVec 64), i = .int .i64 k ∧ k ≤ s.size + 1 ∧ fr = .int .i64 f ∧ f ≤ k ∧ nw = .int .i64 (IV v) ∧ Hid (AtR h s.data.toList k f v) ∧ Hid (Below w.heap.size w wr)) (fun _ _ i _ => s.size + 1 - (intOf i).toNat)
  case atStart => exact ⟨0, 0, h, rfl, by omega, rfl, by omega, rfl, ⟨fun _ => ⟨Nat.le_refl _, rfl, by simp⟩, fun e => by simp at e⟩, Below.refl _ _⟩
  case round =>
    obtain ⟨k, f, v, rfl, hk, rfl, hf, rfl, HA, HB⟩ := hrel
    have hlen : s.data.toList.length = s.size := by simp
    by_cases hle : k ≤ s.size
    · have hp1 : (k : Int) ≤ (s.size : Int) := by omega
      by_cases hmid : ∃ hlt : k < s.size, s[k] ≠ 32
      · obtain ⟨hlt, hc⟩ := hmid
        have hp2 : (k : Int) < (s.size : Int) := by omega
        have q : ((s[k].toNat : Int) != 32) = true := by
          rw [bne_iff_ne]; intro e; exact hc (UInt8.toNat_inj.mp (by have : (32 : UInt8).toNat = 32 := rfl; omega))
        have HN : Hid (AtR h s.data.toList (k + 1) f v) := HA.out.more (by omega) (fun e => hc (show s[k] = 32 from (by simpa using e : s.data[k] = 32)))
        clear hc hlen
        go_wp2_with fail
        go_roundw
        case rel => exact ⟨k + 1, f, v, by go_num, by omega, rfl, by omega, rfl, HN, HB⟩
        case measure => simp [intOf]; omega
      · have hcw : capV h s.data.toList = appV h v ((s.data.toList.drop f).take (k - f) :: restR s.data.toList k) := HA.out.word (by omega) (fun hk' => by
          have hk2 : k < s.size := by omega
          by_cases h32 : s[k] = 32
          · show s.data.toList[k] = 32
            rw [Array.getElem_toList]; exact h32
          · exact absurd ⟨hk2, h32⟩ hmid)
        -- the word
        have hX : (s.extract f k).data.toList = (s.data.toList.drop f).take (k - f) := by simp
        have hXs : (s.extract f k).size = k - f := by simp; omega
        rw [← hX] at hcw
        obtain ⟨X, hXd⟩ : ∃ X, s.extract f k = X := ⟨_, rfl⟩
        rw [hXd] at hcw hXs
        have hXl : X.size ≤ 1000000 := by omega
        by_cases hlt : k < s.size
        · have hp2 : (k : Int) < (s.size : Int) := by omega
          have q : ((s[k].toNat : Int) != 32) = false := by
            by_cases h32 : s[k] = 32
            · rw [h32]; rfl
            · exact absurd ⟨hlt, h32⟩ hmid
          have hp3 : (f : Int) ≤ (k : Int) := by omega
          have HC := Lib.hid hcw
          clear hX hcw hlen hmid
          by_cases hem : X.size = 0
          · have q0 := str_em hem
            have HE : Hid (X.data.toList = []) := str_nil hem
            clear hem hXs
            go_wp2_with fail
            go_roundw
            case rel => exact ⟨k + 1, k + 1, v, by go_num, by omega, by go_num, Nat.le_refl _, rfl, AtR.next (by simpa using hle) (by rw [HC.out, HE.out, appV_skip]), HB⟩
            case measure => simp [intOf]; omega
          · have hX0 : 0 < X.size := by omega
            have q0 := str_ne hX0
            have hne : X.data.toList ≠ [] := fun e => hem (by have := congrArg List.length e; simpa using this)
            have hcv := cutB_V X
            have hhd := head_at (s := X) (c := 45) hX0
            have hns := numr_any
            clear hem hXs
            by_cases h45 : X[0] = 45
            · have q45 : ((X[0].toNat : Int) != 45) = false := by rw [h45]; rfl
              have hcb : cutB X = (X.extract 1 X.size, true) := by unfold cutB; rw [hhd, h45]; rfl
              rw [hcb] at hcv
              have hc1 : numV (cutV X.data.toList).1 = numV (X.extract 1 X.size).data.toList := by rw [← hcv]
              have hc2 : (cutV X.data.toList).2 = true := by rw [← hcv]
              have hN : ∀ W, Calls Tryd.prog 15 #[.string (X.extract 1 X.size)] W fun e w' => e = .returned (.int .i64 (IV (numV (X.extract 1 X.size).data.toList))) ∧ Below W.heap.size W w' := fun W => hns _ W
              have hbt := step_same (X.extract 1 X.size).data.toList
              obtain ⟨m, hm⟩ : ∃ m, numV (X.extract 1 X.size).data.toList = m := ⟨_, rfl⟩
              rw [hm] at hN hc1 hbt
              have hx1 : 1 ≤ X.size := hX0
              have HCC := Lib.hid (And.intro hne (And.intro hc1 hc2))
              clear hcv hhd hns hcb hne hc1 hc2 hm h45
              by_cases hm0 : m = 0#64
              · have q1 : (IV m == 0) = true := by rw [hm0]; rfl
                have HM := Lib.hid hm0
                clear hm0 hbt
                go_wp2_with (go_at_call 15; refine (hN _).mono ?_; rintro e w1 ⟨rfl, q1⟩; have Q1 := Lib.hid (HB.out.trans (q1.mono HB.out.size)); clear q1)
                have hbad : cv = (h, false) := by
                  rw [← HCV.out, HC.out, appV_bad HCC.out.1 (by rw [HCC.out.2.1, HM.out])]
                go_ret2
                exact ⟨by rw [hbad]; rfl, Q1.out⟩
              · have q1 : (IV m == 0) = false := by
                  have := IV_beq m 0#64
                  rw [show IV 0#64 = 0 from rfl] at this
                  rw [this]; simpa using hm0
                have hbit : ∀ W, Calls Tryd.prog 28 #[.int .i64 (IV v), .int .i64 (IV m)] W fun e w' => e = .returned (.bool ((v &&& m) == m)) ∧ W = w' := fun W => bit_any v m W
                have hst := hbt hm0 v false
                have hxr := bits_xor_v v m
                have HM := Lib.hid hm0
                clear hm0 hbt
                cases hbb : ((v &&& m) == m)
                · rw [hbb] at hbit hst
                  clear hbb
                  have HS := Lib.hid hst
                  clear hst
                  go_wp2_with (first | (go_at_call 15; refine (hN _).mono ?_; rintro e w1 ⟨rfl, q1⟩; have Q1 := Lib.hid (HB.out.trans (q1.mono HB.out.size)); clear q1) | (go_at_call 28; refine (hbit _).mono ?_; rintro e w2 ⟨rfl, rfl⟩))
                  go_roundw
                  case rel => exact ⟨k + 1, k + 1, v, by go_num, by omega, by go_num, Nat.le_refl _, rfl, AtR.next (by simpa using hle) (by rw [HC.out, appV_good HCC.out.1 (by rw [HCC.out.2.1]; exact HM.out), HCC.out.2.1, HCC.out.2.2, show stepV v m true = v from HS.out.symm]), Q1⟩
                  case measure => simp [intOf]; omega
                · rw [hbb] at hbit hst
                  clear hbb
                  have HS := Lib.hid hst
                  clear hst
                  go_wp2_with (first | (go_at_call 15; refine (hN _).mono ?_; rintro e w1 ⟨rfl, q1⟩; have Q1 := Lib.hid (HB.out.trans (q1.mono HB.out.size)); clear q1) | (go_at_call 28; refine (hbit _).mono ?_; rintro e w2 ⟨rfl, rfl⟩))
                  go_roundw
                  case rel => exact ⟨k + 1, k + 1, v ^^^ m, by go_num, by omega, by go_num, Nat.le_refl _, rfl, AtR.next (by simpa using hle) (by rw [HC.out, appV_good HCC.out.1 (by rw [HCC.out.2.1]; exact HM.out), HCC.out.2.1, HCC.out.2.2, show stepV v m true = v ^^^ m from HS.out.symm]), Q1⟩
                  case measure => simp [intOf]; omega
            · have q45 : ((X[0].toNat : Int) != 45) = true := by
                rw [bne_iff_ne]; intro e; exact h45 (UInt8.toNat_inj.mp (by have : (45 : UInt8).toNat = 45 := rfl; omega))
              have hcb : cutB X = (X, false) := by unfold cutB; rw [hhd, beq_eq_false_iff_ne.mpr h45]; rfl
              rw [hcb] at hcv
              have hc1 : numV (cutV X.data.toList).1 = numV X.data.toList := by rw [← hcv]
              have hc2 : (cutV X.data.toList).2 = false := by rw [← hcv]
              have hN : ∀ W, Calls Tryd.prog 15 #[.string X] W fun e w' => e = .returned (.int .i64 (IV (numV X.data.toList))) ∧ Below W.heap.size W w' := fun W => hns _ W
              have hbt := step_same X.data.toList
              obtain ⟨m, hm⟩ : ∃ m, numV X.data.toList = m := ⟨_, rfl⟩
              rw [hm] at hN hc1 hbt
              have hx1 : 1 ≤ X.size := hX0
              have HCC := Lib.hid (And.intro hne (And.intro hc1 hc2))
              clear hcv hhd hns hcb hne hc1 hc2 hm h45
              by_cases hm0 : m = 0#64
              · have q1 : (IV m == 0) = true := by rw [hm0]; rfl
                have HM := Lib.hid hm0
                clear hm0 hbt
                go_wp2_with (go_at_call 15; refine (hN _).mono ?_; rintro e w1 ⟨rfl, q1⟩; have Q1 := Lib.hid (HB.out.trans (q1.mono HB.out.size)); clear q1)
                have hbad : cv = (h, false) := by
                  rw [← HCV.out, HC.out, appV_bad HCC.out.1 (by rw [HCC.out.2.1, HM.out])]
                go_ret2
                exact ⟨by rw [hbad]; rfl, Q1.out⟩
              · have q1 : (IV m == 0) = false := by
                  have := IV_beq m 0#64
                  rw [show IV 0#64 = 0 from rfl] at this
                  rw [this]; simpa using hm0
                have hbit : ∀ W, Calls Tryd.prog 28 #[.int .i64 (IV v), .int .i64 (IV m)] W fun e w' => e = .returned (.bool ((v &&& m) == m)) ∧ W = w' := fun W => bit_any v m W
                have hst := hbt hm0 v true
                have hxr := bits_xor_v v m
                have HM := Lib.hid hm0
                clear hm0 hbt
                cases hbb : ((v &&& m) == m)
                · rw [hbb] at hbit hst
                  clear hbb
                  have HS := Lib.hid hst
                  clear hst
                  go_wp2_with (first | (go_at_call 15; refine (hN _).mono ?_; rintro e w1 ⟨rfl, q1⟩; have Q1 := Lib.hid (HB.out.trans (q1.mono HB.out.size)); clear q1) | (go_at_call 28; refine (hbit _).mono ?_; rintro e w2 ⟨rfl, rfl⟩))
                  go_roundw
                  case rel => exact ⟨k + 1, k + 1, v ^^^ m, by go_num, by omega, by go_num, Nat.le_refl _, rfl, AtR.next (by simpa using hle) (by rw [HC.out, appV_good HCC.out.1 (by rw [HCC.out.2.1]; exact HM.out), HCC.out.2.1, HCC.out.2.2, show stepV v m false = v ^^^ m from HS.out.symm]), Q1⟩
                  case measure => simp [intOf]; omega
                · rw [hbb] at hbit hst
                  clear hbb
                  have HS := Lib.hid hst
                  clear hst
                  go_wp2_with (first | (go_at_call 15; refine (hN _).mono ?_; rintro e w1 ⟨rfl, q1⟩; have Q1 := Lib.hid (HB.out.trans (q1.mono HB.out.size)); clear q1) | (go_at_call 28; refine (hbit _).mono ?_; rintro e w2 ⟨rfl, rfl⟩))
                  go_roundw
                  case rel => exact ⟨k + 1, k + 1, v, by go_num, by omega, by go_num, Nat.le_refl _, rfl, AtR.next (by simpa using hle) (by rw [HC.out, appV_good HCC.out.1 (by rw [HCC.out.2.1]; exact HM.out), HCC.out.2.1, HCC.out.2.2, show stepV v m false = v from HS.out.symm]), Q1⟩
                  case measure => simp [intOf]; omega
        · have hp2 : ¬ ((k : Int) < (s.size : Int)) := by omega
          have hp3 : (f : Int) ≤ (k : Int) := by omega
          have HC := Lib.hid hcw
          clear hX hcw hlen hmid
          by_cases hem : X.size = 0
          · have q0 := str_em hem
            have HE : Hid (X.data.toList = []) := str_nil hem
            clear hem hXs
            go_wp2_with fail
            go_roundw
            case rel => exact ⟨k + 1, k + 1, v, by go_num, by omega, by go_num, Nat.le_refl _, rfl, AtR.next (by simpa using hle) (by rw [HC.out, HE.out, appV_skip]), HB⟩
            case measure => simp [intOf]; omega
          · have hX0 : 0 < X.size := by omega
            have q0 := str_ne hX0
            have hne : X.data.toList ≠ [] := fun e => hem (by have := congrArg List.length e; simpa using this)
            have hcv := cutB_V X
            have hhd := head_at (s := X) (c := 45) hX0
            have hns := numr_any
            clear hem hXs
            by_cases h45 : X[0] = 45
            · have q45 : ((X[0].toNat : Int) != 45) = false := by rw [h45]; rfl
              have hcb : cutB X = (X.extract 1 X.size, true) := by unfold cutB; rw [hhd, h45]; rfl
              rw [hcb] at hcv
              have hc1 : numV (cutV X.data.toList).1 = numV (X.extract 1 X.size).data.toList := by rw [← hcv]
              have hc2 : (cutV X.data.toList).2 = true := by rw [← hcv]
              have hN : ∀ W, Calls Tryd.prog 15 #[.string (X.extract 1 X.size)] W fun e w' => e = .returned (.int .i64 (IV (numV (X.extract 1 X.size).data.toList))) ∧ Below W.heap.size W w' := fun W => hns _ W
              have hbt := step_same (X.extract 1 X.size).data.toList
              obtain ⟨m, hm⟩ : ∃ m, numV (X.extract 1 X.size).data.toList = m := ⟨_, rfl⟩
              rw [hm] at hN hc1 hbt
              have hx1 : 1 ≤ X.size := hX0
              have HCC := Lib.hid (And.intro hne (And.intro hc1 hc2))
              clear hcv hhd hns hcb hne hc1 hc2 hm h45
              by_cases hm0 : m = 0#64
              · have q1 : (IV m == 0) = true := by rw [hm0]; rfl
                have HM := Lib.hid hm0
                clear hm0 hbt
                go_wp2_with (go_at_call 15; refine (hN _).mono ?_; rintro e w1 ⟨rfl, q1⟩; have Q1 := Lib.hid (HB.out.trans (q1.mono HB.out.size)); clear q1)
                have hbad : cv = (h, false) := by
                  rw [← HCV.out, HC.out, appV_bad HCC.out.1 (by rw [HCC.out.2.1, HM.out])]
                go_ret2
                exact ⟨by rw [hbad]; rfl, Q1.out⟩
              · have q1 : (IV m == 0) = false := by
                  have := IV_beq m 0#64
                  rw [show IV 0#64 = 0 from rfl] at this
                  rw [this]; simpa using hm0
                have hbit : ∀ W, Calls Tryd.prog 28 #[.int .i64 (IV v), .int .i64 (IV m)] W fun e w' => e = .returned (.bool ((v &&& m) == m)) ∧ W = w' := fun W => bit_any v m W
                have hst := hbt hm0 v false
                have hxr := bits_xor_v v m
                have HM := Lib.hid hm0
                clear hm0 hbt
                cases hbb : ((v &&& m) == m)
                · rw [hbb] at hbit hst
                  clear hbb
                  have HS := Lib.hid hst
                  clear hst
                  go_wp2_with (first | (go_at_call 15; refine (hN _).mono ?_; rintro e w1 ⟨rfl, q1⟩; have Q1 := Lib.hid (HB.out.trans (q1.mono HB.out.size)); clear q1) | (go_at_call 28; refine (hbit _).mono ?_; rintro e w2 ⟨rfl, rfl⟩))
                  go_roundw
                  case rel => exact ⟨k + 1, k + 1, v, by go_num, by omega, by go_num, Nat.le_refl _, rfl, AtR.next (by simpa using hle) (by rw [HC.out, appV_good HCC.out.1 (by rw [HCC.out.2.1]; exact HM.out), HCC.out.2.1, HCC.out.2.2, show stepV v m true = v from HS.out.symm]), Q1⟩
                  case measure => simp [intOf]; omega
                · rw [hbb] at hbit hst
                  clear hbb
                  have HS := Lib.hid hst
                  clear hst
                  go_wp2_with (first | (go_at_call 15; refine (hN _).mono ?_; rintro e w1 ⟨rfl, q1⟩; have Q1 := Lib.hid (HB.out.trans (q1.mono HB.out.size)); clear q1) | (go_at_call 28; refine (hbit _).mono ?_; rintro e w2 ⟨rfl, rfl⟩))
                  go_roundw
                  case rel => exact ⟨k + 1, k + 1, v ^^^ m, by go_num, by omega, by go_num, Nat.le_refl _, rfl, AtR.next (by simpa using hle) (by rw [HC.out, appV_good HCC.out.1 (by rw [HCC.out.2.1]; exact HM.out), HCC.out.2.1, HCC.out.2.2, show stepV v m true = v ^^^ m from HS.out.symm]), Q1⟩
                  case measure => simp [intOf]; omega
            · have q45 : ((X[0].toNat : Int) != 45) = true := by
                rw [bne_iff_ne]; intro e; exact h45 (UInt8.toNat_inj.mp (by have : (45 : UInt8).toNat = 45 := rfl; omega))
              have hcb : cutB X = (X, false) := by unfold cutB; rw [hhd, beq_eq_false_iff_ne.mpr h45]; rfl
              rw [hcb] at hcv
              have hc1 : numV (cutV X.data.toList).1 = numV X.data.toList := by rw [← hcv]
              have hc2 : (cutV X.data.toList).2 = false := by rw [← hcv]
              have hN : ∀ W, Calls Tryd.prog 15 #[.string X] W fun e w' => e = .returned (.int .i64 (IV (numV X.data.toList))) ∧ Below W.heap.size W w' := fun W => hns _ W
              have hbt := step_same X.data.toList
              obtain ⟨m, hm⟩ : ∃ m, numV X.data.toList = m := ⟨_, rfl⟩
              rw [hm] at hN hc1 hbt
              have hx1 : 1 ≤ X.size := hX0
              have HCC := Lib.hid (And.intro hne (And.intro hc1 hc2))
              clear hcv hhd hns hcb hne hc1 hc2 hm h45
              by_cases hm0 : m = 0#64
              · have q1 : (IV m == 0) = true := by rw [hm0]; rfl
                have HM := Lib.hid hm0
                clear hm0 hbt
                go_wp2_with (go_at_call 15; refine (hN _).mono ?_; rintro e w1 ⟨rfl, q1⟩; have Q1 := Lib.hid (HB.out.trans (q1.mono HB.out.size)); clear q1)
                have hbad : cv = (h, false) := by
                  rw [← HCV.out, HC.out, appV_bad HCC.out.1 (by rw [HCC.out.2.1, HM.out])]
                go_ret2
                exact ⟨by rw [hbad]; rfl, Q1.out⟩
              · have q1 : (IV m == 0) = false := by
                  have := IV_beq m 0#64
                  rw [show IV 0#64 = 0 from rfl] at this
                  rw [this]; simpa using hm0
                have hbit : ∀ W, Calls Tryd.prog 28 #[.int .i64 (IV v), .int .i64 (IV m)] W fun e w' => e = .returned (.bool ((v &&& m) == m)) ∧ W = w' := fun W => bit_any v m W
                have hst := hbt hm0 v true
                have hxr := bits_xor_v v m
                have HM := Lib.hid hm0
                clear hm0 hbt
                cases hbb : ((v &&& m) == m)
                · rw [hbb] at hbit hst
                  clear hbb
                  have HS := Lib.hid hst
                  clear hst
                  go_wp2_with (first | (go_at_call 15; refine (hN _).mono ?_; rintro e w1 ⟨rfl, q1⟩; have Q1 := Lib.hid (HB.out.trans (q1.mono HB.out.size)); clear q1) | (go_at_call 28; refine (hbit _).mono ?_; rintro e w2 ⟨rfl, rfl⟩))
                  go_roundw
                  case rel => exact ⟨k + 1, k + 1, v ^^^ m, by go_num, by omega, by go_num, Nat.le_refl _, rfl, AtR.next (by simpa using hle) (by rw [HC.out, appV_good HCC.out.1 (by rw [HCC.out.2.1]; exact HM.out), HCC.out.2.1, HCC.out.2.2, show stepV v m false = v ^^^ m from HS.out.symm]), Q1⟩
                  case measure => simp [intOf]; omega
                · rw [hbb] at hbit hst
                  clear hbb
                  have HS := Lib.hid hst
                  clear hst
                  go_wp2_with (first | (go_at_call 15; refine (hN _).mono ?_; rintro e w1 ⟨rfl, q1⟩; have Q1 := Lib.hid (HB.out.trans (q1.mono HB.out.size)); clear q1) | (go_at_call 28; refine (hbit _).mono ?_; rintro e w2 ⟨rfl, rfl⟩))
                  go_roundw
                  case rel => exact ⟨k + 1, k + 1, v, by go_num, by omega, by go_num, Nat.le_refl _, rfl, AtR.next (by simpa using hle) (by rw [HC.out, appV_good HCC.out.1 (by rw [HCC.out.2.1]; exact HM.out), HCC.out.2.1, HCC.out.2.2, show stepV v m false = v from HS.out.symm]), Q1⟩
                  case measure => simp [intOf]; omega
    · obtain rfl : k = s.size + 1 := by omega
      have hp1 : ¬ (((s.size + 1 : Nat) : Int) ≤ (s.size : Int)) := by omega
      have hfin := HA.out.2 (by omega)
      have HF := Lib.hid (hfin.symm.trans HCV.out)
      clear hfin hlen
      go_wp2_with fail
      go_ret2
      exact ⟨by rw [← HF.out]; rfl, HB.out⟩
end Go.Proofs.YtbpnaclnninndaaDoor
