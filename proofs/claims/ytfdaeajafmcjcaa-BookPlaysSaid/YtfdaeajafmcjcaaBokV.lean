/- Layer 2: the document's book: From. -/
import Derived.Test.YtfdaeajafmcjcaaBokS2
namespace Go.Proofs.Ytfdaeajafmcjcaa
set_option linter.unusedVariables false
set_option linter.unusedSimpArgs false
open Go Go.RowKit Go.Maps Go.Sort Go.Shelf Go.Lib

theorem cmpF_zero' {a b : List UInt8} (h : foldL a = foldL b) : cmpF a b = 0 := by unfold cmpF; exact cmpL_zero.2 h
theorem cmpF_anti' (a b : List UInt8) : cmpF a b = 0 ∨ cmpF a b = -1 ∨ cmpF a b = 1 := by
  rcases cmpL_three (foldL a) (foldL b) with h | h | h <;> (unfold cmpF; omega)
theorem cmpF_neg (a b : ByteArray) : cmpF a.data.toList b.data.toList < 0 ↔ foldL a.data.toList < foldL b.data.toList := by
  have h1 : cmpF a.data.toList b.data.toList = -1 ↔ foldL a.data.toList < foldL b.data.toList := by
    unfold cmpF
    rw [← less_cmpL, bytesLess_eq, decide_eq_true_eq]
  rcases cmpF_anti' a.data.toList b.data.toList with h | h | h
  · rw [← h1, h]; decide
  · rw [← h1, h]; decide
  · rw [← h1, h]; decide
theorem cmpF_leq (a b : ByteArray) : cmpF a.data.toList b.data.toList ≤ 0 ↔ ¬ foldL b.data.toList < foldL a.data.toList := by
  rcases ktriO (foldL a.data.toList) (foldL b.data.toList) with h | h | h
  · have := (cmpF_neg a b).2 h
    exact ⟨fun _ k => kirrO _ (ktrO h k), fun _ => by omega⟩
  · rw [cmpF_zero' h, h]
    exact ⟨fun _ => kirrO _, fun _ => by decide⟩
  · constructor
    · intro k
      exfalso
      rcases cmpF_anti' a.data.toList b.data.toList with e | e | e
      · have := cmpL_zero.1 e
        rw [this] at h
        exact kirrO _ h
      · have := (cmpF_neg a b).1 (by omega)
        exact kirrO _ (ktrO h this)
      · omega
    · exact fun k => absurd h k
/-- the comparison of two names, with what it tells of their folded forms -/
theorem cmp_fr {a b : ByteArray} {x y : KeyB} (ha : a.size ≤ 1000000) (hb : b.size ≤ 1000000) (hx : x = foldL a.data.toList) (hy : y = foldL b.data.toList) (W : World) :
    Calls Try.prog 24 #[.string a, .string b] W fun e W' => (∃ q : Int, e = .returned (.int .i64 q) ∧ (q < 0 ↔ x < y) ∧ (q ≤ 0 ↔ ¬ y < x)) ∧ Fr (fun _ => False) W W' :=
  (refcompare a b W ha hb).mono fun e W' ⟨h, hb⟩ => ⟨⟨_, h, by rw [hx, hy]; exact cmpF_neg a b, by rw [hx, hy]; exact cmpF_leq a b⟩, Fr.of_below hb⟩
def sliceNU (v : Value) : Nat := match v with | .slice _ n _ => n | _ => 0
def RFromG (w : World) (D : List (Ent VI)) (m : Nat) (v : Value) (W : World) : Prop := Below w.heap.size w W ∧ OwnU w.heap.size W v (D.take m)
def FromU (R : List (Ent VI)) (w : World) (e : Ending) (w' : World) : Prop := (∃ A c, e = .returned (.slice A R.length c) ∧ OwnU w.heap.size w' (.slice A R.length c) R) ∧ Below w.heap.size w w'
set_option maxRecDepth 100000 in
set_option maxHeartbeats 16000000 in
theorem ref_from_all {base : Nat} {w : World} {x : Nat} {most : Int} {U : List (Ent VI)} (h : RefB base w x most U) (hk : OkUB U) (hnd : (U.map (·.fold)).Nodup) (hl : U.length ≤ 1000000) {name : ByteArray} (hs : name.size ≤ 1000000) {fr : KeyB} (hfr : fr = []) :
    Calls Try.prog 19 #[.pointer (some ⟨x, 0, none⟩), .string name, .bool true] w (FromU (rowU fr U) w) := by
  obtain ⟨i0, hi0, hz0, hz1, hz2⟩ := info_parts Try.infoEU
  obtain ⟨h0, A, c, h2, h3, h4⟩ := h
  have hx : ∀ W, Below w.heap.size w W → W.cell? ⟨x, 1, none⟩ = some (.slice A U.length c) := fun W hb => (blk_cell ((Fr.of_below hb).blk (X := fun _ => False) h2 fun e => e) 1).trans rfl
  obtain ⟨g, hA, hcell⟩ : ∃ g, (0 < U.length → A = some ⟨g, 0, none⟩) ∧ ∀ W, Below w.heap.size w W → ∀ k e, U[k]? = some e → W.cell? ⟨g, k * 2, none⟩ = some (.string e.name) ∧ W.cell? ⟨g, k * 2 + 1, none⟩ = some (.int .i64 e.thing) := by
    by_cases h9 : 0 < U.length
    · obtain ⟨g, o, hA, hg, hcell⟩ := reads_ownU h3 h9
      have ho : o = 0 := by
        rcases h3.2 with ⟨_, e⟩ | ⟨g', cap, cur, e, _⟩
        · omega
        · injection e with e1; rw [hA] at e1; injection e1 with e1; injection e1
      subst ho
      refine ⟨g, fun _ => hA, fun W hb k e he => ?_⟩
      obtain ⟨hk2, rfl⟩ := List.getElem?_eq_some_iff.1 he
      obtain ⟨e1, e2⟩ := hcell k hk2
      rw [Nat.zero_add] at e1 e2
      exact ⟨((Fr.of_below hb).cell (X := fun _ => False) (p := ⟨g, k * 2, none⟩) hg fun e => e).trans e1, ((Fr.of_below hb).cell (X := fun _ => False) (p := ⟨g, k * 2 + 1, none⟩) hg fun e => e).trans e2⟩
    · exact ⟨0, fun h => absurd h h9, fun W hb k e he => by rw [List.getElem?_eq_none (by omega)] at he; cases he⟩
  have hok : ∀ (k : Nat) (e : Ent VI), U[k]? = some e → e.fold = foldL e.name.data.toList ∧ e.name.size ≤ 1000000 := fun k e he => hk e (List.mem_of_getElem? he)
  have hdl := rowU_len U fr
  have HC := Lib.hid (And.intro hx (And.intro hcell (And.intro hnd (And.intro hl hok))))
  have HA := Lib.hid hA
  have HO := Lib.hid (show ∀ e : Ent VI, ¬ e.fold < fr from fun e => by rw [hfr]; exact List.not_lt_nil _)
  obtain ⟨D, hD⟩ : ∃ D, rowU fr U = D := ⟨_, rfl⟩
  have hDok : ∀ e ∈ D, e.fold = foldL e.name.data.toList ∧ e.name.size ≤ 1000000 := fun e he => hk e (rowU_mem hnd |>.1 (by rw [hD]; exact he)).1
  have hdl2 : D.length ≤ 1000000 := by rw [← hD]; omega
  have HD := Lib.hid (And.intro hD hDok)
  have H0 : Hid (RFromG w D 0 (.slice none 0 0) w) := ⟨Below.refl _ _, ownU_nil _ _⟩
  have HS := Lib.hid hs
  clear hx hcell hnd h2 h3 h4 hD h0 hdl hA hok hk hDok hs hfr
  go_enter Try.func19, Try.ntmps19
  go_wp2_with fail
  go_loopw [7, 8, 9, 10] (fun out _ _ _ wr => ∃ (m : Nat) (A1 : Option Addr) (c1 : Nat), out = .slice A1 m c1 ∧ m ≤ D.length ∧ Hid (RFromG w D m (.slice A1 m c1) wr)) (fun out _ _ _ _ => D.length - sliceNU out)
  case atStart => exact ⟨0, _, _, rfl, Nat.zero_le _, H0⟩
  case round =>
    obtain ⟨m, A1, c1, rfl, hm, HG⟩ := hrel
    clear H0
    rename World => W0
    go_wp2_with fail
    go_loopw [8, 9, 10] (fun b i _ V => ∃ (bb : Int) (j : Nat), b = .int .i64 bb ∧ i = .int .i64 j ∧ j ≤ U.length ∧ Hid (BestU U fr (D.take m).getLast? j bb ∧ Fr (fun _ => False) W0 V)) (fun _ i _ _ => U.length - (RowKit.intOf i).toNat)
    case atStart => exact ⟨-1, 0, rfl, rfl, Nat.zero_le _, bestU_zero _ _ _, Fr.refl _ _⟩
    case round =>
      obtain ⟨bb, j, rfl, rfl, hj, HB⟩ := hrel
      have hbW : Below w.heap.size w wr := HG.out.1.trans (HB.out.2.below HG.out.1.size fun _ _ e => e.elim)
      have HBW := Lib.hid hbW
      have hcx := HC.out.1 wr hbW
      clear hbW
      by_cases hlt : j < U.length
      · have hA1 := HA.out (by omega)
        subst hA1
        obtain ⟨ej, hTj⟩ : ∃ p, U[j]? = some p := ⟨_, List.getElem?_eq_getElem hlt⟩
        obtain ⟨s1, s2⟩ := HC.out.2.1 wr HBW.out j ej hTj
        obtain ⟨k1, k2⟩ := HC.out.2.2.2.2 j ej hTj
        obtain ⟨nj, hnj⟩ : ∃ nj, ej.name = nj := ⟨_, rfl⟩
        rw [hnj] at s1 k1 k2
        have HJ := Lib.hid (And.intro hTj (And.intro k1 (And.intro k2 hnj)))
        have p0 : (j : Int) < (U.length : Int) := by omega
        have r0 : (0 : Int) ≤ (j : Int) := by omega
        clear hTj k1 k2 s2 hnj
        rcases Nat.eq_zero_or_pos m with hm0 | hm0
        · subst hm0
          have hc0 : ¬ ej.fold < fr → CandU fr (D.take 0).getLast? ej := fun h => ⟨h, fun y hy => by simp at hy⟩
          have HCD := Lib.hid hc0
          clear hc0
          have hfr := HO.out ej
          have hc := HCD.out hfr
          rcases bestU_lt HB.out.1 with rfl | ⟨kb, rfl, hkb⟩
          · have HN := Lib.hid (bestU_first HB.out.1 HJ.out.1 hc)
            clear hc
            go_wp2_with fail
            go_roundw
            case rel => exact ⟨j, j + 1, rfl, by go_num, by omega, HN.out, (HB.out.2.trans (Fr.refl (fun _ => False) wr))⟩
            case measure => simp [RowKit.intOf]; omega
          · obtain ⟨eq, hTk⟩ : ∃ p, U[kb]? = some p := ⟨_, List.getElem?_eq_getElem (by omega)⟩
            have s3 := (HC.out.2.1 _ (HBW.out.trans ((Fr.refl (fun _ => False) wr).below HBW.out.size fun _ _ e => e.elim)) kb eq hTk).1
            obtain ⟨k3, k4⟩ := HC.out.2.2.2.2 kb eq hTk
            have p4 : (kb : Int) < (U.length : Int) := by omega
            have r4 : (0 : Int) ≤ (kb : Int) := by omega
            have q4 : ¬ ((kb : Int) < 0) := by omega
            have HT2 := Lib.hid (And.intro hTk hc)
            have HM := Lib.hid (cmp_fr (x := ej.fold) (y := eq.fold) HJ.out.2.2.1 k4 HJ.out.2.1 k3)
            clear hTk hc k3 k4
            go_wp2_with fail
            refine (HM.out _).mono ?_
            rintro e w5 ⟨⟨q, rfl, hq1, hq2⟩, f5⟩
            have F5 := Lib.hid f5
            clear f5
            have cx5 := HC.out.1 _ (HBW.out.trans (F5.out.below HBW.out.size fun _ _ e => e.elim))
            by_cases hq : q < 0
            · have HN := Lib.hid (bestU_less HB.out.1 HJ.out.1 HT2.out.2 HT2.out.1 (hq1.1 hq))
              clear hq1 hq2
              go_wp2_with fail
              go_roundw
              case rel => exact ⟨j, j + 1, rfl, by go_num, by omega, HN.out, (HB.out.2.trans F5.out)⟩
              case measure => simp [RowKit.intOf]; omega
            · have HN := Lib.hid (bestU_keep HB.out.1 HJ.out.1 HT2.out.1 (fun e => hq (hq1.2 e)))
              clear hq1 hq2
              go_wp2_with fail
              go_roundw
              case rel => exact ⟨kb, j + 1, rfl, by go_num, by omega, HN.out, (HB.out.2.trans F5.out)⟩
              case measure => simp [RowKit.intOf]; omega
        · obtain ⟨mp, rfl⟩ : ∃ mp, m = mp + 1 := ⟨m - 1, by omega⟩
          have hln : (D.take (mp + 1)).length = mp + 1 := by rw [List.length_take]; omega
          obtain ⟨g1, o1, rfl, hg1, hcell1⟩ := reads_ownU (A := A1) (n := mp + 1) (c := c1) HG.out.2 (by omega)
          have u1 := (hcell1 mp (by omega)).1
          obtain ⟨el, hla⟩ : ∃ p, (D.take (mp + 1))[mp]'(by omega) = p := ⟨_, rfl⟩
          have hlast : (D.take (mp + 1)).getLast? = some el := by rw [List.getLast?_eq_getElem?, hln, Nat.add_sub_cancel, List.getElem?_eq_getElem (by omega), hla]
          rw [hla] at u1
          have hlD := HD.out.2 el (List.mem_of_mem_take (by rw [← hla]; exact List.getElem_mem _))
          obtain ⟨nl, hnl⟩ : ∃ nl, el.name = nl := ⟨_, rfl⟩
          rw [hnl] at u1 hlD
          have hlq : ∀ V, Fr (fun _ => False) wr V → V.cell? ⟨g1, o1 + mp * 2, none⟩ = some (.string nl) := fun V hf => ((HB.out.2.trans hf).cell (p := ⟨g1, o1 + mp * 2, none⟩) hg1 fun e => e).trans u1
          have HL := Lib.hid (And.intro hlq (And.intro hlD hlast))
          have p5 : (mp : Int) < (mp : Int) + 1 := by omega
          have r5 : (0 : Int) ≤ (mp : Int) := by omega
          have hwm : IntKind.i64.wrap (mp : Int) = (mp : Int) := IntWalk.i64_in _ ⟨by omega, by omega⟩
          clear hlq u1 hcell1 hg1 hla hlD hlast hnl hln
          have hfr := HO.out ej
          have HM2 := Lib.hid (cmp_fr (x := ej.fold) (y := el.fold) HJ.out.2.2.1 HL.out.2.1.2 HJ.out.2.1 HL.out.2.1.1)
          have cl4 := HL.out.1 _ (Fr.refl (fun _ => False) wr)
          go_wp2_with fail
          refine (HM2.out _).mono ?_
          rintro e w5 ⟨⟨q2, rfl, hq3, hq4⟩, f5⟩
          have F5 := Lib.hid f5
          clear f5
          have cx5 := HC.out.1 _ (HBW.out.trans (F5.out.below HBW.out.size fun _ _ e => e.elim))
          have cl5 := HL.out.1 _ F5.out
          by_cases hq5 : q2 ≤ 0
          · have hnc : ¬ CandU fr (D.take (mp + 1)).getLast? ej := fun e => hq4.1 hq5 (e.2 _ HL.out.2.2)
            have HN := Lib.hid (bestU_skip HB.out.1 HJ.out.1 hnc)
            clear hnc hq3 hq4
            go_wp2_with fail
            go_roundw
            case rel => exact ⟨_, j + 1, rfl, by go_num, by omega, HN.out, (HB.out.2.trans F5.out)⟩
            case measure => simp [RowKit.intOf]; omega
          · have hll : el.fold < ej.fold := Decidable.byContradiction fun e => hq5 (hq4.2 e)
            have hc : CandU fr (D.take (mp + 1)).getLast? ej := ⟨hfr, fun y hy => by rw [HL.out.2.2] at hy; cases hy; exact hll⟩
            clear hll hq3 hq4
            rcases bestU_lt HB.out.1 with rfl | ⟨kb, rfl, hkb⟩
            · have HN := Lib.hid (bestU_first HB.out.1 HJ.out.1 hc)
              clear hc
              go_wp2_with fail
              go_roundw
              case rel => exact ⟨j, j + 1, rfl, by go_num, by omega, HN.out, (HB.out.2.trans F5.out)⟩
              case measure => simp [RowKit.intOf]; omega
            · obtain ⟨eq, hTk⟩ : ∃ p, U[kb]? = some p := ⟨_, List.getElem?_eq_getElem (by omega)⟩
              have s3 := (HC.out.2.1 _ (HBW.out.trans (F5.out.below HBW.out.size fun _ _ e => e.elim)) kb eq hTk).1
              obtain ⟨k3, k4⟩ := HC.out.2.2.2.2 kb eq hTk
              have p4 : (kb : Int) < (U.length : Int) := by omega
              have r4 : (0 : Int) ≤ (kb : Int) := by omega
              have q4 : ¬ ((kb : Int) < 0) := by omega
              have HT2 := Lib.hid (And.intro hTk hc)
              have HM := Lib.hid (cmp_fr (x := ej.fold) (y := eq.fold) HJ.out.2.2.1 k4 HJ.out.2.1 k3)
              clear hTk hc k3 k4
              go_wp2_with fail
              refine (HM.out _).mono ?_
              rintro e w6 ⟨⟨q, rfl, hq1, hq2⟩, f6⟩
              have F6 := Lib.hid (F5.out.trans f6)
              clear f6
              have cx6 := HC.out.1 _ (HBW.out.trans (F6.out.below HBW.out.size fun _ _ e => e.elim))
              have cl6 := HL.out.1 _ F6.out
              by_cases hq : q < 0
              · have HN := Lib.hid (bestU_less HB.out.1 HJ.out.1 HT2.out.2 HT2.out.1 (hq1.1 hq))
                clear hq1 hq2
                go_wp2_with fail
                go_roundw
                case rel => exact ⟨j, j + 1, rfl, by go_num, by omega, HN.out, (HB.out.2.trans F6.out)⟩
                case measure => simp [RowKit.intOf]; omega
              · have HN := Lib.hid (bestU_keep HB.out.1 HJ.out.1 HT2.out.1 (fun e => hq (hq1.2 e)))
                clear hq1 hq2
                go_wp2_with fail
                go_roundw
                case rel => exact ⟨kb, j + 1, rfl, by go_num, by omega, HN.out, (HB.out.2.trans F6.out)⟩
                case measure => simp [RowKit.intOf]; omega
      · obtain rfl : j = U.length := by omega
        have p1 : ¬ ((U.length : Int) < (U.length : Int)) := by omega
        have ho : OwnU w.heap.size wr (.slice A1 m c1) (D.take m) := ownU_kept HG.out.2 fun k hk => HB.out.2.block k (HG.out.2.lt k hk).2 fun e => e
        have hDD := HD.out.1
        rcases bestU_lt HB.out.1 with rfl | ⟨kb, rfl, hkb⟩
        · have hm2 : m = D.length := by
            have := bestU_none HC.out.2.2.1 (fr := fr) (m := m) (by rw [hDD]; exact hm) (by rw [hDD]; exact HB.out.1)
            rwa [hDD] at this
          subst hm2
          rw [List.take_length] at ho
          have HZ : Hid (FromU (rowU fr U) w (.returned (.slice A1 D.length c1)) wr) := ⟨⟨A1, c1, by rw [hDD], by rw [hDD]; exact ho⟩, HBW.out⟩
          clear ho hDD
          go_wp2_with fail
          go_ret
          exact HZ.out
        · have hA1 := HA.out (by omega)
          subst hA1
          obtain ⟨eq, hTk⟩ : ∃ p, U[kb]? = some p := ⟨_, List.getElem?_eq_getElem (by omega)⟩
          obtain ⟨u1, u2⟩ := HC.out.2.1 wr HBW.out kb eq hTk
          have hnx := bestU_next HC.out.2.2.1 (fr := fr) (m := m) hTk (by rw [hDD]; exact HB.out.1)
          rw [hDD] at hnx
          have p4 : (kb : Int) < (U.length : Int) := by omega
          have r4 : (0 : Int) ≤ (kb : Int) := by omega
          have q4 : ¬ ((kb : Int) < 0) := by omega
          have hln : (D.take m).length = m := by rw [List.length_take]; omega
          have hown : wr.ownsRow w.heap.size 45 2 (.slice A1 m c1) m ((D.take m).flatMap encU) := by
            have := ho
            unfold OwnU at this
            rwa [hln] at this
          have HO2 := Lib.hid (And.intro hown (And.intro hnx hln))
          clear hown hnx hln hTk hDD ho
          go_wp2_with (at_builtin; refine Hid.out ?_)
          refine Lib.hid ?_
          refine wpList_one_t rfl _ _ 30 rfl w.heap.size 45 i0 _ 2 24 Try.underlying30 hi0 hz0 hz1 hz2 rfl (by decide) _ m ((D.take m).flatMap encU) rfl HO2.out.1 #[.string eq.name, .int .i64 eq.thing] wr.heap.size rfl rfl rfl (by intro u hu; simp at hu; rcases hu with rfl | rfl <;> rfl) (by omega) (by decide) HBW.out.size ?_
          intro v4 W4 o4 f4 t4
          obtain ⟨A4, c4, ev4⟩ := row_slice o4
          subst ev4
          obtain ⟨hown, hnx, hln⟩ := HO2.out
          have HNew : Hid (RFromG w D (m + 1) (.slice A4 (m + 1) c4) W4) := ⟨HBW.out.trans (f4.below HBW.out.size fun k hk e => (hown.lt k e).1), by
            rw [hnx.2]
            exact ownU_of o4 (by rw [List.length_append, hln]; rfl) (by rw [List.flatMap_append]; simp [encU])⟩
          have hm3 : m + 1 ≤ D.length := hnx.1
          clear o4 f4 t4 hown hnx hln u1 u2
          go_wp2_with fail
          go_roundw
          case rel => exact ⟨m + 1, A4, c4, rfl, hm3, HNew⟩
          case measure => simp [sliceNU]; omega
set_option maxRecDepth 100000 in
set_option maxHeartbeats 16000000 in
theorem ref_from_one {base : Nat} {w : World} {x : Nat} {most : Int} {U : List (Ent VI)} (h : RefB base w x most U) (hk : OkUB U) (hnd : (U.map (·.fold)).Nodup) (hl : U.length ≤ 1000000) {name : ByteArray} (hs : name.size ≤ 1000000) {fr : KeyB} (hfr : fr = foldL name.data.toList) :
    Calls Try.prog 19 #[.pointer (some ⟨x, 0, none⟩), .string name, .bool false] w (FromU (rowU fr U) w) := by
  obtain ⟨i0, hi0, hz0, hz1, hz2⟩ := info_parts Try.infoEU
  obtain ⟨h0, A, c, h2, h3, h4⟩ := h
  have hx : ∀ W, Below w.heap.size w W → W.cell? ⟨x, 1, none⟩ = some (.slice A U.length c) := fun W hb => (blk_cell ((Fr.of_below hb).blk (X := fun _ => False) h2 fun e => e) 1).trans rfl
  obtain ⟨g, hA, hcell⟩ : ∃ g, (0 < U.length → A = some ⟨g, 0, none⟩) ∧ ∀ W, Below w.heap.size w W → ∀ k e, U[k]? = some e → W.cell? ⟨g, k * 2, none⟩ = some (.string e.name) ∧ W.cell? ⟨g, k * 2 + 1, none⟩ = some (.int .i64 e.thing) := by
    by_cases h9 : 0 < U.length
    · obtain ⟨g, o, hA, hg, hcell⟩ := reads_ownU h3 h9
      have ho : o = 0 := by
        rcases h3.2 with ⟨_, e⟩ | ⟨g', cap, cur, e, _⟩
        · omega
        · injection e with e1; rw [hA] at e1; injection e1 with e1; injection e1
      subst ho
      refine ⟨g, fun _ => hA, fun W hb k e he => ?_⟩
      obtain ⟨hk2, rfl⟩ := List.getElem?_eq_some_iff.1 he
      obtain ⟨e1, e2⟩ := hcell k hk2
      rw [Nat.zero_add] at e1 e2
      exact ⟨((Fr.of_below hb).cell (X := fun _ => False) (p := ⟨g, k * 2, none⟩) hg fun e => e).trans e1, ((Fr.of_below hb).cell (X := fun _ => False) (p := ⟨g, k * 2 + 1, none⟩) hg fun e => e).trans e2⟩
    · exact ⟨0, fun h => absurd h h9, fun W hb k e he => by rw [List.getElem?_eq_none (by omega)] at he; cases he⟩
  have hok : ∀ (k : Nat) (e : Ent VI), U[k]? = some e → e.fold = foldL e.name.data.toList ∧ e.name.size ≤ 1000000 := fun k e he => hk e (List.mem_of_getElem? he)
  have hdl := rowU_len U fr
  have HC := Lib.hid (And.intro hx (And.intro hcell (And.intro hnd (And.intro hl hok))))
  have HA := Lib.hid hA
  have HO := Lib.hid hfr
  obtain ⟨D, hD⟩ : ∃ D, rowU fr U = D := ⟨_, rfl⟩
  have hDok : ∀ e ∈ D, e.fold = foldL e.name.data.toList ∧ e.name.size ≤ 1000000 := fun e he => hk e (rowU_mem hnd |>.1 (by rw [hD]; exact he)).1
  have hdl2 : D.length ≤ 1000000 := by rw [← hD]; omega
  have HD := Lib.hid (And.intro hD hDok)
  have H0 : Hid (RFromG w D 0 (.slice none 0 0) w) := ⟨Below.refl _ _, ownU_nil _ _⟩
  have HS := Lib.hid hs
  clear hx hcell hnd h2 h3 h4 hD h0 hdl hA hok hk hDok hs hfr
  go_enter Try.func19, Try.ntmps19
  go_wp2_with fail
  go_loopw [7, 8, 9, 10] (fun out _ _ _ wr => ∃ (m : Nat) (A1 : Option Addr) (c1 : Nat), out = .slice A1 m c1 ∧ m ≤ D.length ∧ Hid (RFromG w D m (.slice A1 m c1) wr)) (fun out _ _ _ _ => D.length - sliceNU out)
  case atStart => exact ⟨0, _, _, rfl, Nat.zero_le _, H0⟩
  case round =>
    obtain ⟨m, A1, c1, rfl, hm, HG⟩ := hrel
    clear H0
    rename World => W0
    go_wp2_with fail
    go_loopw [8, 9, 10] (fun b i _ V => ∃ (bb : Int) (j : Nat), b = .int .i64 bb ∧ i = .int .i64 j ∧ j ≤ U.length ∧ Hid (BestU U fr (D.take m).getLast? j bb ∧ Fr (fun _ => False) W0 V)) (fun _ i _ _ => U.length - (RowKit.intOf i).toNat)
    case atStart => exact ⟨-1, 0, rfl, rfl, Nat.zero_le _, bestU_zero _ _ _, Fr.refl _ _⟩
    case round =>
      obtain ⟨bb, j, rfl, rfl, hj, HB⟩ := hrel
      have hbW : Below w.heap.size w wr := HG.out.1.trans (HB.out.2.below HG.out.1.size fun _ _ e => e.elim)
      have HBW := Lib.hid hbW
      have hcx := HC.out.1 wr hbW
      clear hbW
      by_cases hlt : j < U.length
      · have hA1 := HA.out (by omega)
        subst hA1
        obtain ⟨ej, hTj⟩ : ∃ p, U[j]? = some p := ⟨_, List.getElem?_eq_getElem hlt⟩
        obtain ⟨s1, s2⟩ := HC.out.2.1 wr HBW.out j ej hTj
        obtain ⟨k1, k2⟩ := HC.out.2.2.2.2 j ej hTj
        obtain ⟨nj, hnj⟩ : ∃ nj, ej.name = nj := ⟨_, rfl⟩
        rw [hnj] at s1 k1 k2
        have HJ := Lib.hid (And.intro hTj (And.intro k1 (And.intro k2 hnj)))
        have p0 : (j : Int) < (U.length : Int) := by omega
        have r0 : (0 : Int) ≤ (j : Int) := by omega
        clear hTj k1 k2 s2 hnj
        rcases Nat.eq_zero_or_pos m with hm0 | hm0
        · subst hm0
          have hc0 : ¬ ej.fold < fr → CandU fr (D.take 0).getLast? ej := fun h => ⟨h, fun y hy => by simp at hy⟩
          have HCD := Lib.hid hc0
          clear hc0
          have HM1 := Lib.hid (cmp_fr (x := ej.fold) (y := fr) HJ.out.2.2.1 HS.out HJ.out.2.1 HO.out)
          go_wp2_with fail
          refine (HM1.out _).mono ?_
          rintro e w5 ⟨⟨q1, rfl, hq6, hq7⟩, f5⟩
          have F5 := Lib.hid f5
          clear f5
          have cx5 := HC.out.1 _ (HBW.out.trans (F5.out.below HBW.out.size fun _ _ e => e.elim))
          by_cases hq8 : q1 < 0
          · have hnc : ¬ CandU fr (D.take 0).getLast? ej := fun e => e.1 (hq6.1 hq8)
            have HN := Lib.hid (bestU_skip HB.out.1 HJ.out.1 hnc)
            clear hnc hq6 hq7
            go_wp2_with fail
            go_roundw
            case rel => exact ⟨_, j + 1, rfl, by go_num, by omega, HN.out, (HB.out.2.trans F5.out)⟩
            case measure => simp [RowKit.intOf]; omega
          · have hfr : ¬ ej.fold < fr := fun e => hq8 (hq6.2 e)
            clear hq6 hq7
            have hc := HCD.out hfr
            rcases bestU_lt HB.out.1 with rfl | ⟨kb, rfl, hkb⟩
            · have HN := Lib.hid (bestU_first HB.out.1 HJ.out.1 hc)
              clear hc
              go_wp2_with fail
              go_roundw
              case rel => exact ⟨j, j + 1, rfl, by go_num, by omega, HN.out, (HB.out.2.trans F5.out)⟩
              case measure => simp [RowKit.intOf]; omega
            · obtain ⟨eq, hTk⟩ : ∃ p, U[kb]? = some p := ⟨_, List.getElem?_eq_getElem (by omega)⟩
              have s3 := (HC.out.2.1 _ (HBW.out.trans (F5.out.below HBW.out.size fun _ _ e => e.elim)) kb eq hTk).1
              obtain ⟨k3, k4⟩ := HC.out.2.2.2.2 kb eq hTk
              have p4 : (kb : Int) < (U.length : Int) := by omega
              have r4 : (0 : Int) ≤ (kb : Int) := by omega
              have q4 : ¬ ((kb : Int) < 0) := by omega
              have HT2 := Lib.hid (And.intro hTk hc)
              have HM := Lib.hid (cmp_fr (x := ej.fold) (y := eq.fold) HJ.out.2.2.1 k4 HJ.out.2.1 k3)
              clear hTk hc k3 k4
              go_wp2_with fail
              refine (HM.out _).mono ?_
              rintro e w6 ⟨⟨q, rfl, hq1, hq2⟩, f6⟩
              have F6 := Lib.hid (F5.out.trans f6)
              clear f6
              have cx6 := HC.out.1 _ (HBW.out.trans (F6.out.below HBW.out.size fun _ _ e => e.elim))
              by_cases hq : q < 0
              · have HN := Lib.hid (bestU_less HB.out.1 HJ.out.1 HT2.out.2 HT2.out.1 (hq1.1 hq))
                clear hq1 hq2
                go_wp2_with fail
                go_roundw
                case rel => exact ⟨j, j + 1, rfl, by go_num, by omega, HN.out, (HB.out.2.trans F6.out)⟩
                case measure => simp [RowKit.intOf]; omega
              · have HN := Lib.hid (bestU_keep HB.out.1 HJ.out.1 HT2.out.1 (fun e => hq (hq1.2 e)))
                clear hq1 hq2
                go_wp2_with fail
                go_roundw
                case rel => exact ⟨kb, j + 1, rfl, by go_num, by omega, HN.out, (HB.out.2.trans F6.out)⟩
                case measure => simp [RowKit.intOf]; omega
        · obtain ⟨mp, rfl⟩ : ∃ mp, m = mp + 1 := ⟨m - 1, by omega⟩
          have hln : (D.take (mp + 1)).length = mp + 1 := by rw [List.length_take]; omega
          obtain ⟨g1, o1, rfl, hg1, hcell1⟩ := reads_ownU (A := A1) (n := mp + 1) (c := c1) HG.out.2 (by omega)
          have u1 := (hcell1 mp (by omega)).1
          obtain ⟨el, hla⟩ : ∃ p, (D.take (mp + 1))[mp]'(by omega) = p := ⟨_, rfl⟩
          have hlast : (D.take (mp + 1)).getLast? = some el := by rw [List.getLast?_eq_getElem?, hln, Nat.add_sub_cancel, List.getElem?_eq_getElem (by omega), hla]
          rw [hla] at u1
          have hlD := HD.out.2 el (List.mem_of_mem_take (by rw [← hla]; exact List.getElem_mem _))
          obtain ⟨nl, hnl⟩ : ∃ nl, el.name = nl := ⟨_, rfl⟩
          rw [hnl] at u1 hlD
          have hlq : ∀ V, Fr (fun _ => False) wr V → V.cell? ⟨g1, o1 + mp * 2, none⟩ = some (.string nl) := fun V hf => ((HB.out.2.trans hf).cell (p := ⟨g1, o1 + mp * 2, none⟩) hg1 fun e => e).trans u1
          have HL := Lib.hid (And.intro hlq (And.intro hlD hlast))
          have p5 : (mp : Int) < (mp : Int) + 1 := by omega
          have r5 : (0 : Int) ≤ (mp : Int) := by omega
          have hwm : IntKind.i64.wrap (mp : Int) = (mp : Int) := IntWalk.i64_in _ ⟨by omega, by omega⟩
          clear hlq u1 hcell1 hg1 hla hlD hlast hnl hln
          have HM1 := Lib.hid (cmp_fr (x := ej.fold) (y := fr) HJ.out.2.2.1 HS.out HJ.out.2.1 HO.out)
          go_wp2_with fail
          refine (HM1.out _).mono ?_
          rintro e w5 ⟨⟨q1, rfl, hq6, hq7⟩, f5⟩
          have F5 := Lib.hid f5
          clear f5
          have cx5 := HC.out.1 _ (HBW.out.trans (F5.out.below HBW.out.size fun _ _ e => e.elim))
          have cl5 := HL.out.1 _ F5.out
          by_cases hq8 : q1 < 0
          · have hnc : ¬ CandU fr (D.take (mp + 1)).getLast? ej := fun e => e.1 (hq6.1 hq8)
            have HN := Lib.hid (bestU_skip HB.out.1 HJ.out.1 hnc)
            clear hnc hq6 hq7
            go_wp2_with fail
            go_roundw
            case rel => exact ⟨_, j + 1, rfl, by go_num, by omega, HN.out, (HB.out.2.trans F5.out)⟩
            case measure => simp [RowKit.intOf]; omega
          · have hfr : ¬ ej.fold < fr := fun e => hq8 (hq6.2 e)
            clear hq6 hq7
            have HM2 := Lib.hid (cmp_fr (x := ej.fold) (y := el.fold) HJ.out.2.2.1 HL.out.2.1.2 HJ.out.2.1 HL.out.2.1.1)
            go_wp2_with fail
            refine (HM2.out _).mono ?_
            rintro e w6 ⟨⟨q2, rfl, hq3, hq4⟩, f6⟩
            have F6 := Lib.hid (F5.out.trans f6)
            clear f6
            have cx6 := HC.out.1 _ (HBW.out.trans (F6.out.below HBW.out.size fun _ _ e => e.elim))
            have cl6 := HL.out.1 _ F6.out
            by_cases hq5 : q2 ≤ 0
            · have hnc : ¬ CandU fr (D.take (mp + 1)).getLast? ej := fun e => hq4.1 hq5 (e.2 _ HL.out.2.2)
              have HN := Lib.hid (bestU_skip HB.out.1 HJ.out.1 hnc)
              clear hnc hq3 hq4
              go_wp2_with fail
              go_roundw
              case rel => exact ⟨_, j + 1, rfl, by go_num, by omega, HN.out, (HB.out.2.trans F6.out)⟩
              case measure => simp [RowKit.intOf]; omega
            · have hll : el.fold < ej.fold := Decidable.byContradiction fun e => hq5 (hq4.2 e)
              have hc : CandU fr (D.take (mp + 1)).getLast? ej := ⟨hfr, fun y hy => by rw [HL.out.2.2] at hy; cases hy; exact hll⟩
              clear hll hq3 hq4
              rcases bestU_lt HB.out.1 with rfl | ⟨kb, rfl, hkb⟩
              · have HN := Lib.hid (bestU_first HB.out.1 HJ.out.1 hc)
                clear hc
                go_wp2_with fail
                go_roundw
                case rel => exact ⟨j, j + 1, rfl, by go_num, by omega, HN.out, (HB.out.2.trans F6.out)⟩
                case measure => simp [RowKit.intOf]; omega
              · obtain ⟨eq, hTk⟩ : ∃ p, U[kb]? = some p := ⟨_, List.getElem?_eq_getElem (by omega)⟩
                have s3 := (HC.out.2.1 _ (HBW.out.trans (F6.out.below HBW.out.size fun _ _ e => e.elim)) kb eq hTk).1
                obtain ⟨k3, k4⟩ := HC.out.2.2.2.2 kb eq hTk
                have p4 : (kb : Int) < (U.length : Int) := by omega
                have r4 : (0 : Int) ≤ (kb : Int) := by omega
                have q4 : ¬ ((kb : Int) < 0) := by omega
                have HT2 := Lib.hid (And.intro hTk hc)
                have HM := Lib.hid (cmp_fr (x := ej.fold) (y := eq.fold) HJ.out.2.2.1 k4 HJ.out.2.1 k3)
                clear hTk hc k3 k4
                go_wp2_with fail
                refine (HM.out _).mono ?_
                rintro e w7 ⟨⟨q, rfl, hq1, hq2⟩, f7⟩
                have F7 := Lib.hid (F6.out.trans f7)
                clear f7
                have cx7 := HC.out.1 _ (HBW.out.trans (F7.out.below HBW.out.size fun _ _ e => e.elim))
                have cl7 := HL.out.1 _ F7.out
                by_cases hq : q < 0
                · have HN := Lib.hid (bestU_less HB.out.1 HJ.out.1 HT2.out.2 HT2.out.1 (hq1.1 hq))
                  clear hq1 hq2
                  go_wp2_with fail
                  go_roundw
                  case rel => exact ⟨j, j + 1, rfl, by go_num, by omega, HN.out, (HB.out.2.trans F7.out)⟩
                  case measure => simp [RowKit.intOf]; omega
                · have HN := Lib.hid (bestU_keep HB.out.1 HJ.out.1 HT2.out.1 (fun e => hq (hq1.2 e)))
                  clear hq1 hq2
                  go_wp2_with fail
                  go_roundw
                  case rel => exact ⟨kb, j + 1, rfl, by go_num, by omega, HN.out, (HB.out.2.trans F7.out)⟩
                  case measure => simp [RowKit.intOf]; omega
      · obtain rfl : j = U.length := by omega
        have p1 : ¬ ((U.length : Int) < (U.length : Int)) := by omega
        have ho : OwnU w.heap.size wr (.slice A1 m c1) (D.take m) := ownU_kept HG.out.2 fun k hk => HB.out.2.block k (HG.out.2.lt k hk).2 fun e => e
        have hDD := HD.out.1
        rcases bestU_lt HB.out.1 with rfl | ⟨kb, rfl, hkb⟩
        · have hm2 : m = D.length := by
            have := bestU_none HC.out.2.2.1 (fr := fr) (m := m) (by rw [hDD]; exact hm) (by rw [hDD]; exact HB.out.1)
            rwa [hDD] at this
          subst hm2
          rw [List.take_length] at ho
          have HZ : Hid (FromU (rowU fr U) w (.returned (.slice A1 D.length c1)) wr) := ⟨⟨A1, c1, by rw [hDD], by rw [hDD]; exact ho⟩, HBW.out⟩
          clear ho hDD
          go_wp2_with fail
          go_ret
          exact HZ.out
        · have hA1 := HA.out (by omega)
          subst hA1
          obtain ⟨eq, hTk⟩ : ∃ p, U[kb]? = some p := ⟨_, List.getElem?_eq_getElem (by omega)⟩
          obtain ⟨u1, u2⟩ := HC.out.2.1 wr HBW.out kb eq hTk
          have hnx := bestU_next HC.out.2.2.1 (fr := fr) (m := m) hTk (by rw [hDD]; exact HB.out.1)
          rw [hDD] at hnx
          have p4 : (kb : Int) < (U.length : Int) := by omega
          have r4 : (0 : Int) ≤ (kb : Int) := by omega
          have q4 : ¬ ((kb : Int) < 0) := by omega
          have hln : (D.take m).length = m := by rw [List.length_take]; omega
          have hown : wr.ownsRow w.heap.size 45 2 (.slice A1 m c1) m ((D.take m).flatMap encU) := by
            have := ho
            unfold OwnU at this
            rwa [hln] at this
          have HO2 := Lib.hid (And.intro hown (And.intro hnx hln))
          clear hown hnx hln hTk hDD ho
          go_wp2_with (at_builtin; refine Hid.out ?_)
          refine Lib.hid ?_
          refine wpList_one_t rfl _ _ 30 rfl w.heap.size 45 i0 _ 2 24 Try.underlying30 hi0 hz0 hz1 hz2 rfl (by decide) _ m ((D.take m).flatMap encU) rfl HO2.out.1 #[.string eq.name, .int .i64 eq.thing] wr.heap.size rfl rfl rfl (by intro u hu; simp at hu; rcases hu with rfl | rfl <;> rfl) (by omega) (by decide) HBW.out.size ?_
          intro v4 W4 o4 f4 t4
          obtain ⟨A4, c4, ev4⟩ := row_slice o4
          subst ev4
          obtain ⟨hown, hnx, hln⟩ := HO2.out
          have HNew : Hid (RFromG w D (m + 1) (.slice A4 (m + 1) c4) W4) := ⟨HBW.out.trans (f4.below HBW.out.size fun k hk e => (hown.lt k e).1), by
            rw [hnx.2]
            exact ownU_of o4 (by rw [List.length_append, hln]; rfl) (by rw [List.flatMap_append]; simp [encU])⟩
          have hm3 : m + 1 ≤ D.length := hnx.1
          clear o4 f4 t4 hown hnx hln u1 u2
          go_wp2_with fail
          go_roundw
          case rel => exact ⟨m + 1, A4, c4, rfl, hm3, HNew⟩
          case measure => simp [sliceNU]; omega
end Go.Proofs.Ytfdaeajafmcjcaa
