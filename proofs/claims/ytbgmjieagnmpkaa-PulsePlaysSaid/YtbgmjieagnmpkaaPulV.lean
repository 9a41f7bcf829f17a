/- Layer 16: what is due, by the document: Due. -/
import Derived.Test.YtbgmjieagnmpkaaPulU
import Derived.Deep.CutRange
import Derived.Deep.CutBlock
namespace Go.Proofs.Ytbgmjieagnmpkaa
set_option linter.unusedVariables false
set_option linter.unusedSimpArgs false
open Go Go.RowKit Go.Maps Go.Sort Go.Shelf Go.Lib

/-- the document's pulse, within Due -/
structure InR (w : World) (base x : Nat) (A : Option Addr) (cc : Nat) (pg gr rg now : Int) (C : List Cn) (j : Nat) (v : Value) (R : List (Int × Int)) (V : World) : Prop where
  hx : V.heap[x]? = some (.cells #[.int .i64 pg, .int .i64 gr, .int .i64 rg, .slice A C.length cc] 65 (0, 0))
  ok : V.ownsRow base 75 4 (.slice A C.length cc) C.length ((mixC pg gr rg now C j).flatMap encK)
  oR : OwnW w.heap.size V v R
  fr : Fr (DocX w x) w V
theorem InR.go {w : World} {base x : Nat} {A : Option Addr} {cc : Nat} {pg gr rg now : Int} {C : List Cn} {j : Nat} {v : Value} {R : List (Int × Int)} {V V' : World} (h : InR w base x A cc pg gr rg now C j v R V) (hf : Fr (fun _ => False) V V') : InR w base x A cc pg gr rg now C j v R V' :=
  ⟨hf.blk h.hx fun e => e, row_same h.ok fun g hg => hf.block g (h.ok.lt g hg).2 fun e => e, ownW_kept h.oR fun g hg => hf.block g (h.oR.lt g hg).2 fun e => e, h.fr.trans3 hf fun _ _ e => e.elim⟩
/-- what Due hands back -/
def DueC (base x : Nat) (pg gr rg now : Int) (C : List Cn) (w : World) (e : Ending) (w' : World) : Prop := (∃ A R c, e = .returned (.slice A R.length c) ∧ OwnW w.heap.size w' (.slice A R.length c) R ∧ IsDue pg gr rg now C R ∧ R.length ≤ C.length) ∧ RefC base w' x pg gr rg (dueC pg gr rg now C) ∧ Fr (DocX w x) w w'
theorem encK_ask (C : List Cn) (i : Nat) {id at_ : Int} {inn ask : Bool} (hi : i < C.length) (hc : C[i] = ⟨id, at_, inn, ask⟩) : (C.flatMap encK).set (i * 4 + 3) (.bool true) = (C.set i ⟨id, at_, inn, true⟩).flatMap encK := by
  have hl : (C.flatMap encK).length = C.length * 4 := encK_len C
  rw [← encK_set C i ⟨id, at_, inn, true⟩ hi]
  have key : ∀ m (hm : m < 4) (u : Value), (encK C[i])[m]? = some u → (C.flatMap encK).set (i * 4 + m) u = C.flatMap encK := fun m hm u hu => by
    apply List.ext_getElem?
    intro t
    rw [List.getElem?_set]
    by_cases e : i * 4 + m = t
    · rw [if_pos e, if_pos (by omega), ← e, encK_get C _ (by omega), show (i * 4 + m) / 4 = i by omega, show (i * 4 + m) % 4 = m by omega]
      simp only [List.getD, List.getElem?_eq_getElem hi, Option.getD_some]
      exact hu.symm
    · rw [if_neg e]
  have k0 := key 0 (by decide) (.int .i64 id) (by rw [hc]; rfl)
  have k1 := key 1 (by decide) (.int .i64 at_) (by rw [hc]; rfl)
  have k2 := key 2 (by decide) (.bool inn) (by rw [hc]; rfl)
  rw [Nat.add_zero] at k0
  dsimp only
  rw [k0, k1, k2]
def v1B (b1 : Bool) : Int := if b1 = true then 1 else 0
def v2B (b1 b2 : Bool) : Int := if b2 = true then 2 else v1B b1
def v3B (b1 b2 b3 : Bool) : Int := if b3 = true then 3 else v2B b1 b2
theorem what_steps (pg gr rg now : Int) (c : Cn) : whatC pg gr rg now c = v3B (decide (c.inn = false ∧ rg ≤ now - c.at_)) (decide (c.inn = true ∧ pg ≤ now - c.at_ ∧ c.ask = false)) (decide (c.inn = true ∧ pg + gr ≤ now - c.at_)) := by
  unfold whatC v3B v2B v1B
  cases c.inn <;> cases c.ask <;> simp
set_option maxRecDepth 100000 in
set_option maxHeartbeats 16000000 in
theorem refc_due {base : Nat} {w : World} {x : Nat} {pg gr rg : Int} {C : List Cn} (h : RefC base w x pg gr rg C) (hb : base ≤ w.heap.size) (hnd : (C.map (·.id)).Nodup) (hl : C.length ≤ 1000) {now : Int} (hn : 0 ≤ now ∧ now ≤ 100000000000) (hat : ∀ c ∈ C, 0 ≤ c.at_ ∧ c.at_ ≤ 100000000000) (hpb : 1 ≤ pg ∧ pg ≤ 1000000 ∧ 1 ≤ gr ∧ gr ≤ 1000000 ∧ 1 ≤ rg ∧ rg ≤ 1000000) :
    Calls Try.prog 37 #[.pointer (some ⟨x, 0, none⟩), .int .i64 now] w (DueC base x pg gr rg now C w) := by
  obtain ⟨i0, hi0, hz0, hz1, hz2⟩ := info_parts Try.infoW
  have mixed : (Try.prog).follows Departure.mixedOrders = true := by kernel_rfl
  obtain ⟨h0, A, cc, h2, h3, h4⟩ := h
  have hA0 : 0 < C.length → ∃ g, A = some ⟨g, 0, none⟩ ∧ base ≤ g ∧ g < w.heap.size := fun hC => by
    rcases h3.2 with ⟨e, e2⟩ | ⟨g', cap, cur, e, q1, q2, _⟩
    · omega
    · injection e with e1
      exact ⟨g', e1, q1, blk_lt q2⟩
  have HX2 := Lib.hid h2
  have HC := Lib.hid (And.intro hA0 (And.intro hnd (And.intro hat (And.intro h0 (And.intro h4 (blk_lt h2))))))
  have H0 : Hid (∃ R : List (Int × Int), 0 = R.length ∧ InR w base x A cc pg gr rg now C 0 (.slice none 0 0) R w ∧ IsDue pg gr rg now (C.take 0) R) := ⟨[], rfl, ⟨h2, by rw [mixC_zero]; exact h3, ownW_nil _ _, Fr.refl _ _⟩, ⟨by simp, fun i k => by simp⟩⟩
  clear hA0 hnd hat h0 h2 h3 h4
  go_enter Try.func37, Try.ntmps37
  go_wp2_with fail
  go_loopw [5, 6] (fun out i wr => ∃ (j : Nat) (A1 : Option Addr) (n c1 : Nat), out = .slice A1 n c1 ∧ i = .int .i64 j ∧ j ≤ C.length ∧ n ≤ j ∧ Hid (∃ R, n = R.length ∧ InR w base x A cc pg gr rg now C j (.slice A1 n c1) R wr ∧ IsDue pg gr rg now (C.take j) R)) (fun _ i _ => C.length - (RowKit.intOf i).toNat)
  case atStart => exact ⟨0, _, _, _, rfl, rfl, Nat.zero_le _, Nat.le_refl _, H0⟩
  case round =>
    obtain ⟨j, A1, n, c1, rfl, rfl, hj, hnj, HG⟩ := hrel
    clear H0
    obtain ⟨R, rfl, hI, hD⟩ := HG.out
    by_cases hlt : j < C.length
    · obtain ⟨hA0, hnd, hat, h0, h4, hxl⟩ := HC.out
      obtain ⟨g, rfl, hbg, hgl⟩ := hA0 (by omega)
      have hml : (mixC pg gr rg now C j).length = C.length := mixC_len j (by omega)
      have hok : OwnK base wr (.slice (some ⟨g, 0, none⟩) C.length cc) (mixC pg gr rg now C j) := by unfold OwnK; rw [hml]; exact hI.ok
      obtain ⟨g2, o2, hA2, _, hcell⟩ := reads_ownK hok (by omega)
      injection hA2 with hA2
      injection hA2 with e1 e2 _
      subst e1
      subst e2
      obtain ⟨e0, e1, e2, e3⟩ := hcell j (by omega)
      rw [mixC_at j hlt, Nat.zero_add] at e0 e1 e2 e3
      obtain ⟨⟨id, at_, inn, ask⟩, hc⟩ : ∃ c, C[j] = c := ⟨_, rfl⟩
      rw [hc] at e0 e1 e2 e3
      dsimp only at e0 e1 e2 e3
      have hba := hat C[j] (List.getElem_mem hlt)
      rw [hc] at hba
      dsimp only at hba
      have d0 : wr.cell? ⟨x, 3, none⟩ = some (.slice (some ⟨g, 0, none⟩) C.length cc) := blk_cell hI.hx 3
      have p0 : (j : Int) < (C.length : Int) := by omega
      have r0 : (0 : Int) ≤ (j : Int) := by omega
      obtain ⟨d, hd⟩ : ∃ d, now - at_ = d := ⟨_, rfl⟩
      have hwd : IntKind.i64.wrap (now - at_) = d := by rw [hd]; exact IntWalk.i64_in _ ⟨by omega, by omega⟩
      have hwg : IntKind.i64.wrap (pg + gr) = pg + gr := IntWalk.i64_in _ ⟨by omega, by omega⟩
      obtain ⟨N, hN⟩ : ∃ N, wr.heap.size = N := ⟨_, rfl⟩
      obtain ⟨W1, hW1⟩ : ∃ W1, wr.alloc (Obj.cells #[.int .i64 id, .int .i64 at_, .bool inn, .bool ask] 75) = W1 := ⟨_, rfl⟩
      have f1 : Fr (fun _ => False) wr W1 := by rw [← hW1]; exact (Fr.refl _ wr).alloc _
      have k1 : W1.heap[N]? = some (.cells #[.int .i64 id, .int .i64 at_, .bool inn, .bool ask] 75 (0, 0)) := by rw [← hW1, ← hN]; exact heap_alloc_new wr _
      have hI1 := hI.go f1
      have hsz := hI.fr.size
      have H1 := Lib.hid (And.intro k1 (And.intro hI1 (And.intro hD (And.intro hc (And.intro hd (And.intro hN hsz))))))
      have hrd : ∀ V, Fr (fun _ => False) W1 V → V.cell? ⟨x, 0, none⟩ = some (.int .i64 pg) ∧ V.cell? ⟨x, 1, none⟩ = some (.int .i64 gr) ∧ V.cell? ⟨x, 2, none⟩ = some (.int .i64 rg) ∧ V.cell? ⟨N, 1, none⟩ = some (.int .i64 at_) ∧ V.cell? ⟨N, 2, none⟩ = some (.bool inn) ∧ V.cell? ⟨N, 3, none⟩ = some (.bool ask) := fun V hV =>
        ⟨blk_cell (hV.blk hI1.hx fun e => e) 0, blk_cell (hV.blk hI1.hx fun e => e) 1, blk_cell (hV.blk hI1.hx fun e => e) 2, blk_cell (hV.blk k1 fun e => e) 1, blk_cell (hV.blk k1 fun e => e) 2, blk_cell (hV.blk k1 fun e => e) 3⟩
      have HRD := Lib.hid hrd
      clear hI hD hA0 hnd hat h0 h4 hxl hok hcell hml hc hd f1 k1 hI1 hsz hrd HG hba
      obtain ⟨b1, hb1⟩ : ∃ b1, decide (inn = false ∧ rg ≤ d) = b1 := ⟨_, rfl⟩
      obtain ⟨b2, hb2⟩ : ∃ b2, decide (inn = true ∧ pg ≤ d ∧ ask = false) = b2 := ⟨_, rfl⟩
      obtain ⟨b3, hb3⟩ : ∃ b3, decide (inn = true ∧ pg + gr ≤ d) = b3 := ⟨_, rfl⟩
      have HB := Lib.hid (And.intro hb1 (And.intro hb2 hb3))
      clear hb1 hb2 hb3
      go_upto_region 7 with fail
      obtain ⟨q1, q2, q3, q4, q5, q6⟩ := HRD.out W1 (Fr.refl _ _)
      clear hW1 hN
      go_cut [40] from 11 to 121 (fun s wx => s = .bool b1 ∧ Hid (Fr (fun _ => False) W1 wx))
      case first =>
        cases inn with
        | true =>
          have hv : b1 = false := by rw [← HB.out.1]; simp
          subst hv
          go_wp2_with fail
          go_quiet (fail)
          go_wp2_with fail
          go_meet
          case rel => exact ⟨rfl, (Fr.refl _ _).drewN _⟩
        | false =>
          by_cases hr : rg ≤ d
          · have hrb : decide (rg ≤ d) = true := by simp [hr]
            have hv : b1 = true := by rw [← HB.out.1]; simp [hr]
            subst hv
            go_wp2_with fail
            go_quiet (fail)
            go_wp2_with fail
            go_meet
            case rel => exact ⟨rfl, (Fr.refl _ _).drewN _⟩
          · have hrb : decide (rg ≤ d) = false := by simp; omega
            have hv : b1 = false := by rw [← HB.out.1]; simp [hr]
            subst hv
            go_wp2_with fail
            go_quiet (fail)
            go_wp2_with fail
            go_meet
            case rel => exact ⟨rfl, (Fr.refl _ _).drewN _⟩
      case rest =>
      obtain ⟨rfl, HF⟩ := hcut
      clear q1 q2 q3 q4 q5 q6
      go_upto_if 40 with fail
      go_cut [8] from 11 to 121 (fun s wx => s = .int .i64 (v1B b1) ∧ Hid (Fr (fun _ => False) W1 wx))
      case first =>
        cases b1 with
        | true =>
          go_wp2_with fail
          go_meet
          case rel => exact ⟨rfl, HF.out⟩
        | false =>
          go_wp2_with fail
          go_meet
          case rel => exact ⟨rfl, HF.out⟩
      case rest =>
      obtain ⟨rfl, HF2⟩ := hcut
      clear HF
      have HF := HF2
      go_upto_region 9 with fail
      obtain ⟨q1, q2, q3, q4, q5, q6⟩ := HRD.out wc HF.out
      go_cut [58] from 11 to 121 (fun s wx => s = .bool b2 ∧ Hid (Fr (fun _ => False) W1 wx))
      case first =>
        cases inn with
        | false =>
          have hv : b2 = false := by rw [← HB.out.2.1]; simp
          subst hv
          go_wp2_with fail
          go_quiet (fail)
          go_wp2_with fail
          go_meet
          case rel => exact ⟨rfl, (HF.out).drewN _⟩
        | true =>
          by_cases hr : pg ≤ d
          · have hrb : decide (pg ≤ d) = true := by simp [hr]
            cases ask with
            | false =>
              have hv : b2 = true := by rw [← HB.out.2.1]; simp [hr]
              subst hv
              go_wp2_with fail
              go_quiet (fail)
              go_wp2_with fail
              go_meet
              case rel => exact ⟨rfl, (HF.out).drewN _⟩
            | true =>
              have hv : b2 = false := by rw [← HB.out.2.1]; simp
              subst hv
              go_wp2_with fail
              go_quiet (fail)
              go_wp2_with fail
              go_meet
              case rel => exact ⟨rfl, (HF.out).drewN _⟩
          · have hrb : decide (pg ≤ d) = false := by simp; omega
            have hv : b2 = false := by rw [← HB.out.2.1]; simp [hr]
            subst hv
            go_wp2_with fail
            go_quiet (fail)
            go_wp2_with fail
            go_meet
            case rel => exact ⟨rfl, (HF.out).drewN _⟩
      case rest =>
      obtain ⟨rfl, HF2⟩ := hcut
      clear q1 q2 q3 q4 q5 q6 HF
      have HF := HF2
      clear HF2
      go_upto_if 58 with fail
      go_cut [8] from 11 to 121 (fun s wx => s = .int .i64 (v2B b1 b2) ∧ Hid (Fr (fun _ => False) W1 wx))
      case first =>
        cases b2 with
        | true =>
          go_wp2_with fail
          go_meet
          case rel => exact ⟨rfl, HF.out⟩
        | false =>
          go_wp2_with fail
          go_meet
          case rel => exact ⟨rfl, HF.out⟩
      case rest =>
      obtain ⟨rfl, HF2⟩ := hcut
      clear HF
      have HF := HF2
      go_upto_region 11 with fail
      obtain ⟨q1, q2, q3, q4, q5, q6⟩ := HRD.out wc HF.out
      go_cut [76] from 11 to 121 (fun s wx => s = .bool b3 ∧ Hid (Fr (fun _ => False) W1 wx))
      case first =>
        cases inn with
        | false =>
          have hv : b3 = false := by rw [← HB.out.2.2]; simp
          subst hv
          go_wp2_with fail
          go_quiet (fail)
          go_wp2_with fail
          go_meet
          case rel => exact ⟨rfl, (HF.out).drewN _⟩
        | true =>
          by_cases hr : pg + gr ≤ d
          · have hrb : decide (pg + gr ≤ d) = true := by simp [hr]
            have hv : b3 = true := by rw [← HB.out.2.2]; simp [hr]
            subst hv
            go_wp2_with fail
            go_quiet (fail)
            go_wp2_with fail
            go_meet
            case rel => exact ⟨rfl, (HF.out).drewN _⟩
          · have hrb : decide (pg + gr ≤ d) = false := by simp; omega
            have hv : b3 = false := by rw [← HB.out.2.2]; simp [hr]
            subst hv
            go_wp2_with fail
            go_quiet (fail)
            go_wp2_with fail
            go_meet
            case rel => exact ⟨rfl, (HF.out).drewN _⟩
      case rest =>
      obtain ⟨rfl, HF2⟩ := hcut
      clear q1 q2 q3 q4 q5 q6 HF
      have HF := HF2
      clear HF2
      go_upto_if 76 with fail
      go_cut [8] from 11 to 121 (fun s wx => s = .int .i64 (v3B b1 b2 b3) ∧ Hid (Fr (fun _ => False) W1 wx))
      case first =>
        cases b3 with
        | true =>
          go_wp2_with fail
          go_meet
          case rel => exact ⟨rfl, HF.out⟩
        | false =>
          go_wp2_with fail
          go_meet
          case rel => exact ⟨rfl, HF.out⟩
      case rest =>
      obtain ⟨rfl, HF2⟩ := hcut
      clear HF
      have HF := HF2
      obtain ⟨k1, hI1, hD, hc, hd, hN2, hsz⟩ := H1.out
      obtain ⟨hA0, hnd, hat, h0, h4, hxl⟩ := HC.out
      obtain ⟨k, hk⟩ : ∃ k, v3B b1 b2 b3 = k := ⟨_, rfl⟩
      have hkw : whatC pg gr rg now C[j] = k := by
        rw [what_steps, hc]
        dsimp only
        rw [hd, HB.out.1, HB.out.2.1, HB.out.2.2, hk]
      rw [hk]
      have hIc := hI1.go HF.out
      have kN := HF.out.blk k1 fun e => e
      have HM := Lib.hid (And.intro hkw (And.intro hIc (And.intro kN (And.intro hD (And.intro hc (And.intro hnd (And.intro h0 (And.intro hxl (And.intro hN2 hsz)))))))))
      clear k1 hI1 hD hc hd hA0 hnd hat h0 h4 hxl hk hkw hIc kN HF H1 HRD HB hN2 hsz
      by_cases hk0 : k = 0
      · subst hk0
        go_wp2_with fail
        go_roundw
        case rel =>
          obtain ⟨hkw, hIc, kN, hD, hc, hnd, h0, hxl, hN2, hsz⟩ := HM.out
          refine ⟨j + 1, _, _, _, rfl, by go_num, by omega, by omega, R, rfl, ⟨hIc.hx, ?_, hIc.oR, hIc.fr⟩, due_none hD hlt hkw⟩
          rw [mixC_same j hlt (by rw [hkw]; decide)]
          exact hIc.ok
        case measure => simp [RowKit.intOf]; omega
      · have hkb : (k == 0) = false := by simpa using hk0
        have hkd : decide (k = 0) = false := by simpa using hk0
        go_upto_if 80 with fail
        go_cut [8] from 11 to 121 (fun s8 wx => s8 = .int .i64 k ∧ Hid (InR w base x (some ⟨g, 0, none⟩) cc pg gr rg now C (j + 1) (.slice A1 R.length c1) R wx ∧ wx.heap[N]? = some (.cells #[.int .i64 id, .int .i64 at_, .bool inn, .bool ask] 75 (0, 0)) ∧ wc.heap.size ≤ wx.heap.size))
        case first =>
          obtain ⟨hkw, hIc, kN, hD, hc, hnd, h0, hxl, hN2, hsz⟩ := HM.out
          by_cases hk2 : k = 2
          · have hml : (mixC pg gr rg now C j).length = C.length := mixC_len j (by omega)
            have hok : OwnK base wc (.slice (some ⟨g, 0, none⟩) C.length cc) (mixC pg gr rg now C j) := by unfold OwnK; rw [hml]; exact hIc.ok
            obtain ⟨g2, o2, hA2, _, hcell⟩ := reads_ownK hok (by omega)
            injection hA2 with hA2
            injection hA2 with e1 e2 _
            subst e1
            subst e2
            have e3 := (hcell j (by omega)).2.2.2
            rw [mixC_at j hlt, Nat.zero_add, hc] at e3
            dsimp only at e3
            obtain ⟨cs, h5, _⟩ := cells_row (by rw [hml]; exact hok : OwnK base wc (.slice (some ⟨g, 0, none⟩) (mixC pg gr rg now C j).length cc) (mixC pg gr rg now C j)) (by omega)
            have fz := blk_free h5 (j * 4 + 3)
            have d0 : wc.cell? ⟨x, 3, none⟩ = some (.slice (some ⟨g, 0, none⟩) C.length cc) := blk_cell hIc.hx 3
            have hgx : x ≠ g := fun e => by
              have e1 := hIc.hx
              rw [e, h5] at e1
              injection e1 with e1
              injection e1 with _ e1 _
              exact absurd e1 (by decide)
            have hgN : N ≠ g := fun e => by omega
            have hmix : mixC pg gr rg now C (j + 1) = (mixC pg gr rg now C j).set j ⟨id, at_, inn, true⟩ := by
              rw [mixC_succ j hlt]
              congr 1
              unfold askC
              rw [if_pos (by rw [hkw]; exact hk2), hc]
            have hset := row_set hIc.ok (j * 4 + 3) (.bool true)
            have hfl : ((mixC pg gr rg now C j).flatMap encK).set (j * 4 + 3) (.bool true) = (mixC pg gr rg now C (j + 1)).flatMap encK := by
              rw [hmix]
              exact encK_ask _ j (by rw [hml]; exact hlt) (by rw [mixC_at j hlt, hc])
            rw [hfl] at hset
            have HS := Lib.hid (And.intro hset (And.intro hgx hgN))
            have hk2b : (k == 2) = true := by simpa using hk2
            clear hkw hIc kN hD hc hnd h0 hxl hN2 hsz hml hok hcell h5 hgx hgN hmix hset hfl
            go_wp2_with fail
            go_meet
            case rel =>
              obtain ⟨hkw, hIc, kN, hD, hc, hnd, h0, hxl, hN2, hsz⟩ := HM.out
              obtain ⟨hset, hgx, hgN⟩ := HS.out
              have hf : Fr (fun q => q = g) wc (wc.setCell ⟨g, j * 4 + 3, none⟩ (.bool true)) := Fr.setCell (X := fun q => q = g) (Fr.refl _ wc) ⟨g, j * 4 + 3, none⟩ rfl _
              refine ⟨by rw [hk2], ⟨hf.blk hIc.hx hgx, hset, ownW_kept hIc.oR fun q hq => hf.block q (hIc.oR.lt q hq).2 (fun e => by have := (hIc.oR.lt q hq).1; omega), hIc.fr.trans3 hf fun q _ e => .inr ⟨_, _, _, blk_cell HX2.out 3, by rw [e]; rfl⟩⟩, hf.blk kN hgN, hf.size⟩
          · have hk2b : (k == 2) = false := by simpa using hk2
            have hk2d : decide (k = 2) = false := by simpa using hk2
            clear hkw hIc kN hD hc hnd h0 hxl hN2 hsz
            go_wp2_with fail
            go_meet
            case rel =>
              obtain ⟨hkw, hIc, kN, hD, hc, hnd, h0, hxl, hN2, hsz⟩ := HM.out
              refine ⟨rfl, ⟨hIc.hx, ?_, hIc.oR, hIc.fr⟩, kN, Nat.le_refl _⟩
              rw [mixC_same j hlt (by rw [hkw]; exact hk2)]
              exact hIc.ok
        case rest =>
        obtain ⟨rfl, HI2⟩ := hcut
        obtain ⟨W2, hW2⟩ : ∃ W2, wc = W2 := ⟨_, rfl⟩
        rw [hW2] at HI2 ⊢
        clear hW2 wc
        go_upto_block 2 with fail
        go_cut [9] from 11 to 121 (fun s wx => ∃ a : Nat, s = .int .i64 a ∧ a ≤ R.length ∧ Hid (Fr (fun _ => False) W2 wx ∧ (∀ q (hq : q < R.length), a ≤ q → id < R[q].1) ∧ (∀ (h : 0 < a) (h2 : a - 1 < R.length), R[a - 1].1 ≤ id)))
        case first =>
          have G0 : Hid (Fr (fun _ => False) W2 W2 ∧ ∀ q (hq : q < R.length), R.length ≤ q → id < R[q].1) := ⟨Fr.refl _ _, fun q hq h => by omega⟩
          go_wp2_with fail
          go_loopw [9] (fun s wx => ∃ a : Nat, s = .int .i64 a ∧ a ≤ R.length ∧ Hid (Fr (fun _ => False) W2 wx ∧ ∀ q (hq : q < R.length), a ≤ q → id < R[q].1)) (fun s _ => (RowKit.intOf s).toNat)
          case atStart => exact ⟨_, rfl, Nat.le_refl _, G0⟩
          case round =>
            obtain ⟨a, rfl, ha, HQ⟩ := hrel
            clear G0
            obtain ⟨hI2, kN2, hz2'⟩ := HI2.out
            cases a with
            | zero =>
              clear hI2 kN2 hz2'
              go_wp2_with fail
              go_quiet (fail)
              go_wp2_with fail
              go_meet
              case rel => exact ⟨0, rfl, Nat.zero_le _, HQ.out.1.drewN _, HQ.out.2, fun h => by omega⟩
            | succ q =>
              have hcast : ((q + 1 : Nat) : Int) = (q : Int) + 1 := by omega
              rw [hcast]
              obtain ⟨g2, o2, hA2, hg2, hcell⟩ := readsW hI2.oR (by omega)
              subst hA2
              obtain ⟨⟨y, ky⟩, hy⟩ : ∃ p, R[q]'(by omega) = p := ⟨_, rfl⟩
              have e0 : wr.cell? ⟨g2, o2 + q * 2, none⟩ = some (.int .i64 y) := by
                rw [HQ.out.1.cell (p := ⟨g2, o2 + q * 2, none⟩) hg2 (fun e => e), (hcell q (by omega)).1, hy]
              have e1 : wr.cell? ⟨N, 0, none⟩ = some (.int .i64 id) := blk_cell (HQ.out.1.blk kN2 fun e => e) 0
              have hw9 : IntKind.i64.wrap ((q : Int) + 1 - 1) = (q : Int) := by rw [show (q : Int) + 1 - 1 = (q : Int) by omega]; exact IntWalk.i64_in _ ⟨by omega, by omega⟩
              have r1 : (0 : Int) < (q : Int) + 1 := by omega
              have r2 : (0 : Int) ≤ (q : Int) := by omega
              have r3 : (q : Int) < (R.length : Int) := by omega
              have r4 : decide ((0 : Int) < (q : Int) + 1) = true := by simp <;> omega
              have HY := Lib.hid hy
              clear hI2 kN2 hz2' hcell hy hg2
              by_cases hgt : id < y
              · have r5 : decide (id < y) = true := by simpa using hgt
                go_wp2_with fail
                go_quiet (fail)
                go_wp2_with fail
                go_roundw
                case rel =>
                  refine ⟨q, rfl, by omega, HQ.out.1.drewN _, fun t ht h => ?_⟩
                  by_cases e : t = q
                  · subst e; rw [HY.out]; exact hgt
                  · exact HQ.out.2 t ht (by omega)
                case measure => simp [RowKit.intOf] <;> omega
              · have r5 : decide (id < y) = false := by simpa using hgt
                go_wp2_with fail
                go_quiet (fail)
                go_wp2_with fail
                go_meet
                case rel =>
                  refine ⟨q + 1, by simp, ha, HQ.out.1.drewN _, HQ.out.2, fun _ h2 => ?_⟩
                  have : R[q + 1 - 1]'h2 = R[q]'(by omega) := by congr 1
                  rw [this, HY.out]
                  dsimp only
                  omega
        case rest =>
        obtain ⟨a, rfl, ha, HA3⟩ := hcut
        obtain ⟨W3, hW3⟩ : ∃ W3, wc = W3 := ⟨_, rfl⟩
        rw [hW3] at HA3 ⊢
        clear hW3 wc
        obtain ⟨hkw, hIc, kN, hD, hc, hnd, h0, hxl, hN2, hsz⟩ := HM.out
        obtain ⟨hI2, kN2, hz2'⟩ := HI2.out
        obtain ⟨hf3, hup, hlo⟩ := HA3.out
        have hI3 := hI2.go hf3
        have kN3 := hf3.blk kN2 fun e => e
        obtain ⟨B1, e1, B2, e2, hs1, hs2, hsrc⟩ := slice_rows hI3.oR ha
        have hsw := hI3.fr.size
        have hRb : ∀ q, (Value.slice A1 R.length c1).ownBlock = some q → w.heap.size ≤ q ∧ q < W3.heap.size := fun q hq => hI3.oR.lt q hq
        have hlenR : R.length ≤ 1000 := by omega
        have H3 := Lib.hid (And.intro hI3 (And.intro kN3 (And.intro hsrc (And.intro hRb (And.intro hup hlo)))))
        obtain ⟨m, hm⟩ : ∃ m, R.length - a = m := ⟨_, rfl⟩
        rw [hm] at hs2
        have hma : a + m = R.length := by omega
        have Hm := Lib.hid hm
        clear hkw hIc kN hD hc hnd h0 hxl hN2 hI2 kN2 hz2' hf3 hup hlo hI3 kN3 hsrc hRb hm
        go_wp2_with (at_builtin; refine Hid.out ?_)
        refine Lib.hid ?_
        refine wpList_app_u rfl _ _ 70 70 rfl w.heap.size 83 i0 _ 2 16 Try.underlying70 hi0 hz0 hz1 hz2 rfl _ 0 [] rfl (World.ownsRow_nil _ _ _ _) (.slice B1 a e1) a ((R.take a).flatMap encD) rfl (H3.out.2.2.1 W3 fun _ _ => rfl).1 (by omega) (by decide) (by omega) ?_
        intro v4 W4 o4 f4 t4
        obtain ⟨A4, c4, ev4⟩ := row_slice o4
        subst ev4
        rw [Nat.zero_add, List.nil_append] at o4
        rw [Nat.zero_add] at t4 ⊢
        have f4' : Fr (fun _ => False) W3 W4 := f4.mono fun q _ e => by cases e
        have t4' : ∀ q, (Value.slice A4 a c4).ownBlock = some q → W3.heap.size ≤ q := fun q hq => by
          rcases t4 q hq with e | e
          · cases e
          · exact e
        have kN4 := f4'.blk H3.out.2.1 fun e => e
        have cN4 := blk_cell kN4 0
        have hz34 := f4'.size
        have H4 := Lib.hid (And.intro o4 (And.intro f4' (And.intro t4' kN4)))
        clear o4 f4 t4 f4' t4' kN4
        go_wp2_with (at_builtin; refine Hid.out ?_)
        refine Lib.hid ?_
        refine wpList_one_t rfl _ _ 70 rfl w.heap.size 83 i0 _ 2 16 Try.underlying70 hi0 hz0 hz1 hz2 rfl (by decide) _ a ((R.take a).flatMap encD) rfl H4.out.1 #[.int .i64 id, .int .i64 k] W4.heap.size rfl rfl rfl (by intro u hu; simp at hu; rcases hu with rfl | rfl <;> rfl) (by omega) (by decide) (by omega) ?_
        intro v5 W5 o5 f5 t5
        obtain ⟨A5, c5, ev5⟩ := row_slice o5
        subst ev5
        obtain ⟨o4, f4, t4, kN4⟩ := H4.out
        have f35 : Fr (fun _ => False) W3 W5 := f4.trans3 f5 fun q hq e => by have := t4 q e; omega
        have t5' : ∀ q, (Value.slice A5 (a + 1) c5).ownBlock = some q → W3.heap.size ≤ q := fun q hq => by
          rcases t5 q hq with e | e
          · exact t4 q e
          · omega
        have hz35 := f35.size
        have H5 := Lib.hid (And.intro o5 (And.intro f35 t5'))
        have hsrc5 := (H3.out.2.2.1 W5 fun q hq => f35.block q (H3.out.2.2.2.1 q hq).2 fun e => e).2
        rw [Hm.out] at hsrc5
        have HS5 := Lib.hid hsrc5
        clear o4 f4 t4 kN4 o5 f5 t5 f35 t5' hsrc5
        go_wp2_with (at_builtin; refine Hid.out ?_)
        refine Lib.hid ?_
        refine wpList_app_u rfl _ _ 70 70 rfl w.heap.size 83 i0 _ 2 16 Try.underlying70 hi0 hz0 hz1 hz2 rfl _ (a + 1) _ rfl H5.out.1 (.slice B2 m e2) m ((R.drop a).flatMap encD) rfl HS5.out (by omega) (by decide) (by omega) ?_
        intro v6 W6 o6 f6 t6
        obtain ⟨A6, c6, ev6⟩ := row_slice o6
        subst ev6
        obtain ⟨o5, f35, t5⟩ := H5.out
        have f36 : Fr (fun _ => False) W3 W6 := f35.trans3 f6 fun q hq e => by have := t5 q e; omega
        have H6 := Lib.hid (And.intro o6 f36)
        have hn6 : a + 1 + m = R.length + 1 := by omega
        clear o5 f35 t5 o6 f6 t6 f36
        go_wp2_with fail
        go_roundw
        case rel =>
          obtain ⟨hkw, hIc, kN, hD, hc, hnd, h0, hxl, hN2, hsz⟩ := HM.out
          obtain ⟨hI3, kN3, hsrc, hRb, hup, hlo⟩ := H3.out
          obtain ⟨o6, f36⟩ := H6.out
          have hI6 := hI3.go f36
          have hid : C[j].id = id := by rw [hc]
          have hdue := due_more hnd hD hlt (by rw [hkw]; exact hk0) ha (fun q hq h => by rw [hid]; exact hup q hq h) (fun h => by rw [hid]; exact hlo h (by omega))
          rw [hid, hkw] at hdue
          rw [hn6] at o6
          have hlen : (R.take a ++ (id, k) :: R.drop a).length = R.length + 1 := by
            rw [List.length_append, List.length_take, List.length_cons, List.length_drop]; omega
          refine ⟨j + 1, A6, R.length + 1, c6, rfl, by go_num, by omega, by omega, R.take a ++ (id, k) :: R.drop a, hlen.symm, ⟨hI6.hx, hI6.ok, ?_, hI6.fr⟩, hdue⟩
          exact ownW_of o6 hlen.symm (by rw [List.flatMap_append, List.flatMap_cons]; simp [encD])
        case measure => simp [RowKit.intOf]; omega
    · obtain rfl : j = C.length := by omega
      have p0 : ¬ ((C.length : Int) < (C.length : Int)) := by omega
      have d0 : wr.cell? ⟨x, 3, none⟩ = some (.slice A C.length cc) := blk_cell hI.hx 3
      have HI := Lib.hid (And.intro hI hD)
      clear hI hD HG
      go_wp2_with fail
      go_ret
      obtain ⟨hI, hD⟩ := HI.out
      obtain ⟨hA0, hnd, hat, h0, h4, hxl⟩ := HC.out
      rw [List.take_length] at hD
      have hok := hI.ok
      rw [mixC_all] at hok
      have hdl : (dueC pg gr rg now C).length = C.length := by simp [dueC]
      refine ⟨⟨_, R, _, rfl, hI.oR, hD, hnj⟩, ⟨h0, A, cc, ?_, ?_, ?_⟩, hI.fr⟩
      · rw [hdl]; exact hI.hx
      · unfold OwnK; rw [hdl]; exact hok
      · rw [hdl]; exact h4
end Go.Proofs.Ytbgmjieagnmpkaa
