/- Texts of this proof, one behind the other. -/
import Derived.Test.YtnoeblnljfnecaaGreatDoorWishBothG16
import Derived.Test.YtnoeblnljfnecaaGreatDoorWishBothG8
import Derived.Test.YtnoeblnljfnecaaGreatDoorWishBothG15
import Derived.Test.YtnoeblnljfnecaaGreatDoorRows
import Derived.ProofKit
import Derived.OpenShut
import Derived.LaidMore
import Derived.Lay
import Derived.Below
import Derived.ChangeSame
section
/- Layer 21: WishPlays, whatever is given; WishBoth. -/
namespace Go.Proofs.YtnoeblnljfnecaaGreatDoor
set_option linter.unusedVariables false
set_option linter.unusedSimpArgs false
open Go Go.RowKit Go.Maps Go.Sort Go.Shelf Go.Lib

set_option maxRecDepth 100000 in
set_option maxHeartbeats 8000000 in
theorem wishPlays_walk (most : Int) (A : Option Addr) (l : List zwaT) (cc : Nat) (b : ByteArray) (w : World) (hA : ActWR w A l) (hR : Rowed w) :
    Calls Tryz.prog 3 #[.int .i64 most, .slice A l.length cc, .string b] w fun e w' => e = .returned (.bool true) ∧ RowKit.Below w.heap.size w w' := by
  obtain ⟨nm, rfl⟩ : ∃ nm, b = bs nm := ⟨b.data.toList, rfl⟩
  by_cases hall : greatWR l = false ∧ nm.length ≤ 30 ∧ 0 ≤ most ∧ most ≤ 1000
  · exact wishPlays_main most A l cc nm w hall.1 hall.2.1 ⟨hall.2.2.1, hall.2.2.2⟩ hA hR
  · have HA := Lib.hid hA
    have HAw := Lib.hid (awake21 w hR)
    obtain ⟨gg, hgg⟩ : ∃ g, greatWR l = g := ⟨_, rfl⟩
    have HG := Lib.hid hgg
    rw [hgg] at hall
    have HAll := Lib.hid hall
    clear hA hR hgg hall
    go_enter Tryz.func3, Tryz.ntmps3
    go_wp2_with fail
    refine HAw.out.mono ?_
    rintro e w1 ⟨rfl, b1⟩
    have B1 := Lib.hid b1
    clear b1
    go_wp2_with fail
    refine (great21 HA.out w1 B1.out).mono ?_
    rintro e w2 ⟨rfl, rfl⟩
    rw [HG.out]
    cases gg with
    | true =>
      go_wp2_with fail
      go_ret
      exact ⟨rfl, B1.out⟩
    | false =>
      by_cases h30 : (30 : Int) < ((bs nm).size : Int)
      · have h30' : (30 : Int) < (nm.length : Int) := by simpa using h30
        go_wp2_with fail
        go_ret
        exact ⟨rfl, B1.out⟩
      have h30' : ¬ (30 : Int) < (nm.length : Int) := by simpa using h30
      by_cases h0 : most < 0
      · go_wp2_with fail
        go_ret
        exact ⟨rfl, B1.out⟩
      by_cases h1 : (1000 : Int) < most
      · go_wp2_with fail
        go_ret
        exact ⟨rfl, B1.out⟩
      exfalso
      exact HAll.out ⟨rfl, by simp at h30; omega, by omega, by omega⟩
theorem StW.lowTo {w : World} {N l : Nat} {most : Int} {Y : Nat → Prop} {U : List WEnt} {V : World} (h : StW w N l most Y U V) : StW w w.heap.size l most Y U V := ⟨h.rel.low h.low, h.below, Nat.le_refl _, h.below.size⟩
theorem fk_len {U : List WEnt} (hn : (U.map fkW).Nodup) {a : Int} {f : List UInt8} (hm : (a, f) ∈ U.map fkW) : (U.filter fun u => decide (fkW u ≠ (a, f))).length + 1 = U.length := by
  have h := lessLenIS hn hm
  rw [← fk_less, List.length_map, List.length_map] at h
  exact h
theorem filter_twoW {α : Type} (p : α → Bool) : ∀ L : List α, L.length = (L.filter p).length + (L.filter fun x => !p x).length
  | [] => rfl
  | x :: r => by
    have := filter_twoW p r
    by_cases h : p x = true
    · rw [List.filter_cons_of_pos h, List.filter_cons_of_neg (by simp [h])]; simp only [List.length_cons]; omega
    · rw [List.filter_cons_of_neg h, List.filter_cons_of_pos (by simp [h])]; simp only [List.length_cons]; omega
theorem drop_countW {L : List WEnt} (hn : (L.map fkW).Nodup) {a : Int} {D : List (List UInt8)} (d1 : D.Pairwise (· < ·)) (d2 : ∀ f, f ∈ D ↔ (a, f) ∈ L.map fkW) : L.length = D.length + (L.filter fun u => decide (u.1 ≠ a)).length := by
  rw [filter_twoW (fun u : WEnt => decide (u.1 = a)) L]
  have e1 : (L.filter fun u => !decide (u.1 = a)) = L.filter fun u => decide (u.1 ≠ a) := List.filter_congr fun u _ => by simp
  rw [e1]
  have e2 : (L.filter fun u => decide (u.1 = a)).length = D.length := by
    refine Nat.le_antisymm ?_ ?_
    · have := nodup_len (A := (L.filter fun u => decide (u.1 = a)).map fkW) (B := D.map fun b => (a, b)) ((List.filter_sublist.map fkW).nodup hn) fun p hp => by
        obtain ⟨u, hu, rfl⟩ := List.mem_map.1 hp
        obtain ⟨h1, h2⟩ := List.mem_filter.1 hu
        rw [decide_eq_true_eq] at h2
        exact List.mem_map.2 ⟨foldL u.2, (d2 _).2 (List.mem_map.2 ⟨u, h1, by unfold fkW; rw [h2]⟩), by unfold fkW; rw [h2]⟩
      simpa using this
    · have := nodup_len (A := D.map fun b => (a, b)) (B := (L.filter fun u => decide (u.1 = a)).map fkW) (List.Pairwise.map _ (fun _ _ h e => h (Prod.mk.inj e).2) (up_nodupS d1)) fun p hp => by
        obtain ⟨b, hb, rfl⟩ := List.mem_map.1 hp
        obtain ⟨u, hu, e⟩ := List.mem_map.1 ((d2 b).1 hb)
        exact List.mem_map.2 ⟨u, List.mem_filter.2 ⟨hu, by unfold fkW at e; simpa using (Prod.mk.inj e).1⟩, e⟩
      simpa using this
  omega
/-- lists that were cleared of so many clients -/
def clrL (L : List WEnt) (ids : List Int) : List WEnt := L.filter fun u => decide (u.1 ∉ ids)
theorem clrL_nil (L : List WEnt) : clrL L [] = L := List.filter_eq_self.2 fun u _ => by simp
theorem clrL_snoc (L : List WEnt) (ids : List Int) (a : Int) : clrL L (ids ++ [a]) = (clrL L ids).filter fun u => decide (u.1 ≠ a) := by
  unfold clrL
  rw [List.filter_filter]
  refine List.filter_congr fun u _ => ?_
  rw [Bool.eq_iff_iff]
  simp only [Bool.and_eq_true, decide_eq_true_eq, List.mem_append, List.mem_singleton, not_or]
  exact And.comm
theorem clrL_all {L : List WEnt} {ids : List Int} (h : ∀ u ∈ L, u.1 ∈ ids) : clrL L ids = [] := List.filter_eq_nil_iff.2 fun u hu => by simpa using h u hu
set_option maxRecDepth 100000 in
set_option maxHeartbeats 16000000 in
theorem wishBoth_walk (A : Option Addr) (l : List zwaT) (cc : Nat) (b : ByteArray) (w : World) (hA : ActWR w A l) (hR : Rowed w) :
    Calls Tryz.prog 5 #[.slice A l.length cc, .string b] w fun e w' => e = .returned (.bool true) ∧ RowKit.Below w.heap.size w w' := by
  have mixed : (Tryz.prog).follows Departure.mixedOrders = true := by kernel_rfl
  obtain ⟨nm, rfl⟩ : ∃ nm, b = bs nm := ⟨b.data.toList, rfl⟩
  have HA := Lib.hid hA
  have HAw := Lib.hid (awake21 w hR)
  have HGr : Hid (∀ W, RowKit.Below w.heap.size w W → Calls Tryz.prog 7 #[.slice A l.length cc] W fun e w' => e = .returned (.bool (greatWR l)) ∧ w' = W) := fun W hW => great21 hA W hW
  obtain ⟨gg, hgg⟩ : ∃ g, greatWR l = g := ⟨_, rfl⟩
  rw [hgg] at HGr
  have HGG := Lib.hid hgg
  clear hA hgg hR
  go_enter Tryz.func5, Tryz.ntmps5
  go_wp2_with fail
  refine HAw.out.mono ?_
  rintro e w1 ⟨rfl, b1⟩
  have B1 := Lib.hid b1
  clear b1
  go_wp2_with fail
  refine (HGr.out w1 B1.out).mono ?_
  rintro e w2 ⟨rfl, rfl⟩
  cases gg with
  | true =>
    go_wp2_with fail
    go_ret
    exact ⟨rfl, B1.out⟩
  | false =>
  by_cases h30 : (30 : Int) < ((bs nm).size : Int)
  · have h30' : (30 : Int) < (nm.length : Int) := by simpa using h30
    go_wp2_with fail
    go_ret
    exact ⟨rfl, B1.out⟩
  have h30' : ¬ (30 : Int) < (nm.length : Int) := by simpa using h30
  have hnm : nm.length ≤ 1000 := by simp at h30; omega
  have hl : l.length ≤ 40 ∧ ∀ x ∈ l, x.2.2.size ≤ 30 := by
    have hg := HGG.out
    unfold greatWR at hg
    simp only [Bool.or_eq_false_iff, decide_eq_false_iff_not, List.any_eq_false, decide_eq_true_eq] at hg
    exact ⟨by omega, fun x hx => by have := hg.2 x hx; omega⟩
  have HLL := Lib.hid hl.2
  replace hl := hl.1
  go_wp2_with fail
  refine (wisNew (most := 50) (by decide) _).mono ?_
  rintro e W1 ⟨t, X1, rfl, h1, x1, b1⟩
  have H0 : Hid (StW w w.heap.size t 50 X1 [] W1) := (stW_new B1.out h1 b1).lowTo
  clear h1 x1 b1
  go_wp2_with fail
  go_loopw [6, 7] (fun n i wr => ∃ (j : Nat) (z : Int), i = .int .i64 j ∧ n = .int .i64 z ∧ j ≤ l.length ∧ 0 ≤ z ∧ z ≤ j ∧ Hid (∃ Y L, (L.length : Int) = z ∧ (∀ u ∈ L, u.1 ∈ (l.map (·.2.1)).take j) ∧ StW w w.heap.size t 50 Y L wr)) (fun _ i _ => l.length - (RowKit.intOf i).toNat)
  case atStart => exact ⟨0, 0, rfl, rfl, Nat.zero_le _, by omega, by omega, X1, [], rfl, fun u hu => (by cases hu), H0.out⟩
  case round =>
    obtain ⟨j, z, rfl, rfl, hj, hz0, hzj, HP0⟩ := hrel
    clear H0
    obtain ⟨X, L, hLz, hLi, hP⟩ := HP0.out
    have HP := Lib.hid (And.intro hLz (And.intro hLi hP))
    have hLl : L.length ≤ 40 := by omega
    clear HP0 hP hLz hLi
    by_cases hlt : j < l.length
    · obtain ⟨g, o, rfl, hat⟩ := actWR_at HA.out (by omega)
      obtain ⟨c1, c2, c3⟩ := hat wr HP.out.2.2.below j hlt
      have p0 : (j : Int) < (l.length : Int) := by omega
      have r0 : (0 : Int) ≤ (j : Int) := by omega
      have htk : (l.map (·.2.1)).take (j + 1) = (l.map (·.2.1)).take j ++ [l[j].2.1] := by rw [List.take_succ_eq_append_getElem (by simpa using hlt), List.getElem_map]
      have hzg := HA.out.1 _ (List.getElem_mem hlt)
      have hzs := HLL.out _ (List.getElem_mem hlt)
      obtain ⟨⟨kd, ac, sc⟩, hlj⟩ : ∃ p, l[j] = p := ⟨_, rfl⟩
      rw [hlj] at c1 c2 c3 htk hzg hzs
      clear hat hlj
      dsimp only at c1 c2 c3 hzs htk
      obtain ⟨bc, rfl⟩ : ∃ bc, sc = bs bc := ⟨sc.data.toList, rfl⟩
      have hokA : OkKIS ac := hzg.2.1
      have hokB : bc.length ≤ 1000 := by simp at hzs; omega
      have hPD := HP.out.2.2.rest ((Fr.refl (fun _ => False) wr).drew)
      have hid1 : ∀ u ∈ L, u.1 ∈ (l.map (·.2.1)).take (j + 1) := fun u hu => by rw [htk]; exact List.mem_append_left _ (HP.out.2.1 u hu)
      have hid2 : ac ∈ (l.map (·.2.1)).take (j + 1) := by rw [htk]; simp
      have HID := Lib.hid (And.intro hid1 hid2)
      have hw1 : IntKind.i64.wrap (z + 1) = z + 1 := IntWalk.i64_in _ ⟨by omega, by omega⟩
      have hw2 : IntKind.i64.wrap (z - 1) = z - 1 := IntWalk.i64_in _ ⟨by omega, by omega⟩
      clear htk hid1 hid2 hzg hzs
      by_cases hk1 : kd = 1
      · subst hk1
        have HS := wisRem hPD.rel hPD.far (by omega) hokA hokB
        unfold RemWs at HS
        obtain ⟨d, hd⟩ : ∃ d, decide ((ac, foldL bc) ∈ L.map fkW) = d := ⟨_, rfl⟩
        rw [hd] at HS
        have HS := Lib.hid HS
        have HPD := Lib.hid (And.intro hPD hd)
        clear hPD hokA hokB hd
        go_wp2_with fail
        go_region_with_o (refine HS.out.mono ?_; rintro e w5 ⟨rfl, X5, x5, f5, h5⟩; have HN : Hid (∃ Y, StW w w.heap.size t 50 Y (L.filter fun u => decide (fkW u ≠ (ac, foldL bc))) w5) := ⟨X5, HPD.out.1.put h5 f5⟩; clear x5 f5 h5)
        all_goals
          cases d with
          | true =>
            have hfl := fk_len HPD.out.1.rel.nodup (of_decide_eq_true HPD.out.2)
            have hz1 : 1 ≤ z := by have := HP.out.1; omega
            have hfz : (((L.filter fun u => decide (fkW u ≠ (ac, foldL bc))).length : Nat) : Int) = z - 1 := by have := HP.out.1; omega
            have HFZ := Lib.hid hfz
            clear hfl hfz
            go_wp2_with fail
            go_roundw
            case rel =>
              obtain ⟨Y5, h5⟩ := HN.out
              exact ⟨j + 1, z - 1, by go_num, by go_num, by omega, by omega, by omega, Y5, _, HFZ.out, fun u hu => HID.out.1 u (List.mem_filter.1 hu).1, h5⟩
            case measure => simp [RowKit.intOf]; omega
          | false =>
            have hno := fk_not (of_decide_eq_false HPD.out.2)
            have HNo := Lib.hid hno
            clear hno
            go_wp2_with fail
            go_roundw
            case rel =>
              obtain ⟨Y5, h5⟩ := HN.out
              rw [HNo.out] at h5
              exact ⟨j + 1, z, by go_num, by go_num, by omega, by omega, by omega, Y5, L, HP.out.1, HID.out.1, h5⟩
            case measure => simp [RowKit.intOf]; omega
      · have k1 : (kd == 1) = false := by simpa using hk1
        have HS := Lib.hid (wisAdd hPD.rel hPD.far (by omega) hokA hokB)
        have HPD := Lib.hid hPD
        clear hPD hokA hokB
        have HAny : Hid (∀ e w5, AddWs w.heap.size t X 50 L ac bc wr.drew e w5 → ∃ c d, e = .returned (.int .i64 c) ∧ (c == 0) = d ∧ Hid (∃ Y L', (L'.length : Int) = z + (if d then 1 else 0) ∧ (∀ u ∈ L', u.1 ∈ (l.map (·.2.1)).take (j + 1)) ∧ StW w w.heap.size t 50 Y L' w5)) := fun e w5 ⟨X5, c5, L5, he, x5, f5, h5, q5⟩ => by
          rcases q5 with ⟨rfl, ⟨rfl, _⟩ | ⟨rfl, _⟩⟩ | ⟨rfl, rfl, _⟩
          · exact ⟨6, false, he, by decide, X5, _, by simpa using HP.out.1, HID.out.1, HPD.out.put h5 f5⟩
          · exact ⟨7, false, he, by decide, X5, _, by simpa using HP.out.1, HID.out.1, HPD.out.put h5 f5⟩
          · refine ⟨0, true, he, by decide, X5, _, by rw [List.length_append, List.length_singleton]; have := HP.out.1; simp; omega, fun u hu => ?_, HPD.out.put h5 f5⟩
            rcases List.mem_append.1 hu with e | e
            · exact HID.out.1 u e
            · rw [List.mem_singleton.1 e]; exact HID.out.2
        go_wp2_with fail
        go_region_with_o (refine HS.out.mono ?_; intro e w5 hA5; obtain ⟨c5, d5, rfl, hcd, HN⟩ := HAny.out e w5 hA5; clear hA5)
        all_goals
          clear hcd
          cases d5 with
          | true =>
            go_wp2_with fail
            go_roundw
            case rel =>
              obtain ⟨Y5, L5, h6, h7, h8⟩ := HN.out
              exact ⟨j + 1, z + 1, by go_num, by go_num, by omega, by omega, by omega, Y5, L5, by simpa using h6, h7, h8⟩
            case measure => simp [RowKit.intOf]; omega
          | false =>
            go_wp2_with fail
            go_roundw
            case rel =>
              obtain ⟨Y5, L5, h6, h7, h8⟩ := HN.out
              exact ⟨j + 1, z, by go_num, by go_num, by omega, by omega, by omega, Y5, L5, by simpa using h6, h7, h8⟩
            case measure => simp [RowKit.intOf]; omega
    · obtain rfl : j = l.length := by omega
      have p1 : ¬ ((l.length : Int) < (l.length : Int)) := by omega
      have hP := HP.out.2.2
      obtain ⟨E, hE⟩ : ∃ E, byW L (foldL nm) = E := ⟨_, rfl⟩
      have e1 : E.Pairwise (· < ·) := by rw [← hE]; exact byW_up _ _
      have e2 : ∀ a, a ∈ E ↔ (a, foldL nm) ∈ L.map fkW := fun a => by rw [← hE]; exact byW_mem _ _ _
      have e3 : E.length ≤ L.length := by rw [← hE]; exact byW_len _ _
      have HR := Lib.hid (clients21 (w := wr) (a := nm) (xs := E) (fun V hV => wisBy (hP.rest hV).rel (by omega) hnm e1 e2) (by omega))
      have HE := Lib.hid (And.intro e2 e3)
      clear hP hE e1 e2 e3
      go_wp2_with fail
      refine HR.out.mono ?_
      rintro e w6 ⟨⟨v6, rfl, o6⟩, b6⟩
      obtain ⟨A6, c6, rfl⟩ := row_slice o6
      have hP6 := HP.out.2.2.rest (Fr.of_below b6)
      have F6 := Lib.hid (And.intro hP6 (reads_ownI o6))
      clear o6 b6 hP6 HR
      go_wp2_with fail
      go_loopw [10] (fun i V => ∃ (k : Nat), i = .int .i64 k ∧ k ≤ l.length ∧ Hid (Fr (fun _ => False) w6 V)) (fun i _ => l.length - (RowKit.intOf i).toNat)
      case atStart => exact ⟨0, rfl, Nat.zero_le _, Fr.refl _ _⟩
      case round =>
        obtain ⟨k, rfl, hk, HF⟩ := hrel
        by_cases hkl : k < l.length
        · obtain ⟨g, o, rfl, hat⟩ := actWR_at HA.out (by omega)
          have hcl : ∀ V, Fr (fun _ => False) wr V → V.cell? ⟨g, o + k * 3 + 1, none⟩ = some (.int .i64 l[k].2.1) := fun V hV => (hat V (F6.out.1.rest (HF.out.trans hV)).below k hkl).2.1
          obtain ⟨ac, hac⟩ : ∃ ac, l[k].2.1 = ac := ⟨_, rfl⟩
          have hokA : OkKIS ac := by rw [← hac]; exact (HA.out.1 _ (List.getElem_mem hkl)).2.1
          rw [hac] at hcl
          have HX := Lib.hid hcl
          have n1 : (k : Int) < (l.length : Int) := by omega
          have n0 : (0 : Int) ≤ (k : Int) := by omega
          obtain ⟨d, hd⟩ : ∃ d, decide ((ac, foldL nm) ∈ L.map fkW) = d := ⟨_, rfl⟩
          have hEc : E.contains ac = d := by rw [← hd, Bool.eq_iff_iff, List.contains_iff_mem, decide_eq_true_eq]; exact HE.out.1 ac
          have H6 : Hid (∀ V, Fr (fun _ => False) wr V → Calls Tryz.prog 25 #[.slice A6 E.length c6, .int .i64 ac] V fun e V' => e = .returned (.bool d) ∧ Fr (fun _ => False) V V') := fun V hV => (has10 A6 E c6 ac (by have := HE.out.2; omega) (readsI_frW F6.out.2 (HF.out.trans hV))).mono fun e V' ⟨h1, h2⟩ => ⟨by rw [h1, hEc], by rw [h2]; exact Fr.refl _ _⟩
          have H14 : Hid (∀ V, Fr (fun _ => False) wr V → Calls Tryz.prog 18 #[.pointer (some ⟨t, 0, none⟩), .int .i64 ac, .string (bs nm)] V fun e V' => e = .returned (.bool d) ∧ Fr (fun _ => False) V V') := fun V hV => (wisHas (F6.out.1.rest (HF.out.trans hV)).rel (by omega) hokA hnm).mono fun e V' ⟨h1, h2⟩ => ⟨by rw [h1, hd], Fr.of_below h2⟩
          clear hat hcl hac hokA hd hEc
          go_wp2_with fail
          refine wp_region_held_drew (S := fun W => Fr (fun _ => False) wr W) (by kernel_rfl) (by exact (Fr.refl _ wr).drew) (fun hHeld => ?_)
          refine wpAnyH_read (i := 0) (oi := { dst := some 75, op := Go.Op.move (Go.Operand.tmp 8), type := 41, pos := "law.go:169", after := #[], guard := none }) ?_ rfl (by kernel_rfl) (by kernel_rfl) (by kernel_rfl) (fun _ _ _ h => h) (by rfl) (by assumption) ?_ ?_
          rotate_left
          · (intro w0 hS0; go_simp <;> (try with_reducible rfl))
          try simp only [Act.put, List.setIfInBounds_toArray, List.set_cons_zero, List.set_cons_succ]
          refine wpAnyH_read (i := 1) (oi := { dst := some 76, op := Go.Op.move (Go.Operand.tmp 0), type := 22, pos := "law.go:169", after := #[], guard := none }) ?_ rfl (by kernel_rfl) (by kernel_rfl) (by kernel_rfl) (fun _ _ _ h => h) (by rfl) (by assumption) ?_ ?_
          rotate_left
          · (intro w0 hS0; go_simp <;> (try with_reducible rfl))
          try simp only [Act.put, List.setIfInBounds_toArray, List.set_cons_zero, List.set_cons_succ]
          refine wpAnyH_read (i := 2) (oi := { dst := some 77, op := Go.Op.move (Go.Operand.tmp 10), type := 3, pos := "law.go:169", after := #[], guard := none }) ?_ rfl (by kernel_rfl) (by kernel_rfl) (by kernel_rfl) (fun _ _ _ h => h) (by rfl) (by assumption) ?_ ?_
          rotate_left
          · (intro w0 hS0; go_simp <;> (try with_reducible rfl))
          try simp only [Act.put, List.setIfInBounds_toArray, List.set_cons_zero, List.set_cons_succ]
          refine wpAnyH_read (i := 3) (oi := { dst := some 78, op := Go.Op.indexAddr 22 (Go.Operand.tmp 76) (Go.Operand.tmp 77), type := 0, pos := "law.go:169", after := #[{ on := 1, ground := Go.Ground.data }, { on := 2, ground := Go.Ground.data }], guard := none }) ?_ rfl (by kernel_rfl) (by kernel_rfl) (by kernel_rfl) (fun _ _ _ h => h) (by rfl) (by assumption) ?_ ?_
          rotate_left
          · (intro w0 hS0; go_simp <;> (try with_reducible rfl))
          try simp only [Act.put, List.setIfInBounds_toArray, List.set_cons_zero, List.set_cons_succ]
          refine wpAnyH_read (i := 4) (oi := { dst := some 79, op := Go.Op.fieldAddr 32 (Go.Operand.tmp 78) 1, type := 0, pos := "law.go:169", after := #[{ on := 3, ground := Go.Ground.data }], guard := none }) ?_ rfl (by kernel_rfl) (by kernel_rfl) (by kernel_rfl) (fun _ _ _ h => h) (by rfl) (by assumption) ?_ ?_
          rotate_left
          · (intro w0 hS0; go_simp <;> (try with_reducible rfl))
          try simp only [Act.put, List.setIfInBounds_toArray, List.set_cons_zero, List.set_cons_succ]
          refine wpAnyH_read (i := 7) (oi := { dst := some 82, op := Go.Op.move (Go.Operand.tmp 5), type := 25, pos := "law.go:169", after := #[], guard := none }) ?_ rfl (by kernel_rfl) (by kernel_rfl) (by kernel_rfl) (fun _ _ _ h => h) (by rfl) (by assumption) ?_ ?_
          rotate_left
          · (intro w0 hS0; go_simp <;> (try with_reducible rfl))
          try simp only [Act.put, List.setIfInBounds_toArray, List.set_cons_zero, List.set_cons_succ]
          refine wpAnyH_read (i := 8) (oi := { dst := some 83, op := Go.Op.move (Go.Operand.tmp 0), type := 22, pos := "law.go:169", after := #[], guard := none }) ?_ rfl (by kernel_rfl) (by kernel_rfl) (by kernel_rfl) (fun _ _ _ h => h) (by rfl) (by assumption) ?_ ?_
          rotate_left
          · (intro w0 hS0; go_simp <;> (try with_reducible rfl))
          try simp only [Act.put, List.setIfInBounds_toArray, List.set_cons_zero, List.set_cons_succ]
          refine wpAnyH_read (i := 9) (oi := { dst := some 84, op := Go.Op.move (Go.Operand.tmp 10), type := 3, pos := "law.go:169", after := #[], guard := none }) ?_ rfl (by kernel_rfl) (by kernel_rfl) (by kernel_rfl) (fun _ _ _ h => h) (by rfl) (by assumption) ?_ ?_
          rotate_left
          · (intro w0 hS0; go_simp <;> (try with_reducible rfl))
          try simp only [Act.put, List.setIfInBounds_toArray, List.set_cons_zero, List.set_cons_succ]
          refine wpAnyH_read (i := 10) (oi := { dst := some 85, op := Go.Op.indexAddr 22 (Go.Operand.tmp 83) (Go.Operand.tmp 84), type := 0, pos := "law.go:169", after := #[{ on := 8, ground := Go.Ground.data }, { on := 9, ground := Go.Ground.data }], guard := none }) ?_ rfl (by kernel_rfl) (by kernel_rfl) (by kernel_rfl) (fun _ _ _ h => h) (by rfl) (by assumption) ?_ ?_
          rotate_left
          · (intro w0 hS0; go_simp <;> (try with_reducible rfl))
          try simp only [Act.put, List.setIfInBounds_toArray, List.set_cons_zero, List.set_cons_succ]
          refine wpAnyH_read (i := 11) (oi := { dst := some 86, op := Go.Op.fieldAddr 32 (Go.Operand.tmp 85) 1, type := 0, pos := "law.go:169", after := #[{ on := 10, ground := Go.Ground.data }], guard := none }) ?_ rfl (by kernel_rfl) (by kernel_rfl) (by kernel_rfl) (fun _ _ _ h => h) (by rfl) (by assumption) ?_ ?_
          rotate_left
          · (intro w0 hS0; go_simp <;> (try with_reducible rfl))
          try simp only [Act.put, List.setIfInBounds_toArray, List.set_cons_zero, List.set_cons_succ]
          refine wpAnyH_read (i := 13) (oi := { dst := some 88, op := Go.Op.move (Go.Operand.tmp 1), type := 9, pos := "law.go:169", after := #[], guard := none }) ?_ rfl (by kernel_rfl) (by kernel_rfl) (by kernel_rfl) (fun _ _ _ h => h) (by rfl) (by assumption) ?_ ?_
          rotate_left
          · (intro w0 hS0; go_simp <;> (try with_reducible rfl))
          try simp only [Act.put, List.setIfInBounds_toArray, List.set_cons_zero, List.set_cons_succ]
          refine wpAnyH_read (i := 5) (oi := { dst := some 80, op := Go.Op.load 3 (Go.Operand.tmp 79), type := 3, pos := "law.go:169", after := #[{ on := 4, ground := Go.Ground.data }], guard := none }) ?_ rfl (by kernel_rfl) (by kernel_rfl) (by kernel_rfl) (fun _ _ _ h => h) (by rfl) (by assumption) ?_ ?_
          rotate_left
          · (intro w0 hS0; have s0 := HX.out w0 hS0; go_simp <;> (try with_reducible rfl))
          try simp only [Act.put, List.setIfInBounds_toArray, List.set_cons_zero, List.set_cons_succ]
          refine wpAnyH_read (i := 12) (oi := { dst := some 87, op := Go.Op.load 3 (Go.Operand.tmp 86), type := 3, pos := "law.go:169", after := #[{ on := 11, ground := Go.Ground.data }], guard := none }) ?_ rfl (by kernel_rfl) (by kernel_rfl) (by kernel_rfl) (fun _ _ _ h => h) (by rfl) (by assumption) ?_ ?_
          rotate_left
          · (intro w0 hS0; have s0 := HX.out w0 hS0; go_simp <;> (try with_reducible rfl))
          try simp only [Act.put, List.setIfInBounds_toArray, List.set_cons_zero, List.set_cons_succ]
          refine wpAnyH_one (i := 6) (o := { dst := some 81, op := Go.Op.call { callee := Go.Callee.value (Go.Operand.func 25), args := #[Go.Operand.tmp 75, Go.Operand.tmp 80], argTypes := #[41, 3] }, type := 4, pos := "law.go:169", after := #[{ on := 0, ground := Go.Ground.data }, { on := 5, ground := Go.Ground.data }], guard := none }) (by kernel_rfl) rfl (by rfl) (fun K hK => ?_)
          go_simp
          refine (H6.out _ hHeld).mono ?_
          rintro e V6 ⟨rfl, f6⟩
          have G6 : Hid (Fr (fun _ => False) wr V6) := (show Fr (fun _ => False) wr _ from hHeld).trans f6
          clear f6
          go_wp2_with fail
          refine hK.out _ _ ?_ (fun hHeld => ?_)
          · exact G6.out
          clear hK K
          try simp only [Act.put, List.setIfInBounds_toArray, List.set_cons_zero, List.set_cons_succ]
          refine wpAnyH_one (i := 14) (o := { dst := some 89, op := Go.Op.call { callee := Go.Callee.value (Go.Operand.func 18), args := #[Go.Operand.tmp 82, Go.Operand.tmp 87, Go.Operand.tmp 88], argTypes := #[25, 3, 9] }, type := 4, pos := "law.go:169", after := #[{ on := 7, ground := Go.Ground.data }, { on := 12, ground := Go.Ground.data }, { on := 13, ground := Go.Ground.data }, { on := 6, ground := Go.Ground.chain }], guard := none }) (by kernel_rfl) rfl (by rfl) (fun K hK => ?_)
          go_simp
          refine (H14.out _ G6.out).mono ?_
          rintro e V14 ⟨rfl, f14⟩
          have G14 : Hid (Fr (fun _ => False) wr V14) := G6.out.trans f14
          clear f14
          go_wp2_with fail
          refine hK.out _ _ ?_ (fun hHeld => ?_)
          · exact G14.out
          clear hK K
          try simp only [Act.put, List.setIfInBounds_toArray, List.set_cons_zero, List.set_cons_succ]
          refine wpAnyH_read (i := 15) (oi := { dst := some 90, op := Go.Op.binOp Go.BinOp.neq 4 (Go.Operand.tmp 81) (Go.Operand.tmp 89) 4, type := 4, pos := "law.go:169", after := #[{ on := 6, ground := Go.Ground.data }, { on := 14, ground := Go.Ground.data }], guard := none }) ?_ rfl (by kernel_rfl) (by kernel_rfl) (by kernel_rfl) (fun _ _ _ h => h) (by rfl) (by assumption) ?_ ?_
          rotate_left
          · (intro w0 hS0; go_simp <;> (try with_reducible rfl))
          try simp only [Act.put, List.setIfInBounds_toArray, List.set_cons_zero, List.set_cons_succ]
          refine wpAnyH_done (by kernel_rfl) ?_ _
          go_wp2_with fail
          go_roundw
          case rel => exact ⟨k + 1, by go_num, by omega, HF.out.trans G14.out⟩
          case measure => simp [RowKit.intOf]; omega
        · obtain rfl : k = l.length := by omega
          have HS0 : Hid (∃ Y, StW w w.heap.size t 50 Y (clrL L ((l.map (·.2.1)).take 0)) wr) := ⟨X, by rw [List.take_zero, clrL_nil]; exact F6.out.1.rest HF.out⟩
          have hz : (((clrL L ((l.map (·.2.1)).take 0)).length : Nat) : Int) = z := by rw [List.take_zero, clrL_nil]; exact HP.out.1
          have HZ := Lib.hid hz
          clear hz
          go_wp2_with fail
          go_loopw [6, 11] (fun n i V => ∃ (k : Nat) (y : Int), i = .int .i64 k ∧ n = .int .i64 y ∧ k ≤ l.length ∧ 0 ≤ y ∧ y ≤ 40 ∧ Hid ((((clrL L ((l.map (·.2.1)).take k)).length : Nat) : Int) = y ∧ ∃ Y, StW w w.heap.size t 50 Y (clrL L ((l.map (·.2.1)).take k)) V)) (fun _ i _ => l.length - (RowKit.intOf i).toNat)
          case atStart => exact ⟨0, z, rfl, rfl, Nat.zero_le _, hz0, by omega, HZ.out, HS0.out⟩
          case round =>
            obtain ⟨k, y, rfl, rfl, hk2, hy0, hy4, HC⟩ := hrel
            clear HS0
            obtain ⟨hy, Y, hS⟩ := HC.out
            obtain ⟨U, hU⟩ : ∃ U, clrL L ((l.map (·.2.1)).take k) = U := ⟨_, rfl⟩
            rw [hU] at hy hS
            have HY := Lib.hid (And.intro hy (And.intro hU hS))
            have hUl : U.length ≤ 40 := by omega
            clear HC hU hy hS
            by_cases hkl : k < l.length
            · obtain ⟨g, o, rfl, hat⟩ := actWR_at HA.out (by omega)
              have c2 := (hat wr HY.out.2.2.below k hkl).2.1
              have htk : (l.map (·.2.1)).take (k + 1) = (l.map (·.2.1)).take k ++ [l[k].2.1] := by rw [List.take_succ_eq_append_getElem (by simpa using hkl), List.getElem_map]
              have hokA : OkKIS l[k].2.1 := (HA.out.1 _ (List.getElem_mem hkl)).2.1
              obtain ⟨ac, hac⟩ : ∃ ac, l[k].2.1 = ac := ⟨_, rfl⟩
              rw [hac] at c2 htk hokA
              have n1 : (k : Int) < (l.length : Int) := by omega
              have n0 : (0 : Int) ≤ (k : Int) := by omega
              have HT := Lib.hid htk
              have hP := HY.out.2.2
              have HCl := Lib.hid (wisClear hP.rel hP.far (by omega) hokA)
              clear hat htk hac hP hokA
              go_wp2_with fail
              refine HCl.out.mono ?_
              rintro e w7 ⟨X7, D7, y1, y2, rfl, x7, f7, h7⟩
              have hcount := drop_countW HY.out.2.2.rel.nodup y1 y2
              have hnew : clrL L ((l.map (·.2.1)).take (k + 1)) = U.filter fun u => decide (u.1 ≠ ac) := by rw [HT.out, clrL_snoc, HY.out.2.1]
              have HN : Hid ((((clrL L ((l.map (·.2.1)).take (k + 1))).length : Nat) : Int) = y - (D7.length : Nat) ∧ ∃ Y, StW w w.heap.size t 50 Y (clrL L ((l.map (·.2.1)).take (k + 1))) w7) := by
                rw [hnew]
                exact ⟨by have := HY.out.1; omega, X7, HY.out.2.2.put h7 f7⟩
              have hD7 : D7.length ≤ U.length := by omega
              have hyd : 0 ≤ y - (D7.length : Nat) ∧ y - (D7.length : Nat) ≤ 40 := by have := HY.out.1; omega
              have hw3 : IntKind.i64.wrap (y - ((D7.length : Nat) : Int)) = y - ((D7.length : Nat) : Int) := IntWalk.i64_in _ ⟨by omega, by omega⟩
              clear y1 y2 x7 f7 h7 hcount hnew
              go_wp2_with fail
              go_roundw
              case rel => exact ⟨k + 1, y - (D7.length : Nat), by go_num, by go_num, by omega, hyd.1, hyd.2, HN.out⟩
              case measure => simp [RowKit.intOf]; omega
            · obtain rfl : k = l.length := by omega
              have hnil : U = [] := by
                rw [← HY.out.2.1, List.take_of_length_le (by simp)]
                exact clrL_all fun u hu => by have := HP.out.2.1 u hu; rwa [List.take_of_length_le (by simp)] at this
              obtain rfl : y = 0 := by rw [← HY.out.1, hnil]; rfl
              clear hnil
              go_wp2_with fail
              go_ret
              exact ⟨rfl, HY.out.2.2.below⟩
end Go.Proofs.YtnoeblnljfnecaaGreatDoor
end
section
/- Layer 21: WishAsks, walked. -/
namespace Go.Proofs.YtnoeblnljfnecaaGreatDoor
set_option linter.unusedVariables false
set_option linter.unusedSimpArgs false
open Go Go.RowKit Go.Lib Go.Shelf

theorem namesM_len {ps : List (List UInt8)} (h : ∀ p ∈ ps, p.length ≤ 1000) : (namesM ps).length ≤ 100000 := by
  rcases ps with _ | ⟨p, _ | ⟨q, r⟩⟩
  · exact Nat.zero_le _
  · exact Nat.zero_le _
  · show (if p = [43] ∨ p = [45] then nicksV q else []).length ≤ 100000
    split
    · have h1 := List.length_filter_le nickB (splitC 44 q)
      have h2 := splitC_len 44 q
      have h3 := h q (by simp)
      unfold nicksV
      omega
    · simp
theorem watchA_len (ps : List (List UInt8)) : (watchA ps).length ≤ ps.length + 1 := by
  unfold watchA
  split
  · simp
  · have := watchV_len ps; omega

end Go.Proofs.YtnoeblnljfnecaaGreatDoor
end
section
/- The rows of bytes that valid reads: what is laid, in the world that a law begins in. -/
namespace Go.Proofs.YtnoeblnljfnecaaGreatDoor
open Go.ChangeShapes Go.WideShapes Go.ChangeAt Go.RowKit

theorem rowed_of3 {W : World} (h : laidMetH Tryz.prog [("unicode/utf8.acceptRanges", Rows.laid_unicode_utf8_acceptRanges), ("rollcall/valid.bytesOf", Rows.laid_rollcall_valid_bytesOf), ("unicode/utf8.first", Rows.laid_unicode_utf8_first)] W) : Rowed W := by
  rw [MakeChecks.laidMetH_plain _ _ _ (by kernel_rfl)] at h
  obtain ⟨ps, ⟨_, _, _, _, _, _, _, _, _, _, ⟨g, t, cs, fuel, p, q, hg, ht, hv, hd, _, _⟩, _⟩, _⟩ := h
  obtain rfl := Option.some.inj ((show Tryz.prog.globalNamed "rollcall/valid.bytesOf" = some 0 by kernel_rfl).symm.trans hg)
  obtain rfl := Option.some.inj ((show (Tryz.prog.globals[0]?).map (·.type) = some 145 by kernel_rfl).symm.trans ht)
  obtain ⟨xs, m, _, ex, _, hl, hel⟩ := DataW.trod_array Tryz.underlying145 hd
  intro i hi
  have c5 : Tryz.prog.cellsOf 9 = 1 := by kernel_rfl
  have e3 : (xs.map (·.1)) = (List.range 11).map fun k => .lit (.string (laidRow k)) := (DataW.agg.inj (Prod.mk.inj ex).1).symm
  have hlen : xs.length = 11 := by have := congrArg List.length e3; simpa using this
  have hE := hel i (by omega)
  rw [c5, Nat.mul_one, List.getElem?_eq_getElem (by omega)] at hE
  obtain ⟨s, e1, e2, _⟩ := DataW.trod_string Tryz.underlying9 hE
  have e4 : (xs.map (·.1))[i]? = ((List.range 11).map fun k => (DataW.lit (.string (laidRow k)) : DataW Unit))[i]? := by rw [e3]
  rw [List.getElem?_map, List.getElem?_map, List.getElem?_eq_getElem (by omega : i < xs.length), List.getElem?_eq_getElem (by simpa using hi : i < (List.range 11).length), e2] at e4
  have hz : s.data.toList = laidRow i := by
    simp only [Option.map_some, Option.some.injEq, DataW.lit.injEq, Lit.string.injEq, List.getElem_range] at e4
    exact e4
  refine ⟨s, ?_, hz⟩
  rw [World.var?_cell hg hv i]
  have : cs.toList[i]? = some (.string s) := by
    have h0 : ((cs.toList.drop i).take 1)[0]? = some (.string s) := by rw [e1]; rfl
    simpa using h0
  simpa using this
end Go.Proofs.YtnoeblnljfnecaaGreatDoor
end
section
/- A law's last step where the call has made memory of its own, of whatever sort: what lay before lies as it lay, so each argument reads as it read. -/
namespace Go.Proofs.YtnoeblnljfnecaaGreatDoor
open Go Go.RowKit Go.WideShapes Go.ChangeShapes

theorem post_below {H : Type} {enc : TypeId × Value → H} {P : Program} {f : Func} {s : ChangeSpec} {apart fresh handsOn again : Bool} {W W' : World} {args : Array Value} {v : Value} {ds gs : List (DataW H)} {all pa pv : List MemPlace}
    (hW : DataW.Whole enc P f.params.toList s.vars apart W args.toList ds gs all)
    (hr : ∀ (b : Nat) (sp : Nat → Bool) (hd : Bool), DataW.TrodAll enc P W' b sp hd f.resultTypes.toList (v.resultList f.resultTypes.size) (s.fn H (ds ++ gs)).results [])
    (ha : ∀ sp : Nat → Bool, (∀ p ∈ all, sp p.block = true) → DataW.TrodAll enc P W' 0 sp true f.params.toList args.toList (s.fn H (ds ++ gs)).args pa)
    (hv : ∀ sp : Nat → Bool, (∀ p ∈ all, sp p.block = true) → DataW.TrodVars enc P W' sp s.vars (s.fn H (ds ++ gs)).vars pv)
    (hpl : all = pa ++ pv) (hB : Below W.heap.size W W')
    (hok : ∀ (j : Nat) (t : TypeId) (r : Value), f.resultTypes[j]? = some t → (v.resultList f.resultTypes.size)[j]? = some r → Value.okWide P W' .any 0 t r) :
    s.post enc P f apart fresh handsOn again W args v W' := by
  have low : ∀ p ∈ all, p.block < W.heap.size := fun p hp => hW.lt p hp
  refine ⟨ds, gs, all, [], pa, pv, hW, hr _ _ _, ha (fun b => decide (b < W.heap.size)) fun p hp => by simpa using low p hp, hv (fun b => decide (b < W.heap.size)) fun p hp => by simpa using low p hp,
    World.keptBut_mono (fun p hp => ⟨hp, .inr (by rw [hpl, List.mem_append] at hp; exact hp)⟩) (hB.frame (· ∈ all)), fun _ => ?_⟩
  obtain ⟨_, _, _, _, _, hfrozen, hapart⟩ := hW
  have same : ∀ p : MemPlace, p ∈ ([] ++ pa) ++ pv → p ∈ all := fun p hp => by rw [hpl]; simpa using hp
  refine ⟨hok, _, _, ([] ++ pa) ++ pv, ⟨[] ++ pa, pv, trodAll_append (ha _ fun _ _ => rfl) (hr _ _ _), hv _ fun _ _ => rfl, rfl, fun b off hp => ?_, fun h => ?_⟩, fun p hp _ => ?_⟩
  · rw [hB.frozen (low _ (same _ hp))]
    exact hfrozen b off (same _ hp)
  · have := hapart h
    rw [hpl] at this
    simpa using this
  · rw [hpl]
    simpa using hp
end Go.Proofs.YtnoeblnljfnecaaGreatDoor
end
