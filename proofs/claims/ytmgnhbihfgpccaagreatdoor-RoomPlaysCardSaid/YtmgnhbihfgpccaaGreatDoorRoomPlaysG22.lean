/- Texts of this proof, one behind the other. -/
import Derived.Test.YtmgnhbihfgpccaaGreatDoorRoomPlaysG20
import Derived.Test.YtmgnhbihfgpccaaGreatDoorRoomPlaysG21
import Derived.Test.YtmgnhbihfgpccaaGreatDoorRoomPlaysG9
import Derived.Test.YtmgnhbihfgpccaaGreatDoorRoomPlaysG5
set_option linter.unusedVariables false
set_option linter.unusedSimpArgs false
section
/- Layer 19: RoomPlays. -/
namespace Go.Proofs.YtmgnhbihfgpccaaGreatDoor
open Go Go.RowKit

set_option maxRecDepth 100000 in
theorem neqM (a b : Mem) (W : World) : (binOp .neq 38 (.agg #[.int .i64 a.1, .bool a.2.1, .bool a.2.2]) (.agg #[.int .i64 b.1, .bool b.2.1, .bool b.2.2])).run Tryz.prog W = .ok (.bool (!decide (a = b))) W := by
  have u1 := Tryz.underlying3
  have u2 := Tryz.underlying4
  have a1 := Tryz.isAgg3
  have a2 := Tryz.isAgg4
  have z1 := Tryz.sizeOf3
  have z2 := Tryz.sizeOf4
  have hS : Tryz.prog.underlying 38 = some (.struct (Tryz.prog.fieldsOf 38)) := by kernel_rfl
  have hp : Tryz.prog.stoodInHeld 38 = false := by kernel_rfl
  rw [run_neq_struct, show (10000 : Nat) = 9999 + 1 from rfl, run_equalIn_agg W 9999 38 _ _ hS hp]
  simp only [Program.fieldsOf, Tryz.underlying38]
  go_simp
  obtain ⟨a1, a2, a3⟩ := a
  obtain ⟨b1, b2, b3⟩ := b
  by_cases h1 : a1 = b1 <;> by_cases h2 : a2 = b2 <;> by_cases h3 : a3 = b3 <;> simp [h1, h2, h3]
theorem guardN (x y : Operand) (xs ys : Array Value) (W : World) : (eqGuard .neq 38 x y (.agg xs) (.agg ys)).run Tryz.prog W = .ok () W := run_eqGuard_agg W .neq _ x y xs ys (by kernel_rfl)
theorem chg_nm (r : Rm) (on : Bool) (c : UInt8) (arg : List UInt8) (id : Int) : (chgAll r on c arg id).2.nm = r.nm := by
  unfold chgAll
  split
  · unfold chgFl; split <;> rfl
  · split
    · unfold chgMark; split
      · split <;> rfl
      · rfl
    · split
      · unfold chgKey
        split
        · split
          · rfl
          · split <;> rfl
        · split <;> rfl
      · split
        · unfold chgLim
          split
          · split <;> rfl
          · split <;> rfl
        · split
          · unfold chgBan
            split
            · rfl
            · split
              · rfl
              · split
                · rfl
                · split <;> rfl
          · rfl
theorem act_nm (r : Rm) (a : Act19) : (actR r a).nm = r.nm := by
  unfold actR
  split
  · split <;> rfl
  · split
    · rfl
    · split
      · rfl
      · split
        · exact chg_nm _ _ _ _ _
        · unfold addR; split <;> rfl
/-- both rooms, told alike, by their name -/
def StN (base B B2 k : Nat) (w2 wr : World) : Prop := ∃ q r qx x, Two19 base B q r B2 qx x wr ∧ Rel19 k r x ∧ RowKit.Below base w2 wr ∧ r.nm = [35, 97]
set_option maxRecDepth 100000 in
set_option maxHeartbeats 64000000 in
theorem roomPlays_main (mb : Int) (A : Option Addr) (l : List Act19) (cc : Nat) (w : World) (hg : grA l = false) (hA : ReadsA w A l) (hr : Rowed w) (hp : PowR w) :
    Calls Tryz.prog 3 #[.int .i64 mb, .slice A l.length cc] w fun e w' => e = .returned (.bool true) ∧ RowKit.Below w.heap.size w w' := by
  obtain ⟨hl40, hac⟩ := grA_mem hg
  have HA := Lib.hid hA
  have HG := Lib.hid hg
  have HAC := Lib.hid hac
  have HAW := Lib.hid (awake19 w hr hp)
  have HR := Lib.hid (And.intro hr hp)
  clear hA hg hac hr hp
  go_enter Tryz.func3, Tryz.ntmps3
  go_wp2_with fail
  refine HAW.out.mono ?_
  rintro e w1 ⟨rfl, b1⟩
  have B1 := Lib.hid b1
  clear b1
  go_wp2_with fail
  refine (great19 A cc l w1 (HA.out.below B1.out) (by omega)).mono ?_
  rintro e w2 ⟨rfl, hw2⟩
  rw [hw2, HG.out]
  clear hw2
  obtain ⟨base, hbase⟩ : ∃ base, w1.heap.size = base := ⟨_, rfl⟩
  have HBASE : Hid (w.heap.size ≤ base) := by show _ ≤ _; rw [← hbase]; exact B1.out.size
  have HBS : Hid (base ≤ w1.heap.size) := by show _ ≤ _; omega
  have HN := Lib.hid (newR_any [35, 97] mb w1)
  go_wp2_with fail
  refine HN.out.mono ?_
  rintro e w3 ⟨B, q3, rfl, h3, b3⟩
  have HN2 := Lib.hid (refNew_any [35, 97] mb w3)
  have H3 := Lib.hid (And.intro h3 b3)
  clear h3 b3
  go_wp2_with fail
  refine HN2.out.mono ?_
  rintro e w4 ⟨B2, q4, rfl, h4, b4⟩
  have hst0 : StN base B B2 0 w1 w4 := ⟨q3, _, q4, _, by rw [← hbase]; exact two_new H3.out.1 H3.out.2 h4 b4, rel_new [35, 97] mb, by rw [← hbase]; exact H3.out.2.trans (b4.mono H3.out.2.size), rfl⟩
  have HS0 := Lib.hid hst0
  have HRW : Hid (∀ W, RowKit.Below base w1 W → Rowed W) := fun W hW => (HR.out.1.keep B1.out).keep hW (by omega)
  have HPW : Hid (∀ W, RowKit.Below base w1 W → PowR W) := fun W hW => (HR.out.2.below B1.out).below hW (by omega)
  clear h4 b4 hst0 H3 HN HN2 HAW hbase
  go_wp2_with fail
  go_loopw [7] (fun s wr => ∃ k : Nat, k ≤ l.length ∧ s = .int .i64 k ∧ Hid (StN base B B2 k w1 wr)) (fun s _ => l.length - (Go.RowKit.intOf s).toNat)
  case atStart => exact ⟨0, Nat.zero_le _, rfl, HS0⟩
  case round =>
    obtain ⟨k, hk, rfl, HS⟩ := hrel
    by_cases hlt : k < l.length
    · obtain ⟨q, r, qx, x, h2, hrel, hb, hnm⟩ := HS.out
      have hb0 : RowKit.Below w.heap.size w wr := B1.out.trans (hb.mono HBASE.out)
      obtain ⟨g, o, rfl, hgl, hc⟩ := HA.out (by omega)
      have hbl := hb0.block g hgl
      have e0 := fun i (hi : i < 7) => (World.cell?_of_block (w := w) (w' := wr) (a := ⟨g, o + k * 7 + i, none⟩) hbl).trans (hc k hlt i hi)
      obtain ⟨a, ha⟩ : ∃ a, l[k] = a := ⟨_, rfl⟩
      rw [ha] at e0
      have hab := HAC.out a (ha ▸ List.getElem_mem hlt)
      have HACT := Lib.hid (act_any h2 hrel (by omega) a hab.1 hab.2 fun W hW => HRW.out W (hb.trans hW))
      have cw := fun i (hi : i < 7) => (World.cell?_of_block (w := w) (w' := wr) (a := ⟨g, o + k * 7 + i, none⟩) hbl).symm.trans (e0 i hi)
      have HCW : Hid (g < w.heap.size ∧ w.cell? ⟨g, o + k * 7 + 1, none⟩ = some (.int .i64 a.id) ∧ w.cell? ⟨g, o + k * 7 + 5, none⟩ = some (.int .u8 a.l.toNat)) := ⟨hgl, cw 1 (by decide), cw 5 (by decide)⟩
      clear cw
      have HREL := Lib.hid (And.intro h2 (And.intro (rel_act hrel a hab.2) (And.intro hb ((act_nm r a).trans hnm))))
      have c0 : wr.cell? ⟨g, o + k * 7, none⟩ = some (.int .i64 a.k) := e0 0 (by decide)
      have c1 : wr.cell? ⟨g, o + k * 7 + 1, none⟩ = some (.int .i64 a.id) := e0 1 (by decide)
      have c2 : wr.cell? ⟨g, o + k * 7 + 2, none⟩ = some (.bool a.op) := e0 2 (by decide)
      have c3 : wr.cell? ⟨g, o + k * 7 + 3, none⟩ = some (.string (bs a.s)) := e0 3 (by decide)
      have c4 : wr.cell? ⟨g, o + k * 7 + 4, none⟩ = some (.bool a.on) := e0 4 (by decide)
      have c5 : wr.cell? ⟨g, o + k * 7 + 5, none⟩ = some (.int .u8 a.l.toNat) := e0 5 (by decide)
      have c6 : wr.cell? ⟨g, o + k * 7 + 6, none⟩ = some (.string (bs a.arg)) := e0 6 (by decide)
      clear h2 hrel hb hnm hb0 hgl hc hbl e0 ha hab
      unfold actV at HACT
      go_wp2_with fail
      refine HACT.out.mono ?_
      rintro e w5 ⟨rfl, hs5⟩
      have hst5 : StN base B B2 (k + 1) w1 w5 := by
        obtain ⟨q', qx', s1, s2, s3⟩ := hs5
        exact ⟨q', _, qx', _, s1, HREL.out.2.1, HREL.out.2.2.1.trans (s2.below (B := base) (Nat.le_trans HBS.out HREL.out.2.2.1.size) fun k hk e => by have := (HREL.out.1.lt k e).1; omega), HREL.out.2.2.2⟩
      have HS5 := Lib.hid hst5
      clear hs5 hst5 c0 c1 c2 c3 c4 c5 c6 HACT HREL HS
      obtain ⟨q, r, qx, x, h2, hrel, hb, hnm⟩ := HS5.out
      have hb05 : RowKit.Below w.heap.size w w5 := B1.out.trans (hb.mono HBASE.out)
      -- what is told, in every world from here on
      have HP5 : Hid (∀ V, RowKit.Below w5.heap.size w5 V → RoomAt base B q r V ∧ RxAt base B2 qx x V ∧ PowR V) := fun V hV => ⟨h2.p.below hV, h2.d.below hV, HPW.out V (hb.trans (hV.mono (Nat.le_trans HBS.out hb.size)))⟩
      have HRL := Lib.hid hrel
      have HBN := Lib.hid (bans_law (w := w5) (p := some ⟨B, 0, none⟩) (R := r.bans) (fun V2 h12 => bans_any (h2.p.fr h12 fun _ _ e => e) (by have := hrel.s2; omega)) (by have := hrel.s2; omega))
      obtain ⟨id, hid⟩ : ∃ id, a.id = id := ⟨_, rfl⟩
      obtain ⟨lt, hltr⟩ : ∃ lt, a.l = lt := ⟨_, rfl⟩
      have HCI : Hid (∀ V, RowKit.Below w5.heap.size w5 V → V.cell? ⟨g, o + k * 7 + 1, none⟩ = some (.int .i64 id) ∧ V.cell? ⟨g, o + k * 7 + 5, none⟩ = some (.int .u8 lt.toNat)) := fun V hV => by
        have hbV : RowKit.Below w.heap.size w V := hb05.trans (hV.mono hb05.size)
        rw [← hid, ← hltr]
        exact ⟨(World.cell?_of_block (w := w) (w' := V) (a := ⟨g, o + k * 7 + 1, none⟩) (hbV.block g HCW.out.1)).trans HCW.out.2.1, (World.cell?_of_block (w := w) (w' := V) (a := ⟨g, o + k * 7 + 5, none⟩) (hbV.block g HCW.out.1)).trans HCW.out.2.2⟩
      have hmb := fun V (hV : RowKit.Below w5.heap.size w5 V) => member_any2 (h2.p.below hV) id (by have := hrel.s1; omega)
      obtain ⟨m, hmm⟩ : ∃ m, (if hasM r.mem id then r.mem.getD (ixM r.mem id) default else (0, false, false)) = m := ⟨_, rfl⟩
      obtain ⟨xb, hxb⟩ : ∃ xb, hasM r.mem id = xb := ⟨_, rfl⟩
      rw [hmm, hxb] at hmb
      have HX := Lib.hid (And.intro hmm hxb)
      obtain ⟨mi, mo, mv⟩ := m
      unfold memV at hmb
      have HMB : Hid (∀ V, RowKit.Below w5.heap.size w5 V → Calls Tryz.prog 13 #[.pointer (some ⟨B, 0, none⟩), .int .i64 id] V fun e w' => e = .returned (.tuple #[.agg #[.int .i64 mi, .bool mo, .bool mv], .bool xb]) ∧ RowKit.Below V.heap.size V w') := @hmb
      have HAT := Lib.hid (fun V (hV : RowKit.Below w5.heap.size w5 V) => refAt_any (HP5.out V hV).2.1 id (by have := hrel.mem.length_eq; have := hrel.s1; omega))
      have HNM := Lib.hid hnm
      have HB5 := Lib.hid (And.intro hb hb05)
      clear h2 hrel hb hb05 hnm hmb hmm hxb hid hltr HCW
      go_wp2_with fail
      refine HBN.out.mono ?_
      rintro e V1 ⟨⟨Ab, cb, rfl, oa⟩, bV1⟩
      have c1 := (HCI.out V1 bV1).1
      have H1 := Lib.hid (And.intro bV1 oa)
      clear bV1 oa HBN
      go_wp2_with fail
      refine (HMB.out V1 H1.out.1).mono ?_
      rintro e V2 ⟨rfl, bV2⟩
      have b2 := H1.out.1.trans (bV2.mono H1.out.1.size)
      have b3 : RowKit.Below w5.heap.size w5 (V2.alloc (.cells #[.int .i64 mi, .bool mo, .bool mv] 38)) := b2.alloc b2.size _
      have o3 := ownT_kept H1.out.2 fun g hg => ((bV2.alloc bV2.size (.cells #[.int .i64 mi, .bool mo, .bool mv] 38)) : RowKit.Below V1.heap.size V1 _).block g (H1.out.2.lt g hg).2
      have hM := heap_alloc_new V2 (.cells #[.int .i64 mi, .bool mo, .bool mv] 38)
      clear c1
      have c1 := (HCI.out _ b3).1
      have H3 := Lib.hid (And.intro b3 (And.intro o3 hM))
      clear bV2 b2 b3 o3 hM HMB
      go_wp2_with fail
      refine (HAT.out _ H3.out.1).mono ?_
      rintro e V4 ⟨rfl, hV4⟩
      rw [hV4]
      clear hV4 c1
      obtain ⟨W, hW⟩ : ∃ W, V2.alloc (.cells #[.int .i64 mi, .bool mo, .bool mv] 38) = W := ⟨_, rfl⟩
      rw [hW] at H3 ⊢
      obtain ⟨MB, hMB⟩ : ∃ MB, V2.heap.size = MB := ⟨_, rfl⟩
      rw [hMB] at H3 ⊢
      clear hW hMB HAT
      have HWV : Hid (∀ V, RowKit.Below W.heap.size W V → RowKit.Below w5.heap.size w5 V) := fun V hV => H3.out.1.trans (hV.mono H3.out.1.size)
      have CM : Hid (∀ V, RowKit.Below W.heap.size W V → V.cell? ⟨MB, 0, none⟩ = some (.int .i64 mi) ∧ V.cell? ⟨MB, 1, none⟩ = some (.bool mo) ∧ V.cell? ⟨MB, 2, none⟩ = some (.bool mv)) := fun V hV => by
        have hk := (hV.block MB (blk_lt H3.out.2.2)).trans H3.out.2.2
        exact ⟨blk_cell hk 0, blk_cell hk 1, blk_cell hk 2⟩
      have CC : Hid (∀ V, RowKit.Below W.heap.size W V → V.cell? ⟨g, o + k * 7 + 5, none⟩ = some (.int .u8 lt.toNat)) := fun V hV => (HCI.out V (HWV.out V hV)).2
      obtain ⟨A7, c7, hv7⟩ := row_slice (HP5.out _ (Below.refl _ _)).2.1.2.2.1
      rw [HRL.out.bans] at hv7
      have C7 : Hid (∀ V, RowKit.Below W.heap.size W V → V.cell? ⟨B2, 7, none⟩ = some (.slice A7 r.bans.length c7)) := fun V hV => by rw [← hv7]; exact blk_cell (HP5.out V (HWV.out V hV)).2.1.1 7
      have TX1 : Hid (∀ V, RowKit.Below W.heap.size W V → Calls Tryz.prog 15 #[.slice Ab r.bans.length cb, .slice A7 r.bans.length c7] V fun e w' => e = .returned (.bool true) ∧ ∃ n, w' = V.drewN n) := fun V hV => by
        have h7 := (HP5.out V (HWV.out V hV)).2.1.2.2.1
        rw [HRL.out.bans, hv7] at h7
        exact texts_same cb c7 (by have := HRL.out.s2; omega) (reads_ownT (ownT_kept H3.out.2.1 fun g hg => hV.block g (H3.out.2.1.lt g hg).2)) (reads_ownT h7)
      have RMEM : Hid (∀ V, RowKit.Below W.heap.size W V → Calls Tryz.prog 17 #[.pointer (some ⟨B2, 0, none⟩)] V fun e w' => (∃ A c, e = .returned (.slice A r.mem.length c) ∧ OwnM V.heap.size w' (.slice A r.mem.length c) r.mem) ∧ RowKit.Below V.heap.size V w') := fun V hV => refMembers_any (HP5.out V (HWV.out V hV)).2.1 r.mem HRL.out.up HRL.out.mem (by have := HRL.out.s1; omega)
      have LMEM : Hid (∀ V A c, RowKit.Below W.heap.size W V → ReadsM V A r.mem → Calls Tryz.prog 16 #[.pointer (some ⟨B, 0, none⟩), .slice A r.mem.length c] V fun e w' => e = .returned (.bool true) ∧ Fr (fun _ => False) V w') := fun V A c hV hA =>
        members_law (fun V2 f => members_any ((HP5.out V (HWV.out V hV)).1.fr f fun _ _ e => e) (by have := HRL.out.s1; omega)) (fun V2 f => rlen_any ((HP5.out V (HWV.out V hV)).1.fr f fun _ _ e => e)) (by have := HRL.out.s1; omega) A c hA
      have hdrew : RowKit.Below W.heap.size W W.drew := below_drewN (Below.refl _ _) 1
      have HSTN : Hid (∀ V, RowKit.Below W.heap.size W V → Hid (StN base B B2 (k + 1) w1 V)) := fun V hV => by
        obtain ⟨q, r, qx, x, h2, hrel, hb, hnm⟩ := HS5.out
        have := HWV.out V hV
        exact ⟨q, r, qx, x, h2.below this, hrel, hb.trans (this.mono (Nat.le_trans HBS.out hb.size)), hnm⟩
      -- the second region
      obtain ⟨tpb, htpb⟩ : ∃ tpb, bs r.tp = tpb := ⟨_, rfl⟩
      have NA : Hid (∀ V, RowKit.Below W.heap.size W V → Calls Tryz.prog 18 #[.pointer (some ⟨B, 0, none⟩)] V fun e w' => e = .returned (.string ⟨#[35, 97]⟩) ∧ w' = V) := fun V hV => by
        have := name_any (HP5.out V (HWV.out V hV)).1.1
        rw [HNM.out] at this
        exact this
      have TP : Hid (∀ V, RowKit.Below W.heap.size W V → Calls Tryz.prog 19 #[.pointer (some ⟨B, 0, none⟩)] V fun e w' => e = .returned (.string tpb) ∧ w' = V) := fun V hV => by
        rw [← htpb]; exact topic_any (HP5.out V (HWV.out V hV)).1.1
      have CT : Hid (∀ V, RowKit.Below W.heap.size W V → V.cell? ⟨B2, 3, none⟩ = some (.string tpb)) := fun V hV => by
        rw [← htpb, ← HRL.out.tp]; exact blk_cell (HP5.out V (HWV.out V hV)).2.1.1 3
      obtain ⟨MT, hMT⟩ : ∃ MT, modesL r.fl.has r.key r.lim (Lib.itoa r.lim) true = MT := ⟨_, rfl⟩
      obtain ⟨MF, hMF⟩ : ∃ MF, modesL r.fl.has r.key r.lim (Lib.itoa r.lim) false = MF := ⟨_, rfl⟩
      have HML : Hid (MT.length ≤ 3 ∧ MF.length ≤ 3) := by
        rw [← hMT, ← hMF]
        unfold modesL
        constructor <;> by_cases h1 : r.key = [] <;> by_cases h2 : r.lim = 0 <;> simp [h1, h2]
      have MPT : Hid (∀ V, RowKit.Below W.heap.size W V → Calls Tryz.prog 20 #[.pointer (some ⟨B, 0, none⟩), .bool true] V (RetT MT V)) := fun V hV => by
        rw [← hMT]; exact modes_any (HP5.out V (HWV.out V hV)).1 true (HP5.out V (HWV.out V hV)).2.2 (by have := HRL.out.s9; omega)
      have MPF : Hid (∀ V, RowKit.Below W.heap.size W V → Calls Tryz.prog 20 #[.pointer (some ⟨B, 0, none⟩), .bool false] V (RetT MF V)) := fun V hV => by
        rw [← hMF]; exact modes_any (HP5.out V (HWV.out V hV)).1 false (HP5.out V (HWV.out V hV)).2.2 (by have := HRL.out.s9; omega)
      have MXT : Hid (∀ V, RowKit.Below W.heap.size W V → Calls Tryz.prog 21 #[.pointer (some ⟨B2, 0, none⟩), .bool true] V (RetT MT V)) := fun V hV => by
        have := refModes_any (HP5.out V (HWV.out V hV)).2.1 true r.fl HRL.out.on r.lim HRL.out.lim (by have := HRL.out.s9; omega) (by have := HRL.out.s3; omega)
        rw [HRL.out.key, hMT] at this
        exact this
      have MXF : Hid (∀ V, RowKit.Below W.heap.size W V → Calls Tryz.prog 21 #[.pointer (some ⟨B2, 0, none⟩), .bool false] V (RetT MF V)) := fun V hV => by
        have := refModes_any (HP5.out V (HWV.out V hV)).2.1 false r.fl HRL.out.on r.lim HRL.out.lim (by have := HRL.out.s9; omega) (by have := HRL.out.s3; omega)
        rw [HRL.out.key, hMF] at this
        exact this
      obtain ⟨fv, hfv⟩ : ∃ fv, r.fl.has lt = fv := ⟨_, rfl⟩
      have FP : Hid (∀ V, RowKit.Below W.heap.size W V → Calls Tryz.prog 22 #[.pointer (some ⟨B, 0, none⟩), .int .u8 lt.toNat] V fun e w' => e = .returned (.bool fv) ∧ ∃ n, w' = V.drewN n) := fun V hV => by
        rw [← hfv]; exact flag_any (HP5.out V (HWV.out V hV)).1.1 lt
      have FX : Hid (∀ V, RowKit.Below W.heap.size W V → Calls Tryz.prog 23 #[.pointer (some ⟨B2, 0, none⟩), .int .u8 lt.toNat] V fun e w' => e = .returned (.bool fv) ∧ w' = V) := fun V hV => by
        rw [← hfv, ← HRL.out.on]; exact refFlag_any (HP5.out V (HWV.out V hV)).2.1 lt (by have := HRL.out.s3; omega)
      clear hMT hMF hfv htpb hv7
      cases xb
      rotate_left
      focus
        have hpos : 0 ≤ atM x.L id := by
          have h1 := HRL.out.has id
          rw [HX.out.2] at h1
          exact of_decide_eq_true h1.symm
        obtain ⟨j, hj⟩ : ∃ j : Nat, atM x.L id = j := ⟨(atM x.L id).toNat, by omega⟩
        obtain ⟨h1, hjl, hje⟩ := find_same HRL.out.up HRL.out.mem hj
        have hmx : x.L[j] = (mi, mo, mv) := by
          have h3 := HX.out.1
          rw [HX.out.2, if_pos rfl, List.getD_eq_getElem?_getD, List.getElem?_eq_getElem h1] at h3
          rw [← hje]; exact h3
        obtain ⟨A2, c2, hv2⟩ := ownM_slice (HP5.out _ (Below.refl _ _)).2.1.2.1
        have hrd := (HP5.out _ (Below.refl _ _)).2.1.2.1
        rw [hv2] at hrd
        obtain ⟨g2, o2, rfl, hg2, hcl⟩ := reads_ownM hrd (by omega)
        obtain ⟨e1, e2, e3⟩ := hcl j hjl
        rw [hmx] at e1 e2 e3
        have CL : Hid (∀ V, RowKit.Below W.heap.size W V → V.cell? ⟨g2, o2 + j * 3, none⟩ = some (.int .i64 mi) ∧ V.cell? ⟨g2, o2 + j * 3 + 1, none⟩ = some (.bool mo) ∧ V.cell? ⟨g2, o2 + j * 3 + 2, none⟩ = some (.bool mv)) := fun V hV => by
          have hbl := (HWV.out V hV).block g2 hg2
          exact ⟨(World.cell?_of_block (w := w5) (w' := V) (a := ⟨g2, o2 + j * 3, none⟩) hbl).trans e1, (World.cell?_of_block (w := w5) (w' := V) (a := ⟨g2, o2 + j * 3 + 1, none⟩) hbl).trans e2, (World.cell?_of_block (w := w5) (w' := V) (a := ⟨g2, o2 + j * 3 + 2, none⟩) hbl).trans e3⟩
        obtain ⟨nl, hnl⟩ : ∃ nl, x.L.length = nl := ⟨_, rfl⟩
        have C2 : Hid (∀ V, RowKit.Below W.heap.size W V → V.cell? ⟨B2, 2, none⟩ = some (.slice (some ⟨g2, o2, none⟩) nl c2)) := fun V hV => by rw [← hnl, ← hv2]; exact blk_cell (HP5.out V (HWV.out V hV)).2.1.1 2
        have hjn : (j : Int) < (nl : Int) := by omega
        have hj0 : (0 : Int) ≤ (j : Int) := by omega
        have hneq : ∀ V, (binOp .neq 38 (.agg #[.int .i64 mi, .bool mo, .bool mv]) (.agg #[.int .i64 mi, .bool mo, .bool mv])).run Tryz.prog V = .ok (.bool false) V := fun V => by have := neqM (mi, mo, mv) (mi, mo, mv) V; rw [decide_eq_true rfl] at this; exact this
        have hgrd : ∀ x y V, (eqGuard .neq 38 x y (.agg #[.int .i64 mi, .bool mo, .bool mv]) (.agg #[.int .i64 mi, .bool mo, .bool mv])).run Tryz.prog V = .ok () V := fun x y V => guardN x y _ _ V
        rw [hj]
        clear hpos hj h1 hjl hje hmx hv2 hrd hg2 hcl e1 e2 e3 hnl
        go_wp2_with fail
        refine wp_region_held_drew (S := fun V => RowKit.Below W.heap.size W V) (by kernel_rfl) (by exact hdrew) (fun hHeld => ?_)
        refine wpAnyH_read (i := 0) (oi := { dst := some 57, op := Go.Op.move (Go.Operand.tmp 9), type := 4, pos := "law.go:127", after := #[], guard := none }) ?_ rfl (by kernel_rfl) (by kernel_rfl) (by kernel_rfl) (fun _ _ _ h => h) (by rfl) (by exact hHeld) ?_ ?_
        rotate_left
        · (intro w0 hS0; go_simp <;> (try with_reducible rfl))
        try simp only [Act.put, List.setIfInBounds_toArray, List.set_cons_zero, List.set_cons_succ]
        refine wpAnyH_read (i := 1) (oi := { dst := some 58, op := Go.Op.unOp Go.UnOp.not 4 (Go.Operand.tmp 57), type := 4, pos := "law.go:127", after := #[{ on := 0, ground := Go.Ground.data }], guard := none }) ?_ rfl (by kernel_rfl) (by kernel_rfl) (by kernel_rfl) (fun _ _ _ h => h) (by rfl) (by exact hHeld) ?_ ?_
        rotate_left
        · (intro w0 hS0; go_simp <;> (try with_reducible rfl))
        try simp only [Act.put, List.setIfInBounds_toArray, List.set_cons_zero, List.set_cons_succ]
        refine wpAnyH_read (i := 2) (oi := { dst := some 59, op := Go.Op.move (Go.Operand.tmp 58), type := 4, pos := "law.go:127", after := #[{ on := 1, ground := Go.Ground.data }], guard := none }) ?_ rfl (by kernel_rfl) (by kernel_rfl) (by kernel_rfl) (fun _ _ _ h => h) (by rfl) (by exact hHeld) ?_ ?_
        rotate_left
        · (intro w0 hS0; go_simp <;> (try with_reducible rfl))
        try simp only [Act.put, List.setIfInBounds_toArray, List.set_cons_zero, List.set_cons_succ]
        refine wpAnyH_read (i := 3) (oi := { dst := some 60, op := Go.Op.move (Go.Operand.tmp 8), type := 34, pos := "law.go:127", after := #[{ on := 2, ground := Go.Ground.guard }], guard := some (2, false) }) ?_ rfl (by kernel_rfl) (by kernel_rfl) (by kernel_rfl) (fun _ _ _ h => h) (by rfl) (by exact hHeld) ?_ ?_
        rotate_left
        · (intro w0 hS0; go_simp <;> (try with_reducible rfl))
        try simp only [Act.put, List.setIfInBounds_toArray, List.set_cons_zero, List.set_cons_succ]
        refine wpAnyH_read (i := 4) (oi := { dst := some 61, op := Go.Op.move (Go.Operand.tmp 6), type := 27, pos := "law.go:127", after := #[{ on := 2, ground := Go.Ground.guard }], guard := some (2, false) }) ?_ rfl (by kernel_rfl) (by kernel_rfl) (by kernel_rfl) (fun _ _ _ h => h) (by rfl) (by exact hHeld) ?_ ?_
        rotate_left
        · (intro w0 hS0; go_simp <;> (try with_reducible rfl))
        try simp only [Act.put, List.setIfInBounds_toArray, List.set_cons_zero, List.set_cons_succ]
        refine wpAnyH_read (i := 5) (oi := { dst := some 62, op := Go.Op.nilCheck (Go.Operand.tmp 61), type := 0, pos := "law.go:127", after := #[{ on := 4, ground := Go.Ground.data }, { on := 2, ground := Go.Ground.guard }], guard := some (2, false) }) ?_ rfl (by kernel_rfl) (by kernel_rfl) (by kernel_rfl) (fun _ _ _ h => h) (by rfl) (by exact hHeld) ?_ ?_
        rotate_left
        · (intro w0 hS0; go_simp <;> (try with_reducible rfl))
        try simp only [Act.put, List.setIfInBounds_toArray, List.set_cons_zero, List.set_cons_succ]
        refine wpAnyH_read (i := 6) (oi := { dst := some 63, op := Go.Op.fieldAddr 46 (Go.Operand.tmp 62) 7, type := 0, pos := "law.go:127", after := #[{ on := 5, ground := Go.Ground.data }, { on := 2, ground := Go.Ground.guard }], guard := some (2, false) }) ?_ rfl (by kernel_rfl) (by kernel_rfl) (by kernel_rfl) (fun _ _ _ h => h) (by rfl) (by exact hHeld) ?_ ?_
        rotate_left
        · (intro w0 hS0; go_simp <;> (try with_reducible rfl))
        try simp only [Act.put, List.setIfInBounds_toArray, List.set_cons_zero, List.set_cons_succ]
        refine wpAnyH_read (i := 7) (oi := { dst := some 64, op := Go.Op.load 34 (Go.Operand.tmp 63), type := 34, pos := "law.go:127", after := #[{ on := 6, ground := Go.Ground.data }, { on := 2, ground := Go.Ground.guard }], guard := some (2, false) }) ?_ rfl (by kernel_rfl) (by kernel_rfl) (by kernel_rfl) (fun _ _ _ h => h) (by rfl) (by exact hHeld) ?_ ?_
        rotate_left
        · (intro w0 hS0; have hS1 : RowKit.Below W.heap.size W w0 := hS0; have s1 := C7.out w0 hS1; go_simp <;> (try with_reducible rfl))
        try simp only [Act.put, List.setIfInBounds_toArray, List.set_cons_zero, List.set_cons_succ]
        refine wpAnyH_one (i := 8) (o := { dst := some 65, op := Go.Op.call { callee := Go.Callee.value (Go.Operand.func 15), args := #[Go.Operand.tmp 60, Go.Operand.tmp 64], argTypes := #[34, 34] }, type := 4, pos := "law.go:127", after := #[{ on := 3, ground := Go.Ground.data }, { on := 7, ground := Go.Ground.data }, { on := 2, ground := Go.Ground.chain }, { on := 2, ground := Go.Ground.guard }], guard := some (2, false) }) (by kernel_rfl) rfl (by rfl) (fun K hK => ?_)
        go_simp
        have hH : RowKit.Below W.heap.size W _ := hHeld
        refine (TX1.out _ hH).mono ?_
        rintro e w9 ⟨rfl, n9, hw9⟩
        have hS8 := Lib.hid (by rw [hw9]; exact below_drewN hH n9 : RowKit.Below W.heap.size W w9)
        clear hw9 hH
        go_wp2_with fail
        refine hK.out _ _ ?_ (fun hHeld => ?_)
        · exact hS8.out
        clear hK K
        try simp only [Act.put, List.setIfInBounds_toArray, List.set_cons_zero, List.set_cons_succ]
        refine wpAnyH_read (i := 9) (oi := { dst := some 66, op := Go.Op.unOp Go.UnOp.not 4 (Go.Operand.tmp 65), type := 4, pos := "law.go:127", after := #[{ on := 8, ground := Go.Ground.data }, { on := 2, ground := Go.Ground.guard }], guard := some (2, false) }) ?_ rfl (by kernel_rfl) (by kernel_rfl) (by kernel_rfl) (fun _ _ _ h => h) (by rfl) (by exact hHeld) ?_ ?_
        rotate_left
        · (intro w0 hS0; go_simp <;> (try with_reducible rfl))
        try simp only [Act.put, List.setIfInBounds_toArray, List.set_cons_zero, List.set_cons_succ]
        refine wpAnyH_read (i := 10) (oi := { dst := some 67, op := Go.Op.pick (Go.Operand.tmp 59) (Go.Operand.const (Go.Value.bool true)) (Go.Operand.tmp 66), type := 4, pos := "law.go:127", after := #[{ on := 2, ground := Go.Ground.data }, { on := 9, ground := Go.Ground.data }], guard := none }) ?_ rfl (by kernel_rfl) (by kernel_rfl) (by kernel_rfl) (fun _ _ _ h => h) (by rfl) (by exact hHeld) ?_ ?_
        rotate_left
        · (intro w0 hS0; go_simp <;> (try with_reducible rfl))
        try simp only [Act.put, List.setIfInBounds_toArray, List.set_cons_zero, List.set_cons_succ]
        refine wpAnyH_read (i := 11) (oi := { dst := some 68, op := Go.Op.move (Go.Operand.tmp 67), type := 4, pos := "law.go:127", after := #[{ on := 10, ground := Go.Ground.data }, { on := 8, ground := Go.Ground.chain }], guard := none }) ?_ rfl (by kernel_rfl) (by kernel_rfl) (by kernel_rfl) (fun _ _ _ h => h) (by rfl) (by exact hHeld) ?_ ?_
        rotate_left
        · (intro w0 hS0; go_simp <;> (try with_reducible rfl))
        try simp only [Act.put, List.setIfInBounds_toArray, List.set_cons_zero, List.set_cons_succ]
        refine wpAnyH_read (i := 12) (oi := { dst := some 69, op := Go.Op.move (Go.Operand.tmp 5), type := 25, pos := "law.go:127", after := #[{ on := 11, ground := Go.Ground.guard }], guard := some (11, false) }) ?_ rfl (by kernel_rfl) (by kernel_rfl) (by kernel_rfl) (fun _ _ _ h => h) (by rfl) (by exact hHeld) ?_ ?_
        rotate_left
        · (intro w0 hS0; go_simp <;> (try with_reducible rfl))
        try simp only [Act.put, List.setIfInBounds_toArray, List.set_cons_zero, List.set_cons_succ]
        refine wpAnyH_read (i := 13) (oi := { dst := some 70, op := Go.Op.move (Go.Operand.tmp 6), type := 27, pos := "law.go:127", after := #[{ on := 11, ground := Go.Ground.guard }], guard := some (11, false) }) ?_ rfl (by kernel_rfl) (by kernel_rfl) (by kernel_rfl) (fun _ _ _ h => h) (by rfl) (by exact hHeld) ?_ ?_
        rotate_left
        · (intro w0 hS0; go_simp <;> (try with_reducible rfl))
        try simp only [Act.put, List.setIfInBounds_toArray, List.set_cons_zero, List.set_cons_succ]
        refine wpAnyH_one (i := 14) (o := { dst := some 71, op := Go.Op.call { callee := Go.Callee.value (Go.Operand.func 17), args := #[Go.Operand.tmp 70], argTypes := #[27] }, type := 43, pos := "law.go:127", after := #[{ on := 13, ground := Go.Ground.data }, { on := 11, ground := Go.Ground.chain }, { on := 11, ground := Go.Ground.guard }], guard := some (11, false) }) (by kernel_rfl) rfl (by rfl) (fun K hK => ?_)
        go_simp
        have hH : RowKit.Below W.heap.size W _ := hHeld
        refine (RMEM.out _ hH).mono ?_
        rintro e w9 ⟨⟨Am, cm, rfl, o9⟩, b9⟩
        have hS14 := Lib.hid (And.intro (hH.trans (b9.mono hH.size) : RowKit.Below W.heap.size W w9) (reads_ownM o9))
        clear o9 b9 hH
        go_wp2_with fail
        refine hK.out _ _ ?_ (fun hHeld => ?_)
        · exact hS14.out.1
        clear hK K
        try simp only [Act.put, List.setIfInBounds_toArray, List.set_cons_zero, List.set_cons_succ]
        refine wpAnyH_one (i := 15) (o := { dst := some 72, op := Go.Op.call { callee := Go.Callee.value (Go.Operand.func 16), args := #[Go.Operand.tmp 69, Go.Operand.tmp 71], argTypes := #[25, 43] }, type := 4, pos := "law.go:127", after := #[{ on := 12, ground := Go.Ground.data }, { on := 14, ground := Go.Ground.data }, { on := 14, ground := Go.Ground.chain }, { on := 11, ground := Go.Ground.guard }], guard := some (11, false) }) (by kernel_rfl) rfl (by rfl) (fun K hK => ?_)
        go_simp
        refine (LMEM.out _ _ _ hS14.out.1 hS14.out.2).mono ?_
        rintro e w9 ⟨rfl, f9⟩
        have hS15 := Lib.hid (hS14.out.1.trans (f9.below hS14.out.1.size fun k _ e => e.elim) : RowKit.Below W.heap.size W w9)
        clear f9
        go_wp2_with fail
        refine hK.out _ _ ?_ (fun hHeld => ?_)
        · exact hS15.out
        clear hK K
        try simp only [Act.put, List.setIfInBounds_toArray, List.set_cons_zero, List.set_cons_succ]
        refine wpAnyH_read (i := 16) (oi := { dst := some 73, op := Go.Op.unOp Go.UnOp.not 4 (Go.Operand.tmp 72), type := 4, pos := "law.go:127", after := #[{ on := 15, ground := Go.Ground.data }, { on := 11, ground := Go.Ground.guard }], guard := some (11, false) }) ?_ rfl (by kernel_rfl) (by kernel_rfl) (by kernel_rfl) (fun _ _ _ h => h) (by rfl) (by exact hHeld) ?_ ?_
        rotate_left
        · (intro w0 hS0; go_simp <;> (try with_reducible rfl))
        try simp only [Act.put, List.setIfInBounds_toArray, List.set_cons_zero, List.set_cons_succ]
        refine wpAnyH_read (i := 17) (oi := { dst := some 74, op := Go.Op.pick (Go.Operand.tmp 68) (Go.Operand.const (Go.Value.bool true)) (Go.Operand.tmp 73), type := 4, pos := "law.go:127", after := #[{ on := 11, ground := Go.Ground.data }, { on := 16, ground := Go.Ground.data }], guard := none }) ?_ rfl (by kernel_rfl) (by kernel_rfl) (by kernel_rfl) (fun _ _ _ h => h) (by rfl) (by exact hHeld) ?_ ?_
        rotate_left
        · (intro w0 hS0; go_simp <;> (try with_reducible rfl))
        try simp only [Act.put, List.setIfInBounds_toArray, List.set_cons_zero, List.set_cons_succ]
        refine wpAnyH_read (i := 18) (oi := { dst := some 75, op := Go.Op.move (Go.Operand.tmp 74), type := 4, pos := "law.go:127", after := #[{ on := 17, ground := Go.Ground.data }, { on := 15, ground := Go.Ground.chain }], guard := none }) ?_ rfl (by kernel_rfl) (by kernel_rfl) (by kernel_rfl) (fun _ _ _ h => h) (by rfl) (by exact hHeld) ?_ ?_
        rotate_left
        · (intro w0 hS0; go_simp <;> (try with_reducible rfl))
        try simp only [Act.put, List.setIfInBounds_toArray, List.set_cons_zero, List.set_cons_succ]
        refine wpAnyH_read (i := 19) (oi := { dst := some 76, op := Go.Op.move (Go.Operand.tmp 11), type := 4, pos := "law.go:127", after := #[{ on := 18, ground := Go.Ground.guard }], guard := some (18, false) }) ?_ rfl (by kernel_rfl) (by kernel_rfl) (by kernel_rfl) (fun _ _ _ h => h) (by rfl) (by exact hHeld) ?_ ?_
        rotate_left
        · (intro w0 hS0; go_simp <;> (try with_reducible rfl))
        try simp only [Act.put, List.setIfInBounds_toArray, List.set_cons_zero, List.set_cons_succ]
        refine wpAnyH_read (i := 20) (oi := { dst := some 77, op := Go.Op.move (Go.Operand.tmp 12), type := 3, pos := "law.go:127", after := #[{ on := 18, ground := Go.Ground.guard }], guard := some (18, false) }) ?_ rfl (by kernel_rfl) (by kernel_rfl) (by kernel_rfl) (fun _ _ _ h => h) (by rfl) (by exact hHeld) ?_ ?_
        rotate_left
        · (intro w0 hS0; go_simp <;> (try with_reducible rfl))
        try simp only [Act.put, List.setIfInBounds_toArray, List.set_cons_zero, List.set_cons_succ]
        refine wpAnyH_read (i := 21) (oi := { dst := some 78, op := Go.Op.binOp Go.BinOp.geq 3 (Go.Operand.tmp 77) (Go.Operand.const (Go.Value.int Go.IntKind.i64 0)) 3, type := 4, pos := "law.go:127", after := #[{ on := 20, ground := Go.Ground.data }, { on := 18, ground := Go.Ground.guard }], guard := some (18, false) }) ?_ rfl (by kernel_rfl) (by kernel_rfl) (by kernel_rfl) (fun _ _ _ h => h) (by rfl) (by exact hHeld) ?_ ?_
        rotate_left
        · (intro w0 hS0; go_simp <;> (try with_reducible rfl))
        try simp only [Act.put, List.setIfInBounds_toArray, List.set_cons_zero, List.set_cons_succ]
        refine wpAnyH_read (i := 22) (oi := { dst := some 79, op := Go.Op.binOp Go.BinOp.neq 4 (Go.Operand.tmp 76) (Go.Operand.tmp 78) 4, type := 4, pos := "law.go:127", after := #[{ on := 19, ground := Go.Ground.data }, { on := 21, ground := Go.Ground.data }, { on := 18, ground := Go.Ground.guard }], guard := some (18, false) }) ?_ rfl (by kernel_rfl) (by kernel_rfl) (by kernel_rfl) (fun _ _ _ h => h) (by rfl) (by exact hHeld) ?_ ?_
        rotate_left
        · (intro w0 hS0; go_simp <;> (try with_reducible rfl))
        try simp only [Act.put, List.setIfInBounds_toArray, List.set_cons_zero, List.set_cons_succ]
        refine wpAnyH_read (i := 23) (oi := { dst := some 80, op := Go.Op.pick (Go.Operand.tmp 75) (Go.Operand.const (Go.Value.bool true)) (Go.Operand.tmp 79), type := 4, pos := "law.go:127", after := #[{ on := 18, ground := Go.Ground.data }, { on := 22, ground := Go.Ground.data }], guard := none }) ?_ rfl (by kernel_rfl) (by kernel_rfl) (by kernel_rfl) (fun _ _ _ h => h) (by rfl) (by exact hHeld) ?_ ?_
        rotate_left
        · (intro w0 hS0; go_simp <;> (try with_reducible rfl))
        try simp only [Act.put, List.setIfInBounds_toArray, List.set_cons_zero, List.set_cons_succ]
        refine wpAnyH_read (i := 24) (oi := { dst := some 81, op := Go.Op.move (Go.Operand.tmp 80), type := 4, pos := "law.go:127", after := #[{ on := 23, ground := Go.Ground.data }, { on := 18, ground := Go.Ground.chain }], guard := none }) ?_ rfl (by kernel_rfl) (by kernel_rfl) (by kernel_rfl) (fun _ _ _ h => h) (by rfl) (by exact hHeld) ?_ ?_
        rotate_left
        · (intro w0 hS0; go_simp <;> (try with_reducible rfl))
        try simp only [Act.put, List.setIfInBounds_toArray, List.set_cons_zero, List.set_cons_succ]
        refine wpAnyH_read (i := 25) (oi := { dst := some 82, op := Go.Op.move (Go.Operand.tmp 11), type := 4, pos := "law.go:127", after := #[{ on := 24, ground := Go.Ground.guard }], guard := some (24, false) }) ?_ rfl (by kernel_rfl) (by kernel_rfl) (by kernel_rfl) (fun _ _ _ h => h) (by rfl) (by exact hHeld) ?_ ?_
        rotate_left
        · (intro w0 hS0; go_simp <;> (try with_reducible rfl))
        try simp only [Act.put, List.setIfInBounds_toArray, List.set_cons_zero, List.set_cons_succ]
        refine wpAnyH_read (i := 26) (oi := { dst := some 83, op := Go.Op.move (Go.Operand.tmp 82), type := 4, pos := "law.go:127", after := #[{ on := 25, ground := Go.Ground.data }, { on := 24, ground := Go.Ground.chain }, { on := 24, ground := Go.Ground.guard }], guard := some (24, false) }) ?_ rfl (by kernel_rfl) (by kernel_rfl) (by kernel_rfl) (fun _ _ _ h => h) (by rfl) (by exact hHeld) ?_ ?_
        rotate_left
        · (intro w0 hS0; go_simp <;> (try with_reducible rfl))
        try simp only [Act.put, List.setIfInBounds_toArray, List.set_cons_zero, List.set_cons_succ]
        refine wpAnyH_read (i := 28) (oi := { dst := some 85, op := Go.Op.move (Go.Operand.tmp 6), type := 27, pos := "law.go:127", after := #[{ on := 26, ground := Go.Ground.guard }], guard := some (26, true) }) ?_ rfl (by kernel_rfl) (by kernel_rfl) (by kernel_rfl) (fun _ _ _ h => h) (by rfl) (by exact hHeld) ?_ ?_
        rotate_left
        · (intro w0 hS0; go_simp <;> (try with_reducible rfl))
        try simp only [Act.put, List.setIfInBounds_toArray, List.set_cons_zero, List.set_cons_succ]
        refine wpAnyH_read (i := 29) (oi := { dst := some 86, op := Go.Op.nilCheck (Go.Operand.tmp 85), type := 0, pos := "law.go:127", after := #[{ on := 28, ground := Go.Ground.data }, { on := 26, ground := Go.Ground.guard }], guard := some (26, true) }) ?_ rfl (by kernel_rfl) (by kernel_rfl) (by kernel_rfl) (fun _ _ _ h => h) (by rfl) (by exact hHeld) ?_ ?_
        rotate_left
        · (intro w0 hS0; go_simp <;> (try with_reducible rfl))
        try simp only [Act.put, List.setIfInBounds_toArray, List.set_cons_zero, List.set_cons_succ]
        refine wpAnyH_read (i := 30) (oi := { dst := some 87, op := Go.Op.fieldAddr 46 (Go.Operand.tmp 86) 2, type := 0, pos := "law.go:127", after := #[{ on := 29, ground := Go.Ground.data }, { on := 26, ground := Go.Ground.guard }], guard := some (26, true) }) ?_ rfl (by kernel_rfl) (by kernel_rfl) (by kernel_rfl) (fun _ _ _ h => h) (by rfl) (by exact hHeld) ?_ ?_
        rotate_left
        · (intro w0 hS0; go_simp <;> (try with_reducible rfl))
        try simp only [Act.put, List.setIfInBounds_toArray, List.set_cons_zero, List.set_cons_succ]
        refine wpAnyH_read (i := 32) (oi := { dst := some 89, op := Go.Op.move (Go.Operand.tmp 12), type := 3, pos := "law.go:127", after := #[{ on := 26, ground := Go.Ground.guard }], guard := some (26, true) }) ?_ rfl (by kernel_rfl) (by kernel_rfl) (by kernel_rfl) (fun _ _ _ h => h) (by rfl) (by exact hHeld) ?_ ?_
        rotate_left
        · (intro w0 hS0; go_simp <;> (try with_reducible rfl))
        try simp only [Act.put, List.setIfInBounds_toArray, List.set_cons_zero, List.set_cons_succ]
        refine wpAnyH_read (i := 27) (oi := { dst := some 84, op := Go.Op.load 38 (Go.Operand.tmp 10), type := 38, pos := "law.go:127", after := #[{ on := 26, ground := Go.Ground.guard }], guard := some (26, true) }) ?_ rfl (by kernel_rfl) (by kernel_rfl) (by kernel_rfl) (fun _ _ _ h => h) (by rfl) (by exact hHeld) ?_ ?_
        rotate_left
        · (intro w0 hS0; have hS1 : RowKit.Below W.heap.size W w0 := hS0; have s1 := (CM.out w0 hS1).1; have s2 := (CM.out w0 hS1).2.1; have s3 := (CM.out w0 hS1).2.2; go_simp <;> (try with_reducible rfl))
        try simp only [Act.put, List.setIfInBounds_toArray, List.set_cons_zero, List.set_cons_succ]
        refine wpAnyH_read (i := 31) (oi := { dst := some 88, op := Go.Op.load 43 (Go.Operand.tmp 87), type := 43, pos := "law.go:127", after := #[{ on := 30, ground := Go.Ground.data }, { on := 26, ground := Go.Ground.guard }], guard := some (26, true) }) ?_ rfl (by kernel_rfl) (by kernel_rfl) (by kernel_rfl) (fun _ _ _ h => h) (by rfl) (by exact hHeld) ?_ ?_
        rotate_left
        · (intro w0 hS0; have hS1 : RowKit.Below W.heap.size W w0 := hS0; have s1 := C2.out w0 hS1; go_simp <;> (try with_reducible rfl))
        try simp only [Act.put, List.setIfInBounds_toArray, List.set_cons_zero, List.set_cons_succ]
        refine wpAnyH_read (i := 33) (oi := { dst := some 90, op := Go.Op.indexAddr 43 (Go.Operand.tmp 88) (Go.Operand.tmp 89), type := 0, pos := "law.go:127", after := #[{ on := 31, ground := Go.Ground.data }, { on := 32, ground := Go.Ground.data }, { on := 26, ground := Go.Ground.guard }], guard := some (26, true) }) ?_ rfl (by kernel_rfl) (by kernel_rfl) (by kernel_rfl) (fun _ _ _ h => h) (by rfl) (by exact hHeld) ?_ ?_
        rotate_left
        · (intro w0 hS0; go_simp <;> (try with_reducible rfl))
        try simp only [Act.put, List.setIfInBounds_toArray, List.set_cons_zero, List.set_cons_succ]
        refine wpAnyH_read (i := 34) (oi := { dst := some 91, op := Go.Op.load 38 (Go.Operand.tmp 90), type := 38, pos := "law.go:127", after := #[{ on := 33, ground := Go.Ground.data }, { on := 26, ground := Go.Ground.guard }], guard := some (26, true) }) ?_ rfl (by kernel_rfl) (by kernel_rfl) (by kernel_rfl) (fun _ _ _ h => h) (by rfl) (by exact hHeld) ?_ ?_
        rotate_left
        · (intro w0 hS0; have hS1 : RowKit.Below W.heap.size W w0 := hS0; have s1 := (CL.out w0 hS1).1; have s2 := (CL.out w0 hS1).2.1; have s3 := (CL.out w0 hS1).2.2; go_simp <;> (try with_reducible rfl))
        try simp only [Act.put, List.setIfInBounds_toArray, List.set_cons_zero, List.set_cons_succ]
        refine wpAnyH_read (i := 35) (oi := { dst := some 92, op := Go.Op.binOp Go.BinOp.neq 38 (Go.Operand.tmp 84) (Go.Operand.tmp 91) 38, type := 4, pos := "law.go:127", after := #[{ on := 27, ground := Go.Ground.data }, { on := 34, ground := Go.Ground.data }, { on := 26, ground := Go.Ground.guard }], guard := some (26, true) }) ?_ rfl (by kernel_rfl) (by kernel_rfl) (by kernel_rfl) (fun _ _ _ h => h) (by rfl) (by exact hHeld) ?_ ?_
        rotate_left
        · (intro w0 hS0; go_simp <;> (try with_reducible rfl))
        try simp only [Act.put, List.setIfInBounds_toArray, List.set_cons_zero, List.set_cons_succ]
        refine wpAnyH_read (i := 36) (oi := { dst := some 93, op := Go.Op.pick (Go.Operand.tmp 83) (Go.Operand.tmp 92) (Go.Operand.const (Go.Value.bool false)), type := 4, pos := "law.go:127", after := #[{ on := 26, ground := Go.Ground.data }, { on := 35, ground := Go.Ground.data }, { on := 24, ground := Go.Ground.guard }], guard := some (24, false) }) ?_ rfl (by kernel_rfl) (by kernel_rfl) (by kernel_rfl) (fun _ _ _ h => h) (by rfl) (by exact hHeld) ?_ ?_
        rotate_left
        · (intro w0 hS0; go_simp <;> (try with_reducible rfl))
        try simp only [Act.put, List.setIfInBounds_toArray, List.set_cons_zero, List.set_cons_succ]
        refine wpAnyH_read (i := 37) (oi := { dst := some 94, op := Go.Op.pick (Go.Operand.tmp 81) (Go.Operand.const (Go.Value.bool true)) (Go.Operand.tmp 93), type := 4, pos := "law.go:127", after := #[{ on := 24, ground := Go.Ground.data }, { on := 36, ground := Go.Ground.data }], guard := none }) ?_ rfl (by kernel_rfl) (by kernel_rfl) (by kernel_rfl) (fun _ _ _ h => h) (by rfl) (by exact hHeld) ?_ ?_
        rotate_left
        · (intro w0 hS0; go_simp <;> (try with_reducible rfl))
        try simp only [Act.put, List.setIfInBounds_toArray, List.set_cons_zero, List.set_cons_succ]
        refine wpAnyH_read (i := 38) (oi := { dst := some 95, op := Go.Op.move (Go.Operand.tmp 94), type := 4, pos := "law.go:127", after := #[{ on := 37, ground := Go.Ground.data }, { on := 26, ground := Go.Ground.chain }], guard := none }) ?_ rfl (by kernel_rfl) (by kernel_rfl) (by kernel_rfl) (fun _ _ _ h => h) (by rfl) (by exact hHeld) ?_ ?_
        rotate_left
        · (intro w0 hS0; go_simp <;> (try with_reducible rfl))
        try simp only [Act.put, List.setIfInBounds_toArray, List.set_cons_zero, List.set_cons_succ]
        refine wpAnyH_read (i := 39) (oi := { dst := some 96, op := Go.Op.move (Go.Operand.tmp 11), type := 4, pos := "law.go:127", after := #[{ on := 38, ground := Go.Ground.guard }], guard := some (38, false) }) ?_ rfl (by kernel_rfl) (by kernel_rfl) (by kernel_rfl) (fun _ _ _ h => h) (by rfl) (by exact hHeld) ?_ ?_
        rotate_left
        · (intro w0 hS0; go_simp <;> (try with_reducible rfl))
        try simp only [Act.put, List.setIfInBounds_toArray, List.set_cons_zero, List.set_cons_succ]
        refine wpAnyH_read (i := 40) (oi := { dst := some 97, op := Go.Op.unOp Go.UnOp.not 4 (Go.Operand.tmp 96), type := 4, pos := "law.go:127", after := #[{ on := 39, ground := Go.Ground.data }, { on := 38, ground := Go.Ground.guard }], guard := some (38, false) }) ?_ rfl (by kernel_rfl) (by kernel_rfl) (by kernel_rfl) (fun _ _ _ h => h) (by rfl) (by exact hHeld) ?_ ?_
        rotate_left
        · (intro w0 hS0; go_simp <;> (try with_reducible rfl))
        try simp only [Act.put, List.setIfInBounds_toArray, List.set_cons_zero, List.set_cons_succ]
        refine wpAnyH_read (i := 41) (oi := { dst := some 98, op := Go.Op.move (Go.Operand.tmp 97), type := 4, pos := "law.go:127", after := #[{ on := 40, ground := Go.Ground.data }, { on := 38, ground := Go.Ground.chain }, { on := 38, ground := Go.Ground.guard }], guard := some (38, false) }) ?_ rfl (by kernel_rfl) (by kernel_rfl) (by kernel_rfl) (fun _ _ _ h => h) (by rfl) (by exact hHeld) ?_ ?_
        rotate_left
        · (intro w0 hS0; go_simp <;> (try with_reducible rfl))
        try simp only [Act.put, List.setIfInBounds_toArray, List.set_cons_zero, List.set_cons_succ]
        refine wpAnyH_pass (i := 43) (oi := { dst := some 100, op := Go.Op.build 38 #[], type := 38, pos := "law.go:127", after := #[{ on := 41, ground := Go.Ground.guard }], guard := some (41, true) }) rfl (by kernel_rfl) (by kernel_rfl) (by kernel_rfl) (fun _ _ _ h => h) (by rfl) (by exact hHeld) ?_
        try simp only [Act.put, List.setIfInBounds_toArray, List.set_cons_zero, List.set_cons_succ]
        refine wpAnyH_pass (i := 42) (oi := { dst := some 99, op := Go.Op.load 38 (Go.Operand.tmp 10), type := 38, pos := "law.go:127", after := #[{ on := 41, ground := Go.Ground.guard }], guard := some (41, true) }) rfl (by kernel_rfl) (by kernel_rfl) (by kernel_rfl) (fun _ _ _ h => h) (by rfl) (by exact hHeld) ?_
        try simp only [Act.put, List.setIfInBounds_toArray, List.set_cons_zero, List.set_cons_succ]
        refine wpAnyH_pass (i := 44) (oi := { dst := some 101, op := Go.Op.binOp Go.BinOp.neq 38 (Go.Operand.tmp 99) (Go.Operand.tmp 100) 38, type := 4, pos := "law.go:127", after := #[{ on := 42, ground := Go.Ground.data }, { on := 43, ground := Go.Ground.data }, { on := 41, ground := Go.Ground.guard }], guard := some (41, true) }) rfl (by kernel_rfl) (by kernel_rfl) (by kernel_rfl) (fun _ _ _ h => h) (by rfl) (by exact hHeld) ?_
        try simp only [Act.put, List.setIfInBounds_toArray, List.set_cons_zero, List.set_cons_succ]
        refine wpAnyH_read (i := 45) (oi := { dst := some 102, op := Go.Op.pick (Go.Operand.tmp 98) (Go.Operand.tmp 101) (Go.Operand.const (Go.Value.bool false)), type := 4, pos := "law.go:127", after := #[{ on := 41, ground := Go.Ground.data }, { on := 44, ground := Go.Ground.data }, { on := 38, ground := Go.Ground.guard }], guard := some (38, false) }) ?_ rfl (by kernel_rfl) (by kernel_rfl) (by kernel_rfl) (fun _ _ _ h => h) (by rfl) (by exact hHeld) ?_ ?_
        rotate_left
        · (intro w0 hS0; go_simp <;> (try with_reducible rfl))
        try simp only [Act.put, List.setIfInBounds_toArray, List.set_cons_zero, List.set_cons_succ]
        refine wpAnyH_read (i := 46) (oi := { dst := some 103, op := Go.Op.pick (Go.Operand.tmp 95) (Go.Operand.const (Go.Value.bool true)) (Go.Operand.tmp 102), type := 4, pos := "law.go:127", after := #[{ on := 38, ground := Go.Ground.data }, { on := 45, ground := Go.Ground.data }], guard := none }) ?_ rfl (by kernel_rfl) (by kernel_rfl) (by kernel_rfl) (fun _ _ _ h => h) (by rfl) (by exact hHeld) ?_ ?_
        rotate_left
        · (intro w0 hS0; go_simp <;> (try with_reducible rfl))
        try simp only [Act.put, List.setIfInBounds_toArray, List.set_cons_zero, List.set_cons_succ]
        refine wpAnyH_done (by kernel_rfl) ?_ _
        clear hneq hgrd hdrew
      rotate_left
      focus
        have hpos : atM x.L id < 0 := by
          have h1 := HRL.out.has id
          rw [HX.out.2] at h1
          have := of_decide_eq_false h1.symm
          omega
        have hm0 : (mi, mo, mv) = ((0, false, false) : Mem) := by
          have h3 := HX.out.1
          rw [HX.out.2] at h3
          exact h3.symm
        injection hm0 with f1 f2
        injection f2 with f2 f3
        subst f1 f2 f3
        have hz : atM x.L id = -1 := by have := (atM_lt x.L id).1; omega
        rw [hz]
        have hneq : ∀ V, (binOp .neq 38 (.agg #[.int .i64 0, .bool false, .bool false]) (.agg #[.int .i64 0, .bool false, .bool false])).run Tryz.prog V = .ok (.bool false) V := fun V => by have := neqM (0, false, false) (0, false, false) V; rw [decide_eq_true rfl] at this; exact this
        have hgrd : ∀ x y V, (eqGuard .neq 38 x y (.agg #[.int .i64 0, .bool false, .bool false]) (.agg #[.int .i64 0, .bool false, .bool false])).run Tryz.prog V = .ok () V := fun x y V => guardN x y _ _ V
        clear hz hpos
        go_wp2_with fail
        refine wp_region_held_drew (S := fun V => RowKit.Below W.heap.size W V) (by kernel_rfl) (by exact hdrew) (fun hHeld => ?_)
        refine wpAnyH_read (i := 0) (oi := { dst := some 57, op := Go.Op.move (Go.Operand.tmp 9), type := 4, pos := "law.go:127", after := #[], guard := none }) ?_ rfl (by kernel_rfl) (by kernel_rfl) (by kernel_rfl) (fun _ _ _ h => h) (by rfl) (by exact hHeld) ?_ ?_
        rotate_left
        · (intro w0 hS0; go_simp <;> (try with_reducible rfl))
        try simp only [Act.put, List.setIfInBounds_toArray, List.set_cons_zero, List.set_cons_succ]
        refine wpAnyH_read (i := 1) (oi := { dst := some 58, op := Go.Op.unOp Go.UnOp.not 4 (Go.Operand.tmp 57), type := 4, pos := "law.go:127", after := #[{ on := 0, ground := Go.Ground.data }], guard := none }) ?_ rfl (by kernel_rfl) (by kernel_rfl) (by kernel_rfl) (fun _ _ _ h => h) (by rfl) (by exact hHeld) ?_ ?_
        rotate_left
        · (intro w0 hS0; go_simp <;> (try with_reducible rfl))
        try simp only [Act.put, List.setIfInBounds_toArray, List.set_cons_zero, List.set_cons_succ]
        refine wpAnyH_read (i := 2) (oi := { dst := some 59, op := Go.Op.move (Go.Operand.tmp 58), type := 4, pos := "law.go:127", after := #[{ on := 1, ground := Go.Ground.data }], guard := none }) ?_ rfl (by kernel_rfl) (by kernel_rfl) (by kernel_rfl) (fun _ _ _ h => h) (by rfl) (by exact hHeld) ?_ ?_
        rotate_left
        · (intro w0 hS0; go_simp <;> (try with_reducible rfl))
        try simp only [Act.put, List.setIfInBounds_toArray, List.set_cons_zero, List.set_cons_succ]
        refine wpAnyH_read (i := 3) (oi := { dst := some 60, op := Go.Op.move (Go.Operand.tmp 8), type := 34, pos := "law.go:127", after := #[{ on := 2, ground := Go.Ground.guard }], guard := some (2, false) }) ?_ rfl (by kernel_rfl) (by kernel_rfl) (by kernel_rfl) (fun _ _ _ h => h) (by rfl) (by exact hHeld) ?_ ?_
        rotate_left
        · (intro w0 hS0; go_simp <;> (try with_reducible rfl))
        try simp only [Act.put, List.setIfInBounds_toArray, List.set_cons_zero, List.set_cons_succ]
        refine wpAnyH_read (i := 4) (oi := { dst := some 61, op := Go.Op.move (Go.Operand.tmp 6), type := 27, pos := "law.go:127", after := #[{ on := 2, ground := Go.Ground.guard }], guard := some (2, false) }) ?_ rfl (by kernel_rfl) (by kernel_rfl) (by kernel_rfl) (fun _ _ _ h => h) (by rfl) (by exact hHeld) ?_ ?_
        rotate_left
        · (intro w0 hS0; go_simp <;> (try with_reducible rfl))
        try simp only [Act.put, List.setIfInBounds_toArray, List.set_cons_zero, List.set_cons_succ]
        refine wpAnyH_read (i := 5) (oi := { dst := some 62, op := Go.Op.nilCheck (Go.Operand.tmp 61), type := 0, pos := "law.go:127", after := #[{ on := 4, ground := Go.Ground.data }, { on := 2, ground := Go.Ground.guard }], guard := some (2, false) }) ?_ rfl (by kernel_rfl) (by kernel_rfl) (by kernel_rfl) (fun _ _ _ h => h) (by rfl) (by exact hHeld) ?_ ?_
        rotate_left
        · (intro w0 hS0; go_simp <;> (try with_reducible rfl))
        try simp only [Act.put, List.setIfInBounds_toArray, List.set_cons_zero, List.set_cons_succ]
        refine wpAnyH_read (i := 6) (oi := { dst := some 63, op := Go.Op.fieldAddr 46 (Go.Operand.tmp 62) 7, type := 0, pos := "law.go:127", after := #[{ on := 5, ground := Go.Ground.data }, { on := 2, ground := Go.Ground.guard }], guard := some (2, false) }) ?_ rfl (by kernel_rfl) (by kernel_rfl) (by kernel_rfl) (fun _ _ _ h => h) (by rfl) (by exact hHeld) ?_ ?_
        rotate_left
        · (intro w0 hS0; go_simp <;> (try with_reducible rfl))
        try simp only [Act.put, List.setIfInBounds_toArray, List.set_cons_zero, List.set_cons_succ]
        refine wpAnyH_read (i := 7) (oi := { dst := some 64, op := Go.Op.load 34 (Go.Operand.tmp 63), type := 34, pos := "law.go:127", after := #[{ on := 6, ground := Go.Ground.data }, { on := 2, ground := Go.Ground.guard }], guard := some (2, false) }) ?_ rfl (by kernel_rfl) (by kernel_rfl) (by kernel_rfl) (fun _ _ _ h => h) (by rfl) (by exact hHeld) ?_ ?_
        rotate_left
        · (intro w0 hS0; have hS1 : RowKit.Below W.heap.size W w0 := hS0; have s1 := C7.out w0 hS1; go_simp <;> (try with_reducible rfl))
        try simp only [Act.put, List.setIfInBounds_toArray, List.set_cons_zero, List.set_cons_succ]
        refine wpAnyH_one (i := 8) (o := { dst := some 65, op := Go.Op.call { callee := Go.Callee.value (Go.Operand.func 15), args := #[Go.Operand.tmp 60, Go.Operand.tmp 64], argTypes := #[34, 34] }, type := 4, pos := "law.go:127", after := #[{ on := 3, ground := Go.Ground.data }, { on := 7, ground := Go.Ground.data }, { on := 2, ground := Go.Ground.chain }, { on := 2, ground := Go.Ground.guard }], guard := some (2, false) }) (by kernel_rfl) rfl (by rfl) (fun K hK => ?_)
        go_simp
        have hH : RowKit.Below W.heap.size W _ := hHeld
        refine (TX1.out _ hH).mono ?_
        rintro e w9 ⟨rfl, n9, hw9⟩
        have hS8 := Lib.hid (by rw [hw9]; exact below_drewN hH n9 : RowKit.Below W.heap.size W w9)
        clear hw9 hH
        go_wp2_with fail
        refine hK.out _ _ ?_ (fun hHeld => ?_)
        · exact hS8.out
        clear hK K
        try simp only [Act.put, List.setIfInBounds_toArray, List.set_cons_zero, List.set_cons_succ]
        refine wpAnyH_read (i := 9) (oi := { dst := some 66, op := Go.Op.unOp Go.UnOp.not 4 (Go.Operand.tmp 65), type := 4, pos := "law.go:127", after := #[{ on := 8, ground := Go.Ground.data }, { on := 2, ground := Go.Ground.guard }], guard := some (2, false) }) ?_ rfl (by kernel_rfl) (by kernel_rfl) (by kernel_rfl) (fun _ _ _ h => h) (by rfl) (by exact hHeld) ?_ ?_
        rotate_left
        · (intro w0 hS0; go_simp <;> (try with_reducible rfl))
        try simp only [Act.put, List.setIfInBounds_toArray, List.set_cons_zero, List.set_cons_succ]
        refine wpAnyH_read (i := 10) (oi := { dst := some 67, op := Go.Op.pick (Go.Operand.tmp 59) (Go.Operand.const (Go.Value.bool true)) (Go.Operand.tmp 66), type := 4, pos := "law.go:127", after := #[{ on := 2, ground := Go.Ground.data }, { on := 9, ground := Go.Ground.data }], guard := none }) ?_ rfl (by kernel_rfl) (by kernel_rfl) (by kernel_rfl) (fun _ _ _ h => h) (by rfl) (by exact hHeld) ?_ ?_
        rotate_left
        · (intro w0 hS0; go_simp <;> (try with_reducible rfl))
        try simp only [Act.put, List.setIfInBounds_toArray, List.set_cons_zero, List.set_cons_succ]
        refine wpAnyH_read (i := 11) (oi := { dst := some 68, op := Go.Op.move (Go.Operand.tmp 67), type := 4, pos := "law.go:127", after := #[{ on := 10, ground := Go.Ground.data }, { on := 8, ground := Go.Ground.chain }], guard := none }) ?_ rfl (by kernel_rfl) (by kernel_rfl) (by kernel_rfl) (fun _ _ _ h => h) (by rfl) (by exact hHeld) ?_ ?_
        rotate_left
        · (intro w0 hS0; go_simp <;> (try with_reducible rfl))
        try simp only [Act.put, List.setIfInBounds_toArray, List.set_cons_zero, List.set_cons_succ]
        refine wpAnyH_read (i := 12) (oi := { dst := some 69, op := Go.Op.move (Go.Operand.tmp 5), type := 25, pos := "law.go:127", after := #[{ on := 11, ground := Go.Ground.guard }], guard := some (11, false) }) ?_ rfl (by kernel_rfl) (by kernel_rfl) (by kernel_rfl) (fun _ _ _ h => h) (by rfl) (by exact hHeld) ?_ ?_
        rotate_left
        · (intro w0 hS0; go_simp <;> (try with_reducible rfl))
        try simp only [Act.put, List.setIfInBounds_toArray, List.set_cons_zero, List.set_cons_succ]
        refine wpAnyH_read (i := 13) (oi := { dst := some 70, op := Go.Op.move (Go.Operand.tmp 6), type := 27, pos := "law.go:127", after := #[{ on := 11, ground := Go.Ground.guard }], guard := some (11, false) }) ?_ rfl (by kernel_rfl) (by kernel_rfl) (by kernel_rfl) (fun _ _ _ h => h) (by rfl) (by exact hHeld) ?_ ?_
        rotate_left
        · (intro w0 hS0; go_simp <;> (try with_reducible rfl))
        try simp only [Act.put, List.setIfInBounds_toArray, List.set_cons_zero, List.set_cons_succ]
        refine wpAnyH_one (i := 14) (o := { dst := some 71, op := Go.Op.call { callee := Go.Callee.value (Go.Operand.func 17), args := #[Go.Operand.tmp 70], argTypes := #[27] }, type := 43, pos := "law.go:127", after := #[{ on := 13, ground := Go.Ground.data }, { on := 11, ground := Go.Ground.chain }, { on := 11, ground := Go.Ground.guard }], guard := some (11, false) }) (by kernel_rfl) rfl (by rfl) (fun K hK => ?_)
        go_simp
        have hH : RowKit.Below W.heap.size W _ := hHeld
        refine (RMEM.out _ hH).mono ?_
        rintro e w9 ⟨⟨Am, cm, rfl, o9⟩, b9⟩
        have hS14 := Lib.hid (And.intro (hH.trans (b9.mono hH.size) : RowKit.Below W.heap.size W w9) (reads_ownM o9))
        clear o9 b9 hH
        go_wp2_with fail
        refine hK.out _ _ ?_ (fun hHeld => ?_)
        · exact hS14.out.1
        clear hK K
        try simp only [Act.put, List.setIfInBounds_toArray, List.set_cons_zero, List.set_cons_succ]
        refine wpAnyH_one (i := 15) (o := { dst := some 72, op := Go.Op.call { callee := Go.Callee.value (Go.Operand.func 16), args := #[Go.Operand.tmp 69, Go.Operand.tmp 71], argTypes := #[25, 43] }, type := 4, pos := "law.go:127", after := #[{ on := 12, ground := Go.Ground.data }, { on := 14, ground := Go.Ground.data }, { on := 14, ground := Go.Ground.chain }, { on := 11, ground := Go.Ground.guard }], guard := some (11, false) }) (by kernel_rfl) rfl (by rfl) (fun K hK => ?_)
        go_simp
        refine (LMEM.out _ _ _ hS14.out.1 hS14.out.2).mono ?_
        rintro e w9 ⟨rfl, f9⟩
        have hS15 := Lib.hid (hS14.out.1.trans (f9.below hS14.out.1.size fun k _ e => e.elim) : RowKit.Below W.heap.size W w9)
        clear f9
        go_wp2_with fail
        refine hK.out _ _ ?_ (fun hHeld => ?_)
        · exact hS15.out
        clear hK K
        try simp only [Act.put, List.setIfInBounds_toArray, List.set_cons_zero, List.set_cons_succ]
        refine wpAnyH_read (i := 16) (oi := { dst := some 73, op := Go.Op.unOp Go.UnOp.not 4 (Go.Operand.tmp 72), type := 4, pos := "law.go:127", after := #[{ on := 15, ground := Go.Ground.data }, { on := 11, ground := Go.Ground.guard }], guard := some (11, false) }) ?_ rfl (by kernel_rfl) (by kernel_rfl) (by kernel_rfl) (fun _ _ _ h => h) (by rfl) (by exact hHeld) ?_ ?_
        rotate_left
        · (intro w0 hS0; go_simp <;> (try with_reducible rfl))
        try simp only [Act.put, List.setIfInBounds_toArray, List.set_cons_zero, List.set_cons_succ]
        refine wpAnyH_read (i := 17) (oi := { dst := some 74, op := Go.Op.pick (Go.Operand.tmp 68) (Go.Operand.const (Go.Value.bool true)) (Go.Operand.tmp 73), type := 4, pos := "law.go:127", after := #[{ on := 11, ground := Go.Ground.data }, { on := 16, ground := Go.Ground.data }], guard := none }) ?_ rfl (by kernel_rfl) (by kernel_rfl) (by kernel_rfl) (fun _ _ _ h => h) (by rfl) (by exact hHeld) ?_ ?_
        rotate_left
        · (intro w0 hS0; go_simp <;> (try with_reducible rfl))
        try simp only [Act.put, List.setIfInBounds_toArray, List.set_cons_zero, List.set_cons_succ]
        refine wpAnyH_read (i := 18) (oi := { dst := some 75, op := Go.Op.move (Go.Operand.tmp 74), type := 4, pos := "law.go:127", after := #[{ on := 17, ground := Go.Ground.data }, { on := 15, ground := Go.Ground.chain }], guard := none }) ?_ rfl (by kernel_rfl) (by kernel_rfl) (by kernel_rfl) (fun _ _ _ h => h) (by rfl) (by exact hHeld) ?_ ?_
        rotate_left
        · (intro w0 hS0; go_simp <;> (try with_reducible rfl))
        try simp only [Act.put, List.setIfInBounds_toArray, List.set_cons_zero, List.set_cons_succ]
        refine wpAnyH_read (i := 19) (oi := { dst := some 76, op := Go.Op.move (Go.Operand.tmp 11), type := 4, pos := "law.go:127", after := #[{ on := 18, ground := Go.Ground.guard }], guard := some (18, false) }) ?_ rfl (by kernel_rfl) (by kernel_rfl) (by kernel_rfl) (fun _ _ _ h => h) (by rfl) (by exact hHeld) ?_ ?_
        rotate_left
        · (intro w0 hS0; go_simp <;> (try with_reducible rfl))
        try simp only [Act.put, List.setIfInBounds_toArray, List.set_cons_zero, List.set_cons_succ]
        refine wpAnyH_read (i := 20) (oi := { dst := some 77, op := Go.Op.move (Go.Operand.tmp 12), type := 3, pos := "law.go:127", after := #[{ on := 18, ground := Go.Ground.guard }], guard := some (18, false) }) ?_ rfl (by kernel_rfl) (by kernel_rfl) (by kernel_rfl) (fun _ _ _ h => h) (by rfl) (by exact hHeld) ?_ ?_
        rotate_left
        · (intro w0 hS0; go_simp <;> (try with_reducible rfl))
        try simp only [Act.put, List.setIfInBounds_toArray, List.set_cons_zero, List.set_cons_succ]
        refine wpAnyH_read (i := 21) (oi := { dst := some 78, op := Go.Op.binOp Go.BinOp.geq 3 (Go.Operand.tmp 77) (Go.Operand.const (Go.Value.int Go.IntKind.i64 0)) 3, type := 4, pos := "law.go:127", after := #[{ on := 20, ground := Go.Ground.data }, { on := 18, ground := Go.Ground.guard }], guard := some (18, false) }) ?_ rfl (by kernel_rfl) (by kernel_rfl) (by kernel_rfl) (fun _ _ _ h => h) (by rfl) (by exact hHeld) ?_ ?_
        rotate_left
        · (intro w0 hS0; go_simp <;> (try with_reducible rfl))
        try simp only [Act.put, List.setIfInBounds_toArray, List.set_cons_zero, List.set_cons_succ]
        refine wpAnyH_read (i := 22) (oi := { dst := some 79, op := Go.Op.binOp Go.BinOp.neq 4 (Go.Operand.tmp 76) (Go.Operand.tmp 78) 4, type := 4, pos := "law.go:127", after := #[{ on := 19, ground := Go.Ground.data }, { on := 21, ground := Go.Ground.data }, { on := 18, ground := Go.Ground.guard }], guard := some (18, false) }) ?_ rfl (by kernel_rfl) (by kernel_rfl) (by kernel_rfl) (fun _ _ _ h => h) (by rfl) (by exact hHeld) ?_ ?_
        rotate_left
        · (intro w0 hS0; go_simp <;> (try with_reducible rfl))
        try simp only [Act.put, List.setIfInBounds_toArray, List.set_cons_zero, List.set_cons_succ]
        refine wpAnyH_read (i := 23) (oi := { dst := some 80, op := Go.Op.pick (Go.Operand.tmp 75) (Go.Operand.const (Go.Value.bool true)) (Go.Operand.tmp 79), type := 4, pos := "law.go:127", after := #[{ on := 18, ground := Go.Ground.data }, { on := 22, ground := Go.Ground.data }], guard := none }) ?_ rfl (by kernel_rfl) (by kernel_rfl) (by kernel_rfl) (fun _ _ _ h => h) (by rfl) (by exact hHeld) ?_ ?_
        rotate_left
        · (intro w0 hS0; go_simp <;> (try with_reducible rfl))
        try simp only [Act.put, List.setIfInBounds_toArray, List.set_cons_zero, List.set_cons_succ]
        refine wpAnyH_read (i := 24) (oi := { dst := some 81, op := Go.Op.move (Go.Operand.tmp 80), type := 4, pos := "law.go:127", after := #[{ on := 23, ground := Go.Ground.data }, { on := 18, ground := Go.Ground.chain }], guard := none }) ?_ rfl (by kernel_rfl) (by kernel_rfl) (by kernel_rfl) (fun _ _ _ h => h) (by rfl) (by exact hHeld) ?_ ?_
        rotate_left
        · (intro w0 hS0; go_simp <;> (try with_reducible rfl))
        try simp only [Act.put, List.setIfInBounds_toArray, List.set_cons_zero, List.set_cons_succ]
        refine wpAnyH_read (i := 25) (oi := { dst := some 82, op := Go.Op.move (Go.Operand.tmp 11), type := 4, pos := "law.go:127", after := #[{ on := 24, ground := Go.Ground.guard }], guard := some (24, false) }) ?_ rfl (by kernel_rfl) (by kernel_rfl) (by kernel_rfl) (fun _ _ _ h => h) (by rfl) (by exact hHeld) ?_ ?_
        rotate_left
        · (intro w0 hS0; go_simp <;> (try with_reducible rfl))
        try simp only [Act.put, List.setIfInBounds_toArray, List.set_cons_zero, List.set_cons_succ]
        refine wpAnyH_read (i := 26) (oi := { dst := some 83, op := Go.Op.move (Go.Operand.tmp 82), type := 4, pos := "law.go:127", after := #[{ on := 25, ground := Go.Ground.data }, { on := 24, ground := Go.Ground.chain }, { on := 24, ground := Go.Ground.guard }], guard := some (24, false) }) ?_ rfl (by kernel_rfl) (by kernel_rfl) (by kernel_rfl) (fun _ _ _ h => h) (by rfl) (by exact hHeld) ?_ ?_
        rotate_left
        · (intro w0 hS0; go_simp <;> (try with_reducible rfl))
        try simp only [Act.put, List.setIfInBounds_toArray, List.set_cons_zero, List.set_cons_succ]
        refine wpAnyH_pass (i := 28) (oi := { dst := some 85, op := Go.Op.move (Go.Operand.tmp 6), type := 27, pos := "law.go:127", after := #[{ on := 26, ground := Go.Ground.guard }], guard := some (26, true) }) rfl (by kernel_rfl) (by kernel_rfl) (by kernel_rfl) (fun _ _ _ h => h) (by rfl) (by exact hHeld) ?_
        try simp only [Act.put, List.setIfInBounds_toArray, List.set_cons_zero, List.set_cons_succ]
        refine wpAnyH_pass (i := 29) (oi := { dst := some 86, op := Go.Op.nilCheck (Go.Operand.tmp 85), type := 0, pos := "law.go:127", after := #[{ on := 28, ground := Go.Ground.data }, { on := 26, ground := Go.Ground.guard }], guard := some (26, true) }) rfl (by kernel_rfl) (by kernel_rfl) (by kernel_rfl) (fun _ _ _ h => h) (by rfl) (by exact hHeld) ?_
        try simp only [Act.put, List.setIfInBounds_toArray, List.set_cons_zero, List.set_cons_succ]
        refine wpAnyH_pass (i := 30) (oi := { dst := some 87, op := Go.Op.fieldAddr 46 (Go.Operand.tmp 86) 2, type := 0, pos := "law.go:127", after := #[{ on := 29, ground := Go.Ground.data }, { on := 26, ground := Go.Ground.guard }], guard := some (26, true) }) rfl (by kernel_rfl) (by kernel_rfl) (by kernel_rfl) (fun _ _ _ h => h) (by rfl) (by exact hHeld) ?_
        try simp only [Act.put, List.setIfInBounds_toArray, List.set_cons_zero, List.set_cons_succ]
        refine wpAnyH_pass (i := 32) (oi := { dst := some 89, op := Go.Op.move (Go.Operand.tmp 12), type := 3, pos := "law.go:127", after := #[{ on := 26, ground := Go.Ground.guard }], guard := some (26, true) }) rfl (by kernel_rfl) (by kernel_rfl) (by kernel_rfl) (fun _ _ _ h => h) (by rfl) (by exact hHeld) ?_
        try simp only [Act.put, List.setIfInBounds_toArray, List.set_cons_zero, List.set_cons_succ]
        refine wpAnyH_pass (i := 27) (oi := { dst := some 84, op := Go.Op.load 38 (Go.Operand.tmp 10), type := 38, pos := "law.go:127", after := #[{ on := 26, ground := Go.Ground.guard }], guard := some (26, true) }) rfl (by kernel_rfl) (by kernel_rfl) (by kernel_rfl) (fun _ _ _ h => h) (by rfl) (by exact hHeld) ?_
        try simp only [Act.put, List.setIfInBounds_toArray, List.set_cons_zero, List.set_cons_succ]
        refine wpAnyH_pass (i := 31) (oi := { dst := some 88, op := Go.Op.load 43 (Go.Operand.tmp 87), type := 43, pos := "law.go:127", after := #[{ on := 30, ground := Go.Ground.data }, { on := 26, ground := Go.Ground.guard }], guard := some (26, true) }) rfl (by kernel_rfl) (by kernel_rfl) (by kernel_rfl) (fun _ _ _ h => h) (by rfl) (by exact hHeld) ?_
        try simp only [Act.put, List.setIfInBounds_toArray, List.set_cons_zero, List.set_cons_succ]
        refine wpAnyH_pass (i := 33) (oi := { dst := some 90, op := Go.Op.indexAddr 43 (Go.Operand.tmp 88) (Go.Operand.tmp 89), type := 0, pos := "law.go:127", after := #[{ on := 31, ground := Go.Ground.data }, { on := 32, ground := Go.Ground.data }, { on := 26, ground := Go.Ground.guard }], guard := some (26, true) }) rfl (by kernel_rfl) (by kernel_rfl) (by kernel_rfl) (fun _ _ _ h => h) (by rfl) (by exact hHeld) ?_
        try simp only [Act.put, List.setIfInBounds_toArray, List.set_cons_zero, List.set_cons_succ]
        refine wpAnyH_pass (i := 34) (oi := { dst := some 91, op := Go.Op.load 38 (Go.Operand.tmp 90), type := 38, pos := "law.go:127", after := #[{ on := 33, ground := Go.Ground.data }, { on := 26, ground := Go.Ground.guard }], guard := some (26, true) }) rfl (by kernel_rfl) (by kernel_rfl) (by kernel_rfl) (fun _ _ _ h => h) (by rfl) (by exact hHeld) ?_
        try simp only [Act.put, List.setIfInBounds_toArray, List.set_cons_zero, List.set_cons_succ]
        refine wpAnyH_pass (i := 35) (oi := { dst := some 92, op := Go.Op.binOp Go.BinOp.neq 38 (Go.Operand.tmp 84) (Go.Operand.tmp 91) 38, type := 4, pos := "law.go:127", after := #[{ on := 27, ground := Go.Ground.data }, { on := 34, ground := Go.Ground.data }, { on := 26, ground := Go.Ground.guard }], guard := some (26, true) }) rfl (by kernel_rfl) (by kernel_rfl) (by kernel_rfl) (fun _ _ _ h => h) (by rfl) (by exact hHeld) ?_
        try simp only [Act.put, List.setIfInBounds_toArray, List.set_cons_zero, List.set_cons_succ]
        refine wpAnyH_read (i := 36) (oi := { dst := some 93, op := Go.Op.pick (Go.Operand.tmp 83) (Go.Operand.tmp 92) (Go.Operand.const (Go.Value.bool false)), type := 4, pos := "law.go:127", after := #[{ on := 26, ground := Go.Ground.data }, { on := 35, ground := Go.Ground.data }, { on := 24, ground := Go.Ground.guard }], guard := some (24, false) }) ?_ rfl (by kernel_rfl) (by kernel_rfl) (by kernel_rfl) (fun _ _ _ h => h) (by rfl) (by exact hHeld) ?_ ?_
        rotate_left
        · (intro w0 hS0; go_simp <;> (try with_reducible rfl))
        try simp only [Act.put, List.setIfInBounds_toArray, List.set_cons_zero, List.set_cons_succ]
        refine wpAnyH_read (i := 37) (oi := { dst := some 94, op := Go.Op.pick (Go.Operand.tmp 81) (Go.Operand.const (Go.Value.bool true)) (Go.Operand.tmp 93), type := 4, pos := "law.go:127", after := #[{ on := 24, ground := Go.Ground.data }, { on := 36, ground := Go.Ground.data }], guard := none }) ?_ rfl (by kernel_rfl) (by kernel_rfl) (by kernel_rfl) (fun _ _ _ h => h) (by rfl) (by exact hHeld) ?_ ?_
        rotate_left
        · (intro w0 hS0; go_simp <;> (try with_reducible rfl))
        try simp only [Act.put, List.setIfInBounds_toArray, List.set_cons_zero, List.set_cons_succ]
        refine wpAnyH_read (i := 38) (oi := { dst := some 95, op := Go.Op.move (Go.Operand.tmp 94), type := 4, pos := "law.go:127", after := #[{ on := 37, ground := Go.Ground.data }, { on := 26, ground := Go.Ground.chain }], guard := none }) ?_ rfl (by kernel_rfl) (by kernel_rfl) (by kernel_rfl) (fun _ _ _ h => h) (by rfl) (by exact hHeld) ?_ ?_
        rotate_left
        · (intro w0 hS0; go_simp <;> (try with_reducible rfl))
        try simp only [Act.put, List.setIfInBounds_toArray, List.set_cons_zero, List.set_cons_succ]
        refine wpAnyH_read (i := 39) (oi := { dst := some 96, op := Go.Op.move (Go.Operand.tmp 11), type := 4, pos := "law.go:127", after := #[{ on := 38, ground := Go.Ground.guard }], guard := some (38, false) }) ?_ rfl (by kernel_rfl) (by kernel_rfl) (by kernel_rfl) (fun _ _ _ h => h) (by rfl) (by exact hHeld) ?_ ?_
        rotate_left
        · (intro w0 hS0; go_simp <;> (try with_reducible rfl))
        try simp only [Act.put, List.setIfInBounds_toArray, List.set_cons_zero, List.set_cons_succ]
        refine wpAnyH_read (i := 40) (oi := { dst := some 97, op := Go.Op.unOp Go.UnOp.not 4 (Go.Operand.tmp 96), type := 4, pos := "law.go:127", after := #[{ on := 39, ground := Go.Ground.data }, { on := 38, ground := Go.Ground.guard }], guard := some (38, false) }) ?_ rfl (by kernel_rfl) (by kernel_rfl) (by kernel_rfl) (fun _ _ _ h => h) (by rfl) (by exact hHeld) ?_ ?_
        rotate_left
        · (intro w0 hS0; go_simp <;> (try with_reducible rfl))
        try simp only [Act.put, List.setIfInBounds_toArray, List.set_cons_zero, List.set_cons_succ]
        refine wpAnyH_read (i := 41) (oi := { dst := some 98, op := Go.Op.move (Go.Operand.tmp 97), type := 4, pos := "law.go:127", after := #[{ on := 40, ground := Go.Ground.data }, { on := 38, ground := Go.Ground.chain }, { on := 38, ground := Go.Ground.guard }], guard := some (38, false) }) ?_ rfl (by kernel_rfl) (by kernel_rfl) (by kernel_rfl) (fun _ _ _ h => h) (by rfl) (by exact hHeld) ?_ ?_
        rotate_left
        · (intro w0 hS0; go_simp <;> (try with_reducible rfl))
        try simp only [Act.put, List.setIfInBounds_toArray, List.set_cons_zero, List.set_cons_succ]
        refine wpAnyH_read (i := 43) (oi := { dst := some 100, op := Go.Op.build 38 #[], type := 38, pos := "law.go:127", after := #[{ on := 41, ground := Go.Ground.guard }], guard := some (41, true) }) ?_ rfl (by kernel_rfl) (by kernel_rfl) (by kernel_rfl) (fun _ _ _ h => h) (by rfl) (by exact hHeld) ?_ ?_
        rotate_left
        · (intro w0 hS0; go_simp <;> (try with_reducible rfl))
        try simp only [Act.put, List.setIfInBounds_toArray, List.set_cons_zero, List.set_cons_succ]
        refine wpAnyH_read (i := 42) (oi := { dst := some 99, op := Go.Op.load 38 (Go.Operand.tmp 10), type := 38, pos := "law.go:127", after := #[{ on := 41, ground := Go.Ground.guard }], guard := some (41, true) }) ?_ rfl (by kernel_rfl) (by kernel_rfl) (by kernel_rfl) (fun _ _ _ h => h) (by rfl) (by exact hHeld) ?_ ?_
        rotate_left
        · (intro w0 hS0; have hS1 : RowKit.Below W.heap.size W w0 := hS0; have s1 := (CM.out w0 hS1).1; have s2 := (CM.out w0 hS1).2.1; have s3 := (CM.out w0 hS1).2.2; go_simp <;> (try with_reducible rfl))
        try simp only [Act.put, List.setIfInBounds_toArray, List.set_cons_zero, List.set_cons_succ]
        refine wpAnyH_read (i := 44) (oi := { dst := some 101, op := Go.Op.binOp Go.BinOp.neq 38 (Go.Operand.tmp 99) (Go.Operand.tmp 100) 38, type := 4, pos := "law.go:127", after := #[{ on := 42, ground := Go.Ground.data }, { on := 43, ground := Go.Ground.data }, { on := 41, ground := Go.Ground.guard }], guard := some (41, true) }) ?_ rfl (by kernel_rfl) (by kernel_rfl) (by kernel_rfl) (fun _ _ _ h => h) (by rfl) (by exact hHeld) ?_ ?_
        rotate_left
        · (intro w0 hS0; go_simp <;> (try with_reducible rfl))
        try simp only [Act.put, List.setIfInBounds_toArray, List.set_cons_zero, List.set_cons_succ]
        refine wpAnyH_read (i := 45) (oi := { dst := some 102, op := Go.Op.pick (Go.Operand.tmp 98) (Go.Operand.tmp 101) (Go.Operand.const (Go.Value.bool false)), type := 4, pos := "law.go:127", after := #[{ on := 41, ground := Go.Ground.data }, { on := 44, ground := Go.Ground.data }, { on := 38, ground := Go.Ground.guard }], guard := some (38, false) }) ?_ rfl (by kernel_rfl) (by kernel_rfl) (by kernel_rfl) (fun _ _ _ h => h) (by rfl) (by exact hHeld) ?_ ?_
        rotate_left
        · (intro w0 hS0; go_simp <;> (try with_reducible rfl))
        try simp only [Act.put, List.setIfInBounds_toArray, List.set_cons_zero, List.set_cons_succ]
        refine wpAnyH_read (i := 46) (oi := { dst := some 103, op := Go.Op.pick (Go.Operand.tmp 95) (Go.Operand.const (Go.Value.bool true)) (Go.Operand.tmp 102), type := 4, pos := "law.go:127", after := #[{ on := 38, ground := Go.Ground.data }, { on := 45, ground := Go.Ground.data }], guard := none }) ?_ rfl (by kernel_rfl) (by kernel_rfl) (by kernel_rfl) (fun _ _ _ h => h) (by rfl) (by exact hHeld) ?_ ?_
        rotate_left
        · (intro w0 hS0; go_simp <;> (try with_reducible rfl))
        try simp only [Act.put, List.setIfInBounds_toArray, List.set_cons_zero, List.set_cons_succ]
        refine wpAnyH_done (by kernel_rfl) ?_ _
        clear hneq hgrd hdrew
      all_goals
        have hdrew : RowKit.Below W.heap.size W (World.drew _) := below_drewN hS15.out 1
        go_wp2_with fail
        refine wp_region_held_drew (S := fun V => RowKit.Below W.heap.size W V) (by kernel_rfl) (by exact hdrew) (fun hHeld => ?_)
        refine wpAnyH_read (i := 0) (oi := { dst := some 104, op := Go.Op.move (Go.Operand.tmp 5), type := 25, pos := "law.go:130", after := #[], guard := none }) ?_ rfl (by kernel_rfl) (by kernel_rfl) (by kernel_rfl) (fun _ _ _ h => h) (by rfl) (by exact hHeld) ?_ ?_
        rotate_left
        · (intro w0 hS0; go_simp <;> (try with_reducible rfl))
        try simp only [Act.put, List.setIfInBounds_toArray, List.set_cons_zero, List.set_cons_succ]
        refine wpAnyH_one (i := 1) (o := { dst := some 105, op := Go.Op.call { callee := Go.Callee.value (Go.Operand.func 18), args := #[Go.Operand.tmp 104], argTypes := #[25] }, type := 9, pos := "law.go:130", after := #[{ on := 0, ground := Go.Ground.data }], guard := none }) (by kernel_rfl) rfl (by rfl) (fun K hK => ?_)
        go_simp
        have hH : RowKit.Below W.heap.size W _ := hHeld
        refine (NA.out _ hH).mono ?_
        rintro e w9 ⟨rfl, hw9⟩
        rw [hw9]
        clear hw9 hH
        go_wp2_with fail
        refine hK.out _ _ ?_ (fun hHeld => ?_)
        · exact hHeld
        clear hK K
        try simp only [Act.put, List.setIfInBounds_toArray, List.set_cons_zero, List.set_cons_succ]
        refine wpAnyH_read (i := 2) (oi := { dst := some 106, op := Go.Op.binOp Go.BinOp.neq 9 (Go.Operand.tmp 105) (Go.Operand.const (Go.Value.string { data := #[35, 97] })) 9, type := 4, pos := "law.go:130", after := #[{ on := 1, ground := Go.Ground.data }], guard := none }) ?_ rfl (by kernel_rfl) (by kernel_rfl) (by kernel_rfl) (fun _ _ _ h => h) (by rfl) (by exact hHeld) ?_ ?_
        rotate_left
        · (intro w0 hS0; go_simp <;> (try with_reducible rfl))
        try simp only [Act.put, List.setIfInBounds_toArray, List.set_cons_zero, List.set_cons_succ]
        refine wpAnyH_read (i := 3) (oi := { dst := some 107, op := Go.Op.move (Go.Operand.tmp 106), type := 4, pos := "law.go:130", after := #[{ on := 2, ground := Go.Ground.data }, { on := 1, ground := Go.Ground.chain }], guard := none }) ?_ rfl (by kernel_rfl) (by kernel_rfl) (by kernel_rfl) (fun _ _ _ h => h) (by rfl) (by exact hHeld) ?_ ?_
        rotate_left
        · (intro w0 hS0; go_simp <;> (try with_reducible rfl))
        try simp only [Act.put, List.setIfInBounds_toArray, List.set_cons_zero, List.set_cons_succ]
        refine wpAnyH_read (i := 4) (oi := { dst := some 108, op := Go.Op.move (Go.Operand.tmp 5), type := 25, pos := "law.go:130", after := #[{ on := 3, ground := Go.Ground.guard }], guard := some (3, false) }) ?_ rfl (by kernel_rfl) (by kernel_rfl) (by kernel_rfl) (fun _ _ _ h => h) (by rfl) (by exact hHeld) ?_ ?_
        rotate_left
        · (intro w0 hS0; go_simp <;> (try with_reducible rfl))
        try simp only [Act.put, List.setIfInBounds_toArray, List.set_cons_zero, List.set_cons_succ]
        refine wpAnyH_read (i := 6) (oi := { dst := some 110, op := Go.Op.move (Go.Operand.tmp 6), type := 27, pos := "law.go:130", after := #[{ on := 3, ground := Go.Ground.guard }], guard := some (3, false) }) ?_ rfl (by kernel_rfl) (by kernel_rfl) (by kernel_rfl) (fun _ _ _ h => h) (by rfl) (by exact hHeld) ?_ ?_
        rotate_left
        · (intro w0 hS0; go_simp <;> (try with_reducible rfl))
        try simp only [Act.put, List.setIfInBounds_toArray, List.set_cons_zero, List.set_cons_succ]
        refine wpAnyH_read (i := 7) (oi := { dst := some 111, op := Go.Op.nilCheck (Go.Operand.tmp 110), type := 0, pos := "law.go:130", after := #[{ on := 6, ground := Go.Ground.data }, { on := 3, ground := Go.Ground.guard }], guard := some (3, false) }) ?_ rfl (by kernel_rfl) (by kernel_rfl) (by kernel_rfl) (fun _ _ _ h => h) (by rfl) (by exact hHeld) ?_ ?_
        rotate_left
        · (intro w0 hS0; go_simp <;> (try with_reducible rfl))
        try simp only [Act.put, List.setIfInBounds_toArray, List.set_cons_zero, List.set_cons_succ]
        refine wpAnyH_read (i := 8) (oi := { dst := some 112, op := Go.Op.fieldAddr 46 (Go.Operand.tmp 111) 3, type := 0, pos := "law.go:130", after := #[{ on := 7, ground := Go.Ground.data }, { on := 3, ground := Go.Ground.guard }], guard := some (3, false) }) ?_ rfl (by kernel_rfl) (by kernel_rfl) (by kernel_rfl) (fun _ _ _ h => h) (by rfl) (by exact hHeld) ?_ ?_
        rotate_left
        · (intro w0 hS0; go_simp <;> (try with_reducible rfl))
        try simp only [Act.put, List.setIfInBounds_toArray, List.set_cons_zero, List.set_cons_succ]
        refine wpAnyH_read (i := 9) (oi := { dst := some 113, op := Go.Op.load 9 (Go.Operand.tmp 112), type := 9, pos := "law.go:130", after := #[{ on := 8, ground := Go.Ground.data }, { on := 3, ground := Go.Ground.guard }], guard := some (3, false) }) ?_ rfl (by kernel_rfl) (by kernel_rfl) (by kernel_rfl) (fun _ _ _ h => h) (by rfl) (by exact hHeld) ?_ ?_
        rotate_left
        · (intro w0 hS0; have hS1 : RowKit.Below W.heap.size W w0 := hS0; have s1 := CT.out w0 hS1; go_simp <;> (try with_reducible rfl))
        try simp only [Act.put, List.setIfInBounds_toArray, List.set_cons_zero, List.set_cons_succ]
        refine wpAnyH_one (i := 5) (o := { dst := some 109, op := Go.Op.call { callee := Go.Callee.value (Go.Operand.func 19), args := #[Go.Operand.tmp 108], argTypes := #[25] }, type := 9, pos := "law.go:130", after := #[{ on := 4, ground := Go.Ground.data }, { on := 3, ground := Go.Ground.chain }, { on := 3, ground := Go.Ground.guard }], guard := some (3, false) }) (by kernel_rfl) rfl (by rfl) (fun K hK => ?_)
        go_simp
        have hH : RowKit.Below W.heap.size W _ := hHeld
        refine (TP.out _ hH).mono ?_
        rintro e w9 ⟨rfl, hw9⟩
        rw [hw9]
        clear hw9 hH
        go_wp2_with fail
        refine hK.out _ _ ?_ (fun hHeld => ?_)
        · exact hHeld
        clear hK K
        try simp only [Act.put, List.setIfInBounds_toArray, List.set_cons_zero, List.set_cons_succ]
        refine wpAnyH_read (i := 10) (oi := { dst := some 114, op := Go.Op.binOp Go.BinOp.neq 9 (Go.Operand.tmp 109) (Go.Operand.tmp 113) 9, type := 4, pos := "law.go:130", after := #[{ on := 5, ground := Go.Ground.data }, { on := 9, ground := Go.Ground.data }, { on := 3, ground := Go.Ground.guard }], guard := some (3, false) }) ?_ rfl (by kernel_rfl) (by kernel_rfl) (by kernel_rfl) (fun _ _ _ h => h) (by rfl) (by exact hHeld) ?_ ?_
        rotate_left
        · (intro w0 hS0; go_simp <;> (try with_reducible rfl))
        try simp only [Act.put, List.setIfInBounds_toArray, List.set_cons_zero, List.set_cons_succ]
        refine wpAnyH_read (i := 11) (oi := { dst := some 115, op := Go.Op.pick (Go.Operand.tmp 107) (Go.Operand.const (Go.Value.bool true)) (Go.Operand.tmp 114), type := 4, pos := "law.go:130", after := #[{ on := 3, ground := Go.Ground.data }, { on := 10, ground := Go.Ground.data }], guard := none }) ?_ rfl (by kernel_rfl) (by kernel_rfl) (by kernel_rfl) (fun _ _ _ h => h) (by rfl) (by exact hHeld) ?_ ?_
        rotate_left
        · (intro w0 hS0; go_simp <;> (try with_reducible rfl))
        try simp only [Act.put, List.setIfInBounds_toArray, List.set_cons_zero, List.set_cons_succ]
        refine wpAnyH_read (i := 12) (oi := { dst := some 116, op := Go.Op.move (Go.Operand.tmp 115), type := 4, pos := "law.go:130", after := #[{ on := 11, ground := Go.Ground.data }, { on := 5, ground := Go.Ground.chain }], guard := none }) ?_ rfl (by kernel_rfl) (by kernel_rfl) (by kernel_rfl) (fun _ _ _ h => h) (by rfl) (by exact hHeld) ?_ ?_
        rotate_left
        · (intro w0 hS0; go_simp <;> (try with_reducible rfl))
        try simp only [Act.put, List.setIfInBounds_toArray, List.set_cons_zero, List.set_cons_succ]
        refine wpAnyH_read (i := 13) (oi := { dst := some 117, op := Go.Op.move (Go.Operand.tmp 5), type := 25, pos := "law.go:130", after := #[{ on := 12, ground := Go.Ground.guard }], guard := some (12, false) }) ?_ rfl (by kernel_rfl) (by kernel_rfl) (by kernel_rfl) (fun _ _ _ h => h) (by rfl) (by exact hHeld) ?_ ?_
        rotate_left
        · (intro w0 hS0; go_simp <;> (try with_reducible rfl))
        try simp only [Act.put, List.setIfInBounds_toArray, List.set_cons_zero, List.set_cons_succ]
        refine wpAnyH_read (i := 15) (oi := { dst := some 119, op := Go.Op.move (Go.Operand.tmp 6), type := 27, pos := "law.go:130", after := #[{ on := 12, ground := Go.Ground.guard }], guard := some (12, false) }) ?_ rfl (by kernel_rfl) (by kernel_rfl) (by kernel_rfl) (fun _ _ _ h => h) (by rfl) (by exact hHeld) ?_ ?_
        rotate_left
        · (intro w0 hS0; go_simp <;> (try with_reducible rfl))
        try simp only [Act.put, List.setIfInBounds_toArray, List.set_cons_zero, List.set_cons_succ]
        refine wpAnyH_one (i := 14) (o := { dst := some 118, op := Go.Op.call { callee := Go.Callee.value (Go.Operand.func 20), args := #[Go.Operand.tmp 117, Go.Operand.const (Go.Value.bool true)], argTypes := #[25, 4] }, type := 34, pos := "law.go:130", after := #[{ on := 13, ground := Go.Ground.data }, { on := 12, ground := Go.Ground.chain }, { on := 12, ground := Go.Ground.guard }], guard := some (12, false) }) (by kernel_rfl) rfl (by rfl) (fun K hK => ?_)
        go_simp
        have hH : RowKit.Below W.heap.size W _ := hHeld
        refine (MPT.out _ hH).mono ?_
        rintro e w9 ⟨⟨A14, c14, rfl, o9⟩, b9⟩
        have hS14 := Lib.hid (And.intro (hH.trans (b9.mono hH.size) : RowKit.Below W.heap.size W w9) o9)
        clear o9 b9 hH
        go_wp2_with fail
        refine hK.out _ _ ?_ (fun hHeld => ?_)
        · exact hS14.out.1
        clear hK K
        try simp only [Act.put, List.setIfInBounds_toArray, List.set_cons_zero, List.set_cons_succ]
        refine wpAnyH_one (i := 16) (o := { dst := some 120, op := Go.Op.call { callee := Go.Callee.value (Go.Operand.func 21), args := #[Go.Operand.tmp 119, Go.Operand.const (Go.Value.bool true)], argTypes := #[27, 4] }, type := 34, pos := "law.go:130", after := #[{ on := 15, ground := Go.Ground.data }, { on := 14, ground := Go.Ground.chain }, { on := 12, ground := Go.Ground.guard }], guard := some (12, false) }) (by kernel_rfl) rfl (by rfl) (fun K hK => ?_)
        go_simp
        have hH : RowKit.Below W.heap.size W _ := hHeld
        refine (MXT.out _ hH).mono ?_
        rintro e w9 ⟨⟨A16, c16, rfl, o9⟩, b9⟩
        have hS16 := Lib.hid (And.intro (hH.trans (b9.mono hH.size) : RowKit.Below W.heap.size W w9) (And.intro o9 (ownT_kept hS14.out.2 fun g hg => b9.block g (hS14.out.2.lt g hg).2)))
        clear o9 b9 hH
        go_wp2_with fail
        refine hK.out _ _ ?_ (fun hHeld => ?_)
        · exact hS16.out.1
        clear hK K
        try simp only [Act.put, List.setIfInBounds_toArray, List.set_cons_zero, List.set_cons_succ]
        refine wpAnyH_one (i := 17) (o := { dst := some 121, op := Go.Op.call { callee := Go.Callee.value (Go.Operand.func 15), args := #[Go.Operand.tmp 118, Go.Operand.tmp 120], argTypes := #[34, 34] }, type := 4, pos := "law.go:130", after := #[{ on := 14, ground := Go.Ground.data }, { on := 16, ground := Go.Ground.data }, { on := 16, ground := Go.Ground.chain }, { on := 12, ground := Go.Ground.guard }], guard := some (12, false) }) (by kernel_rfl) rfl (by rfl) (fun K hK => ?_)
        go_simp
        have hH : RowKit.Below W.heap.size W _ := hHeld
        refine (texts_same c14 c16 (by have := HML.out; omega) (reads_ownT hS16.out.2.2) (reads_ownT hS16.out.2.1)).mono ?_
        rintro e w9 ⟨rfl, n9, hw9⟩
        have hS17 := Lib.hid (by rw [hw9]; exact below_drewN hH n9 : RowKit.Below W.heap.size W w9)
        clear hw9 hH
        go_wp2_with fail
        refine hK.out _ _ ?_ (fun hHeld => ?_)
        · exact hS17.out
        clear hK K
        try simp only [Act.put, List.setIfInBounds_toArray, List.set_cons_zero, List.set_cons_succ]
        refine wpAnyH_read (i := 18) (oi := { dst := some 122, op := Go.Op.unOp Go.UnOp.not 4 (Go.Operand.tmp 121), type := 4, pos := "law.go:130", after := #[{ on := 17, ground := Go.Ground.data }, { on := 12, ground := Go.Ground.guard }], guard := some (12, false) }) ?_ rfl (by kernel_rfl) (by kernel_rfl) (by kernel_rfl) (fun _ _ _ h => h) (by rfl) (by exact hHeld) ?_ ?_
        rotate_left
        · (intro w0 hS0; go_simp <;> (try with_reducible rfl))
        try simp only [Act.put, List.setIfInBounds_toArray, List.set_cons_zero, List.set_cons_succ]
        refine wpAnyH_read (i := 19) (oi := { dst := some 123, op := Go.Op.pick (Go.Operand.tmp 116) (Go.Operand.const (Go.Value.bool true)) (Go.Operand.tmp 122), type := 4, pos := "law.go:130", after := #[{ on := 12, ground := Go.Ground.data }, { on := 18, ground := Go.Ground.data }], guard := none }) ?_ rfl (by kernel_rfl) (by kernel_rfl) (by kernel_rfl) (fun _ _ _ h => h) (by rfl) (by exact hHeld) ?_ ?_
        rotate_left
        · (intro w0 hS0; go_simp <;> (try with_reducible rfl))
        try simp only [Act.put, List.setIfInBounds_toArray, List.set_cons_zero, List.set_cons_succ]
        refine wpAnyH_read (i := 20) (oi := { dst := some 124, op := Go.Op.move (Go.Operand.tmp 123), type := 4, pos := "law.go:130", after := #[{ on := 19, ground := Go.Ground.data }, { on := 17, ground := Go.Ground.chain }], guard := none }) ?_ rfl (by kernel_rfl) (by kernel_rfl) (by kernel_rfl) (fun _ _ _ h => h) (by rfl) (by exact hHeld) ?_ ?_
        rotate_left
        · (intro w0 hS0; go_simp <;> (try with_reducible rfl))
        try simp only [Act.put, List.setIfInBounds_toArray, List.set_cons_zero, List.set_cons_succ]
        refine wpAnyH_read (i := 21) (oi := { dst := some 125, op := Go.Op.move (Go.Operand.tmp 5), type := 25, pos := "law.go:130", after := #[{ on := 20, ground := Go.Ground.guard }], guard := some (20, false) }) ?_ rfl (by kernel_rfl) (by kernel_rfl) (by kernel_rfl) (fun _ _ _ h => h) (by rfl) (by exact hHeld) ?_ ?_
        rotate_left
        · (intro w0 hS0; go_simp <;> (try with_reducible rfl))
        try simp only [Act.put, List.setIfInBounds_toArray, List.set_cons_zero, List.set_cons_succ]
        refine wpAnyH_read (i := 23) (oi := { dst := some 127, op := Go.Op.move (Go.Operand.tmp 6), type := 27, pos := "law.go:130", after := #[{ on := 20, ground := Go.Ground.guard }], guard := some (20, false) }) ?_ rfl (by kernel_rfl) (by kernel_rfl) (by kernel_rfl) (fun _ _ _ h => h) (by rfl) (by exact hHeld) ?_ ?_
        rotate_left
        · (intro w0 hS0; go_simp <;> (try with_reducible rfl))
        try simp only [Act.put, List.setIfInBounds_toArray, List.set_cons_zero, List.set_cons_succ]
        refine wpAnyH_one (i := 22) (o := { dst := some 126, op := Go.Op.call { callee := Go.Callee.value (Go.Operand.func 20), args := #[Go.Operand.tmp 125, Go.Operand.const (Go.Value.bool false)], argTypes := #[25, 4] }, type := 34, pos := "law.go:130", after := #[{ on := 21, ground := Go.Ground.data }, { on := 20, ground := Go.Ground.chain }, { on := 20, ground := Go.Ground.guard }], guard := some (20, false) }) (by kernel_rfl) rfl (by rfl) (fun K hK => ?_)
        go_simp
        have hH : RowKit.Below W.heap.size W _ := hHeld
        refine (MPF.out _ hH).mono ?_
        rintro e w9 ⟨⟨A22, c22, rfl, o9⟩, b9⟩
        have hS22 := Lib.hid (And.intro (hH.trans (b9.mono hH.size) : RowKit.Below W.heap.size W w9) o9)
        clear o9 b9 hH
        go_wp2_with fail
        refine hK.out _ _ ?_ (fun hHeld => ?_)
        · exact hS22.out.1
        clear hK K
        try simp only [Act.put, List.setIfInBounds_toArray, List.set_cons_zero, List.set_cons_succ]
        refine wpAnyH_one (i := 24) (o := { dst := some 128, op := Go.Op.call { callee := Go.Callee.value (Go.Operand.func 21), args := #[Go.Operand.tmp 127, Go.Operand.const (Go.Value.bool false)], argTypes := #[27, 4] }, type := 34, pos := "law.go:130", after := #[{ on := 23, ground := Go.Ground.data }, { on := 22, ground := Go.Ground.chain }, { on := 20, ground := Go.Ground.guard }], guard := some (20, false) }) (by kernel_rfl) rfl (by rfl) (fun K hK => ?_)
        go_simp
        have hH : RowKit.Below W.heap.size W _ := hHeld
        refine (MXF.out _ hH).mono ?_
        rintro e w9 ⟨⟨A24, c24, rfl, o9⟩, b9⟩
        have hS24 := Lib.hid (And.intro (hH.trans (b9.mono hH.size) : RowKit.Below W.heap.size W w9) (And.intro o9 (ownT_kept hS22.out.2 fun g hg => b9.block g (hS22.out.2.lt g hg).2)))
        clear o9 b9 hH
        go_wp2_with fail
        refine hK.out _ _ ?_ (fun hHeld => ?_)
        · exact hS24.out.1
        clear hK K
        try simp only [Act.put, List.setIfInBounds_toArray, List.set_cons_zero, List.set_cons_succ]
        refine wpAnyH_one (i := 25) (o := { dst := some 129, op := Go.Op.call { callee := Go.Callee.value (Go.Operand.func 15), args := #[Go.Operand.tmp 126, Go.Operand.tmp 128], argTypes := #[34, 34] }, type := 4, pos := "law.go:130", after := #[{ on := 22, ground := Go.Ground.data }, { on := 24, ground := Go.Ground.data }, { on := 24, ground := Go.Ground.chain }, { on := 20, ground := Go.Ground.guard }], guard := some (20, false) }) (by kernel_rfl) rfl (by rfl) (fun K hK => ?_)
        go_simp
        have hH : RowKit.Below W.heap.size W _ := hHeld
        refine (texts_same c22 c24 (by have := HML.out; omega) (reads_ownT hS24.out.2.2) (reads_ownT hS24.out.2.1)).mono ?_
        rintro e w9 ⟨rfl, n9, hw9⟩
        have hS25 := Lib.hid (by rw [hw9]; exact below_drewN hH n9 : RowKit.Below W.heap.size W w9)
        clear hw9 hH
        go_wp2_with fail
        refine hK.out _ _ ?_ (fun hHeld => ?_)
        · exact hS25.out
        clear hK K
        try simp only [Act.put, List.setIfInBounds_toArray, List.set_cons_zero, List.set_cons_succ]
        refine wpAnyH_read (i := 26) (oi := { dst := some 130, op := Go.Op.unOp Go.UnOp.not 4 (Go.Operand.tmp 129), type := 4, pos := "law.go:130", after := #[{ on := 25, ground := Go.Ground.data }, { on := 20, ground := Go.Ground.guard }], guard := some (20, false) }) ?_ rfl (by kernel_rfl) (by kernel_rfl) (by kernel_rfl) (fun _ _ _ h => h) (by rfl) (by exact hHeld) ?_ ?_
        rotate_left
        · (intro w0 hS0; go_simp <;> (try with_reducible rfl))
        try simp only [Act.put, List.setIfInBounds_toArray, List.set_cons_zero, List.set_cons_succ]
        refine wpAnyH_read (i := 27) (oi := { dst := some 131, op := Go.Op.pick (Go.Operand.tmp 124) (Go.Operand.const (Go.Value.bool true)) (Go.Operand.tmp 130), type := 4, pos := "law.go:130", after := #[{ on := 20, ground := Go.Ground.data }, { on := 26, ground := Go.Ground.data }], guard := none }) ?_ rfl (by kernel_rfl) (by kernel_rfl) (by kernel_rfl) (fun _ _ _ h => h) (by rfl) (by exact hHeld) ?_ ?_
        rotate_left
        · (intro w0 hS0; go_simp <;> (try with_reducible rfl))
        try simp only [Act.put, List.setIfInBounds_toArray, List.set_cons_zero, List.set_cons_succ]
        refine wpAnyH_read (i := 28) (oi := { dst := some 132, op := Go.Op.move (Go.Operand.tmp 131), type := 4, pos := "law.go:130", after := #[{ on := 27, ground := Go.Ground.data }, { on := 25, ground := Go.Ground.chain }], guard := none }) ?_ rfl (by kernel_rfl) (by kernel_rfl) (by kernel_rfl) (fun _ _ _ h => h) (by rfl) (by exact hHeld) ?_ ?_
        rotate_left
        · (intro w0 hS0; go_simp <;> (try with_reducible rfl))
        try simp only [Act.put, List.setIfInBounds_toArray, List.set_cons_zero, List.set_cons_succ]
        refine wpAnyH_read (i := 29) (oi := { dst := some 133, op := Go.Op.move (Go.Operand.tmp 5), type := 25, pos := "law.go:130", after := #[{ on := 28, ground := Go.Ground.guard }], guard := some (28, false) }) ?_ rfl (by kernel_rfl) (by kernel_rfl) (by kernel_rfl) (fun _ _ _ h => h) (by rfl) (by exact hHeld) ?_ ?_
        rotate_left
        · (intro w0 hS0; go_simp <;> (try with_reducible rfl))
        try simp only [Act.put, List.setIfInBounds_toArray, List.set_cons_zero, List.set_cons_succ]
        refine wpAnyH_read (i := 30) (oi := { dst := some 134, op := Go.Op.move (Go.Operand.tmp 1), type := 22, pos := "law.go:130", after := #[{ on := 28, ground := Go.Ground.guard }], guard := some (28, false) }) ?_ rfl (by kernel_rfl) (by kernel_rfl) (by kernel_rfl) (fun _ _ _ h => h) (by rfl) (by exact hHeld) ?_ ?_
        rotate_left
        · (intro w0 hS0; go_simp <;> (try with_reducible rfl))
        try simp only [Act.put, List.setIfInBounds_toArray, List.set_cons_zero, List.set_cons_succ]
        refine wpAnyH_read (i := 31) (oi := { dst := some 135, op := Go.Op.move (Go.Operand.tmp 7), type := 3, pos := "law.go:130", after := #[{ on := 28, ground := Go.Ground.guard }], guard := some (28, false) }) ?_ rfl (by kernel_rfl) (by kernel_rfl) (by kernel_rfl) (fun _ _ _ h => h) (by rfl) (by exact hHeld) ?_ ?_
        rotate_left
        · (intro w0 hS0; go_simp <;> (try with_reducible rfl))
        try simp only [Act.put, List.setIfInBounds_toArray, List.set_cons_zero, List.set_cons_succ]
        refine wpAnyH_read (i := 32) (oi := { dst := some 136, op := Go.Op.indexAddr 22 (Go.Operand.tmp 134) (Go.Operand.tmp 135), type := 0, pos := "law.go:130", after := #[{ on := 30, ground := Go.Ground.data }, { on := 31, ground := Go.Ground.data }, { on := 28, ground := Go.Ground.guard }], guard := some (28, false) }) ?_ rfl (by kernel_rfl) (by kernel_rfl) (by kernel_rfl) (fun _ _ _ h => h) (by rfl) (by exact hHeld) ?_ ?_
        rotate_left
        · (intro w0 hS0; go_simp <;> (try with_reducible rfl))
        try simp only [Act.put, List.setIfInBounds_toArray, List.set_cons_zero, List.set_cons_succ]
        refine wpAnyH_read (i := 33) (oi := { dst := some 137, op := Go.Op.fieldAddr 33 (Go.Operand.tmp 136) 4, type := 0, pos := "law.go:130", after := #[{ on := 32, ground := Go.Ground.data }, { on := 28, ground := Go.Ground.guard }], guard := some (28, false) }) ?_ rfl (by kernel_rfl) (by kernel_rfl) (by kernel_rfl) (fun _ _ _ h => h) (by rfl) (by exact hHeld) ?_ ?_
        rotate_left
        · (intro w0 hS0; go_simp <;> (try with_reducible rfl))
        try simp only [Act.put, List.setIfInBounds_toArray, List.set_cons_zero, List.set_cons_succ]
        refine wpAnyH_read (i := 34) (oi := { dst := some 138, op := Go.Op.fieldAddr 31 (Go.Operand.tmp 137) 1, type := 0, pos := "law.go:130", after := #[{ on := 33, ground := Go.Ground.data }, { on := 28, ground := Go.Ground.guard }], guard := some (28, false) }) ?_ rfl (by kernel_rfl) (by kernel_rfl) (by kernel_rfl) (fun _ _ _ h => h) (by rfl) (by exact hHeld) ?_ ?_
        rotate_left
        · (intro w0 hS0; go_simp <;> (try with_reducible rfl))
        try simp only [Act.put, List.setIfInBounds_toArray, List.set_cons_zero, List.set_cons_succ]
        refine wpAnyH_read (i := 37) (oi := { dst := some 141, op := Go.Op.move (Go.Operand.tmp 6), type := 27, pos := "law.go:130", after := #[{ on := 28, ground := Go.Ground.guard }], guard := some (28, false) }) ?_ rfl (by kernel_rfl) (by kernel_rfl) (by kernel_rfl) (fun _ _ _ h => h) (by rfl) (by exact hHeld) ?_ ?_
        rotate_left
        · (intro w0 hS0; go_simp <;> (try with_reducible rfl))
        try simp only [Act.put, List.setIfInBounds_toArray, List.set_cons_zero, List.set_cons_succ]
        refine wpAnyH_read (i := 38) (oi := { dst := some 142, op := Go.Op.move (Go.Operand.tmp 1), type := 22, pos := "law.go:130", after := #[{ on := 28, ground := Go.Ground.guard }], guard := some (28, false) }) ?_ rfl (by kernel_rfl) (by kernel_rfl) (by kernel_rfl) (fun _ _ _ h => h) (by rfl) (by exact hHeld) ?_ ?_
        rotate_left
        · (intro w0 hS0; go_simp <;> (try with_reducible rfl))
        try simp only [Act.put, List.setIfInBounds_toArray, List.set_cons_zero, List.set_cons_succ]
        refine wpAnyH_read (i := 39) (oi := { dst := some 143, op := Go.Op.move (Go.Operand.tmp 7), type := 3, pos := "law.go:130", after := #[{ on := 28, ground := Go.Ground.guard }], guard := some (28, false) }) ?_ rfl (by kernel_rfl) (by kernel_rfl) (by kernel_rfl) (fun _ _ _ h => h) (by rfl) (by exact hHeld) ?_ ?_
        rotate_left
        · (intro w0 hS0; go_simp <;> (try with_reducible rfl))
        try simp only [Act.put, List.setIfInBounds_toArray, List.set_cons_zero, List.set_cons_succ]
        refine wpAnyH_read (i := 40) (oi := { dst := some 144, op := Go.Op.indexAddr 22 (Go.Operand.tmp 142) (Go.Operand.tmp 143), type := 0, pos := "law.go:130", after := #[{ on := 38, ground := Go.Ground.data }, { on := 39, ground := Go.Ground.data }, { on := 28, ground := Go.Ground.guard }], guard := some (28, false) }) ?_ rfl (by kernel_rfl) (by kernel_rfl) (by kernel_rfl) (fun _ _ _ h => h) (by rfl) (by exact hHeld) ?_ ?_
        rotate_left
        · (intro w0 hS0; go_simp <;> (try with_reducible rfl))
        try simp only [Act.put, List.setIfInBounds_toArray, List.set_cons_zero, List.set_cons_succ]
        refine wpAnyH_read (i := 41) (oi := { dst := some 145, op := Go.Op.fieldAddr 33 (Go.Operand.tmp 144) 4, type := 0, pos := "law.go:130", after := #[{ on := 40, ground := Go.Ground.data }, { on := 28, ground := Go.Ground.guard }], guard := some (28, false) }) ?_ rfl (by kernel_rfl) (by kernel_rfl) (by kernel_rfl) (fun _ _ _ h => h) (by rfl) (by exact hHeld) ?_ ?_
        rotate_left
        · (intro w0 hS0; go_simp <;> (try with_reducible rfl))
        try simp only [Act.put, List.setIfInBounds_toArray, List.set_cons_zero, List.set_cons_succ]
        refine wpAnyH_read (i := 42) (oi := { dst := some 146, op := Go.Op.fieldAddr 31 (Go.Operand.tmp 145) 1, type := 0, pos := "law.go:130", after := #[{ on := 41, ground := Go.Ground.data }, { on := 28, ground := Go.Ground.guard }], guard := some (28, false) }) ?_ rfl (by kernel_rfl) (by kernel_rfl) (by kernel_rfl) (fun _ _ _ h => h) (by rfl) (by exact hHeld) ?_ ?_
        rotate_left
        · (intro w0 hS0; go_simp <;> (try with_reducible rfl))
        try simp only [Act.put, List.setIfInBounds_toArray, List.set_cons_zero, List.set_cons_succ]
        refine wpAnyH_read (i := 35) (oi := { dst := some 139, op := Go.Op.load 5 (Go.Operand.tmp 138), type := 5, pos := "law.go:130", after := #[{ on := 34, ground := Go.Ground.data }, { on := 28, ground := Go.Ground.guard }], guard := some (28, false) }) ?_ rfl (by kernel_rfl) (by kernel_rfl) (by kernel_rfl) (fun _ _ _ h => h) (by rfl) (by exact hHeld) ?_ ?_
        rotate_left
        · (intro w0 hS0; have hS1 : RowKit.Below W.heap.size W w0 := hS0; have s1 := CC.out w0 hS1; go_simp <;> (try with_reducible rfl))
        try simp only [Act.put, List.setIfInBounds_toArray, List.set_cons_zero, List.set_cons_succ]
        refine wpAnyH_read (i := 43) (oi := { dst := some 147, op := Go.Op.load 5 (Go.Operand.tmp 146), type := 5, pos := "law.go:130", after := #[{ on := 42, ground := Go.Ground.data }, { on := 28, ground := Go.Ground.guard }], guard := some (28, false) }) ?_ rfl (by kernel_rfl) (by kernel_rfl) (by kernel_rfl) (fun _ _ _ h => h) (by rfl) (by exact hHeld) ?_ ?_
        rotate_left
        · (intro w0 hS0; have hS1 : RowKit.Below W.heap.size W w0 := hS0; have s1 := CC.out w0 hS1; go_simp <;> (try with_reducible rfl))
        try simp only [Act.put, List.setIfInBounds_toArray, List.set_cons_zero, List.set_cons_succ]
        refine wpAnyH_one (i := 36) (o := { dst := some 140, op := Go.Op.call { callee := Go.Callee.value (Go.Operand.func 22), args := #[Go.Operand.tmp 133, Go.Operand.tmp 139], argTypes := #[25, 5] }, type := 4, pos := "law.go:130", after := #[{ on := 29, ground := Go.Ground.data }, { on := 35, ground := Go.Ground.data }, { on := 28, ground := Go.Ground.chain }, { on := 28, ground := Go.Ground.guard }], guard := some (28, false) }) (by kernel_rfl) rfl (by rfl) (fun K hK => ?_)
        go_simp
        have hH : RowKit.Below W.heap.size W _ := hHeld
        refine (FP.out _ hH).mono ?_
        rintro e w9 ⟨rfl, n9, hw9⟩
        have hS36 := Lib.hid (by rw [hw9]; exact below_drewN hH n9 : RowKit.Below W.heap.size W w9)
        clear hw9 hH
        go_wp2_with fail
        refine hK.out _ _ ?_ (fun hHeld => ?_)
        · exact hS36.out
        clear hK K
        try simp only [Act.put, List.setIfInBounds_toArray, List.set_cons_zero, List.set_cons_succ]
        refine wpAnyH_one (i := 44) (o := { dst := some 148, op := Go.Op.call { callee := Go.Callee.value (Go.Operand.func 23), args := #[Go.Operand.tmp 141, Go.Operand.tmp 147], argTypes := #[27, 5] }, type := 4, pos := "law.go:130", after := #[{ on := 37, ground := Go.Ground.data }, { on := 43, ground := Go.Ground.data }, { on := 36, ground := Go.Ground.chain }, { on := 28, ground := Go.Ground.guard }], guard := some (28, false) }) (by kernel_rfl) rfl (by rfl) (fun K hK => ?_)
        go_simp
        have hH : RowKit.Below W.heap.size W _ := hHeld
        refine (FX.out _ hH).mono ?_
        rintro e w9 ⟨rfl, hw9⟩
        rw [hw9]
        clear hw9 hH
        go_wp2_with fail
        refine hK.out _ _ ?_ (fun hHeld => ?_)
        · exact hHeld
        clear hK K
        try simp only [Act.put, List.setIfInBounds_toArray, List.set_cons_zero, List.set_cons_succ]
        refine wpAnyH_read (i := 45) (oi := { dst := some 149, op := Go.Op.binOp Go.BinOp.neq 4 (Go.Operand.tmp 140) (Go.Operand.tmp 148) 4, type := 4, pos := "law.go:130", after := #[{ on := 36, ground := Go.Ground.data }, { on := 44, ground := Go.Ground.data }, { on := 28, ground := Go.Ground.guard }], guard := some (28, false) }) ?_ rfl (by kernel_rfl) (by kernel_rfl) (by kernel_rfl) (fun _ _ _ h => h) (by rfl) (by exact hHeld) ?_ ?_
        rotate_left
        · (intro w0 hS0; go_simp <;> (try with_reducible rfl))
        try simp only [Act.put, List.setIfInBounds_toArray, List.set_cons_zero, List.set_cons_succ]
        refine wpAnyH_read (i := 46) (oi := { dst := some 150, op := Go.Op.pick (Go.Operand.tmp 132) (Go.Operand.const (Go.Value.bool true)) (Go.Operand.tmp 149), type := 4, pos := "law.go:130", after := #[{ on := 28, ground := Go.Ground.data }, { on := 45, ground := Go.Ground.data }], guard := none }) ?_ rfl (by kernel_rfl) (by kernel_rfl) (by kernel_rfl) (fun _ _ _ h => h) (by rfl) (by exact hHeld) ?_ ?_
        rotate_left
        · (intro w0 hS0; go_simp <;> (try with_reducible rfl))
        try simp only [Act.put, List.setIfInBounds_toArray, List.set_cons_zero, List.set_cons_succ]
        refine wpAnyH_done (by kernel_rfl) ?_ _
        go_wp2_with fail
        exact ⟨⟨k + 1, by omega, by push_cast; rfl, HSTN.out _ (by first | exact hS44.out | exact hHeld | exact hS36.out)⟩, by simp only [Go.RowKit.intOf]; omega⟩
    · obtain rfl : k = l.length := by omega
      have hfin : RowKit.Below w.heap.size w wr := by
        obtain ⟨q, r, qx, x, h2, hrel, hb, hnm⟩ := HS.out
        exact B1.out.trans (hb.mono HBASE.out)
      have HF := Lib.hid hfin
      clear hfin
      go_wp2_with fail
      go_ret
      exact ⟨rfl, HF.out⟩
end Go.Proofs.YtmgnhbihfgpccaaGreatDoor
end
