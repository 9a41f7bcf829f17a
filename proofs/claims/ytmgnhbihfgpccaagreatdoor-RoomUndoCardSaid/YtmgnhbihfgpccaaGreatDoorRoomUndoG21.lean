/- Texts of this proof, one behind the other. -/
import Derived.Test.YtmgnhbihfgpccaaGreatDoorRoomUndoG20
import Derived.Test.YtmgnhbihfgpccaaGreatDoorRoomUndoG8
import Derived.Test.YtmgnhbihfgpccaaGreatDoorRoomUndoG12
import Derived.Test.YtmgnhbihfgpccaaGreatDoorChecked
import Derived.Test.YtmgnhbihfgpccaaGreatDoorRoomUndoG9
import Derived.Below
import Derived.ChangeSame
section
/- Layer 19: RoomUndo. -/
namespace Go.Proofs.YtmgnhbihfgpccaaGreatDoor
set_option linter.unusedVariables false
set_option linter.unusedSimpArgs false
open Go Go.RowKit

theorem texts_same {W : World} {A C : Option Addr} {xs : List (List UInt8)} (c1 c2 : Nat) (hl : xs.length ≤ 100000) (h1 : ReadsT W A xs) (h2 : ReadsT W C xs) :
    Calls Tryz.prog 15 #[.slice A xs.length c1, .slice C xs.length c2] W fun e w' => e = .returned (.bool true) ∧ ∃ n, w' = W.drewN n := by
  have hrow : ∀ {D : Option Addr}, ReadsT W D xs → RowT W D (xs.map bs) := fun {D} h h0 => by
    rw [List.length_map] at h0
    obtain ⟨g, o, a, _, b⟩ := h h0
    exact ⟨g, o, a, fun i hi => by rw [List.length_map] at hi; rw [b i hi, List.getElem_map]⟩
  have h := texts_any A C (xs.map bs) (xs.map bs) c1 c2 W (by rw [List.length_map]; exact hl) (hrow h1) (hrow h2)
  rw [List.length_map] at h
  refine h.mono ?_
  rintro e w' ⟨rfl, hw⟩
  exact ⟨by rw [decide_eq_true rfl], hw⟩
/-- what was looked at -/
structure View (S b : Nat) (Aw : Option Addr) (cw : Nat) (was : List (List UInt8)) (Ab : Option Addr) (cb : Nat) (bl : List (List UInt8)) (M : Nat) (m : Mem) (V : World) : Prop where
  w : OwnT b V (.slice Aw was.length cw) was
  a : OwnT b V (.slice Ab bl.length cb) bl
  k : V.heap[M]? = some (.cells #[.int .i64 m.1, .bool m.2.1, .bool m.2.2] 38 (0, 0))
  w1 : ∀ k, (Value.slice Aw was.length cw).ownBlock = some k → k < S
  a1 : ∀ k, (Value.slice Ab bl.length cb).ownBlock = some k → k < S
  m1 : b ≤ M ∧ M < S
theorem View.fr {S b : Nat} {Aw : Option Addr} {cw : Nat} {was : List (List UInt8)} {Ab : Option Addr} {cb : Nat} {bl : List (List UInt8)} {M : Nat} {m : Mem} {V V' : World} (h : View S b Aw cw was Ab cb bl M m V) {Z : Nat → Prop} (hf : Fr Z V V') (hz : ∀ k, b ≤ k → k < S → ¬ Z k) : View S b Aw cw was Ab cb bl M m V' :=
  ⟨ownT_kept h.w fun g hg => hf.block g (h.w.lt g hg).2 (hz g (h.w.lt g hg).1 (h.w1 g hg)), ownT_kept h.a fun g hg => hf.block g (h.a.lt g hg).2 (hz g (h.a.lt g hg).1 (h.a1 g hg)), hf.blk h.k (hz M h.m1.1 h.m1.2), h.w1, h.a1, h.m1⟩
theorem View.below {S b : Nat} {Aw : Option Addr} {cw : Nat} {was : List (List UInt8)} {Ab : Option Addr} {cb : Nat} {bl : List (List UInt8)} {M : Nat} {m : Mem} {V V' : World} (h : View S b Aw cw was Ab cb bl M m V) (hb : RowKit.Below V.heap.size V V') : View S b Aw cw was Ab cb bl M m V' :=
  h.fr (Fr.of_below (X := fun _ => False) hb) fun _ _ _ e => e
theorem chg_arg {r : Rm} (on : Bool) (c : UInt8) (arg : List UInt8) (id : Int) (ha : arg.length ≤ 250) (hb : ∀ b ∈ r.bans, b.length ≤ 100) : (chgAll r on c arg id).1.arg.length ≤ 250 := by
  unfold chgAll
  split
  · unfold chgFl; split <;> simp [noT]
  · split
    · unfold chgMark; split
      · split <;> simp [noT, ha]
      · simp [noT]
    · split
      · unfold chgKey
        split
        · split
          · simp [noT]
          · split <;> simp [noT, ha]
        · split <;> simp [noT]
      · split
        · unfold chgLim
          split
          · split <;> simp [noT, ha]
          · split <;> simp [noT]
        · split
          · unfold chgBan
            split
            · simp [noT]
            · next h1 =>
              split
              · simp [noT]
              · split
                · show (r.bans.getD _ []).length ≤ 250
                  rw [List.getD_eq_getElem?_getD]
                  cases hq : r.bans[(ixB r.bans (maskB arg)).toNat]? with
                  | none => simp
                  | some y => simp only [Option.getD_some]; have := hb y (List.mem_of_getElem? hq); omega
                · split
                  · simp [noT]
                  · show (maskB arg).length ≤ 250
                    rcases Nat.lt_or_ge 100 (maskB arg).length with cc | cc
                    · exact absurd (.inr (.inl cc)) h1
                    · omega
          · simp [noT]
set_option maxRecDepth 100000 in
set_option maxHeartbeats 32000000 in
theorem roomUndo_main (mb : Int) (A : Option Addr) (l : List Act19) (cc : Nat) (on : Bool) (c : UInt8) (arg : List UInt8) (id : Int) (w : World) (hg : grA l = false) (ha : arg.length ≤ 250) (hA : ReadsA w A l) (hr : Rowed w) (hp : PowR w) :
    Calls Tryz.prog 4 #[.int .i64 mb, .slice A l.length cc, chgV on c arg, .int .i64 id] w fun e w' => e = .returned (.bool true) ∧ RowKit.Below w.heap.size w w' := by
  obtain ⟨hl40, hac⟩ := grA_mem hg
  obtain ⟨N, hN⟩ : ∃ N, w.heap.size = N := ⟨_, rfl⟩
  obtain ⟨ab, hab⟩ : ∃ ab, bs arg = ab := ⟨_, rfl⟩
  have hcv : chgV on c arg = .agg #[.bool on, .int .u8 c.toNat, .string ab] := by rw [← hab]; rfl
  rw [hcv]
  obtain ⟨w0, hw0⟩ : ∃ w0, w.alloc (.cells #[.bool on, .int .u8 c.toNat, .string ab] 31) = w0 := ⟨_, rfl⟩
  have b0 : RowKit.Below w.heap.size w w0 := by rw [← hw0]; exact (Below.refl _ w).alloc (Nat.le_refl _) _
  have k0 : w0.heap[N]? = some (.cells #[.bool on, .int .u8 c.toNat, .string ab] 31 (0, 0)) := by rw [← hw0, ← hN]; exact heap_alloc_new w _
  have HA := Lib.hid hA
  have HG := Lib.hid hg
  have HAC := Lib.hid hac
  have HAW := Lib.hid (awake19 w0 (hr.keep b0) (hp.below b0))
  have HR := Lib.hid (And.intro hr hp)
  have hsz : ¬ (250 : Int) < ab.size := by rw [← hab, bs_size]; omega
  have H0 := Lib.hid (And.intro b0 (And.intro k0 (And.intro hN (And.intro hab ha))))
  have HW := Lib.hid hw0
  clear hA hg hac hr hp b0 k0 hab ha hcv hw0 hN
  have hw0 := HW.out
  have hN := H0.out.2.2.1
  go_enter Tryz.func4, Tryz.ntmps4
  go_wp2_with fail
  clear hw0 hN
  refine HAW.out.mono ?_
  rintro e w1 ⟨rfl, b1⟩
  have B1 := Lib.hid (H0.out.1.trans (b1.mono H0.out.1.size))
  have k1 := (Fr.of_below (X := fun _ => False) b1).blk H0.out.2.1 fun e => e
  have HK1 := Lib.hid k1
  have z2 := blk_cell k1 2
  have hNw : N < w1.heap.size := blk_lt k1
  have HNW := Lib.hid hNw
  clear b1 k1 hNw
  go_wp2_with fail
  refine (great19 A cc l w1 (HA.out.below B1.out) (by omega)).mono ?_
  rintro e w2 ⟨rfl, hw2⟩
  rw [hw2, HG.out]
  clear hw2
  obtain ⟨base, hbase⟩ : ∃ base, w1.heap.size = base := ⟨_, rfl⟩
  have HBASE : Hid (w.heap.size ≤ base) := by show _ ≤ _; rw [← hbase]; exact B1.out.size
  have HBS : Hid (base ≤ w1.heap.size) := by show _ ≤ _; omega
  have HN := Lib.hid (newR_any [35, 97] mb w1)
  go_wp2_with fail
  refine HN.out.mono ?_
  rintro e w3 ⟨B, q3, rfl, h3, b3⟩
  have HN2 := Lib.hid (refNew_any [35, 97] mb w3)
  have H3 := Lib.hid (And.intro h3 b3)
  clear h3 b3 z2
  go_wp2_with fail
  refine HN2.out.mono ?_
  rintro e w4 ⟨B2, q4, rfl, h4, b4⟩
  have hst0 : St19 base B B2 0 w1 w4 := ⟨q3, _, q4, _, by rw [← hbase]; exact two_new H3.out.1 H3.out.2 h4 b4, rel_new [35, 97] mb, by rw [← hbase]; exact H3.out.2.trans (b4.mono H3.out.2.size)⟩
  have HS0 := Lib.hid hst0
  have HRW : Hid (∀ W, RowKit.Below base w1 W → Rowed W) := fun W hW => (HR.out.1.keep B1.out).keep hW (by omega)
  have HPW : Hid (∀ W, RowKit.Below base w1 W → PowR W) := fun W hW => (HR.out.2.below B1.out).below hW (by omega)
  have HNB : Hid (N < base) := by show N < base; rw [← hbase]; exact HNW.out
  clear h4 b4 hst0 H3 HN HN2 HAW hbase HNW
  go_wp2_with fail
  go_loopw [11] (fun s wr => ∃ k : Nat, k ≤ l.length ∧ s = .int .i64 k ∧ Hid (St19 base B B2 k w1 wr)) (fun s _ => l.length - (Go.RowKit.intOf s).toNat)
  case atStart => exact ⟨0, Nat.zero_le _, rfl, HS0⟩
  case round =>
    obtain ⟨k, hk, rfl, HS⟩ := hrel
    by_cases hlt : k < l.length
    · obtain ⟨q, r, qx, x, h2, hrel, hb⟩ := HS.out
      have hb0 : RowKit.Below w.heap.size w wr := B1.out.trans (hb.mono HBASE.out)
      obtain ⟨g, o, rfl, hgl, hc⟩ := HA.out (by omega)
      have hbl := hb0.block g hgl
      have e0 := fun i (hi : i < 7) => (World.cell?_of_block (w := w) (w' := wr) (a := ⟨g, o + k * 7 + i, none⟩) hbl).trans (hc k hlt i hi)
      obtain ⟨a, ha⟩ : ∃ a, l[k] = a := ⟨_, rfl⟩
      rw [ha] at e0
      have hab := HAC.out a (ha ▸ List.getElem_mem hlt)
      have HACT := Lib.hid (act_any h2 hrel (by omega) a hab.1 hab.2 fun W hW => HRW.out W (hb.trans hW))
      have HREL := Lib.hid (And.intro h2 (And.intro (rel_act hrel a hab.2) hb))
      have c0 : wr.cell? ⟨g, o + k * 7, none⟩ = some (.int .i64 a.k) := e0 0 (by decide)
      have c1 : wr.cell? ⟨g, o + k * 7 + 1, none⟩ = some (.int .i64 a.id) := e0 1 (by decide)
      have c2 : wr.cell? ⟨g, o + k * 7 + 2, none⟩ = some (.bool a.op) := e0 2 (by decide)
      have c3 : wr.cell? ⟨g, o + k * 7 + 3, none⟩ = some (.string (bs a.s)) := e0 3 (by decide)
      have c4 : wr.cell? ⟨g, o + k * 7 + 4, none⟩ = some (.bool a.on) := e0 4 (by decide)
      have c5 : wr.cell? ⟨g, o + k * 7 + 5, none⟩ = some (.int .u8 a.l.toNat) := e0 5 (by decide)
      have c6 : wr.cell? ⟨g, o + k * 7 + 6, none⟩ = some (.string (bs a.arg)) := e0 6 (by decide)
      clear h2 hrel hb hb0 hgl hc hbl e0 ha hab
      unfold actV at HACT
      go_wp2_with fail
      refine HACT.out.mono ?_
      rintro e w5 ⟨rfl, hs5⟩
      have HS5 : Hid (St19 base B B2 (k + 1) w1 w5) := St19.next HREL.out.1 HREL.out.2.2 HBS.out hs5 HREL.out.2.1
      clear hs5 c0 c1 c2 c3 c4 c5 c6
      go_wp2_with fail
      exact ⟨⟨k + 1, by omega, by push_cast; rfl, HS5⟩, by simp only [Go.RowKit.intOf]; omega⟩
    · obtain rfl : k = l.length := by omega
      obtain ⟨q, r, qx, x, h2, hrel, hb⟩ := HS.out
      have HKN := Lib.hid ((hb.block N HNB.out).trans HK1.out)
      have HB0 : Hid (RowKit.Below w.heap.size w wr) := B1.out.trans (hb.mono HBASE.out)
      have hchr := rel_chg hrel on c arg id H0.out.2.2.2.2
      have hct := chg_told r on c arg id
      have hcu := fun h1 h2' h3 => chg_undo (r := r) h2.p.2.2.2.2.2.2 on c arg id h1 h2' h3
      have hta := chg_arg (r := r) on c arg id H0.out.2.2.2.2 hrel.s8
      obtain ⟨t, ht⟩ : ∃ t, (chgAll r on c arg id).1 = t := ⟨_, rfl⟩
      obtain ⟨r1, hr1⟩ : ∃ r1, (chgAll r on c arg id).2 = r1 := ⟨_, rfl⟩
      rw [ht, hr1] at hct hcu
      rw [hr1] at hchr
      rw [ht] at hta
      have HCT := Lib.hid hct
      have HCU := Lib.hid hcu
      have HRL1 := Lib.hid hchr.2
      have HRR := Lib.hid h2.p
      have HRL := Lib.hid hrel
      have HTA := Lib.hid hta
      have HPB : Hid (∀ W, RowKit.Below base wr W → PowR W ∧ Rowed W) := fun W hW => ⟨HPW.out W (hb.trans hW), HRW.out W (hb.trans hW)⟩
      have HLT : Hid (∀ k, RmX B q k → base ≤ k ∧ k < wr.heap.size) := fun k hk => h2.p.lt k hk
      have hchg := fun (V : World) (hV : RoomAt base B q r V) (hw : Rowed V) => change_any hV on c arg id (by have := H0.out.2.2.2.2; omega) hw (by have := hrel.s1; omega) (by have := hrel.s2; omega) (fun y hy => by have := hrel.s8 y hy; omega)
      rw [ht, hr1] at hchg
      have HCHG := Lib.hid hchg
      obtain ⟨was, hwas⟩ : ∃ was, modesL r.fl.has r.key r.lim (Lib.itoa r.lim) true = was := ⟨_, rfl⟩
      have hmd := fun {qq : RmV} {V : World} (hV : RoomAt base B qq r V) (hpV : PowR V) => modes_any hV true hpV (by have := hrel.s9; omega)
      rw [hwas] at hmd
      have hwl : was.length ≤ 3 ∧ (1 < was.length ↔ (r.key ≠ [] ∨ r.lim ≠ 0)) := by
        rw [← hwas]; refine ⟨?_, modesL_len _ _ _ _⟩
        unfold modesL; by_cases h1 : r.key = [] <;> by_cases h2 : r.lim = 0 <;> simp [h1, h2]
      have HWL := Lib.hid hwl
      have HMD : Hid (∀ {qq : RmV} {V : World}, RoomAt base B qq r V → PowR V → Calls Tryz.prog 20 #[.pointer (some ⟨B, 0, none⟩), .bool true] V (RetT was V)) := @hmd
      obtain ⟨m, hme⟩ : ∃ m, memL r id = m := ⟨_, rfl⟩
      have hmm : (if hasM r.mem id then r.mem.getD (ixM r.mem id) default else (0, false, false)) = m := hme
      obtain ⟨xb, hxb⟩ : ∃ xb, hasM r.mem id = xb := ⟨_, rfl⟩
      have hmb := fun {qq : RmV} {V : World} (hV : RoomAt base B qq r V) => member_any2 hV id (by have := hrel.s1; omega)
      rw [hmm, hxb] at hmb
      obtain ⟨mi, mo, mv⟩ := m
      unfold memV at hmb
      have HMB : Hid (∀ {qq : RmV} {V : World}, RoomAt base B qq r V → Calls Tryz.prog 13 #[.pointer (some ⟨B, 0, none⟩), .int .i64 id] V fun e w' => e = .returned (.tuple #[.agg #[.int .i64 mi, .bool mo, .bool mv], .bool xb]) ∧ RowKit.Below V.heap.size V w') := @hmb
      have hbn := fun {qq : RmV} {V : World} (hV : RoomAt base B qq r V) => bans_law (w := V) (p := some ⟨B, 0, none⟩) (R := r.bans) (fun V2 h12 => bans_any (hV.fr h12 fun _ _ e => e) (by have := hrel.s2; omega)) (by have := hrel.s2; omega)
      have HBN : Hid (∀ {qq : RmV} {V : World}, RoomAt base B qq r V → Calls Tryz.prog 12 #[.pointer (some ⟨B, 0, none⟩)] V (RetTB r.bans V)) := @hbn
      have hbl6 : r.bans.length ≤ 1000 := by have := hrel.s2; omega
      clear h2 hrel hb hchr hct hcu hta ht hr1 hchg hwas hmd hwl hme hmm hxb hmb hbn HS HS0 HAC HA HG
      have hcall := HMD.out HRR.out (HPB.out _ (Below.refl _ _)).1
      go_wp2_with fail
      refine hcall.mono ?_
      rintro e V1 ⟨⟨Aw, cw, rfl, ow⟩, bV1⟩
      have HR1 := Lib.hid (HRR.out.below bV1)
      have HB1 := Lib.hid bV1
      have HOW := Lib.hid ow
      clear ow bV1 hcall
      have hcall := HBN.out HR1.out
      go_wp2_with fail
      refine hcall.mono ?_
      rintro e V2 ⟨⟨Ab, cb, rfl, oa⟩, bV2⟩
      have HR2 := Lib.hid (HR1.out.below bV2)
      have HB2 := Lib.hid (HB1.out.trans (bV2.mono HB1.out.size))
      have how2 := ownT_kept HOW.out fun g hg => (Fr.of_below (X := fun _ => False) bV2).block g (HOW.out.lt g hg).2 fun e => e
      have HOW2 := Lib.hid (And.intro how2 (ownT_base oa HB1.out.size))
      clear oa bV2 hcall how2
      have hcall := HMB.out HR2.out
      go_wp2_with fail
      refine hcall.mono ?_
      rintro e V3 ⟨rfl, bV3⟩
      have bV4 : RowKit.Below V2.heap.size V2 (V3.alloc (.cells #[.int .i64 mi, .bool mo, .bool mv] 38)) := bV3.alloc bV3.size _
      have hR4 := HR2.out.below bV4
      have hB4 := HB2.out.trans (bV4.mono HB2.out.size)
      have hview : View (V3.alloc (.cells #[.int .i64 mi, .bool mo, .bool mv] 38)).heap.size wr.heap.size Aw cw was Ab cb r.bans V3.heap.size (mi, mo, mv) (V3.alloc (.cells #[.int .i64 mi, .bool mo, .bool mv] 38)) := by
        have f24 := Fr.of_below (X := fun _ => False) bV4
        have hw4 := ownT_kept HOW2.out.1 fun g hg => f24.block g (HOW2.out.1.lt g hg).2 fun e => e
        have ha4 := ownT_kept HOW2.out.2 fun g hg => f24.block g (HOW2.out.2.lt g hg).2 fun e => e
        exact ⟨hw4, ha4, heap_alloc_new V3 _, fun k hk => (hw4.lt k hk).2, fun k hk => (ha4.lt k hk).2, ⟨Nat.le_trans HB2.out.size bV3.size, by simp⟩⟩
      have kN4 := (hB4.block N (blk_lt HKN.out)).trans HKN.out
      have HCH := Lib.hid (HCHG.out _ hR4 (HPB.out _ (hB4.mono (HRR.out.sz))).2)
      have H4 := Lib.hid (And.intro hR4 (And.intro hB4 (And.intro hview kN4)))
      have c0 := blk_cell kN4 0; have c1 := blk_cell kN4 1; have c2 := blk_cell kN4 2
      clear bV3 bV4 hR4 hB4 hview kN4 hcall
      obtain ⟨ton, tc, targ, tcode⟩ := t
      have hab := H0.out.2.2.2.1
      unfold chgV at HCH
      rw [hab] at HCH
      clear hab
      go_wp2_with fail
      clear c0 c1 c2
      refine HCH.out.mono ?_
      rintro e V5 ⟨rfl, hc5⟩
      obtain ⟨q1, hR5, f5, t5⟩ := hc5
      have hview5 := H4.out.2.2.1.fr f5 fun k h1 h2 e => by have := (HLT.out k e).2; omega
      have hfB : Fr (fun k => base ≤ k) wr V5 := ((Fr.of_below (X := fun k => base ≤ k) H4.out.2.1).trans3 f5 fun k _ e => (HLT.out k e).1)
      have hlt5 : ∀ k, RmX B q1 k → wr.heap.size ≤ k → (V3.alloc (.cells #[.int .i64 mi, .bool mo, .bool mv] 38)).heap.size ≤ k := fun k hk hge => by
        rcases Nat.lt_or_ge k (V3.alloc (.cells #[.int .i64 mi, .bool mo, .bool mv] 38)).heap.size with cc | cc
        · have := (HLT.out k (t5 k hk cc)).2; omega
        · exact cc
      obtain ⟨S, hS⟩ : ∃ S, (V3.alloc (.cells #[.int .i64 mi, .bool mo, .bool mv] 38)).heap.size = S := ⟨_, rfl⟩
      have hlt5b : ∀ k, RmX B q1 k → base ≤ k ∧ k < V5.heap.size := fun k hk => hR5.lt k hk
      have hzS : S ≤ V5.heap.size := by rw [← hS]; exact f5.size
      rw [hS] at hview5 hlt5
      have b6 : RowKit.Below V5.heap.size V5 (V5.alloc (.cells #[.bool ton, .int .u8 tc.toNat, .string (bs targ)] 31)) := (Below.refl _ _).alloc (Nat.le_refl _) _
      have k6 := heap_alloc_new V5 (.cells #[.bool ton, .int .u8 tc.toNat, .string (bs targ)] 31)
      have kN6 := (Fr.of_below (X := fun _ => False) b6).blk ((hfB.block N (blk_lt HKN.out) (by have := HNB.out; omega)).trans HKN.out) fun e => e
      have H6 := Lib.hid (And.intro (hR5.below b6) (And.intro (hview5.below b6) (And.intro (hfB.trans3 (Fr.of_below (X := fun _ => False) b6) fun _ _ e => e.elim) (And.intro hlt5 (And.intro hlt5b (And.intro k6 (And.intro kN6 hzS)))))))
      have m0 := blk_cell k6 0; have m1 := blk_cell k6 1; have m2 := blk_cell k6 2
      have n0 := blk_cell kN6 0; have n1 := blk_cell kN6 1; have n2 := blk_cell kN6 2
      clear hR5 f5 t5 hview5 hfB hlt5 hS hlt5b hzS b6 k6 kN6
      have hback : ∀ (on2 : Bool), (chgAll r1 on2 tc targ id).1.code = 0 ∧ (chgAll r1 on2 tc targ id).2 = r → ∀ z, Calls Tryz.prog 24 #[.pointer (some ⟨B, 0, none⟩), .agg #[.bool on2, .int .u8 tc.toNat, .string (bs targ)], .int .i64 id] ((V5.alloc (.cells #[.bool ton, .int .u8 tc.toNat, .string (bs targ)] 31)).alloc z) fun e w' => ∃ (o2 : Bool) (u2 : UInt8) (a2 : ByteArray) (q2 : RmV), e = .returned (.tuple #[.agg #[.bool o2, .int .u8 u2.toNat, .string a2], .int .i64 0]) ∧ Hid (RoomAt base B q2 r w' ∧ View S wr.heap.size Aw cw was Ab cb r.bans V3.heap.size (mi, mo, mv) w' ∧ Fr (fun k => base ≤ k) wr w') := fun on2 hu z => by
        have b7 : RowKit.Below _ _ ((V5.alloc (.cells #[.bool ton, .int .u8 tc.toNat, .string (bs targ)] 31)).alloc z) := (Below.refl _ _).alloc (Nat.le_refl _) _
        have hf7 := H6.out.2.2.1.trans3 (Fr.of_below (X := fun _ => False) b7) fun _ _ e => e.elim
        have hw7 := (HPB.out _ (hf7.below (HRR.out.sz) fun k hk e => e)).2
        refine (change_any (H6.out.1.below b7) on2 tc targ id (by have hta2 : targ.length ≤ 250 := HTA.out; omega) hw7 (by have := HRL1.out.s1; omega) (by have := HRL1.out.s2; omega) (fun y hy => by have := HRL1.out.s8 y hy; omega)).mono ?_
        rintro e w' ⟨rfl, q2, hR8, f8, t8⟩
        rw [hu.2] at hR8
        refine ⟨(chgAll r1 on2 tc targ id).1.on, (chgAll r1 on2 tc targ id).1.c, bs (chgAll r1 on2 tc targ id).1.arg, q2, ?_, Lib.hid ⟨hR8, (H6.out.2.1.below b7).fr f8 fun k h1 h2 e => by have := H6.out.2.2.2.1 k e h1; omega, hf7.trans3 f8 fun k hk e => (H6.out.2.2.2.2.1 k e).1⟩⟩
        · show _ = _
          unfold Told.val chgV
          rw [hu.1]
      have HBK := Lib.hid hback
      clear hback
      have heql : ∀ W, (binOp .eql 31 (.agg #[.bool ton, .int .u8 tc.toNat, .string (bs targ)]) (.agg #[.bool false, .int .u8 0, .string ⟨#[]⟩])).run Tryz.prog W = .ok (.bool (decide (ton = false ∧ tc = 0 ∧ bs targ = ⟨#[]⟩))) W := fun W => eqlC ton false tc 0 (bs targ) ⟨#[]⟩ W
      have hgrd : ∀ x y W, (eqGuard .eql 31 x y (.agg #[.bool ton, .int .u8 tc.toNat, .string (bs targ)]) (.agg #[.bool false, .int .u8 0, .string ⟨#[]⟩])).run Tryz.prog W = .ok () W := fun x y W => guardC x y _ _ W
      rcases HCT.out with ⟨e1, e2⟩ | ⟨e1, e2, e3, e4⟩
      · have hyes : decide (ton = false ∧ tc = 0 ∧ bs targ = (⟨#[]⟩ : ByteArray)) = true := by
          unfold noT at e1; injection e1 with a1 a2 a3 _
          rw [a1, a2, a3]; exact decide_eq_true ⟨rfl, rfl, rfl⟩
        rw [hyes] at heql
        have hr1r : r1 = r := e2
        subst hr1r
        clear e1 e2 hyes
        have hcall := HMB.out H6.out.1
        dsimp only [Told.val, chgV]
        go_wp2_with fail
        clear m0 m1 m2 n0 n1 n2
        refine hcall.mono ?_
        rintro e X1 ⟨rfl, bX1⟩
        have bX2 : RowKit.Below _ _ (X1.alloc (.cells #[.int .i64 mi, .bool mo, .bool mv] 38)) := bX1.alloc bX1.size _
        have kX2 := heap_alloc_new X1 (.cells #[.int .i64 mi, .bool mo, .bool mv] 38)
        have HX2 := Lib.hid (And.intro (H6.out.1.below bX2) (And.intro (H6.out.2.1.below bX2) kX2))
        have HXB := Lib.hid bX2
        clear bX1 bX2 kX2 hcall
        have hcall := HBN.out HX2.out.1
        go_wp2_with fail
        refine hcall.mono ?_
        rintro e X3 ⟨⟨A3, c3, rfl, o3⟩, bX3⟩
        have HX3 := Lib.hid (And.intro (HX2.out.1.below bX3) (And.intro (HX2.out.2.1.below bX3) (And.intro ((Fr.of_below (X := fun _ => False) bX3).blk HX2.out.2.2 fun e => e) o3)))
        have HXB3 := Lib.hid (HXB.out.trans (bX3.mono HXB.out.size))
        clear bX3 o3 hcall
        have hbw3 := ((H6.out.2.2.1.trans3 (Fr.of_below (X := fun _ => False) HXB3.out) fun _ _ e => e.elim).below (B := base) (HRR.out.sz) fun k hk e => by have e2 : base ≤ k := e; omega : RowKit.Below base wr X3)
        have HBW3 := Lib.hid hbw3
        have hcall := HMD.out HX3.out.1 (HPB.out _ hbw3).1
        clear hbw3
        go_wp2_with fail
        refine hcall.mono ?_
        rintro e X4 ⟨⟨A4, c4, rfl, o4⟩, bX4⟩
        have hv4 := HX3.out.2.1.below bX4
        have hk4 := (Fr.of_below (X := fun _ => False) bX4).blk HX3.out.2.2.1 fun e => e
        have ho34 := ownT_kept HX3.out.2.2.2 fun g hg => (Fr.of_below (X := fun _ => False) bX4).block g (HX3.out.2.2.2.lt g hg).2 fun e => e
        have hcall := texts_same c4 cw (by have := HWL.out.1; omega) (reads_ownT o4) (reads_ownT hv4.w)
        have HX4 := Lib.hid (And.intro hv4 (And.intro hk4 ho34))
        have HXB4 := Lib.hid (HXB3.out.trans (bX4.mono HXB3.out.size))
        clear hv4 hk4 ho34 bX4 o4
        go_wp2_with fail
        refine hcall.mono ?_
        rintro e X5 ⟨rfl, n5, hX5⟩
        have b45 : RowKit.Below X4.heap.size X4 X5 := by rw [hX5]; exact below_drewN (Below.refl _ _) n5
        have f45 := Fr.of_below (X := fun _ => False) b45
        have hv5 := HX4.out.1.below b45
        have hk5 := f45.blk HX4.out.2.1 fun e => e
        have ho35 := ownT_kept HX4.out.2.2 fun g hg => f45.block g (HX4.out.2.2.lt g hg).2 fun e => e
        have hcall := texts_same c3 cb (by omega) (reads_ownT ho35) (reads_ownT hv5.a)
        have HXB5 := Lib.hid (HXB4.out.trans (b45.mono HXB4.out.size))
        have p0 := blk_cell hk5 0; have p1 := blk_cell hk5 1; have p2 := blk_cell hk5 2
        have s0 := blk_cell hv5.k 0; have s1 := blk_cell hv5.k 1; have s2 := blk_cell hv5.k 2
        have heqm : ∀ W, (binOp .eql 38 (.agg #[.int .i64 mi, .bool mo, .bool mv]) (.agg #[.int .i64 mi, .bool mo, .bool mv])).run Tryz.prog W = .ok (.bool true) W := fun W => by have := eqlM (mi, mo, mv) (mi, mo, mv) W; rw [decide_eq_true rfl] at this; exact this
        have hgrm : ∀ x y W, (eqGuard .eql 38 x y (.agg #[.int .i64 mi, .bool mo, .bool mv]) (.agg #[.int .i64 mi, .bool mo, .bool mv])).run Tryz.prog W = .ok () W := fun x y W => guardM x y _ _ W
        clear hX5 b45 f45 hv5 hk5 ho35
        go_wp2_with fail
        refine hcall.mono ?_
        rintro e X6 ⟨rfl, n6, hX6⟩
        have HXB6 := Lib.hid (by rw [hX6]; exact below_drewN HXB5.out n6 : RowKit.Below _ _ X6)
        clear hX6 p0 p1 p2 s0 s1 s2 heqm hgrm hcall
        go_wp2_with fail
        go_ret
        exact ⟨rfl, HB0.out.trans (((H6.out.2.2.1.trans3 (Fr.of_below (X := fun _ => False) HXB6.out) fun _ _ e => e.elim).below (B := base) (HRR.out.sz) fun k hk e => by have e2 : base ≤ k := e; omega).mono HBASE.out)⟩
      · have e1 : tcode = 0 := e1
        have e2 : tc = c := e2
        have e3 : ton = on := e3
        subst e1 e2 e3
        have hno : decide (ton = false ∧ tc = 0 ∧ bs targ = (⟨#[]⟩ : ByteArray)) = false := decide_eq_false fun h => e4 h.2.1
        rw [hno] at heql
        clear hno
        dsimp only [Told.val, chgV]
        have hlt7 : ∀ n : Nat, n < 256 → ((tc.toNat : Int) == (n : Int)) = decide (tc = UInt8.ofNat n) := fun n hn => u8_eqR tc n hn
        have d7 : ((tc.toNat : Int) == 107) = decide (tc = 107) := hlt7 107 (by decide)
        have d8 : ((tc.toNat : Int) == 108) = decide (tc = 108) := hlt7 108 (by decide)
        have d9 : ((tc.toNat : Int) == 98) = decide (tc = 98) := hlt7 98 (by decide)
        clear hlt7
        have D := Lib.hid (And.intro d7 (And.intro d8 d9))
        clear d7 d8 d9
        have hwasl : (1 : Int) < was.length ↔ 1 < was.length := by omega
        by_cases p7 : tc = 107 ∨ tc = 108
        · have hd8 : ((tc.toNat : Int) == 107) = true ∨ ((tc.toNat : Int) == 107) = false ∧ ((tc.toNat : Int) == 108) = true := by
            rcases p7 with e | e
            · exact .inl (by rw [D.out.1, decide_eq_true e])
            · exact .inr ⟨by rw [D.out.1, decide_eq_false (by rw [e]; decide)], by rw [D.out.2.1, decide_eq_true e]⟩
          have hd9 : ((tc.toNat : Int) == 98) = false := by rw [D.out.2.2, decide_eq_false (by rcases p7 with e | e <;> (rw [e]; decide))]
          cases ton with
          | false =>
            clear hd9
            rcases hd8 with hd | ⟨hd, hd2⟩
            all_goals
              go_wp2_with fail
              go_ret
              exact ⟨rfl, HB0.out.trans ((H6.out.2.2.1.below (B := base) (HRR.out.sz) fun k hk e => by have e2 : base ≤ k := e; omega).mono HBASE.out)⟩
          | true =>
            by_cases hw1 : 1 < was.length
            · have hw2 : (1 : Int) < was.length := by omega
              clear hd9 hwasl hw1
              rcases hd8 with hd | ⟨hd, hd2⟩
              all_goals
                go_wp2_with fail
                go_ret
                exact ⟨rfl, HB0.out.trans ((H6.out.2.2.1.below (B := base) (HRR.out.sz) fun k hk e => by have e2 : base ≤ k := e; omega).mono HBASE.out)⟩
            · have hw2 : ¬ (1 : Int) < was.length := by omega
              have hun := HCU.out e4 (by rintro ⟨_, h | h⟩; cases h; exact hw1 (HWL.out.2.2 h)) (by rintro ⟨_, h⟩; cases h)
              have HUN := Lib.hid hun
              clear hwasl hw1 hun
              rcases hd8 with hd | ⟨hd, hd2⟩
              · clear p7
                have hcb := HBK.out _ HUN.out
                go_wp2_with fail
                refine (hcb _).mono ?_
                rintro e V8 ⟨o2, u2, a2, q2, rfl, HS8⟩
                clear hcb heql hgrd m0 m1 m2 n0 n1 n2
                have b9 : RowKit.Below V8.heap.size V8 (V8.alloc (.cells #[.bool o2, .int .u8 u2.toNat, .string a2] 31)) := (Below.refl _ V8).alloc (Nat.le_refl _) _
                have HS9 := Lib.hid (And.intro (HS8.out.1.below b9) (And.intro (HS8.out.2.1.below b9) (HS8.out.2.2.trans3 (Fr.of_below (X := fun _ => False) b9) fun _ _ e => e.elim)))
                clear b9
                have hcall := HMB.out HS9.out.1
                go_wp2_with fail
                refine hcall.mono ?_
                rintro e X1 ⟨rfl, bX1⟩
                have bX2 : RowKit.Below _ _ (X1.alloc (.cells #[.int .i64 mi, .bool mo, .bool mv] 38)) := bX1.alloc bX1.size _
                have kX2 := heap_alloc_new X1 (.cells #[.int .i64 mi, .bool mo, .bool mv] 38)
                have HX2 := Lib.hid (And.intro (HS9.out.1.below bX2) (And.intro (HS9.out.2.1.below bX2) kX2))
                have HXB := Lib.hid bX2
                clear bX1 bX2 kX2 hcall
                have hcall := HBN.out HX2.out.1
                go_wp2_with fail
                refine hcall.mono ?_
                rintro e X3 ⟨⟨A3, c3, rfl, o3⟩, bX3⟩
                have HX3 := Lib.hid (And.intro (HX2.out.1.below bX3) (And.intro (HX2.out.2.1.below bX3) (And.intro ((Fr.of_below (X := fun _ => False) bX3).blk HX2.out.2.2 fun e => e) o3)))
                have HXB3 := Lib.hid (HXB.out.trans (bX3.mono HXB.out.size))
                clear bX3 o3 hcall
                have hbw3 := ((HS9.out.2.2.trans3 (Fr.of_below (X := fun _ => False) HXB3.out) fun _ _ e => e.elim).below (B := base) (HRR.out.sz) fun k hk e => by have e2 : base ≤ k := e; omega : RowKit.Below base wr X3)
                have HBW3 := Lib.hid hbw3
                have hcall := HMD.out HX3.out.1 (HPB.out _ hbw3).1
                clear hbw3
                go_wp2_with fail
                refine hcall.mono ?_
                rintro e X4 ⟨⟨A4, c4, rfl, o4⟩, bX4⟩
                have hv4 := HX3.out.2.1.below bX4
                have hk4 := (Fr.of_below (X := fun _ => False) bX4).blk HX3.out.2.2.1 fun e => e
                have ho34 := ownT_kept HX3.out.2.2.2 fun g hg => (Fr.of_below (X := fun _ => False) bX4).block g (HX3.out.2.2.2.lt g hg).2 fun e => e
                have hcall := texts_same c4 cw (by have := HWL.out.1; omega) (reads_ownT o4) (reads_ownT hv4.w)
                have HX4 := Lib.hid (And.intro hv4 (And.intro hk4 ho34))
                have HXB4 := Lib.hid (HXB3.out.trans (bX4.mono HXB3.out.size))
                clear hv4 hk4 ho34 bX4 o4
                go_wp2_with fail
                refine hcall.mono ?_
                rintro e X5 ⟨rfl, n5, hX5⟩
                have b45 : RowKit.Below X4.heap.size X4 X5 := by rw [hX5]; exact below_drewN (Below.refl _ _) n5
                have f45 := Fr.of_below (X := fun _ => False) b45
                have hv5 := HX4.out.1.below b45
                have hk5 := f45.blk HX4.out.2.1 fun e => e
                have ho35 := ownT_kept HX4.out.2.2 fun g hg => f45.block g (HX4.out.2.2.lt g hg).2 fun e => e
                have hcall := texts_same c3 cb (by omega) (reads_ownT ho35) (reads_ownT hv5.a)
                have HXB5 := Lib.hid (HXB4.out.trans (b45.mono HXB4.out.size))
                have p0 := blk_cell hk5 0; have p1 := blk_cell hk5 1; have p2 := blk_cell hk5 2
                have s0 := blk_cell hv5.k 0; have s1 := blk_cell hv5.k 1; have s2 := blk_cell hv5.k 2
                have heqm : ∀ W, (binOp .eql 38 (.agg #[.int .i64 mi, .bool mo, .bool mv]) (.agg #[.int .i64 mi, .bool mo, .bool mv])).run Tryz.prog W = .ok (.bool true) W := fun W => by have := eqlM (mi, mo, mv) (mi, mo, mv) W; rw [decide_eq_true rfl] at this; exact this
                have hgrm : ∀ x y W, (eqGuard .eql 38 x y (.agg #[.int .i64 mi, .bool mo, .bool mv]) (.agg #[.int .i64 mi, .bool mo, .bool mv])).run Tryz.prog W = .ok () W := fun x y W => guardM x y _ _ W
                clear hX5 b45 f45 hv5 hk5 ho35
                go_wp2_with fail
                refine hcall.mono ?_
                rintro e X6 ⟨rfl, n6, hX6⟩
                have HXB6 := Lib.hid (by rw [hX6]; exact below_drewN HXB5.out n6 : RowKit.Below _ _ X6)
                clear hX6 p0 p1 p2 s0 s1 s2 heqm hgrm hcall
                go_wp2_with fail
                go_ret
                exact ⟨rfl, HB0.out.trans (((HS9.out.2.2.trans3 (Fr.of_below (X := fun _ => False) HXB6.out) fun _ _ e => e.elim).below (B := base) (HRR.out.sz) fun k hk e => by have e2 : base ≤ k := e; omega).mono HBASE.out)⟩
              · clear p7
                have hcb := HBK.out _ HUN.out
                go_wp2_with fail
                refine (hcb _).mono ?_
                rintro e V8 ⟨o2, u2, a2, q2, rfl, HS8⟩
                clear hcb heql hgrd m0 m1 m2 n0 n1 n2
                have b9 : RowKit.Below V8.heap.size V8 (V8.alloc (.cells #[.bool o2, .int .u8 u2.toNat, .string a2] 31)) := (Below.refl _ V8).alloc (Nat.le_refl _) _
                have HS9 := Lib.hid (And.intro (HS8.out.1.below b9) (And.intro (HS8.out.2.1.below b9) (HS8.out.2.2.trans3 (Fr.of_below (X := fun _ => False) b9) fun _ _ e => e.elim)))
                clear b9
                have hcall := HMB.out HS9.out.1
                go_wp2_with fail
                refine hcall.mono ?_
                rintro e X1 ⟨rfl, bX1⟩
                have bX2 : RowKit.Below _ _ (X1.alloc (.cells #[.int .i64 mi, .bool mo, .bool mv] 38)) := bX1.alloc bX1.size _
                have kX2 := heap_alloc_new X1 (.cells #[.int .i64 mi, .bool mo, .bool mv] 38)
                have HX2 := Lib.hid (And.intro (HS9.out.1.below bX2) (And.intro (HS9.out.2.1.below bX2) kX2))
                have HXB := Lib.hid bX2
                clear bX1 bX2 kX2 hcall
                have hcall := HBN.out HX2.out.1
                go_wp2_with fail
                refine hcall.mono ?_
                rintro e X3 ⟨⟨A3, c3, rfl, o3⟩, bX3⟩
                have HX3 := Lib.hid (And.intro (HX2.out.1.below bX3) (And.intro (HX2.out.2.1.below bX3) (And.intro ((Fr.of_below (X := fun _ => False) bX3).blk HX2.out.2.2 fun e => e) o3)))
                have HXB3 := Lib.hid (HXB.out.trans (bX3.mono HXB.out.size))
                clear bX3 o3 hcall
                have hbw3 := ((HS9.out.2.2.trans3 (Fr.of_below (X := fun _ => False) HXB3.out) fun _ _ e => e.elim).below (B := base) (HRR.out.sz) fun k hk e => by have e2 : base ≤ k := e; omega : RowKit.Below base wr X3)
                have HBW3 := Lib.hid hbw3
                have hcall := HMD.out HX3.out.1 (HPB.out _ hbw3).1
                clear hbw3
                go_wp2_with fail
                refine hcall.mono ?_
                rintro e X4 ⟨⟨A4, c4, rfl, o4⟩, bX4⟩
                have hv4 := HX3.out.2.1.below bX4
                have hk4 := (Fr.of_below (X := fun _ => False) bX4).blk HX3.out.2.2.1 fun e => e
                have ho34 := ownT_kept HX3.out.2.2.2 fun g hg => (Fr.of_below (X := fun _ => False) bX4).block g (HX3.out.2.2.2.lt g hg).2 fun e => e
                have hcall := texts_same c4 cw (by have := HWL.out.1; omega) (reads_ownT o4) (reads_ownT hv4.w)
                have HX4 := Lib.hid (And.intro hv4 (And.intro hk4 ho34))
                have HXB4 := Lib.hid (HXB3.out.trans (bX4.mono HXB3.out.size))
                clear hv4 hk4 ho34 bX4 o4
                go_wp2_with fail
                refine hcall.mono ?_
                rintro e X5 ⟨rfl, n5, hX5⟩
                have b45 : RowKit.Below X4.heap.size X4 X5 := by rw [hX5]; exact below_drewN (Below.refl _ _) n5
                have f45 := Fr.of_below (X := fun _ => False) b45
                have hv5 := HX4.out.1.below b45
                have hk5 := f45.blk HX4.out.2.1 fun e => e
                have ho35 := ownT_kept HX4.out.2.2 fun g hg => f45.block g (HX4.out.2.2.lt g hg).2 fun e => e
                have hcall := texts_same c3 cb (by omega) (reads_ownT ho35) (reads_ownT hv5.a)
                have HXB5 := Lib.hid (HXB4.out.trans (b45.mono HXB4.out.size))
                have p0 := blk_cell hk5 0; have p1 := blk_cell hk5 1; have p2 := blk_cell hk5 2
                have s0 := blk_cell hv5.k 0; have s1 := blk_cell hv5.k 1; have s2 := blk_cell hv5.k 2
                have heqm : ∀ W, (binOp .eql 38 (.agg #[.int .i64 mi, .bool mo, .bool mv]) (.agg #[.int .i64 mi, .bool mo, .bool mv])).run Tryz.prog W = .ok (.bool true) W := fun W => by have := eqlM (mi, mo, mv) (mi, mo, mv) W; rw [decide_eq_true rfl] at this; exact this
                have hgrm : ∀ x y W, (eqGuard .eql 38 x y (.agg #[.int .i64 mi, .bool mo, .bool mv]) (.agg #[.int .i64 mi, .bool mo, .bool mv])).run Tryz.prog W = .ok () W := fun x y W => guardM x y _ _ W
                clear hX5 b45 f45 hv5 hk5 ho35
                go_wp2_with fail
                refine hcall.mono ?_
                rintro e X6 ⟨rfl, n6, hX6⟩
                have HXB6 := Lib.hid (by rw [hX6]; exact below_drewN HXB5.out n6 : RowKit.Below _ _ X6)
                clear hX6 p0 p1 p2 s0 s1 s2 heqm hgrm hcall
                go_wp2_with fail
                go_ret
                exact ⟨rfl, HB0.out.trans (((HS9.out.2.2.trans3 (Fr.of_below (X := fun _ => False) HXB6.out) fun _ _ e => e.elim).below (B := base) (HRR.out.sz) fun k hk e => by have e2 : base ≤ k := e; omega).mono HBASE.out)⟩
        · have hd7 : ((tc.toNat : Int) == 107) = false := by rw [D.out.1, decide_eq_false fun e => p7 (.inl e)]
          have hd8 : ((tc.toNat : Int) == 108) = false := by rw [D.out.2.1, decide_eq_false fun e => p7 (.inr e)]
          by_cases p9 : tc = 98
          · have hd9 : ((tc.toNat : Int) == 98) = true := by rw [D.out.2.2, decide_eq_true p9]
            cases ton with
            | false =>
              clear p7 p9 hwasl
              go_wp2_with fail
              go_ret
              exact ⟨rfl, HB0.out.trans ((H6.out.2.2.1.below (B := base) (HRR.out.sz) fun k hk e => by have e2 : base ≤ k := e; omega).mono HBASE.out)⟩
            | true =>
              have hun := HCU.out e4 (fun h => p7 h.1) (by rintro ⟨_, h⟩; cases h)
              have HUN := Lib.hid hun
              clear hun p7 p9 hwasl
              have hcb := HBK.out _ HUN.out
              go_wp2_with fail
              refine (hcb _).mono ?_
              rintro e V8 ⟨o2, u2, a2, q2, rfl, HS8⟩
              clear hcb heql hgrd m0 m1 m2 n0 n1 n2
              have b9 : RowKit.Below V8.heap.size V8 (V8.alloc (.cells #[.bool o2, .int .u8 u2.toNat, .string a2] 31)) := (Below.refl _ V8).alloc (Nat.le_refl _) _
              have HS9 := Lib.hid (And.intro (HS8.out.1.below b9) (And.intro (HS8.out.2.1.below b9) (HS8.out.2.2.trans3 (Fr.of_below (X := fun _ => False) b9) fun _ _ e => e.elim)))
              clear b9
              have hcall := HMB.out HS9.out.1
              go_wp2_with fail
              refine hcall.mono ?_
              rintro e X1 ⟨rfl, bX1⟩
              have bX2 : RowKit.Below _ _ (X1.alloc (.cells #[.int .i64 mi, .bool mo, .bool mv] 38)) := bX1.alloc bX1.size _
              have kX2 := heap_alloc_new X1 (.cells #[.int .i64 mi, .bool mo, .bool mv] 38)
              have HX2 := Lib.hid (And.intro (HS9.out.1.below bX2) (And.intro (HS9.out.2.1.below bX2) kX2))
              have HXB := Lib.hid bX2
              clear bX1 bX2 kX2 hcall
              have hcall := HBN.out HX2.out.1
              go_wp2_with fail
              refine hcall.mono ?_
              rintro e X3 ⟨⟨A3, c3, rfl, o3⟩, bX3⟩
              have HX3 := Lib.hid (And.intro (HX2.out.1.below bX3) (And.intro (HX2.out.2.1.below bX3) (And.intro ((Fr.of_below (X := fun _ => False) bX3).blk HX2.out.2.2 fun e => e) o3)))
              have HXB3 := Lib.hid (HXB.out.trans (bX3.mono HXB.out.size))
              clear bX3 o3 hcall
              have hbw3 := ((HS9.out.2.2.trans3 (Fr.of_below (X := fun _ => False) HXB3.out) fun _ _ e => e.elim).below (B := base) (HRR.out.sz) fun k hk e => by have e2 : base ≤ k := e; omega : RowKit.Below base wr X3)
              have HBW3 := Lib.hid hbw3
              have hcall := HMD.out HX3.out.1 (HPB.out _ hbw3).1
              clear hbw3
              go_wp2_with fail
              refine hcall.mono ?_
              rintro e X4 ⟨⟨A4, c4, rfl, o4⟩, bX4⟩
              have hv4 := HX3.out.2.1.below bX4
              have hk4 := (Fr.of_below (X := fun _ => False) bX4).blk HX3.out.2.2.1 fun e => e
              have ho34 := ownT_kept HX3.out.2.2.2 fun g hg => (Fr.of_below (X := fun _ => False) bX4).block g (HX3.out.2.2.2.lt g hg).2 fun e => e
              have hcall := texts_same c4 cw (by have := HWL.out.1; omega) (reads_ownT o4) (reads_ownT hv4.w)
              have HX4 := Lib.hid (And.intro hv4 (And.intro hk4 ho34))
              have HXB4 := Lib.hid (HXB3.out.trans (bX4.mono HXB3.out.size))
              clear hv4 hk4 ho34 bX4 o4
              go_wp2_with fail
              refine hcall.mono ?_
              rintro e X5 ⟨rfl, n5, hX5⟩
              have b45 : RowKit.Below X4.heap.size X4 X5 := by rw [hX5]; exact below_drewN (Below.refl _ _) n5
              have f45 := Fr.of_below (X := fun _ => False) b45
              have hv5 := HX4.out.1.below b45
              have hk5 := f45.blk HX4.out.2.1 fun e => e
              have ho35 := ownT_kept HX4.out.2.2 fun g hg => f45.block g (HX4.out.2.2.lt g hg).2 fun e => e
              have hcall := texts_same c3 cb (by omega) (reads_ownT ho35) (reads_ownT hv5.a)
              have HXB5 := Lib.hid (HXB4.out.trans (b45.mono HXB4.out.size))
              have p0 := blk_cell hk5 0; have p1 := blk_cell hk5 1; have p2 := blk_cell hk5 2
              have s0 := blk_cell hv5.k 0; have s1 := blk_cell hv5.k 1; have s2 := blk_cell hv5.k 2
              have heqm : ∀ W, (binOp .eql 38 (.agg #[.int .i64 mi, .bool mo, .bool mv]) (.agg #[.int .i64 mi, .bool mo, .bool mv])).run Tryz.prog W = .ok (.bool true) W := fun W => by have := eqlM (mi, mo, mv) (mi, mo, mv) W; rw [decide_eq_true rfl] at this; exact this
              have hgrm : ∀ x y W, (eqGuard .eql 38 x y (.agg #[.int .i64 mi, .bool mo, .bool mv]) (.agg #[.int .i64 mi, .bool mo, .bool mv])).run Tryz.prog W = .ok () W := fun x y W => guardM x y _ _ W
              clear hX5 b45 f45 hv5 hk5 ho35
              go_wp2_with fail
              refine hcall.mono ?_
              rintro e X6 ⟨rfl, n6, hX6⟩
              have HXB6 := Lib.hid (by rw [hX6]; exact below_drewN HXB5.out n6 : RowKit.Below _ _ X6)
              clear hX6 p0 p1 p2 s0 s1 s2 heqm hgrm hcall
              go_wp2_with fail
              go_ret
              exact ⟨rfl, HB0.out.trans (((HS9.out.2.2.trans3 (Fr.of_below (X := fun _ => False) HXB6.out) fun _ _ e => e.elim).below (B := base) (HRR.out.sz) fun k hk e => by have e2 : base ≤ k := e; omega).mono HBASE.out)⟩
          · have hd9 : ((tc.toNat : Int) == 98) = false := by rw [D.out.2.2, decide_eq_false p9]
            have hun := HCU.out e4 (fun h => p7 h.1) (fun h => p9 h.1)
            have HUN := Lib.hid hun
            clear hun p7 p9 hwasl
            have hcb := HBK.out _ HUN.out
            go_wp2_with fail
            refine (hcb _).mono ?_
            rintro e V8 ⟨o2, u2, a2, q2, rfl, HS8⟩
            clear hcb heql hgrd m0 m1 m2 n0 n1 n2
            have b9 : RowKit.Below V8.heap.size V8 (V8.alloc (.cells #[.bool o2, .int .u8 u2.toNat, .string a2] 31)) := (Below.refl _ V8).alloc (Nat.le_refl _) _
            have HS9 := Lib.hid (And.intro (HS8.out.1.below b9) (And.intro (HS8.out.2.1.below b9) (HS8.out.2.2.trans3 (Fr.of_below (X := fun _ => False) b9) fun _ _ e => e.elim)))
            clear b9
            have hcall := HMB.out HS9.out.1
            go_wp2_with fail
            refine hcall.mono ?_
            rintro e X1 ⟨rfl, bX1⟩
            have bX2 : RowKit.Below _ _ (X1.alloc (.cells #[.int .i64 mi, .bool mo, .bool mv] 38)) := bX1.alloc bX1.size _
            have kX2 := heap_alloc_new X1 (.cells #[.int .i64 mi, .bool mo, .bool mv] 38)
            have HX2 := Lib.hid (And.intro (HS9.out.1.below bX2) (And.intro (HS9.out.2.1.below bX2) kX2))
            have HXB := Lib.hid bX2
            clear bX1 bX2 kX2 hcall
            have hcall := HBN.out HX2.out.1
            go_wp2_with fail
            refine hcall.mono ?_
            rintro e X3 ⟨⟨A3, c3, rfl, o3⟩, bX3⟩
            have HX3 := Lib.hid (And.intro (HX2.out.1.below bX3) (And.intro (HX2.out.2.1.below bX3) (And.intro ((Fr.of_below (X := fun _ => False) bX3).blk HX2.out.2.2 fun e => e) o3)))
            have HXB3 := Lib.hid (HXB.out.trans (bX3.mono HXB.out.size))
            clear bX3 o3 hcall
            have hbw3 := ((HS9.out.2.2.trans3 (Fr.of_below (X := fun _ => False) HXB3.out) fun _ _ e => e.elim).below (B := base) (HRR.out.sz) fun k hk e => by have e2 : base ≤ k := e; omega : RowKit.Below base wr X3)
            have HBW3 := Lib.hid hbw3
            have hcall := HMD.out HX3.out.1 (HPB.out _ hbw3).1
            clear hbw3
            go_wp2_with fail
            refine hcall.mono ?_
            rintro e X4 ⟨⟨A4, c4, rfl, o4⟩, bX4⟩
            have hv4 := HX3.out.2.1.below bX4
            have hk4 := (Fr.of_below (X := fun _ => False) bX4).blk HX3.out.2.2.1 fun e => e
            have ho34 := ownT_kept HX3.out.2.2.2 fun g hg => (Fr.of_below (X := fun _ => False) bX4).block g (HX3.out.2.2.2.lt g hg).2 fun e => e
            have hcall := texts_same c4 cw (by have := HWL.out.1; omega) (reads_ownT o4) (reads_ownT hv4.w)
            have HX4 := Lib.hid (And.intro hv4 (And.intro hk4 ho34))
            have HXB4 := Lib.hid (HXB3.out.trans (bX4.mono HXB3.out.size))
            clear hv4 hk4 ho34 bX4 o4
            go_wp2_with fail
            refine hcall.mono ?_
            rintro e X5 ⟨rfl, n5, hX5⟩
            have b45 : RowKit.Below X4.heap.size X4 X5 := by rw [hX5]; exact below_drewN (Below.refl _ _) n5
            have f45 := Fr.of_below (X := fun _ => False) b45
            have hv5 := HX4.out.1.below b45
            have hk5 := f45.blk HX4.out.2.1 fun e => e
            have ho35 := ownT_kept HX4.out.2.2 fun g hg => f45.block g (HX4.out.2.2.lt g hg).2 fun e => e
            have hcall := texts_same c3 cb (by omega) (reads_ownT ho35) (reads_ownT hv5.a)
            have HXB5 := Lib.hid (HXB4.out.trans (b45.mono HXB4.out.size))
            have p0 := blk_cell hk5 0; have p1 := blk_cell hk5 1; have p2 := blk_cell hk5 2
            have s0 := blk_cell hv5.k 0; have s1 := blk_cell hv5.k 1; have s2 := blk_cell hv5.k 2
            have heqm : ∀ W, (binOp .eql 38 (.agg #[.int .i64 mi, .bool mo, .bool mv]) (.agg #[.int .i64 mi, .bool mo, .bool mv])).run Tryz.prog W = .ok (.bool true) W := fun W => by have := eqlM (mi, mo, mv) (mi, mo, mv) W; rw [decide_eq_true rfl] at this; exact this
            have hgrm : ∀ x y W, (eqGuard .eql 38 x y (.agg #[.int .i64 mi, .bool mo, .bool mv]) (.agg #[.int .i64 mi, .bool mo, .bool mv])).run Tryz.prog W = .ok () W := fun x y W => guardM x y _ _ W
            clear hX5 b45 f45 hv5 hk5 ho35
            go_wp2_with fail
            refine hcall.mono ?_
            rintro e X6 ⟨rfl, n6, hX6⟩
            have HXB6 := Lib.hid (by rw [hX6]; exact below_drewN HXB5.out n6 : RowKit.Below _ _ X6)
            clear hX6 p0 p1 p2 s0 s1 s2 heqm hgrm hcall
            go_wp2_with fail
            go_ret
            exact ⟨rfl, HB0.out.trans (((HS9.out.2.2.trans3 (Fr.of_below (X := fun _ => False) HXB6.out) fun _ _ e => e.elim).below (B := base) (HRR.out.sz) fun k hk e => by have e2 : base ≤ k := e; omega).mono HBASE.out)⟩
end Go.Proofs.YtmgnhbihfgpccaaGreatDoor
end
section
/- An argument that is a slice of anything flat, opened. -/
namespace Go.Proofs.YtmgnhbihfgpccaaGreatDoor
open Go Go.ChangeShapes Go.WideShapes Go.RowKit Go.Deep

section
variable {H : Type} {enc : TypeId × Value → H} {P : Program} {W : World}
theorem open_elems {α : Type} [Inhabited α] {t e : TypeId} {base k : Nat} {v : Value} {d : DataW H} {p : List MemPlace} (hk : 0 < k) (encf : α → List Value) (G : α → Prop) (ht : P.underlying t = some (.slice e)) (hc : P.cellsOf e = k)
    (hdec : ∀ n cs y, cs.length = k → DataW.trod enc P W 0 (fun _ => true) true n e cs = some y → ∃ x, cs = encf x ∧ G x)
    (hval : Value.okWide P W .any base t v) (h : DataW.Trod enc P W 0 (fun _ => true) true t v d p) :
    ∃ (A : Option Addr) (l : List α) (c : Nat), v = .slice A l.length c ∧ l.length ≤ c ∧ c ≤ maxLen ∧ (∀ x ∈ l, G x) ∧
      (0 < l.length → ∃ g o, A = some ⟨g, o, none⟩ ∧ g < W.heap.size ∧ ∀ i (h : i < l.length) j u, (encf l[i])[j]? = some u → W.cell? ⟨g, o + i * k + j, none⟩ = some u) := by
  obtain ⟨A, n, c, rfl⟩ := okWide_slice ht hval
  obtain ⟨fuel, hf⟩ := h
  rcases open_slice ht hf with ⟨hcs, _⟩ | ⟨a, len, cap, m, n', D, Pl, hcs, _, hl, hm, hmm, _, hel⟩
  · have h3 : A = none ∧ n = 0 ∧ c = 0 := by simpa [Value.cells] using hcs
    obtain ⟨rfl, rfl, rfl⟩ := h3
    exact ⟨none, [], 0, rfl, Nat.le_refl _, by unfold maxLen; omega, by simp, fun h => absurd h (by simp)⟩
  · have h3 : A = some a ∧ n = len ∧ c = cap := by simpa [Value.cells] using hcs
    obtain ⟨rfl, rfl, rfl⟩ := h3
    simp only [if_true] at hmm
    have each : ∀ i, i < n → ∃ x : α, G x ∧ (encf x).length = k ∧ ∀ j u, (encf x)[j]? = some u → W.cell? ((a.add (i * k)).add j) = some u := by
      intro i hi
      obtain ⟨cs', h1, h2⟩ := hel i (by omega)
      rw [hc] at h1
      obtain ⟨_, hlen, hat⟩ := World.cells?_some h1
      obtain ⟨x, rfl, hg⟩ := hdec _ _ _ hlen h2
      refine ⟨x, hg, hlen, fun j u hu => ?_⟩
      have hj : j < k := by
        rw [← hlen]; exact (List.getElem?_eq_some_iff.1 hu).1
      rw [hat j hj, hu]
    obtain ⟨F, hF⟩ := choose_lt each
    refine ⟨some a, (List.range n).map F, c, by simp, by simpa using hl, hm, ?_, ?_⟩
    · intro x hx
      simp only [List.mem_map, List.mem_range] at hx
      obtain ⟨i, hi, rfl⟩ := hx
      exact (hF i hi).1
    · intro hpos
      simp only [List.length_map, List.length_range] at hpos
      obtain ⟨_, hl0, h0⟩ := hF 0 hpos
      have hq := h0 0 ((encf (F 0))[0]'(by omega)) (List.getElem?_eq_getElem (by omega))
      have hq : W.cell? (a.add 0) = some ((encf (F 0))[0]'(by omega)) := by
        have e : (a.add (0 * k)).add 0 = a.add 0 := by
          obtain ⟨b, o, s⟩ := a
          cases s <;> simp [Addr.add]
        rwa [e] at hq
      obtain ⟨g, o, rfl⟩ := spot_of hq
      have hg : g < W.heap.size := by
        have := block_lt_of_cell hq
        simpa [add_at] using this
      refine ⟨g, o, rfl, hg, fun i hi j u hu => ?_⟩
      simp only [List.length_map, List.length_range] at hi
      obtain ⟨_, _, hh⟩ := hF i hi
      have := hh j u (by simpa using hu)
      rwa [add_at, add_at] at this
end
end Go.Proofs.YtmgnhbihfgpccaaGreatDoor
end
section
/- Layer 19: acts that are given, opened: one by value, a slice of them. -/
namespace Go.Proofs.YtmgnhbihfgpccaaGreatDoor
set_option linter.unusedVariables false
set_option linter.unusedSimpArgs false
open Go Go.ChangeShapes Go.WideShapes Go.RowKit

def actG (a : Act19) : Prop := a.s.length ≤ maxLen ∧ a.arg.length ≤ maxLen ∧ (Lit.int .i64 a.k).wf = true ∧ (Lit.int .i64 a.id).wf = true
instance : Inhabited Act19 := ⟨⟨0, 0, false, [], false, 0, []⟩⟩
set_option maxRecDepth 1000000 in
theorem dec_chg {H : Type} {enc : TypeId × Value → H} {W : World} {base : Nat} {spare : Nat → Bool} {held : Bool} {fuel : Nat} {cs : List Value} {y : DataW H × List MemPlace} (hlen : cs.length = 3) (hf : DataW.trod enc Tryz.prog W base spare held fuel 31 cs = some y) : ∃ (on : Bool) (l : UInt8) (arg : List UInt8), cs = [.bool on, .int .u8 l.toNat, .string (bs arg)] ∧ arg.length ≤ maxLen := by
  have ks : Tryz.prog.cellsOf 9 = 1 := by kernel_rfl
  have kb : Tryz.prog.cellsOf 4 = 1 := by kernel_rfl
  have ku : Tryz.prog.cellsOf 5 = 1 := by kernel_rfl
  match cs, hlen with
  | [c0, c1, c2], _ =>
    obtain ⟨xs, n, _, hx, _, hln, hg⟩ := DataW.trod_struct Tryz.underlying31 hf
    have hl : xs.length = 3 := hln
    have gs : ∀ i, i < 3 → ∃ y, xs[i]? = some y := fun i hi => ⟨xs[i]'(by omega), List.getElem?_eq_getElem (by omega)⟩
    obtain ⟨y0, e0⟩ := gs 0 (by omega)
    have g0 := hg 0 _ rfl
    rw [e0] at g0
    obtain ⟨b0, q0, _⟩ := DataW.trod_bool Tryz.underlying4 g0
    simp [kb] at q0
    obtain ⟨y1, e1⟩ := gs 1 (by omega)
    have g1 := hg 1 _ rfl
    rw [e1] at g1
    obtain ⟨m1, q1, _, z1⟩ := DataW.trod_int Tryz.underlying5 g1
    simp [ku] at q1
    obtain ⟨y2, e2⟩ := gs 2 (by omega)
    have g2 := hg 2 _ rfl
    rw [e2] at g2
    obtain ⟨s2, q2, _, z2⟩ := DataW.trod_string Tryz.underlying9 g2
    simp [ks] at q2
    subst q0 q1 q2
    simp only [Lit.wf, IntKind.has, Bool.and_eq_true, decide_eq_true_eq] at z1
    have h0 : (0 : Int) ≤ m1 := z1.1
    have h1 : m1 ≤ 255 := z1.2
    refine ⟨b0, UInt8.ofNat m1.toNat, s2.data.toList, ?_, z2⟩
    have : ((UInt8.ofNat m1.toNat).toNat : Int) = m1 := by simp; omega
    rw [this]
    rfl
set_option maxRecDepth 1000000 in
theorem dec_act {H : Type} {enc : TypeId × Value → H} {W : World} {base : Nat} {spare : Nat → Bool} {held : Bool} {fuel : Nat} {cs : List Value} {y : DataW H × List MemPlace} (hlen : cs.length = 7) (hf : DataW.trod enc Tryz.prog W base spare held fuel 33 cs = some y) : ∃ a, cs = encA a ∧ actG a := by
  have ks : Tryz.prog.cellsOf 9 = 1 := by kernel_rfl
  have ki : Tryz.prog.cellsOf 3 = 1 := by kernel_rfl
  have kb : Tryz.prog.cellsOf 4 = 1 := by kernel_rfl
  have kc : Tryz.prog.cellsOf 31 = 3 := by kernel_rfl
  match cs, hlen with
  | [c0, c1, c2, c3, c4, c5, c6], _ =>
    obtain ⟨xs, n, _, hx, _, hln, hg⟩ := DataW.trod_struct Tryz.underlying33 hf
    have hl : xs.length = 5 := hln
    have gs : ∀ i, i < 5 → ∃ y, xs[i]? = some y := fun i hi => ⟨xs[i]'(by omega), List.getElem?_eq_getElem (by omega)⟩
    obtain ⟨y0, e0⟩ := gs 0 (by omega)
    have g0 := hg 0 _ rfl
    rw [e0] at g0
    obtain ⟨m0, q0, _, z0⟩ := DataW.trod_int Tryz.underlying3 g0
    simp [ki] at q0
    obtain ⟨y1, e1⟩ := gs 1 (by omega)
    have g1 := hg 1 _ rfl
    rw [e1] at g1
    obtain ⟨m1, q1, _, z1⟩ := DataW.trod_int Tryz.underlying3 g1
    simp [ki] at q1
    obtain ⟨y2, e2⟩ := gs 2 (by omega)
    have g2 := hg 2 _ rfl
    rw [e2] at g2
    obtain ⟨b2, q2, _⟩ := DataW.trod_bool Tryz.underlying4 g2
    simp [kb] at q2
    obtain ⟨y3, e3⟩ := gs 3 (by omega)
    have g3 := hg 3 _ rfl
    rw [e3] at g3
    obtain ⟨s3, q3, _, z3⟩ := DataW.trod_string Tryz.underlying9 g3
    simp [ks] at q3
    obtain ⟨y4, e4⟩ := gs 4 (by omega)
    have g4 := hg 4 _ rfl
    rw [e4] at g4
    obtain ⟨on, l, arg, q4, z4⟩ := dec_chg (by simp [kc]) g4
    simp [kc] at q4
    obtain ⟨q4, q5, q6⟩ := q4
    subst q0 q1 q2 q3 q4 q5 q6
    exact ⟨⟨m0, m1, b2, s3.data.toList, on, l, arg⟩, rfl, z3, z4, z0, z1⟩
set_option maxRecDepth 1000000 in
theorem open_act {H : Type} {enc : TypeId × Value → H} {W : World} {base b0 : Nat} {spare : Nat → Bool} {held : Bool} {r : Reach} {v : Value} {d : DataW H} {p : List MemPlace}
    (hv : Value.okWide Tryz.prog W r b0 33 v) (h : DataW.Trod enc Tryz.prog W base spare held 33 v d p) : ∃ a : Act19, v = actV a ∧ actG a := by
  have hC : Tryz.prog.cellsOf 33 = 7 := by kernel_rfl
  obtain ⟨cs, rfl, hsz⟩ := okWide_struct Tryz.underlying33 hv
  obtain ⟨l⟩ := cs
  obtain ⟨fuel, hf⟩ := h
  obtain ⟨a, ha, hg⟩ := dec_act (hsz.trans hC) hf
  have e : l = encA a := ha
  subst e
  exact ⟨a, rfl, hg⟩
set_option maxRecDepth 1000000 in
theorem open_acts {H : Type} {enc : TypeId × Value → H} {W : World} {base : Nat} {v : Value} {d : DataW H} {p : List MemPlace} (hval : Value.okWide Tryz.prog W .any base 22 v) (h : DataW.Trod enc Tryz.prog W 0 (fun _ => true) true 22 v d p) :
    ∃ (A : Option Addr) (l : List Act19) (c : Nat), v = .slice A l.length c ∧ l.length ≤ c ∧ c ≤ maxLen ∧ (∀ x ∈ l, actG x) ∧ (0 < l.length → ∃ g o, A = some ⟨g, o, none⟩ ∧ g < W.heap.size ∧ ∀ i (h : i < l.length) j u, (encA l[i])[j]? = some u → W.cell? ⟨g, o + i * 7 + j, none⟩ = some u) := by
  have hc : Tryz.prog.cellsOf 33 = 7 := by kernel_rfl
  exact open_elems (by decide) encA actG Tryz.underlying22 hc (fun _ _ _ hl hf => dec_act hl hf) hval h
end Go.Proofs.YtmgnhbihfgpccaaGreatDoor
end
section
/- Layer 19: RoomUndo, whatever is given; a change by value, opened. -/
namespace Go.Proofs.YtmgnhbihfgpccaaGreatDoor
set_option linter.unusedVariables false
set_option linter.unusedSimpArgs false
open Go Go.ChangeShapes Go.WideShapes Go.RowKit

set_option maxRecDepth 1000000 in
theorem open_chg {H : Type} {enc : TypeId × Value → H} {W : World} {base b0 : Nat} {spare : Nat → Bool} {held : Bool} {r : Reach} {v : Value} {d : DataW H} {p : List MemPlace}
    (hv : Value.okWide Tryz.prog W r b0 31 v) (h : DataW.Trod enc Tryz.prog W base spare held 31 v d p) : ∃ (on : Bool) (c : UInt8) (arg : List UInt8), v = chgV on c arg ∧ arg.length ≤ maxLen := by
  have hC : Tryz.prog.cellsOf 31 = 3 := by kernel_rfl
  obtain ⟨cs, rfl, hsz⟩ := okWide_struct Tryz.underlying31 hv
  obtain ⟨l⟩ := cs
  obtain ⟨fuel, hf⟩ := h
  obtain ⟨on, c, arg, ha, hg⟩ := dec_chg (hsz.trans hC) hf
  have e : l = [.bool on, .int .u8 c.toNat, .string (bs arg)] := ha
  subst e
  exact ⟨on, c, arg, rfl, hg⟩
set_option maxRecDepth 100000 in
set_option maxHeartbeats 8000000 in
theorem roomUndo_walk (mb : Int) (A : Option Addr) (l : List Act19) (cc : Nat) (on : Bool) (c : UInt8) (arg : List UInt8) (id : Int) (w : World) (hA : ReadsA w A l) (hl : l.length ≤ 9223372036854775807) (hwl : arg.length ≤ 9223372036854775807) (hr : Rowed w) (hp : PowR w) :
    Calls Tryz.prog 4 #[.int .i64 mb, .slice A l.length cc, chgV on c arg, .int .i64 id] w fun e w' => e = .returned (.bool true) ∧ RowKit.Below w.heap.size w w' := by
  cases hg : grA l with
  | true =>
    obtain ⟨N, hN⟩ : ∃ N, w.heap.size = N := ⟨_, rfl⟩
    obtain ⟨ab, hab⟩ : ∃ ab, bs arg = ab := ⟨_, rfl⟩
    have hcv : chgV on c arg = .agg #[.bool on, .int .u8 c.toNat, .string ab] := by rw [← hab]; rfl
    rw [hcv]
    obtain ⟨w0, hw0⟩ : ∃ w0, w.alloc (.cells #[.bool on, .int .u8 c.toNat, .string ab] 31) = w0 := ⟨_, rfl⟩
    have b0 : RowKit.Below w.heap.size w w0 := by rw [← hw0]; exact (Below.refl _ w).alloc (Nat.le_refl _) _
    have k0 : w0.heap[N]? = some (.cells #[.bool on, .int .u8 c.toNat, .string ab] 31 (0, 0)) := by rw [← hw0, ← hN]; exact heap_alloc_new w _
    have HA := Lib.hid hA
    have HG := Lib.hid hg
    have HAW := Lib.hid (awake19 w0 (hr.keep b0) (hp.below b0))
    have H0 := Lib.hid (And.intro b0 (And.intro k0 hN))
    have HW := Lib.hid hw0
    clear hA hg hr hp b0 k0 hab hcv hw0 hN
    have hw0 := HW.out
    have hN := H0.out.2.2
    go_enter Tryz.func4, Tryz.ntmps4
    go_wp2_with fail
    clear hw0 hN
    refine HAW.out.mono ?_
    rintro e w1 ⟨rfl, b1⟩
    have B1 := Lib.hid (H0.out.1.trans (b1.mono H0.out.1.size))
    have k1 := (Fr.of_below (X := fun _ => False) b1).blk H0.out.2.1 fun e => e
    have z2 := blk_cell k1 2
    clear b1 k1
    go_wp2_with fail
    refine (great19 A cc l w1 (HA.out.below B1.out) hl).mono ?_
    rintro e w2 ⟨rfl, hw2⟩
    rw [hw2, HG.out]
    clear hw2
    go_wp2_with fail
    go_ret
    exact ⟨rfl, B1.out⟩
  | false =>
    by_cases hw : arg.length ≤ 250
    · exact roomUndo_main mb A l cc on c arg id w hg hw hA hr hp
    · obtain ⟨N, hN⟩ : ∃ N, w.heap.size = N := ⟨_, rfl⟩
      obtain ⟨ab, hab⟩ : ∃ ab, bs arg = ab := ⟨_, rfl⟩
      have hcv : chgV on c arg = .agg #[.bool on, .int .u8 c.toNat, .string ab] := by rw [← hab]; rfl
      rw [hcv]
      obtain ⟨w0, hw0⟩ : ∃ w0, w.alloc (.cells #[.bool on, .int .u8 c.toNat, .string ab] 31) = w0 := ⟨_, rfl⟩
      have b0 : RowKit.Below w.heap.size w w0 := by rw [← hw0]; exact (Below.refl _ w).alloc (Nat.le_refl _) _
      have k0 : w0.heap[N]? = some (.cells #[.bool on, .int .u8 c.toNat, .string ab] 31 (0, 0)) := by rw [← hw0, ← hN]; exact heap_alloc_new w _
      have HA := Lib.hid hA
      have HG := Lib.hid hg
      have HAW := Lib.hid (awake19 w0 (hr.keep b0) (hp.below b0))
      have hsz : (250 : Int) < ab.size := by rw [← hab, bs_size]; omega
      have H0 := Lib.hid (And.intro b0 (And.intro k0 hN))
      have HW := Lib.hid hw0
      clear hA hg hr hp b0 k0 hab hcv hw0 hN hw
      have hw0 := HW.out
      have hN := H0.out.2.2
      go_enter Tryz.func4, Tryz.ntmps4
      go_wp2_with fail
      clear hw0 hN
      refine HAW.out.mono ?_
      rintro e w1 ⟨rfl, b1⟩
      have B1 := Lib.hid (H0.out.1.trans (b1.mono H0.out.1.size))
      have k1 := (Fr.of_below (X := fun _ => False) b1).blk H0.out.2.1 fun e => e
      have z2 := blk_cell k1 2
      clear b1 k1
      go_wp2_with fail
      refine (great19 A cc l w1 (HA.out.below B1.out) hl).mono ?_
      rintro e w2 ⟨rfl, hw2⟩
      rw [hw2, HG.out]
      clear hw2
      go_wp2_with fail
      go_ret
      exact ⟨rfl, B1.out⟩
end Go.Proofs.YtmgnhbihfgpccaaGreatDoor
end
section
/- A law's last step where the call has made memory of its own, of whatever sort: what lay before lies as it lay, so each argument reads as it read. -/
namespace Go.Proofs.YtmgnhbihfgpccaaGreatDoor
open Go Go.RowKit Go.WideShapes Go.ChangeShapes

theorem post_below {H : Type} {enc : TypeId × Value → H} {P : Program} {f : Func} {s : ChangeSpec} {apart fresh handsOn again : Bool} {W W' : World} {args : Array Value} {v : Value} {ds gs : List (DataW H)} {all pa pv : List MemPlace}
    (hW : DataW.Whole enc P f.params.toList s.vars apart W args.toList ds gs all)
    (hr : ∀ (b : Nat) (sp : Nat → Bool) (hd : Bool), DataW.TrodAll enc P W' b sp hd f.resultTypes.toList (v.resultList f.resultTypes.size) (s.fn H (ds ++ gs)).results [])
    (ha : ∀ sp : Nat → Bool, (∀ p ∈ all, sp p.block = true) → DataW.TrodAll enc P W' 0 sp true f.params.toList args.toList (s.fn H (ds ++ gs)).args pa)
    (hv : ∀ sp : Nat → Bool, (∀ p ∈ all, sp p.block = true) → DataW.TrodVars enc P W' sp s.vars (s.fn H (ds ++ gs)).vars pv)
    (hpl : all = pa ++ pv) (hB : Below W.heap.size W W')
    (hok : ∀ (j : Nat) (t : TypeId) (r : Value), f.resultTypes[j]? = some t → (v.resultList f.resultTypes.size)[j]? = some r → Value.okWide P W' .any 0 t r) :
    s.post enc P f apart fresh handsOn again W args v W' := by
  have low : ∀ p ∈ all, p.block < W.heap.size := fun p hp => hW.lt p hp
  refine ⟨ds, gs, all, [], pa, pv, hW, hr _ _ _, ha (fun b => decide (b < W.heap.size)) fun p hp => by simpa using low p hp, hv (fun b => decide (b < W.heap.size)) fun p hp => by simpa using low p hp,
    World.keptBut_mono (fun p hp => ⟨hp, .inr (by rw [hpl, List.mem_append] at hp; exact hp)⟩) (hB.frame (· ∈ all)), fun _ => ?_⟩
  obtain ⟨_, _, _, _, _, hfrozen, hapart⟩ := hW
  have same : ∀ p : MemPlace, p ∈ ([] ++ pa) ++ pv → p ∈ all := fun p hp => by rw [hpl]; simpa using hp
  refine ⟨hok, _, _, ([] ++ pa) ++ pv, ⟨[] ++ pa, pv, trodAll_append (ha _ fun _ _ => rfl) (hr _ _ _), hv _ fun _ _ => rfl, rfl, fun b off hp => ?_, fun h => ?_⟩, fun p hp _ => ?_⟩
  · rw [hB.frozen (low _ (same _ hp))]
    exact hfrozen b off (same _ hp)
  · have := hapart h
    rw [hpl] at this
    simpa using this
  · rw [hpl]
    simpa using hp
end Go.Proofs.YtmgnhbihfgpccaaGreatDoor
end
