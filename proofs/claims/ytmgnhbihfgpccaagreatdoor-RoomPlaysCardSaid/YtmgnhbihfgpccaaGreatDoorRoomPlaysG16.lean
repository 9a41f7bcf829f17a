/- Texts of this proof, one behind the other. -/
import Derived.Test.YtmgnhbihfgpccaaGreatDoorRoomPlaysG15
import Derived.Test.YtmgnhbihfgpccaaGreatDoorRoomPlaysG6
set_option linter.unusedVariables false
set_option linter.unusedSimpArgs false
section
/- Layer 19: the document's Change: a flag. -/
namespace Go.Proofs.YtmgnhbihfgpccaaGreatDoor
open Go Go.RowKit

/-- a flag, for the document -/
def flX (x : Rx) (on : Bool) (c : UInt8) : Told × Rx := if x.on.contains c = on then (noT 0, x) else (⟨on, c, [], 0⟩, { x with on := (x.on.filter fun d => decide (d ≠ c)) ++ (if on then [c] else []) })
theorem filt_next (s : ByteArray) (c : UInt8) (k : Nat) (h : k < s.size) : (s.data.toList.take (k + 1)).filter (fun d => decide (d ≠ c)) = (s.data.toList.take k).filter (fun d => decide (d ≠ c)) ++ (if s[k] = c then [] else [s[k]]) := by
  have hk : k < s.data.toList.length := by simpa using h
  rw [List.take_succ_eq_append_getElem hk, List.filter_append]
  congr 1
  have e : s.data.toList[k] = s[k] := rfl
  by_cases hc : s[k] = c
  · rw [if_pos hc, List.filter_cons_of_neg (by rw [e]; simpa using hc)]; rfl
  · rw [if_neg hc, List.filter_cons_of_pos (by rw [e]; simpa using hc), e]; rfl
set_option maxRecDepth 100000 in
set_option maxHeartbeats 16000000 in
theorem refChange_F105 {base B : Nat} {q : RxV} {x : Rx} {w : World} (h : RxAt base B q x w) (on : Bool) (arg : List UInt8) (id : Int) (hol : x.on.length ≤ 100000) :
    Calls Tryz.prog 35 #[.pointer (some ⟨B, 0, none⟩), chgV on 105 arg, .int .i64 id] w fun e w' => e = .returned (flX x on 105).1.val ∧ XW base B q (flX x on 105).2 w w' := by
  obtain ⟨N, hN⟩ : ∃ N, w.heap.size = N := ⟨_, rfl⟩
  obtain ⟨ab, hab⟩ : ∃ ab, bs arg = ab := ⟨_, rfl⟩
  have hcv : chgV on 105 arg = .agg #[.bool on, .int .u8 105, .string ab] := by rw [← hab]; rfl
  rw [hcv]
  obtain ⟨res, hres⟩ : ∃ res, flX x on 105 = res := ⟨_, rfl⟩
  rw [hres]
  obtain ⟨V0, hV0⟩ : ∃ V0, (((w.alloc (.cells #[.bool on, .int .u8 105, .string ab] 31)).alloc (.cells #[.bool false, .int .u8 0, .string ⟨#[]⟩] 31)).alloc (.cells #[.bool false, .int .u8 0, .string ⟨#[]⟩] 31)) = V0 := ⟨_, rfl⟩
  have b0 : RowKit.Below w.heap.size w V0 := by rw [← hV0]; exact (((Below.refl _ w).alloc (Nat.le_refl _) _).alloc (by simp) _).alloc (by simp; omega) _
  have k0 : V0.heap[N]? = some (.cells #[.bool on, .int .u8 105, .string ab] 31 (0, 0)) := by rw [← hV0, ← hN]; exact blk_alloc (blk_alloc (heap_alloc_new w _) _) _
  have k1 : V0.heap[N + 1]? = some (.cells #[.bool false, .int .u8 0, .string ⟨#[]⟩] 31 (0, 0)) := by rw [← hV0, ← hN]; exact blk_alloc (heap_alloc2_new w _ _) _
  have k2 : V0.heap[N + 1 + 1]? = some (.cells #[.bool false, .int .u8 0, .string ⟨#[]⟩] 31 (0, 0)) := by
    rw [← hV0, ← hN]
    have := heap_alloc2_new (w.alloc (.cells #[.bool on, .int .u8 105, .string ab] 31)) (.cells #[.bool false, .int .u8 0, .string ⟨#[]⟩] 31) (.cells #[.bool false, .int .u8 0, .string ⟨#[]⟩] 31)
    rwa [World.size_alloc] at this
  have y0 := blk_cell k2 0; have y1 := blk_cell k2 1; have y2 := blk_cell k2 2; have x0 := blk_free k2 0; have x1 := blk_free k2 1; have x2 := blk_free k2 2
  obtain ⟨W0, hW0⟩ : ∃ W0, (((V0.setCell ⟨N + 1 + 1, 0, none⟩ (.bool false)).setCell ⟨N + 1 + 1, 1, none⟩ (.int .u8 0)).setCell ⟨N + 1 + 1, 2, none⟩ (.string ⟨#[]⟩)) = W0 := ⟨_, rfl⟩
  have fV : Fr (fun k => k = N + 1 + 1) V0 W0 := by rw [← hW0]; exact set3R_fr
  have b0 : RowKit.Below w.heap.size w W0 := b0.trans (fV.below (B := w.heap.size) b0.size fun k hk e => by omega)
  have k0 := fV.blk k0 (by omega)
  have k1 := fV.blk k1 (by omega)
  have k2 : W0.heap[N + 1 + 1]? = some (.cells #[.bool false, .int .u8 0, .string ⟨#[]⟩] 31 (0, 0)) := by rw [← hW0]; exact set3R k2
  clear fV
  have h0 := h.below b0
  have hlt : ∀ k, RxX B q k → k < w.heap.size := fun k hk => (h.lt k hk).2
  have HRES := Lib.hid hres
  have HAB := Lib.hid hab
  have H := Lib.hid (And.intro b0 (And.intro k0 (And.intro k1 (And.intro k2 (And.intro h0 (And.intro hN hlt))))))
  have HW := Lib.hid hW0
  obtain ⟨s, hs⟩ : ∃ s, bs x.on = s := ⟨_, rfl⟩
  have hsl : s.size ≤ 100000 := by rw [← hs]; simpa using hol
  have hsd : s.data.toList = x.on := by rw [← hs]; rfl
  obtain ⟨y, hy⟩ : ∃ y, x.on.contains 105 = y := ⟨_, rfl⟩
  have hF := fun n => refFlag_any (h0.fr (Fr.of_below (X := fun _ => False) (below_drewN (Below.refl W0.heap.size W0) n)) fun _ _ e => e) 105 (by omega)
  rw [hy] at hF
  have HF := Lib.hid hF
  have HS := Lib.hid (And.intro hsd (And.intro hs hy))
  have z0 := blk_cell k0 0; have z1 := blk_cell k0 1
  clear h h0 k0 k1 k2 hlt hres hab hcv hs hsd hy hF hol
  by_cases hxo : y = on
  · have hc : flX x on 105 = (noT 0, x) := by unfold flX; rw [if_pos (by rw [HS.out.2.2, hxo])]
    have HC := Lib.hid hc
    have hxe := hxo.symm
    subst hxe
    clear hxo hc
    go_enter Tryz.func35, Tryz.ntmps35
    go_wp2_with fail
    go_quiet ((go_at_call 23; exact Calls.quiet_of_same (HF.out _)))
    clear hW0 hV0 hN z0 z1 y0 y1 y2 x0 x1 x2
    obtain ⟨W5, hW5⟩ : ∃ W5, W0.drewN nq = W5 := ⟨_, rfl⟩
    rw [hW5]
    have f5 : Fr (fun _ => False) W0 W5 := by rw [← hW5]; exact Fr.of_below (below_drewN (Below.refl _ _) nq)
    have H5 := Lib.hid (And.intro (by rw [← hW5]; exact below_drewN H.out.1 nq : RowKit.Below w.heap.size w W5) (And.intro (f5.blk H.out.2.1 fun e => e) (And.intro (f5.blk H.out.2.2.1 fun e => e) (And.intro (f5.blk H.out.2.2.2.1 fun e => e) (And.intro (H.out.2.2.2.2.1.fr f5 fun _ _ e => e) H.out.2.2.2.2.2)))))
    clear hW5 f5 H HF HW
    have q0 := blk_cell H5.out.2.2.1 0; have q1 := blk_cell H5.out.2.2.1 1; have q2 := blk_cell H5.out.2.2.1 2; have g0 := blk_free H5.out.2.2.1 0; have g1 := blk_free H5.out.2.2.1 1; have g2 := blk_free H5.out.2.2.1 2
    have p0 := blk_cell H5.out.2.2.2.1 0; have p1 := blk_cell H5.out.2.2.2.1 1; have p2 := blk_cell H5.out.2.2.2.1 2
    go_wp2_with fail
    obtain ⟨b5, k5, r5, p5, a5, hN5, hlt5⟩ := H5.out
    have kk := fun j => blk_cell (set3R (x := .bool false) (y := .int .u8 0) (z := .string ⟨#[]⟩) r5) j
    refine bodyPost_ret (res_three rfl rfl (Tryz.isAgg31 _) (Tryz.sizeOf31 _) (kk 0) (kk 1) (kk 2)) rfl ⟨by rw [← HRES.out, HC.out]; rfl, ?_⟩
    rw [← HRES.out, HC.out]
    exact XW.boxedZ (Z := fun k => k = N + 1) ⟨q, a5, Fr.refl _ _, fun _ hk _ => hk⟩ b5 hlt5 (fun k e => by have := blk_lt r5; omega) set3R_fr
  · have hcn : flX x on 105 = (⟨on, 105, [], 0⟩, { x with on := (x.on.filter fun d => decide (d ≠ 105)) ++ (if on then [105] else []) }) := by unfold flX; rw [if_neg (by rw [HS.out.2.2]; exact hxo)]
    have HC := Lib.hid hcn
    have hxn : (y == on) = false := by cases y <;> cases on <;> simp_all
    clear hxo hcn
    go_enter Tryz.func35, Tryz.ntmps35
    go_wp2_with fail
    go_quiet ((go_at_call 23; exact Calls.quiet_of_same (HF.out _)))
    clear hW0 hV0 hN z0 z1 y0 y1 y2 x0 x1 x2
    obtain ⟨W5, hW5⟩ : ∃ W5, W0.drewN nq = W5 := ⟨_, rfl⟩
    rw [hW5]
    have f5 : Fr (fun _ => False) W0 W5 := by rw [← hW5]; exact Fr.of_below (below_drewN (Below.refl _ _) nq)
    have H5 := Lib.hid (And.intro (by rw [← hW5]; exact below_drewN H.out.1 nq : RowKit.Below w.heap.size w W5) (And.intro (f5.blk H.out.2.1 fun e => e) (And.intro (f5.blk H.out.2.2.1 fun e => e) (And.intro (f5.blk H.out.2.2.2.1 fun e => e) (And.intro (H.out.2.2.2.2.1.fr f5 fun _ _ e => e) H.out.2.2.2.2.2)))))
    clear hW5 f5 H HF HW
    go_wp2_with fail
    go_loopw [9, 10] (fun u i wr => ∃ (k : Nat) (t : ByteArray), i = .int .i64 k ∧ k ≤ s.size ∧ u = .string t ∧ Hid (t.data.toList = (s.data.toList.take k).filter fun d => decide (d ≠ 105)) ∧ ∃ nn, wr = W5.drewN nn) (fun _ i _ => s.size - (Go.RowKit.intOf i).toNat)
    case atStart => exact ⟨0, ⟨#[]⟩, rfl, Nat.zero_le _, rfl, by show _ = _; simp, 0, rfl⟩
    case round =>
      obtain ⟨k, t, rfl, hk, rfl, HT, nn, rfl⟩ := hrel
      have f6 : Fr (fun _ => False) W5 (W5.drewN nn) := Fr.of_below (below_drewN (Below.refl _ _) nn)
      have H6 := Lib.hid (And.intro (below_drewN H5.out.1 nn) (And.intro (f6.blk H5.out.2.1 fun e => e) (And.intro (f6.blk H5.out.2.2.1 fun e => e) (And.intro (f6.blk H5.out.2.2.2.1 fun e => e) (And.intro (H5.out.2.2.2.2.1.fr f6 fun _ _ e => e) H5.out.2.2.2.2.2)))))
      obtain ⟨W6, hW6⟩ : ∃ W6, W5.drewN nn = W6 := ⟨_, rfl⟩
      rw [hW6] at H6 ⊢
      have HW6 := Lib.hid hW6
      clear f6 hW6
      have htl : t.size ≤ 1000000 := by
        have h0 : t.data.toList.length = t.size := by simp
        rw [← h0, HT.out]
        refine Nat.le_trans (List.length_filter_le _ _) (Nat.le_trans (List.length_take_le _ _) (by omega))
      have c4 : W6.cell? ⟨B, 4, none⟩ = some (.string s) := by rw [← HS.out.2.1]; exact blk_cell H6.out.2.2.2.2.1.1 4
      have z1 := blk_cell H6.out.2.1 1
      by_cases hlt : k < s.size
      · have HN := Lib.hid (filt_next s 105 k hlt)
        have HE := Lib.hid (app_one' t s k hlt)
        by_cases hid : s[k] = 105
        · have he : ((s[k].toNat : Int) != 105) = false := by rw [hid]; decide
          have HID := Lib.hid hid
          clear hid
          go_wp2_with fail
          go_quiet (fail)
          go_wp2_with fail
          refine ⟨⟨k + 1, t, by push_cast; rfl, by omega, rfl, ?_, ?_⟩, by simp only [Go.RowKit.intOf]; omega⟩
          · show _ = _; rw [HN.out, if_pos HID.out, HT.out, List.append_nil]
          · exact drewN_two ⟨nn, HW6.out.symm⟩ ⟨_, rfl⟩
        · have he : ((s[k].toNat : Int) != 105) = true := by
            rw [bne_iff_ne]
            intro e
            exact hid (UInt8.toNat_inj.1 (by have : (105 : UInt8).toNat = 105 := rfl; omega))
          have HID := Lib.hid hid
          clear hid
          go_wp2_with fail
          go_quiet (fail)
          go_wp2_with fail
          refine ⟨⟨k + 1, _, by push_cast; rfl, by omega, rfl, ?_, ?_⟩, by simp only [Go.RowKit.intOf]; omega⟩
          · show _ = _; rw [HN.out, if_neg HID.out, HE.out, HT.out]
          · exact drewN_two ⟨nn, HW6.out.symm⟩ ⟨_, rfl⟩
      · obtain rfl : k = s.size := by omega
        have hT := HT.out
        rw [List.take_of_length_le (l := s.data.toList) (by simp), HS.out.1] at hT
        have HT2 := Lib.hid hT
        clear hT HT hlt
        have f4 : W6.frozen? ⟨B, 4, none⟩ = false := blk_free H6.out.2.2.2.2.1.1 4
        have z0 := blk_cell H6.out.2.1 0
        have q0 := blk_cell H6.out.2.2.1 0; have q1 := blk_cell H6.out.2.2.1 1; have q2 := blk_cell H6.out.2.2.1 2; have g0 := blk_free H6.out.2.2.1 0; have g1 := blk_free H6.out.2.2.1 1; have g2 := blk_free H6.out.2.2.1 2
        have hBl : B < w.heap.size := H6.out.2.2.2.2.2.2 B (.inl rfl)
        have hNe := H6.out.2.2.2.2.2.1
        cases on with
        | true =>
          obtain ⟨t2, ht2⟩ : ∃ t2, t ++ bs [105] = t2 := ⟨_, rfl⟩
          have hT2 : t2 = bs ((x.on.filter fun d => decide (d ≠ 105)) ++ [105]) := by rw [← ht2]; apply ba_ext; rw [ByteArray.data_append, Array.toList_append, HT2.out]; rfl
          obtain ⟨W7, hW7⟩ : ∃ W7, W6.alloc (.cells #[.int .u8 105] 5) = W7 := ⟨_, rfl⟩
          have hconv : (convert 81 9 (.slice (some ⟨W6.heap.size, 0, none⟩) 1 1)).run Tryz.prog W7 = .ok (.string (bs [105])) W7 := by rw [← hW7]; exact conv_one (P := Tryz.prog) W6 81 9 5 105 Tryz.underlying81 Tryz.underlying5 Tryz.underlying9
          have f7 : Fr (fun _ => False) W6 W7 := by rw [← hW7]; exact (Fr.refl _ _).alloc _
          have r7 := f7.blk H6.out.2.2.1 fun e => e
          have a7 := H6.out.2.2.2.2.1.fr f7 fun _ _ e => e
          obtain ⟨W8, hW8⟩ : ∃ W8, W7.setCell ⟨B, 4, none⟩ (.string t2) = W8 := ⟨_, rfl⟩
          have f8 : Fr (fun k => k = B) W7 W8 := by rw [← hW8]; exact Fr.setCell (X := fun k => k = B) (Fr.refl _ W7) ⟨B, 4, none⟩ rfl _
          have k8 := f8.blk (f7.blk H6.out.2.1 fun e => e) (by omega)
          have r8 := f8.blk r7 (by omega)
          have a8 : RxAt base B q { x with on := (x.on.filter fun d => decide (d ≠ 105)) ++ [105] } W8 := a7.toF (by rw [← hW8, hT2]; exact blk_set a7.1 4 _) rfl rfl rfl f8
          have H8 := Lib.hid (And.intro a8 (And.intro r8 (And.intro f7 (And.intro f8 (blk_lt r7)))))
          have e0 := blk_cell k8 0; have e1 := blk_cell k8 1
          have t0 := blk_cell r8 0; have t1 := blk_cell r8 1; have t3 := blk_cell r8 2; have u0 := blk_free r8 0; have u1 := blk_free r8 1; have u2 := blk_free r8 2
          have v4 := blk_cell a7.1 4; have v4f := blk_free a7.1 4
          have w0 := blk_cell (f7.blk H6.out.2.1 fun e => e) 0
          clear f7 r7 a7 f8 k8 r8 a8 hT2
          go_wp2_with fail
          obtain ⟨a8, r8, f7, f8, hl7⟩ := H8.out
          have kk := fun j => blk_cell (set3R (x := .bool true) (y := .int .u8 105) (z := .string ⟨#[]⟩) r8) j
          refine bodyPost_ret (res_three rfl rfl (Tryz.isAgg31 _) (Tryz.sizeOf31 _) (kk 0) (kk 1) (kk 2)) rfl ⟨by rw [← HRES.out, HC.out]; rfl, ?_⟩
          rw [← HRES.out, HC.out]
          exact XW.boxedZ (W := W6) (Z := fun k => k = N + 1) ⟨q, a8, ((f7.mono (Y := RxX B q) fun _ _ e => e.elim).trans3 f8 fun k _ e => .inl e), fun _ hk _ => hk⟩ H6.out.1 H6.out.2.2.2.2.2.2 (fun k e => by have := blk_lt H6.out.2.2.1; omega) set3R_fr
        | false =>
          have hT2 : t = bs (x.on.filter fun d => decide (d ≠ 105)) := by apply ba_ext; rw [HT2.out]; rfl
          obtain ⟨W8, hW8⟩ : ∃ W8, W6.setCell ⟨B, 4, none⟩ (.string t) = W8 := ⟨_, rfl⟩
          have a6 := H6.out.2.2.2.2.1
          have f8 : Fr (fun k => k = B) W6 W8 := by rw [← hW8]; exact Fr.setCell (X := fun k => k = B) (Fr.refl _ W6) ⟨B, 4, none⟩ rfl _
          have k8 := f8.blk H6.out.2.1 (by omega)
          have r8 := f8.blk H6.out.2.2.1 (by omega)
          have a8 : RxAt base B q { x with on := (x.on.filter fun d => decide (d ≠ 105)) ++ [] } W8 := a6.toF (by rw [← hW8, hT2, List.append_nil]; exact blk_set a6.1 4 _) rfl rfl rfl f8
          have H8 := Lib.hid (And.intro a8 (And.intro r8 f8))
          have e0 := blk_cell k8 0; have e1 := blk_cell k8 1
          have t0 := blk_cell r8 0; have t1 := blk_cell r8 1; have t3 := blk_cell r8 2; have u0 := blk_free r8 0; have u1 := blk_free r8 1; have u2 := blk_free r8 2
          clear f8 k8 r8 a8 hT2 a6
          go_wp2_with fail
          obtain ⟨a8, r8, f8⟩ := H8.out
          have kk := fun j => blk_cell (set3R (x := .bool false) (y := .int .u8 105) (z := .string ⟨#[]⟩) r8) j
          refine bodyPost_ret (res_three rfl rfl (Tryz.isAgg31 _) (Tryz.sizeOf31 _) (kk 0) (kk 1) (kk 2)) rfl ⟨by rw [← HRES.out, HC.out]; rfl, ?_⟩
          rw [← HRES.out, HC.out]
          exact XW.boxedZ (W := W6) (Z := fun k => k = N + 1) ⟨q, a8, f8.mono fun k _ e => .inl e, fun _ hk _ => hk⟩ H6.out.1 H6.out.2.2.2.2.2.2 (fun k e => by have := blk_lt H6.out.2.2.1; omega) set3R_fr
set_option maxRecDepth 100000 in
set_option maxHeartbeats 16000000 in
theorem refChange_F109 {base B : Nat} {q : RxV} {x : Rx} {w : World} (h : RxAt base B q x w) (on : Bool) (arg : List UInt8) (id : Int) (hol : x.on.length ≤ 100000) :
    Calls Tryz.prog 35 #[.pointer (some ⟨B, 0, none⟩), chgV on 109 arg, .int .i64 id] w fun e w' => e = .returned (flX x on 109).1.val ∧ XW base B q (flX x on 109).2 w w' := by
  obtain ⟨N, hN⟩ : ∃ N, w.heap.size = N := ⟨_, rfl⟩
  obtain ⟨ab, hab⟩ : ∃ ab, bs arg = ab := ⟨_, rfl⟩
  have hcv : chgV on 109 arg = .agg #[.bool on, .int .u8 109, .string ab] := by rw [← hab]; rfl
  rw [hcv]
  obtain ⟨res, hres⟩ : ∃ res, flX x on 109 = res := ⟨_, rfl⟩
  rw [hres]
  obtain ⟨V0, hV0⟩ : ∃ V0, (((w.alloc (.cells #[.bool on, .int .u8 109, .string ab] 31)).alloc (.cells #[.bool false, .int .u8 0, .string ⟨#[]⟩] 31)).alloc (.cells #[.bool false, .int .u8 0, .string ⟨#[]⟩] 31)) = V0 := ⟨_, rfl⟩
  have b0 : RowKit.Below w.heap.size w V0 := by rw [← hV0]; exact (((Below.refl _ w).alloc (Nat.le_refl _) _).alloc (by simp) _).alloc (by simp; omega) _
  have k0 : V0.heap[N]? = some (.cells #[.bool on, .int .u8 109, .string ab] 31 (0, 0)) := by rw [← hV0, ← hN]; exact blk_alloc (blk_alloc (heap_alloc_new w _) _) _
  have k1 : V0.heap[N + 1]? = some (.cells #[.bool false, .int .u8 0, .string ⟨#[]⟩] 31 (0, 0)) := by rw [← hV0, ← hN]; exact blk_alloc (heap_alloc2_new w _ _) _
  have k2 : V0.heap[N + 1 + 1]? = some (.cells #[.bool false, .int .u8 0, .string ⟨#[]⟩] 31 (0, 0)) := by
    rw [← hV0, ← hN]
    have := heap_alloc2_new (w.alloc (.cells #[.bool on, .int .u8 109, .string ab] 31)) (.cells #[.bool false, .int .u8 0, .string ⟨#[]⟩] 31) (.cells #[.bool false, .int .u8 0, .string ⟨#[]⟩] 31)
    rwa [World.size_alloc] at this
  have y0 := blk_cell k2 0; have y1 := blk_cell k2 1; have y2 := blk_cell k2 2; have x0 := blk_free k2 0; have x1 := blk_free k2 1; have x2 := blk_free k2 2
  obtain ⟨W0, hW0⟩ : ∃ W0, (((V0.setCell ⟨N + 1 + 1, 0, none⟩ (.bool false)).setCell ⟨N + 1 + 1, 1, none⟩ (.int .u8 0)).setCell ⟨N + 1 + 1, 2, none⟩ (.string ⟨#[]⟩)) = W0 := ⟨_, rfl⟩
  have fV : Fr (fun k => k = N + 1 + 1) V0 W0 := by rw [← hW0]; exact set3R_fr
  have b0 : RowKit.Below w.heap.size w W0 := b0.trans (fV.below (B := w.heap.size) b0.size fun k hk e => by omega)
  have k0 := fV.blk k0 (by omega)
  have k1 := fV.blk k1 (by omega)
  have k2 : W0.heap[N + 1 + 1]? = some (.cells #[.bool false, .int .u8 0, .string ⟨#[]⟩] 31 (0, 0)) := by rw [← hW0]; exact set3R k2
  clear fV
  have h0 := h.below b0
  have hlt : ∀ k, RxX B q k → k < w.heap.size := fun k hk => (h.lt k hk).2
  have HRES := Lib.hid hres
  have HAB := Lib.hid hab
  have H := Lib.hid (And.intro b0 (And.intro k0 (And.intro k1 (And.intro k2 (And.intro h0 (And.intro hN hlt))))))
  have HW := Lib.hid hW0
  obtain ⟨s, hs⟩ : ∃ s, bs x.on = s := ⟨_, rfl⟩
  have hsl : s.size ≤ 100000 := by rw [← hs]; simpa using hol
  have hsd : s.data.toList = x.on := by rw [← hs]; rfl
  obtain ⟨y, hy⟩ : ∃ y, x.on.contains 109 = y := ⟨_, rfl⟩
  have hF := fun n => refFlag_any (h0.fr (Fr.of_below (X := fun _ => False) (below_drewN (Below.refl W0.heap.size W0) n)) fun _ _ e => e) 109 (by omega)
  rw [hy] at hF
  have HF := Lib.hid hF
  have HS := Lib.hid (And.intro hsd (And.intro hs hy))
  have z0 := blk_cell k0 0; have z1 := blk_cell k0 1
  clear h h0 k0 k1 k2 hlt hres hab hcv hs hsd hy hF hol
  by_cases hxo : y = on
  · have hc : flX x on 109 = (noT 0, x) := by unfold flX; rw [if_pos (by rw [HS.out.2.2, hxo])]
    have HC := Lib.hid hc
    have hxe := hxo.symm
    subst hxe
    clear hxo hc
    go_enter Tryz.func35, Tryz.ntmps35
    go_wp2_with fail
    go_quiet ((go_at_call 23; exact Calls.quiet_of_same (HF.out _)))
    clear hW0 hV0 hN z0 z1 y0 y1 y2 x0 x1 x2
    obtain ⟨W5, hW5⟩ : ∃ W5, W0.drewN nq = W5 := ⟨_, rfl⟩
    rw [hW5]
    have f5 : Fr (fun _ => False) W0 W5 := by rw [← hW5]; exact Fr.of_below (below_drewN (Below.refl _ _) nq)
    have H5 := Lib.hid (And.intro (by rw [← hW5]; exact below_drewN H.out.1 nq : RowKit.Below w.heap.size w W5) (And.intro (f5.blk H.out.2.1 fun e => e) (And.intro (f5.blk H.out.2.2.1 fun e => e) (And.intro (f5.blk H.out.2.2.2.1 fun e => e) (And.intro (H.out.2.2.2.2.1.fr f5 fun _ _ e => e) H.out.2.2.2.2.2)))))
    clear hW5 f5 H HF HW
    have q0 := blk_cell H5.out.2.2.1 0; have q1 := blk_cell H5.out.2.2.1 1; have q2 := blk_cell H5.out.2.2.1 2; have g0 := blk_free H5.out.2.2.1 0; have g1 := blk_free H5.out.2.2.1 1; have g2 := blk_free H5.out.2.2.1 2
    have p0 := blk_cell H5.out.2.2.2.1 0; have p1 := blk_cell H5.out.2.2.2.1 1; have p2 := blk_cell H5.out.2.2.2.1 2
    go_wp2_with fail
    obtain ⟨b5, k5, r5, p5, a5, hN5, hlt5⟩ := H5.out
    have kk := fun j => blk_cell (set3R (x := .bool false) (y := .int .u8 0) (z := .string ⟨#[]⟩) r5) j
    refine bodyPost_ret (res_three rfl rfl (Tryz.isAgg31 _) (Tryz.sizeOf31 _) (kk 0) (kk 1) (kk 2)) rfl ⟨by rw [← HRES.out, HC.out]; rfl, ?_⟩
    rw [← HRES.out, HC.out]
    exact XW.boxedZ (Z := fun k => k = N + 1) ⟨q, a5, Fr.refl _ _, fun _ hk _ => hk⟩ b5 hlt5 (fun k e => by have := blk_lt r5; omega) set3R_fr
  · have hcn : flX x on 109 = (⟨on, 109, [], 0⟩, { x with on := (x.on.filter fun d => decide (d ≠ 109)) ++ (if on then [109] else []) }) := by unfold flX; rw [if_neg (by rw [HS.out.2.2]; exact hxo)]
    have HC := Lib.hid hcn
    have hxn : (y == on) = false := by cases y <;> cases on <;> simp_all
    clear hxo hcn
    go_enter Tryz.func35, Tryz.ntmps35
    go_wp2_with fail
    go_quiet ((go_at_call 23; exact Calls.quiet_of_same (HF.out _)))
    clear hW0 hV0 hN z0 z1 y0 y1 y2 x0 x1 x2
    obtain ⟨W5, hW5⟩ : ∃ W5, W0.drewN nq = W5 := ⟨_, rfl⟩
    rw [hW5]
    have f5 : Fr (fun _ => False) W0 W5 := by rw [← hW5]; exact Fr.of_below (below_drewN (Below.refl _ _) nq)
    have H5 := Lib.hid (And.intro (by rw [← hW5]; exact below_drewN H.out.1 nq : RowKit.Below w.heap.size w W5) (And.intro (f5.blk H.out.2.1 fun e => e) (And.intro (f5.blk H.out.2.2.1 fun e => e) (And.intro (f5.blk H.out.2.2.2.1 fun e => e) (And.intro (H.out.2.2.2.2.1.fr f5 fun _ _ e => e) H.out.2.2.2.2.2)))))
    clear hW5 f5 H HF HW
    go_wp2_with fail
    go_loopw [9, 10] (fun u i wr => ∃ (k : Nat) (t : ByteArray), i = .int .i64 k ∧ k ≤ s.size ∧ u = .string t ∧ Hid (t.data.toList = (s.data.toList.take k).filter fun d => decide (d ≠ 109)) ∧ ∃ nn, wr = W5.drewN nn) (fun _ i _ => s.size - (Go.RowKit.intOf i).toNat)
    case atStart => exact ⟨0, ⟨#[]⟩, rfl, Nat.zero_le _, rfl, by show _ = _; simp, 0, rfl⟩
    case round =>
      obtain ⟨k, t, rfl, hk, rfl, HT, nn, rfl⟩ := hrel
      have f6 : Fr (fun _ => False) W5 (W5.drewN nn) := Fr.of_below (below_drewN (Below.refl _ _) nn)
      have H6 := Lib.hid (And.intro (below_drewN H5.out.1 nn) (And.intro (f6.blk H5.out.2.1 fun e => e) (And.intro (f6.blk H5.out.2.2.1 fun e => e) (And.intro (f6.blk H5.out.2.2.2.1 fun e => e) (And.intro (H5.out.2.2.2.2.1.fr f6 fun _ _ e => e) H5.out.2.2.2.2.2)))))
      obtain ⟨W6, hW6⟩ : ∃ W6, W5.drewN nn = W6 := ⟨_, rfl⟩
      rw [hW6] at H6 ⊢
      have HW6 := Lib.hid hW6
      clear f6 hW6
      have htl : t.size ≤ 1000000 := by
        have h0 : t.data.toList.length = t.size := by simp
        rw [← h0, HT.out]
        refine Nat.le_trans (List.length_filter_le _ _) (Nat.le_trans (List.length_take_le _ _) (by omega))
      have c4 : W6.cell? ⟨B, 4, none⟩ = some (.string s) := by rw [← HS.out.2.1]; exact blk_cell H6.out.2.2.2.2.1.1 4
      have z1 := blk_cell H6.out.2.1 1
      by_cases hlt : k < s.size
      · have HN := Lib.hid (filt_next s 109 k hlt)
        have HE := Lib.hid (app_one' t s k hlt)
        by_cases hid : s[k] = 109
        · have he : ((s[k].toNat : Int) != 109) = false := by rw [hid]; decide
          have HID := Lib.hid hid
          clear hid
          go_wp2_with fail
          go_quiet (fail)
          go_wp2_with fail
          refine ⟨⟨k + 1, t, by push_cast; rfl, by omega, rfl, ?_, ?_⟩, by simp only [Go.RowKit.intOf]; omega⟩
          · show _ = _; rw [HN.out, if_pos HID.out, HT.out, List.append_nil]
          · exact drewN_two ⟨nn, HW6.out.symm⟩ ⟨_, rfl⟩
        · have he : ((s[k].toNat : Int) != 109) = true := by
            rw [bne_iff_ne]
            intro e
            exact hid (UInt8.toNat_inj.1 (by have : (109 : UInt8).toNat = 109 := rfl; omega))
          have HID := Lib.hid hid
          clear hid
          go_wp2_with fail
          go_quiet (fail)
          go_wp2_with fail
          refine ⟨⟨k + 1, _, by push_cast; rfl, by omega, rfl, ?_, ?_⟩, by simp only [Go.RowKit.intOf]; omega⟩
          · show _ = _; rw [HN.out, if_neg HID.out, HE.out, HT.out]
          · exact drewN_two ⟨nn, HW6.out.symm⟩ ⟨_, rfl⟩
      · obtain rfl : k = s.size := by omega
        have hT := HT.out
        rw [List.take_of_length_le (l := s.data.toList) (by simp), HS.out.1] at hT
        have HT2 := Lib.hid hT
        clear hT HT hlt
        have f4 : W6.frozen? ⟨B, 4, none⟩ = false := blk_free H6.out.2.2.2.2.1.1 4
        have z0 := blk_cell H6.out.2.1 0
        have q0 := blk_cell H6.out.2.2.1 0; have q1 := blk_cell H6.out.2.2.1 1; have q2 := blk_cell H6.out.2.2.1 2; have g0 := blk_free H6.out.2.2.1 0; have g1 := blk_free H6.out.2.2.1 1; have g2 := blk_free H6.out.2.2.1 2
        have hBl : B < w.heap.size := H6.out.2.2.2.2.2.2 B (.inl rfl)
        have hNe := H6.out.2.2.2.2.2.1
        cases on with
        | true =>
          obtain ⟨t2, ht2⟩ : ∃ t2, t ++ bs [109] = t2 := ⟨_, rfl⟩
          have hT2 : t2 = bs ((x.on.filter fun d => decide (d ≠ 109)) ++ [109]) := by rw [← ht2]; apply ba_ext; rw [ByteArray.data_append, Array.toList_append, HT2.out]; rfl
          obtain ⟨W7, hW7⟩ : ∃ W7, W6.alloc (.cells #[.int .u8 109] 5) = W7 := ⟨_, rfl⟩
          have hconv : (convert 81 9 (.slice (some ⟨W6.heap.size, 0, none⟩) 1 1)).run Tryz.prog W7 = .ok (.string (bs [109])) W7 := by rw [← hW7]; exact conv_one (P := Tryz.prog) W6 81 9 5 109 Tryz.underlying81 Tryz.underlying5 Tryz.underlying9
          have f7 : Fr (fun _ => False) W6 W7 := by rw [← hW7]; exact (Fr.refl _ _).alloc _
          have r7 := f7.blk H6.out.2.2.1 fun e => e
          have a7 := H6.out.2.2.2.2.1.fr f7 fun _ _ e => e
          obtain ⟨W8, hW8⟩ : ∃ W8, W7.setCell ⟨B, 4, none⟩ (.string t2) = W8 := ⟨_, rfl⟩
          have f8 : Fr (fun k => k = B) W7 W8 := by rw [← hW8]; exact Fr.setCell (X := fun k => k = B) (Fr.refl _ W7) ⟨B, 4, none⟩ rfl _
          have k8 := f8.blk (f7.blk H6.out.2.1 fun e => e) (by omega)
          have r8 := f8.blk r7 (by omega)
          have a8 : RxAt base B q { x with on := (x.on.filter fun d => decide (d ≠ 109)) ++ [109] } W8 := a7.toF (by rw [← hW8, hT2]; exact blk_set a7.1 4 _) rfl rfl rfl f8
          have H8 := Lib.hid (And.intro a8 (And.intro r8 (And.intro f7 (And.intro f8 (blk_lt r7)))))
          have e0 := blk_cell k8 0; have e1 := blk_cell k8 1
          have t0 := blk_cell r8 0; have t1 := blk_cell r8 1; have t3 := blk_cell r8 2; have u0 := blk_free r8 0; have u1 := blk_free r8 1; have u2 := blk_free r8 2
          have v4 := blk_cell a7.1 4; have v4f := blk_free a7.1 4
          have w0 := blk_cell (f7.blk H6.out.2.1 fun e => e) 0
          clear f7 r7 a7 f8 k8 r8 a8 hT2
          go_wp2_with fail
          obtain ⟨a8, r8, f7, f8, hl7⟩ := H8.out
          have kk := fun j => blk_cell (set3R (x := .bool true) (y := .int .u8 109) (z := .string ⟨#[]⟩) r8) j
          refine bodyPost_ret (res_three rfl rfl (Tryz.isAgg31 _) (Tryz.sizeOf31 _) (kk 0) (kk 1) (kk 2)) rfl ⟨by rw [← HRES.out, HC.out]; rfl, ?_⟩
          rw [← HRES.out, HC.out]
          exact XW.boxedZ (W := W6) (Z := fun k => k = N + 1) ⟨q, a8, ((f7.mono (Y := RxX B q) fun _ _ e => e.elim).trans3 f8 fun k _ e => .inl e), fun _ hk _ => hk⟩ H6.out.1 H6.out.2.2.2.2.2.2 (fun k e => by have := blk_lt H6.out.2.2.1; omega) set3R_fr
        | false =>
          have hT2 : t = bs (x.on.filter fun d => decide (d ≠ 109)) := by apply ba_ext; rw [HT2.out]; rfl
          obtain ⟨W8, hW8⟩ : ∃ W8, W6.setCell ⟨B, 4, none⟩ (.string t) = W8 := ⟨_, rfl⟩
          have a6 := H6.out.2.2.2.2.1
          have f8 : Fr (fun k => k = B) W6 W8 := by rw [← hW8]; exact Fr.setCell (X := fun k => k = B) (Fr.refl _ W6) ⟨B, 4, none⟩ rfl _
          have k8 := f8.blk H6.out.2.1 (by omega)
          have r8 := f8.blk H6.out.2.2.1 (by omega)
          have a8 : RxAt base B q { x with on := (x.on.filter fun d => decide (d ≠ 109)) ++ [] } W8 := a6.toF (by rw [← hW8, hT2, List.append_nil]; exact blk_set a6.1 4 _) rfl rfl rfl f8
          have H8 := Lib.hid (And.intro a8 (And.intro r8 f8))
          have e0 := blk_cell k8 0; have e1 := blk_cell k8 1
          have t0 := blk_cell r8 0; have t1 := blk_cell r8 1; have t3 := blk_cell r8 2; have u0 := blk_free r8 0; have u1 := blk_free r8 1; have u2 := blk_free r8 2
          clear f8 k8 r8 a8 hT2 a6
          go_wp2_with fail
          obtain ⟨a8, r8, f8⟩ := H8.out
          have kk := fun j => blk_cell (set3R (x := .bool false) (y := .int .u8 109) (z := .string ⟨#[]⟩) r8) j
          refine bodyPost_ret (res_three rfl rfl (Tryz.isAgg31 _) (Tryz.sizeOf31 _) (kk 0) (kk 1) (kk 2)) rfl ⟨by rw [← HRES.out, HC.out]; rfl, ?_⟩
          rw [← HRES.out, HC.out]
          exact XW.boxedZ (W := W6) (Z := fun k => k = N + 1) ⟨q, a8, f8.mono fun k _ e => .inl e, fun _ hk _ => hk⟩ H6.out.1 H6.out.2.2.2.2.2.2 (fun k e => by have := blk_lt H6.out.2.2.1; omega) set3R_fr
set_option maxRecDepth 100000 in
set_option maxHeartbeats 16000000 in
theorem refChange_F110 {base B : Nat} {q : RxV} {x : Rx} {w : World} (h : RxAt base B q x w) (on : Bool) (arg : List UInt8) (id : Int) (hol : x.on.length ≤ 100000) :
    Calls Tryz.prog 35 #[.pointer (some ⟨B, 0, none⟩), chgV on 110 arg, .int .i64 id] w fun e w' => e = .returned (flX x on 110).1.val ∧ XW base B q (flX x on 110).2 w w' := by
  obtain ⟨N, hN⟩ : ∃ N, w.heap.size = N := ⟨_, rfl⟩
  obtain ⟨ab, hab⟩ : ∃ ab, bs arg = ab := ⟨_, rfl⟩
  have hcv : chgV on 110 arg = .agg #[.bool on, .int .u8 110, .string ab] := by rw [← hab]; rfl
  rw [hcv]
  obtain ⟨res, hres⟩ : ∃ res, flX x on 110 = res := ⟨_, rfl⟩
  rw [hres]
  obtain ⟨V0, hV0⟩ : ∃ V0, (((w.alloc (.cells #[.bool on, .int .u8 110, .string ab] 31)).alloc (.cells #[.bool false, .int .u8 0, .string ⟨#[]⟩] 31)).alloc (.cells #[.bool false, .int .u8 0, .string ⟨#[]⟩] 31)) = V0 := ⟨_, rfl⟩
  have b0 : RowKit.Below w.heap.size w V0 := by rw [← hV0]; exact (((Below.refl _ w).alloc (Nat.le_refl _) _).alloc (by simp) _).alloc (by simp; omega) _
  have k0 : V0.heap[N]? = some (.cells #[.bool on, .int .u8 110, .string ab] 31 (0, 0)) := by rw [← hV0, ← hN]; exact blk_alloc (blk_alloc (heap_alloc_new w _) _) _
  have k1 : V0.heap[N + 1]? = some (.cells #[.bool false, .int .u8 0, .string ⟨#[]⟩] 31 (0, 0)) := by rw [← hV0, ← hN]; exact blk_alloc (heap_alloc2_new w _ _) _
  have k2 : V0.heap[N + 1 + 1]? = some (.cells #[.bool false, .int .u8 0, .string ⟨#[]⟩] 31 (0, 0)) := by
    rw [← hV0, ← hN]
    have := heap_alloc2_new (w.alloc (.cells #[.bool on, .int .u8 110, .string ab] 31)) (.cells #[.bool false, .int .u8 0, .string ⟨#[]⟩] 31) (.cells #[.bool false, .int .u8 0, .string ⟨#[]⟩] 31)
    rwa [World.size_alloc] at this
  have y0 := blk_cell k2 0; have y1 := blk_cell k2 1; have y2 := blk_cell k2 2; have x0 := blk_free k2 0; have x1 := blk_free k2 1; have x2 := blk_free k2 2
  obtain ⟨W0, hW0⟩ : ∃ W0, (((V0.setCell ⟨N + 1 + 1, 0, none⟩ (.bool false)).setCell ⟨N + 1 + 1, 1, none⟩ (.int .u8 0)).setCell ⟨N + 1 + 1, 2, none⟩ (.string ⟨#[]⟩)) = W0 := ⟨_, rfl⟩
  have fV : Fr (fun k => k = N + 1 + 1) V0 W0 := by rw [← hW0]; exact set3R_fr
  have b0 : RowKit.Below w.heap.size w W0 := b0.trans (fV.below (B := w.heap.size) b0.size fun k hk e => by omega)
  have k0 := fV.blk k0 (by omega)
  have k1 := fV.blk k1 (by omega)
  have k2 : W0.heap[N + 1 + 1]? = some (.cells #[.bool false, .int .u8 0, .string ⟨#[]⟩] 31 (0, 0)) := by rw [← hW0]; exact set3R k2
  clear fV
  have h0 := h.below b0
  have hlt : ∀ k, RxX B q k → k < w.heap.size := fun k hk => (h.lt k hk).2
  have HRES := Lib.hid hres
  have HAB := Lib.hid hab
  have H := Lib.hid (And.intro b0 (And.intro k0 (And.intro k1 (And.intro k2 (And.intro h0 (And.intro hN hlt))))))
  have HW := Lib.hid hW0
  obtain ⟨s, hs⟩ : ∃ s, bs x.on = s := ⟨_, rfl⟩
  have hsl : s.size ≤ 100000 := by rw [← hs]; simpa using hol
  have hsd : s.data.toList = x.on := by rw [← hs]; rfl
  obtain ⟨y, hy⟩ : ∃ y, x.on.contains 110 = y := ⟨_, rfl⟩
  have hF := fun n => refFlag_any (h0.fr (Fr.of_below (X := fun _ => False) (below_drewN (Below.refl W0.heap.size W0) n)) fun _ _ e => e) 110 (by omega)
  rw [hy] at hF
  have HF := Lib.hid hF
  have HS := Lib.hid (And.intro hsd (And.intro hs hy))
  have z0 := blk_cell k0 0; have z1 := blk_cell k0 1
  clear h h0 k0 k1 k2 hlt hres hab hcv hs hsd hy hF hol
  by_cases hxo : y = on
  · have hc : flX x on 110 = (noT 0, x) := by unfold flX; rw [if_pos (by rw [HS.out.2.2, hxo])]
    have HC := Lib.hid hc
    have hxe := hxo.symm
    subst hxe
    clear hxo hc
    go_enter Tryz.func35, Tryz.ntmps35
    go_wp2_with fail
    go_quiet ((go_at_call 23; exact Calls.quiet_of_same (HF.out _)))
    clear hW0 hV0 hN z0 z1 y0 y1 y2 x0 x1 x2
    obtain ⟨W5, hW5⟩ : ∃ W5, W0.drewN nq = W5 := ⟨_, rfl⟩
    rw [hW5]
    have f5 : Fr (fun _ => False) W0 W5 := by rw [← hW5]; exact Fr.of_below (below_drewN (Below.refl _ _) nq)
    have H5 := Lib.hid (And.intro (by rw [← hW5]; exact below_drewN H.out.1 nq : RowKit.Below w.heap.size w W5) (And.intro (f5.blk H.out.2.1 fun e => e) (And.intro (f5.blk H.out.2.2.1 fun e => e) (And.intro (f5.blk H.out.2.2.2.1 fun e => e) (And.intro (H.out.2.2.2.2.1.fr f5 fun _ _ e => e) H.out.2.2.2.2.2)))))
    clear hW5 f5 H HF HW
    have q0 := blk_cell H5.out.2.2.1 0; have q1 := blk_cell H5.out.2.2.1 1; have q2 := blk_cell H5.out.2.2.1 2; have g0 := blk_free H5.out.2.2.1 0; have g1 := blk_free H5.out.2.2.1 1; have g2 := blk_free H5.out.2.2.1 2
    have p0 := blk_cell H5.out.2.2.2.1 0; have p1 := blk_cell H5.out.2.2.2.1 1; have p2 := blk_cell H5.out.2.2.2.1 2
    go_wp2_with fail
    obtain ⟨b5, k5, r5, p5, a5, hN5, hlt5⟩ := H5.out
    have kk := fun j => blk_cell (set3R (x := .bool false) (y := .int .u8 0) (z := .string ⟨#[]⟩) r5) j
    refine bodyPost_ret (res_three rfl rfl (Tryz.isAgg31 _) (Tryz.sizeOf31 _) (kk 0) (kk 1) (kk 2)) rfl ⟨by rw [← HRES.out, HC.out]; rfl, ?_⟩
    rw [← HRES.out, HC.out]
    exact XW.boxedZ (Z := fun k => k = N + 1) ⟨q, a5, Fr.refl _ _, fun _ hk _ => hk⟩ b5 hlt5 (fun k e => by have := blk_lt r5; omega) set3R_fr
  · have hcn : flX x on 110 = (⟨on, 110, [], 0⟩, { x with on := (x.on.filter fun d => decide (d ≠ 110)) ++ (if on then [110] else []) }) := by unfold flX; rw [if_neg (by rw [HS.out.2.2]; exact hxo)]
    have HC := Lib.hid hcn
    have hxn : (y == on) = false := by cases y <;> cases on <;> simp_all
    clear hxo hcn
    go_enter Tryz.func35, Tryz.ntmps35
    go_wp2_with fail
    go_quiet ((go_at_call 23; exact Calls.quiet_of_same (HF.out _)))
    clear hW0 hV0 hN z0 z1 y0 y1 y2 x0 x1 x2
    obtain ⟨W5, hW5⟩ : ∃ W5, W0.drewN nq = W5 := ⟨_, rfl⟩
    rw [hW5]
    have f5 : Fr (fun _ => False) W0 W5 := by rw [← hW5]; exact Fr.of_below (below_drewN (Below.refl _ _) nq)
    have H5 := Lib.hid (And.intro (by rw [← hW5]; exact below_drewN H.out.1 nq : RowKit.Below w.heap.size w W5) (And.intro (f5.blk H.out.2.1 fun e => e) (And.intro (f5.blk H.out.2.2.1 fun e => e) (And.intro (f5.blk H.out.2.2.2.1 fun e => e) (And.intro (H.out.2.2.2.2.1.fr f5 fun _ _ e => e) H.out.2.2.2.2.2)))))
    clear hW5 f5 H HF HW
    go_wp2_with fail
    go_loopw [9, 10] (fun u i wr => ∃ (k : Nat) (t : ByteArray), i = .int .i64 k ∧ k ≤ s.size ∧ u = .string t ∧ Hid (t.data.toList = (s.data.toList.take k).filter fun d => decide (d ≠ 110)) ∧ ∃ nn, wr = W5.drewN nn) (fun _ i _ => s.size - (Go.RowKit.intOf i).toNat)
    case atStart => exact ⟨0, ⟨#[]⟩, rfl, Nat.zero_le _, rfl, by show _ = _; simp, 0, rfl⟩
    case round =>
      obtain ⟨k, t, rfl, hk, rfl, HT, nn, rfl⟩ := hrel
      have f6 : Fr (fun _ => False) W5 (W5.drewN nn) := Fr.of_below (below_drewN (Below.refl _ _) nn)
      have H6 := Lib.hid (And.intro (below_drewN H5.out.1 nn) (And.intro (f6.blk H5.out.2.1 fun e => e) (And.intro (f6.blk H5.out.2.2.1 fun e => e) (And.intro (f6.blk H5.out.2.2.2.1 fun e => e) (And.intro (H5.out.2.2.2.2.1.fr f6 fun _ _ e => e) H5.out.2.2.2.2.2)))))
      obtain ⟨W6, hW6⟩ : ∃ W6, W5.drewN nn = W6 := ⟨_, rfl⟩
      rw [hW6] at H6 ⊢
      have HW6 := Lib.hid hW6
      clear f6 hW6
      have htl : t.size ≤ 1000000 := by
        have h0 : t.data.toList.length = t.size := by simp
        rw [← h0, HT.out]
        refine Nat.le_trans (List.length_filter_le _ _) (Nat.le_trans (List.length_take_le _ _) (by omega))
      have c4 : W6.cell? ⟨B, 4, none⟩ = some (.string s) := by rw [← HS.out.2.1]; exact blk_cell H6.out.2.2.2.2.1.1 4
      have z1 := blk_cell H6.out.2.1 1
      by_cases hlt : k < s.size
      · have HN := Lib.hid (filt_next s 110 k hlt)
        have HE := Lib.hid (app_one' t s k hlt)
        by_cases hid : s[k] = 110
        · have he : ((s[k].toNat : Int) != 110) = false := by rw [hid]; decide
          have HID := Lib.hid hid
          clear hid
          go_wp2_with fail
          go_quiet (fail)
          go_wp2_with fail
          refine ⟨⟨k + 1, t, by push_cast; rfl, by omega, rfl, ?_, ?_⟩, by simp only [Go.RowKit.intOf]; omega⟩
          · show _ = _; rw [HN.out, if_pos HID.out, HT.out, List.append_nil]
          · exact drewN_two ⟨nn, HW6.out.symm⟩ ⟨_, rfl⟩
        · have he : ((s[k].toNat : Int) != 110) = true := by
            rw [bne_iff_ne]
            intro e
            exact hid (UInt8.toNat_inj.1 (by have : (110 : UInt8).toNat = 110 := rfl; omega))
          have HID := Lib.hid hid
          clear hid
          go_wp2_with fail
          go_quiet (fail)
          go_wp2_with fail
          refine ⟨⟨k + 1, _, by push_cast; rfl, by omega, rfl, ?_, ?_⟩, by simp only [Go.RowKit.intOf]; omega⟩
          · show _ = _; rw [HN.out, if_neg HID.out, HE.out, HT.out]
          · exact drewN_two ⟨nn, HW6.out.symm⟩ ⟨_, rfl⟩
      · obtain rfl : k = s.size := by omega
        have hT := HT.out
        rw [List.take_of_length_le (l := s.data.toList) (by simp), HS.out.1] at hT
        have HT2 := Lib.hid hT
        clear hT HT hlt
        have f4 : W6.frozen? ⟨B, 4, none⟩ = false := blk_free H6.out.2.2.2.2.1.1 4
        have z0 := blk_cell H6.out.2.1 0
        have q0 := blk_cell H6.out.2.2.1 0; have q1 := blk_cell H6.out.2.2.1 1; have q2 := blk_cell H6.out.2.2.1 2; have g0 := blk_free H6.out.2.2.1 0; have g1 := blk_free H6.out.2.2.1 1; have g2 := blk_free H6.out.2.2.1 2
        have hBl : B < w.heap.size := H6.out.2.2.2.2.2.2 B (.inl rfl)
        have hNe := H6.out.2.2.2.2.2.1
        cases on with
        | true =>
          obtain ⟨t2, ht2⟩ : ∃ t2, t ++ bs [110] = t2 := ⟨_, rfl⟩
          have hT2 : t2 = bs ((x.on.filter fun d => decide (d ≠ 110)) ++ [110]) := by rw [← ht2]; apply ba_ext; rw [ByteArray.data_append, Array.toList_append, HT2.out]; rfl
          obtain ⟨W7, hW7⟩ : ∃ W7, W6.alloc (.cells #[.int .u8 110] 5) = W7 := ⟨_, rfl⟩
          have hconv : (convert 81 9 (.slice (some ⟨W6.heap.size, 0, none⟩) 1 1)).run Tryz.prog W7 = .ok (.string (bs [110])) W7 := by rw [← hW7]; exact conv_one (P := Tryz.prog) W6 81 9 5 110 Tryz.underlying81 Tryz.underlying5 Tryz.underlying9
          have f7 : Fr (fun _ => False) W6 W7 := by rw [← hW7]; exact (Fr.refl _ _).alloc _
          have r7 := f7.blk H6.out.2.2.1 fun e => e
          have a7 := H6.out.2.2.2.2.1.fr f7 fun _ _ e => e
          obtain ⟨W8, hW8⟩ : ∃ W8, W7.setCell ⟨B, 4, none⟩ (.string t2) = W8 := ⟨_, rfl⟩
          have f8 : Fr (fun k => k = B) W7 W8 := by rw [← hW8]; exact Fr.setCell (X := fun k => k = B) (Fr.refl _ W7) ⟨B, 4, none⟩ rfl _
          have k8 := f8.blk (f7.blk H6.out.2.1 fun e => e) (by omega)
          have r8 := f8.blk r7 (by omega)
          have a8 : RxAt base B q { x with on := (x.on.filter fun d => decide (d ≠ 110)) ++ [110] } W8 := a7.toF (by rw [← hW8, hT2]; exact blk_set a7.1 4 _) rfl rfl rfl f8
          have H8 := Lib.hid (And.intro a8 (And.intro r8 (And.intro f7 (And.intro f8 (blk_lt r7)))))
          have e0 := blk_cell k8 0; have e1 := blk_cell k8 1
          have t0 := blk_cell r8 0; have t1 := blk_cell r8 1; have t3 := blk_cell r8 2; have u0 := blk_free r8 0; have u1 := blk_free r8 1; have u2 := blk_free r8 2
          have v4 := blk_cell a7.1 4; have v4f := blk_free a7.1 4
          have w0 := blk_cell (f7.blk H6.out.2.1 fun e => e) 0
          clear f7 r7 a7 f8 k8 r8 a8 hT2
          go_wp2_with fail
          obtain ⟨a8, r8, f7, f8, hl7⟩ := H8.out
          have kk := fun j => blk_cell (set3R (x := .bool true) (y := .int .u8 110) (z := .string ⟨#[]⟩) r8) j
          refine bodyPost_ret (res_three rfl rfl (Tryz.isAgg31 _) (Tryz.sizeOf31 _) (kk 0) (kk 1) (kk 2)) rfl ⟨by rw [← HRES.out, HC.out]; rfl, ?_⟩
          rw [← HRES.out, HC.out]
          exact XW.boxedZ (W := W6) (Z := fun k => k = N + 1) ⟨q, a8, ((f7.mono (Y := RxX B q) fun _ _ e => e.elim).trans3 f8 fun k _ e => .inl e), fun _ hk _ => hk⟩ H6.out.1 H6.out.2.2.2.2.2.2 (fun k e => by have := blk_lt H6.out.2.2.1; omega) set3R_fr
        | false =>
          have hT2 : t = bs (x.on.filter fun d => decide (d ≠ 110)) := by apply ba_ext; rw [HT2.out]; rfl
          obtain ⟨W8, hW8⟩ : ∃ W8, W6.setCell ⟨B, 4, none⟩ (.string t) = W8 := ⟨_, rfl⟩
          have a6 := H6.out.2.2.2.2.1
          have f8 : Fr (fun k => k = B) W6 W8 := by rw [← hW8]; exact Fr.setCell (X := fun k => k = B) (Fr.refl _ W6) ⟨B, 4, none⟩ rfl _
          have k8 := f8.blk H6.out.2.1 (by omega)
          have r8 := f8.blk H6.out.2.2.1 (by omega)
          have a8 : RxAt base B q { x with on := (x.on.filter fun d => decide (d ≠ 110)) ++ [] } W8 := a6.toF (by rw [← hW8, hT2, List.append_nil]; exact blk_set a6.1 4 _) rfl rfl rfl f8
          have H8 := Lib.hid (And.intro a8 (And.intro r8 f8))
          have e0 := blk_cell k8 0; have e1 := blk_cell k8 1
          have t0 := blk_cell r8 0; have t1 := blk_cell r8 1; have t3 := blk_cell r8 2; have u0 := blk_free r8 0; have u1 := blk_free r8 1; have u2 := blk_free r8 2
          clear f8 k8 r8 a8 hT2 a6
          go_wp2_with fail
          obtain ⟨a8, r8, f8⟩ := H8.out
          have kk := fun j => blk_cell (set3R (x := .bool false) (y := .int .u8 110) (z := .string ⟨#[]⟩) r8) j
          refine bodyPost_ret (res_three rfl rfl (Tryz.isAgg31 _) (Tryz.sizeOf31 _) (kk 0) (kk 1) (kk 2)) rfl ⟨by rw [← HRES.out, HC.out]; rfl, ?_⟩
          rw [← HRES.out, HC.out]
          exact XW.boxedZ (W := W6) (Z := fun k => k = N + 1) ⟨q, a8, f8.mono fun k _ e => .inl e, fun _ hk _ => hk⟩ H6.out.1 H6.out.2.2.2.2.2.2 (fun k e => by have := blk_lt H6.out.2.2.1; omega) set3R_fr
set_option maxRecDepth 100000 in
set_option maxHeartbeats 16000000 in
theorem refChange_F115 {base B : Nat} {q : RxV} {x : Rx} {w : World} (h : RxAt base B q x w) (on : Bool) (arg : List UInt8) (id : Int) (hol : x.on.length ≤ 100000) :
    Calls Tryz.prog 35 #[.pointer (some ⟨B, 0, none⟩), chgV on 115 arg, .int .i64 id] w fun e w' => e = .returned (flX x on 115).1.val ∧ XW base B q (flX x on 115).2 w w' := by
  obtain ⟨N, hN⟩ : ∃ N, w.heap.size = N := ⟨_, rfl⟩
  obtain ⟨ab, hab⟩ : ∃ ab, bs arg = ab := ⟨_, rfl⟩
  have hcv : chgV on 115 arg = .agg #[.bool on, .int .u8 115, .string ab] := by rw [← hab]; rfl
  rw [hcv]
  obtain ⟨res, hres⟩ : ∃ res, flX x on 115 = res := ⟨_, rfl⟩
  rw [hres]
  obtain ⟨V0, hV0⟩ : ∃ V0, (((w.alloc (.cells #[.bool on, .int .u8 115, .string ab] 31)).alloc (.cells #[.bool false, .int .u8 0, .string ⟨#[]⟩] 31)).alloc (.cells #[.bool false, .int .u8 0, .string ⟨#[]⟩] 31)) = V0 := ⟨_, rfl⟩
  have b0 : RowKit.Below w.heap.size w V0 := by rw [← hV0]; exact (((Below.refl _ w).alloc (Nat.le_refl _) _).alloc (by simp) _).alloc (by simp; omega) _
  have k0 : V0.heap[N]? = some (.cells #[.bool on, .int .u8 115, .string ab] 31 (0, 0)) := by rw [← hV0, ← hN]; exact blk_alloc (blk_alloc (heap_alloc_new w _) _) _
  have k1 : V0.heap[N + 1]? = some (.cells #[.bool false, .int .u8 0, .string ⟨#[]⟩] 31 (0, 0)) := by rw [← hV0, ← hN]; exact blk_alloc (heap_alloc2_new w _ _) _
  have k2 : V0.heap[N + 1 + 1]? = some (.cells #[.bool false, .int .u8 0, .string ⟨#[]⟩] 31 (0, 0)) := by
    rw [← hV0, ← hN]
    have := heap_alloc2_new (w.alloc (.cells #[.bool on, .int .u8 115, .string ab] 31)) (.cells #[.bool false, .int .u8 0, .string ⟨#[]⟩] 31) (.cells #[.bool false, .int .u8 0, .string ⟨#[]⟩] 31)
    rwa [World.size_alloc] at this
  have y0 := blk_cell k2 0; have y1 := blk_cell k2 1; have y2 := blk_cell k2 2; have x0 := blk_free k2 0; have x1 := blk_free k2 1; have x2 := blk_free k2 2
  obtain ⟨W0, hW0⟩ : ∃ W0, (((V0.setCell ⟨N + 1 + 1, 0, none⟩ (.bool false)).setCell ⟨N + 1 + 1, 1, none⟩ (.int .u8 0)).setCell ⟨N + 1 + 1, 2, none⟩ (.string ⟨#[]⟩)) = W0 := ⟨_, rfl⟩
  have fV : Fr (fun k => k = N + 1 + 1) V0 W0 := by rw [← hW0]; exact set3R_fr
  have b0 : RowKit.Below w.heap.size w W0 := b0.trans (fV.below (B := w.heap.size) b0.size fun k hk e => by omega)
  have k0 := fV.blk k0 (by omega)
  have k1 := fV.blk k1 (by omega)
  have k2 : W0.heap[N + 1 + 1]? = some (.cells #[.bool false, .int .u8 0, .string ⟨#[]⟩] 31 (0, 0)) := by rw [← hW0]; exact set3R k2
  clear fV
  have h0 := h.below b0
  have hlt : ∀ k, RxX B q k → k < w.heap.size := fun k hk => (h.lt k hk).2
  have HRES := Lib.hid hres
  have HAB := Lib.hid hab
  have H := Lib.hid (And.intro b0 (And.intro k0 (And.intro k1 (And.intro k2 (And.intro h0 (And.intro hN hlt))))))
  have HW := Lib.hid hW0
  obtain ⟨s, hs⟩ : ∃ s, bs x.on = s := ⟨_, rfl⟩
  have hsl : s.size ≤ 100000 := by rw [← hs]; simpa using hol
  have hsd : s.data.toList = x.on := by rw [← hs]; rfl
  obtain ⟨y, hy⟩ : ∃ y, x.on.contains 115 = y := ⟨_, rfl⟩
  have hF := fun n => refFlag_any (h0.fr (Fr.of_below (X := fun _ => False) (below_drewN (Below.refl W0.heap.size W0) n)) fun _ _ e => e) 115 (by omega)
  rw [hy] at hF
  have HF := Lib.hid hF
  have HS := Lib.hid (And.intro hsd (And.intro hs hy))
  have z0 := blk_cell k0 0; have z1 := blk_cell k0 1
  clear h h0 k0 k1 k2 hlt hres hab hcv hs hsd hy hF hol
  by_cases hxo : y = on
  · have hc : flX x on 115 = (noT 0, x) := by unfold flX; rw [if_pos (by rw [HS.out.2.2, hxo])]
    have HC := Lib.hid hc
    have hxe := hxo.symm
    subst hxe
    clear hxo hc
    go_enter Tryz.func35, Tryz.ntmps35
    go_wp2_with fail
    go_quiet ((go_at_call 23; exact Calls.quiet_of_same (HF.out _)))
    clear hW0 hV0 hN z0 z1 y0 y1 y2 x0 x1 x2
    obtain ⟨W5, hW5⟩ : ∃ W5, W0.drewN nq = W5 := ⟨_, rfl⟩
    rw [hW5]
    have f5 : Fr (fun _ => False) W0 W5 := by rw [← hW5]; exact Fr.of_below (below_drewN (Below.refl _ _) nq)
    have H5 := Lib.hid (And.intro (by rw [← hW5]; exact below_drewN H.out.1 nq : RowKit.Below w.heap.size w W5) (And.intro (f5.blk H.out.2.1 fun e => e) (And.intro (f5.blk H.out.2.2.1 fun e => e) (And.intro (f5.blk H.out.2.2.2.1 fun e => e) (And.intro (H.out.2.2.2.2.1.fr f5 fun _ _ e => e) H.out.2.2.2.2.2)))))
    clear hW5 f5 H HF HW
    have q0 := blk_cell H5.out.2.2.1 0; have q1 := blk_cell H5.out.2.2.1 1; have q2 := blk_cell H5.out.2.2.1 2; have g0 := blk_free H5.out.2.2.1 0; have g1 := blk_free H5.out.2.2.1 1; have g2 := blk_free H5.out.2.2.1 2
    have p0 := blk_cell H5.out.2.2.2.1 0; have p1 := blk_cell H5.out.2.2.2.1 1; have p2 := blk_cell H5.out.2.2.2.1 2
    go_wp2_with fail
    obtain ⟨b5, k5, r5, p5, a5, hN5, hlt5⟩ := H5.out
    have kk := fun j => blk_cell (set3R (x := .bool false) (y := .int .u8 0) (z := .string ⟨#[]⟩) r5) j
    refine bodyPost_ret (res_three rfl rfl (Tryz.isAgg31 _) (Tryz.sizeOf31 _) (kk 0) (kk 1) (kk 2)) rfl ⟨by rw [← HRES.out, HC.out]; rfl, ?_⟩
    rw [← HRES.out, HC.out]
    exact XW.boxedZ (Z := fun k => k = N + 1) ⟨q, a5, Fr.refl _ _, fun _ hk _ => hk⟩ b5 hlt5 (fun k e => by have := blk_lt r5; omega) set3R_fr
  · have hcn : flX x on 115 = (⟨on, 115, [], 0⟩, { x with on := (x.on.filter fun d => decide (d ≠ 115)) ++ (if on then [115] else []) }) := by unfold flX; rw [if_neg (by rw [HS.out.2.2]; exact hxo)]
    have HC := Lib.hid hcn
    have hxn : (y == on) = false := by cases y <;> cases on <;> simp_all
    clear hxo hcn
    go_enter Tryz.func35, Tryz.ntmps35
    go_wp2_with fail
    go_quiet ((go_at_call 23; exact Calls.quiet_of_same (HF.out _)))
    clear hW0 hV0 hN z0 z1 y0 y1 y2 x0 x1 x2
    obtain ⟨W5, hW5⟩ : ∃ W5, W0.drewN nq = W5 := ⟨_, rfl⟩
    rw [hW5]
    have f5 : Fr (fun _ => False) W0 W5 := by rw [← hW5]; exact Fr.of_below (below_drewN (Below.refl _ _) nq)
    have H5 := Lib.hid (And.intro (by rw [← hW5]; exact below_drewN H.out.1 nq : RowKit.Below w.heap.size w W5) (And.intro (f5.blk H.out.2.1 fun e => e) (And.intro (f5.blk H.out.2.2.1 fun e => e) (And.intro (f5.blk H.out.2.2.2.1 fun e => e) (And.intro (H.out.2.2.2.2.1.fr f5 fun _ _ e => e) H.out.2.2.2.2.2)))))
    clear hW5 f5 H HF HW
    go_wp2_with fail
    go_loopw [9, 10] (fun u i wr => ∃ (k : Nat) (t : ByteArray), i = .int .i64 k ∧ k ≤ s.size ∧ u = .string t ∧ Hid (t.data.toList = (s.data.toList.take k).filter fun d => decide (d ≠ 115)) ∧ ∃ nn, wr = W5.drewN nn) (fun _ i _ => s.size - (Go.RowKit.intOf i).toNat)
    case atStart => exact ⟨0, ⟨#[]⟩, rfl, Nat.zero_le _, rfl, by show _ = _; simp, 0, rfl⟩
    case round =>
      obtain ⟨k, t, rfl, hk, rfl, HT, nn, rfl⟩ := hrel
      have f6 : Fr (fun _ => False) W5 (W5.drewN nn) := Fr.of_below (below_drewN (Below.refl _ _) nn)
      have H6 := Lib.hid (And.intro (below_drewN H5.out.1 nn) (And.intro (f6.blk H5.out.2.1 fun e => e) (And.intro (f6.blk H5.out.2.2.1 fun e => e) (And.intro (f6.blk H5.out.2.2.2.1 fun e => e) (And.intro (H5.out.2.2.2.2.1.fr f6 fun _ _ e => e) H5.out.2.2.2.2.2)))))
      obtain ⟨W6, hW6⟩ : ∃ W6, W5.drewN nn = W6 := ⟨_, rfl⟩
      rw [hW6] at H6 ⊢
      have HW6 := Lib.hid hW6
      clear f6 hW6
      have htl : t.size ≤ 1000000 := by
        have h0 : t.data.toList.length = t.size := by simp
        rw [← h0, HT.out]
        refine Nat.le_trans (List.length_filter_le _ _) (Nat.le_trans (List.length_take_le _ _) (by omega))
      have c4 : W6.cell? ⟨B, 4, none⟩ = some (.string s) := by rw [← HS.out.2.1]; exact blk_cell H6.out.2.2.2.2.1.1 4
      have z1 := blk_cell H6.out.2.1 1
      by_cases hlt : k < s.size
      · have HN := Lib.hid (filt_next s 115 k hlt)
        have HE := Lib.hid (app_one' t s k hlt)
        by_cases hid : s[k] = 115
        · have he : ((s[k].toNat : Int) != 115) = false := by rw [hid]; decide
          have HID := Lib.hid hid
          clear hid
          go_wp2_with fail
          go_quiet (fail)
          go_wp2_with fail
          refine ⟨⟨k + 1, t, by push_cast; rfl, by omega, rfl, ?_, ?_⟩, by simp only [Go.RowKit.intOf]; omega⟩
          · show _ = _; rw [HN.out, if_pos HID.out, HT.out, List.append_nil]
          · exact drewN_two ⟨nn, HW6.out.symm⟩ ⟨_, rfl⟩
        · have he : ((s[k].toNat : Int) != 115) = true := by
            rw [bne_iff_ne]
            intro e
            exact hid (UInt8.toNat_inj.1 (by have : (115 : UInt8).toNat = 115 := rfl; omega))
          have HID := Lib.hid hid
          clear hid
          go_wp2_with fail
          go_quiet (fail)
          go_wp2_with fail
          refine ⟨⟨k + 1, _, by push_cast; rfl, by omega, rfl, ?_, ?_⟩, by simp only [Go.RowKit.intOf]; omega⟩
          · show _ = _; rw [HN.out, if_neg HID.out, HE.out, HT.out]
          · exact drewN_two ⟨nn, HW6.out.symm⟩ ⟨_, rfl⟩
      · obtain rfl : k = s.size := by omega
        have hT := HT.out
        rw [List.take_of_length_le (l := s.data.toList) (by simp), HS.out.1] at hT
        have HT2 := Lib.hid hT
        clear hT HT hlt
        have f4 : W6.frozen? ⟨B, 4, none⟩ = false := blk_free H6.out.2.2.2.2.1.1 4
        have z0 := blk_cell H6.out.2.1 0
        have q0 := blk_cell H6.out.2.2.1 0; have q1 := blk_cell H6.out.2.2.1 1; have q2 := blk_cell H6.out.2.2.1 2; have g0 := blk_free H6.out.2.2.1 0; have g1 := blk_free H6.out.2.2.1 1; have g2 := blk_free H6.out.2.2.1 2
        have hBl : B < w.heap.size := H6.out.2.2.2.2.2.2 B (.inl rfl)
        have hNe := H6.out.2.2.2.2.2.1
        cases on with
        | true =>
          obtain ⟨t2, ht2⟩ : ∃ t2, t ++ bs [115] = t2 := ⟨_, rfl⟩
          have hT2 : t2 = bs ((x.on.filter fun d => decide (d ≠ 115)) ++ [115]) := by rw [← ht2]; apply ba_ext; rw [ByteArray.data_append, Array.toList_append, HT2.out]; rfl
          obtain ⟨W7, hW7⟩ : ∃ W7, W6.alloc (.cells #[.int .u8 115] 5) = W7 := ⟨_, rfl⟩
          have hconv : (convert 81 9 (.slice (some ⟨W6.heap.size, 0, none⟩) 1 1)).run Tryz.prog W7 = .ok (.string (bs [115])) W7 := by rw [← hW7]; exact conv_one (P := Tryz.prog) W6 81 9 5 115 Tryz.underlying81 Tryz.underlying5 Tryz.underlying9
          have f7 : Fr (fun _ => False) W6 W7 := by rw [← hW7]; exact (Fr.refl _ _).alloc _
          have r7 := f7.blk H6.out.2.2.1 fun e => e
          have a7 := H6.out.2.2.2.2.1.fr f7 fun _ _ e => e
          obtain ⟨W8, hW8⟩ : ∃ W8, W7.setCell ⟨B, 4, none⟩ (.string t2) = W8 := ⟨_, rfl⟩
          have f8 : Fr (fun k => k = B) W7 W8 := by rw [← hW8]; exact Fr.setCell (X := fun k => k = B) (Fr.refl _ W7) ⟨B, 4, none⟩ rfl _
          have k8 := f8.blk (f7.blk H6.out.2.1 fun e => e) (by omega)
          have r8 := f8.blk r7 (by omega)
          have a8 : RxAt base B q { x with on := (x.on.filter fun d => decide (d ≠ 115)) ++ [115] } W8 := a7.toF (by rw [← hW8, hT2]; exact blk_set a7.1 4 _) rfl rfl rfl f8
          have H8 := Lib.hid (And.intro a8 (And.intro r8 (And.intro f7 (And.intro f8 (blk_lt r7)))))
          have e0 := blk_cell k8 0; have e1 := blk_cell k8 1
          have t0 := blk_cell r8 0; have t1 := blk_cell r8 1; have t3 := blk_cell r8 2; have u0 := blk_free r8 0; have u1 := blk_free r8 1; have u2 := blk_free r8 2
          have v4 := blk_cell a7.1 4; have v4f := blk_free a7.1 4
          have w0 := blk_cell (f7.blk H6.out.2.1 fun e => e) 0
          clear f7 r7 a7 f8 k8 r8 a8 hT2
          go_wp2_with fail
          obtain ⟨a8, r8, f7, f8, hl7⟩ := H8.out
          have kk := fun j => blk_cell (set3R (x := .bool true) (y := .int .u8 115) (z := .string ⟨#[]⟩) r8) j
          refine bodyPost_ret (res_three rfl rfl (Tryz.isAgg31 _) (Tryz.sizeOf31 _) (kk 0) (kk 1) (kk 2)) rfl ⟨by rw [← HRES.out, HC.out]; rfl, ?_⟩
          rw [← HRES.out, HC.out]
          exact XW.boxedZ (W := W6) (Z := fun k => k = N + 1) ⟨q, a8, ((f7.mono (Y := RxX B q) fun _ _ e => e.elim).trans3 f8 fun k _ e => .inl e), fun _ hk _ => hk⟩ H6.out.1 H6.out.2.2.2.2.2.2 (fun k e => by have := blk_lt H6.out.2.2.1; omega) set3R_fr
        | false =>
          have hT2 : t = bs (x.on.filter fun d => decide (d ≠ 115)) := by apply ba_ext; rw [HT2.out]; rfl
          obtain ⟨W8, hW8⟩ : ∃ W8, W6.setCell ⟨B, 4, none⟩ (.string t) = W8 := ⟨_, rfl⟩
          have a6 := H6.out.2.2.2.2.1
          have f8 : Fr (fun k => k = B) W6 W8 := by rw [← hW8]; exact Fr.setCell (X := fun k => k = B) (Fr.refl _ W6) ⟨B, 4, none⟩ rfl _
          have k8 := f8.blk H6.out.2.1 (by omega)
          have r8 := f8.blk H6.out.2.2.1 (by omega)
          have a8 : RxAt base B q { x with on := (x.on.filter fun d => decide (d ≠ 115)) ++ [] } W8 := a6.toF (by rw [← hW8, hT2, List.append_nil]; exact blk_set a6.1 4 _) rfl rfl rfl f8
          have H8 := Lib.hid (And.intro a8 (And.intro r8 f8))
          have e0 := blk_cell k8 0; have e1 := blk_cell k8 1
          have t0 := blk_cell r8 0; have t1 := blk_cell r8 1; have t3 := blk_cell r8 2; have u0 := blk_free r8 0; have u1 := blk_free r8 1; have u2 := blk_free r8 2
          clear f8 k8 r8 a8 hT2 a6
          go_wp2_with fail
          obtain ⟨a8, r8, f8⟩ := H8.out
          have kk := fun j => blk_cell (set3R (x := .bool false) (y := .int .u8 115) (z := .string ⟨#[]⟩) r8) j
          refine bodyPost_ret (res_three rfl rfl (Tryz.isAgg31 _) (Tryz.sizeOf31 _) (kk 0) (kk 1) (kk 2)) rfl ⟨by rw [← HRES.out, HC.out]; rfl, ?_⟩
          rw [← HRES.out, HC.out]
          exact XW.boxedZ (W := W6) (Z := fun k => k = N + 1) ⟨q, a8, f8.mono fun k _ e => .inl e, fun _ hk _ => hk⟩ H6.out.1 H6.out.2.2.2.2.2.2 (fun k e => by have := blk_lt H6.out.2.2.1; omega) set3R_fr
set_option maxRecDepth 100000 in
set_option maxHeartbeats 16000000 in
theorem refChange_F116 {base B : Nat} {q : RxV} {x : Rx} {w : World} (h : RxAt base B q x w) (on : Bool) (arg : List UInt8) (id : Int) (hol : x.on.length ≤ 100000) :
    Calls Tryz.prog 35 #[.pointer (some ⟨B, 0, none⟩), chgV on 116 arg, .int .i64 id] w fun e w' => e = .returned (flX x on 116).1.val ∧ XW base B q (flX x on 116).2 w w' := by
  obtain ⟨N, hN⟩ : ∃ N, w.heap.size = N := ⟨_, rfl⟩
  obtain ⟨ab, hab⟩ : ∃ ab, bs arg = ab := ⟨_, rfl⟩
  have hcv : chgV on 116 arg = .agg #[.bool on, .int .u8 116, .string ab] := by rw [← hab]; rfl
  rw [hcv]
  obtain ⟨res, hres⟩ : ∃ res, flX x on 116 = res := ⟨_, rfl⟩
  rw [hres]
  obtain ⟨V0, hV0⟩ : ∃ V0, (((w.alloc (.cells #[.bool on, .int .u8 116, .string ab] 31)).alloc (.cells #[.bool false, .int .u8 0, .string ⟨#[]⟩] 31)).alloc (.cells #[.bool false, .int .u8 0, .string ⟨#[]⟩] 31)) = V0 := ⟨_, rfl⟩
  have b0 : RowKit.Below w.heap.size w V0 := by rw [← hV0]; exact (((Below.refl _ w).alloc (Nat.le_refl _) _).alloc (by simp) _).alloc (by simp; omega) _
  have k0 : V0.heap[N]? = some (.cells #[.bool on, .int .u8 116, .string ab] 31 (0, 0)) := by rw [← hV0, ← hN]; exact blk_alloc (blk_alloc (heap_alloc_new w _) _) _
  have k1 : V0.heap[N + 1]? = some (.cells #[.bool false, .int .u8 0, .string ⟨#[]⟩] 31 (0, 0)) := by rw [← hV0, ← hN]; exact blk_alloc (heap_alloc2_new w _ _) _
  have k2 : V0.heap[N + 1 + 1]? = some (.cells #[.bool false, .int .u8 0, .string ⟨#[]⟩] 31 (0, 0)) := by
    rw [← hV0, ← hN]
    have := heap_alloc2_new (w.alloc (.cells #[.bool on, .int .u8 116, .string ab] 31)) (.cells #[.bool false, .int .u8 0, .string ⟨#[]⟩] 31) (.cells #[.bool false, .int .u8 0, .string ⟨#[]⟩] 31)
    rwa [World.size_alloc] at this
  have y0 := blk_cell k2 0; have y1 := blk_cell k2 1; have y2 := blk_cell k2 2; have x0 := blk_free k2 0; have x1 := blk_free k2 1; have x2 := blk_free k2 2
  obtain ⟨W0, hW0⟩ : ∃ W0, (((V0.setCell ⟨N + 1 + 1, 0, none⟩ (.bool false)).setCell ⟨N + 1 + 1, 1, none⟩ (.int .u8 0)).setCell ⟨N + 1 + 1, 2, none⟩ (.string ⟨#[]⟩)) = W0 := ⟨_, rfl⟩
  have fV : Fr (fun k => k = N + 1 + 1) V0 W0 := by rw [← hW0]; exact set3R_fr
  have b0 : RowKit.Below w.heap.size w W0 := b0.trans (fV.below (B := w.heap.size) b0.size fun k hk e => by omega)
  have k0 := fV.blk k0 (by omega)
  have k1 := fV.blk k1 (by omega)
  have k2 : W0.heap[N + 1 + 1]? = some (.cells #[.bool false, .int .u8 0, .string ⟨#[]⟩] 31 (0, 0)) := by rw [← hW0]; exact set3R k2
  clear fV
  have h0 := h.below b0
  have hlt : ∀ k, RxX B q k → k < w.heap.size := fun k hk => (h.lt k hk).2
  have HRES := Lib.hid hres
  have HAB := Lib.hid hab
  have H := Lib.hid (And.intro b0 (And.intro k0 (And.intro k1 (And.intro k2 (And.intro h0 (And.intro hN hlt))))))
  have HW := Lib.hid hW0
  obtain ⟨s, hs⟩ : ∃ s, bs x.on = s := ⟨_, rfl⟩
  have hsl : s.size ≤ 100000 := by rw [← hs]; simpa using hol
  have hsd : s.data.toList = x.on := by rw [← hs]; rfl
  obtain ⟨y, hy⟩ : ∃ y, x.on.contains 116 = y := ⟨_, rfl⟩
  have hF := fun n => refFlag_any (h0.fr (Fr.of_below (X := fun _ => False) (below_drewN (Below.refl W0.heap.size W0) n)) fun _ _ e => e) 116 (by omega)
  rw [hy] at hF
  have HF := Lib.hid hF
  have HS := Lib.hid (And.intro hsd (And.intro hs hy))
  have z0 := blk_cell k0 0; have z1 := blk_cell k0 1
  clear h h0 k0 k1 k2 hlt hres hab hcv hs hsd hy hF hol
  by_cases hxo : y = on
  · have hc : flX x on 116 = (noT 0, x) := by unfold flX; rw [if_pos (by rw [HS.out.2.2, hxo])]
    have HC := Lib.hid hc
    have hxe := hxo.symm
    subst hxe
    clear hxo hc
    go_enter Tryz.func35, Tryz.ntmps35
    go_wp2_with fail
    go_quiet ((go_at_call 23; exact Calls.quiet_of_same (HF.out _)))
    clear hW0 hV0 hN z0 z1 y0 y1 y2 x0 x1 x2
    obtain ⟨W5, hW5⟩ : ∃ W5, W0.drewN nq = W5 := ⟨_, rfl⟩
    rw [hW5]
    have f5 : Fr (fun _ => False) W0 W5 := by rw [← hW5]; exact Fr.of_below (below_drewN (Below.refl _ _) nq)
    have H5 := Lib.hid (And.intro (by rw [← hW5]; exact below_drewN H.out.1 nq : RowKit.Below w.heap.size w W5) (And.intro (f5.blk H.out.2.1 fun e => e) (And.intro (f5.blk H.out.2.2.1 fun e => e) (And.intro (f5.blk H.out.2.2.2.1 fun e => e) (And.intro (H.out.2.2.2.2.1.fr f5 fun _ _ e => e) H.out.2.2.2.2.2)))))
    clear hW5 f5 H HF HW
    have q0 := blk_cell H5.out.2.2.1 0; have q1 := blk_cell H5.out.2.2.1 1; have q2 := blk_cell H5.out.2.2.1 2; have g0 := blk_free H5.out.2.2.1 0; have g1 := blk_free H5.out.2.2.1 1; have g2 := blk_free H5.out.2.2.1 2
    have p0 := blk_cell H5.out.2.2.2.1 0; have p1 := blk_cell H5.out.2.2.2.1 1; have p2 := blk_cell H5.out.2.2.2.1 2
    go_wp2_with fail
    obtain ⟨b5, k5, r5, p5, a5, hN5, hlt5⟩ := H5.out
    have kk := fun j => blk_cell (set3R (x := .bool false) (y := .int .u8 0) (z := .string ⟨#[]⟩) r5) j
    refine bodyPost_ret (res_three rfl rfl (Tryz.isAgg31 _) (Tryz.sizeOf31 _) (kk 0) (kk 1) (kk 2)) rfl ⟨by rw [← HRES.out, HC.out]; rfl, ?_⟩
    rw [← HRES.out, HC.out]
    exact XW.boxedZ (Z := fun k => k = N + 1) ⟨q, a5, Fr.refl _ _, fun _ hk _ => hk⟩ b5 hlt5 (fun k e => by have := blk_lt r5; omega) set3R_fr
  · have hcn : flX x on 116 = (⟨on, 116, [], 0⟩, { x with on := (x.on.filter fun d => decide (d ≠ 116)) ++ (if on then [116] else []) }) := by unfold flX; rw [if_neg (by rw [HS.out.2.2]; exact hxo)]
    have HC := Lib.hid hcn
    have hxn : (y == on) = false := by cases y <;> cases on <;> simp_all
    clear hxo hcn
    go_enter Tryz.func35, Tryz.ntmps35
    go_wp2_with fail
    go_quiet ((go_at_call 23; exact Calls.quiet_of_same (HF.out _)))
    clear hW0 hV0 hN z0 z1 y0 y1 y2 x0 x1 x2
    obtain ⟨W5, hW5⟩ : ∃ W5, W0.drewN nq = W5 := ⟨_, rfl⟩
    rw [hW5]
    have f5 : Fr (fun _ => False) W0 W5 := by rw [← hW5]; exact Fr.of_below (below_drewN (Below.refl _ _) nq)
    have H5 := Lib.hid (And.intro (by rw [← hW5]; exact below_drewN H.out.1 nq : RowKit.Below w.heap.size w W5) (And.intro (f5.blk H.out.2.1 fun e => e) (And.intro (f5.blk H.out.2.2.1 fun e => e) (And.intro (f5.blk H.out.2.2.2.1 fun e => e) (And.intro (H.out.2.2.2.2.1.fr f5 fun _ _ e => e) H.out.2.2.2.2.2)))))
    clear hW5 f5 H HF HW
    go_wp2_with fail
    go_loopw [9, 10] (fun u i wr => ∃ (k : Nat) (t : ByteArray), i = .int .i64 k ∧ k ≤ s.size ∧ u = .string t ∧ Hid (t.data.toList = (s.data.toList.take k).filter fun d => decide (d ≠ 116)) ∧ ∃ nn, wr = W5.drewN nn) (fun _ i _ => s.size - (Go.RowKit.intOf i).toNat)
    case atStart => exact ⟨0, ⟨#[]⟩, rfl, Nat.zero_le _, rfl, by show _ = _; simp, 0, rfl⟩
    case round =>
      obtain ⟨k, t, rfl, hk, rfl, HT, nn, rfl⟩ := hrel
      have f6 : Fr (fun _ => False) W5 (W5.drewN nn) := Fr.of_below (below_drewN (Below.refl _ _) nn)
      have H6 := Lib.hid (And.intro (below_drewN H5.out.1 nn) (And.intro (f6.blk H5.out.2.1 fun e => e) (And.intro (f6.blk H5.out.2.2.1 fun e => e) (And.intro (f6.blk H5.out.2.2.2.1 fun e => e) (And.intro (H5.out.2.2.2.2.1.fr f6 fun _ _ e => e) H5.out.2.2.2.2.2)))))
      obtain ⟨W6, hW6⟩ : ∃ W6, W5.drewN nn = W6 := ⟨_, rfl⟩
      rw [hW6] at H6 ⊢
      have HW6 := Lib.hid hW6
      clear f6 hW6
      have htl : t.size ≤ 1000000 := by
        have h0 : t.data.toList.length = t.size := by simp
        rw [← h0, HT.out]
        refine Nat.le_trans (List.length_filter_le _ _) (Nat.le_trans (List.length_take_le _ _) (by omega))
      have c4 : W6.cell? ⟨B, 4, none⟩ = some (.string s) := by rw [← HS.out.2.1]; exact blk_cell H6.out.2.2.2.2.1.1 4
      have z1 := blk_cell H6.out.2.1 1
      by_cases hlt : k < s.size
      · have HN := Lib.hid (filt_next s 116 k hlt)
        have HE := Lib.hid (app_one' t s k hlt)
        by_cases hid : s[k] = 116
        · have he : ((s[k].toNat : Int) != 116) = false := by rw [hid]; decide
          have HID := Lib.hid hid
          clear hid
          go_wp2_with fail
          go_quiet (fail)
          go_wp2_with fail
          refine ⟨⟨k + 1, t, by push_cast; rfl, by omega, rfl, ?_, ?_⟩, by simp only [Go.RowKit.intOf]; omega⟩
          · show _ = _; rw [HN.out, if_pos HID.out, HT.out, List.append_nil]
          · exact drewN_two ⟨nn, HW6.out.symm⟩ ⟨_, rfl⟩
        · have he : ((s[k].toNat : Int) != 116) = true := by
            rw [bne_iff_ne]
            intro e
            exact hid (UInt8.toNat_inj.1 (by have : (116 : UInt8).toNat = 116 := rfl; omega))
          have HID := Lib.hid hid
          clear hid
          go_wp2_with fail
          go_quiet (fail)
          go_wp2_with fail
          refine ⟨⟨k + 1, _, by push_cast; rfl, by omega, rfl, ?_, ?_⟩, by simp only [Go.RowKit.intOf]; omega⟩
          · show _ = _; rw [HN.out, if_neg HID.out, HE.out, HT.out]
          · exact drewN_two ⟨nn, HW6.out.symm⟩ ⟨_, rfl⟩
      · obtain rfl : k = s.size := by omega
        have hT := HT.out
        rw [List.take_of_length_le (l := s.data.toList) (by simp), HS.out.1] at hT
        have HT2 := Lib.hid hT
        clear hT HT hlt
        have f4 : W6.frozen? ⟨B, 4, none⟩ = false := blk_free H6.out.2.2.2.2.1.1 4
        have z0 := blk_cell H6.out.2.1 0
        have q0 := blk_cell H6.out.2.2.1 0; have q1 := blk_cell H6.out.2.2.1 1; have q2 := blk_cell H6.out.2.2.1 2; have g0 := blk_free H6.out.2.2.1 0; have g1 := blk_free H6.out.2.2.1 1; have g2 := blk_free H6.out.2.2.1 2
        have hBl : B < w.heap.size := H6.out.2.2.2.2.2.2 B (.inl rfl)
        have hNe := H6.out.2.2.2.2.2.1
        cases on with
        | true =>
          obtain ⟨t2, ht2⟩ : ∃ t2, t ++ bs [116] = t2 := ⟨_, rfl⟩
          have hT2 : t2 = bs ((x.on.filter fun d => decide (d ≠ 116)) ++ [116]) := by rw [← ht2]; apply ba_ext; rw [ByteArray.data_append, Array.toList_append, HT2.out]; rfl
          obtain ⟨W7, hW7⟩ : ∃ W7, W6.alloc (.cells #[.int .u8 116] 5) = W7 := ⟨_, rfl⟩
          have hconv : (convert 81 9 (.slice (some ⟨W6.heap.size, 0, none⟩) 1 1)).run Tryz.prog W7 = .ok (.string (bs [116])) W7 := by rw [← hW7]; exact conv_one (P := Tryz.prog) W6 81 9 5 116 Tryz.underlying81 Tryz.underlying5 Tryz.underlying9
          have f7 : Fr (fun _ => False) W6 W7 := by rw [← hW7]; exact (Fr.refl _ _).alloc _
          have r7 := f7.blk H6.out.2.2.1 fun e => e
          have a7 := H6.out.2.2.2.2.1.fr f7 fun _ _ e => e
          obtain ⟨W8, hW8⟩ : ∃ W8, W7.setCell ⟨B, 4, none⟩ (.string t2) = W8 := ⟨_, rfl⟩
          have f8 : Fr (fun k => k = B) W7 W8 := by rw [← hW8]; exact Fr.setCell (X := fun k => k = B) (Fr.refl _ W7) ⟨B, 4, none⟩ rfl _
          have k8 := f8.blk (f7.blk H6.out.2.1 fun e => e) (by omega)
          have r8 := f8.blk r7 (by omega)
          have a8 : RxAt base B q { x with on := (x.on.filter fun d => decide (d ≠ 116)) ++ [116] } W8 := a7.toF (by rw [← hW8, hT2]; exact blk_set a7.1 4 _) rfl rfl rfl f8
          have H8 := Lib.hid (And.intro a8 (And.intro r8 (And.intro f7 (And.intro f8 (blk_lt r7)))))
          have e0 := blk_cell k8 0; have e1 := blk_cell k8 1
          have t0 := blk_cell r8 0; have t1 := blk_cell r8 1; have t3 := blk_cell r8 2; have u0 := blk_free r8 0; have u1 := blk_free r8 1; have u2 := blk_free r8 2
          have v4 := blk_cell a7.1 4; have v4f := blk_free a7.1 4
          have w0 := blk_cell (f7.blk H6.out.2.1 fun e => e) 0
          clear f7 r7 a7 f8 k8 r8 a8 hT2
          go_wp2_with fail
          obtain ⟨a8, r8, f7, f8, hl7⟩ := H8.out
          have kk := fun j => blk_cell (set3R (x := .bool true) (y := .int .u8 116) (z := .string ⟨#[]⟩) r8) j
          refine bodyPost_ret (res_three rfl rfl (Tryz.isAgg31 _) (Tryz.sizeOf31 _) (kk 0) (kk 1) (kk 2)) rfl ⟨by rw [← HRES.out, HC.out]; rfl, ?_⟩
          rw [← HRES.out, HC.out]
          exact XW.boxedZ (W := W6) (Z := fun k => k = N + 1) ⟨q, a8, ((f7.mono (Y := RxX B q) fun _ _ e => e.elim).trans3 f8 fun k _ e => .inl e), fun _ hk _ => hk⟩ H6.out.1 H6.out.2.2.2.2.2.2 (fun k e => by have := blk_lt H6.out.2.2.1; omega) set3R_fr
        | false =>
          have hT2 : t = bs (x.on.filter fun d => decide (d ≠ 116)) := by apply ba_ext; rw [HT2.out]; rfl
          obtain ⟨W8, hW8⟩ : ∃ W8, W6.setCell ⟨B, 4, none⟩ (.string t) = W8 := ⟨_, rfl⟩
          have a6 := H6.out.2.2.2.2.1
          have f8 : Fr (fun k => k = B) W6 W8 := by rw [← hW8]; exact Fr.setCell (X := fun k => k = B) (Fr.refl _ W6) ⟨B, 4, none⟩ rfl _
          have k8 := f8.blk H6.out.2.1 (by omega)
          have r8 := f8.blk H6.out.2.2.1 (by omega)
          have a8 : RxAt base B q { x with on := (x.on.filter fun d => decide (d ≠ 116)) ++ [] } W8 := a6.toF (by rw [← hW8, hT2, List.append_nil]; exact blk_set a6.1 4 _) rfl rfl rfl f8
          have H8 := Lib.hid (And.intro a8 (And.intro r8 f8))
          have e0 := blk_cell k8 0; have e1 := blk_cell k8 1
          have t0 := blk_cell r8 0; have t1 := blk_cell r8 1; have t3 := blk_cell r8 2; have u0 := blk_free r8 0; have u1 := blk_free r8 1; have u2 := blk_free r8 2
          clear f8 k8 r8 a8 hT2 a6
          go_wp2_with fail
          obtain ⟨a8, r8, f8⟩ := H8.out
          have kk := fun j => blk_cell (set3R (x := .bool false) (y := .int .u8 116) (z := .string ⟨#[]⟩) r8) j
          refine bodyPost_ret (res_three rfl rfl (Tryz.isAgg31 _) (Tryz.sizeOf31 _) (kk 0) (kk 1) (kk 2)) rfl ⟨by rw [← HRES.out, HC.out]; rfl, ?_⟩
          rw [← HRES.out, HC.out]
          exact XW.boxedZ (W := W6) (Z := fun k => k = N + 1) ⟨q, a8, f8.mono fun k _ e => .inl e, fun _ hk _ => hk⟩ H6.out.1 H6.out.2.2.2.2.2.2 (fun k e => by have := blk_lt H6.out.2.2.1; omega) set3R_fr
end Go.Proofs.YtmgnhbihfgpccaaGreatDoor
end
