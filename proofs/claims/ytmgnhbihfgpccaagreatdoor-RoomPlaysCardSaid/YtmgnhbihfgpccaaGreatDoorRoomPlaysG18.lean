/- Texts of this proof, one behind the other. -/
import Derived.Test.YtmgnhbihfgpccaaGreatDoorRoomPlaysG17
import Derived.Test.YtmgnhbihfgpccaaGreatDoorRoomPlaysG9
set_option linter.unusedVariables false
set_option linter.unusedSimpArgs false
section
/- Layer 19: the document's Change: key, limit, ban, other letters. -/
namespace Go.Proofs.YtmgnhbihfgpccaaGreatDoor
open Go Go.RowKit

noncomputable def keyX (x : Rx) (on : Bool) (c : UInt8) (arg : List UInt8) : Told × Rx :=
  if on then (if dec (KeyP (bs arg)) = false ∨ x.key ≠ [] then (noT 475, x) else (⟨true, c, arg, 0⟩, { x with key := arg }))
  else if x.key = [] then (noT 0, x) else (⟨false, 107, [42], 0⟩, { x with key := [] })
def limX (x : Rx) (on : Bool) (c : UInt8) (arg : List UInt8) : Told × Rx :=
  if on then (if limL arg = 0 ∨ (limL arg : Int) = x.lim then (noT 0, x) else (⟨true, c, arg, 0⟩, { x with lim := limL arg }))
  else if 0 = x.lim then (noT 0, x) else (⟨false, c, [], 0⟩, { x with lim := 0 })
set_option maxRecDepth 100000 in
set_option maxHeartbeats 16000000 in
theorem refChange_K {base B : Nat} {q : RxV} {x : Rx} {w : World} (h : RxAt base B q x w) (on : Bool) (arg : List UInt8) (id : Int) (ha : arg.length ≤ 1000000) (hr : Rowed w) :
    Calls Tryz.prog 35 #[.pointer (some ⟨B, 0, none⟩), chgV on 107 arg, .int .i64 id] w fun e w' => e = .returned (keyX x on 107 arg).1.val ∧ XW base B q (keyX x on 107 arg).2 w w' := by
  obtain ⟨N, hN⟩ : ∃ N, w.heap.size = N := ⟨_, rfl⟩
  obtain ⟨ab, hab⟩ : ∃ ab, bs arg = ab := ⟨_, rfl⟩
  have hcv : chgV on 107 arg = .agg #[.bool on, .int .u8 107, .string ab] := by rw [← hab]; rfl
  rw [hcv]
  obtain ⟨res, hres⟩ : ∃ res, keyX x on 107 arg = res := ⟨_, rfl⟩
  rw [hres]
  obtain ⟨V0, hV0⟩ : ∃ V0, (((w.alloc (.cells #[.bool on, .int .u8 107, .string ab] 31)).alloc (.cells #[.bool false, .int .u8 0, .string ⟨#[]⟩] 31)).alloc (.cells #[.bool false, .int .u8 0, .string ⟨#[]⟩] 31)) = V0 := ⟨_, rfl⟩
  have b0 : RowKit.Below w.heap.size w V0 := by rw [← hV0]; exact (((Below.refl _ w).alloc (Nat.le_refl _) _).alloc (by simp) _).alloc (by simp; omega) _
  have k0 : V0.heap[N]? = some (.cells #[.bool on, .int .u8 107, .string ab] 31 (0, 0)) := by rw [← hV0, ← hN]; exact blk_alloc (blk_alloc (heap_alloc_new w _) _) _
  have k1 : V0.heap[N + 1]? = some (.cells #[.bool false, .int .u8 0, .string ⟨#[]⟩] 31 (0, 0)) := by rw [← hV0, ← hN]; exact blk_alloc (heap_alloc2_new w _ _) _
  have k2 : V0.heap[N + 1 + 1]? = some (.cells #[.bool false, .int .u8 0, .string ⟨#[]⟩] 31 (0, 0)) := by
    rw [← hV0, ← hN]
    have := heap_alloc2_new (w.alloc (.cells #[.bool on, .int .u8 107, .string ab] 31)) (.cells #[.bool false, .int .u8 0, .string ⟨#[]⟩] 31) (.cells #[.bool false, .int .u8 0, .string ⟨#[]⟩] 31)
    rwa [World.size_alloc] at this
  have y0 := blk_cell k2 0; have y1 := blk_cell k2 1; have y2 := blk_cell k2 2; have x0 := blk_free k2 0; have x1 := blk_free k2 1; have x2 := blk_free k2 2
  obtain ⟨W0, hW0⟩ : ∃ W0, (((V0.setCell ⟨N + 1 + 1, 0, none⟩ (.bool false)).setCell ⟨N + 1 + 1, 1, none⟩ (.int .u8 0)).setCell ⟨N + 1 + 1, 2, none⟩ (.string ⟨#[]⟩)) = W0 := ⟨_, rfl⟩
  have fV : Fr (fun k => k = N + 1 + 1) V0 W0 := by rw [← hW0]; exact set3R_fr
  have b0 : RowKit.Below w.heap.size w W0 := b0.trans (fV.below (B := w.heap.size) b0.size fun k hk e => by omega)
  have k0 := fV.blk k0 (by omega)
  have k1 := fV.blk k1 (by omega)
  have k2 : W0.heap[N + 1 + 1]? = some (.cells #[.bool false, .int .u8 0, .string ⟨#[]⟩] 31 (0, 0)) := by rw [← hW0]; exact set3R k2
  clear fV
  have h0 := h.below b0
  have hlt : ∀ k, RxX B q k → k < w.heap.size := fun k hk => (h.lt k hk).2
  have HRES := Lib.hid hres
  have HAB := Lib.hid hab
  have H := Lib.hid (And.intro b0 (And.intro k0 (And.intro k1 (And.intro k2 (And.intro h0 (And.intro hN hlt))))))
  have HW := Lib.hid hW0
  have hab6 : ab.size ≤ 1000000 := by rw [← hab]; simpa using ha
  obtain ⟨kp, hkp⟩ : ∃ kp, dec (KeyP (bs arg)) = kp := ⟨_, rfl⟩
  have hK := key_r ab W0 hab6
  rw [← hab, hkp, hab] at hK
  have HK := Lib.hid hK
  have HKP := Lib.hid hkp
  have z0 := blk_cell k0 0; have z1 := blk_cell k0 1; have z2 := blk_cell k0 2
  have c5 : W0.cell? ⟨B, 5, none⟩ = some (.string (bs x.key)) := blk_cell h0.1 5
  clear h h0 k0 k1 k2 hlt hres hab hcv hK hkp ha hr hab6
  cases on with
  | true =>
    by_cases hk : kp = false ∨ x.key ≠ []
    · have hc : keyX x true 107 arg = (noT 475, x) := by unfold keyX; rw [if_pos rfl, if_pos (by rw [HKP.out]; exact hk)]
      have HC := Lib.hid hc
      clear hc
      cases kp with
      | false =>
        clear hk
        go_enter Tryz.func35, Tryz.ntmps35
        go_wp2_with fail
        refine HK.out.mono ?_
        rintro e w' ⟨rfl, hw'⟩
        rw [← hw']; clear hw'
        clear hW0 hV0 hN y0 y1 y2 x0 x1 x2
        have q0 := blk_cell H.out.2.2.1 0; have q1 := blk_cell H.out.2.2.1 1; have q2 := blk_cell H.out.2.2.1 2; have g0 := blk_free H.out.2.2.1 0; have g1 := blk_free H.out.2.2.1 1; have g2 := blk_free H.out.2.2.1 2
        have p0 := blk_cell H.out.2.2.2.1 0; have p1 := blk_cell H.out.2.2.2.1 1; have p2 := blk_cell H.out.2.2.2.1 2
        go_wp2_with fail
        obtain ⟨b5, k5, r5, p5, a5, hN5, hlt5⟩ := H.out
        have kk := fun j => blk_cell (set3R (x := .bool false) (y := .int .u8 0) (z := .string ⟨#[]⟩) r5) j
        refine bodyPost_ret (res_three rfl rfl (Tryz.isAgg31 _) (Tryz.sizeOf31 _) (kk 0) (kk 1) (kk 2)) rfl ⟨by rw [← HRES.out, HC.out]; rfl, ?_⟩
        rw [← HRES.out, HC.out]
        exact XW.boxedZ (Z := fun k => k = N + 1) ⟨q, a5, Fr.refl _ _, fun _ hk _ => hk⟩ b5 hlt5 (fun k e => by have := blk_lt r5; omega) set3R_fr
      | true =>
        have hk2 : x.key ≠ [] := by rcases hk with e | e; cases e; exact e
        have hemp : (bs x.key).toList.isEmpty = false := str_ne (by rw [bs_size]; exact List.length_pos_iff.2 hk2)
        clear hk hk2
        obtain ⟨kb, hkb⟩ : ∃ kb, bs x.key = kb := ⟨_, rfl⟩
        rw [hkb] at hemp c5
        clear hkb
        go_enter Tryz.func35, Tryz.ntmps35
        go_wp2_with fail
        refine HK.out.mono ?_
        rintro e w' ⟨rfl, hw'⟩
        rw [← hw']; clear hw'
        clear hW0 hV0 hN y0 y1 y2 x0 x1 x2
        have q0 := blk_cell H.out.2.2.1 0; have q1 := blk_cell H.out.2.2.1 1; have q2 := blk_cell H.out.2.2.1 2; have g0 := blk_free H.out.2.2.1 0; have g1 := blk_free H.out.2.2.1 1; have g2 := blk_free H.out.2.2.1 2
        have p0 := blk_cell H.out.2.2.2.1 0; have p1 := blk_cell H.out.2.2.2.1 1; have p2 := blk_cell H.out.2.2.2.1 2
        go_wp2_with fail
        obtain ⟨b5, k5, r5, p5, a5, hN5, hlt5⟩ := H.out
        have kk := fun j => blk_cell (set3R (x := .bool false) (y := .int .u8 0) (z := .string ⟨#[]⟩) r5) j
        refine bodyPost_ret (res_three rfl rfl (Tryz.isAgg31 _) (Tryz.sizeOf31 _) (kk 0) (kk 1) (kk 2)) rfl ⟨by rw [← HRES.out, HC.out]; rfl, ?_⟩
        rw [← HRES.out, HC.out]
        exact XW.boxedZ (Z := fun k => k = N + 1) ⟨q, a5, Fr.refl _ _, fun _ hk _ => hk⟩ b5 hlt5 (fun k e => by have := blk_lt r5; omega) set3R_fr
    · have hkt : kp = true := by cases kp; exact absurd (.inl rfl) hk; rfl
      have hke : x.key = [] := by
        rcases Classical.em (x.key = []) with e | e
        · exact e
        · exact absurd (.inr e) hk
      have hc : keyX x true 107 arg = (⟨true, 107, arg, 0⟩, { x with key := arg }) := by unfold keyX; rw [if_pos rfl, if_neg (by rw [HKP.out]; exact hk)]
      have HC := Lib.hid hc
      subst hkt
      have hemp : (bs x.key).toList.isEmpty = true := str_em (by rw [hke]; rfl)
      clear hk hc hke
      obtain ⟨kb, hkb⟩ : ∃ kb, bs x.key = kb := ⟨_, rfl⟩
      rw [hkb] at hemp c5
      clear hkb
      obtain ⟨W7, hW7⟩ : ∃ W7, W0.setCell ⟨B, 5, none⟩ (.string ab) = W7 := ⟨_, rfl⟩
      have f7 : Fr (fun k => k = B) W0 W7 := by rw [← hW7]; exact Fr.setCell (X := fun k => k = B) (Fr.refl _ W0) ⟨B, 5, none⟩ rfl _
      have hBl : B < w.heap.size := H.out.2.2.2.2.2.2 B (.inl rfl)
      have hNe := H.out.2.2.2.2.2.1
      have k7 := f7.blk H.out.2.1 (by omega)
      have r7 := f7.blk H.out.2.2.1 (by omega)
      have a7 : RxAt base B q { x with key := arg } W7 := H.out.2.2.2.2.1.toF (by rw [← hW7, ← HAB.out]; exact blk_set H.out.2.2.2.2.1.1 5 _) rfl rfl rfl f7
      have H7 := Lib.hid (And.intro a7 (And.intro r7 f7))
      have e0 := blk_cell k7 0; have e1 := blk_cell k7 1; have e2 := blk_cell k7 2
      have t0 := blk_cell r7 0; have t1 := blk_cell r7 1; have t3 := blk_cell r7 2; have u0 := blk_free r7 0; have u1 := blk_free r7 1; have u2 := blk_free r7 2
      have v0 := blk_cell H.out.2.2.2.2.1.1 5; have v1 := blk_free H.out.2.2.2.2.1.1 5
      clear f7 hBl hNe k7 r7 a7
      go_enter Tryz.func35, Tryz.ntmps35
      go_wp2_with fail
      refine HK.out.mono ?_
      rintro e w' ⟨rfl, hw'⟩
      rw [← hw']; clear hw'
      clear hW0 hV0 hN y0 y1 y2 x0 x1 x2
      go_wp2_with fail
      obtain ⟨a7, r7, f7⟩ := H7.out
      have hNe := H.out.2.2.2.2.2.1
      have kk := fun j => blk_cell (set3R (x := .bool true) (y := .int .u8 107) (z := .string ab) r7) j
      refine bodyPost_ret (res_three rfl rfl (Tryz.isAgg31 _) (Tryz.sizeOf31 _) (kk 0) (kk 1) (kk 2)) rfl ⟨by rw [← HRES.out, HC.out, ← HAB.out]; rfl, ?_⟩
      rw [← HRES.out, HC.out]
      exact XW.boxedZ (W := W0) (Z := fun k => k = N + 1) ⟨q, a7, f7.mono fun k _ e => .inl e, fun _ hk _ => hk⟩ H.out.1 H.out.2.2.2.2.2.2 (fun k e => by have := blk_lt H.out.2.2.1; omega) set3R_fr
  | false =>
    cases hke : x.key with
    | nil =>
      have hc : keyX x false 107 arg = (noT 0, x) := by unfold keyX; rw [if_neg (by simp), if_pos hke]
      have HC := Lib.hid hc
      have hemp : (bs x.key).toList.isEmpty = true := str_em (by rw [hke]; rfl)
      clear hc hke
      obtain ⟨kb, hkb⟩ : ∃ kb, bs x.key = kb := ⟨_, rfl⟩
      rw [hkb] at hemp c5
      clear hkb
      have q0 := blk_cell H.out.2.2.1 0; have q1 := blk_cell H.out.2.2.1 1; have q2 := blk_cell H.out.2.2.1 2; have g0 := blk_free H.out.2.2.1 0; have g1 := blk_free H.out.2.2.1 1; have g2 := blk_free H.out.2.2.1 2
      have p0 := blk_cell H.out.2.2.2.1 0; have p1 := blk_cell H.out.2.2.2.1 1; have p2 := blk_cell H.out.2.2.2.1 2
      go_enter Tryz.func35, Tryz.ntmps35
      go_wp2_with fail
      clear hW0 hV0 hN y0 y1 y2 x0 x1 x2
      obtain ⟨b5, k5, r5, p5, a5, hN5, hlt5⟩ := H.out
      have kk := fun j => blk_cell (set3R (x := .bool false) (y := .int .u8 0) (z := .string ⟨#[]⟩) r5) j
      refine bodyPost_ret (res_three rfl rfl (Tryz.isAgg31 _) (Tryz.sizeOf31 _) (kk 0) (kk 1) (kk 2)) rfl ⟨by rw [← HRES.out, HC.out]; rfl, ?_⟩
      rw [← HRES.out, HC.out]
      exact XW.boxedZ (Z := fun k => k = N + 1) ⟨q, a5, Fr.refl _ _, fun _ hk _ => hk⟩ b5 hlt5 (fun k e => by have := blk_lt r5; omega) set3R_fr
    | cons k1 ks =>
      have hc : keyX x false 107 arg = (⟨false, 107, [42], 0⟩, { x with key := [] }) := by unfold keyX; rw [if_neg (by simp), if_neg (by rw [hke]; simp)]
      have HC := Lib.hid hc
      have hemp : (bs x.key).toList.isEmpty = false := str_ne (by rw [hke, bs_size]; simp)
      clear hc hke
      obtain ⟨kb, hkb⟩ : ∃ kb, bs x.key = kb := ⟨_, rfl⟩
      rw [hkb] at hemp c5
      clear hkb
      obtain ⟨W7, hW7⟩ : ∃ W7, W0.setCell ⟨B, 5, none⟩ (.string ⟨#[]⟩) = W7 := ⟨_, rfl⟩
      have f7 : Fr (fun k => k = B) W0 W7 := by rw [← hW7]; exact Fr.setCell (X := fun k => k = B) (Fr.refl _ W0) ⟨B, 5, none⟩ rfl _
      have hBl : B < w.heap.size := H.out.2.2.2.2.2.2 B (.inl rfl)
      have hNe := H.out.2.2.2.2.2.1
      have k7 := f7.blk H.out.2.1 (by omega)
      have r7 := f7.blk H.out.2.2.1 (by omega)
      have a7 : RxAt base B q { x with key := [] } W7 := H.out.2.2.2.2.1.toF (by rw [← hW7]; exact blk_set H.out.2.2.2.2.1.1 5 _) rfl rfl rfl f7
      have H7 := Lib.hid (And.intro a7 (And.intro r7 f7))
      have e0 := blk_cell k7 0; have e1 := blk_cell k7 1; have e2 := blk_cell k7 2
      have t0 := blk_cell r7 0; have t1 := blk_cell r7 1; have t3 := blk_cell r7 2; have u0 := blk_free r7 0; have u1 := blk_free r7 1; have u2 := blk_free r7 2
      have v0 := blk_cell H.out.2.2.2.2.1.1 5; have v1 := blk_free H.out.2.2.2.2.1.1 5
      clear f7 hBl hNe k7 r7 a7
      go_enter Tryz.func35, Tryz.ntmps35
      go_wp2_with fail
      clear hW0 hV0 hN y0 y1 y2 x0 x1 x2
      obtain ⟨a7, r7, f7⟩ := H7.out
      have hNe := H.out.2.2.2.2.2.1
      have kk := fun j => blk_cell (set3R (x := .bool false) (y := .int .u8 107) (z := .string ⟨#[42]⟩) r7) j
      refine bodyPost_ret (res_three rfl rfl (Tryz.isAgg31 _) (Tryz.sizeOf31 _) (kk 0) (kk 1) (kk 2)) rfl ⟨by rw [← HRES.out, HC.out]; rfl, ?_⟩
      rw [← HRES.out, HC.out]
      exact XW.boxedZ (W := W0) (Z := fun k => k = N + 1) ⟨q, a7, f7.mono fun k _ e => .inl e, fun _ hk _ => hk⟩ H.out.1 H.out.2.2.2.2.2.2 (fun k e => by have := blk_lt H.out.2.2.1; omega) set3R_fr
set_option maxRecDepth 100000 in
set_option maxHeartbeats 16000000 in
theorem refChange_L {base B : Nat} {q : RxV} {x : Rx} {w : World} (h : RxAt base B q x w) (on : Bool) (arg : List UInt8) (id : Int) (ha : arg.length ≤ 1000000) :
    Calls Tryz.prog 35 #[.pointer (some ⟨B, 0, none⟩), chgV on 108 arg, .int .i64 id] w fun e w' => e = .returned (limX x on 108 arg).1.val ∧ XW base B q (limX x on 108 arg).2 w w' := by
  obtain ⟨N, hN⟩ : ∃ N, w.heap.size = N := ⟨_, rfl⟩
  obtain ⟨ab, hab⟩ : ∃ ab, bs arg = ab := ⟨_, rfl⟩
  have hcv : chgV on 108 arg = .agg #[.bool on, .int .u8 108, .string ab] := by rw [← hab]; rfl
  rw [hcv]
  obtain ⟨res, hres⟩ : ∃ res, limX x on 108 arg = res := ⟨_, rfl⟩
  rw [hres]
  obtain ⟨V0, hV0⟩ : ∃ V0, (((w.alloc (.cells #[.bool on, .int .u8 108, .string ab] 31)).alloc (.cells #[.bool false, .int .u8 0, .string ⟨#[]⟩] 31)).alloc (.cells #[.bool false, .int .u8 0, .string ⟨#[]⟩] 31)) = V0 := ⟨_, rfl⟩
  have b0 : RowKit.Below w.heap.size w V0 := by rw [← hV0]; exact (((Below.refl _ w).alloc (Nat.le_refl _) _).alloc (by simp) _).alloc (by simp; omega) _
  have k0 : V0.heap[N]? = some (.cells #[.bool on, .int .u8 108, .string ab] 31 (0, 0)) := by rw [← hV0, ← hN]; exact blk_alloc (blk_alloc (heap_alloc_new w _) _) _
  have k1 : V0.heap[N + 1]? = some (.cells #[.bool false, .int .u8 0, .string ⟨#[]⟩] 31 (0, 0)) := by rw [← hV0, ← hN]; exact blk_alloc (heap_alloc2_new w _ _) _
  have k2 : V0.heap[N + 1 + 1]? = some (.cells #[.bool false, .int .u8 0, .string ⟨#[]⟩] 31 (0, 0)) := by
    rw [← hV0, ← hN]
    have := heap_alloc2_new (w.alloc (.cells #[.bool on, .int .u8 108, .string ab] 31)) (.cells #[.bool false, .int .u8 0, .string ⟨#[]⟩] 31) (.cells #[.bool false, .int .u8 0, .string ⟨#[]⟩] 31)
    rwa [World.size_alloc] at this
  have y0 := blk_cell k2 0; have y1 := blk_cell k2 1; have y2 := blk_cell k2 2; have x0 := blk_free k2 0; have x1 := blk_free k2 1; have x2 := blk_free k2 2
  obtain ⟨W0, hW0⟩ : ∃ W0, (((V0.setCell ⟨N + 1 + 1, 0, none⟩ (.bool false)).setCell ⟨N + 1 + 1, 1, none⟩ (.int .u8 0)).setCell ⟨N + 1 + 1, 2, none⟩ (.string ⟨#[]⟩)) = W0 := ⟨_, rfl⟩
  have fV : Fr (fun k => k = N + 1 + 1) V0 W0 := by rw [← hW0]; exact set3R_fr
  have b0 : RowKit.Below w.heap.size w W0 := b0.trans (fV.below (B := w.heap.size) b0.size fun k hk e => by omega)
  have k0 := fV.blk k0 (by omega)
  have k1 := fV.blk k1 (by omega)
  have k2 : W0.heap[N + 1 + 1]? = some (.cells #[.bool false, .int .u8 0, .string ⟨#[]⟩] 31 (0, 0)) := by rw [← hW0]; exact set3R k2
  clear fV
  have h0 := h.below b0
  have hlt : ∀ k, RxX B q k → k < w.heap.size := fun k hk => (h.lt k hk).2
  have HRES := Lib.hid hres
  have HAB := Lib.hid hab
  have H := Lib.hid (And.intro b0 (And.intro k0 (And.intro k1 (And.intro k2 (And.intro h0 (And.intro hN hlt))))))
  have HW := Lib.hid hW0
  have hL := numberR_any ab W0 (by rw [← hab]; simpa using ha)
  unfold LimP at hL
  have hl0 : limL ab.data.toList = limL arg := by rw [← hab]; rfl
  rw [hl0] at hL
  obtain ⟨nl, hnl⟩ : ∃ nl, limL arg = nl := ⟨_, rfl⟩
  rw [hnl] at hL
  have HL := Lib.hid hL
  have HNL := Lib.hid hnl
  have z0 := blk_cell k0 0; have z1 := blk_cell k0 1; have z2 := blk_cell k0 2; have zf := blk_free k0 2
  have c6 : W0.cell? ⟨B, 6, none⟩ = some (.int .i64 x.lim) := blk_cell h0.1 6
  clear h h0 k0 k1 k2 hlt hres hab hcv hL hnl hl0 ha
  obtain ⟨m, hm⟩ : ∃ m, x.lim = m := ⟨_, rfl⟩
  have HM := Lib.hid hm
  rw [hm] at c6
  clear hm
  cases on with
  | true =>
    obtain ⟨ni, hni⟩ : ∃ ni : Int, (nl : Int) = ni := ⟨_, rfl⟩
    rw [hni] at HL
    have HNI := Lib.hid hni
    by_cases h1 : nl = 0
    · have hc : limX x true 108 arg = (noT 0, x) := by unfold limX; rw [if_pos rfl, if_pos (.inl (by rw [HNL.out]; exact h1))]
      have HC := Lib.hid hc
      have he : (ni == 0) = true := by rw [← hni, h1]; rfl
      clear hc h1 hni
      go_enter Tryz.func35, Tryz.ntmps35
      go_wp2_with fail
      refine HL.out.mono ?_
      rintro e W5 ⟨rfl, hb5⟩
      clear hW0 hV0 hN y0 y1 y2 x0 x1 x2 z0 z1 z2 zf c6
      have f5 := Fr.of_below (X := fun _ => False) hb5
      have H5 := Lib.hid (And.intro (H.out.1.trans (hb5.mono H.out.1.size)) (And.intro (f5.blk H.out.2.1 fun e => e) (And.intro (f5.blk H.out.2.2.1 fun e => e) (And.intro (f5.blk H.out.2.2.2.1 fun e => e) (And.intro (H.out.2.2.2.2.1.below hb5) H.out.2.2.2.2.2)))))
      clear hb5 f5 H HL HW
      have z0 := blk_cell H5.out.2.1 0
      have q0 := blk_cell H5.out.2.2.1 0; have q1 := blk_cell H5.out.2.2.1 1; have q2 := blk_cell H5.out.2.2.1 2; have g0 := blk_free H5.out.2.2.1 0; have g1 := blk_free H5.out.2.2.1 1; have g2 := blk_free H5.out.2.2.1 2
      have p0 := blk_cell H5.out.2.2.2.1 0; have p1 := blk_cell H5.out.2.2.2.1 1; have p2 := blk_cell H5.out.2.2.2.1 2
      go_wp2_with fail
      obtain ⟨b5, k5, r5, p5, a5, hN5, hlt5⟩ := H5.out
      have kk := fun j => blk_cell (set3R (x := .bool false) (y := .int .u8 0) (z := .string ⟨#[]⟩) r5) j
      refine bodyPost_ret (res_three rfl rfl (Tryz.isAgg31 _) (Tryz.sizeOf31 _) (kk 0) (kk 1) (kk 2)) rfl ⟨by rw [← HRES.out, HC.out]; rfl, ?_⟩
      rw [← HRES.out, HC.out]
      exact XW.boxedZ (Z := fun k => k = N + 1) ⟨q, a5, Fr.refl _ _, fun _ hk _ => hk⟩ b5 hlt5 (fun k e => by have := blk_lt r5; omega) set3R_fr
    · have he : (ni == 0) = false := by apply beq_false_of_ne; omega
      by_cases h2 : (nl : Int) = m
      · have hc : limX x true 108 arg = (noT 0, x) := by unfold limX; rw [if_pos rfl, if_pos (.inr (by rw [HNL.out, HM.out]; exact h2))]
        have HC := Lib.hid hc
        have he2 : (ni == m) = true := by rw [beq_iff_eq]; omega
        clear hc h1 h2 hni
        go_enter Tryz.func35, Tryz.ntmps35
        go_wp2_with fail
        refine HL.out.mono ?_
        rintro e W5 ⟨rfl, hb5⟩
        clear hW0 hV0 hN y0 y1 y2 x0 x1 x2 z0 z1 z2 zf c6
        have f5 := Fr.of_below (X := fun _ => False) hb5
        have H5 := Lib.hid (And.intro (H.out.1.trans (hb5.mono H.out.1.size)) (And.intro (f5.blk H.out.2.1 fun e => e) (And.intro (f5.blk H.out.2.2.1 fun e => e) (And.intro (f5.blk H.out.2.2.2.1 fun e => e) (And.intro (H.out.2.2.2.2.1.below hb5) H.out.2.2.2.2.2)))))
        clear hb5 f5 H HL HW
        have z0 := blk_cell H5.out.2.1 0
        have q0 := blk_cell H5.out.2.2.1 0; have q1 := blk_cell H5.out.2.2.1 1; have q2 := blk_cell H5.out.2.2.1 2; have g0 := blk_free H5.out.2.2.1 0; have g1 := blk_free H5.out.2.2.1 1; have g2 := blk_free H5.out.2.2.1 2
        have p0 := blk_cell H5.out.2.2.2.1 0; have p1 := blk_cell H5.out.2.2.2.1 1; have p2 := blk_cell H5.out.2.2.2.1 2
        have c6 : W5.cell? ⟨B, 6, none⟩ = some (.int .i64 m) := by rw [← HM.out]; exact blk_cell H5.out.2.2.2.2.1.1 6
        go_wp2_with fail
        obtain ⟨b5, k5, r5, p5, a5, hN5, hlt5⟩ := H5.out
        have kk := fun j => blk_cell (set3R (x := .bool false) (y := .int .u8 0) (z := .string ⟨#[]⟩) r5) j
        refine bodyPost_ret (res_three rfl rfl (Tryz.isAgg31 _) (Tryz.sizeOf31 _) (kk 0) (kk 1) (kk 2)) rfl ⟨by rw [← HRES.out, HC.out]; rfl, ?_⟩
        rw [← HRES.out, HC.out]
        exact XW.boxedZ (Z := fun k => k = N + 1) ⟨q, a5, Fr.refl _ _, fun _ hk _ => hk⟩ b5 hlt5 (fun k e => by have := blk_lt r5; omega) set3R_fr
      · have hc : limX x true 108 arg = (⟨true, 108, arg, 0⟩, { x with lim := limL arg }) := by unfold limX; rw [if_pos rfl, if_neg (by rw [HNL.out, HM.out]; rintro (e | e); exact h1 e; exact h2 e)]
        have HC := Lib.hid hc
        have he2 : (ni == m) = false := by apply beq_false_of_ne; omega
        clear hc h1 h2 hni
        go_enter Tryz.func35, Tryz.ntmps35
        go_wp2_with fail
        refine HL.out.mono ?_
        rintro e W5 ⟨rfl, hb5⟩
        clear hW0 hV0 hN y0 y1 y2 x0 x1 x2 z0 z1 z2 zf c6
        have f5 := Fr.of_below (X := fun _ => False) hb5
        have H5 := Lib.hid (And.intro (H.out.1.trans (hb5.mono H.out.1.size)) (And.intro (f5.blk H.out.2.1 fun e => e) (And.intro (f5.blk H.out.2.2.1 fun e => e) (And.intro (f5.blk H.out.2.2.2.1 fun e => e) (And.intro (H.out.2.2.2.2.1.below hb5) H.out.2.2.2.2.2)))))
        clear hb5 f5 H HL HW
        have z0 := blk_cell H5.out.2.1 0
        have c6 : W5.cell? ⟨B, 6, none⟩ = some (.int .i64 m) := by rw [← HM.out]; exact blk_cell H5.out.2.2.2.2.1.1 6
        have H := H5
        obtain ⟨W7, hW7⟩ : ∃ W7, W5.setCell ⟨B, 6, none⟩ (.int .i64 ni) = W7 := ⟨_, rfl⟩
        have f7 : Fr (fun k => k = B) W5 W7 := by rw [← hW7]; exact Fr.setCell (X := fun k => k = B) (Fr.refl _ W5) ⟨B, 6, none⟩ rfl _
        have hBl : B < w.heap.size := H.out.2.2.2.2.2.2 B (.inl rfl)
        have hNe := H.out.2.2.2.2.2.1
        have k7 := f7.blk H.out.2.1 (by omega)
        have r7 := f7.blk H.out.2.2.1 (by omega)
        have a7 : RxAt base B q { x with lim := limL arg } W7 := H.out.2.2.2.2.1.toF (by rw [← hW7, ← HNI.out, ← HNL.out]; exact blk_set H.out.2.2.2.2.1.1 6 _) rfl rfl rfl f7
        have H7 := Lib.hid (And.intro a7 (And.intro r7 f7))
        have e0 := blk_cell k7 0; have e1 := blk_cell k7 1; have e2 := blk_cell k7 2
        have t0 := blk_cell r7 0; have t1 := blk_cell r7 1; have t3 := blk_cell r7 2; have u0 := blk_free r7 0; have u1 := blk_free r7 1; have u2 := blk_free r7 2
        have v0 := blk_cell H.out.2.2.2.2.1.1 6; have v1 := blk_free H.out.2.2.2.2.1.1 6
        clear f7 hBl hNe k7 r7 a7
        go_wp2_with fail
        obtain ⟨a7, r7, f7⟩ := H7.out
        have hNe := H.out.2.2.2.2.2.1
        have kk := fun j => blk_cell (set3R (x := .bool true) (y := .int .u8 108) (z := .string ab) r7) j
        refine bodyPost_ret (res_three rfl rfl (Tryz.isAgg31 _) (Tryz.sizeOf31 _) (kk 0) (kk 1) (kk 2)) rfl ⟨by rw [← HRES.out, HC.out, ← HAB.out]; rfl, ?_⟩
        rw [← HRES.out, HC.out]
        exact XW.boxedZ (W := W5) (Z := fun k => k = N + 1) ⟨q, a7, f7.mono fun k _ e => .inl e, fun _ hk _ => hk⟩ H.out.1 H.out.2.2.2.2.2.2 (fun k e => by have := blk_lt H.out.2.2.1; omega) set3R_fr
  | false =>
    obtain ⟨W1, hW1⟩ : ∃ W1, W0.setCell ⟨N, 2, none⟩ (.string ⟨#[]⟩) = W1 := ⟨_, rfl⟩
    have f1 : Fr (fun k => k = N) W0 W1 := by rw [← hW1]; exact Fr.setCell (X := fun k => k = N) (Fr.refl _ W0) ⟨N, 2, none⟩ rfl _
    have hNe := H.out.2.2.2.2.2.1
    have kN1 : W1.heap[N]? = some (.cells #[.bool false, .int .u8 108, .string ⟨#[]⟩] 31 (0, 0)) := by rw [← hW1]; exact blk_set H.out.2.1 2 _
    have H1 := Lib.hid (And.intro (H.out.1.trans (f1.below (B := w.heap.size) H.out.1.size fun k hk e => by omega)) (And.intro kN1 (And.intro (f1.blk H.out.2.2.1 (by omega)) (And.intro (f1.blk H.out.2.2.2.1 (by omega)) (And.intro (H.out.2.2.2.2.1.fr f1 fun k hk e => by have := H.out.2.2.2.2.2.2 k hk; omega) H.out.2.2.2.2.2)))))
    have c61 : W1.cell? ⟨B, 6, none⟩ = some (.int .i64 m) := by rw [← HM.out]; exact blk_cell H1.out.2.2.2.2.1.1 6
    clear f1 hNe kN1 HL
    by_cases h2 : 0 = m
    · have hc : limX x false 108 arg = (noT 0, x) := by unfold limX; rw [if_neg (by simp), if_pos (by rw [HM.out]; exact h2)]
      have HC := Lib.hid hc
      have he2 : ((0 : Int) == m) = true := by rw [beq_iff_eq]; omega
      clear hc h2
      have q0 := blk_cell H1.out.2.2.1 0; have q1 := blk_cell H1.out.2.2.1 1; have q2 := blk_cell H1.out.2.2.1 2; have g0 := blk_free H1.out.2.2.1 0; have g1 := blk_free H1.out.2.2.1 1; have g2 := blk_free H1.out.2.2.1 2
      have p0 := blk_cell H1.out.2.2.2.1 0; have p1 := blk_cell H1.out.2.2.2.1 1; have p2 := blk_cell H1.out.2.2.2.1 2
      go_enter Tryz.func35, Tryz.ntmps35
      go_wp2_with fail
      clear hW0 hV0 hN y0 y1 y2 x0 x1 x2
      obtain ⟨b5, k5, r5, p5, a5, hN5, hlt5⟩ := H1.out
      have kk := fun j => blk_cell (set3R (x := .bool false) (y := .int .u8 0) (z := .string ⟨#[]⟩) r5) j
      refine bodyPost_ret (res_three rfl rfl (Tryz.isAgg31 _) (Tryz.sizeOf31 _) (kk 0) (kk 1) (kk 2)) rfl ⟨by rw [← HRES.out, HC.out]; rfl, ?_⟩
      rw [← HRES.out, HC.out]
      exact XW.boxedZ (Z := fun k => k = N + 1) ⟨q, a5, Fr.refl _ _, fun _ hk _ => hk⟩ b5 hlt5 (fun k e => by have := blk_lt r5; omega) set3R_fr
    · have hc : limX x false 108 arg = (⟨false, 108, [], 0⟩, { x with lim := 0 }) := by unfold limX; rw [if_neg (by simp), if_neg (by rw [HM.out]; exact h2)]
      have HC := Lib.hid hc
      have he2 : ((0 : Int) == m) = false := by apply beq_false_of_ne; omega
      clear hc h2 z0 z1
      have HOLD := Lib.hid H
      have H := H1
      obtain ⟨W7, hW7⟩ : ∃ W7, W1.setCell ⟨B, 6, none⟩ (.int .i64 0) = W7 := ⟨_, rfl⟩
      have f7 : Fr (fun k => k = B) W1 W7 := by rw [← hW7]; exact Fr.setCell (X := fun k => k = B) (Fr.refl _ W1) ⟨B, 6, none⟩ rfl _
      have hBl : B < w.heap.size := H.out.2.2.2.2.2.2 B (.inl rfl)
      have hNe := H.out.2.2.2.2.2.1
      have k7 := f7.blk H.out.2.1 (by omega)
      have r7 := f7.blk H.out.2.2.1 (by omega)
      have a7 : RxAt base B q { x with lim := 0 } W7 := H.out.2.2.2.2.1.toF (by rw [← hW7]; exact blk_set H.out.2.2.2.2.1.1 6 _) rfl rfl rfl f7
      have H7 := Lib.hid (And.intro a7 (And.intro r7 f7))
      have e0 := blk_cell k7 0; have e1 := blk_cell k7 1; have e2 := blk_cell k7 2
      have t0 := blk_cell r7 0; have t1 := blk_cell r7 1; have t3 := blk_cell r7 2; have u0 := blk_free r7 0; have u1 := blk_free r7 1; have u2 := blk_free r7 2
      have v0 := blk_cell H.out.2.2.2.2.1.1 6; have v1 := blk_free H.out.2.2.2.2.1.1 6
      clear f7 hBl hNe k7 r7 a7
      go_enter Tryz.func35, Tryz.ntmps35
      have z0 := blk_cell HOLD.out.out.2.1 0; have z1 := blk_cell HOLD.out.out.2.1 1
      go_wp2_with fail
      clear hW0 hV0 hN y0 y1 y2 x0 x1 x2
      obtain ⟨a7, r7, f7⟩ := H7.out
      have hNe := H.out.2.2.2.2.2.1
      have kk := fun j => blk_cell (set3R (x := .bool false) (y := .int .u8 108) (z := .string ⟨#[]⟩) r7) j
      refine bodyPost_ret (res_three rfl rfl (Tryz.isAgg31 _) (Tryz.sizeOf31 _) (kk 0) (kk 1) (kk 2)) rfl ⟨by rw [← HRES.out, HC.out]; rfl, ?_⟩
      rw [← HRES.out, HC.out]
      exact XW.boxedZ (W := W1) (Z := fun k => k = N + 1) ⟨q, a7, f7.mono fun k _ e => .inl e, fun _ hk _ => hk⟩ H.out.1 H.out.2.2.2.2.2.2 (fun k e => by have := blk_lt H.out.2.2.1; omega) set3R_fr
set_option maxRecDepth 100000 in
set_option maxHeartbeats 16000000 in
theorem refChange_B {base B : Nat} {q : RxV} {x : Rx} {w : World} (h : RxAt base B q x w) (on : Bool) (arg : List UInt8) (id : Int) (ha : arg.length ≤ 100000) (hbl0 : x.bans.length ≤ 100000) (hbx : ∀ y ∈ x.bans, y.length ≤ 1000000) :
    Calls Tryz.prog 35 #[.pointer (some ⟨B, 0, none⟩), chgV on 98 arg, .int .i64 id] w fun e w' => e = .returned (banX x on arg).1.val ∧ XW base B q (banX x on arg).2 w w' := by
  obtain ⟨N, hN⟩ : ∃ N, w.heap.size = N := ⟨_, rfl⟩
  obtain ⟨ab, hab⟩ : ∃ ab, bs arg = ab := ⟨_, rfl⟩
  have hcv : chgV on 98 arg = .agg #[.bool on, .int .u8 98, .string ab] := by rw [← hab]; rfl
  rw [hcv]
  obtain ⟨res, hres⟩ : ∃ res, banX x on arg = res := ⟨_, rfl⟩
  rw [hres]
  obtain ⟨V0, hV0⟩ : ∃ V0, (((w.alloc (.cells #[.bool on, .int .u8 98, .string ab] 31)).alloc (.cells #[.bool false, .int .u8 0, .string ⟨#[]⟩] 31)).alloc (.cells #[.bool false, .int .u8 0, .string ⟨#[]⟩] 31)) = V0 := ⟨_, rfl⟩
  have b0 : RowKit.Below w.heap.size w V0 := by rw [← hV0]; exact (((Below.refl _ w).alloc (Nat.le_refl _) _).alloc (by simp) _).alloc (by simp; omega) _
  have k0 : V0.heap[N]? = some (.cells #[.bool on, .int .u8 98, .string ab] 31 (0, 0)) := by rw [← hV0, ← hN]; exact blk_alloc (blk_alloc (heap_alloc_new w _) _) _
  have k1 : V0.heap[N + 1]? = some (.cells #[.bool false, .int .u8 0, .string ⟨#[]⟩] 31 (0, 0)) := by rw [← hV0, ← hN]; exact blk_alloc (heap_alloc2_new w _ _) _
  have k2 : V0.heap[N + 1 + 1]? = some (.cells #[.bool false, .int .u8 0, .string ⟨#[]⟩] 31 (0, 0)) := by
    rw [← hV0, ← hN]
    have := heap_alloc2_new (w.alloc (.cells #[.bool on, .int .u8 98, .string ab] 31)) (.cells #[.bool false, .int .u8 0, .string ⟨#[]⟩] 31) (.cells #[.bool false, .int .u8 0, .string ⟨#[]⟩] 31)
    rwa [World.size_alloc] at this
  have y0 := blk_cell k2 0; have y1 := blk_cell k2 1; have y2 := blk_cell k2 2; have x0 := blk_free k2 0; have x1 := blk_free k2 1; have x2 := blk_free k2 2
  obtain ⟨W0, hW0⟩ : ∃ W0, (((V0.setCell ⟨N + 1 + 1, 0, none⟩ (.bool false)).setCell ⟨N + 1 + 1, 1, none⟩ (.int .u8 0)).setCell ⟨N + 1 + 1, 2, none⟩ (.string ⟨#[]⟩)) = W0 := ⟨_, rfl⟩
  have fV : Fr (fun k => k = N + 1 + 1) V0 W0 := by rw [← hW0]; exact set3R_fr
  have b0 : RowKit.Below w.heap.size w W0 := b0.trans (fV.below (B := w.heap.size) b0.size fun k hk e => by omega)
  have k0 := fV.blk k0 (by omega)
  have k1 := fV.blk k1 (by omega)
  have k2 : W0.heap[N + 1 + 1]? = some (.cells #[.bool false, .int .u8 0, .string ⟨#[]⟩] 31 (0, 0)) := by rw [← hW0]; exact set3R k2
  clear fV
  have h0 := h.below b0
  have hlt : ∀ k, RxX B q k → k < w.heap.size := fun k hk => (h.lt k hk).2
  have HRES := Lib.hid hres
  have HAB := Lib.hid hab
  have H := Lib.hid (And.intro b0 (And.intro k0 (And.intro k1 (And.intro k2 (And.intro h0 (And.intro hN hlt))))))
  have HW := Lib.hid hW0
  have hB := refBan_any h0 on 98 arg ha hbl0 hbx
  rw [hres] at hB
  have hcv2 : chgV on 98 arg = .agg #[.bool on, .int .u8 98, .string ab] := hcv
  rw [hcv2] at hB
  have HB := Lib.hid hB
  have z0 := blk_cell k0 0; have z1 := blk_cell k0 1; have z2 := blk_cell k0 2
  clear h h0 k0 k1 k2 hlt hab hcv hcv2 hB ha hbl0 hbx hres
  go_enter Tryz.func35, Tryz.ntmps35
  go_wp2_with fail
  refine HB.out.mono ?_
  rintro e w5 ⟨rfl, hx5⟩
  clear hW0 hV0 hN y0 y1 y2 x0 x1 x2 z0 z1 z2
  have hf : Fr (RxX B q) W0 w5 := by obtain ⟨_, _, b, _⟩ := hx5; exact b
  have r5 := hf.blk H.out.2.2.1 fun e => by have := H.out.2.2.2.2.2.2 _ e; have := H.out.2.2.2.2.2.1; omega
  have HX := Lib.hid (And.intro hx5 r5)
  have q0 := blk_cell r5 0; have q1 := blk_cell r5 1; have q2 := blk_cell r5 2; have g0 := blk_free r5 0; have g1 := blk_free r5 1; have g2 := blk_free r5 2
  clear hx5 hf r5
  obtain ⟨⟨on2, c2, arg2, code⟩, x2⟩ := res
  dsimp only [Told.val, chgV]
  go_wp2_with fail
  obtain ⟨hx5, r5⟩ := HX.out
  have kk := fun j => blk_cell (set3R (x := .bool on2) (y := .int .u8 c2.toNat) (z := .string (bs arg2)) r5) j
  refine bodyPost_ret (res_three rfl rfl (Tryz.isAgg31 _) (Tryz.sizeOf31 _) (kk 0) (kk 1) (kk 2)) rfl ⟨rfl, ?_⟩
  exact XW.boxedZ (Z := fun k => k = N + 1) hx5 H.out.1 H.out.2.2.2.2.2.2 (fun k e => by have := H.out.2.2.2.2.2.1; have := blk_lt H.out.2.2.1; omega) set3R_fr
set_option maxRecDepth 100000 in
set_option maxHeartbeats 16000000 in
theorem refChange_O {base B : Nat} {q : RxV} {x : Rx} {w : World} (h : RxAt base B q x w) (on : Bool) (c : UInt8) (arg : List UInt8) (id : Int) (hoc : Other19 c) :
    Calls Tryz.prog 35 #[.pointer (some ⟨B, 0, none⟩), chgV on c arg, .int .i64 id] w fun e w' => e = .returned (noT 472).val ∧ XW base B q x w w' := by
  obtain ⟨N, hN⟩ : ∃ N, w.heap.size = N := ⟨_, rfl⟩
  obtain ⟨ab, hab⟩ : ∃ ab, bs arg = ab := ⟨_, rfl⟩
  have hcv : chgV on c arg = .agg #[.bool on, .int .u8 c.toNat, .string ab] := by rw [← hab]; rfl
  rw [hcv]
  obtain ⟨res, hres⟩ : ∃ res, (noT 472, x) = res := ⟨_, rfl⟩
  obtain ⟨V0, hV0⟩ : ∃ V0, (((w.alloc (.cells #[.bool on, .int .u8 c.toNat, .string ab] 31)).alloc (.cells #[.bool false, .int .u8 0, .string ⟨#[]⟩] 31)).alloc (.cells #[.bool false, .int .u8 0, .string ⟨#[]⟩] 31)) = V0 := ⟨_, rfl⟩
  have b0 : RowKit.Below w.heap.size w V0 := by rw [← hV0]; exact (((Below.refl _ w).alloc (Nat.le_refl _) _).alloc (by simp) _).alloc (by simp; omega) _
  have k0 : V0.heap[N]? = some (.cells #[.bool on, .int .u8 c.toNat, .string ab] 31 (0, 0)) := by rw [← hV0, ← hN]; exact blk_alloc (blk_alloc (heap_alloc_new w _) _) _
  have k1 : V0.heap[N + 1]? = some (.cells #[.bool false, .int .u8 0, .string ⟨#[]⟩] 31 (0, 0)) := by rw [← hV0, ← hN]; exact blk_alloc (heap_alloc2_new w _ _) _
  have k2 : V0.heap[N + 1 + 1]? = some (.cells #[.bool false, .int .u8 0, .string ⟨#[]⟩] 31 (0, 0)) := by
    rw [← hV0, ← hN]
    have := heap_alloc2_new (w.alloc (.cells #[.bool on, .int .u8 c.toNat, .string ab] 31)) (.cells #[.bool false, .int .u8 0, .string ⟨#[]⟩] 31) (.cells #[.bool false, .int .u8 0, .string ⟨#[]⟩] 31)
    rwa [World.size_alloc] at this
  have y0 := blk_cell k2 0; have y1 := blk_cell k2 1; have y2 := blk_cell k2 2; have x0 := blk_free k2 0; have x1 := blk_free k2 1; have x2 := blk_free k2 2
  obtain ⟨W0, hW0⟩ : ∃ W0, (((V0.setCell ⟨N + 1 + 1, 0, none⟩ (.bool false)).setCell ⟨N + 1 + 1, 1, none⟩ (.int .u8 0)).setCell ⟨N + 1 + 1, 2, none⟩ (.string ⟨#[]⟩)) = W0 := ⟨_, rfl⟩
  have fV : Fr (fun k => k = N + 1 + 1) V0 W0 := by rw [← hW0]; exact set3R_fr
  have b0 : RowKit.Below w.heap.size w W0 := b0.trans (fV.below (B := w.heap.size) b0.size fun k hk e => by omega)
  have k0 := fV.blk k0 (by omega)
  have k1 := fV.blk k1 (by omega)
  have k2 : W0.heap[N + 1 + 1]? = some (.cells #[.bool false, .int .u8 0, .string ⟨#[]⟩] 31 (0, 0)) := by rw [← hW0]; exact set3R k2
  clear fV
  have h0 := h.below b0
  have hlt : ∀ k, RxX B q k → k < w.heap.size := fun k hk => (h.lt k hk).2
  have HRES := Lib.hid hres
  have HAB := Lib.hid hab
  have H := Lib.hid (And.intro b0 (And.intro k0 (And.intro k1 (And.intro k2 (And.intro h0 (And.intro hN hlt))))))
  have HW := Lib.hid hW0
  have ne : ∀ n : Nat, n < 256 → c ≠ UInt8.ofNat n → ((c.toNat : Int) == (n : Int)) = false := fun n hn e => by rw [u8_eqR c n hn]; exact decide_eq_false e
  obtain ⟨m1, m2, m3, m4, m5, m6, m7, m8, m9, m10⟩ := hoc
  have e1 : ((c.toNat : Int) == 105) = false := ne 105 (by decide) m1
  have e2 : ((c.toNat : Int) == 109) = false := ne 109 (by decide) m2
  have e3 : ((c.toNat : Int) == 110) = false := ne 110 (by decide) m3
  have e4 : ((c.toNat : Int) == 115) = false := ne 115 (by decide) m4
  have e5 : ((c.toNat : Int) == 116) = false := ne 116 (by decide) m5
  have e6 : ((c.toNat : Int) == 111) = false := ne 111 (by decide) m6
  have e7 : ((c.toNat : Int) == 118) = false := ne 118 (by decide) m7
  have e8 : ((c.toNat : Int) == 107) = false := ne 107 (by decide) m8
  have e9 : ((c.toNat : Int) == 108) = false := ne 108 (by decide) m9
  have e10 : ((c.toNat : Int) == 98) = false := ne 98 (by decide) m10
  have z0 := blk_cell k0 0; have z1 := blk_cell k0 1; have z2 := blk_cell k0 2
  have HC := Lib.hid hres
  clear h h0 k0 k1 k2 hlt hab hcv ne m1 m2 m3 m4 m5 m6 m7 m8 m9 m10 hres
  have q0 := blk_cell H.out.2.2.1 0; have q1 := blk_cell H.out.2.2.1 1; have q2 := blk_cell H.out.2.2.1 2; have g0 := blk_free H.out.2.2.1 0; have g1 := blk_free H.out.2.2.1 1; have g2 := blk_free H.out.2.2.1 2
  have p0 := blk_cell H.out.2.2.2.1 0; have p1 := blk_cell H.out.2.2.2.1 1; have p2 := blk_cell H.out.2.2.2.1 2
  go_enter Tryz.func35, Tryz.ntmps35
  go_wp2_with fail
  obtain ⟨b5, k5, r5, p5, a5, hN5, hlt5⟩ := H.out
  have kk := fun j => blk_cell (set3R (x := .bool false) (y := .int .u8 0) (z := .string ⟨#[]⟩) r5) j
  refine bodyPost_ret (res_three rfl rfl (Tryz.isAgg31 _) (Tryz.sizeOf31 _) (kk 0) (kk 1) (kk 2)) rfl ⟨rfl, ?_⟩
  exact XW.boxedZ (Z := fun k => k = N + 1) ⟨q, a5, Fr.refl _ _, fun _ hk _ => hk⟩ b5 hlt5 (fun k e => by have := blk_lt r5; omega) set3R_fr
/-- a change, for the document -/
noncomputable def chgX (x : Rx) (on : Bool) (c : UInt8) (arg : List UInt8) (id : Int) : Told × Rx :=
  if c = 105 ∨ c = 109 ∨ c = 110 ∨ c = 115 ∨ c = 116 then flX x on c
  else if c = 111 ∨ c = 118 then markX x on c arg id
  else if c = 107 then keyX x on c arg
  else if c = 108 then limX x on c arg
  else if c = 98 then banX x on arg
  else (noT 472, x)
theorem refChange_any {base B : Nat} {q : RxV} {x : Rx} {w : World} (h : RxAt base B q x w) (on : Bool) (c : UInt8) (arg : List UInt8) (id : Int) (ha : arg.length ≤ 100000) (hr : Rowed w) (hm : x.L.length ≤ 100000) (hbl : x.bans.length ≤ 100000) (hbx : ∀ y ∈ x.bans, y.length ≤ 1000000) (hol : x.on.length ≤ 100000) :
    Calls Tryz.prog 35 #[.pointer (some ⟨B, 0, none⟩), chgV on c arg, .int .i64 id] w fun e w' => e = .returned (chgX x on c arg id).1.val ∧ XW base B q (chgX x on c arg id).2 w w' := by
  unfold chgX
  by_cases h1 : c = 105 ∨ c = 109 ∨ c = 110 ∨ c = 115 ∨ c = 116
  · rw [if_pos h1]
    rcases h1 with rfl | rfl | rfl | rfl | rfl
    · exact refChange_F105 h on arg id hol
    · exact refChange_F109 h on arg id hol
    · exact refChange_F110 h on arg id hol
    · exact refChange_F115 h on arg id hol
    · exact refChange_F116 h on arg id hol
  · rw [if_neg h1]
    by_cases h2 : c = 111 ∨ c = 118
    · rw [if_pos h2]
      rcases h2 with rfl | rfl
      · exact refChange_M111 h on arg id hm
      · exact refChange_M118 h on arg id hm
    · rw [if_neg h2]
      by_cases h3 : c = 107
      · rw [if_pos h3]; subst h3
        exact refChange_K h on arg id (by omega) hr
      · rw [if_neg h3]
        by_cases h4 : c = 108
        · rw [if_pos h4]; subst h4
          exact refChange_L h on arg id (by omega)
        · rw [if_neg h4]
          by_cases h5 : c = 98
          · rw [if_pos h5]; subst h5
            exact refChange_B h on arg id ha hbl hbx
          · rw [if_neg h5]
            exact refChange_O h on c arg id ⟨fun e => h1 (.inl e), fun e => h1 (.inr (.inl e)), fun e => h1 (.inr (.inr (.inl e))), fun e => h1 (.inr (.inr (.inr (.inl e)))), fun e => h1 (.inr (.inr (.inr (.inr e)))), fun e => h2 (.inl e), fun e => h2 (.inr e), h3, h4, h5⟩
end Go.Proofs.YtmgnhbihfgpccaaGreatDoor
end
section
/- Layer 19: mathematics: the program's room and the document's, step by step. -/
namespace Go.Proofs.YtmgnhbihfgpccaaGreatDoor
open Go Go.RowKit

/-- no two bans are alike -/
def ApB (l : List (List UInt8)) : Prop := l.Pairwise fun a b => sameF a b = false
/-- both rooms say the same -/
structure Rel19 (k : Nat) (r : Rm) (x : Rx) : Prop where
  nm : x.nm = r.nm
  mb : x.mb = r.mb
  mem : r.mem.Perm x.L
  up : UpM r.mem
  tp : x.tp = r.tp
  on : ∀ c, x.on.contains c = r.fl.has c
  key : x.key = r.key
  lim : x.lim = (r.lim : Int)
  bans : x.bans = r.bans
  ap : ApB r.bans
  s1 : r.mem.length ≤ k
  s2 : r.bans.length ≤ k
  s3 : x.on.length ≤ k + 2
  s4 : r.inv.length ≤ k
  s5 : x.gs.length ≤ k
  s6 : r.key.length ≤ 250
  s7 : r.tp.length ≤ 200
  s8 : ∀ b ∈ r.bans, b.length ≤ 100
  s9 : r.lim < 10000
theorem Rel19.more {k : Nat} {r : Rm} {x : Rx} (h : Rel19 k r x) : Rel19 (k + 1) r x :=
  ⟨h.nm, h.mb, h.mem, h.up, h.tp, h.on, h.key, h.lim, h.bans, h.ap, Nat.le_succ_of_le h.s1, Nat.le_succ_of_le h.s2, Nat.le_succ_of_le h.s3, Nat.le_succ_of_le h.s4, Nat.le_succ_of_le h.s5, h.s6, h.s7, h.s8, h.s9⟩
theorem Rel19.has {k : Nat} {r : Rm} {x : Rx} (h : Rel19 k r x) (id : Int) : hasM r.mem id = decide (0 ≤ atM x.L id) := by
  rw [hasM_perm h.mem]
  cases hh : hasM x.L id with
  | false => have := atM_no.2 hh; rw [decide_eq_false (by omega)]
  | true => rw [decide_eq_true]; rcases Int.lt_or_le (atM x.L id) 0 with c | c
            · rw [atM_no, hh] at c; cases c
            · exact c
theorem last_ix {l : List (List UInt8)} (ha : ApB l) (m : List UInt8) : ∀ k, k ≤ l.length → lastB l m k = if 0 ≤ ixB l m ∧ ixB l m < k then ixB l m else -1
  | 0, _ => by rw [if_neg (by omega)]; rfl
  | k + 1, hk => by
    have ih := last_ix ha m k (by omega)
    have hg : l.getD k [] = l[k] := by rw [List.getD_eq_getElem?_getD, List.getElem?_eq_getElem (by omega)]; rfl
    unfold lastB
    rw [hg]
    cases hs : sameF l[k] m with
    | true =>
      rw [if_pos rfl]
      have hix : ixB l m = k := ixB_first (by omega) hs fun j hj => by
        cases hj2 : sameF (l[j]'(by omega)) m with
        | false => rfl
        | true =>
          have h1 := List.pairwise_iff_getElem.1 ha j k (by omega) (by omega) hj
          rw [sameF_iff] at hs hj2
          have h2 : sameF (l[j]'(by omega)) l[k] = true := by rw [sameF_iff, hj2, hs]
          rw [h1] at h2; cases h2
      rw [hix, if_pos (by omega)]
    | false =>
      rw [if_neg (by simp), ih]
      by_cases h0 : 0 ≤ ixB l m
      · obtain ⟨j, hj⟩ : ∃ j : Nat, ixB l m = j := ⟨(ixB l m).toNat, by omega⟩
        obtain ⟨h1, h2, _⟩ := ixB_yes hj
        have hne : j ≠ k := by rintro rfl; rw [hs] at h2; cases h2
        by_cases hlt : j < k
        · rw [if_pos (by omega), if_pos (by omega)]
        · rw [if_neg (by omega), if_neg (by omega)]
      · rw [if_neg (by omega), if_neg (by omega)]
theorem last_all {l : List (List UInt8)} (ha : ApB l) (m : List UInt8) : lastB l m l.length = ixB l m := by
  rw [last_ix ha m _ (Nat.le_refl _)]
  have := ixB_lt l m
  split <;> omega
theorem limL_lt (l : List UInt8) : limL l < 10000 := by
  unfold limL
  split
  · omega
  · next h =>
    have h4 : l.length ≤ 4 := by
      rcases Nat.lt_or_ge 4 l.length with c | c
      · exact absurd (.inr (.inl c)) h
      · exact c
    cases hd : Lib.decFrom 0 l with
    | none => simp
    | some n =>
      have h1 := decFrom_lt hd
      have h2 : 10 ^ l.length ≤ 10 ^ 4 := Nat.pow_le_pow_right (by omega) h4
      simp only [Option.getD_some]
      omega
theorem rel_flag {k : Nat} {r : Rm} {x : Rx} (h : Rel19 k r x) (on : Bool) {c : UInt8} (hc : IsFlag c) : (chgFl r on c).1 = (flX x on c).1 ∧ Rel19 (k + 1) (chgFl r on c).2 (flX x on c).2 := by
  unfold chgFl flX
  rw [h.on c]
  by_cases he : r.fl.has c = on
  · rw [if_pos he, if_pos he]; exact ⟨rfl, h.more⟩
  · rw [if_neg he, if_neg he]
    have hno : (!r.fl.has c) = on := by cases hh : r.fl.has c <;> cases on <;> simp_all
    refine ⟨rfl, h.nm, h.mb, h.mem, h.up, h.tp, fun d => ?_, h.key, h.lim, h.bans, h.ap, Nat.le_succ_of_le h.s1, Nat.le_succ_of_le h.s2, ?_, Nat.le_succ_of_le h.s4, Nat.le_succ_of_le h.s5, h.s6, h.s7, h.s8, h.s9⟩
    · show (List.filter (fun d => decide (d ≠ c)) x.on ++ if on then [c] else []).contains d = (r.fl.flip c).has d
      rw [has_flip hc, hno]
      have hd := h.on d
      by_cases hdc : d = c
      · subst hdc
        rw [if_pos rfl]
        cases on <;> simp
      · rw [if_neg hdc, ← hd]
        rw [Bool.eq_iff_iff, List.contains_iff_mem, List.contains_iff_mem, List.mem_append, List.mem_filter]
        constructor
        · rintro (⟨a, _⟩ | a)
          · exact a
          · cases on
            · simp at a
            · simp at a; exact absurd a hdc
        · intro a; exact .inl ⟨a, by simpa using hdc⟩
    · show (List.filter (fun d => decide (d ≠ c)) x.on ++ if on then [c] else []).length ≤ _
      have h1 := List.length_filter_le (fun d => decide (d ≠ c)) x.on
      have h2 : (if on then [c] else ([] : List UInt8)).length ≤ 1 := by cases on <;> simp
      have := h.s3
      rw [List.length_append]; omega
theorem cur_new (m : Mem) (c : UInt8) (on : Bool) : (curM m c = on) ↔ newM m c on = m := by
  obtain ⟨a, b, d⟩ := m
  unfold curM newM
  split
  · constructor
    · rintro rfl; rfl
    · intro h; injection h with _ h; injection h with h _; exact h.symm
  · constructor
    · rintro rfl; rfl
    · intro h; injection h with _ h; injection h with _ h; exact h.symm
theorem newM_id (m : Mem) (c : UInt8) (on : Bool) : (newM m c on).1 = m.1 := by unfold newM; split <;> rfl
theorem rel_mark {k : Nat} {r : Rm} {x : Rx} (h : Rel19 k r x) (on : Bool) (c : UInt8) (arg : List UInt8) (id : Int) : (chgMark r on c arg id).1 = (markX x on c arg id).1 ∧ Rel19 (k + 1) (chgMark r on c arg id).2 (markX x on c arg id).2 := by
  unfold chgMark markX
  rw [h.has id]
  by_cases ha : atM x.L id < 0
  · rw [if_pos ha, decide_eq_false (by omega)]; exact ⟨rfl, h.more⟩
  · rw [if_neg ha, decide_eq_true (by omega), if_pos rfl]
    obtain ⟨i, hi⟩ : ∃ i : Nat, atM x.L id = i := ⟨(atM x.L id).toNat, by omega⟩
    obtain ⟨h1, h2, he⟩ := find_same h.up h.mem hi
    rw [hi]
    simp only [Int.toNat_natCast]
    have g1 : r.mem.getD (ixM r.mem id) default = r.mem[ixM r.mem id] := by rw [List.getD_eq_getElem?_getD, List.getElem?_eq_getElem h1]; rfl
    have g2 : x.L.getD i default = r.mem[ixM r.mem id] := by rw [List.getD_eq_getElem?_getD, List.getElem?_eq_getElem h2, he]; rfl
    rw [g1, g2]
    by_cases hc : curM r.mem[ixM r.mem id] c = on
    · rw [if_pos hc, if_pos ((cur_new _ _ _).1 hc)]; exact ⟨rfl, h.more⟩
    · rw [if_neg hc, if_neg fun e => hc ((cur_new _ _ _).2 e)]
      refine ⟨rfl, h.nm, h.mb, set_rel h.up h.mem hi _, setM_up h.up h1 (newM_id _ _ _), h.tp, h.on, h.key, h.lim, h.bans, h.ap, ?_, Nat.le_succ_of_le h.s2, Nat.le_succ_of_le h.s3, Nat.le_succ_of_le h.s4, Nat.le_succ_of_le h.s5, h.s6, h.s7, h.s8, h.s9⟩
      show (r.mem.set _ _).length ≤ _
      rw [List.length_set]; have := h.s1; omega
theorem rel_key {k : Nat} {r : Rm} {x : Rx} (h : Rel19 k r x) (on : Bool) (arg : List UInt8) (ha : arg.length ≤ 250) : (chgKey r on 107 arg).1 = (keyX x on 107 arg).1 ∧ Rel19 (k + 1) (chgKey r on 107 arg).2 (keyX x on 107 arg).2 := by
  unfold chgKey keyX
  rw [h.key]
  cases on with
  | true =>
    rw [if_pos rfl, if_pos rfl]
    by_cases h1 : r.key = []
    · rw [if_neg (fun hh => hh h1)]
      cases hd : dec (KeyP (bs arg)) with
      | true =>
        rw [if_pos rfl, if_neg (by rintro (e | e); cases e; exact e h1)]
        exact ⟨rfl, h.nm, h.mb, h.mem, h.up, h.tp, h.on, rfl, h.lim, h.bans, h.ap, Nat.le_succ_of_le h.s1, Nat.le_succ_of_le h.s2, Nat.le_succ_of_le h.s3, Nat.le_succ_of_le h.s4, Nat.le_succ_of_le h.s5, ha, h.s7, h.s8, h.s9⟩
      | false =>
        rw [if_neg (by simp), if_pos (.inl rfl)]; exact ⟨rfl, h.more⟩
    · rw [if_pos h1, if_pos (.inr h1)]; exact ⟨rfl, h.more⟩
  | false =>
    rw [if_neg (show ¬ (false = true) by decide), if_neg (show ¬ (false = true) by decide)]
    by_cases h1 : r.key = []
    · rw [if_pos h1, if_pos h1]; exact ⟨rfl, h.more⟩
    · rw [if_neg h1, if_neg h1]
      exact ⟨rfl, h.nm, h.mb, h.mem, h.up, h.tp, h.on, rfl, h.lim, h.bans, h.ap, Nat.le_succ_of_le h.s1, Nat.le_succ_of_le h.s2, Nat.le_succ_of_le h.s3, Nat.le_succ_of_le h.s4, Nat.le_succ_of_le h.s5, by simp, h.s7, h.s8, h.s9⟩
theorem rel_lim {k : Nat} {r : Rm} {x : Rx} (h : Rel19 k r x) (on : Bool) (arg : List UInt8) : (chgLim r on 108 arg).1 = (limX x on 108 arg).1 ∧ Rel19 (k + 1) (chgLim r on 108 arg).2 (limX x on 108 arg).2 := by
  unfold chgLim limX
  rw [h.lim]
  cases on with
  | true =>
    rw [if_pos rfl, if_pos rfl]
    by_cases h1 : limL arg = 0 ∨ limL arg = r.lim
    · rw [if_pos h1, if_pos (by omega)]; exact ⟨rfl, h.more⟩
    · rw [if_neg h1, if_neg (by omega)]
      exact ⟨rfl, h.nm, h.mb, h.mem, h.up, h.tp, h.on, h.key, rfl, h.bans, h.ap, Nat.le_succ_of_le h.s1, Nat.le_succ_of_le h.s2, Nat.le_succ_of_le h.s3, Nat.le_succ_of_le h.s4, Nat.le_succ_of_le h.s5, h.s6, h.s7, h.s8, limL_lt arg⟩
  | false =>
    rw [if_neg (show ¬ (false = true) by decide), if_neg (show ¬ (false = true) by decide)]
    by_cases h1 : r.lim = 0
    · rw [if_pos h1, if_pos (by omega)]; exact ⟨rfl, h.more⟩
    · rw [if_neg h1, if_neg (by omega)]
      exact ⟨rfl, h.nm, h.mb, h.mem, h.up, h.tp, h.on, h.key, rfl, h.bans, h.ap, Nat.le_succ_of_le h.s1, Nat.le_succ_of_le h.s2, Nat.le_succ_of_le h.s3, Nat.le_succ_of_le h.s4, Nat.le_succ_of_le h.s5, h.s6, h.s7, h.s8, by show 0 < 10000; omega⟩
theorem rel_ban {k : Nat} {r : Rm} {x : Rx} (h : Rel19 k r x) (on : Bool) (arg : List UInt8) : (chgBan r on 98 arg).1 = (banX x on arg).1 ∧ Rel19 (k + 1) (chgBan r on 98 arg).2 (banX x on arg).2 := by
  unfold chgBan banX
  rw [h.bans, h.mb, last_all h.ap]
  by_cases h1 : arg = [] ∨ 100 < (maskB arg).length ∨ (maskB arg).contains 32 = true
  · rw [if_pos h1, if_pos h1]; exact ⟨rfl, h.more⟩
  · rw [if_neg h1, if_neg h1]
    have hml : (maskB arg).length ≤ 100 := by
      rcases Nat.lt_or_ge 100 (maskB arg).length with c | c
      · exact absurd (.inr (.inl c)) h1
      · exact c
    cases on with
    | true =>
      rw [if_pos (show true = true from rfl)]
      by_cases h2 : 0 ≤ ixB r.bans (maskB arg)
      · rw [if_pos (by rw [decide_eq_true h2]), if_pos h2]; exact ⟨rfl, h.more⟩
      · rw [if_neg (by rw [decide_eq_false h2]; simp), if_neg h2, if_neg (by simp)]
        by_cases h3 : r.mb ≤ r.bans.length
        · rw [if_pos h3, if_pos h3]; exact ⟨rfl, h.more⟩
        · rw [if_neg h3, if_neg h3]
          refine ⟨rfl, h.nm, rfl, h.mem, h.up, h.tp, h.on, h.key, h.lim, rfl, ?_, Nat.le_succ_of_le h.s1, ?_, Nat.le_succ_of_le h.s3, Nat.le_succ_of_le h.s4, Nat.le_succ_of_le h.s5, h.s6, h.s7, ?_, h.s9⟩
          · show ApB (r.bans ++ [maskB arg])
            unfold ApB
            rw [List.pairwise_append]
            refine ⟨h.ap, List.pairwise_singleton _ _, fun a ha b hb => ?_⟩
            rw [List.mem_singleton] at hb
            subst hb
            cases hs : sameF a (maskB arg) with
            | false => rfl
            | true =>
              exfalso
              obtain ⟨j, hj, rfl⟩ := List.getElem_of_mem ha
              have hn : ∀ (l : List (List UInt8)) (m : List UInt8), ixB l m < 0 → ∀ j (hj : j < l.length), sameF l[j] m = false := by
                intro l m
                induction l with
                | nil => intro _ j hj; simp at hj
                | cons b l ih =>
                  intro hx j hj
                  unfold ixB at hx
                  by_cases e : sameF b m = true
                  · rw [if_pos e] at hx; omega
                  · rw [if_neg e] at hx
                    have hb : sameF b m = false := by simpa using e
                    by_cases cc : ixB l m < 0
                    · cases j with
                      | zero => exact hb
                      | succ j => exact ih cc j (Nat.lt_of_succ_lt_succ hj)
                    · rw [if_neg cc] at hx; omega
              rw [hn _ _ (by omega) j hj] at hs
              cases hs
          · show (r.bans ++ [maskB arg]).length ≤ _
            rw [List.length_append]; have := h.s2; simp; omega
          · intro b hb
            rcases List.mem_append.1 hb with hb | hb
            · exact h.s8 b hb
            · rw [List.mem_singleton] at hb; subst hb; exact hml
    | false =>
      rw [if_neg (show ¬ false = true by simp)]
      by_cases h2 : 0 ≤ ixB r.bans (maskB arg)
      · rw [if_neg (by rw [decide_eq_true h2]; simp), if_pos (show false = false from rfl), if_neg (by omega)]
        refine ⟨rfl, h.nm, rfl, h.mem, h.up, h.tp, h.on, h.key, h.lim, rfl, ?_, Nat.le_succ_of_le h.s1, ?_, Nat.le_succ_of_le h.s3, Nat.le_succ_of_le h.s4, Nat.le_succ_of_le h.s5, h.s6, h.s7, ?_, h.s9⟩
        · refine List.Pairwise.sublist ?_ h.ap
          conv => rhs; rw [← List.take_append_drop (ixB r.bans (maskB arg)).toNat r.bans]
          exact List.Sublist.append (List.Sublist.refl _) (by rw [← List.drop_drop]; exact List.drop_sublist _ _)
        · show (r.bans.take _ ++ r.bans.drop _).length ≤ _
          rw [List.length_append, List.length_take, List.length_drop]; have := h.s2; omega
        · intro b hb
          rcases List.mem_append.1 hb with hb | hb
          · exact h.s8 b (List.mem_of_mem_take hb)
          · exact h.s8 b (List.mem_of_mem_drop hb)
      · rw [if_pos (by rw [decide_eq_false h2]), if_pos (by omega)]; exact ⟨rfl, h.more⟩
theorem rel_chg {k : Nat} {r : Rm} {x : Rx} (h : Rel19 k r x) (on : Bool) (c : UInt8) (arg : List UInt8) (id : Int) (ha : arg.length ≤ 250) : (chgAll r on c arg id).1 = (chgX x on c arg id).1 ∧ Rel19 (k + 1) (chgAll r on c arg id).2 (chgX x on c arg id).2 := by
  unfold chgAll chgX
  by_cases h1 : c = 105 ∨ c = 109 ∨ c = 110 ∨ c = 115 ∨ c = 116
  · rw [if_pos h1, if_pos h1]; exact rel_flag h on h1
  · rw [if_neg h1, if_neg h1]
    by_cases h2 : c = 111 ∨ c = 118
    · rw [if_pos h2, if_pos h2]; exact rel_mark h on c arg id
    · rw [if_neg h2, if_neg h2]
      by_cases h3 : c = 107
      · rw [if_pos h3, if_pos h3]; subst h3; exact rel_key h on arg ha
      · rw [if_neg h3, if_neg h3]
        by_cases h4 : c = 108
        · rw [if_pos h4, if_pos h4]; subst h4; exact rel_lim h on arg
        · rw [if_neg h4, if_neg h4]
          by_cases h5 : c = 98
          · rw [if_pos h5, if_pos h5]; subst h5; exact rel_ban h on arg
          · rw [if_neg h5, if_neg h5]; exact ⟨rfl, h.more⟩
/-- an act -/
noncomputable def actR (r : Rm) (a : Act19) : Rm :=
  if a.k = 1 then (if hasM r.mem a.id then { r with mem := delM r.mem a.id } else r)
  else if a.k = 2 then { r with tp := topL a.s }
  else if a.k = 3 then { r with inv := insAll r.inv [a.id] }
  else if a.k = 4 then (chgAll r a.on a.l a.arg a.id).2
  else addR r a.id a.op
noncomputable def actX (x : Rx) (a : Act19) : Rx :=
  if a.k = 1 then dropX x a.id
  else if a.k = 2 then { x with tp := topL a.s }
  else if a.k = 3 then { x with gs := x.gs ++ [a.id] }
  else if a.k = 4 then (chgX x a.on a.l a.arg a.id).2
  else addX x a.id a.op
theorem rel_act {k : Nat} {r : Rm} {x : Rx} (h : Rel19 k r x) (a : Act19) (ha : a.arg.length ≤ 250) : Rel19 (k + 1) (actR r a) (actX x a) := by
  unfold actR actX
  by_cases h1 : a.k = 1
  · rw [if_pos h1, if_pos h1]
    unfold dropX
    rw [h.has]
    by_cases h2 : 0 ≤ atM x.L a.id
    · rw [decide_eq_true h2, if_pos rfl, if_pos h2]
      obtain ⟨i, hi⟩ : ∃ i : Nat, atM x.L a.id = i := ⟨(atM x.L a.id).toNat, by omega⟩
      rw [hi]; simp only [Int.toNat_natCast]
      refine ⟨h.nm, h.mb, del_rel h.up h.mem hi, delM_up h.up _, h.tp, h.on, h.key, h.lim, h.bans, h.ap, ?_, Nat.le_succ_of_le h.s2, Nat.le_succ_of_le h.s3, Nat.le_succ_of_le h.s4, Nat.le_succ_of_le h.s5, h.s6, h.s7, h.s8, h.s9⟩
      show (delM r.mem a.id).length ≤ _
      unfold delM
      rw [List.length_append, List.length_take, List.length_drop]; have := h.s1; omega
    · rw [decide_eq_false h2, if_neg (by simp), if_neg h2]; exact h.more
  · rw [if_neg h1, if_neg h1]
    by_cases h2 : a.k = 2
    · rw [if_pos h2, if_pos h2]
      exact ⟨h.nm, h.mb, h.mem, h.up, rfl, h.on, h.key, h.lim, h.bans, h.ap, Nat.le_succ_of_le h.s1, Nat.le_succ_of_le h.s2, Nat.le_succ_of_le h.s3, Nat.le_succ_of_le h.s4, Nat.le_succ_of_le h.s5, h.s6, by show (topL a.s).length ≤ 200; unfold topL; rw [List.length_take]; omega, h.s8, h.s9⟩
    · rw [if_neg h2, if_neg h2]
      by_cases h3 : a.k = 3
      · rw [if_pos h3, if_pos h3]
        refine ⟨h.nm, h.mb, h.mem, h.up, h.tp, h.on, h.key, h.lim, h.bans, h.ap, Nat.le_succ_of_le h.s1, Nat.le_succ_of_le h.s2, Nat.le_succ_of_le h.s3, ?_, ?_, h.s6, h.s7, h.s8, h.s9⟩
        · show (insAll r.inv [a.id]).length ≤ _
          have := (insAll_len r.inv [a.id]).1; have := h.s4; simp at *; omega
        · show (x.gs ++ [a.id]).length ≤ _
          rw [List.length_append]; have := h.s5; simp; omega
      · rw [if_neg h3, if_neg h3]
        by_cases h4 : a.k = 4
        · rw [if_pos h4, if_pos h4]; exact (rel_chg h a.on a.l a.arg a.id ha).2
        · rw [if_neg h4, if_neg h4]
          unfold addR addX
          rw [h.has]
          by_cases h5 : 0 ≤ atM x.L a.id
          · rw [decide_eq_true h5, if_pos rfl, if_pos h5]; exact h.more
          · rw [decide_eq_false h5, if_neg (by simp), if_neg h5]
            have hno : hasM r.mem a.id = false := by rw [h.has]; exact decide_eq_false h5
            refine ⟨h.nm, h.mb, ins_rel h.mem _, insM_up h.up hno, h.tp, h.on, h.key, h.lim, h.bans, h.ap, ?_, Nat.le_succ_of_le h.s2, Nat.le_succ_of_le h.s3, ?_, ?_, h.s6, h.s7, h.s8, h.s9⟩
            · show (insM r.mem _).length ≤ _
              rw [insM_len]; have := h.s1; omega
            · show (delAll r.inv [a.id]).length ≤ _
              have := delAll_len r.inv [a.id]; have := h.s4; omega
            · show (x.gs.filter _).length ≤ _
              have := List.length_filter_le (fun y => decide (y ≠ a.id)) x.gs; have := h.s5; omega
theorem rel_new (nm : List UInt8) (mb : Int) : Rel19 0 ⟨nm, [], [], fl0, [], 0, mb, [], []⟩ (rx0 nm mb) := by
  refine ⟨rfl, rfl, List.Perm.refl _, List.Pairwise.nil, rfl, fun c => ?_, rfl, rfl, rfl, List.Pairwise.nil, Nat.le_refl _, Nat.le_refl _, Nat.le_refl _, Nat.le_refl _, Nat.le_refl _, by simp, by simp, by simp, by simp⟩
  rw [fl0_has]
  show ([110, 116] : List UInt8).contains c = _
  rw [Bool.eq_iff_iff, List.contains_iff_mem]
  simp
end Go.Proofs.YtmgnhbihfgpccaaGreatDoor
end
section
/- Layer 19: the law's topic. -/
namespace Go.Proofs.YtmgnhbihfgpccaaGreatDoor
open Go Go.RowKit

set_option maxHeartbeats 4000000 in
theorem lawTopic_any (s : ByteArray) (w : World) (hs : s.size ≤ 1000000) :
    Calls Tryz.prog 34 #[.string s] w fun e w' => e = .returned (.string (bs (topL s.data.toList))) ∧ w' = w := by
  go_enter Tryz.func34, Tryz.ntmps34
  go_wp2_with fail
  go_loopw [3, 4] (fun v i wr => ∃ (k : Nat) (t : ByteArray), i = .int .i64 k ∧ k ≤ s.size ∧ v = .string t ∧ t.data.toList = (cleanL (s.data.toList.take k)).take 200 ∧ wr = w) (fun _ i _ => s.size - (Go.RowKit.intOf i).toNat)
  case atStart => exact ⟨0, ⟨#[]⟩, rfl, Nat.zero_le _, rfl, by simp [cleanL], rfl⟩
  case round =>
    obtain ⟨k, t, rfl, hk, rfl, ht, rfl⟩ := hrel
    have htl : t.size ≤ 1000000 := by
      have h0 : t.data.toList.length = t.size := by simp
      rw [← h0, ht, List.length_take]
      omega
    by_cases hlt : k < s.size
    · have hnx := clean_next s k hlt
      have hex := app_one' t s k hlt
      have hbr := brk_three s[k]
      have hlen : t.size = ((cleanL (s.data.toList.take k)).take 200).length := by rw [← ht]; simp
      have hsn : ((cleanL (s.data.toList.take k)).take 200).length < 200 → (cleanL (s.data.toList.take k) ++ [s[k]]).take 200 = (cleanL (s.data.toList.take k)).take 200 ++ [s[k]] := take_snoc_lt
      have hsg : ¬ ((cleanL (s.data.toList.take k)).take 200).length < 200 → (cleanL (s.data.toList.take k) ++ [s[k]]).take 200 = (cleanL (s.data.toList.take k)).take 200 := take_snoc_ge
      rw [← hlen] at hsn hsg
      have HN := Lib.hid hnx
      have HE := Lib.hid hex
      have HT := Lib.hid ht
      have HS := Lib.hid hsn
      have HG := Lib.hid hsg
      clear hnx hex ht hlen hsn hsg
      cases h1 : ((s[k].toNat : Int) != 0) <;> cases h2 : ((s[k].toNat : Int) != 10) <;> cases h3 : ((s[k].toNat : Int) != 13) <;> rw [h1, h2, h3] at hbr
      case true.true.true =>
        have HB := Lib.hid hbr
        clear hbr
        by_cases hm : (t.size : Int) < 200
        · have hm2 : t.size < 200 := by omega
          go_wp2_with fail
          go_roundw
          case rel => exact ⟨k + 1, _, by go_num, by omega, rfl, by rw [HE.out, HN.out, HB.out]; simp only [Bool.and_self, Bool.not_true, Bool.false_eq_true, if_false]; rw [HS.out hm2, HT.out], by simp⟩
          case measure => simp [Go.RowKit.intOf]; omega
        · have hm2 : ¬ t.size < 200 := by omega
          go_wp2_with fail
          go_roundw
          case rel => exact ⟨k + 1, _, by go_num, by omega, rfl, by rw [HN.out, HB.out]; simp only [Bool.and_self, Bool.not_true, Bool.false_eq_true, if_false]; rw [HG.out hm2, HT.out], by simp⟩
          case measure => simp [Go.RowKit.intOf]; omega
      all_goals
        have HB := Lib.hid hbr
        clear hbr
        go_wp2_with fail
        go_roundw
        case rel => exact ⟨k + 1, _, by go_num, by omega, rfl, by rw [HN.out, HB.out]; simp [HT.out], by simp⟩
        case measure => simp [Go.RowKit.intOf]; omega
    · obtain rfl : k = s.size := by omega
      have HT := Lib.hid ht
      clear ht
      go_wp2_with fail
      go_ret
      exact ⟨ret_str (ba_ext (by rw [HT.out, List.take_of_length_le (l := s.data.toList) (by simp)]; unfold topL; simp)), rfl⟩
end Go.Proofs.YtmgnhbihfgpccaaGreatDoor
end
section
/- Regions that draw their order, whose last operation is a store: two operations may come up. -/
namespace Go.Proofs.YtmgnhbihfgpccaaGreatDoor
open Go Go.RowKit
section
variable {P : Program} {md : Region.Mode} {ops : Array Oper} {Q : Exit → Act → World → Prop} {S : World → Prop} {z : Nat}
theorem wpAnyZ_two {i j : Nat} {o o2 : Oper} {fuel : Nat} {listed : Array Bool} {a : Act} {w : World} (hr : Region.ready md ops listed = [i, j]) (ho : ops[i]? = some o) (ho2 : ops[j]? = some o2)
    (hw : Region.wanted o (yielded ops a.tmps) = true) (hw2 : Region.wanted o2 (yielded ops a.tmps) = true)
    (h : ∀ K' : Act → World → Prop, Shut (∀ a w, S w → (S w → wpAnyZ P md ops Q S z fuel (listed.setIfInBounds i true) a w) → K' a w) → Oper.wp P o a w K' Q)
    (h2 : ∀ K' : Act → World → Prop, Shut (∀ a w, S w → (S w → wpAnyZ P md ops Q S z fuel (listed.setIfInBounds j true) a w) → K' a w) → Oper.wp P o2 a w K' Q) : wpAnyZ P md ops Q S z (fuel + 1) listed a w :=
  ⟨fun h0 => absurd (hr ▸ h0) (by simp), by
    rw [hr]
    intro k hk
    rcases List.mem_cons.1 hk with rfl | hk
    · exact wpOp_step ho fun K' hK => by rw [if_pos hw]; exact h K' fun a w hS hW => hK a w ⟨fun _ => hS, hW hS⟩
    · obtain rfl := List.mem_singleton.1 hk
      exact wpOp_step ho2 fun K' hK => by rw [if_pos hw2]; exact h2 K' fun a w hS hW => hK a w ⟨fun _ => hS, hW hS⟩⟩
end
end Go.Proofs.YtmgnhbihfgpccaaGreatDoor
end
