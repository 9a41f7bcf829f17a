/- Texts of this proof, one behind the other. -/
import Derived.Test.YtmgnhbihfgpccaaGreatDoorRoomPlaysG14
import Derived.Test.YtmgnhbihfgpccaaGreatDoorRoomPlaysG20
import Derived.Test.YtmgnhbihfgpccaaGreatDoorRoomPlaysG9
set_option linter.unusedVariables false
set_option linter.unusedSimpArgs false
section
/- Layer 19: the document's Members. -/
namespace Go.Proofs.YtmgnhbihfgpccaaGreatDoor
open Go Go.RowKit

theorem app_memR {W : World} {base : Nat} {v : Value} {ys : List Mem} {N : Nat} {y : Mem} (ho : OwnM base W v ys) (hb : base ≤ W.heap.size) (hl : ys.length ≤ 2000000)
    (hc : W.heap[N]? = some (.cells #[.int .i64 y.1, .bool y.2.1, .bool y.2.2] 38 (0, 0))) :
    ∃ A c W', (Builtin.append_ #[43, 43] 43 #[v, .slice (some ⟨N, 0, none⟩) 1 1]).run Tryz.prog W = .ok (.slice A (ys.length + 1) c) W' ∧ OwnM base W' (.slice A (ys.length + 1) c) (ys ++ [y]) ∧ Fr (fun k => v.ownBlock = some k) W W' ∧ ∀ k, (Value.slice A (ys.length + 1) c).ownBlock = some k → v.ownBlock = some k ∨ W.heap.size ≤ k := by
  obtain ⟨i0, hi, hz0, hz1, hz2⟩ := info_parts Tryz.infoMb
  obtain ⟨v', w', hr, r1, r2, r3⟩ := run_app_any (P := Tryz.prog) W base 43 43 43 38 i0 _ 3 16 Tryz.underlying43 hi hz0 hz1 hz2 rfl v ys.length (ys.flatMap encM) ho (.slice (some ⟨N, 0, none⟩) 1 1) 1 (encM y)
    (Src.ofSlice W Tryz.underlying43 ⟨N, 0, none⟩ 1 1 (encM y) rfl (fun j u hu => by
      match j, hu with
      | 0, hu => simp [encM] at hu; subst hu; rw [add_at]; exact blk_cell hc 0
      | 1, hu => simp [encM] at hu; subst hu; rw [add_at]; exact blk_cell hc 1
      | 2, hu => simp [encM] at hu; subst hu; rw [add_at]; exact blk_cell hc 2) (by intro u hu; simp [encM] at hu; rcases hu with rfl | rfl | rfl <;> rfl)) (by unfold maxLen; omega) (by omega) (by omega)
  obtain ⟨A, c, rfl⟩ := row_slice r1
  exact ⟨A, c, w', hr, ownM_snoc r1, r2, r3⟩
theorem ids_rel {l L : List Mem} (hu : UpM l) (p : l.Perm L) : insAll [] (L.map (·.1)) = l.map (·.1) := by
  refine up_ext (insAll_up List.Pairwise.nil _) (List.pairwise_map.2 hu) fun y => ?_
  rw [insAll_mem]
  have := (p.map (·.1)).mem_iff (a := y)
  simp only [List.not_mem_nil, false_or]
  exact this.symm
set_option maxRecDepth 100000 in
set_option maxHeartbeats 16000000 in
theorem refMembers_any {base B : Nat} {q : RxV} {x : Rx} {w : World} (h : RxAt base B q x w) (ms : List Mem) (hu : UpM ms) (hp : ms.Perm x.L) (hl : ms.length ≤ 100000) :
    Calls Tryz.prog 17 #[.pointer (some ⟨B, 0, none⟩)] w fun e w' => (∃ A c, e = .returned (.slice A ms.length c) ∧ OwnM w.heap.size w' (.slice A ms.length c) ms) ∧ RowKit.Below w.heap.size w w' := by
  have hlen := hp.length_eq
  have HH := Lib.hid (fun W (hb : RowKit.Below w.heap.size w W) => h.below hb)
  have HID := Lib.hid (ids_rel hu hp)
  have HR := Lib.hid (fun j hj => told_rel hu hp j hj)
  have HL := Lib.hid hl
  obtain ⟨Al, cl, hvl⟩ := ownM_slice h.2.1
  obtain ⟨nl, hnl⟩ : ∃ nl, x.L.length = nl := ⟨_, rfl⟩
  have HV := Lib.hid (And.intro hvl hnl)
  rw [hnl] at hlen
  have hnle : nl ≤ 100000 := by omega
  have HC : Hid (∀ W, RowKit.Below w.heap.size w W → W.cell? ⟨B, 2, none⟩ = some (.slice Al nl cl) ∧ ReadsM W Al x.L) := fun W hb => by
    have h1 := h.below hb
    have h2 := h1.2.1
    rw [hvl] at h2
    refine ⟨?_, reads_ownM h2⟩
    have := blk_cell h1.1 2
    rw [hvl, hnl] at this
    exact this
  clear h hvl hu hp hl
  go_enter Tryz.func17, Tryz.ntmps17
  go_wp2_with fail
  have h00 : Hid (OwnI w.heap.size w (.slice none 0 0) (insAll [] ((x.L.map (·.1)).take 0)) ∧ Below w.heap.size w w) := ⟨own_nil _ _, Below.refl _ _⟩
  go_loopw [3, 4] (fun v i wr => ∃ k : Nat, i = .int .i64 k ∧ k ≤ nl ∧ Hid (OwnI w.heap.size wr v (insAll [] ((x.L.map (·.1)).take k)) ∧ Below w.heap.size w wr)) (fun _ i _ => nl - (Go.RowKit.intOf i).toNat)
  case atStart => exact ⟨0, rfl, Nat.zero_le _, h00⟩
  case round =>
    clear h00
    obtain ⟨k, rfl, hk, HQ⟩ := hrel
    obtain ⟨c2, hrd⟩ := HC.out wr HQ.out.2
    by_cases hlt : k < nl
    · have hltx : k < x.L.length := by have := HV.out.2; omega
      obtain ⟨g, o, rfl, hg, ha⟩ := hrd (by omega)
      have a1 := (ha k hltx).1
      have hml : k < (x.L.map (·.1)).length := by rw [List.length_map]; exact hltx
      have hst : insAll [] ((x.L.map (·.1)).take (k + 1)) = insI (insAll [] ((x.L.map (·.1)).take k)) (x.L[k]).1 := by rw [List.take_succ_eq_append_getElem hml, insAll_snoc, List.getElem_map]
      have hyl := (insAll_len [] ((x.L.map (·.1)).take k)).1
      rw [List.length_take, List.length_nil] at hyl
      obtain ⟨y, hy⟩ : ∃ y, (x.L[k]).1 = y := ⟨_, rfl⟩
      rw [hy] at a1 hst
      have HA1 := Lib.hid (add10 HQ.out.1 (insAll_up List.Pairwise.nil _) (by omega) HQ.out.2.size y)
      rw [← hst] at HA1
      have p1 : (k : Int) < (nl : Int) := by omega
      clear ha hy hst hyl hml hltx hrd
      go_wp2_with fail
      refine HA1.out.mono ?_
      rintro e w3 ⟨⟨v3, rfl, o3, t3⟩, b3⟩
      have HN : Hid (OwnI w.heap.size w3 v3 (insAll [] ((x.L.map (·.1)).take (k + 1))) ∧ Below w.heap.size w w3) := ⟨o3, HQ.out.2.trans (b3.mono HQ.out.2.size)⟩
      clear o3 t3 b3 HA1
      go_wp2_with fail
      go_roundw
      case rel => exact ⟨k + 1, by go_num, by omega, HN⟩
      case measure => simp [Go.RowKit.intOf]; omega
    · obtain rfl : nl = k := by omega
      clear hrd
      have hq := HQ.out
      rw [List.take_of_length_le (by rw [List.length_map]; have := HV.out.2; omega), HID.out] at hq
      obtain ⟨Ai, ci, rfl⟩ := row_slice hq.1
      rw [List.length_map, hlen] at hq ⊢
      have HI := Lib.hid hq
      have p1 : ¬ ((nl : Int) < (nl : Int)) := by omega
      clear hq HQ
      go_wp2_with fail
      have h00 : Hid (OwnM wr.heap.size wr (.slice none 0 0) (ms.take 0) ∧ Below wr.heap.size wr wr) := ⟨ownM_nil _ _, Below.refl _ _⟩
      clear c2 p1
      obtain ⟨w5, hw5⟩ : ∃ w5, wr = w5 := ⟨_, rfl⟩
      rw [hw5] at h00 HI ⊢
      clear hw5
      have HNM := Lib.hid hlen
      have hnml : nl ≤ 100000 := hnle
      clear hlen
      go_loopw [5, 6] (fun v i wr => ∃ (k : Nat) (A : Option Addr) (c : Nat), i = .int .i64 k ∧ k ≤ nl ∧ v = .slice A k c ∧ Hid (OwnM w5.heap.size wr (.slice A k c) (ms.take k) ∧ Below w5.heap.size w5 wr)) (fun _ i _ => nl - (Go.RowKit.intOf i).toNat)
      case atStart => exact ⟨0, none, 0, rfl, Nat.zero_le _, rfl, h00⟩
      case round =>
        clear h00
        obtain ⟨k, A, c, rfl, hk, rfl, HQ⟩ := hrel
        by_cases hlt : k < nl
        · have hkm : k < ms.length := by have := HNM.out; omega
          obtain ⟨j, hj, hjl, hje⟩ := HR.out k hkm
          have hbw : Below w.heap.size w wr := HI.out.2.trans (HQ.out.2.mono HI.out.2.size)
          obtain ⟨c2, hrd⟩ := HC.out wr hbw
          obtain ⟨gl, ol, rfl, hgl, ha⟩ := hrd (by omega)
          have hI := own_kept HI.out.1 fun g hg => HQ.out.2.block g (HI.out.1.lt g hg).2
          obtain ⟨gi, oi, rfl, hgi, hai⟩ := reads_own hI (by rw [List.length_map]; omega)
          have a0 := hai k (by rw [List.length_map]; exact hkm)
          rw [List.getElem_map] at a0
          obtain ⟨a1, a2, a3⟩ := ha j hjl
          rw [hje] at a1 a2 a3
          have hst : ms.take (k + 1) = ms.take k ++ [ms[k]] := List.take_succ_eq_append_getElem hkm
          obtain ⟨m, hm⟩ : ∃ m, ms[k] = m := ⟨_, rfl⟩
          rw [hm] at a0 a1 a2 a3 hj hst
          obtain ⟨m0, m1, m2⟩ := m
          have hAt : ∀ V, RxAt base B q x V → Calls Tryz.prog 14 #[.pointer (some ⟨B, 0, none⟩), .int .i64 m0] V fun e w' => e = .returned (.int .i64 j) ∧ w' = V := fun V hV => by
            have := refAt_any hV m0 (by have := HV.out.2; omega)
            rw [show atM x.L m0 = (j : Int) from hj] at this
            exact this
          have d0 : (fun V => RxAt base B q x V ∧ V.cell? ⟨B, 2, none⟩ = some (.slice (some ⟨gl, ol, none⟩) nl cl) ∧ V.cell? ⟨gi, oi + k, none⟩ = some (.int .i64 m0) ∧ V.cell? ⟨gl, ol + j * 3, none⟩ = some (.int .i64 m0) ∧ V.cell? ⟨gl, ol + j * 3 + 1, none⟩ = some (.bool m1) ∧ V.cell? ⟨gl, ol + j * 3 + 2, none⟩ = some (.bool m2)) wr := ⟨HH.out wr hbw, c2, a0, a1, a2, a3⟩
          have hjn : (j : Int) < (nl : Int) := by have := HV.out.2; omega
          have hkl : (ms.take k).length = k := by rw [List.length_take]; omega
          obtain ⟨W7, hW7⟩ : ∃ W7, (wr.alloc (.cells #[.int .i64 m0, .bool m1, .bool m2] 38)).drew = W7 := ⟨_, rfl⟩
          have HW7 := Lib.hid hW7
          have f7 : Fr (fun _ => False) wr W7 := by rw [← hW7]; exact ((Fr.refl _ wr).alloc _).drew
          have b7 : RowKit.Below wr.heap.size wr W7 := f7.below (Nat.le_refl _) fun k _ e => e.elim
          have hbw7 := hbw.trans (b7.mono hbw.size)
          have h7 := HH.out W7 hbw7
          have keep : ∀ {g o : Nat} {u : Value}, g < wr.heap.size → wr.cell? ⟨g, o, none⟩ = some u → W7.cell? ⟨g, o, none⟩ = some u := fun {g o u} hg e => (World.cell?_of_block (w := wr) (w' := W7) (a := ⟨g, o, none⟩) (b7.block g hg)).trans e
          have hBl : B < wr.heap.size := blk_lt (HH.out wr hbw).1
          have d7 : (fun V => RxAt base B q x V ∧ V.cell? ⟨B, 2, none⟩ = some (.slice (some ⟨gl, ol, none⟩) nl cl) ∧ V.cell? ⟨gi, oi + k, none⟩ = some (.int .i64 m0) ∧ V.cell? ⟨gl, ol + j * 3, none⟩ = some (.int .i64 m0) ∧ V.cell? ⟨gl, ol + j * 3 + 1, none⟩ = some (.bool m1) ∧ V.cell? ⟨gl, ol + j * 3 + 2, none⟩ = some (.bool m2)) W7 := ⟨h7, keep hBl c2, keep hgi a0, keep hgl a1, keep hgl a2, keep hgl a3⟩
          have o7 := ownM_kept HQ.out.1 fun g hg => f7.block g (HQ.out.1.lt g hg).2 fun e => e
          have hb57 := HQ.out.2.trans (b7.mono HQ.out.2.size)
          obtain ⟨A9, c9, W9, hr9, o9, f9, t9⟩ := app_memR (y := (m0, m1, m2)) o7 hb57.size (by omega) (N := wr.heap.size) (by rw [← hW7]; exact heap_alloc_new wr _)
          have hb9 : RowKit.Below w5.heap.size w5 W9 := hb57.trans (f9.below hb57.size fun k _ e => (o7.lt k e).1)
          have hbw9 := HI.out.2.trans (hb9.mono HI.out.2.size)
          have keep9 : ∀ {g o : Nat} {u : Value}, g < w5.heap.size → W7.cell? ⟨g, o, none⟩ = some u → W9.cell? ⟨g, o, none⟩ = some u := fun {g o u} hg e => (World.cell?_of_block (w := W7) (w' := W9) (a := ⟨g, o, none⟩) (f9.block g (Nat.lt_of_lt_of_le hg hb57.size) fun e => by have := (o7.lt g e).1; omega)).trans e
          have hg5 : gi < w5.heap.size ∧ gl < w5.heap.size ∧ B < w5.heap.size := ⟨(HI.out.1.lt gi rfl).2, ((HH.out w5 HI.out.2).2.1.lt gl (by rw [HV.out.1]; rfl)).2, blk_lt (HH.out w5 HI.out.2).1⟩
          have d9 : (fun V => RxAt base B q x V ∧ V.cell? ⟨B, 2, none⟩ = some (.slice (some ⟨gl, ol, none⟩) nl cl) ∧ V.cell? ⟨gi, oi + k, none⟩ = some (.int .i64 m0) ∧ V.cell? ⟨gl, ol + j * 3, none⟩ = some (.int .i64 m0) ∧ V.cell? ⟨gl, ol + j * 3 + 1, none⟩ = some (.bool m1) ∧ V.cell? ⟨gl, ol + j * 3 + 2, none⟩ = some (.bool m2)) W9 := ⟨HH.out W9 hbw9, keep9 hg5.2.2 (keep hBl c2), keep9 hg5.1 (keep hgi a0), keep9 hg5.2.1 (keep hgl a1), keep9 hg5.2.1 (keep hgl a2), keep9 hg5.2.1 (keep hgl a3)⟩
          rw [hkl] at hr9 o9
          rw [← hst] at o9
          have HO9 := Lib.hid (And.intro o9 hb9)
          clear hst f7 b7 hbw7 h7 keep hBl o7 hb57 o9 f9 t9 hb9 hbw9 keep9 hg5 hI hrd hai ha hj hje hm hkl hbw hgi hgl
          go_wp2_with fail
          refine wp_region_held_drew (S := fun V => RxAt base B q x V ∧ V.cell? ⟨B, 2, none⟩ = some (.slice (some ⟨gl, ol, none⟩) nl cl) ∧ V.cell? ⟨gi, oi + k, none⟩ = some (.int .i64 m0) ∧ V.cell? ⟨gl, ol + j * 3, none⟩ = some (.int .i64 m0) ∧ V.cell? ⟨gl, ol + j * 3 + 1, none⟩ = some (.bool m1) ∧ V.cell? ⟨gl, ol + j * 3 + 2, none⟩ = some (.bool m2)) (by kernel_rfl) (by exact d0) (fun hHeld => ?_)
          refine wpAnyH_read (i := 0) (oi := { dst := some 32, op := Go.Op.move (Go.Operand.tmp 5), type := 43, pos := "ref.go:65", after := #[], guard := none }) ?_ rfl (by kernel_rfl) (by kernel_rfl) (by kernel_rfl) (fun _ _ _ h => h) (by rfl) (by exact hHeld) ?_ ?_
          rotate_left
          · (intro w0 hS0; (try dsimp only at hS0); obtain ⟨s0, s1, s2, s3, s4, s5⟩ := hS0; clear s0; go_simp <;> (try with_reducible rfl))
          try simp only [Act.put, List.setIfInBounds_toArray, List.set_cons_zero, List.set_cons_succ]
          refine wpAnyH_read (i := 1) (oi := { dst := some 33, op := Go.Op.move (Go.Operand.tmp 0), type := 27, pos := "ref.go:65", after := #[], guard := none }) ?_ rfl (by kernel_rfl) (by kernel_rfl) (by kernel_rfl) (fun _ _ _ h => h) (by rfl) (by exact hHeld) ?_ ?_
          rotate_left
          · (intro w0 hS0; (try dsimp only at hS0); obtain ⟨s0, s1, s2, s3, s4, s5⟩ := hS0; clear s0; go_simp <;> (try with_reducible rfl))
          try simp only [Act.put, List.setIfInBounds_toArray, List.set_cons_zero, List.set_cons_succ]
          refine wpAnyH_read (i := 2) (oi := { dst := some 34, op := Go.Op.nilCheck (Go.Operand.tmp 33), type := 0, pos := "ref.go:65", after := #[{ on := 1, ground := Go.Ground.data }], guard := none }) ?_ rfl (by kernel_rfl) (by kernel_rfl) (by kernel_rfl) (fun _ _ _ h => h) (by rfl) (by exact hHeld) ?_ ?_
          rotate_left
          · (intro w0 hS0; (try dsimp only at hS0); obtain ⟨s0, s1, s2, s3, s4, s5⟩ := hS0; clear s0; go_simp <;> (try with_reducible rfl))
          try simp only [Act.put, List.setIfInBounds_toArray, List.set_cons_zero, List.set_cons_succ]
          refine wpAnyH_read (i := 3) (oi := { dst := some 35, op := Go.Op.fieldAddr 46 (Go.Operand.tmp 34) 2, type := 0, pos := "ref.go:65", after := #[{ on := 2, ground := Go.Ground.data }], guard := none }) ?_ rfl (by kernel_rfl) (by kernel_rfl) (by kernel_rfl) (fun _ _ _ h => h) (by rfl) (by exact hHeld) ?_ ?_
          rotate_left
          · (intro w0 hS0; (try dsimp only at hS0); obtain ⟨s0, s1, s2, s3, s4, s5⟩ := hS0; clear s0; go_simp <;> (try with_reducible rfl))
          try simp only [Act.put, List.setIfInBounds_toArray, List.set_cons_zero, List.set_cons_succ]
          refine wpAnyH_read (i := 5) (oi := { dst := some 37, op := Go.Op.move (Go.Operand.tmp 0), type := 27, pos := "ref.go:65", after := #[], guard := none }) ?_ rfl (by kernel_rfl) (by kernel_rfl) (by kernel_rfl) (fun _ _ _ h => h) (by rfl) (by exact hHeld) ?_ ?_
          rotate_left
          · (intro w0 hS0; (try dsimp only at hS0); obtain ⟨s0, s1, s2, s3, s4, s5⟩ := hS0; clear s0; go_simp <;> (try with_reducible rfl))
          try simp only [Act.put, List.setIfInBounds_toArray, List.set_cons_zero, List.set_cons_succ]
          refine wpAnyH_read (i := 6) (oi := { dst := some 38, op := Go.Op.move (Go.Operand.tmp 3), type := 44, pos := "ref.go:65", after := #[], guard := none }) ?_ rfl (by kernel_rfl) (by kernel_rfl) (by kernel_rfl) (fun _ _ _ h => h) (by rfl) (by exact hHeld) ?_ ?_
          rotate_left
          · (intro w0 hS0; (try dsimp only at hS0); obtain ⟨s0, s1, s2, s3, s4, s5⟩ := hS0; clear s0; go_simp <;> (try with_reducible rfl))
          try simp only [Act.put, List.setIfInBounds_toArray, List.set_cons_zero, List.set_cons_succ]
          refine wpAnyH_read (i := 7) (oi := { dst := some 39, op := Go.Op.move (Go.Operand.tmp 6), type := 3, pos := "ref.go:65", after := #[], guard := none }) ?_ rfl (by kernel_rfl) (by kernel_rfl) (by kernel_rfl) (fun _ _ _ h => h) (by rfl) (by exact hHeld) ?_ ?_
          rotate_left
          · (intro w0 hS0; (try dsimp only at hS0); obtain ⟨s0, s1, s2, s3, s4, s5⟩ := hS0; clear s0; go_simp <;> (try with_reducible rfl))
          try simp only [Act.put, List.setIfInBounds_toArray, List.set_cons_zero, List.set_cons_succ]
          refine wpAnyH_read (i := 8) (oi := { dst := some 40, op := Go.Op.indexAddr 44 (Go.Operand.tmp 38) (Go.Operand.tmp 39), type := 0, pos := "ref.go:65", after := #[{ on := 6, ground := Go.Ground.data }, { on := 7, ground := Go.Ground.data }], guard := none }) ?_ rfl (by kernel_rfl) (by kernel_rfl) (by kernel_rfl) (fun _ _ _ h => h) (by rfl) (by exact hHeld) ?_ ?_
          rotate_left
          · (intro w0 hS0; (try dsimp only at hS0); obtain ⟨s0, s1, s2, s3, s4, s5⟩ := hS0; clear s0; go_simp <;> (try with_reducible rfl))
          try simp only [Act.put, List.setIfInBounds_toArray, List.set_cons_zero, List.set_cons_succ]
          refine wpAnyH_read (i := 4) (oi := { dst := some 36, op := Go.Op.load 43 (Go.Operand.tmp 35), type := 43, pos := "ref.go:65", after := #[{ on := 3, ground := Go.Ground.data }], guard := none }) ?_ rfl (by kernel_rfl) (by kernel_rfl) (by kernel_rfl) (fun _ _ _ h => h) (by rfl) (by exact hHeld) ?_ ?_
          rotate_left
          · (intro w0 hS0; (try dsimp only at hS0); obtain ⟨s0, s1, s2, s3, s4, s5⟩ := hS0; clear s0; go_simp <;> (try with_reducible rfl))
          try simp only [Act.put, List.setIfInBounds_toArray, List.set_cons_zero, List.set_cons_succ]
          refine wpAnyH_read (i := 9) (oi := { dst := some 41, op := Go.Op.load 3 (Go.Operand.tmp 40), type := 3, pos := "ref.go:65", after := #[{ on := 8, ground := Go.Ground.data }], guard := none }) ?_ rfl (by kernel_rfl) (by kernel_rfl) (by kernel_rfl) (fun _ _ _ h => h) (by rfl) (by exact hHeld) ?_ ?_
          rotate_left
          · (intro w0 hS0; (try dsimp only at hS0); obtain ⟨s0, s1, s2, s3, s4, s5⟩ := hS0; clear s0; go_simp <;> (try with_reducible rfl))
          try simp only [Act.put, List.setIfInBounds_toArray, List.set_cons_zero, List.set_cons_succ]
          refine wpAnyH_one (i := 10) (o := { dst := some 42, op := Go.Op.call { callee := Go.Callee.value (Go.Operand.func 14), args := #[Go.Operand.tmp 37, Go.Operand.tmp 41], argTypes := #[27, 3] }, type := 3, pos := "ref.go:65", after := #[{ on := 5, ground := Go.Ground.data }, { on := 9, ground := Go.Ground.data }], guard := none }) (by kernel_rfl) rfl (by rfl) (fun K hK => ?_)
          go_simp
          refine (hAt _ hHeld.1).mono ?_
          rintro e w9 ⟨rfl, hw9⟩
          rw [hw9]
          clear hw9
          go_wp2_with fail
          refine hK.out _ _ ?_ (fun hHeld => ?_)
          · exact hHeld
          clear hK K
          try simp only [Act.put, List.setIfInBounds_toArray, List.set_cons_zero, List.set_cons_succ]
          refine wpAnyH_read (i := 11) (oi := { dst := some 43, op := Go.Op.indexAddr 43 (Go.Operand.tmp 36) (Go.Operand.tmp 42), type := 0, pos := "ref.go:65", after := #[{ on := 4, ground := Go.Ground.data }, { on := 10, ground := Go.Ground.data }], guard := none }) ?_ rfl (by kernel_rfl) (by kernel_rfl) (by kernel_rfl) (fun _ _ _ h => h) (by rfl) (by exact hHeld) ?_ ?_
          rotate_left
          · (intro w0 hS0; (try dsimp only at hS0); obtain ⟨s0, s1, s2, s3, s4, s5⟩ := hS0; clear s0; go_simp <;> (try with_reducible rfl))
          try simp only [Act.put, List.setIfInBounds_toArray, List.set_cons_zero, List.set_cons_succ]
          refine wpAnyH_read (i := 12) (oi := { dst := some 44, op := Go.Op.load 38 (Go.Operand.tmp 43), type := 38, pos := "ref.go:65", after := #[{ on := 11, ground := Go.Ground.data }], guard := none }) ?_ rfl (by kernel_rfl) (by kernel_rfl) (by kernel_rfl) (fun _ _ _ h => h) (by rfl) (by exact hHeld) ?_ ?_
          rotate_left
          · (intro w0 hS0; (try dsimp only at hS0); obtain ⟨s0, s1, s2, s3, s4, s5⟩ := hS0; clear s0; go_simp <;> (try with_reducible rfl))
          try simp only [Act.put, List.setIfInBounds_toArray, List.set_cons_zero, List.set_cons_succ]
          refine wpAnyH_one (i := 13) (o := { dst := some 45, op := Go.Op.buildSlice 43 1 #[(0, Go.Operand.tmp 44)], type := 43, pos := "ref.go:65", after := #[{ on := 12, ground := Go.Ground.data }], guard := none }) (by kernel_rfl) rfl (by rfl) (fun K hK => ?_)
          go_simp
          refine hK.out _ _ ?_ (fun hHeld => ?_)
          · exact d7
          clear hK K
          try simp only [Act.put, List.setIfInBounds_toArray, List.set_cons_zero, List.set_cons_succ]
          refine wpAnyH_one (i := 14) (o := { dst := some 46, op := Go.Op.call { callee := Go.Callee.builtin Go.Builtin.append, args := #[Go.Operand.tmp 32, Go.Operand.tmp 45], argTypes := #[43, 43] }, type := 43, pos := "ref.go:65", after := #[{ on := 0, ground := Go.Ground.data }, { on := 13, ground := Go.Ground.data }, { on := 10, ground := Go.Ground.chain }], guard := none }) (by kernel_rfl) rfl (by rfl) (fun K hK => ?_)
          refine wp_app_run _ _ _ _ rfl hr9 ?_
          refine hK.out _ _ ?_ (fun hHeld => ?_)
          · exact d9
          clear hK K
          try simp only [Act.put, List.setIfInBounds_toArray, List.set_cons_zero, List.set_cons_succ]
          refine wpAnyH_read (i := 15) (oi := { dst := some 5, op := Go.Op.assign (Go.Operand.tmp 46), type := 43, pos := "ref.go:65", after := #[{ on := 14, ground := Go.Ground.data }, { on := 14, ground := Go.Ground.chain }, { on := 0, ground := Go.Ground.phase }, { on := 1, ground := Go.Ground.phase }, { on := 2, ground := Go.Ground.phase }, { on := 3, ground := Go.Ground.phase }, { on := 4, ground := Go.Ground.phase }, { on := 5, ground := Go.Ground.phase }, { on := 6, ground := Go.Ground.phase }, { on := 7, ground := Go.Ground.phase }, { on := 8, ground := Go.Ground.phase }, { on := 9, ground := Go.Ground.phase }, { on := 10, ground := Go.Ground.phase }, { on := 11, ground := Go.Ground.phase }, { on := 12, ground := Go.Ground.phase }, { on := 13, ground := Go.Ground.phase }, { on := 14, ground := Go.Ground.phase }], guard := none }) ?_ rfl (by kernel_rfl) (by kernel_rfl) (by kernel_rfl) (fun _ _ _ h => h) (by rfl) (by exact hHeld) ?_ ?_
          rotate_left
          · (intro w0 hS0; (try dsimp only at hS0); obtain ⟨s0, s1, s2, s3, s4, s5⟩ := hS0; clear s0; go_simp <;> (try with_reducible rfl))
          try simp only [Act.put, List.setIfInBounds_toArray, List.set_cons_zero, List.set_cons_succ]
          refine wpAnyH_done (by kernel_rfl) ?_ _
          clear d0 d7 d9 hr9 hW7 hAt c2 a0 a1 a2 a3 hjn HW7
          go_wp2_with fail
          exact ⟨⟨k + 1, A9, c9, by push_cast; rfl, by omega, rfl, HO9⟩, by simp only [Go.RowKit.intOf]; omega⟩
        · obtain rfl : nl = k := by omega
          have hq := HQ.out
          rw [List.take_of_length_le (by have := HNM.out; omega)] at hq
          have HQ2 := Lib.hid (And.intro (ownM_base hq.1 HI.out.2.size) (HI.out.2.trans (hq.2.mono HI.out.2.size)))
          clear hq HQ
          go_wp2_with fail
          go_ret
          rw [HNM.out]
          exact ⟨⟨_, _, rfl, HQ2.out.1⟩, HQ2.out.2⟩
end Go.Proofs.YtmgnhbihfgpccaaGreatDoor
end
