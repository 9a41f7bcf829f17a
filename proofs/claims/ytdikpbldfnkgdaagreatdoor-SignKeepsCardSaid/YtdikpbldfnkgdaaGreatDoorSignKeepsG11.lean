/- Texts of this proof, one behind the other. -/
import Derived.Test.YtdikpbldfnkgdaaGreatDoorSignKeepsG10
section
/- Layer 17: Cap, no such word. -/
namespace Go.Proofs.YtdikpbldfnkgdaaGreatDoor
set_option linter.unusedVariables false
set_option linter.unusedSimpArgs false
open Go Go.RowKit

set_option maxRecDepth 100000 in
set_option maxHeartbeats 8000000 in
theorem cap_else (server : List UInt8) (v : BitVec 64) (t : Bool) (p u r : ByteArray) (nn : List UInt8) (d : Bool) (A : Option Addr) (c : Nat) (ps : List (List UInt8)) (w : World) (hm : Mx w) (hp : PowW w) (hK : Known w) (hT : Lib.Utf8Tabs 2 3 w) (hR : ReadsT w A ps) (h3 : server.length ≤ 1000) (h4 : nn.length ≤ 1000) (h5 : ps.length ≤ 1000) (h6 : ∀ i, (ps.getD i []).length ≤ 1000) (hq0 : ((capWord (bs (ps.getD 0 []))).toList == [76, 83]) = false) (hq1 : ((capWord (bs (ps.getD 0 []))).toList == [76, 73, 83, 84]) = false) (hq2 : ((capWord (bs (ps.getD 0 []))).toList == [82, 69, 81]) = false) (hq3 : ((capWord (bs (ps.getD 0 []))).toList == [69, 78, 68]) = false) :
    Calls Tryz.prog 8 #[.string (bs server), sgn (IV v) t p (bs nn) u r d, .slice A ps.length c] w (SgCap t p (bs nn) u r d w) := by
  obtain ⟨N, hN⟩ : ∃ N, w.heap.size = N := ⟨_, rfl⟩
  obtain ⟨W0, hW0⟩ : ∃ W0, (((w.alloc (.cells #[.string (bs server)] 9)).alloc (.cells (sgC (IV v) t p (bs nn) u r d) 23)).alloc (.cells (sgC 0 false ⟨#[]⟩ ⟨#[]⟩ ⟨#[]⟩ ⟨#[]⟩ false) 23)) = W0 := ⟨_, rfl⟩
  have b0 : RowKit.Below w.heap.size w W0 := by rw [← hW0]; exact (((Below.refl _ w).alloc (Nat.le_refl _) _).alloc (by simp) _).alloc (by simp; omega) _
  have kS : W0.heap[N]? = some (.cells #[.string (bs server)] 9 (0, 0)) := by rw [← hW0, ← hN]; exact blk_alloc (blk_alloc (heap_alloc_new w _) _) _
  have k0 : W0.heap[N + 1]? = some (.cells (sgC (IV v) t p (bs nn) u r d) 23 (0, 0)) := by rw [← hW0, ← hN]; exact blk_alloc (heap_alloc2_new w _ _) _
  have k1 : W0.heap[N + 1 + 1]? = some (.cells (sgC 0 false ⟨#[]⟩ ⟨#[]⟩ ⟨#[]⟩ ⟨#[]⟩ false) 23 (0, 0)) := by
    have h := heap_alloc2_new (w.alloc (.cells #[.string (bs server)] 9)) (.cells (sgC (IV v) t p (bs nn) u r d) 23) (.cells (sgC 0 false ⟨#[]⟩ ⟨#[]⟩ ⟨#[]⟩ ⟨#[]⟩ false) 23)
    rw [World.size_alloc, hN, hW0] at h
    exact h
  have HPA := Lib.hid (fun (i : Nat) W (hb : RowKit.Below w.heap.size w W) => param_any A c ps i W (readsT_below hR hb (Nat.le_refl _)) (by omega))
  have HWU := Lib.hid (fun W (hb : RowKit.Below w.heap.size w W) => word_up (bs (ps.getD 0 [])) W (by have := h6 0; show (ps.getD 0 []).toArray.size ≤ 1000000; rw [List.size_toArray]; omega) (utf8_kept hT hb))
  have HSY := Lib.hid (fun (verb text : List UInt8) (W : World) (hb : RowKit.Below w.heap.size w W) (h1 : W.heap[N]? = some (.cells #[.string (bs server)] 9 (0, 0))) (k2 : Int) (t2 : Bool) (h2 : W.heap[N + 1]? = some (.cells (sgC k2 t2 p (bs nn) u r d) 23 (0, 0))) (l3 : verb.length ≤ 90000) (l4 : text.length ≤ 90000) => say_any server nn verb text N (N + 1) W (blk_cell h1 0) (blk_cell h2 3) (mx_kept hm hb (Nat.le_refl _)) (by omega) (by omega) l3 l4)
  obtain ⟨r0, hr0⟩ : ∃ r0, ps.getD 0 [] = r0 := ⟨_, rfl⟩
  have h0l : r0.length ≤ 1000 := by rw [← hr0]; exact h6 0
  have HP0 : Hid (∀ W, RowKit.Below w.heap.size w W → Calls Tryz.prog 17 #[.slice A ps.length c, .int .i64 0] W fun e w' => e = .returned (.string (bs r0)) ∧ RowKit.Below W.heap.size W w') := Lib.hid (fun W hb => by
    have h := param_any A c ps 0 W (readsT_below hR hb (Nat.le_refl _)) (by omega)
    rw [hr0] at h
    exact h)
  have HTO : Hid (∀ V : World, RowKit.Below w.heap.size w (V.alloc (.cells #[.string (bs r0)] 9)) → Calls Tryz.prog 10 #[.string (bs server), .int .i64 410, .string (bs nn), .slice (some ⟨V.heap.size, 0, none⟩) 1 1] (V.alloc (.cells #[.string (bs r0)] 9)) fun e w' => e = .returned (.string (bs (toldL server nn 410 [r0]))) ∧ Fr (fun _ => False) (V.alloc (.cells #[.string (bs r0)] 9)) w') := Lib.hid (fun V hb =>
    (told_any server nn 410 (some ⟨V.heap.size, 0, none⟩) 1 [r0] _ (reads1 V r0) (mx_kept hm hb (Nat.le_refl _)) (PowW.below hp hb) (by decide) (by decide) (by simp) (by omega) (by omega) (fun p hp => by rw [List.mem_singleton.1 hp]; omega)).mono fun e w' ⟨h1, h2⟩ => ⟨h1, Fr.of_below h2⟩)
  obtain ⟨tx, htx⟩ : ∃ tx, toldL server nn 410 [r0] = tx := ⟨_, rfl⟩
  rw [htx] at HTO
  clear htx hr0 h0l
  have H := Lib.hid (And.intro b0 (And.intro kS (And.intro k0 (And.intro k1 hN))))
  have HW := Lib.hid hW0
  have HH6 := Lib.hid h6
  clear hm hp hK hT hR b0 kS k0 k1 hW0 hN h6
  obtain ⟨n, hnn⟩ : ∃ n, bs nn = n := ⟨_, rfl⟩
  obtain ⟨sv, hsv⟩ : ∃ sv, bs server = sv := ⟨_, rfl⟩
  rw [hnn] at HSY H HW HTO ⊢
  rw [hsv] at HSY H HW HTO ⊢
  unfold sgn
  go_enter Tryz.func8, Tryz.ntmps8
  have hW0 := HW.out
  have hN := H.out.2.2.2.2
  unfold sgC at hW0
  go_wp2_with fail
  clear hW0
  refine (HPA.out 0 W0 H.out.1).mono ?_
  rintro e w1 ⟨rfl, hb1⟩
  have HB1 := Lib.hid (H.out.1.trans (hb1.mono H.out.1.size))
  have F1 := Lib.hid (Fr.of_below (X := fun _ => False) hb1)
  clear hb1
  go_wp2_with fail
  refine (HWU.out w1 HB1.out).mono ?_
  rintro e w2 ⟨rfl, hb2⟩
  have HB := Lib.hid (HB1.out.trans (hb2.mono HB1.out.size))
  have f2 : Fr (fun _ => False) W0 w2 := F1.out.trans3 (Fr.of_below (X := fun _ => False) hb2) fun _ _ e => e.elim
  have jS := f2.blk H.out.2.1 fun e => e
  have j0 := f2.blk H.out.2.2.1 fun e => e
  have j1 := f2.blk H.out.2.2.2.1 fun e => e
  have HJ := Lib.hid (And.intro jS (And.intro j0 j1))
  clear hb2 f2 jS j0 j1 HB1 F1 H HW
  obtain ⟨wd, hwd⟩ : ∃ wd, capWord (bs (ps.getD 0 [])) = wd := ⟨_, rfl⟩
  rw [hwd] at hq0 hq1 hq2 hq3 ⊢
  clear hwd
  go_wp2_with fail
  clear hq0 hq1 hq2 hq3
  obtain ⟨jS, j0, j1⟩ := HJ.out
  clear jS j0 j1
  have z0 : w2.heap[N + 1]? = some (.cells (sgC (IV v) t p n u r d) 23 (0, 0)) := (HJ.out.2.1)
  have zf : Fr (fun k => k = N + 1) w2 w2 := (Fr.refl (fun k => k = N + 1) w2)
  have zS := zf.blk HJ.out.1 (by omega)
  have zX := zf.blk HJ.out.2.2 (by omega)
  have zB : RowKit.Below w.heap.size w w2 := HB.out.trans (zf.below HB.out.size fun k hk e => by omega)
  obtain ⟨W3, hW3⟩ : ∃ W3, w2 = W3 := ⟨_, rfl⟩
  rw [hW3] at z0 zf zS zX zB ⊢
  have HB2 := Lib.hid zB
  have HZ := Lib.hid (And.intro zS (And.intro z0 zX))
  have HN := Lib.hid hN
  clear hW3 z0 zf zS zX zB hN
  have hS0 : W3.drew.heap[N]? = some (.cells #[.string sv] 9 (0, 0)) ∧ W3.drew.heap[N + 1]? = some (.cells (sgC (IV v) t p n u r d) 23 (0, 0)) := ⟨HZ.out.1, HZ.out.2.1⟩
  have hX : W3.drew.heap[N + 1 + 1]? = some (.cells (sgC 0 false ⟨#[]⟩ ⟨#[]⟩ ⟨#[]⟩ ⟨#[]⟩ false) 23 (0, 0)) := HZ.out.2.2
  have hF : Fr (fun k => k = N + 1 + 1) W3 W3.drew := (Fr.refl _ _).drew
  refine wp_region_held_drew (S := fun V => V.heap[N]? = some (.cells #[.string sv] 9 (0, 0)) ∧ V.heap[N + 1]? = some (.cells (sgC (IV v) t p n u r d) 23 (0, 0))) (by kernel_rfl) (by exact hS0) (fun hHeld => ?_)
  refine wpAnyH_read (i := 2) (oi := { dst := some 67, op := Go.Op.fieldAddr 23 (Go.Operand.tmp 4) 3, type := 0, pos := "sign.go:52", after := #[], guard := none }) ?_ rfl (by kernel_rfl) (by kernel_rfl) (by kernel_rfl) (fun _ _ _ h => h) (by rfl) (by exact hHeld) ?_ ?_
  rotate_left
  · (intro w0 hS0; have s0 := blk_cell hS0.2 0; have s1 := blk_cell hS0.2 1; have s2 := blk_cell hS0.2 2; have s3 := blk_cell hS0.2 3; have s4 := blk_cell hS0.2 4; have s5 := blk_cell hS0.2 5; have s6 := blk_cell hS0.2 6; have s7 := blk_cell hS0.1 0; go_simp <;> (try with_reducible rfl))
  try simp only [Act.put, List.setIfInBounds_toArray, List.set_cons_zero, List.set_cons_succ]
  refine wpAnyH_read (i := 4) (oi := { dst := some 69, op := Go.Op.move (Go.Operand.tmp 2), type := 24, pos := "sign.go:52", after := #[], guard := none }) ?_ rfl (by kernel_rfl) (by kernel_rfl) (by kernel_rfl) (fun _ _ _ h => h) (by rfl) (by exact hHeld) ?_ ?_
  rotate_left
  · (intro w0 hS0; have s0 := blk_cell hS0.2 0; have s1 := blk_cell hS0.2 1; have s2 := blk_cell hS0.2 2; have s3 := blk_cell hS0.2 3; have s4 := blk_cell hS0.2 4; have s5 := blk_cell hS0.2 5; have s6 := blk_cell hS0.2 6; have s7 := blk_cell hS0.1 0; go_simp <;> (try with_reducible rfl))
  try simp only [Act.put, List.setIfInBounds_toArray, List.set_cons_zero, List.set_cons_succ]
  refine wpAnyH_read (i := 0) (oi := { dst := some 65, op := Go.Op.load 23 (Go.Operand.tmp 4), type := 23, pos := "sign.go:52", after := #[], guard := none }) ?_ rfl (by kernel_rfl) (by kernel_rfl) (by kernel_rfl) (fun _ _ _ h => h) (by rfl) (by exact hHeld) ?_ ?_
  rotate_left
  · (intro w0 hS0; have s0 := blk_cell hS0.2 0; have s1 := blk_cell hS0.2 1; have s2 := blk_cell hS0.2 2; have s3 := blk_cell hS0.2 3; have s4 := blk_cell hS0.2 4; have s5 := blk_cell hS0.2 5; have s6 := blk_cell hS0.2 6; have s7 := blk_cell hS0.1 0; go_simp <;> (try with_reducible rfl))
  try simp only [Act.put, List.setIfInBounds_toArray, List.set_cons_zero, List.set_cons_succ]
  refine wpAnyH_read (i := 1) (oi := { dst := some 66, op := Go.Op.load 9 (Go.Operand.tmp 3), type := 9, pos := "sign.go:52", after := #[], guard := none }) ?_ rfl (by kernel_rfl) (by kernel_rfl) (by kernel_rfl) (fun _ _ _ h => h) (by rfl) (by exact hHeld) ?_ ?_
  rotate_left
  · (intro w0 hS0; have s0 := blk_cell hS0.2 0; have s1 := blk_cell hS0.2 1; have s2 := blk_cell hS0.2 2; have s3 := blk_cell hS0.2 3; have s4 := blk_cell hS0.2 4; have s5 := blk_cell hS0.2 5; have s6 := blk_cell hS0.2 6; have s7 := blk_cell hS0.1 0; go_simp <;> (try with_reducible rfl))
  try simp only [Act.put, List.setIfInBounds_toArray, List.set_cons_zero, List.set_cons_succ]
  refine wpAnyH_read (i := 3) (oi := { dst := some 68, op := Go.Op.load 9 (Go.Operand.tmp 67), type := 9, pos := "sign.go:52", after := #[{ on := 2, ground := Go.Ground.data }], guard := none }) ?_ rfl (by kernel_rfl) (by kernel_rfl) (by kernel_rfl) (fun _ _ _ h => h) (by rfl) (by exact hHeld) ?_ ?_
  rotate_left
  · (intro w0 hS0; have s0 := blk_cell hS0.2 0; have s1 := blk_cell hS0.2 1; have s2 := blk_cell hS0.2 2; have s3 := blk_cell hS0.2 3; have s4 := blk_cell hS0.2 4; have s5 := blk_cell hS0.2 5; have s6 := blk_cell hS0.2 6; have s7 := blk_cell hS0.1 0; go_simp <;> (try with_reducible rfl))
  try simp only [Act.put, List.setIfInBounds_toArray, List.set_cons_zero, List.set_cons_succ]
  refine wpAnyH_one (i := 5) (o := { dst := some 70, op := Go.Op.call { callee := Go.Callee.value (Go.Operand.func 17), args := #[Go.Operand.tmp 69, Go.Operand.const (Go.Value.int Go.IntKind.i64 0)], argTypes := #[24, 3] }, type := 9, pos := "sign.go:52", after := #[{ on := 4, ground := Go.Ground.data }], guard := none }) (by kernel_rfl) rfl (by rfl) (fun K hK => ?_)
  go_simp
  have hbc := HB2.out.trans (hF.below HB2.out.size fun k hk e => by have := HN.out; omega)
  refine (HP0.out _ hbc).mono ?_
  rintro e w6 ⟨rfl, hb6⟩
  have HX := Lib.hid (Fr.of_below (X := fun _ => False) hb6)
  clear hb6 hbc
  refine hK.out _ _ ?_ (fun hHeld => ?_)
  · exact ⟨HX.out.blk hS0.1 fun e => e, HX.out.blk hS0.2 fun e => e⟩
  clear hK K
  try simp only [Act.put, List.setIfInBounds_toArray, List.set_cons_zero, List.set_cons_succ]
  have hS0 := hHeld
  have hX := HX.out.blk hX fun e => e
  have hF := (hF.mono (Y := fun k => k = N + 1 + 1) fun _ _ e => e).trans3 HX.out fun _ _ e => e.elim
  clear HX
  refine wpAnyH_one (i := 6) (o := { dst := some 71, op := Go.Op.buildSlice 24 1 #[(0, Go.Operand.tmp 70)], type := 24, pos := "sign.go:52", after := #[{ on := 5, ground := Go.Ground.data }], guard := none }) (by kernel_rfl) rfl (by rfl) (fun K hK => ?_)
  go_simp
  refine hK.out _ _ ?_ (fun hHeld => ?_)
  · exact ⟨blk_alloc hS0.1 _, blk_alloc hS0.2 _⟩
  clear hK K
  try simp only [Act.put, List.setIfInBounds_toArray, List.set_cons_zero, List.set_cons_succ]
  have hS0 := hHeld
  have hX := blk_alloc hX (Obj.cells #[Value.string (bs r0)] 9)
  have hF := hF.alloc (Obj.cells #[Value.string (bs r0)] 9)
  refine wpAnyH_one (i := 7) (o := { dst := some 72, op := Go.Op.call { callee := Go.Callee.value (Go.Operand.func 10), args := #[Go.Operand.tmp 66, Go.Operand.const (Go.Value.int Go.IntKind.i64 410), Go.Operand.tmp 68, Go.Operand.tmp 71], argTypes := #[9, 3, 9, 24] }, type := 9, pos := "sign.go:52", after := #[{ on := 1, ground := Go.Ground.data }, { on := 3, ground := Go.Ground.data }, { on := 6, ground := Go.Ground.data }, { on := 5, ground := Go.Ground.chain }], guard := none }) (by kernel_rfl) rfl (by rfl) (fun K hK => ?_)
  go_simp
  have hbc := HB2.out.trans (hF.below HB2.out.size fun k hk e => by have := HN.out; omega)
  refine (HTO.out _ hbc).mono ?_
  rintro e w7 ⟨rfl, hf7⟩
  have HX := Lib.hid hf7
  clear hf7 hbc
  refine hK.out _ _ ?_ (fun hHeld => ?_)
  · exact ⟨HX.out.blk hS0.1 fun e => e, HX.out.blk hS0.2 fun e => e⟩
  clear hK K
  try simp only [Act.put, List.setIfInBounds_toArray, List.set_cons_zero, List.set_cons_succ]
  have hS0 := hHeld
  have hX := HX.out.blk hX fun e => e
  have hF := (hF.mono (Y := fun k => k = N + 1 + 1) fun _ _ e => e).trans3 HX.out fun _ _ e => e.elim
  clear HX
  have q0 := blk_cell hX 0; have q1 := blk_cell hX 1; have q2 := blk_cell hX 2; have q3 := blk_cell hX 3; have q4 := blk_cell hX 4; have q5 := blk_cell hX 5; have q6 := blk_cell hX 6; have f0 := blk_free hX 0; have f1 := blk_free hX 1; have f2 := blk_free hX 2; have f3 := blk_free hX 3; have f4 := blk_free hX 4; have f5 := blk_free hX 5; have f6 := blk_free hX 6
  refine wpAnyH_two (i := 8) (j := 9) (o := { dst := some 73, op := Go.Op.buildSlice 24 1 #[(0, Go.Operand.tmp 72)], type := 24, pos := "sign.go:52", after := #[{ on := 7, ground := Go.Ground.data }, { on := 9, ground := Go.Ground.gcOnly Go.Departure.lateStores }], guard := none }) (o2 := { dst := none, op := Go.Op.store 23 (Go.Operand.tmp 6) (Go.Operand.tmp 65), type := 0, pos := "sign.go:52", after := #[{ on := 0, ground := Go.Ground.data }, { on := 7, ground := Go.Ground.chain }, { on := 0, ground := Go.Ground.phase }, { on := 1, ground := Go.Ground.textOnly Go.Departure.lateStores }, { on := 2, ground := Go.Ground.textOnly Go.Departure.lateStores }, { on := 3, ground := Go.Ground.textOnly Go.Departure.lateStores }, { on := 4, ground := Go.Ground.textOnly Go.Departure.lateStores }, { on := 5, ground := Go.Ground.textOnly Go.Departure.lateStoresUnsure }, { on := 6, ground := Go.Ground.textOnly Go.Departure.lateStores }, { on := 7, ground := Go.Ground.textOnly Go.Departure.lateStoresUnsure }, { on := 8, ground := Go.Ground.textOnly Go.Departure.lateStores }], guard := none }) (by kernel_rfl) rfl rfl (by rfl) (by rfl) (fun K hK => ?_) (fun K hK => ?_)
  · go_simp
    refine hK.out _ _ ?_ (fun hHeld => ?_)
    · exact ⟨blk_alloc hS0.1 _, blk_alloc hS0.2 _⟩
    clear hK K
    try simp only [Act.put, List.setIfInBounds_toArray, List.set_cons_zero, List.set_cons_succ]
    have hS0 := hHeld
    have hX := blk_alloc hX (Obj.cells #[Value.string (bs tx)] 9)
    have hF := hF.alloc (Obj.cells #[Value.string (bs tx)] 9)
    clear q0 q1 q2 q3 q4 q5 q6 f0 f1 f2 f3 f4 f5 f6
    have q0 := blk_cell hX 0; have q1 := blk_cell hX 1; have q2 := blk_cell hX 2; have q3 := blk_cell hX 3; have q4 := blk_cell hX 4; have q5 := blk_cell hX 5; have q6 := blk_cell hX 6; have f0 := blk_free hX 0; have f1 := blk_free hX 1; have f2 := blk_free hX 2; have f3 := blk_free hX 3; have f4 := blk_free hX 4; have f5 := blk_free hX 5; have f6 := blk_free hX 6
    refine wpAnyH_one (i := 9) (o := { dst := none, op := Go.Op.store 23 (Go.Operand.tmp 6) (Go.Operand.tmp 65), type := 0, pos := "sign.go:52", after := #[{ on := 0, ground := Go.Ground.data }, { on := 7, ground := Go.Ground.chain }, { on := 0, ground := Go.Ground.phase }, { on := 1, ground := Go.Ground.textOnly Go.Departure.lateStores }, { on := 2, ground := Go.Ground.textOnly Go.Departure.lateStores }, { on := 3, ground := Go.Ground.textOnly Go.Departure.lateStores }, { on := 4, ground := Go.Ground.textOnly Go.Departure.lateStores }, { on := 5, ground := Go.Ground.textOnly Go.Departure.lateStoresUnsure }, { on := 6, ground := Go.Ground.textOnly Go.Departure.lateStores }, { on := 7, ground := Go.Ground.textOnly Go.Departure.lateStoresUnsure }, { on := 8, ground := Go.Ground.textOnly Go.Departure.lateStores }], guard := none }) (by kernel_rfl) rfl (by rfl) (fun K hK => ?_)
    go_simp
    refine hK.out _ _ ?_ (fun hHeld => ?_)
    · exact ⟨set7_oth hS0.1 (by omega), set7_oth hS0.2 (by omega)⟩
    clear hK K
    try simp only [Act.put, List.setIfInBounds_toArray, List.set_cons_zero, List.set_cons_succ]
    have hS0 := hHeld
    have hX := set7 (v0 := .int .i64 (IV v)) (v1 := .bool t) (v2 := .string p) (v3 := .string n) (v4 := .string u) (v5 := .string r) (v6 := .bool d) hX
    have hF := set7_fr (v0 := .int .i64 (IV v)) (v1 := .bool t) (v2 := .string p) (v3 := .string n) (v4 := .string u) (v5 := .string r) (v6 := .bool d) hF rfl
    clear q0 q1 q2 q3 q4 q5 q6 f0 f1 f2 f3 f4 f5 f6
    have q0 := blk_cell hX 0; have q1 := blk_cell hX 1; have q2 := blk_cell hX 2; have q3 := blk_cell hX 3; have q4 := blk_cell hX 4; have q5 := blk_cell hX 5; have q6 := blk_cell hX 6; have f0 := blk_free hX 0; have f1 := blk_free hX 1; have f2 := blk_free hX 2; have f3 := blk_free hX 3; have f4 := blk_free hX 4; have f5 := blk_free hX 5; have f6 := blk_free hX 6
    refine wpAnyH_read (i := 10) (oi := { dst := some 7, op := Go.Op.assign (Go.Operand.tmp 73), type := 24, pos := "sign.go:52", after := #[{ on := 8, ground := Go.Ground.data }, { on := 9, ground := Go.Ground.chain }, { on := 0, ground := Go.Ground.phase }, { on := 1, ground := Go.Ground.phase }, { on := 2, ground := Go.Ground.phase }, { on := 3, ground := Go.Ground.phase }, { on := 4, ground := Go.Ground.phase }, { on := 5, ground := Go.Ground.phase }, { on := 6, ground := Go.Ground.phase }, { on := 7, ground := Go.Ground.phase }, { on := 8, ground := Go.Ground.phase }, { on := 9, ground := Go.Ground.phase }], guard := none }) ?_ rfl (by kernel_rfl) (by kernel_rfl) (by kernel_rfl) (fun _ _ _ h => h) (by rfl) (by exact hHeld) ?_ ?_
    rotate_left
    · (intro w0 hS0; have s0 := blk_cell hS0.2 0; have s1 := blk_cell hS0.2 1; have s2 := blk_cell hS0.2 2; have s3 := blk_cell hS0.2 3; have s4 := blk_cell hS0.2 4; have s5 := blk_cell hS0.2 5; have s6 := blk_cell hS0.2 6; have s7 := blk_cell hS0.1 0; go_simp <;> (try with_reducible rfl))
    try simp only [Act.put, List.setIfInBounds_toArray, List.set_cons_zero, List.set_cons_succ]
    refine wpAnyH_done (by kernel_rfl) ?_ _
    go_wp2_with fail
    refine bodyPost_ret (res_seven rfl rfl (Tryz.isAgg23 _) (Tryz.sizeOf23 _) hX) rfl ⟨⟨_, _, _, _, _, rfl, fun h1 h2 => h2⟩, HB2.out.trans (hF.below HB2.out.size fun k hk e => by have := HN.out; omega)⟩
  · go_simp
    refine hK.out _ _ ?_ (fun hHeld => ?_)
    · exact ⟨set7_oth hS0.1 (by omega), set7_oth hS0.2 (by omega)⟩
    clear hK K
    try simp only [Act.put, List.setIfInBounds_toArray, List.set_cons_zero, List.set_cons_succ]
    have hS0 := hHeld
    have hX := set7 (v0 := .int .i64 (IV v)) (v1 := .bool t) (v2 := .string p) (v3 := .string n) (v4 := .string u) (v5 := .string r) (v6 := .bool d) hX
    have hF := set7_fr (v0 := .int .i64 (IV v)) (v1 := .bool t) (v2 := .string p) (v3 := .string n) (v4 := .string u) (v5 := .string r) (v6 := .bool d) hF rfl
    clear q0 q1 q2 q3 q4 q5 q6 f0 f1 f2 f3 f4 f5 f6
    have q0 := blk_cell hX 0; have q1 := blk_cell hX 1; have q2 := blk_cell hX 2; have q3 := blk_cell hX 3; have q4 := blk_cell hX 4; have q5 := blk_cell hX 5; have q6 := blk_cell hX 6; have f0 := blk_free hX 0; have f1 := blk_free hX 1; have f2 := blk_free hX 2; have f3 := blk_free hX 3; have f4 := blk_free hX 4; have f5 := blk_free hX 5; have f6 := blk_free hX 6
    refine wpAnyH_one (i := 8) (o := { dst := some 73, op := Go.Op.buildSlice 24 1 #[(0, Go.Operand.tmp 72)], type := 24, pos := "sign.go:52", after := #[{ on := 7, ground := Go.Ground.data }, { on := 9, ground := Go.Ground.gcOnly Go.Departure.lateStores }], guard := none }) (by kernel_rfl) rfl (by rfl) (fun K hK => ?_)
    go_simp
    refine hK.out _ _ ?_ (fun hHeld => ?_)
    · exact ⟨blk_alloc hS0.1 _, blk_alloc hS0.2 _⟩
    clear hK K
    try simp only [Act.put, List.setIfInBounds_toArray, List.set_cons_zero, List.set_cons_succ]
    have hS0 := hHeld
    have hX := blk_alloc hX (Obj.cells #[Value.string (bs tx)] 9)
    have hF := hF.alloc (Obj.cells #[Value.string (bs tx)] 9)
    clear q0 q1 q2 q3 q4 q5 q6 f0 f1 f2 f3 f4 f5 f6
    have q0 := blk_cell hX 0; have q1 := blk_cell hX 1; have q2 := blk_cell hX 2; have q3 := blk_cell hX 3; have q4 := blk_cell hX 4; have q5 := blk_cell hX 5; have q6 := blk_cell hX 6; have f0 := blk_free hX 0; have f1 := blk_free hX 1; have f2 := blk_free hX 2; have f3 := blk_free hX 3; have f4 := blk_free hX 4; have f5 := blk_free hX 5; have f6 := blk_free hX 6
    refine wpAnyH_read (i := 10) (oi := { dst := some 7, op := Go.Op.assign (Go.Operand.tmp 73), type := 24, pos := "sign.go:52", after := #[{ on := 8, ground := Go.Ground.data }, { on := 9, ground := Go.Ground.chain }, { on := 0, ground := Go.Ground.phase }, { on := 1, ground := Go.Ground.phase }, { on := 2, ground := Go.Ground.phase }, { on := 3, ground := Go.Ground.phase }, { on := 4, ground := Go.Ground.phase }, { on := 5, ground := Go.Ground.phase }, { on := 6, ground := Go.Ground.phase }, { on := 7, ground := Go.Ground.phase }, { on := 8, ground := Go.Ground.phase }, { on := 9, ground := Go.Ground.phase }], guard := none }) ?_ rfl (by kernel_rfl) (by kernel_rfl) (by kernel_rfl) (fun _ _ _ h => h) (by rfl) (by exact hHeld) ?_ ?_
    rotate_left
    · (intro w0 hS0; have s0 := blk_cell hS0.2 0; have s1 := blk_cell hS0.2 1; have s2 := blk_cell hS0.2 2; have s3 := blk_cell hS0.2 3; have s4 := blk_cell hS0.2 4; have s5 := blk_cell hS0.2 5; have s6 := blk_cell hS0.2 6; have s7 := blk_cell hS0.1 0; go_simp <;> (try with_reducible rfl))
    try simp only [Act.put, List.setIfInBounds_toArray, List.set_cons_zero, List.set_cons_succ]
    refine wpAnyH_done (by kernel_rfl) ?_ _
    go_wp2_with fail
    refine bodyPost_ret (res_seven rfl rfl (Tryz.isAgg23 _) (Tryz.sizeOf23 _) hX) rfl ⟨⟨_, _, _, _, _, rfl, fun h1 h2 => h2⟩, HB2.out.trans (hF.below HB2.out.size fun k hk e => by have := HN.out; omega)⟩
end Go.Proofs.YtdikpbldfnkgdaaGreatDoor
end
section
/- Layer 17: the laws' great and awake. -/
namespace Go.Proofs.YtdikpbldfnkgdaaGreatDoor
set_option linter.unusedVariables false
set_option linter.unusedSimpArgs false
open Go Go.RowKit Go.Lib

def GrOk (p n u r : ByteArray) (ps : List (List UInt8)) : Prop := ps.length ≤ 20 ∧ n.size ≤ 100 ∧ u.size ≤ 100 ∧ r.size ≤ 100 ∧ p.size ≤ 100 ∧ ∀ x ∈ ps, x.length ≤ 100
def GrP (p n u r : ByteArray) (ps : List (List UInt8)) (w : World) (e : Ending) (w' : World) : Prop := ∃ b, e = .returned (.bool b) ∧ (b = false → GrOk p n u r ps) ∧ Below w.heap.size w w'
set_option maxRecDepth 100000 in
set_option maxHeartbeats 8000000 in
theorem great17 (k : Int) (t : Bool) (p n u r : ByteArray) (d : Bool) (A : Option Addr) (c : Nat) (ps : List (List UInt8)) (w : World) (hR : ReadsT w A ps) (hl : ps.length ≤ 9223372036854775807) :
    Calls Tryz.prog 5 #[.string ⟨#[]⟩, sgn k t p n u r d, .slice A ps.length c] w (GrP p n u r ps w) := by
  unfold sgn
  by_cases y0 : 20 < ps.length
  · have q0 : (20 : Int) < (ps.length : Nat) := by omega
    clear hR y0
    go_enter Tryz.func5, Tryz.ntmps5
    go_wp2_with fail
    go_ret
    exact ⟨true, rfl, fun h => (by cases h), (Below.refl _ _).alloc (Nat.le_refl _) _⟩
  have q0 : ¬ (20 : Int) < (ps.length : Nat) := by omega
  by_cases y1 : 100 < n.size
  · have q1 : (100 : Int) < (n.size : Nat) := by omega
    clear hR y0 y1
    go_enter Tryz.func5, Tryz.ntmps5
    go_wp2_with fail
    go_ret
    exact ⟨true, rfl, fun h => (by cases h), (Below.refl _ _).alloc (Nat.le_refl _) _⟩
  have q1 : ¬ (100 : Int) < (n.size : Nat) := by omega
  by_cases y2 : 100 < u.size
  · have q2 : (100 : Int) < (u.size : Nat) := by omega
    clear hR y0 y1 y2
    go_enter Tryz.func5, Tryz.ntmps5
    go_wp2_with fail
    go_ret
    exact ⟨true, rfl, fun h => (by cases h), (Below.refl _ _).alloc (Nat.le_refl _) _⟩
  have q2 : ¬ (100 : Int) < (u.size : Nat) := by omega
  by_cases y3 : 100 < r.size
  · have q3 : (100 : Int) < (r.size : Nat) := by omega
    clear hR y0 y1 y2 y3
    go_enter Tryz.func5, Tryz.ntmps5
    go_wp2_with fail
    go_ret
    exact ⟨true, rfl, fun h => (by cases h), (Below.refl _ _).alloc (Nat.le_refl _) _⟩
  have q3 : ¬ (100 : Int) < (r.size : Nat) := by omega
  by_cases y4 : 100 < p.size
  · have q4 : (100 : Int) < (p.size : Nat) := by omega
    clear hR y0 y1 y2 y3 y4
    go_enter Tryz.func5, Tryz.ntmps5
    go_wp2_with fail
    go_ret
    exact ⟨true, rfl, fun h => (by cases h), (Below.refl _ _).alloc (Nat.le_refl _) _⟩
  have q4 : ¬ (100 : Int) < (p.size : Nat) := by omega
  have HQ : Hid (ps.length ≤ 20 ∧ n.size ≤ 100 ∧ u.size ≤ 100 ∧ r.size ≤ 100 ∧ p.size ≤ 100) := ⟨by omega, by omega, by omega, by omega, by omega⟩
  obtain ⟨W0, hW0⟩ : ∃ W0, w.alloc (.cells (sgC k t p n u r d) 23) = W0 := ⟨_, rfl⟩
  have b0 : Below w.heap.size w W0 := by rw [← hW0]; exact (Below.refl _ w).alloc (Nat.le_refl _) _
  have HR := Lib.hid (And.intro (readsT_below hR b0 (Nat.le_refl _)) b0)
  clear hR y0 y1 y2 y3 y4 b0
  have k0 : W0.heap[w.heap.size]? = some (.cells (sgC k t p n u r d) 23 (0, 0)) := by rw [← hW0]; exact heap_alloc_new w _
  obtain ⟨c0, c1, c2, c3, c4, c5, c6⟩ := box7_blk k0
  clear k0
  unfold sgC at hW0
  go_enter Tryz.func5, Tryz.ntmps5
  go_wp2_with fail
  clear q1 q2 q3 q4 c0 c1 c2 c3 c4 c5 c6
  go_loopw [7] (fun i wr => ∃ k : Nat, k ≤ ps.length ∧ i = .int .i64 k ∧ (∀ j (h : j < ps.length), j < k → ps[j].length ≤ 100) ∧ wr = W0) (fun i _ => ps.length - (RowKit.intOf i).toNat)
  case atStart => exact ⟨0, Nat.zero_le _, rfl, fun _ _ h => absurd h (Nat.not_lt_zero _), rfl⟩
  case round =>
    obtain ⟨k2, hk, rfl, hall, rfl⟩ := hrel
    have HALL := Lib.hid hall
    clear hall
    by_cases hlt : k2 < ps.length
    · obtain ⟨g, o, rfl, hg, hc⟩ := HR.out.1 (by omega)
      have c3 := hc k2 hlt
      have hsz : (bs ps[k2]).size = ps[k2].length := by show ps[k2].toArray.size = _; simp
      obtain ⟨xb, hxb⟩ : ∃ xb, bs ps[k2] = xb := ⟨_, rfl⟩
      rw [hxb] at c3 hsz
      have HX := Lib.hid hsz
      clear hc hxb hsz
      by_cases hb1 : 100 < xb.size
      · have hb2 : (100 : Int) < (xb.size : Nat) := by omega
        clear hb1
        go_wp2_with fail
        go_ret
        exact ⟨true, rfl, fun h => (by cases h), HR.out.2⟩
      · have hb2 : ¬ (100 : Int) < (xb.size : Nat) := by omega
        have HB1 := Lib.hid hb1
        clear hb1
        go_wp2_with fail
        refine ⟨⟨k2 + 1, by omega, by push_cast; rfl, fun j h hj => ?_, trivial⟩, by simp only [RowKit.intOf]; omega⟩
        rcases Nat.lt_succ_iff_lt_or_eq.1 hj with h1 | rfl
        · exact HALL.out j h h1
        · have := HX.out; have := HB1.out; omega
    · obtain rfl : k2 = ps.length := by omega
      go_wp2_with fail
      go_ret
      refine ⟨false, rfl, fun _ => ⟨HQ.out.1, HQ.out.2.1, HQ.out.2.2.1, HQ.out.2.2.2.1, HQ.out.2.2.2.2, fun x hx => ?_⟩, HR.out.2⟩
      obtain ⟨j, hj, rfl⟩ := List.getElem_of_mem hx
      exact HALL.out j hj hj
end Go.Proofs.YtdikpbldfnkgdaaGreatDoor
end
section
/- Layer 17: Pass, User, Cap of anything; awake. -/
namespace Go.Proofs.YtdikpbldfnkgdaaGreatDoor
set_option linter.unusedVariables false
set_option linter.unusedSimpArgs false
open Go Go.RowKit Go.Lib

theorem bs_sz (l : List UInt8) : (bs l).size = l.length := by show l.toArray.size = _; simp
theorem pass_any (server : List UInt8) (k : Int) (t : Bool) (p u r : ByteArray) (nn : List UInt8) (d : Bool) (A : Option Addr) (c : Nat) (ps : List (List UInt8)) (w : World) (hm : Mx w) (hp : PowW w) (hR : ReadsT w A ps) (h3 : server.length ≤ 1000) (h4 : nn.length ≤ 1000) :
    Calls Tryz.prog 6 #[.string (bs server), sgn k t p (bs nn) u r d, .slice A ps.length c] w (SgPass k t p (bs nn) u r d w) := by
  cases d with
  | true => exact pass_done server k t p u r nn A c ps w hm hp h3 h4
  | false =>
    by_cases h : ps.length = 0
    · rw [h]; exact pass_none server k t p u r nn A c w hm hp h3 h4
    · obtain ⟨g, o, rfl, hg, hc⟩ := hR (by omega)
      exact pass_some server k t p (bs nn) u r _ ps.length c w (by omega) (bs ps[0]) ⟨g, o, rfl, hg, hc 0 (by omega)⟩
theorem user_any (server : List UInt8) (k : Int) (t : Bool) (p u r : ByteArray) (nn : List UInt8) (d : Bool) (A : Option Addr) (c : Nat) (ps : List (List UInt8)) (w : World) (hm : Mx w) (hp : PowW w) (hrw : Rowed w) (hR : ReadsT w A ps) (h3 : server.length ≤ 1000) (h4 : nn.length ≤ 1000) (h6 : ∀ x ∈ ps, x.length ≤ 1000) :
    Calls Tryz.prog 7 #[.string (bs server), sgn k t p (bs nn) u r d, .slice A ps.length c] w (SgUser k t p (bs nn) u r d w) := by
  cases d with
  | true => exact user_done server k t p u r nn A c ps w hm hp h3 h4
  | false =>
    by_cases h : ps.length < 4
    · exact user_few server k t p u r nn A ps.length c h w hm hp h3 h4
    · obtain ⟨g, o, rfl, hg, hc⟩ := hR (by omega)
      have l0 : (bs ps[0]).size ≤ 1000000 := by rw [bs_sz]; have := h6 ps[0] (List.getElem_mem _); omega
      have l3 : (bs ps[3]).size ≤ 1000000 := by rw [bs_sz]; have := h6 ps[3] (List.getElem_mem _); omega
      have c0 : w.cell? ⟨g, o, none⟩ = some (.string (bs ps[0])) := hc 0 (by omega)
      have c3 := hc 3 (by omega)
      cases hb : dec (UserP (bs ps[0])) with
      | true => exact user_some server k t p (bs nn) u r _ ps.length c w (by omega) (bs ps[0]) (bs ps[3]) ⟨g, o, rfl, hg, c0, c3⟩ l0 l3 hrw hb
      | false => exact user_bad server k t p u r nn _ ps.length c (by omega) (bs ps[0]) w hm hp h3 h4 ⟨g, o, rfl, hg, c0⟩ l0 hrw hb
theorem word_is {s : ByteArray} {l : List UInt8} (h : (s.toList == l) = true) : s = ⟨l.toArray⟩ := ba_ext (by
  rw [ByteArray.toList_eq] at h
  exact (beq_iff_eq.1 h))
theorem cap_any (server : List UInt8) (v : BitVec 64) (t : Bool) (p u r : ByteArray) (nn : List UInt8) (d : Bool) (A : Option Addr) (c : Nat) (ps : List (List UInt8)) (w : World) (hm : Mx w) (hp : PowW w) (hK : Known w) (hT : Lib.Utf8Tabs 2 3 w) (hR : ReadsT w A ps) (h3 : server.length ≤ 1000) (h4 : nn.length ≤ 1000) (h5 : ps.length ≤ 1000) (h6 : ∀ i, (ps.getD i []).length ≤ 1000) :
    Calls Tryz.prog 8 #[.string (bs server), sgn (IV v) t p (bs nn) u r d, .slice A ps.length c] w (SgCap t p (bs nn) u r d w) := by
  cases e0 : ((capWord (bs (ps.getD 0 []))).toList == [76, 83]) with
  | true => exact cap_ls server v t p u r nn d A c ps w hm hp hK hT hR h3 h4 h5 h6 (word_is e0)
  | false =>
    cases e1 : ((capWord (bs (ps.getD 0 []))).toList == [76, 73, 83, 84]) with
    | true => exact cap_list server v t p u r nn d A c ps w hm hp hK hT hR h3 h4 h5 h6 (word_is e1)
    | false =>
      cases e2 : ((capWord (bs (ps.getD 0 []))).toList == [82, 69, 81]) with
      | true =>
        have hh : Calls Tryz.prog 8 #[.string (bs server), sgn (IV v) t p (bs nn) u r d, .slice A ps.length c] w (SgReq server nn (ps.getD 1 []) v p u r d w) := by
          cases hv : (capV v (ps.getD 1 [])).2 with
          | true => exact cap_ack server v t p u r nn d A c ps w hm hp hK hT hR h3 h4 h5 h6 (word_is e2) hv
          | false => exact cap_nak server v t p u r nn d A c ps w hm hp hK hT hR h3 h4 h5 h6 (word_is e2) hv
        exact hh.mono fun e w' ⟨g, h1, _, h2⟩ => ⟨⟨_, _, _, _, _, h1, fun a b => by rw [a] at b; cases b⟩, h2⟩
      | false =>
        cases e3 : ((capWord (bs (ps.getD 0 []))).toList == [69, 78, 68]) with
        | true => exact cap_end server v t p u r nn d A c ps w hm hp hK hT hR h3 h4 h5 h6 (word_is e3)
        | false => exact cap_else server v t p u r nn d A c ps w hm hp hK hT hR h3 h4 h5 h6 e0 e1 e2 e3
def reqL : List UInt8 := [82, 69, 81]
def awyL : List UInt8 := [97, 119, 97, 121, 45, 110, 111, 116, 105, 102, 121]
def ircL : List UInt8 := [105, 114, 99, 46, 120]
theorem reads2 (w : World) (x y : List UInt8) : ReadsT (w.alloc (.cells #[.string (bs x), .string (bs y)] 9)) (some ⟨w.heap.size, 0, none⟩) [x, y] := fun _ => ⟨_, _, rfl, by simp, fun j hj => by
  have h := heap_alloc_new w (.cells #[.string (bs x), .string (bs y)] 9)
  rcases j with _ | _ | j
  · exact blk_cell h 0
  · exact blk_cell h 1
  · exact absurd hj (by simp only [List.length_cons, List.length_nil]; omega)⟩
theorem aw_cap : IV (capV 0#64 awyL).1 = 1 ∧ (capV 0#64 awyL).2 = true := by decide +kernel
theorem aw_line : bs (makeL ircL capL [[], [65, 67, 75], awyL]) = ⟨#[58, 105, 114, 99, 46, 120, 32, 67, 65, 80, 32, 42, 32, 65, 67, 75, 32, 97, 119, 97, 121, 45, 110, 111, 116, 105, 102, 121]⟩ := by decide +kernel
set_option maxRecDepth 100000 in
set_option maxHeartbeats 8000000 in
theorem awake17 (w : World) (hm : Mx w) (hp : PowW w) (hK : Known w) (hT : Lib.Utf8Tabs 2 3 w) :
    Calls Tryz.prog 4 #[] w fun e w' => e = .returned (.bool true) ∧ Below w.heap.size w w' := by
  have b1 : RowKit.Below w.heap.size w (w.alloc (.cells #[.string (bs reqL), .string (bs awyL)] 9)) := (Below.refl _ w).alloc (Nat.le_refl _) _
  have hC := cap_ack ircL 0#64 false ⟨#[]⟩ ⟨#[]⟩ ⟨#[]⟩ [] false (some ⟨w.heap.size, 0, none⟩) 2 [reqL, awyL] _ (mx_kept hm b1 (Nat.le_refl _)) (PowW.below hp b1) (hK.kept b1) (utf8_kept hT b1) (reads2 w reqL awyL) (by decide) (by decide) (by decide) (fun i => by
    rcases i with _ | _ | i
    · exact (by decide : reqL.length ≤ 1000)
    · exact (by decide : awyL.length ≤ 1000)
    · exact (Nat.zero_le _)) capWord_req aw_cap.2
  have hC2 := hC.mono (R' := fun e w' => ∃ g, e = .returned (.tuple #[sgn 1 true ⟨#[]⟩ ⟨#[]⟩ ⟨#[]⟩ ⟨#[]⟩ false, .slice (some ⟨g, 0, none⟩) 1 1]) ∧ w'.cell? ⟨g, 0, none⟩ = some (.string ⟨#[58, 105, 114, 99, 46, 120, 32, 67, 65, 80, 32, 42, 32, 65, 67, 75, 32, 97, 119, 97, 121, 45, 110, 111, 116, 105, 102, 121]⟩) ∧ RowKit.Below w.heap.size w w') fun e w' ⟨g, h1, h2, h3⟩ => ⟨g, by
    rw [show ([reqL, awyL].getD 1 []) = awyL from rfl, aw_cap.1] at h1
    exact h1, by
    rw [show ([reqL, awyL].getD 1 []) = awyL from rfl, aw_cap.2] at h2
    exact h2.trans (congrArg (fun x => some (Value.string x)) aw_line), b1.trans (h3.mono b1.size)⟩
  have HC := Lib.hid hC2
  clear hC hC2 b1 hm hp hK hT
  unfold sgn at HC
  go_enter Tryz.func4, Tryz.ntmps4
  go_wp2_with fail
  refine HC.out.mono ?_
  rintro e w1 ⟨g, rfl, hc, hb⟩
  have HB := Lib.hid hb
  have hg := World.block_lt_of_cell? _ _ hc
  clear hb
  go_wp2_with fail
  go_ret
  exact ⟨rfl, HB.out.alloc HB.out.size _⟩
end Go.Proofs.YtdikpbldfnkgdaaGreatDoor
end
