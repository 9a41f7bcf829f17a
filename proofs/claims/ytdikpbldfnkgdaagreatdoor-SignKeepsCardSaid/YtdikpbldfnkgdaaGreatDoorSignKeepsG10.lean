/- Texts of this proof, one behind the other. -/
import Derived.Test.YtdikpbldfnkgdaaGreatDoorSignKeepsG9
section
/- Layer 17: Cap, LIST and END. -/
namespace Go.Proofs.YtdikpbldfnkgdaaGreatDoor
set_option linter.unusedVariables false
set_option linter.unusedSimpArgs false
open Go Go.RowKit

set_option maxRecDepth 100000 in
set_option maxHeartbeats 8000000 in
theorem cap_list (server : List UInt8) (v : BitVec 64) (t : Bool) (p u r : ByteArray) (nn : List UInt8) (d : Bool) (A : Option Addr) (c : Nat) (ps : List (List UInt8)) (w : World) (hm : Mx w) (hp : PowW w) (hK : Known w) (hT : Lib.Utf8Tabs 2 3 w) (hR : ReadsT w A ps) (h3 : server.length ≤ 1000) (h4 : nn.length ≤ 1000) (h5 : ps.length ≤ 1000) (h6 : ∀ i, (ps.getD i []).length ≤ 1000) (hw : capWord (bs (ps.getD 0 [])) = ⟨#[76, 73, 83, 84]⟩) :
    Calls Tryz.prog 8 #[.string (bs server), sgn (IV v) t p (bs nn) u r d, .slice A ps.length c] w (SgCap t p (bs nn) u r d w) := by
  obtain ⟨N, hN⟩ : ∃ N, w.heap.size = N := ⟨_, rfl⟩
  obtain ⟨W0, hW0⟩ : ∃ W0, (((w.alloc (.cells #[.string (bs server)] 9)).alloc (.cells (sgC (IV v) t p (bs nn) u r d) 23)).alloc (.cells (sgC 0 false ⟨#[]⟩ ⟨#[]⟩ ⟨#[]⟩ ⟨#[]⟩ false) 23)) = W0 := ⟨_, rfl⟩
  have b0 : RowKit.Below w.heap.size w W0 := by rw [← hW0]; exact (((Below.refl _ w).alloc (Nat.le_refl _) _).alloc (by simp) _).alloc (by simp; omega) _
  have kS : W0.heap[N]? = some (.cells #[.string (bs server)] 9 (0, 0)) := by rw [← hW0, ← hN]; exact blk_alloc (blk_alloc (heap_alloc_new w _) _) _
  have k0 : W0.heap[N + 1]? = some (.cells (sgC (IV v) t p (bs nn) u r d) 23 (0, 0)) := by rw [← hW0, ← hN]; exact blk_alloc (heap_alloc2_new w _ _) _
  have k1 : W0.heap[N + 1 + 1]? = some (.cells (sgC 0 false ⟨#[]⟩ ⟨#[]⟩ ⟨#[]⟩ ⟨#[]⟩ false) 23 (0, 0)) := by
    have h := heap_alloc2_new (w.alloc (.cells #[.string (bs server)] 9)) (.cells (sgC (IV v) t p (bs nn) u r d) 23) (.cells (sgC 0 false ⟨#[]⟩ ⟨#[]⟩ ⟨#[]⟩ ⟨#[]⟩ false) 23)
    rw [World.size_alloc, hN, hW0] at h
    exact h
  have HPA := Lib.hid (fun (i : Nat) W (hb : RowKit.Below w.heap.size w W) => param_any A c ps i W (readsT_below hR hb (Nat.le_refl _)) (by omega))
  have HWU := Lib.hid (fun W (hb : RowKit.Below w.heap.size w W) => word_up (bs (ps.getD 0 [])) W (by have := h6 0; show (ps.getD 0 []).toArray.size ≤ 1000000; rw [List.size_toArray]; omega) (utf8_kept hT hb))
  have HSY := Lib.hid (fun (verb text : List UInt8) (W : World) (hb : RowKit.Below w.heap.size w W) (h1 : W.heap[N]? = some (.cells #[.string (bs server)] 9 (0, 0))) (k2 : Int) (t2 : Bool) (h2 : W.heap[N + 1]? = some (.cells (sgC k2 t2 p (bs nn) u r d) 23 (0, 0))) (l3 : verb.length ≤ 90000) (l4 : text.length ≤ 90000) => say_any server nn verb text N (N + 1) W (blk_cell h1 0) (blk_cell h2 3) (mx_kept hm hb (Nat.le_refl _)) (by omega) (by omega) l3 l4)
  have HTX := Lib.hid (fun W (hb : RowKit.Below w.heap.size w W) => textC_any v W (hK.kept hb))
  have H := Lib.hid (And.intro b0 (And.intro kS (And.intro k0 (And.intro k1 hN))))
  have HW := Lib.hid hW0
  have HH6 := Lib.hid h6
  clear hm hp hK hT hR b0 kS k0 k1 hW0 hN h6
  obtain ⟨n, hnn⟩ : ∃ n, bs nn = n := ⟨_, rfl⟩
  obtain ⟨sv, hsv⟩ : ∃ sv, bs server = sv := ⟨_, rfl⟩
  rw [hnn] at HSY H HW ⊢
  rw [hsv] at HSY H HW ⊢
  unfold sgn
  go_enter Tryz.func8, Tryz.ntmps8
  have hW0 := HW.out
  have hN := H.out.2.2.2.2
  unfold sgC at hW0
  go_wp2_with fail
  clear hW0
  refine (HPA.out 0 W0 H.out.1).mono ?_
  rintro e w1 ⟨rfl, hb1⟩
  have HB1 := Lib.hid (H.out.1.trans (hb1.mono H.out.1.size))
  have F1 := Lib.hid (Fr.of_below (X := fun _ => False) hb1)
  clear hb1
  go_wp2_with fail
  refine (HWU.out w1 HB1.out).mono ?_
  rintro e w2 ⟨rfl, hb2⟩
  have HB := Lib.hid (HB1.out.trans (hb2.mono HB1.out.size))
  have f2 : Fr (fun _ => False) W0 w2 := F1.out.trans3 (Fr.of_below (X := fun _ => False) hb2) fun _ _ e => e.elim
  have jS := f2.blk H.out.2.1 fun e => e
  have j0 := f2.blk H.out.2.2.1 fun e => e
  have j1 := f2.blk H.out.2.2.2.1 fun e => e
  have HJ := Lib.hid (And.intro jS (And.intro j0 j1))
  clear hb2 f2 jS j0 j1 HB1 F1 H HW
  rw [hw]
  obtain ⟨jS, j0, j1⟩ := HJ.out
  obtain ⟨c0, c1, c2, c3, c4, c5, c6⟩ := box7_blk j0
  have f0 := blk_free j0 0
  have f1 := blk_free j0 1
  clear jS j0 j1
  go_wp2_with fail
  clear c0 c1 c2 c3 c4 c5 c6 f0 f1
  have z0 : w2.heap[N + 1]? = some (.cells (sgC (IV v) t p n u r d) 23 (0, 0)) := (HJ.out.2.1)
  have zf : Fr (fun k => k = N + 1) w2 w2 := (Fr.refl (fun k => k = N + 1) w2)
  have zS := zf.blk HJ.out.1 (by omega)
  have zX := zf.blk HJ.out.2.2 (by omega)
  have zB : RowKit.Below w.heap.size w w2 := HB.out.trans (zf.below HB.out.size fun k hk e => by omega)
  obtain ⟨W3, hW3⟩ : ∃ W3, w2 = W3 := ⟨_, rfl⟩
  rw [hW3] at z0 zf zS zX zB ⊢
  have HB2 := Lib.hid zB
  have HZ := Lib.hid (And.intro zS (And.intro z0 zX))
  have HN := Lib.hid hN
  clear hW3 z0 zf zS zX zB hN
  have hS0 : W3.drew.heap[N]? = some (.cells #[.string sv] 9 (0, 0)) ∧ W3.drew.heap[N + 1]? = some (.cells (sgC (IV v) t p n u r d) 23 (0, 0)) := ⟨HZ.out.1, HZ.out.2.1⟩
  have hX : W3.drew.heap[N + 1 + 1]? = some (.cells (sgC 0 false ⟨#[]⟩ ⟨#[]⟩ ⟨#[]⟩ ⟨#[]⟩ false) 23 (0, 0)) := HZ.out.2.2
  have hF : Fr (fun k => k = N + 1 + 1) W3 W3.drew := (Fr.refl _ _).drew
  refine wp_region_held_drew (S := fun V => V.heap[N]? = some (.cells #[.string sv] 9 (0, 0)) ∧ V.heap[N + 1]? = some (.cells (sgC (IV v) t p n u r d) 23 (0, 0))) (by kernel_rfl) (by exact hS0) (fun hHeld => ?_)
  refine wpAnyH_read (i := 1) (oi := { dst := some 29, op := Go.Op.move (Go.Operand.tmp 8), type := 35, pos := "sign.go:38", after := #[], guard := none }) ?_ rfl (by kernel_rfl) (by kernel_rfl) (by kernel_rfl) (fun _ _ _ h => h) (by rfl) (by exact hHeld) ?_ ?_
  rotate_left
  · (intro w0 hS0; have s0 := blk_cell hS0.2 0; have s1 := blk_cell hS0.2 1; have s2 := blk_cell hS0.2 2; have s3 := blk_cell hS0.2 3; have s4 := blk_cell hS0.2 4; have s5 := blk_cell hS0.2 5; have s6 := blk_cell hS0.2 6; have s7 := blk_cell hS0.1 0; go_simp <;> (try with_reducible rfl))
  try simp only [Act.put, List.setIfInBounds_toArray, List.set_cons_zero, List.set_cons_succ]
  refine wpAnyH_read (i := 2) (oi := { dst := some 30, op := Go.Op.fieldAddr 23 (Go.Operand.tmp 4) 0, type := 0, pos := "sign.go:38", after := #[], guard := none }) ?_ rfl (by kernel_rfl) (by kernel_rfl) (by kernel_rfl) (fun _ _ _ h => h) (by rfl) (by exact hHeld) ?_ ?_
  rotate_left
  · (intro w0 hS0; have s0 := blk_cell hS0.2 0; have s1 := blk_cell hS0.2 1; have s2 := blk_cell hS0.2 2; have s3 := blk_cell hS0.2 3; have s4 := blk_cell hS0.2 4; have s5 := blk_cell hS0.2 5; have s6 := blk_cell hS0.2 6; have s7 := blk_cell hS0.1 0; go_simp <;> (try with_reducible rfl))
  try simp only [Act.put, List.setIfInBounds_toArray, List.set_cons_zero, List.set_cons_succ]
  refine wpAnyH_read (i := 0) (oi := { dst := some 28, op := Go.Op.load 23 (Go.Operand.tmp 4), type := 23, pos := "sign.go:38", after := #[], guard := none }) ?_ rfl (by kernel_rfl) (by kernel_rfl) (by kernel_rfl) (fun _ _ _ h => h) (by rfl) (by exact hHeld) ?_ ?_
  rotate_left
  · (intro w0 hS0; have s0 := blk_cell hS0.2 0; have s1 := blk_cell hS0.2 1; have s2 := blk_cell hS0.2 2; have s3 := blk_cell hS0.2 3; have s4 := blk_cell hS0.2 4; have s5 := blk_cell hS0.2 5; have s6 := blk_cell hS0.2 6; have s7 := blk_cell hS0.1 0; go_simp <;> (try with_reducible rfl))
  try simp only [Act.put, List.setIfInBounds_toArray, List.set_cons_zero, List.set_cons_succ]
  refine wpAnyH_read (i := 3) (oi := { dst := some 31, op := Go.Op.load 3 (Go.Operand.tmp 30), type := 3, pos := "sign.go:38", after := #[{ on := 2, ground := Go.Ground.data }], guard := none }) ?_ rfl (by kernel_rfl) (by kernel_rfl) (by kernel_rfl) (fun _ _ _ h => h) (by rfl) (by exact hHeld) ?_ ?_
  rotate_left
  · (intro w0 hS0; have s0 := blk_cell hS0.2 0; have s1 := blk_cell hS0.2 1; have s2 := blk_cell hS0.2 2; have s3 := blk_cell hS0.2 3; have s4 := blk_cell hS0.2 4; have s5 := blk_cell hS0.2 5; have s6 := blk_cell hS0.2 6; have s7 := blk_cell hS0.1 0; go_simp <;> (try with_reducible rfl))
  try simp only [Act.put, List.setIfInBounds_toArray, List.set_cons_zero, List.set_cons_succ]
  refine wpAnyH_one (i := 4) (o := { dst := some 32, op := Go.Op.call { callee := Go.Callee.value (Go.Operand.func 19), args := #[Go.Operand.tmp 31], argTypes := #[3] }, type := 9, pos := "sign.go:38", after := #[{ on := 3, ground := Go.Ground.data }], guard := none }) (by kernel_rfl) rfl (by rfl) (fun K hK => ?_)
  go_simp
  have hbc := HB2.out.trans (hF.below HB2.out.size fun k hk e => by have := HN.out; omega)
  refine (HTX.out _ hbc).mono ?_
  rintro e w6 ⟨rfl, hb6⟩
  have HX := Lib.hid (Fr.of_below (X := fun _ => False) hb6)
  clear hb6 hbc
  refine hK.out _ _ ?_ (fun hHeld => ?_)
  · exact ⟨HX.out.blk hS0.1 fun e => e, HX.out.blk hS0.2 fun e => e⟩
  clear hK K
  try simp only [Act.put, List.setIfInBounds_toArray, List.set_cons_zero, List.set_cons_succ]
  have hS0 := hHeld
  have hX := HX.out.blk hX fun e => e
  have hF := (hF.mono (Y := fun k => k = N + 1 + 1) fun _ _ e => e).trans3 HX.out fun _ _ e => e.elim
  clear HX
  refine wpAnyH_one (i := 5) (o := { dst := some 33, op := Go.Op.call { callee := Go.Callee.value (Go.Operand.tmp 29), args := #[Go.Operand.const (Go.Value.string { data := #[76, 73, 83, 84] }), Go.Operand.tmp 32], argTypes := #[9, 9] }, type := 24, pos := "sign.go:38", after := #[{ on := 1, ground := Go.Ground.data }, { on := 4, ground := Go.Ground.data }, { on := 4, ground := Go.Ground.chain }], guard := none }) (by kernel_rfl) rfl (by rfl) (fun K hK => ?_)
  go_simp
  have hbc := HB2.out.trans (hF.below HB2.out.size fun k hk e => by have := HN.out; omega)
  refine (HSY.out [76, 73, 83, 84] (txB (hasV v 1#64) (hasV v 2#64) (hasV v 4#64) 3) _ hbc hS0.1 _ _ hS0.2 (by decide) (by have := txc_len (hasV v 1#64) (hasV v 2#64) (hasV v 4#64) 3 (by omega); omega)).mono ?_
  rintro e w7 ⟨gl, rfl, hgl, hcl, hb7⟩
  have HX := Lib.hid (Fr.of_below (X := fun _ => False) hb7)
  clear hb7 hbc
  refine hK.out _ _ ?_ (fun hHeld => ?_)
  · exact ⟨HX.out.blk hS0.1 fun e => e, HX.out.blk hS0.2 fun e => e⟩
  clear hK K
  try simp only [Act.put, List.setIfInBounds_toArray, List.set_cons_zero, List.set_cons_succ]
  have hS0 := hHeld
  have hX := HX.out.blk hX fun e => e
  have hF := (hF.mono (Y := fun k => k = N + 1 + 1) fun _ _ e => e).trans3 HX.out fun _ _ e => e.elim
  have q0 := blk_cell hX 0; have q1 := blk_cell hX 1; have q2 := blk_cell hX 2; have q3 := blk_cell hX 3; have q4 := blk_cell hX 4; have q5 := blk_cell hX 5; have q6 := blk_cell hX 6; have f0 := blk_free hX 0; have f1 := blk_free hX 1; have f2 := blk_free hX 2; have f3 := blk_free hX 3; have f4 := blk_free hX 4; have f5 := blk_free hX 5; have f6 := blk_free hX 6
  refine wpAnyH_one (i := 6) (o := { dst := none, op := Go.Op.store 23 (Go.Operand.tmp 6) (Go.Operand.tmp 28), type := 0, pos := "sign.go:38", after := #[{ on := 0, ground := Go.Ground.data }, { on := 5, ground := Go.Ground.chain }, { on := 0, ground := Go.Ground.phase }, { on := 1, ground := Go.Ground.textOnly Go.Departure.lateStores }, { on := 2, ground := Go.Ground.textOnly Go.Departure.lateStores }, { on := 3, ground := Go.Ground.textOnly Go.Departure.lateStores }, { on := 4, ground := Go.Ground.textOnly Go.Departure.lateStoresUnsure }, { on := 5, ground := Go.Ground.textOnly Go.Departure.lateStoresUnsure }], guard := none }) (by kernel_rfl) rfl (by rfl) (fun K hK => ?_)
  go_simp
  refine hK.out _ _ ?_ (fun hHeld => ?_)
  · exact ⟨set7_oth hS0.1 (by omega), set7_oth hS0.2 (by omega)⟩
  clear hK K
  try simp only [Act.put, List.setIfInBounds_toArray, List.set_cons_zero, List.set_cons_succ]
  have hS0 := hHeld
  have hX := set7 (v0 := .int .i64 (IV v)) (v1 := .bool t) (v2 := .string p) (v3 := .string n) (v4 := .string u) (v5 := .string r) (v6 := .bool d) hX
  have hF := set7_fr (v0 := .int .i64 (IV v)) (v1 := .bool t) (v2 := .string p) (v3 := .string n) (v4 := .string u) (v5 := .string r) (v6 := .bool d) hF rfl
  clear q0 q1 q2 q3 q4 q5 q6 f0 f1 f2 f3 f4 f5 f6
  have q0 := blk_cell hX 0; have q1 := blk_cell hX 1; have q2 := blk_cell hX 2; have q3 := blk_cell hX 3; have q4 := blk_cell hX 4; have q5 := blk_cell hX 5; have q6 := blk_cell hX 6; have f0 := blk_free hX 0; have f1 := blk_free hX 1; have f2 := blk_free hX 2; have f3 := blk_free hX 3; have f4 := blk_free hX 4; have f5 := blk_free hX 5; have f6 := blk_free hX 6
  refine wpAnyH_read (i := 7) (oi := { dst := some 7, op := Go.Op.assign (Go.Operand.tmp 33), type := 24, pos := "sign.go:38", after := #[{ on := 5, ground := Go.Ground.data }, { on := 6, ground := Go.Ground.chain }, { on := 0, ground := Go.Ground.phase }, { on := 1, ground := Go.Ground.phase }, { on := 2, ground := Go.Ground.phase }, { on := 3, ground := Go.Ground.phase }, { on := 4, ground := Go.Ground.phase }, { on := 5, ground := Go.Ground.phase }, { on := 6, ground := Go.Ground.phase }], guard := none }) ?_ rfl (by kernel_rfl) (by kernel_rfl) (by kernel_rfl) (fun _ _ _ h => h) (by rfl) (by exact hHeld) ?_ ?_
  rotate_left
  · (intro w0 hS0; have s0 := blk_cell hS0.2 0; have s1 := blk_cell hS0.2 1; have s2 := blk_cell hS0.2 2; have s3 := blk_cell hS0.2 3; have s4 := blk_cell hS0.2 4; have s5 := blk_cell hS0.2 5; have s6 := blk_cell hS0.2 6; have s7 := blk_cell hS0.1 0; go_simp <;> (try with_reducible rfl))
  try simp only [Act.put, List.setIfInBounds_toArray, List.set_cons_zero, List.set_cons_succ]
  refine wpAnyH_done (by kernel_rfl) ?_ _
  go_wp2_with fail
  refine bodyPost_ret (res_seven rfl rfl (Tryz.isAgg23 _) (Tryz.sizeOf23 _) hX) rfl ⟨⟨_, _, _, _, _, rfl, fun h1 h2 => h2⟩, HB2.out.trans (hF.below HB2.out.size fun k hk e => by have := HN.out; omega)⟩
set_option maxRecDepth 100000 in
set_option maxHeartbeats 8000000 in
theorem cap_end (server : List UInt8) (v : BitVec 64) (t : Bool) (p u r : ByteArray) (nn : List UInt8) (d : Bool) (A : Option Addr) (c : Nat) (ps : List (List UInt8)) (w : World) (hm : Mx w) (hp : PowW w) (hK : Known w) (hT : Lib.Utf8Tabs 2 3 w) (hR : ReadsT w A ps) (h3 : server.length ≤ 1000) (h4 : nn.length ≤ 1000) (h5 : ps.length ≤ 1000) (h6 : ∀ i, (ps.getD i []).length ≤ 1000) (hw : capWord (bs (ps.getD 0 [])) = ⟨#[69, 78, 68]⟩) :
    Calls Tryz.prog 8 #[.string (bs server), sgn (IV v) t p (bs nn) u r d, .slice A ps.length c] w (SgCap t p (bs nn) u r d w) := by
  obtain ⟨N, hN⟩ : ∃ N, w.heap.size = N := ⟨_, rfl⟩
  obtain ⟨W0, hW0⟩ : ∃ W0, (((w.alloc (.cells #[.string (bs server)] 9)).alloc (.cells (sgC (IV v) t p (bs nn) u r d) 23)).alloc (.cells (sgC 0 false ⟨#[]⟩ ⟨#[]⟩ ⟨#[]⟩ ⟨#[]⟩ false) 23)) = W0 := ⟨_, rfl⟩
  have b0 : RowKit.Below w.heap.size w W0 := by rw [← hW0]; exact (((Below.refl _ w).alloc (Nat.le_refl _) _).alloc (by simp) _).alloc (by simp; omega) _
  have kS : W0.heap[N]? = some (.cells #[.string (bs server)] 9 (0, 0)) := by rw [← hW0, ← hN]; exact blk_alloc (blk_alloc (heap_alloc_new w _) _) _
  have k0 : W0.heap[N + 1]? = some (.cells (sgC (IV v) t p (bs nn) u r d) 23 (0, 0)) := by rw [← hW0, ← hN]; exact blk_alloc (heap_alloc2_new w _ _) _
  have k1 : W0.heap[N + 1 + 1]? = some (.cells (sgC 0 false ⟨#[]⟩ ⟨#[]⟩ ⟨#[]⟩ ⟨#[]⟩ false) 23 (0, 0)) := by
    have h := heap_alloc2_new (w.alloc (.cells #[.string (bs server)] 9)) (.cells (sgC (IV v) t p (bs nn) u r d) 23) (.cells (sgC 0 false ⟨#[]⟩ ⟨#[]⟩ ⟨#[]⟩ ⟨#[]⟩ false) 23)
    rw [World.size_alloc, hN, hW0] at h
    exact h
  have HPA := Lib.hid (fun (i : Nat) W (hb : RowKit.Below w.heap.size w W) => param_any A c ps i W (readsT_below hR hb (Nat.le_refl _)) (by omega))
  have HWU := Lib.hid (fun W (hb : RowKit.Below w.heap.size w W) => word_up (bs (ps.getD 0 [])) W (by have := h6 0; show (ps.getD 0 []).toArray.size ≤ 1000000; rw [List.size_toArray]; omega) (utf8_kept hT hb))
  have HSY := Lib.hid (fun (verb text : List UInt8) (W : World) (hb : RowKit.Below w.heap.size w W) (h1 : W.heap[N]? = some (.cells #[.string (bs server)] 9 (0, 0))) (k2 : Int) (t2 : Bool) (h2 : W.heap[N + 1]? = some (.cells (sgC k2 t2 p (bs nn) u r d) 23 (0, 0))) (l3 : verb.length ≤ 90000) (l4 : text.length ≤ 90000) => say_any server nn verb text N (N + 1) W (blk_cell h1 0) (blk_cell h2 3) (mx_kept hm hb (Nat.le_refl _)) (by omega) (by omega) l3 l4)
  have H := Lib.hid (And.intro b0 (And.intro kS (And.intro k0 (And.intro k1 hN))))
  have HW := Lib.hid hW0
  have HH6 := Lib.hid h6
  clear hm hp hK hT hR b0 kS k0 k1 hW0 hN h6
  obtain ⟨n, hnn⟩ : ∃ n, bs nn = n := ⟨_, rfl⟩
  obtain ⟨sv, hsv⟩ : ∃ sv, bs server = sv := ⟨_, rfl⟩
  rw [hnn] at HSY H HW ⊢
  rw [hsv] at HSY H HW ⊢
  unfold sgn
  go_enter Tryz.func8, Tryz.ntmps8
  have hW0 := HW.out
  have hN := H.out.2.2.2.2
  unfold sgC at hW0
  go_wp2_with fail
  clear hW0
  refine (HPA.out 0 W0 H.out.1).mono ?_
  rintro e w1 ⟨rfl, hb1⟩
  have HB1 := Lib.hid (H.out.1.trans (hb1.mono H.out.1.size))
  have F1 := Lib.hid (Fr.of_below (X := fun _ => False) hb1)
  clear hb1
  go_wp2_with fail
  refine (HWU.out w1 HB1.out).mono ?_
  rintro e w2 ⟨rfl, hb2⟩
  have HB := Lib.hid (HB1.out.trans (hb2.mono HB1.out.size))
  have f2 : Fr (fun _ => False) W0 w2 := F1.out.trans3 (Fr.of_below (X := fun _ => False) hb2) fun _ _ e => e.elim
  have jS := f2.blk H.out.2.1 fun e => e
  have j0 := f2.blk H.out.2.2.1 fun e => e
  have j1 := f2.blk H.out.2.2.2.1 fun e => e
  have HJ := Lib.hid (And.intro jS (And.intro j0 j1))
  clear hb2 f2 jS j0 j1 HB1 F1 H HW
  rw [hw]
  obtain ⟨jS, j0, j1⟩ := HJ.out
  obtain ⟨c0, c1, c2, c3, c4, c5, c6⟩ := box7_blk j0
  have f0 := blk_free j0 0
  have f1 := blk_free j0 1
  have q0 := blk_cell j1 0; have q1 := blk_cell j1 1; have q2 := blk_cell j1 2; have q3 := blk_cell j1 3; have q4 := blk_cell j1 4; have q5 := blk_cell j1 5; have q6 := blk_cell j1 6; have g0 := blk_free j1 0; have g1 := blk_free j1 1; have g2 := blk_free j1 2; have g3 := blk_free j1 3; have g4 := blk_free j1 4; have g5 := blk_free j1 5; have g6 := blk_free j1 6
  clear jS j0 j1
  go_wp2_with fail
  clear q0 q1 q2 q3 q4 q5 q6 g0 g1 g2 g3 g4 g5 g6 c0 c1 c2 c3 c4 c5 c6 f0 f1
  have zf : Fr (fun k => k = N + 1) w2 (w2.setCell ⟨N + 1, 1, none⟩ (.bool false)) := (Fr.refl (fun k => k = N + 1) w2).setCell ⟨N + 1, 1, none⟩ rfl _
  have zX := zf.blk HJ.out.2.2 (by omega)
  refine bodyPost_ret (res_seven rfl rfl (Tryz.isAgg23 _) (Tryz.sizeOf23 _) (set7 zX)) rfl ⟨⟨_, _, _, _, _, rfl, fun h1 h2 => by cases h2⟩, ?_⟩
  exact HB.out.trans ((set7_fr (zf.mono (Y := fun k => k = N + 1 ∨ k = N + 1 + 1) fun _ _ e => .inl e) (.inr rfl)).below HB.out.size fun k hk e => by omega)
end Go.Proofs.YtdikpbldfnkgdaaGreatDoor
end
section
/- Layer 17: Cap, REQ. -/
namespace Go.Proofs.YtdikpbldfnkgdaaGreatDoor
set_option linter.unusedVariables false
set_option linter.unusedSimpArgs false
open Go Go.RowKit

/-- what Cap makes of a REQ: the sign, and its line -/
def SgReq (server nn rq : List UInt8) (v : BitVec 64) (p u r : ByteArray) (d : Bool) (w : World) (e : Ending) (w' : World) : Prop :=
  ∃ g, e = .returned (.tuple #[sgn (IV (capV v rq).1) (!d) p (bs nn) u r d, .slice (some ⟨g, 0, none⟩) 1 1]) ∧ w'.cell? ⟨g, 0, none⟩ = some (.string (bs (makeL server capL [nn, if (capV v rq).2 then [65, 67, 75] else [78, 65, 75], rq]))) ∧ RowKit.Below w.heap.size w w'
set_option maxRecDepth 100000 in
set_option maxHeartbeats 8000000 in
theorem cap_nak (server : List UInt8) (v : BitVec 64) (t : Bool) (p u r : ByteArray) (nn : List UInt8) (d : Bool) (A : Option Addr) (c : Nat) (ps : List (List UInt8)) (w : World) (hm : Mx w) (hp : PowW w) (hK : Known w) (hT : Lib.Utf8Tabs 2 3 w) (hR : ReadsT w A ps) (h3 : server.length ≤ 1000) (h4 : nn.length ≤ 1000) (h5 : ps.length ≤ 1000) (h6 : ∀ i, (ps.getD i []).length ≤ 1000) (hw : capWord (bs (ps.getD 0 [])) = ⟨#[82, 69, 81]⟩) (hv : (capV v (ps.getD 1 [])).2 = false) :
    Calls Tryz.prog 8 #[.string (bs server), sgn (IV v) t p (bs nn) u r d, .slice A ps.length c] w (SgReq server nn (ps.getD 1 []) v p u r d w) := by
  obtain ⟨N, hN⟩ : ∃ N, w.heap.size = N := ⟨_, rfl⟩
  obtain ⟨W0, hW0⟩ : ∃ W0, (((w.alloc (.cells #[.string (bs server)] 9)).alloc (.cells (sgC (IV v) t p (bs nn) u r d) 23)).alloc (.cells (sgC 0 false ⟨#[]⟩ ⟨#[]⟩ ⟨#[]⟩ ⟨#[]⟩ false) 23)) = W0 := ⟨_, rfl⟩
  have b0 : RowKit.Below w.heap.size w W0 := by rw [← hW0]; exact (((Below.refl _ w).alloc (Nat.le_refl _) _).alloc (by simp) _).alloc (by simp; omega) _
  have kS : W0.heap[N]? = some (.cells #[.string (bs server)] 9 (0, 0)) := by rw [← hW0, ← hN]; exact blk_alloc (blk_alloc (heap_alloc_new w _) _) _
  have k0 : W0.heap[N + 1]? = some (.cells (sgC (IV v) t p (bs nn) u r d) 23 (0, 0)) := by rw [← hW0, ← hN]; exact blk_alloc (heap_alloc2_new w _ _) _
  have k1 : W0.heap[N + 1 + 1]? = some (.cells (sgC 0 false ⟨#[]⟩ ⟨#[]⟩ ⟨#[]⟩ ⟨#[]⟩ false) 23 (0, 0)) := by
    have h := heap_alloc2_new (w.alloc (.cells #[.string (bs server)] 9)) (.cells (sgC (IV v) t p (bs nn) u r d) 23) (.cells (sgC 0 false ⟨#[]⟩ ⟨#[]⟩ ⟨#[]⟩ ⟨#[]⟩ false) 23)
    rw [World.size_alloc, hN, hW0] at h
    exact h
  have HPA := Lib.hid (fun (i : Nat) W (hb : RowKit.Below w.heap.size w W) => param_any A c ps i W (readsT_below hR hb (Nat.le_refl _)) (by omega))
  have HWU := Lib.hid (fun W (hb : RowKit.Below w.heap.size w W) => word_up (bs (ps.getD 0 [])) W (by have := h6 0; show (ps.getD 0 []).toArray.size ≤ 1000000; rw [List.size_toArray]; omega) (utf8_kept hT hb))
  have HSY := Lib.hid (fun (verb text : List UInt8) (W : World) (hb : RowKit.Below w.heap.size w W) (h1 : W.heap[N]? = some (.cells #[.string (bs server)] 9 (0, 0))) (k2 : Int) (t2 : Bool) (h2 : W.heap[N + 1]? = some (.cells (sgC k2 t2 p (bs nn) u r d) 23 (0, 0))) (l3 : verb.length ≤ 90000) (l4 : text.length ≤ 90000) => say_any server nn verb text N (N + 1) W (blk_cell h1 0) (blk_cell h2 3) (mx_kept hm hb (Nat.le_refl _)) (by omega) (by omega) l3 l4)
  have hv := hv
  obtain ⟨rq, hrq⟩ : ∃ rq, ps.getD 1 [] = rq := ⟨_, rfl⟩
  have hql : rq.length ≤ 1000 := by rw [← hrq]; exact h6 1
  have HP1 : Hid (∀ W, RowKit.Below w.heap.size w W → Calls Tryz.prog 17 #[.slice A ps.length c, .int .i64 1] W fun e w' => e = .returned (.string (bs rq)) ∧ RowKit.Below W.heap.size W w') := Lib.hid (fun W hb => by
    have h := param_any A c ps 1 W (readsT_below hR hb (Nat.le_refl _)) (by omega)
    rw [hrq] at h
    exact h)
  have hqs : (bs rq).size ≤ 1000000 := by show rq.toArray.size ≤ _; rw [List.size_toArray]; omega
  have HAP := Lib.hid (fun W (hb : RowKit.Below w.heap.size w W) => apply_any v (bs rq) W hqs (hK.kept hb))
  rw [hrq] at hv ⊢
  unfold SgReq
  rw [show (bs rq).data.toList = rq from rfl] at HAP
  obtain ⟨cv, hcv⟩ : ∃ cv, capV v rq = cv := ⟨_, rfl⟩
  rw [hcv] at HAP hv ⊢
  obtain ⟨cv1, cv2⟩ := cv
  dsimp only at HAP hv ⊢
  subst hv
  rw [show (if (false : Bool) = true then ([65, 67, 75] : List UInt8) else [78, 65, 75]) = [78, 65, 75] from rfl]
  obtain ⟨k2, hk2⟩ : ∃ k2, IV cv1 = k2 := ⟨_, rfl⟩
  rw [hk2] at HAP ⊢
  clear hrq hqs hcv hk2
  have H := Lib.hid (And.intro b0 (And.intro kS (And.intro k0 (And.intro k1 hN))))
  have HW := Lib.hid hW0
  have HH6 := Lib.hid h6
  clear hm hp hK hT hR b0 kS k0 k1 hW0 hN h6
  obtain ⟨n, hnn⟩ : ∃ n, bs nn = n := ⟨_, rfl⟩
  obtain ⟨sv, hsv⟩ : ∃ sv, bs server = sv := ⟨_, rfl⟩
  rw [hnn] at HSY H HW ⊢
  rw [hsv] at HSY H HW ⊢
  unfold sgn
  go_enter Tryz.func8, Tryz.ntmps8
  have hW0 := HW.out
  have hN := H.out.2.2.2.2
  unfold sgC at hW0
  go_wp2_with fail
  clear hW0
  refine (HPA.out 0 W0 H.out.1).mono ?_
  rintro e w1 ⟨rfl, hb1⟩
  have HB1 := Lib.hid (H.out.1.trans (hb1.mono H.out.1.size))
  have F1 := Lib.hid (Fr.of_below (X := fun _ => False) hb1)
  clear hb1
  go_wp2_with fail
  refine (HWU.out w1 HB1.out).mono ?_
  rintro e w2 ⟨rfl, hb2⟩
  have HB := Lib.hid (HB1.out.trans (hb2.mono HB1.out.size))
  have f2 : Fr (fun _ => False) W0 w2 := F1.out.trans3 (Fr.of_below (X := fun _ => False) hb2) fun _ _ e => e.elim
  have jS := f2.blk H.out.2.1 fun e => e
  have j0 := f2.blk H.out.2.2.1 fun e => e
  have j1 := f2.blk H.out.2.2.2.1 fun e => e
  have HJ := Lib.hid (And.intro jS (And.intro j0 j1))
  clear hb2 f2 jS j0 j1 HB1 F1 H HW
  rw [hw]
  obtain ⟨jS, j0, j1⟩ := HJ.out
  obtain ⟨c0, c1, c2, c3, c4, c5, c6⟩ := box7_blk j0
  have f0 := blk_free j0 0
  have f1 := blk_free j0 1
  clear jS j0 j1
  go_wp2_with fail
  clear c0 c1 c2 c3 c4 c5 c6 f0 f1
  have z0 : (w2.setCell ⟨N + 1, 1, none⟩ (.bool (!d))).heap[N + 1]? = some (.cells (sgC (IV v) (!d) p n u r d) 23 (0, 0)) := (blk_set (HJ.out.2.1) 1 (.bool (!d)))
  have zf : Fr (fun k => k = N + 1) w2 (w2.setCell ⟨N + 1, 1, none⟩ (.bool (!d))) := ((Fr.refl (fun k => k = N + 1) w2).setCell ⟨N + 1, 1, none⟩ rfl (.bool (!d)))
  have zS := zf.blk HJ.out.1 (by omega)
  have zX := zf.blk HJ.out.2.2 (by omega)
  have zB : RowKit.Below w.heap.size w (w2.setCell ⟨N + 1, 1, none⟩ (.bool (!d))) := HB.out.trans (zf.below HB.out.size fun k hk e => by omega)
  obtain ⟨W3, hW3⟩ : ∃ W3, (w2.setCell ⟨N + 1, 1, none⟩ (.bool (!d))) = W3 := ⟨_, rfl⟩
  rw [hW3] at z0 zf zS zX zB ⊢
  have HB2 := Lib.hid zB
  have HZ := Lib.hid (And.intro zS (And.intro z0 zX))
  have HN := Lib.hid hN
  clear hW3 z0 zf zS zX zB hN
  refine (HP1.out W3 HB2.out).mono ?_
  rintro e w4 ⟨rfl, hb4⟩
  have f4 : Fr (fun _ => False) W3 w4 := Fr.of_below hb4
  have HB4 := Lib.hid (HB2.out.trans (hb4.mono HB2.out.size))
  have HJ4 := Lib.hid (And.intro (f4.blk HZ.out.1 fun e => e) (And.intro (f4.blk HZ.out.2.1 fun e => e) (f4.blk HZ.out.2.2 fun e => e)))
  clear hb4 f4
  have c0 := blk_cell HJ4.out.2.1 0
  go_wp2_with fail
  clear c0
  refine (HAP.out w4 HB4.out).mono ?_
  rintro e w5 ⟨rfl, hb5⟩
  have f5 : Fr (fun _ => False) w4 w5 := Fr.of_below hb5
  have HB5 := Lib.hid (HB4.out.trans (hb5.mono HB4.out.size))
  have HJ5 := Lib.hid (And.intro (f5.blk HJ4.out.1 fun e => e) (And.intro (f5.blk HJ4.out.2.1 fun e => e) (f5.blk HJ4.out.2.2 fun e => e)))
  clear hb5 f5
  obtain ⟨td, htd⟩ : ∃ td, (!d) = td := ⟨_, rfl⟩
  rw [htd] at HJ5 ⊢
  have HTD := Lib.hid htd
  clear htd
  have c0 := blk_cell HJ5.out.2.1 0; have c1 := blk_cell HJ5.out.2.1 1; have c2 := blk_cell HJ5.out.2.1 2; have f0 := blk_free HJ5.out.2.1 0
  go_wp2_with fail
  clear c0 c1 c2 f0
  have hN := HN.out
  clear HN HB2 HZ HB4 HJ4 HB
  have z0 : (w5.setCell ⟨N + 1, 0, none⟩ (.int .i64 k2)).heap[N + 1]? = some (.cells (sgC k2 td p n u r d) 23 (0, 0)) := (blk_set (HJ5.out.2.1) 0 (.int .i64 k2))
  have zf : Fr (fun k => k = N + 1) w5 (w5.setCell ⟨N + 1, 0, none⟩ (.int .i64 k2)) := ((Fr.refl (fun k => k = N + 1) w5).setCell ⟨N + 1, 0, none⟩ rfl (.int .i64 k2))
  have zS := zf.blk HJ5.out.1 (by omega)
  have zX := zf.blk HJ5.out.2.2 (by omega)
  have zB : RowKit.Below w.heap.size w (w5.setCell ⟨N + 1, 0, none⟩ (.int .i64 k2)) := HB5.out.trans (zf.below HB5.out.size fun k hk e => by omega)
  obtain ⟨W3, hW3⟩ : ∃ W3, (w5.setCell ⟨N + 1, 0, none⟩ (.int .i64 k2)) = W3 := ⟨_, rfl⟩
  rw [hW3] at z0 zf zS zX zB ⊢
  have HB2 := Lib.hid zB
  have HZ := Lib.hid (And.intro zS (And.intro z0 zX))
  have HN := Lib.hid hN
  clear hW3 z0 zf zS zX zB hN
  have hS0 : W3.drew.heap[N]? = some (.cells #[.string sv] 9 (0, 0)) ∧ W3.drew.heap[N + 1]? = some (.cells (sgC k2 td p n u r d) 23 (0, 0)) := ⟨HZ.out.1, HZ.out.2.1⟩
  have hX : W3.drew.heap[N + 1 + 1]? = some (.cells (sgC 0 false ⟨#[]⟩ ⟨#[]⟩ ⟨#[]⟩ ⟨#[]⟩ false) 23 (0, 0)) := HZ.out.2.2
  have hF : Fr (fun k => k = N + 1 + 1) W3 W3.drew := (Fr.refl _ _).drew
  refine wp_region_held_drew (S := fun V => V.heap[N]? = some (.cells #[.string sv] 9 (0, 0)) ∧ V.heap[N + 1]? = some (.cells (sgC k2 td p n u r d) 23 (0, 0))) (by kernel_rfl) (by exact hS0) (fun hHeld => ?_)
  refine wpAnyH_read (i := 1) (oi := { dst := some 54, op := Go.Op.move (Go.Operand.tmp 8), type := 35, pos := "sign.go:45", after := #[], guard := none }) ?_ rfl (by kernel_rfl) (by kernel_rfl) (by kernel_rfl) (fun _ _ _ h => h) (by rfl) (by exact hHeld) ?_ ?_
  rotate_left
  · (intro w0 hS0; have s0 := blk_cell hS0.2 0; have s1 := blk_cell hS0.2 1; have s2 := blk_cell hS0.2 2; have s3 := blk_cell hS0.2 3; have s4 := blk_cell hS0.2 4; have s5 := blk_cell hS0.2 5; have s6 := blk_cell hS0.2 6; have s7 := blk_cell hS0.1 0; go_simp <;> (try with_reducible rfl))
  try simp only [Act.put, List.setIfInBounds_toArray, List.set_cons_zero, List.set_cons_succ]
  refine wpAnyH_read (i := 2) (oi := { dst := some 55, op := Go.Op.move (Go.Operand.tmp 9), type := 9, pos := "sign.go:45", after := #[], guard := none }) ?_ rfl (by kernel_rfl) (by kernel_rfl) (by kernel_rfl) (fun _ _ _ h => h) (by rfl) (by exact hHeld) ?_ ?_
  rotate_left
  · (intro w0 hS0; have s0 := blk_cell hS0.2 0; have s1 := blk_cell hS0.2 1; have s2 := blk_cell hS0.2 2; have s3 := blk_cell hS0.2 3; have s4 := blk_cell hS0.2 4; have s5 := blk_cell hS0.2 5; have s6 := blk_cell hS0.2 6; have s7 := blk_cell hS0.1 0; go_simp <;> (try with_reducible rfl))
  try simp only [Act.put, List.setIfInBounds_toArray, List.set_cons_zero, List.set_cons_succ]
  refine wpAnyH_read (i := 0) (oi := { dst := some 53, op := Go.Op.load 23 (Go.Operand.tmp 4), type := 23, pos := "sign.go:45", after := #[], guard := none }) ?_ rfl (by kernel_rfl) (by kernel_rfl) (by kernel_rfl) (fun _ _ _ h => h) (by rfl) (by exact hHeld) ?_ ?_
  rotate_left
  · (intro w0 hS0; have s0 := blk_cell hS0.2 0; have s1 := blk_cell hS0.2 1; have s2 := blk_cell hS0.2 2; have s3 := blk_cell hS0.2 3; have s4 := blk_cell hS0.2 4; have s5 := blk_cell hS0.2 5; have s6 := blk_cell hS0.2 6; have s7 := blk_cell hS0.1 0; go_simp <;> (try with_reducible rfl))
  try simp only [Act.put, List.setIfInBounds_toArray, List.set_cons_zero, List.set_cons_succ]
  refine wpAnyH_one (i := 3) (o := { dst := some 56, op := Go.Op.call { callee := Go.Callee.value (Go.Operand.tmp 54), args := #[Go.Operand.const (Go.Value.string { data := #[78, 65, 75] }), Go.Operand.tmp 55], argTypes := #[9, 9] }, type := 24, pos := "sign.go:45", after := #[{ on := 1, ground := Go.Ground.data }, { on := 2, ground := Go.Ground.data }], guard := none }) (by kernel_rfl) rfl (by rfl) (fun K hK => ?_)
  go_simp
  have hbc := HB2.out.trans (hF.below HB2.out.size fun k hk e => by have := HN.out; omega)
  refine (HSY.out [78, 65, 75] rq _ hbc hS0.1 _ _ hS0.2 (by decide) (by omega)).mono ?_
  rintro e w7 ⟨gl, rfl, hgl, hcl, hb7⟩
  have HX := Lib.hid (Fr.of_below (X := fun _ => False) hb7)
  have HCL := Lib.hid (And.intro (Nat.lt_of_lt_of_le (blk_lt hX) hgl) hcl)
  clear hgl hcl
  clear hb7 hbc
  refine hK.out _ _ ?_ (fun hHeld => ?_)
  · exact ⟨HX.out.blk hS0.1 fun e => e, HX.out.blk hS0.2 fun e => e⟩
  clear hK K
  try simp only [Act.put, List.setIfInBounds_toArray, List.set_cons_zero, List.set_cons_succ]
  have hS0 := hHeld
  have hX := HX.out.blk hX fun e => e
  have hF := (hF.mono (Y := fun k => k = N + 1 + 1) fun _ _ e => e).trans3 HX.out fun _ _ e => e.elim
  have q0 := blk_cell hX 0; have q1 := blk_cell hX 1; have q2 := blk_cell hX 2; have q3 := blk_cell hX 3; have q4 := blk_cell hX 4; have q5 := blk_cell hX 5; have q6 := blk_cell hX 6; have f0 := blk_free hX 0; have f1 := blk_free hX 1; have f2 := blk_free hX 2; have f3 := blk_free hX 3; have f4 := blk_free hX 4; have f5 := blk_free hX 5; have f6 := blk_free hX 6
  refine wpAnyH_one (i := 4) (o := { dst := none, op := Go.Op.store 23 (Go.Operand.tmp 6) (Go.Operand.tmp 53), type := 0, pos := "sign.go:45", after := #[{ on := 0, ground := Go.Ground.data }, { on := 3, ground := Go.Ground.chain }, { on := 0, ground := Go.Ground.phase }, { on := 1, ground := Go.Ground.textOnly Go.Departure.lateStores }, { on := 2, ground := Go.Ground.textOnly Go.Departure.lateStores }, { on := 3, ground := Go.Ground.textOnly Go.Departure.lateStoresUnsure }], guard := none }) (by kernel_rfl) rfl (by rfl) (fun K hK => ?_)
  go_simp
  refine hK.out _ _ ?_ (fun hHeld => ?_)
  · exact ⟨set7_oth hS0.1 (by omega), set7_oth hS0.2 (by omega)⟩
  clear hK K
  try simp only [Act.put, List.setIfInBounds_toArray, List.set_cons_zero, List.set_cons_succ]
  have hS0 := hHeld
  have hX := set7 (v0 := .int .i64 (k2)) (v1 := .bool td) (v2 := .string p) (v3 := .string n) (v4 := .string u) (v5 := .string r) (v6 := .bool d) hX
  have hF := set7_fr (v0 := .int .i64 (k2)) (v1 := .bool td) (v2 := .string p) (v3 := .string n) (v4 := .string u) (v5 := .string r) (v6 := .bool d) hF rfl
  clear q0 q1 q2 q3 q4 q5 q6 f0 f1 f2 f3 f4 f5 f6
  have q0 := blk_cell hX 0; have q1 := blk_cell hX 1; have q2 := blk_cell hX 2; have q3 := blk_cell hX 3; have q4 := blk_cell hX 4; have q5 := blk_cell hX 5; have q6 := blk_cell hX 6; have f0 := blk_free hX 0; have f1 := blk_free hX 1; have f2 := blk_free hX 2; have f3 := blk_free hX 3; have f4 := blk_free hX 4; have f5 := blk_free hX 5; have f6 := blk_free hX 6
  refine wpAnyH_read (i := 5) (oi := { dst := some 7, op := Go.Op.assign (Go.Operand.tmp 56), type := 24, pos := "sign.go:45", after := #[{ on := 3, ground := Go.Ground.data }, { on := 4, ground := Go.Ground.chain }, { on := 0, ground := Go.Ground.phase }, { on := 1, ground := Go.Ground.phase }, { on := 2, ground := Go.Ground.phase }, { on := 3, ground := Go.Ground.phase }, { on := 4, ground := Go.Ground.phase }], guard := none }) ?_ rfl (by kernel_rfl) (by kernel_rfl) (by kernel_rfl) (fun _ _ _ h => h) (by rfl) (by exact hHeld) ?_ ?_
  rotate_left
  · (intro w0 hS0; have s0 := blk_cell hS0.2 0; have s1 := blk_cell hS0.2 1; have s2 := blk_cell hS0.2 2; have s3 := blk_cell hS0.2 3; have s4 := blk_cell hS0.2 4; have s5 := blk_cell hS0.2 5; have s6 := blk_cell hS0.2 6; have s7 := blk_cell hS0.1 0; go_simp <;> (try with_reducible rfl))
  try simp only [Act.put, List.setIfInBounds_toArray, List.set_cons_zero, List.set_cons_succ]
  refine wpAnyH_done (by kernel_rfl) ?_ _
  go_wp2_with fail
  have hcl := HCL.out.2
  have hgl := HCL.out.1
  refine bodyPost_ret (res_seven rfl rfl (Tryz.isAgg23 _) (Tryz.sizeOf23 _) hX) rfl ⟨gl, by rw [HTD.out]; rfl, ?_, HB2.out.trans (hF.below HB2.out.size fun k hk e => by have := HN.out; omega)⟩
  exact ((set7_fr (X := fun k => k = N + 1 + 1) (Fr.refl _ w7) rfl).cell (p := ⟨gl, 0, none⟩) (World.block_lt_of_cell? _ _ hcl) (by show ¬ gl = N + 1 + 1; omega)).trans hcl
set_option maxRecDepth 100000 in
set_option maxHeartbeats 8000000 in
theorem cap_ack (server : List UInt8) (v : BitVec 64) (t : Bool) (p u r : ByteArray) (nn : List UInt8) (d : Bool) (A : Option Addr) (c : Nat) (ps : List (List UInt8)) (w : World) (hm : Mx w) (hp : PowW w) (hK : Known w) (hT : Lib.Utf8Tabs 2 3 w) (hR : ReadsT w A ps) (h3 : server.length ≤ 1000) (h4 : nn.length ≤ 1000) (h5 : ps.length ≤ 1000) (h6 : ∀ i, (ps.getD i []).length ≤ 1000) (hw : capWord (bs (ps.getD 0 [])) = ⟨#[82, 69, 81]⟩) (hv : (capV v (ps.getD 1 [])).2 = true) :
    Calls Tryz.prog 8 #[.string (bs server), sgn (IV v) t p (bs nn) u r d, .slice A ps.length c] w (SgReq server nn (ps.getD 1 []) v p u r d w) := by
  obtain ⟨N, hN⟩ : ∃ N, w.heap.size = N := ⟨_, rfl⟩
  obtain ⟨W0, hW0⟩ : ∃ W0, (((w.alloc (.cells #[.string (bs server)] 9)).alloc (.cells (sgC (IV v) t p (bs nn) u r d) 23)).alloc (.cells (sgC 0 false ⟨#[]⟩ ⟨#[]⟩ ⟨#[]⟩ ⟨#[]⟩ false) 23)) = W0 := ⟨_, rfl⟩
  have b0 : RowKit.Below w.heap.size w W0 := by rw [← hW0]; exact (((Below.refl _ w).alloc (Nat.le_refl _) _).alloc (by simp) _).alloc (by simp; omega) _
  have kS : W0.heap[N]? = some (.cells #[.string (bs server)] 9 (0, 0)) := by rw [← hW0, ← hN]; exact blk_alloc (blk_alloc (heap_alloc_new w _) _) _
  have k0 : W0.heap[N + 1]? = some (.cells (sgC (IV v) t p (bs nn) u r d) 23 (0, 0)) := by rw [← hW0, ← hN]; exact blk_alloc (heap_alloc2_new w _ _) _
  have k1 : W0.heap[N + 1 + 1]? = some (.cells (sgC 0 false ⟨#[]⟩ ⟨#[]⟩ ⟨#[]⟩ ⟨#[]⟩ false) 23 (0, 0)) := by
    have h := heap_alloc2_new (w.alloc (.cells #[.string (bs server)] 9)) (.cells (sgC (IV v) t p (bs nn) u r d) 23) (.cells (sgC 0 false ⟨#[]⟩ ⟨#[]⟩ ⟨#[]⟩ ⟨#[]⟩ false) 23)
    rw [World.size_alloc, hN, hW0] at h
    exact h
  have HPA := Lib.hid (fun (i : Nat) W (hb : RowKit.Below w.heap.size w W) => param_any A c ps i W (readsT_below hR hb (Nat.le_refl _)) (by omega))
  have HWU := Lib.hid (fun W (hb : RowKit.Below w.heap.size w W) => word_up (bs (ps.getD 0 [])) W (by have := h6 0; show (ps.getD 0 []).toArray.size ≤ 1000000; rw [List.size_toArray]; omega) (utf8_kept hT hb))
  have HSY := Lib.hid (fun (verb text : List UInt8) (W : World) (hb : RowKit.Below w.heap.size w W) (h1 : W.heap[N]? = some (.cells #[.string (bs server)] 9 (0, 0))) (k2 : Int) (t2 : Bool) (h2 : W.heap[N + 1]? = some (.cells (sgC k2 t2 p (bs nn) u r d) 23 (0, 0))) (l3 : verb.length ≤ 90000) (l4 : text.length ≤ 90000) => say_any server nn verb text N (N + 1) W (blk_cell h1 0) (blk_cell h2 3) (mx_kept hm hb (Nat.le_refl _)) (by omega) (by omega) l3 l4)
  have hv := hv
  obtain ⟨rq, hrq⟩ : ∃ rq, ps.getD 1 [] = rq := ⟨_, rfl⟩
  have hql : rq.length ≤ 1000 := by rw [← hrq]; exact h6 1
  have HP1 : Hid (∀ W, RowKit.Below w.heap.size w W → Calls Tryz.prog 17 #[.slice A ps.length c, .int .i64 1] W fun e w' => e = .returned (.string (bs rq)) ∧ RowKit.Below W.heap.size W w') := Lib.hid (fun W hb => by
    have h := param_any A c ps 1 W (readsT_below hR hb (Nat.le_refl _)) (by omega)
    rw [hrq] at h
    exact h)
  have hqs : (bs rq).size ≤ 1000000 := by show rq.toArray.size ≤ _; rw [List.size_toArray]; omega
  have HAP := Lib.hid (fun W (hb : RowKit.Below w.heap.size w W) => apply_any v (bs rq) W hqs (hK.kept hb))
  rw [hrq] at hv ⊢
  unfold SgReq
  rw [show (bs rq).data.toList = rq from rfl] at HAP
  obtain ⟨cv, hcv⟩ : ∃ cv, capV v rq = cv := ⟨_, rfl⟩
  rw [hcv] at HAP hv ⊢
  obtain ⟨cv1, cv2⟩ := cv
  dsimp only at HAP hv ⊢
  subst hv
  rw [show (if (true : Bool) = true then ([65, 67, 75] : List UInt8) else [78, 65, 75]) = [65, 67, 75] from rfl]
  obtain ⟨k2, hk2⟩ : ∃ k2, IV cv1 = k2 := ⟨_, rfl⟩
  rw [hk2] at HAP ⊢
  clear hrq hqs hcv hk2
  have H := Lib.hid (And.intro b0 (And.intro kS (And.intro k0 (And.intro k1 hN))))
  have HW := Lib.hid hW0
  have HH6 := Lib.hid h6
  clear hm hp hK hT hR b0 kS k0 k1 hW0 hN h6
  obtain ⟨n, hnn⟩ : ∃ n, bs nn = n := ⟨_, rfl⟩
  obtain ⟨sv, hsv⟩ : ∃ sv, bs server = sv := ⟨_, rfl⟩
  rw [hnn] at HSY H HW ⊢
  rw [hsv] at HSY H HW ⊢
  unfold sgn
  go_enter Tryz.func8, Tryz.ntmps8
  have hW0 := HW.out
  have hN := H.out.2.2.2.2
  unfold sgC at hW0
  go_wp2_with fail
  clear hW0
  refine (HPA.out 0 W0 H.out.1).mono ?_
  rintro e w1 ⟨rfl, hb1⟩
  have HB1 := Lib.hid (H.out.1.trans (hb1.mono H.out.1.size))
  have F1 := Lib.hid (Fr.of_below (X := fun _ => False) hb1)
  clear hb1
  go_wp2_with fail
  refine (HWU.out w1 HB1.out).mono ?_
  rintro e w2 ⟨rfl, hb2⟩
  have HB := Lib.hid (HB1.out.trans (hb2.mono HB1.out.size))
  have f2 : Fr (fun _ => False) W0 w2 := F1.out.trans3 (Fr.of_below (X := fun _ => False) hb2) fun _ _ e => e.elim
  have jS := f2.blk H.out.2.1 fun e => e
  have j0 := f2.blk H.out.2.2.1 fun e => e
  have j1 := f2.blk H.out.2.2.2.1 fun e => e
  have HJ := Lib.hid (And.intro jS (And.intro j0 j1))
  clear hb2 f2 jS j0 j1 HB1 F1 H HW
  rw [hw]
  obtain ⟨jS, j0, j1⟩ := HJ.out
  obtain ⟨c0, c1, c2, c3, c4, c5, c6⟩ := box7_blk j0
  have f0 := blk_free j0 0
  have f1 := blk_free j0 1
  clear jS j0 j1
  go_wp2_with fail
  clear c0 c1 c2 c3 c4 c5 c6 f0 f1
  have z0 : (w2.setCell ⟨N + 1, 1, none⟩ (.bool (!d))).heap[N + 1]? = some (.cells (sgC (IV v) (!d) p n u r d) 23 (0, 0)) := (blk_set (HJ.out.2.1) 1 (.bool (!d)))
  have zf : Fr (fun k => k = N + 1) w2 (w2.setCell ⟨N + 1, 1, none⟩ (.bool (!d))) := ((Fr.refl (fun k => k = N + 1) w2).setCell ⟨N + 1, 1, none⟩ rfl (.bool (!d)))
  have zS := zf.blk HJ.out.1 (by omega)
  have zX := zf.blk HJ.out.2.2 (by omega)
  have zB : RowKit.Below w.heap.size w (w2.setCell ⟨N + 1, 1, none⟩ (.bool (!d))) := HB.out.trans (zf.below HB.out.size fun k hk e => by omega)
  obtain ⟨W3, hW3⟩ : ∃ W3, (w2.setCell ⟨N + 1, 1, none⟩ (.bool (!d))) = W3 := ⟨_, rfl⟩
  rw [hW3] at z0 zf zS zX zB ⊢
  have HB2 := Lib.hid zB
  have HZ := Lib.hid (And.intro zS (And.intro z0 zX))
  have HN := Lib.hid hN
  clear hW3 z0 zf zS zX zB hN
  refine (HP1.out W3 HB2.out).mono ?_
  rintro e w4 ⟨rfl, hb4⟩
  have f4 : Fr (fun _ => False) W3 w4 := Fr.of_below hb4
  have HB4 := Lib.hid (HB2.out.trans (hb4.mono HB2.out.size))
  have HJ4 := Lib.hid (And.intro (f4.blk HZ.out.1 fun e => e) (And.intro (f4.blk HZ.out.2.1 fun e => e) (f4.blk HZ.out.2.2 fun e => e)))
  clear hb4 f4
  have c0 := blk_cell HJ4.out.2.1 0
  go_wp2_with fail
  clear c0
  refine (HAP.out w4 HB4.out).mono ?_
  rintro e w5 ⟨rfl, hb5⟩
  have f5 : Fr (fun _ => False) w4 w5 := Fr.of_below hb5
  have HB5 := Lib.hid (HB4.out.trans (hb5.mono HB4.out.size))
  have HJ5 := Lib.hid (And.intro (f5.blk HJ4.out.1 fun e => e) (And.intro (f5.blk HJ4.out.2.1 fun e => e) (f5.blk HJ4.out.2.2 fun e => e)))
  clear hb5 f5
  obtain ⟨td, htd⟩ : ∃ td, (!d) = td := ⟨_, rfl⟩
  rw [htd] at HJ5 ⊢
  have HTD := Lib.hid htd
  clear htd
  have c0 := blk_cell HJ5.out.2.1 0; have c1 := blk_cell HJ5.out.2.1 1; have c2 := blk_cell HJ5.out.2.1 2; have f0 := blk_free HJ5.out.2.1 0
  go_wp2_with fail
  clear c0 c1 c2 f0
  have hN := HN.out
  clear HN HB2 HZ HB4 HJ4 HB
  have z0 : (w5.setCell ⟨N + 1, 0, none⟩ (.int .i64 k2)).heap[N + 1]? = some (.cells (sgC k2 td p n u r d) 23 (0, 0)) := (blk_set (HJ5.out.2.1) 0 (.int .i64 k2))
  have zf : Fr (fun k => k = N + 1) w5 (w5.setCell ⟨N + 1, 0, none⟩ (.int .i64 k2)) := ((Fr.refl (fun k => k = N + 1) w5).setCell ⟨N + 1, 0, none⟩ rfl (.int .i64 k2))
  have zS := zf.blk HJ5.out.1 (by omega)
  have zX := zf.blk HJ5.out.2.2 (by omega)
  have zB : RowKit.Below w.heap.size w (w5.setCell ⟨N + 1, 0, none⟩ (.int .i64 k2)) := HB5.out.trans (zf.below HB5.out.size fun k hk e => by omega)
  obtain ⟨W3, hW3⟩ : ∃ W3, (w5.setCell ⟨N + 1, 0, none⟩ (.int .i64 k2)) = W3 := ⟨_, rfl⟩
  rw [hW3] at z0 zf zS zX zB ⊢
  have HB2 := Lib.hid zB
  have HZ := Lib.hid (And.intro zS (And.intro z0 zX))
  have HN := Lib.hid hN
  clear hW3 z0 zf zS zX zB hN
  have hS0 : W3.drew.heap[N]? = some (.cells #[.string sv] 9 (0, 0)) ∧ W3.drew.heap[N + 1]? = some (.cells (sgC k2 td p n u r d) 23 (0, 0)) := ⟨HZ.out.1, HZ.out.2.1⟩
  have hX : W3.drew.heap[N + 1 + 1]? = some (.cells (sgC 0 false ⟨#[]⟩ ⟨#[]⟩ ⟨#[]⟩ ⟨#[]⟩ false) 23 (0, 0)) := HZ.out.2.2
  have hF : Fr (fun k => k = N + 1 + 1) W3 W3.drew := (Fr.refl _ _).drew
  refine wp_region_held_drew (S := fun V => V.heap[N]? = some (.cells #[.string sv] 9 (0, 0)) ∧ V.heap[N + 1]? = some (.cells (sgC k2 td p n u r d) 23 (0, 0))) (by kernel_rfl) (by exact hS0) (fun hHeld => ?_)
  refine wpAnyH_read (i := 1) (oi := { dst := some 58, op := Go.Op.move (Go.Operand.tmp 8), type := 35, pos := "sign.go:47", after := #[], guard := none }) ?_ rfl (by kernel_rfl) (by kernel_rfl) (by kernel_rfl) (fun _ _ _ h => h) (by rfl) (by exact hHeld) ?_ ?_
  rotate_left
  · (intro w0 hS0; have s0 := blk_cell hS0.2 0; have s1 := blk_cell hS0.2 1; have s2 := blk_cell hS0.2 2; have s3 := blk_cell hS0.2 3; have s4 := blk_cell hS0.2 4; have s5 := blk_cell hS0.2 5; have s6 := blk_cell hS0.2 6; have s7 := blk_cell hS0.1 0; go_simp <;> (try with_reducible rfl))
  try simp only [Act.put, List.setIfInBounds_toArray, List.set_cons_zero, List.set_cons_succ]
  refine wpAnyH_read (i := 2) (oi := { dst := some 59, op := Go.Op.move (Go.Operand.tmp 9), type := 9, pos := "sign.go:47", after := #[], guard := none }) ?_ rfl (by kernel_rfl) (by kernel_rfl) (by kernel_rfl) (fun _ _ _ h => h) (by rfl) (by exact hHeld) ?_ ?_
  rotate_left
  · (intro w0 hS0; have s0 := blk_cell hS0.2 0; have s1 := blk_cell hS0.2 1; have s2 := blk_cell hS0.2 2; have s3 := blk_cell hS0.2 3; have s4 := blk_cell hS0.2 4; have s5 := blk_cell hS0.2 5; have s6 := blk_cell hS0.2 6; have s7 := blk_cell hS0.1 0; go_simp <;> (try with_reducible rfl))
  try simp only [Act.put, List.setIfInBounds_toArray, List.set_cons_zero, List.set_cons_succ]
  refine wpAnyH_read (i := 0) (oi := { dst := some 57, op := Go.Op.load 23 (Go.Operand.tmp 4), type := 23, pos := "sign.go:47", after := #[], guard := none }) ?_ rfl (by kernel_rfl) (by kernel_rfl) (by kernel_rfl) (fun _ _ _ h => h) (by rfl) (by exact hHeld) ?_ ?_
  rotate_left
  · (intro w0 hS0; have s0 := blk_cell hS0.2 0; have s1 := blk_cell hS0.2 1; have s2 := blk_cell hS0.2 2; have s3 := blk_cell hS0.2 3; have s4 := blk_cell hS0.2 4; have s5 := blk_cell hS0.2 5; have s6 := blk_cell hS0.2 6; have s7 := blk_cell hS0.1 0; go_simp <;> (try with_reducible rfl))
  try simp only [Act.put, List.setIfInBounds_toArray, List.set_cons_zero, List.set_cons_succ]
  refine wpAnyH_one (i := 3) (o := { dst := some 60, op := Go.Op.call { callee := Go.Callee.value (Go.Operand.tmp 58), args := #[Go.Operand.const (Go.Value.string { data := #[65, 67, 75] }), Go.Operand.tmp 59], argTypes := #[9, 9] }, type := 24, pos := "sign.go:47", after := #[{ on := 1, ground := Go.Ground.data }, { on := 2, ground := Go.Ground.data }], guard := none }) (by kernel_rfl) rfl (by rfl) (fun K hK => ?_)
  go_simp
  have hbc := HB2.out.trans (hF.below HB2.out.size fun k hk e => by have := HN.out; omega)
  refine (HSY.out [65, 67, 75] rq _ hbc hS0.1 _ _ hS0.2 (by decide) (by omega)).mono ?_
  rintro e w7 ⟨gl, rfl, hgl, hcl, hb7⟩
  have HX := Lib.hid (Fr.of_below (X := fun _ => False) hb7)
  have HCL := Lib.hid (And.intro (Nat.lt_of_lt_of_le (blk_lt hX) hgl) hcl)
  clear hgl hcl
  clear hb7 hbc
  refine hK.out _ _ ?_ (fun hHeld => ?_)
  · exact ⟨HX.out.blk hS0.1 fun e => e, HX.out.blk hS0.2 fun e => e⟩
  clear hK K
  try simp only [Act.put, List.setIfInBounds_toArray, List.set_cons_zero, List.set_cons_succ]
  have hS0 := hHeld
  have hX := HX.out.blk hX fun e => e
  have hF := (hF.mono (Y := fun k => k = N + 1 + 1) fun _ _ e => e).trans3 HX.out fun _ _ e => e.elim
  have q0 := blk_cell hX 0; have q1 := blk_cell hX 1; have q2 := blk_cell hX 2; have q3 := blk_cell hX 3; have q4 := blk_cell hX 4; have q5 := blk_cell hX 5; have q6 := blk_cell hX 6; have f0 := blk_free hX 0; have f1 := blk_free hX 1; have f2 := blk_free hX 2; have f3 := blk_free hX 3; have f4 := blk_free hX 4; have f5 := blk_free hX 5; have f6 := blk_free hX 6
  refine wpAnyH_one (i := 4) (o := { dst := none, op := Go.Op.store 23 (Go.Operand.tmp 6) (Go.Operand.tmp 57), type := 0, pos := "sign.go:47", after := #[{ on := 0, ground := Go.Ground.data }, { on := 3, ground := Go.Ground.chain }, { on := 0, ground := Go.Ground.phase }, { on := 1, ground := Go.Ground.textOnly Go.Departure.lateStores }, { on := 2, ground := Go.Ground.textOnly Go.Departure.lateStores }, { on := 3, ground := Go.Ground.textOnly Go.Departure.lateStoresUnsure }], guard := none }) (by kernel_rfl) rfl (by rfl) (fun K hK => ?_)
  go_simp
  refine hK.out _ _ ?_ (fun hHeld => ?_)
  · exact ⟨set7_oth hS0.1 (by omega), set7_oth hS0.2 (by omega)⟩
  clear hK K
  try simp only [Act.put, List.setIfInBounds_toArray, List.set_cons_zero, List.set_cons_succ]
  have hS0 := hHeld
  have hX := set7 (v0 := .int .i64 (k2)) (v1 := .bool td) (v2 := .string p) (v3 := .string n) (v4 := .string u) (v5 := .string r) (v6 := .bool d) hX
  have hF := set7_fr (v0 := .int .i64 (k2)) (v1 := .bool td) (v2 := .string p) (v3 := .string n) (v4 := .string u) (v5 := .string r) (v6 := .bool d) hF rfl
  clear q0 q1 q2 q3 q4 q5 q6 f0 f1 f2 f3 f4 f5 f6
  have q0 := blk_cell hX 0; have q1 := blk_cell hX 1; have q2 := blk_cell hX 2; have q3 := blk_cell hX 3; have q4 := blk_cell hX 4; have q5 := blk_cell hX 5; have q6 := blk_cell hX 6; have f0 := blk_free hX 0; have f1 := blk_free hX 1; have f2 := blk_free hX 2; have f3 := blk_free hX 3; have f4 := blk_free hX 4; have f5 := blk_free hX 5; have f6 := blk_free hX 6
  refine wpAnyH_read (i := 5) (oi := { dst := some 7, op := Go.Op.assign (Go.Operand.tmp 60), type := 24, pos := "sign.go:47", after := #[{ on := 3, ground := Go.Ground.data }, { on := 4, ground := Go.Ground.chain }, { on := 0, ground := Go.Ground.phase }, { on := 1, ground := Go.Ground.phase }, { on := 2, ground := Go.Ground.phase }, { on := 3, ground := Go.Ground.phase }, { on := 4, ground := Go.Ground.phase }], guard := none }) ?_ rfl (by kernel_rfl) (by kernel_rfl) (by kernel_rfl) (fun _ _ _ h => h) (by rfl) (by exact hHeld) ?_ ?_
  rotate_left
  · (intro w0 hS0; have s0 := blk_cell hS0.2 0; have s1 := blk_cell hS0.2 1; have s2 := blk_cell hS0.2 2; have s3 := blk_cell hS0.2 3; have s4 := blk_cell hS0.2 4; have s5 := blk_cell hS0.2 5; have s6 := blk_cell hS0.2 6; have s7 := blk_cell hS0.1 0; go_simp <;> (try with_reducible rfl))
  try simp only [Act.put, List.setIfInBounds_toArray, List.set_cons_zero, List.set_cons_succ]
  refine wpAnyH_done (by kernel_rfl) ?_ _
  go_wp2_with fail
  have hcl := HCL.out.2
  have hgl := HCL.out.1
  refine bodyPost_ret (res_seven rfl rfl (Tryz.isAgg23 _) (Tryz.sizeOf23 _) hX) rfl ⟨gl, by rw [HTD.out]; rfl, ?_, HB2.out.trans (hF.below HB2.out.size fun k hk e => by have := HN.out; omega)⟩
  exact ((set7_fr (X := fun k => k = N + 1 + 1) (Fr.refl _ w7) rfl).cell (p := ⟨gl, 0, none⟩) (World.block_lt_of_cell? _ _ hcl) (by show ¬ gl = N + 1 + 1; omega)).trans hcl
end Go.Proofs.YtdikpbldfnkgdaaGreatDoor
end
