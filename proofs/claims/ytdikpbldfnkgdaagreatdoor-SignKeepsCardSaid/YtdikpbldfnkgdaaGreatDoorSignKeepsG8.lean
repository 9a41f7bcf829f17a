/- Texts of this proof, one behind the other. -/
import Derived.Test.YtdikpbldfnkgdaaGreatDoorSignKeepsG7
import Derived.Test.YtdikpbldfnkgdaaGreatDoorSignKeepsG4
section
/- Layer 17: User, a name that is none. -/
namespace Go.Proofs.YtdikpbldfnkgdaaGreatDoor
set_option linter.unusedVariables false
set_option linter.unusedSimpArgs false
open Go Go.RowKit

set_option maxRecDepth 100000 in
set_option maxHeartbeats 8000000 in
theorem user_bad (server : List UInt8) (k : Int) (t : Bool) (p u r : ByteArray) (nn : List UInt8) (A : Option Addr) (m c : Nat) (hm4 : 4 ≤ m) (x : ByteArray) (w : World) (hm : Mx w) (hp : PowW w) (h3 : server.length ≤ 1000) (h4 : nn.length ≤ 1000) (hx : ∃ g o, A = some ⟨g, o, none⟩ ∧ g < w.heap.size ∧ w.cell? ⟨g, o, none⟩ = some (.string x)) (hxl : x.size ≤ 1000000) (hrw : Rowed w) (hbad : dec (UserP x) = false) :
    Calls Tryz.prog 7 #[.string (bs server), sgn k t p (bs nn) u r false, .slice A m c] w (SgUser k t p (bs nn) u r false w) := by
  obtain ⟨N, hN⟩ : ∃ N, w.heap.size = N := ⟨_, rfl⟩
  obtain ⟨n, hnn⟩ : ∃ n, bs nn = n := ⟨_, rfl⟩
  obtain ⟨W0, hW0⟩ : ∃ W0, ((w.alloc (.cells (sgC k t p n u r false) 23)).alloc (.cells (sgC 0 false ⟨#[]⟩ ⟨#[]⟩ ⟨#[]⟩ ⟨#[]⟩ false) 23)) = W0 := ⟨_, rfl⟩
  have b0 : RowKit.Below w.heap.size w W0 := by rw [← hW0]; exact ((Below.refl _ w).alloc (Nat.le_refl _) _).alloc (by simp) _
  have k0 : W0.heap[N]? = some (.cells (sgC k t p n u r false) 23 (0, 0)) := by rw [← hW0, ← hN]; exact blk_alloc (heap_alloc_new w _) _
  have k1 : W0.heap[N + 1]? = some (.cells (sgC 0 false ⟨#[]⟩ ⟨#[]⟩ ⟨#[]⟩ ⟨#[]⟩ false) 23 (0, 0)) := by rw [← hW0, ← hN]; exact heap_alloc2_new w _ _
  have b0d : RowKit.Below w.heap.size w W0.drew := b0.trans (((Fr.refl (fun _ => False) W0).drew).below b0.size fun _ _ e => e.elim)
  have HU := Lib.hid (user_v x W0 hxl (rowed_sg hrw b0))
  rw [hbad] at HU
  obtain ⟨g, o, rfl, hg, hxc⟩ := hx
  have HXC := Lib.hid ((b0.cell (p := ⟨g, o, none⟩) hg).trans hxc)
  have hT := told_any server nn 468 none 0 [] W0.drew (fun h => by simp at h) (mx_kept hm b0d (Nat.le_refl _)) (PowW.below hp b0d) (by decide) (by decide) (by simp) (by omega) (by omega) (by simp)
  obtain ⟨tx, htx⟩ : ∃ tx, toldL server nn 468 [] = tx := ⟨_, rfl⟩
  rw [htx, hnn] at hT
  have hT2 : Calls Tryz.prog 10 #[.string (bs server), .int .i64 468, .string n, .slice none 0 0] W0.drew fun e w1 => e = .returned (.string (bs tx)) ∧ Hid (Fr (fun _ => False) W0.drew w1) := hT.mono fun e w1 ⟨h1, h2⟩ => ⟨h1, Fr.of_below (h2.mono (Nat.le_refl _))⟩
  have HT := Lib.hid hT2
  have H := Lib.hid (And.intro b0 (And.intro k0 (And.intro k1 hN)))
  have HW := Lib.hid hW0
  rw [hnn]
  clear hm hp hT hT2 htx b0 b0d k0 k1 hW0 hnn hN hrw hbad hxc hg
  obtain ⟨c0, c1, c2, c3, c4, c5, c6⟩ := box7_blk H.out.2.1
  unfold sgn
  go_enter Tryz.func7, Tryz.ntmps7
  have hW0 := HW.out
  have hN := H.out.2.2.2
  unfold sgC at hW0
  have hxc := HXC.out
  have hm5 : (4 : Int) ≤ (m : Int) := by omega
  go_wp2_with fail
  refine HU.out.mono ?_
  rintro e w5 ⟨rfl, rfl⟩
  go_wp2_with fail
  clear hW0 hN hxc hm5 c0 c1 c2 c3 c4 c5 c6
  have hS0 : W0.drew.heap[N]? = some (.cells (sgC k t p n u r false) 23 (0, 0)) := H.out.2.1
  have hX : W0.drew.heap[N + 1]? = some (.cells (sgC 0 false ⟨#[]⟩ ⟨#[]⟩ ⟨#[]⟩ ⟨#[]⟩ false) 23 (0, 0)) := H.out.2.2.1
  have hF : Fr (fun k => k = N + 1) W0 W0.drew := (Fr.refl _ _).drew
  refine wp_region_held_drew (S := fun V => V.heap[N]? = some (.cells (sgC k t p n u r false) 23 (0, 0))) (by kernel_rfl) (by exact hS0) (fun hHeld => ?_)
  refine wpAnyH_read (i := 1) (oi := { dst := some 35, op := Go.Op.move (Go.Operand.tmp 0), type := 9, pos := "sign.go:84", after := #[], guard := none }) ?_ rfl (by kernel_rfl) (by kernel_rfl) (by kernel_rfl) (fun _ _ _ h => h) (by rfl) (by exact hHeld) ?_ ?_
  rotate_left
  · (intro w0 hS0; have s0 := blk_cell hS0 0; have s1 := blk_cell hS0 1; have s2 := blk_cell hS0 2; have s3 := blk_cell hS0 3; have s4 := blk_cell hS0 4; have s5 := blk_cell hS0 5; have s6 := blk_cell hS0 6; go_simp <;> (try with_reducible rfl))
  try simp only [Act.put, List.setIfInBounds_toArray, List.set_cons_zero, List.set_cons_succ]
  refine wpAnyH_read (i := 2) (oi := { dst := some 36, op := Go.Op.fieldAddr 23 (Go.Operand.tmp 4) 3, type := 0, pos := "sign.go:84", after := #[], guard := none }) ?_ rfl (by kernel_rfl) (by kernel_rfl) (by kernel_rfl) (fun _ _ _ h => h) (by rfl) (by exact hHeld) ?_ ?_
  rotate_left
  · (intro w0 hS0; have s0 := blk_cell hS0 0; have s1 := blk_cell hS0 1; have s2 := blk_cell hS0 2; have s3 := blk_cell hS0 3; have s4 := blk_cell hS0 4; have s5 := blk_cell hS0 5; have s6 := blk_cell hS0 6; go_simp <;> (try with_reducible rfl))
  try simp only [Act.put, List.setIfInBounds_toArray, List.set_cons_zero, List.set_cons_succ]
  refine wpAnyH_read (i := 0) (oi := { dst := some 34, op := Go.Op.load 23 (Go.Operand.tmp 4), type := 23, pos := "sign.go:84", after := #[], guard := none }) ?_ rfl (by kernel_rfl) (by kernel_rfl) (by kernel_rfl) (fun _ _ _ h => h) (by rfl) (by exact hHeld) ?_ ?_
  rotate_left
  · (intro w0 hS0; have s0 := blk_cell hS0 0; have s1 := blk_cell hS0 1; have s2 := blk_cell hS0 2; have s3 := blk_cell hS0 3; have s4 := blk_cell hS0 4; have s5 := blk_cell hS0 5; have s6 := blk_cell hS0 6; go_simp <;> (try with_reducible rfl))
  try simp only [Act.put, List.setIfInBounds_toArray, List.set_cons_zero, List.set_cons_succ]
  refine wpAnyH_read (i := 3) (oi := { dst := some 37, op := Go.Op.load 9 (Go.Operand.tmp 36), type := 9, pos := "sign.go:84", after := #[{ on := 2, ground := Go.Ground.data }], guard := none }) ?_ rfl (by kernel_rfl) (by kernel_rfl) (by kernel_rfl) (fun _ _ _ h => h) (by rfl) (by exact hHeld) ?_ ?_
  rotate_left
  · (intro w0 hS0; have s0 := blk_cell hS0 0; have s1 := blk_cell hS0 1; have s2 := blk_cell hS0 2; have s3 := blk_cell hS0 3; have s4 := blk_cell hS0 4; have s5 := blk_cell hS0 5; have s6 := blk_cell hS0 6; go_simp <;> (try with_reducible rfl))
  try simp only [Act.put, List.setIfInBounds_toArray, List.set_cons_zero, List.set_cons_succ]
  refine wpAnyH_one (i := 4) (o := { dst := some 38, op := Go.Op.call { callee := Go.Callee.value (Go.Operand.func 10), args := #[Go.Operand.tmp 35, Go.Operand.const (Go.Value.int Go.IntKind.i64 468), Go.Operand.tmp 37, Go.Operand.const (Go.Value.slice none 0 0)], argTypes := #[9, 3, 9, 24] }, type := 9, pos := "sign.go:84", after := #[{ on := 1, ground := Go.Ground.data }, { on := 3, ground := Go.Ground.data }], guard := none }) (by kernel_rfl) rfl (by rfl) (fun K hK => ?_)
  go_simp
  refine HT.out.mono ?_
  rintro e w1 ⟨rfl, HX⟩
  refine hK.out _ _ ?_ (fun hHeld => ?_)
  · exact HX.out.blk hS0 fun e => e
  clear hK K
  try simp only [Act.put, List.setIfInBounds_toArray, List.set_cons_zero, List.set_cons_succ]
  have hS0 := hHeld
  have hX := HX.out.blk hX fun e => e
  have hF := (hF.mono (Y := fun k => k = N + 1) fun _ _ e => e).trans3 HX.out fun _ _ e => e.elim
  have q0 := blk_cell hX 0; have q1 := blk_cell hX 1; have q2 := blk_cell hX 2; have q3 := blk_cell hX 3; have q4 := blk_cell hX 4; have q5 := blk_cell hX 5; have q6 := blk_cell hX 6; have f0 := blk_free hX 0; have f1 := blk_free hX 1; have f2 := blk_free hX 2; have f3 := blk_free hX 3; have f4 := blk_free hX 4; have f5 := blk_free hX 5; have f6 := blk_free hX 6
  refine wpAnyH_two (i := 5) (j := 6) (o := { dst := some 39, op := Go.Op.buildSlice 24 1 #[(0, Go.Operand.tmp 38)], type := 24, pos := "sign.go:84", after := #[{ on := 4, ground := Go.Ground.data }, { on := 6, ground := Go.Ground.gcOnly Go.Departure.lateStores }], guard := none }) (o2 := { dst := none, op := Go.Op.store 23 (Go.Operand.tmp 6) (Go.Operand.tmp 34), type := 0, pos := "sign.go:84", after := #[{ on := 0, ground := Go.Ground.data }, { on := 4, ground := Go.Ground.chain }, { on := 0, ground := Go.Ground.phase }, { on := 1, ground := Go.Ground.textOnly Go.Departure.lateStores }, { on := 2, ground := Go.Ground.textOnly Go.Departure.lateStores }, { on := 3, ground := Go.Ground.textOnly Go.Departure.lateStores }, { on := 4, ground := Go.Ground.textOnly Go.Departure.lateStoresUnsure }, { on := 5, ground := Go.Ground.textOnly Go.Departure.lateStores }], guard := none }) (by kernel_rfl) rfl rfl (by rfl) (by rfl) (fun K hK => ?_) (fun K hK => ?_)
  · go_simp
    refine hK.out _ _ ?_ (fun hHeld => ?_)
    · exact blk_alloc hS0 _
    clear hK K
    try simp only [Act.put, List.setIfInBounds_toArray, List.set_cons_zero, List.set_cons_succ]
    have hS0 := hHeld
    have hX := blk_alloc hX (Obj.cells #[Value.string (bs tx)] 9)
    have hF := hF.alloc (Obj.cells #[Value.string (bs tx)] 9)
    clear q0 q1 q2 q3 q4 q5 q6 f0 f1 f2 f3 f4 f5 f6
    have q0 := blk_cell hX 0; have q1 := blk_cell hX 1; have q2 := blk_cell hX 2; have q3 := blk_cell hX 3; have q4 := blk_cell hX 4; have q5 := blk_cell hX 5; have q6 := blk_cell hX 6; have f0 := blk_free hX 0; have f1 := blk_free hX 1; have f2 := blk_free hX 2; have f3 := blk_free hX 3; have f4 := blk_free hX 4; have f5 := blk_free hX 5; have f6 := blk_free hX 6
    refine wpAnyH_one (i := 6) (o := { dst := none, op := Go.Op.store 23 (Go.Operand.tmp 6) (Go.Operand.tmp 34), type := 0, pos := "sign.go:84", after := #[{ on := 0, ground := Go.Ground.data }, { on := 4, ground := Go.Ground.chain }, { on := 0, ground := Go.Ground.phase }, { on := 1, ground := Go.Ground.textOnly Go.Departure.lateStores }, { on := 2, ground := Go.Ground.textOnly Go.Departure.lateStores }, { on := 3, ground := Go.Ground.textOnly Go.Departure.lateStores }, { on := 4, ground := Go.Ground.textOnly Go.Departure.lateStoresUnsure }, { on := 5, ground := Go.Ground.textOnly Go.Departure.lateStores }], guard := none }) (by kernel_rfl) rfl (by rfl) (fun K hK => ?_)
    go_simp
    refine hK.out _ _ ?_ (fun hHeld => ?_)
    · exact set7_oth hS0 (by omega)
    clear hK K
    try simp only [Act.put, List.setIfInBounds_toArray, List.set_cons_zero, List.set_cons_succ]
    have hS0 := hHeld
    have hX := set7 (v0 := .int .i64 k) (v1 := .bool t) (v2 := .string p) (v3 := .string n) (v4 := .string u) (v5 := .string r) (v6 := .bool false) hX
    have hF := set7_fr (v0 := .int .i64 k) (v1 := .bool t) (v2 := .string p) (v3 := .string n) (v4 := .string u) (v5 := .string r) (v6 := .bool false) hF rfl
    clear q0 q1 q2 q3 q4 q5 q6 f0 f1 f2 f3 f4 f5 f6
    have q0 := blk_cell hX 0; have q1 := blk_cell hX 1; have q2 := blk_cell hX 2; have q3 := blk_cell hX 3; have q4 := blk_cell hX 4; have q5 := blk_cell hX 5; have q6 := blk_cell hX 6; have f0 := blk_free hX 0; have f1 := blk_free hX 1; have f2 := blk_free hX 2; have f3 := blk_free hX 3; have f4 := blk_free hX 4; have f5 := blk_free hX 5; have f6 := blk_free hX 6
    refine wpAnyH_read (i := 7) (oi := { dst := some 7, op := Go.Op.assign (Go.Operand.tmp 39), type := 24, pos := "sign.go:84", after := #[{ on := 5, ground := Go.Ground.data }, { on := 6, ground := Go.Ground.chain }, { on := 0, ground := Go.Ground.phase }, { on := 1, ground := Go.Ground.phase }, { on := 2, ground := Go.Ground.phase }, { on := 3, ground := Go.Ground.phase }, { on := 4, ground := Go.Ground.phase }, { on := 5, ground := Go.Ground.phase }, { on := 6, ground := Go.Ground.phase }], guard := none }) ?_ rfl (by kernel_rfl) (by kernel_rfl) (by kernel_rfl) (fun _ _ _ h => h) (by rfl) (by exact hHeld) ?_ ?_
    rotate_left
    · (intro w0 hS0; have s0 := blk_cell hS0 0; have s1 := blk_cell hS0 1; have s2 := blk_cell hS0 2; have s3 := blk_cell hS0 3; have s4 := blk_cell hS0 4; have s5 := blk_cell hS0 5; have s6 := blk_cell hS0 6; go_simp <;> (try with_reducible rfl))
    try simp only [Act.put, List.setIfInBounds_toArray, List.set_cons_zero, List.set_cons_succ]
    refine wpAnyH_done (by kernel_rfl) ?_ _
    go_wp2_with fail
    refine bodyPost_ret (res_seven rfl rfl (Tryz.isAgg23 _) (Tryz.sizeOf23 _) hX) rfl ⟨⟨u, r, _, _, _, rfl, .inl ⟨rfl, rfl, rfl⟩⟩, ?_⟩
    exact H.out.1.trans (hF.below H.out.1.size fun k hk e => by have := H.out.2.2.2; omega)
  · go_simp
    refine hK.out _ _ ?_ (fun hHeld => ?_)
    · exact set7_oth hS0 (by omega)
    clear hK K
    try simp only [Act.put, List.setIfInBounds_toArray, List.set_cons_zero, List.set_cons_succ]
    have hS0 := hHeld
    have hX := set7 (v0 := .int .i64 k) (v1 := .bool t) (v2 := .string p) (v3 := .string n) (v4 := .string u) (v5 := .string r) (v6 := .bool false) hX
    have hF := set7_fr (v0 := .int .i64 k) (v1 := .bool t) (v2 := .string p) (v3 := .string n) (v4 := .string u) (v5 := .string r) (v6 := .bool false) hF rfl
    clear q0 q1 q2 q3 q4 q5 q6 f0 f1 f2 f3 f4 f5 f6
    have q0 := blk_cell hX 0; have q1 := blk_cell hX 1; have q2 := blk_cell hX 2; have q3 := blk_cell hX 3; have q4 := blk_cell hX 4; have q5 := blk_cell hX 5; have q6 := blk_cell hX 6; have f0 := blk_free hX 0; have f1 := blk_free hX 1; have f2 := blk_free hX 2; have f3 := blk_free hX 3; have f4 := blk_free hX 4; have f5 := blk_free hX 5; have f6 := blk_free hX 6
    refine wpAnyH_one (i := 5) (o := { dst := some 39, op := Go.Op.buildSlice 24 1 #[(0, Go.Operand.tmp 38)], type := 24, pos := "sign.go:84", after := #[{ on := 4, ground := Go.Ground.data }, { on := 6, ground := Go.Ground.gcOnly Go.Departure.lateStores }], guard := none }) (by kernel_rfl) rfl (by rfl) (fun K hK => ?_)
    go_simp
    refine hK.out _ _ ?_ (fun hHeld => ?_)
    · exact blk_alloc hS0 _
    clear hK K
    try simp only [Act.put, List.setIfInBounds_toArray, List.set_cons_zero, List.set_cons_succ]
    have hS0 := hHeld
    have hX := blk_alloc hX (Obj.cells #[Value.string (bs tx)] 9)
    have hF := hF.alloc (Obj.cells #[Value.string (bs tx)] 9)
    clear q0 q1 q2 q3 q4 q5 q6 f0 f1 f2 f3 f4 f5 f6
    have q0 := blk_cell hX 0; have q1 := blk_cell hX 1; have q2 := blk_cell hX 2; have q3 := blk_cell hX 3; have q4 := blk_cell hX 4; have q5 := blk_cell hX 5; have q6 := blk_cell hX 6; have f0 := blk_free hX 0; have f1 := blk_free hX 1; have f2 := blk_free hX 2; have f3 := blk_free hX 3; have f4 := blk_free hX 4; have f5 := blk_free hX 5; have f6 := blk_free hX 6
    refine wpAnyH_read (i := 7) (oi := { dst := some 7, op := Go.Op.assign (Go.Operand.tmp 39), type := 24, pos := "sign.go:84", after := #[{ on := 5, ground := Go.Ground.data }, { on := 6, ground := Go.Ground.chain }, { on := 0, ground := Go.Ground.phase }, { on := 1, ground := Go.Ground.phase }, { on := 2, ground := Go.Ground.phase }, { on := 3, ground := Go.Ground.phase }, { on := 4, ground := Go.Ground.phase }, { on := 5, ground := Go.Ground.phase }, { on := 6, ground := Go.Ground.phase }], guard := none }) ?_ rfl (by kernel_rfl) (by kernel_rfl) (by kernel_rfl) (fun _ _ _ h => h) (by rfl) (by exact hHeld) ?_ ?_
    rotate_left
    · (intro w0 hS0; have s0 := blk_cell hS0 0; have s1 := blk_cell hS0 1; have s2 := blk_cell hS0 2; have s3 := blk_cell hS0 3; have s4 := blk_cell hS0 4; have s5 := blk_cell hS0 5; have s6 := blk_cell hS0 6; go_simp <;> (try with_reducible rfl))
    try simp only [Act.put, List.setIfInBounds_toArray, List.set_cons_zero, List.set_cons_succ]
    refine wpAnyH_done (by kernel_rfl) ?_ _
    go_wp2_with fail
    refine bodyPost_ret (res_seven rfl rfl (Tryz.isAgg23 _) (Tryz.sizeOf23 _) hX) rfl ⟨⟨u, r, _, _, _, rfl, .inl ⟨rfl, rfl, rfl⟩⟩, ?_⟩
    exact H.out.1.trans (hF.below H.out.1.size fun k hk e => by have := H.out.2.2.2; omega)
end Go.Proofs.YtdikpbldfnkgdaaGreatDoor
end
section
/- Layer 17: Pass without a parameter. -/
namespace Go.Proofs.YtdikpbldfnkgdaaGreatDoor
set_option linter.unusedVariables false
set_option linter.unusedSimpArgs false
open Go Go.RowKit

set_option maxRecDepth 100000 in
set_option maxHeartbeats 8000000 in
theorem pass_none (server : List UInt8) (k : Int) (t : Bool) (p u r : ByteArray) (nn : List UInt8) (A : Option Addr) (c : Nat) (w : World) (hm : Mx w) (hp : PowW w) (h3 : server.length ≤ 1000) (h4 : nn.length ≤ 1000) :
    Calls Tryz.prog 6 #[.string (bs server), sgn k t p (bs nn) u r false, .slice A 0 c] w (SgPass k t p (bs nn) u r false w) := by
  obtain ⟨N, hN⟩ : ∃ N, w.heap.size = N := ⟨_, rfl⟩
  obtain ⟨n, hnn⟩ : ∃ n, bs nn = n := ⟨_, rfl⟩
  obtain ⟨W0, hW0⟩ : ∃ W0, ((w.alloc (.cells (sgC k t p n u r false) 23)).alloc (.cells (sgC 0 false ⟨#[]⟩ ⟨#[]⟩ ⟨#[]⟩ ⟨#[]⟩ false) 23)) = W0 := ⟨_, rfl⟩
  have b0 : RowKit.Below w.heap.size w W0 := by rw [← hW0]; exact ((Below.refl _ w).alloc (Nat.le_refl _) _).alloc (by simp) _
  have k0 : W0.heap[N]? = some (.cells (sgC k t p n u r false) 23 (0, 0)) := by rw [← hW0, ← hN]; exact blk_alloc (heap_alloc_new w _) _
  have k1 : W0.heap[N + 1]? = some (.cells (sgC 0 false ⟨#[]⟩ ⟨#[]⟩ ⟨#[]⟩ ⟨#[]⟩ false) 23 (0, 0)) := by rw [← hW0, ← hN]; exact heap_alloc2_new w _ _
  have b0d : RowKit.Below w.heap.size w W0.drew := b0.trans (((Fr.refl (fun _ => False) W0).drew).below b0.size fun _ _ e => e.elim)
  have b1 : RowKit.Below w.heap.size w (W0.drew.alloc (.cells #[.string ⟨#[80, 65, 83, 83]⟩] 9)) := b0d.alloc b0d.size _
  have hr1 : ReadsT (W0.drew.alloc (.cells #[.string ⟨#[80, 65, 83, 83]⟩] 9)) (some ⟨W0.drew.heap.size, 0, none⟩) [#[80, 65, 83, 83].toList] := fun _ => ⟨_, _, rfl, by simp, fun j hj => by
    obtain rfl : j = 0 := by simpa using hj
    exact blk_cell (heap_alloc_new W0.drew _) 0⟩
  have hT := told_any server nn 461 (some ⟨W0.drew.heap.size, 0, none⟩) 1 [#[80, 65, 83, 83].toList] (W0.drew.alloc (.cells #[.string ⟨#[80, 65, 83, 83]⟩] 9)) hr1 (mx_kept hm b1 (Nat.le_refl _)) (PowW.below hp b1) (by decide) (by decide) (by simp) (by omega) (by omega) (by decide)
  obtain ⟨tx, htx⟩ : ∃ tx, toldL server nn 461 [#[80, 65, 83, 83].toList] = tx := ⟨_, rfl⟩
  rw [htx, hnn] at hT
  have hT2 : Calls Tryz.prog 10 #[.string (bs server), .int .i64 461, .string n, .slice (some ⟨W0.drew.heap.size, 0, none⟩) 1 1] (W0.drew.alloc (.cells #[.string ⟨#[80, 65, 83, 83]⟩] 9)) fun e w1 => e = .returned (.string (bs tx)) ∧ Hid (Fr (fun _ => False) (W0.drew.alloc (.cells #[.string ⟨#[80, 65, 83, 83]⟩] 9)) w1) := hT.mono fun e w1 ⟨h1, h2⟩ => ⟨h1, Fr.of_below (h2.mono (Nat.le_refl _))⟩
  have HT := Lib.hid hT2
  have H := Lib.hid (And.intro b0 (And.intro k0 (And.intro k1 hN)))
  have HW := Lib.hid hW0
  rw [hnn]
  clear hm hp hT hT2 htx b0 b0d k0 k1 hW0 hnn hN b1 hr1
  obtain ⟨c0, c1, c2, c3, c4, c5, c6⟩ := box7_blk H.out.2.1
  unfold sgn
  go_enter Tryz.func6, Tryz.ntmps6
  have hW0 := HW.out
  have hN := H.out.2.2.2
  unfold sgC at hW0
  go_wp2_with fail
  clear hW0 hN c0 c1 c2 c3 c4 c5 c6
  have hS0 : W0.drew.heap[N]? = some (.cells (sgC k t p n u r false) 23 (0, 0)) := H.out.2.1
  have hX : W0.drew.heap[N + 1]? = some (.cells (sgC 0 false ⟨#[]⟩ ⟨#[]⟩ ⟨#[]⟩ ⟨#[]⟩ false) 23 (0, 0)) := H.out.2.2.1
  have hF : Fr (fun k => k = N + 1) W0 W0.drew := (Fr.refl _ _).drew
  refine wp_region_held_drew (S := fun V => V.heap[N]? = some (.cells (sgC k t p n u r false) 23 (0, 0))) (by kernel_rfl) (by exact hS0) (fun hHeld => ?_)
  refine wpAnyH_read (i := 1) (oi := { dst := some 22, op := Go.Op.move (Go.Operand.tmp 0), type := 9, pos := "sign.go:70", after := #[], guard := none }) ?_ rfl (by kernel_rfl) (by kernel_rfl) (by kernel_rfl) (fun _ _ _ h => h) (by rfl) (by exact hHeld) ?_ ?_
  rotate_left
  · (intro w0 hS0; have s0 := blk_cell hS0 0; have s1 := blk_cell hS0 1; have s2 := blk_cell hS0 2; have s3 := blk_cell hS0 3; have s4 := blk_cell hS0 4; have s5 := blk_cell hS0 5; have s6 := blk_cell hS0 6; go_simp <;> (try with_reducible rfl))
  try simp only [Act.put, List.setIfInBounds_toArray, List.set_cons_zero, List.set_cons_succ]
  refine wpAnyH_read (i := 2) (oi := { dst := some 23, op := Go.Op.fieldAddr 23 (Go.Operand.tmp 4) 3, type := 0, pos := "sign.go:70", after := #[], guard := none }) ?_ rfl (by kernel_rfl) (by kernel_rfl) (by kernel_rfl) (fun _ _ _ h => h) (by rfl) (by exact hHeld) ?_ ?_
  rotate_left
  · (intro w0 hS0; have s0 := blk_cell hS0 0; have s1 := blk_cell hS0 1; have s2 := blk_cell hS0 2; have s3 := blk_cell hS0 3; have s4 := blk_cell hS0 4; have s5 := blk_cell hS0 5; have s6 := blk_cell hS0 6; go_simp <;> (try with_reducible rfl))
  try simp only [Act.put, List.setIfInBounds_toArray, List.set_cons_zero, List.set_cons_succ]
  refine wpAnyH_read (i := 0) (oi := { dst := some 21, op := Go.Op.load 23 (Go.Operand.tmp 4), type := 23, pos := "sign.go:70", after := #[], guard := none }) ?_ rfl (by kernel_rfl) (by kernel_rfl) (by kernel_rfl) (fun _ _ _ h => h) (by rfl) (by exact hHeld) ?_ ?_
  rotate_left
  · (intro w0 hS0; have s0 := blk_cell hS0 0; have s1 := blk_cell hS0 1; have s2 := blk_cell hS0 2; have s3 := blk_cell hS0 3; have s4 := blk_cell hS0 4; have s5 := blk_cell hS0 5; have s6 := blk_cell hS0 6; go_simp <;> (try with_reducible rfl))
  try simp only [Act.put, List.setIfInBounds_toArray, List.set_cons_zero, List.set_cons_succ]
  refine wpAnyH_read (i := 3) (oi := { dst := some 24, op := Go.Op.load 9 (Go.Operand.tmp 23), type := 9, pos := "sign.go:70", after := #[{ on := 2, ground := Go.Ground.data }], guard := none }) ?_ rfl (by kernel_rfl) (by kernel_rfl) (by kernel_rfl) (fun _ _ _ h => h) (by rfl) (by exact hHeld) ?_ ?_
  rotate_left
  · (intro w0 hS0; have s0 := blk_cell hS0 0; have s1 := blk_cell hS0 1; have s2 := blk_cell hS0 2; have s3 := blk_cell hS0 3; have s4 := blk_cell hS0 4; have s5 := blk_cell hS0 5; have s6 := blk_cell hS0 6; go_simp <;> (try with_reducible rfl))
  try simp only [Act.put, List.setIfInBounds_toArray, List.set_cons_zero, List.set_cons_succ]
  refine wpAnyH_one (i := 4) (o := { dst := some 25, op := Go.Op.buildSlice 24 1 #[(0, Go.Operand.const (Go.Value.string { data := #[80, 65, 83, 83] }))], type := 24, pos := "sign.go:70", after := #[], guard := none }) (by kernel_rfl) rfl (by rfl) (fun K hK => ?_)
  go_simp
  refine hK.out _ _ ?_ (fun hHeld => ?_)
  · exact blk_alloc hS0 _
  clear hK K
  try simp only [Act.put, List.setIfInBounds_toArray, List.set_cons_zero, List.set_cons_succ]
  have hS0 := hHeld
  have hX := blk_alloc hX (Obj.cells #[Value.string ⟨#[80, 65, 83, 83]⟩] 9)
  have hF := hF.alloc (Obj.cells #[Value.string ⟨#[80, 65, 83, 83]⟩] 9)
  refine wpAnyH_one (i := 5) (o := { dst := some 26, op := Go.Op.call { callee := Go.Callee.value (Go.Operand.func 10), args := #[Go.Operand.tmp 22, Go.Operand.const (Go.Value.int Go.IntKind.i64 461), Go.Operand.tmp 24, Go.Operand.tmp 25], argTypes := #[9, 3, 9, 24] }, type := 9, pos := "sign.go:70", after := #[{ on := 1, ground := Go.Ground.data }, { on := 3, ground := Go.Ground.data }, { on := 4, ground := Go.Ground.data }], guard := none }) (by kernel_rfl) rfl (by rfl) (fun K hK => ?_)
  go_simp
  refine HT.out.mono ?_
  rintro e w1 ⟨rfl, HX⟩
  refine hK.out _ _ ?_ (fun hHeld => ?_)
  · exact HX.out.blk hS0 fun e => e
  clear hK K
  try simp only [Act.put, List.setIfInBounds_toArray, List.set_cons_zero, List.set_cons_succ]
  have hS0 := hHeld
  have hX := HX.out.blk hX fun e => e
  have hF := (hF.mono (Y := fun k => k = N + 1) fun _ _ e => e).trans3 HX.out fun _ _ e => e.elim
  have q0 := blk_cell hX 0; have q1 := blk_cell hX 1; have q2 := blk_cell hX 2; have q3 := blk_cell hX 3; have q4 := blk_cell hX 4; have q5 := blk_cell hX 5; have q6 := blk_cell hX 6; have f0 := blk_free hX 0; have f1 := blk_free hX 1; have f2 := blk_free hX 2; have f3 := blk_free hX 3; have f4 := blk_free hX 4; have f5 := blk_free hX 5; have f6 := blk_free hX 6
  refine wpAnyH_two (i := 6) (j := 7) (o := { dst := some 27, op := Go.Op.buildSlice 24 1 #[(0, Go.Operand.tmp 26)], type := 24, pos := "sign.go:70", after := #[{ on := 5, ground := Go.Ground.data }, { on := 7, ground := Go.Ground.gcOnly Go.Departure.lateStores }], guard := none }) (o2 := { dst := none, op := Go.Op.store 23 (Go.Operand.tmp 6) (Go.Operand.tmp 21), type := 0, pos := "sign.go:70", after := #[{ on := 0, ground := Go.Ground.data }, { on := 5, ground := Go.Ground.chain }, { on := 0, ground := Go.Ground.phase }, { on := 1, ground := Go.Ground.textOnly Go.Departure.lateStores }, { on := 2, ground := Go.Ground.textOnly Go.Departure.lateStores }, { on := 3, ground := Go.Ground.textOnly Go.Departure.lateStores }, { on := 4, ground := Go.Ground.textOnly Go.Departure.lateStores }, { on := 5, ground := Go.Ground.textOnly Go.Departure.lateStoresUnsure }, { on := 6, ground := Go.Ground.textOnly Go.Departure.lateStores }], guard := none }) (by kernel_rfl) rfl rfl (by rfl) (by rfl) (fun K hK => ?_) (fun K hK => ?_)
  · go_simp
    refine hK.out _ _ ?_ (fun hHeld => ?_)
    · exact blk_alloc hS0 _
    clear hK K
    try simp only [Act.put, List.setIfInBounds_toArray, List.set_cons_zero, List.set_cons_succ]
    have hS0 := hHeld
    have hX := blk_alloc hX (Obj.cells #[Value.string (bs tx)] 9)
    have hF := hF.alloc (Obj.cells #[Value.string (bs tx)] 9)
    clear q0 q1 q2 q3 q4 q5 q6 f0 f1 f2 f3 f4 f5 f6
    have q0 := blk_cell hX 0; have q1 := blk_cell hX 1; have q2 := blk_cell hX 2; have q3 := blk_cell hX 3; have q4 := blk_cell hX 4; have q5 := blk_cell hX 5; have q6 := blk_cell hX 6; have f0 := blk_free hX 0; have f1 := blk_free hX 1; have f2 := blk_free hX 2; have f3 := blk_free hX 3; have f4 := blk_free hX 4; have f5 := blk_free hX 5; have f6 := blk_free hX 6
    refine wpAnyH_one (i := 7) (o := { dst := none, op := Go.Op.store 23 (Go.Operand.tmp 6) (Go.Operand.tmp 21), type := 0, pos := "sign.go:70", after := #[{ on := 0, ground := Go.Ground.data }, { on := 5, ground := Go.Ground.chain }, { on := 0, ground := Go.Ground.phase }, { on := 1, ground := Go.Ground.textOnly Go.Departure.lateStores }, { on := 2, ground := Go.Ground.textOnly Go.Departure.lateStores }, { on := 3, ground := Go.Ground.textOnly Go.Departure.lateStores }, { on := 4, ground := Go.Ground.textOnly Go.Departure.lateStores }, { on := 5, ground := Go.Ground.textOnly Go.Departure.lateStoresUnsure }, { on := 6, ground := Go.Ground.textOnly Go.Departure.lateStores }], guard := none }) (by kernel_rfl) rfl (by rfl) (fun K hK => ?_)
    go_simp
    refine hK.out _ _ ?_ (fun hHeld => ?_)
    · exact set7_oth hS0 (by omega)
    clear hK K
    try simp only [Act.put, List.setIfInBounds_toArray, List.set_cons_zero, List.set_cons_succ]
    have hS0 := hHeld
    have hX := set7 (v0 := .int .i64 k) (v1 := .bool t) (v2 := .string p) (v3 := .string n) (v4 := .string u) (v5 := .string r) (v6 := .bool false) hX
    have hF := set7_fr (v0 := .int .i64 k) (v1 := .bool t) (v2 := .string p) (v3 := .string n) (v4 := .string u) (v5 := .string r) (v6 := .bool false) hF rfl
    clear q0 q1 q2 q3 q4 q5 q6 f0 f1 f2 f3 f4 f5 f6
    have q0 := blk_cell hX 0; have q1 := blk_cell hX 1; have q2 := blk_cell hX 2; have q3 := blk_cell hX 3; have q4 := blk_cell hX 4; have q5 := blk_cell hX 5; have q6 := blk_cell hX 6; have f0 := blk_free hX 0; have f1 := blk_free hX 1; have f2 := blk_free hX 2; have f3 := blk_free hX 3; have f4 := blk_free hX 4; have f5 := blk_free hX 5; have f6 := blk_free hX 6
    refine wpAnyH_read (i := 8) (oi := { dst := some 7, op := Go.Op.assign (Go.Operand.tmp 27), type := 24, pos := "sign.go:70", after := #[{ on := 6, ground := Go.Ground.data }, { on := 7, ground := Go.Ground.chain }, { on := 0, ground := Go.Ground.phase }, { on := 1, ground := Go.Ground.phase }, { on := 2, ground := Go.Ground.phase }, { on := 3, ground := Go.Ground.phase }, { on := 4, ground := Go.Ground.phase }, { on := 5, ground := Go.Ground.phase }, { on := 6, ground := Go.Ground.phase }, { on := 7, ground := Go.Ground.phase }], guard := none }) ?_ rfl (by kernel_rfl) (by kernel_rfl) (by kernel_rfl) (fun _ _ _ h => h) (by rfl) (by exact hHeld) ?_ ?_
    rotate_left
    · (intro w0 hS0; have s0 := blk_cell hS0 0; have s1 := blk_cell hS0 1; have s2 := blk_cell hS0 2; have s3 := blk_cell hS0 3; have s4 := blk_cell hS0 4; have s5 := blk_cell hS0 5; have s6 := blk_cell hS0 6; go_simp <;> (try with_reducible rfl))
    try simp only [Act.put, List.setIfInBounds_toArray, List.set_cons_zero, List.set_cons_succ]
    refine wpAnyH_done (by kernel_rfl) ?_ _
    go_wp2_with fail
    refine bodyPost_ret (res_seven rfl rfl (Tryz.isAgg23 _) (Tryz.sizeOf23 _) hX) rfl ⟨⟨p, _, _, _, rfl, .inl ⟨rfl, rfl⟩⟩, ?_⟩
    exact H.out.1.trans (hF.below H.out.1.size fun k hk e => by have := H.out.2.2.2; omega)
  · go_simp
    refine hK.out _ _ ?_ (fun hHeld => ?_)
    · exact set7_oth hS0 (by omega)
    clear hK K
    try simp only [Act.put, List.setIfInBounds_toArray, List.set_cons_zero, List.set_cons_succ]
    have hS0 := hHeld
    have hX := set7 (v0 := .int .i64 k) (v1 := .bool t) (v2 := .string p) (v3 := .string n) (v4 := .string u) (v5 := .string r) (v6 := .bool false) hX
    have hF := set7_fr (v0 := .int .i64 k) (v1 := .bool t) (v2 := .string p) (v3 := .string n) (v4 := .string u) (v5 := .string r) (v6 := .bool false) hF rfl
    clear q0 q1 q2 q3 q4 q5 q6 f0 f1 f2 f3 f4 f5 f6
    have q0 := blk_cell hX 0; have q1 := blk_cell hX 1; have q2 := blk_cell hX 2; have q3 := blk_cell hX 3; have q4 := blk_cell hX 4; have q5 := blk_cell hX 5; have q6 := blk_cell hX 6; have f0 := blk_free hX 0; have f1 := blk_free hX 1; have f2 := blk_free hX 2; have f3 := blk_free hX 3; have f4 := blk_free hX 4; have f5 := blk_free hX 5; have f6 := blk_free hX 6
    refine wpAnyH_one (i := 6) (o := { dst := some 27, op := Go.Op.buildSlice 24 1 #[(0, Go.Operand.tmp 26)], type := 24, pos := "sign.go:70", after := #[{ on := 5, ground := Go.Ground.data }, { on := 7, ground := Go.Ground.gcOnly Go.Departure.lateStores }], guard := none }) (by kernel_rfl) rfl (by rfl) (fun K hK => ?_)
    go_simp
    refine hK.out _ _ ?_ (fun hHeld => ?_)
    · exact blk_alloc hS0 _
    clear hK K
    try simp only [Act.put, List.setIfInBounds_toArray, List.set_cons_zero, List.set_cons_succ]
    have hS0 := hHeld
    have hX := blk_alloc hX (Obj.cells #[Value.string (bs tx)] 9)
    have hF := hF.alloc (Obj.cells #[Value.string (bs tx)] 9)
    clear q0 q1 q2 q3 q4 q5 q6 f0 f1 f2 f3 f4 f5 f6
    have q0 := blk_cell hX 0; have q1 := blk_cell hX 1; have q2 := blk_cell hX 2; have q3 := blk_cell hX 3; have q4 := blk_cell hX 4; have q5 := blk_cell hX 5; have q6 := blk_cell hX 6; have f0 := blk_free hX 0; have f1 := blk_free hX 1; have f2 := blk_free hX 2; have f3 := blk_free hX 3; have f4 := blk_free hX 4; have f5 := blk_free hX 5; have f6 := blk_free hX 6
    refine wpAnyH_read (i := 8) (oi := { dst := some 7, op := Go.Op.assign (Go.Operand.tmp 27), type := 24, pos := "sign.go:70", after := #[{ on := 6, ground := Go.Ground.data }, { on := 7, ground := Go.Ground.chain }, { on := 0, ground := Go.Ground.phase }, { on := 1, ground := Go.Ground.phase }, { on := 2, ground := Go.Ground.phase }, { on := 3, ground := Go.Ground.phase }, { on := 4, ground := Go.Ground.phase }, { on := 5, ground := Go.Ground.phase }, { on := 6, ground := Go.Ground.phase }, { on := 7, ground := Go.Ground.phase }], guard := none }) ?_ rfl (by kernel_rfl) (by kernel_rfl) (by kernel_rfl) (fun _ _ _ h => h) (by rfl) (by exact hHeld) ?_ ?_
    rotate_left
    · (intro w0 hS0; have s0 := blk_cell hS0 0; have s1 := blk_cell hS0 1; have s2 := blk_cell hS0 2; have s3 := blk_cell hS0 3; have s4 := blk_cell hS0 4; have s5 := blk_cell hS0 5; have s6 := blk_cell hS0 6; go_simp <;> (try with_reducible rfl))
    try simp only [Act.put, List.setIfInBounds_toArray, List.set_cons_zero, List.set_cons_succ]
    refine wpAnyH_done (by kernel_rfl) ?_ _
    go_wp2_with fail
    refine bodyPost_ret (res_seven rfl rfl (Tryz.isAgg23 _) (Tryz.sizeOf23 _) hX) rfl ⟨⟨p, _, _, _, rfl, .inl ⟨rfl, rfl⟩⟩, ?_⟩
    exact H.out.1.trans (hF.below H.out.1.size fun k hk e => by have := H.out.2.2.2; omega)
end Go.Proofs.YtdikpbldfnkgdaaGreatDoor
end
section
/- Layer 17: Pass and User, taken. -/
namespace Go.Proofs.YtdikpbldfnkgdaaGreatDoor
set_option linter.unusedVariables false
set_option linter.unusedSimpArgs false
open Go Go.RowKit

set_option maxRecDepth 100000 in
set_option maxHeartbeats 8000000 in
theorem pass_some (server : List UInt8) (k : Int) (t : Bool) (p n u r : ByteArray) (A : Option Addr) (m c : Nat) (w : World) (hm1 : 1 ≤ m) (x : ByteArray) (hx : ∃ g o, A = some ⟨g, o, none⟩ ∧ g < w.heap.size ∧ w.cell? ⟨g, o, none⟩ = some (.string x)) :
    Calls Tryz.prog 6 #[.string (bs server), sgn k t p n u r false, .slice A m c] w (SgPass k t p n u r false w) := by
  obtain ⟨N, hN⟩ : ∃ N, w.heap.size = N := ⟨_, rfl⟩
  obtain ⟨W0, hW0⟩ : ∃ W0, ((w.alloc (.cells (sgC k t p n u r false) 23)).alloc (.cells (sgC 0 false ⟨#[]⟩ ⟨#[]⟩ ⟨#[]⟩ ⟨#[]⟩ false) 23)) = W0 := ⟨_, rfl⟩
  have b0 : RowKit.Below w.heap.size w W0 := by rw [← hW0]; exact ((Below.refl _ w).alloc (Nat.le_refl _) _).alloc (by simp) _
  have k0 : W0.heap[N]? = some (.cells (sgC k t p n u r false) 23 (0, 0)) := by rw [← hW0, ← hN]; exact blk_alloc (heap_alloc_new w _) _
  have k1 : W0.heap[N + 1]? = some (.cells (sgC 0 false ⟨#[]⟩ ⟨#[]⟩ ⟨#[]⟩ ⟨#[]⟩ false) 23 (0, 0)) := by rw [← hW0, ← hN]; exact heap_alloc2_new w _ _
  obtain ⟨g, o, rfl, hg, hxc⟩ := hx
  have HXC := Lib.hid ((b0.cell (p := ⟨g, o, none⟩) hg).trans hxc)
  have H := Lib.hid (And.intro b0 (And.intro k0 (And.intro k1 hN)))
  have HW := Lib.hid hW0
  clear b0 k0 k1 hW0 hN hxc hg
  obtain ⟨c0, c1, c2, c3, c4, c5, c6⟩ := box7_blk H.out.2.1
  have f2 := blk_free H.out.2.1 2
  have hX := H.out.2.2.1
  have q0 := blk_cell hX 0; have q1 := blk_cell hX 1; have q2 := blk_cell hX 2; have q3 := blk_cell hX 3; have q4 := blk_cell hX 4; have q5 := blk_cell hX 5; have q6 := blk_cell hX 6; have g0 := blk_free hX 0; have g1 := blk_free hX 1; have g2 := blk_free hX 2; have g3 := blk_free hX 3; have g4 := blk_free hX 4; have g5 := blk_free hX 5; have g6 := blk_free hX 6
  clear hX
  unfold sgn
  go_enter Tryz.func6, Tryz.ntmps6
  have hW0 := HW.out
  have hN := H.out.2.2.2
  unfold sgC at hW0
  have hxc := HXC.out
  have hm5 : (1 : Int) ≤ (m : Int) := by omega
  go_wp2_with fail
  have hX : (W0.setCell ⟨N, 2, none⟩ (.string x)).heap[N + 1]? = some (.cells (sgC 0 false ⟨#[]⟩ ⟨#[]⟩ ⟨#[]⟩ ⟨#[]⟩ false) 23 (0, 0)) := Fr.blk (X := fun k => k = N) (Fr.setCell (X := fun k => k = N) (Fr.refl _ W0) ⟨N, 2, none⟩ rfl _) H.out.2.2.1 (by omega)
  refine bodyPost_ret (res_seven rfl rfl (Tryz.isAgg23 _) (Tryz.sizeOf23 _) (set7 hX)) rfl ⟨⟨x, _, _, _, rfl, .inr ⟨rfl, rfl⟩⟩, ?_⟩
  have hF : Fr (fun k => k = N ∨ k = N + 1) W0 (W0.setCell ⟨N, 2, none⟩ (.string x)) := (Fr.refl _ W0).setCell ⟨N, 2, none⟩ (.inl rfl) _
  exact H.out.1.trans ((set7_fr hF (.inr rfl)).below H.out.1.size fun k hk e => by omega)
set_option maxRecDepth 100000 in
set_option maxHeartbeats 8000000 in
theorem user_some (server : List UInt8) (k : Int) (t : Bool) (p n u r : ByteArray) (A : Option Addr) (m c : Nat) (w : World) (hm1 : 4 ≤ m) (x y : ByteArray) (hx : ∃ g o, A = some ⟨g, o, none⟩ ∧ g < w.heap.size ∧ w.cell? ⟨g, o, none⟩ = some (.string x) ∧ w.cell? ⟨g, o + 3, none⟩ = some (.string y)) (hxl : x.size ≤ 1000000) (hyl : y.size ≤ 1000000) (hrw : Rowed w) (hok : dec (UserP x) = true) :
    Calls Tryz.prog 7 #[.string (bs server), sgn k t p n u r false, .slice A m c] w (SgUser k t p n u r false w) := by
  obtain ⟨N, hN⟩ : ∃ N, w.heap.size = N := ⟨_, rfl⟩
  obtain ⟨W0, hW0⟩ : ∃ W0, ((w.alloc (.cells (sgC k t p n u r false) 23)).alloc (.cells (sgC 0 false ⟨#[]⟩ ⟨#[]⟩ ⟨#[]⟩ ⟨#[]⟩ false) 23)) = W0 := ⟨_, rfl⟩
  have b0 : RowKit.Below w.heap.size w W0 := by rw [← hW0]; exact ((Below.refl _ w).alloc (Nat.le_refl _) _).alloc (by simp) _
  have k0 : W0.heap[N]? = some (.cells (sgC k t p n u r false) 23 (0, 0)) := by rw [← hW0, ← hN]; exact blk_alloc (heap_alloc_new w _) _
  have k1 : W0.heap[N + 1]? = some (.cells (sgC 0 false ⟨#[]⟩ ⟨#[]⟩ ⟨#[]⟩ ⟨#[]⟩ false) 23 (0, 0)) := by rw [← hW0, ← hN]; exact heap_alloc2_new w _ _
  obtain ⟨g, o, rfl, hg, hxc, hyc⟩ := hx
  have HU := Lib.hid (user_v x W0 hxl (rowed_sg hrw b0))
  rw [hok] at HU
  have HYC := Lib.hid ((b0.cell (p := ⟨g, o + 3, none⟩) hg).trans hyc)
  have HCL := Lib.hid (fun W => clean_v y 100 W hyl)
  have HXC := Lib.hid ((b0.cell (p := ⟨g, o, none⟩) hg).trans hxc)
  have H := Lib.hid (And.intro b0 (And.intro k0 (And.intro k1 hN)))
  have HW := Lib.hid hW0
  have hg0 := hg
  have hgN : g < N := by omega
  clear b0 k0 k1 hW0 hN hxc hyc hg hg0 hrw
  obtain ⟨c0, c1, c2, c3, c4, c5, c6⟩ := box7_blk H.out.2.1
  have f4 := blk_free H.out.2.1 4
  have f5 := blk_free H.out.2.1 5
  have hX := H.out.2.2.1
  have q0 := blk_cell hX 0; have q1 := blk_cell hX 1; have q2 := blk_cell hX 2; have q3 := blk_cell hX 3; have q4 := blk_cell hX 4; have q5 := blk_cell hX 5; have q6 := blk_cell hX 6; have g0 := blk_free hX 0; have g1 := blk_free hX 1; have g2 := blk_free hX 2; have g3 := blk_free hX 3; have g4 := blk_free hX 4; have g5 := blk_free hX 5; have g6 := blk_free hX 6
  clear hX
  unfold sgn
  go_enter Tryz.func7, Tryz.ntmps7
  have hW0 := HW.out
  have hN := H.out.2.2.2
  unfold sgC at hW0
  have hxc := HXC.out
  have hyc := HYC.out
  have hm5 : (4 : Int) ≤ (m : Int) := by omega
  go_wp2_with fail
  refine HU.out.mono ?_
  rintro e w5 ⟨rfl, rfl⟩
  go_wp2_with fail
  have hK4 : (W0.setCell ⟨N, 4, none⟩ (.string x)).heap[N]? = some (.cells (sgC k t p n x r false) 23 (0, 0)) := blk_set H.out.2.1 4 (.string x)
  have hF4 : Fr (fun k => k = N) W0 (W0.setCell ⟨N, 4, none⟩ (.string x)) := Fr.setCell (X := fun k => k = N) (Fr.refl _ W0) ⟨N, 4, none⟩ rfl _
  have hX4 := hF4.blk H.out.2.2.1 (by omega)
  obtain ⟨W1, hW1⟩ : ∃ W1, W0.setCell ⟨N, 4, none⟩ (.string x) = W1 := ⟨_, rfl⟩
  rw [hW1] at hK4 hF4 hX4 ⊢
  have HG := Lib.hid (And.intro hK4 (And.intro hF4 hX4))
  clear hW1 hK4 hF4 hX4 c0 c1 c2 c3 c4 c5 c6 q0 q1 q2 q3 q4 q5 q6 g0 g1 g2 g3 g4 g5 g6 f4 f5 hxc hyc
  refine (HCL.out W1).mono ?_
  rintro e W2 ⟨rfl, hb2⟩
  have hf2 : Fr (fun _ => False) W1 W2 := Fr.of_below hb2
  have hK := hf2.blk HG.out.1 fun e => e
  have hX := hf2.blk HG.out.2.2 fun e => e
  have HG2 := Lib.hid (And.intro hK (And.intro hX ((HG.out.2.1.mono (Y := fun k => k = N ∨ k = N + 1) fun _ _ e => .inl e).trans3 hf2 fun _ _ e => e.elim)))
  obtain ⟨z, hz⟩ : ∃ z, cleanV y 100 = z := ⟨_, rfl⟩
  rw [hz]
  clear hz hf2 hb2 hK hX
  have hK := HG2.out.1
  have hX := HG2.out.2.1
  obtain ⟨c0, c1, c2, c3, c4, c5, c6⟩ := box7_blk hK
  have f5 := blk_free hK 5
  have q0 := blk_cell hX 0; have q1 := blk_cell hX 1; have q2 := blk_cell hX 2; have q3 := blk_cell hX 3; have q4 := blk_cell hX 4; have q5 := blk_cell hX 5; have q6 := blk_cell hX 6; have g0 := blk_free hX 0; have g1 := blk_free hX 1; have g2 := blk_free hX 2; have g3 := blk_free hX 3; have g4 := blk_free hX 4; have g5 := blk_free hX 5; have g6 := blk_free hX 6
  clear hX hK
  go_wp2_with fail
  have hF : Fr (fun k => k = N ∨ k = N + 1) W0 (W2.setCell ⟨N, 5, none⟩ (.string z)) := HG2.out.2.2.setCell ⟨N, 5, none⟩ (.inl rfl) _
  have hX := Fr.blk (X := fun k => k = N) (Fr.setCell (X := fun k => k = N) (Fr.refl _ W2) ⟨N, 5, none⟩ rfl (.string z)) HG2.out.2.1 (by omega)
  refine bodyPost_ret (res_seven rfl rfl (Tryz.isAgg23 _) (Tryz.sizeOf23 _) (set7 hX)) rfl ⟨⟨x, z, _, _, _, rfl, .inr ⟨rfl, rfl⟩⟩, ?_⟩
  exact H.out.1.trans ((set7_fr hF (.inr rfl)).below H.out.1.size fun k hk e => by omega)
end Go.Proofs.YtdikpbldfnkgdaaGreatDoor
end
section
/- Layer 12: All as a function that tells, in words of what is owned; Has. -/
namespace Go.Proofs.YtdikpbldfnkgdaaGreatDoor
set_option linter.unusedVariables false
set_option linter.unusedSimpArgs false
open Go Go.RowKit Go.Shelf Go.Lib
attribute [local go_sem] Oper.semAt_some

def knownY (b : Nat) : Prop := b = 0
theorem Known.lt {W : World} (h : Known W) : 0 < W.heap.size := cell_lt h.1
theorem Known.same {W W' : World} (h : Known W) (hs : W'.heap[(0 : Nat)]? = W.heap[(0 : Nat)]?) : Known W' := by
  unfold Known
  rw [World.cell?_of_block (w := W) (w' := W') (a := ⟨_, 0, none⟩) hs, World.cell?_of_block (w := W) (w' := W') (a := ⟨_, 1, none⟩) hs, World.cell?_of_block (w := W) (w' := W') (a := ⟨_, 2, none⟩) hs, World.cell?_of_block (w := W) (w' := W') (a := ⟨_, 3, none⟩) hs, World.cell?_of_block (w := W) (w' := W') (a := ⟨_, 4, none⟩) hs, World.cell?_of_block (w := W) (w' := W') (a := ⟨_, 5, none⟩) hs]
  exact h
set_option maxRecDepth 100000 in
set_option maxHeartbeats 8000000 in
theorem all_seqF (w : World) (hK : Known w) : SeqF Tryz.prog 63 #[] encCap knownY knownC w := fun l J Jx X V hs hYl hX hJ hJx hY h0 => by
  obtain ⟨q0, q1, q2, q3, q4, q5⟩ := hK.same (hs _ rfl)
  have HY := Lib.hid hY
  have HX := Lib.hid hX
  have HJ := Lib.hid hJ
  have h00 : Hid (∃ X1, GrowX X X1 V V ∧ Fr X V V ∧ J [] X1 V) := ⟨X, GrowX.refl fun k hk => (hX k hk).1, Fr.refl _ _, h0⟩
  clear hs hY hX h0 hJ hJx hYl
  refine (callsIn_wide (n := 20)).1 ?_
  refine callsIn_of_wp Tryz.func63 rfl trivial ?_ rfl
  simp only [Tryz.ntmps63, List.size_toArray, List.length_cons, List.length_nil, Nat.reduceAdd, Nat.reduceSub, Array.replicate_succ, Array.replicate_zero, List.push_toArray, List.append_toArray, List.nil_append, List.cons_append]
  gi_wp2_with fail
  gi_loopw [5] (fun i wr => ∃ k : Nat, i = .int .i64 k ∧ k ≤ 3 ∧ Hid (∃ X1, GrowX X X1 V wr ∧ Fr X V wr ∧ J (knownC.take k) X1 wr)) (fun i _ => 3 - (RowKit.intOf i).toNat)
  case atStart => exact ⟨0, rfl, by omega, h00⟩
  case round =>
    obtain ⟨k, rfl, hk, HJ2⟩ := hrel
    obtain ⟨X1, hg1, hf1, hj1⟩ := HJ2.out
    clear q0 q1 q2 q3 q4 q5 h00
    have hc0 := cap_at0; have hc1 := cap_at1; have hc2 := cap_at2
    have key : ∀ (e : CapE) (q : Nat), q < 3 → knownC.take q ++ e :: knownC.drop (q + 1) = knownC → k = q → ∃ wa, wr.alloc (Obj.cells #[.string e.1, .int .i64 e.2] 93) = wa ∧ Hid (knownC.take (q + 1) = knownC.take q ++ [e] ∧ GrowX X X1 V wa ∧ Fr X V wa) ∧ wa.heap[wr.heap.size]? = some (.cells #[.string e.1, .int .i64 e.2] 93 (0, 0)) ∧ YieldAt Fence.wide 0 Tryz.prog l (encCap e) wa fun e' V' => ∃ X2, GrowX X1 X2 wa V' ∧ Fr X1 wa V' ∧ ((e' = .returned (.bool true) ∧ J (knownC.take q ++ [e]) X2 V') ∨ (e' = .returned (.bool false) ∧ Jx (knownC.take q ++ [e]) X2 V')) := fun e q hq hsp hkq => by
      subst hkq
      obtain ⟨wa, hwa⟩ : ∃ wa, wr.alloc (Obj.cells #[.string e.1, .int .i64 e.2] 93) = wa := ⟨_, rfl⟩
      have fa : Fr (fun _ => False) wr wa := by rw [← hwa]; exact (Fr.refl _ wr).alloc _
      have hg2 : GrowX X X1 V wa := fun j hj => ⟨Nat.lt_of_lt_of_le (hg1 j hj).1 fa.size, (hg1 j hj).2⟩
      have hf2 : Fr X V wa := hf1.trans3 fa fun _ _ e => e.elim
      refine ⟨wa, hwa, ⟨?_, hg2, hf2⟩, by rw [← hwa]; exact heap_alloc_new _ _, HY.out (knownC.take k) e (knownC.drop (k + 1)) X1 wa hsp hg2 (HJ.out.fr hj1 (fun j hj => (hg1 j hj).1) fa fun _ e => e.elim) hf2⟩
      have h1 : (knownC.take k ++ e :: knownC.drop (k + 1)).take (k + 1) = knownC.take k ++ [e] := by
        have hl : (knownC.take k).length = k := by rw [List.length_take]; have : knownC.length = 3 := rfl; omega
        rw [List.take_append, hl, Nat.add_sub_cancel_left]
        rw [List.take_of_length_le (by omega)]
        rfl
      rw [hsp] at h1
      exact h1
    have HQ := Lib.hid (And.intro hg1 (And.intro hf1 hj1))
    clear hg1 hf1 hj1 HJ2
    rcases k with _ | _ | _ | _ | k
    · obtain ⟨wa, hwa, HT, ka, fn, tmps, assign, body, hy, hR⟩ := key (awayB, 1) 0 (by omega) rfl rfl
      dsimp only [encCap] at hy
      have c5 := blk_cell ka 0
      have c6 := blk_cell ka 1
      have HW := Lib.hid hwa
      clear key ka hwa
      gi_wp2_with (rw [HW.out])
      refine (round_wide (.inl rfl) hR).mono ?_
      rintro e W3 ⟨X2, g2, f2, (⟨rfl, hJ3⟩ | ⟨rfl, hJx3⟩)⟩
      · obtain ⟨htk, hg1, hf1⟩ := HT.out
        have hN : Hid (∃ X1, GrowX X X1 V W3 ∧ Fr X V W3 ∧ J (knownC.take 1) X1 W3) := ⟨X2, hg1.trans g2 hf1.size, hf1.trans3 f2 fun k hk e => (hg1 k e).2 hk, by rw [htk]; exact hJ3⟩
        clear htk hg1 hf1 g2 f2 hJ3 hR hy
        gi_wp2_with fail
        go_roundw
        case rel => exact ⟨1, by go_num, by omega, hN⟩
        case measure => simp [RowKit.intOf]
      · clear hR hy
        gi_wp2_with fail
        refine bodyPost_ret (results_none rfl _ _ _) rfl ?_
        obtain ⟨htk, hg1, hf1⟩ := HT.out
        exact ⟨⟨_, rfl⟩, X2, hg1.trans g2 hf1.size, hf1.trans3 f2 fun k hk e => (hg1 k e).2 hk, .inr ⟨_, knownC.drop 1, rfl, hJx3⟩⟩
    · obtain ⟨wa, hwa, HT, ka, fn, tmps, assign, body, hy, hR⟩ := key (echoB, 2) 1 (by omega) rfl rfl
      dsimp only [encCap] at hy
      have c5 := blk_cell ka 0
      have c6 := blk_cell ka 1
      have HW := Lib.hid hwa
      clear key ka hwa
      gi_wp2_with (rw [HW.out])
      refine (round_wide (.inl rfl) hR).mono ?_
      rintro e W3 ⟨X2, g2, f2, (⟨rfl, hJ3⟩ | ⟨rfl, hJx3⟩)⟩
      · obtain ⟨htk, hg1, hf1⟩ := HT.out
        have hN : Hid (∃ X1, GrowX X X1 V W3 ∧ Fr X V W3 ∧ J (knownC.take 2) X1 W3) := ⟨X2, hg1.trans g2 hf1.size, hf1.trans3 f2 fun k hk e => (hg1 k e).2 hk, by rw [htk]; exact hJ3⟩
        clear htk hg1 hf1 g2 f2 hJ3 hR hy
        gi_wp2_with fail
        go_roundw
        case rel => exact ⟨2, by go_num, by omega, hN⟩
        case measure => simp [RowKit.intOf]
      · clear hR hy
        gi_wp2_with fail
        refine bodyPost_ret (results_none rfl _ _ _) rfl ?_
        obtain ⟨htk, hg1, hf1⟩ := HT.out
        exact ⟨⟨_, rfl⟩, X2, hg1.trans g2 hf1.size, hf1.trans3 f2 fun k hk e => (hg1 k e).2 hk, .inr ⟨_, knownC.drop 2, rfl, hJx3⟩⟩
    · obtain ⟨wa, hwa, HT, ka, fn, tmps, assign, body, hy, hR⟩ := key (multiB, 4) 2 (by omega) rfl rfl
      dsimp only [encCap] at hy
      have c5 := blk_cell ka 0
      have c6 := blk_cell ka 1
      have HW := Lib.hid hwa
      clear key ka hwa
      gi_wp2_with (rw [HW.out])
      refine (round_wide (.inl rfl) hR).mono ?_
      rintro e W3 ⟨X2, g2, f2, (⟨rfl, hJ3⟩ | ⟨rfl, hJx3⟩)⟩
      · obtain ⟨htk, hg1, hf1⟩ := HT.out
        have hN : Hid (∃ X1, GrowX X X1 V W3 ∧ Fr X V W3 ∧ J (knownC.take 3) X1 W3) := ⟨X2, hg1.trans g2 hf1.size, hf1.trans3 f2 fun k hk e => (hg1 k e).2 hk, by rw [htk]; exact hJ3⟩
        clear htk hg1 hf1 g2 f2 hJ3 hR hy
        gi_wp2_with fail
        go_roundw
        case rel => exact ⟨3, by go_num, by omega, hN⟩
        case measure => simp [RowKit.intOf]
      · clear hR hy
        gi_wp2_with fail
        refine bodyPost_ret (results_none rfl _ _ _) rfl ?_
        obtain ⟨htk, hg1, hf1⟩ := HT.out
        exact ⟨⟨_, rfl⟩, X2, hg1.trans g2 hf1.size, hf1.trans3 f2 fun k hk e => (hg1 k e).2 hk, .inr ⟨_, knownC.drop 3, rfl, hJx3⟩⟩
    · clear key
      gi_wp2_with fail
      go_end0
      obtain ⟨hg1, hf1, hj1⟩ := HQ.out
      exact ⟨⟨_, rfl⟩, X1, hg1, hf1, .inl hj1⟩
    · omega

/-- is one of these asked for, and among those? -/
def hasV (h o : BitVec 64) : Bool := (knownC.any fun x => x.2 == IV o) && (h &&& o) != 0#64
theorem iv_zero (v : BitVec 64) : (IV v == 0) = (v == 0#64) := by
  have := IV_beq v 0#64
  rwa [show IV 0#64 = 0 by decide +kernel] at this
/-- the box of the answer -/
def HasI (S : Nat) (o : BitVec 64) (pre : List CapE) (X : Nat → Prop) (W : World) : Prop := (∀ y ∈ pre, y.2 ≠ IV o) ∧ W.heap[S]? = some (.cells #[.bool false] 4 (0, 0)) ∧ X S
theorem hasI_stays (S : Nat) (o : BitVec 64) : Stays (HasI S o) := fun pre X V V' ⟨h1, h2, h3⟩ hl hf => ⟨h1, hf.blk h2 fun e => e h3, h3⟩
def HasX (S : Nat) (b : Bool) (X : Nat → Prop) (W : World) : Prop := W.heap[S]? = some (.cells #[.bool b] 4 (0, 0)) ∧ X S
set_option maxRecDepth 100000 in
set_option maxHeartbeats 8000000 in
theorem has_any (h o : BitVec 64) (w : World) (hK : Known w) :
    Calls Tryz.prog 45 #[.int .i64 (IV h), .int .i64 (IV o)] w fun e w' => e = .returned (.bool (hasV h o)) ∧ Below w.heap.size w w' := by
  have hb := bits_and_v h o
  obtain ⟨b, hbb⟩ : ∃ b, ((h &&& o) != 0#64) = b := ⟨_, rfl⟩
  have he1 : (IV (h &&& o) == 0) = !b := by rw [iv_zero, ← hbb, bne, Bool.not_not]
  have he2 : (IV (h &&& o) != 0) = b := by rw [bne, he1, Bool.not_not]
  have HB := Lib.hid hbb
  clear hbb
  refine (callsIn_wide (n := 20)).1 ?_
  refine callsIn_of_wp_marks Tryz.func45 rfl trivial ?_ rfl
  simp only [Tryz.ntmps45, List.size_toArray, List.length_cons, List.length_nil, Nat.reduceAdd, Nat.reduceSub, Array.replicate_succ, Array.replicate_zero, List.push_toArray, List.append_toArray, List.nil_append, List.cons_append]
  gi_wp2_with fail
  refine ⟨trivial, (calls_wide (.inl rfl) (all_any _)).mono ?_⟩
  rintro e w2 ⟨rfl, hw2⟩
  have hb0 : w2.heap[w.heap.size]? = some (.cells #[.int .i64 (IV h)] 3 (0, 0)) := by rw [hw2]; exact blk_alloc (blk_alloc (heap_alloc_new w _) _) _
  have hb1 : w2.heap[w.heap.size + 1]? = some (.cells #[.int .i64 (IV o)] 3 (0, 0)) := by rw [hw2]; exact blk_alloc (heap_alloc2_new w _ _) _
  have hb2 : w2.heap[w.heap.size + 2]? = some (.cells #[.bool false] 4 (0, 0)) := by
    rw [hw2]
    have := heap_alloc2_new (w.alloc (.cells #[.int .i64 (IV h)] 3)) (.cells #[.int .i64 (IV o)] 3) (.cells #[.bool false] 4)
    rwa [World.size_alloc] at this
  have f2 : Fr (fun _ => False) w w2 := by rw [hw2]; exact (((Fr.refl _ w).alloc _).alloc _).alloc _
  have hz : w2.heap.size = w.heap.size + 3 := by rw [hw2]; simp
  have hK2 := hK.kept (f2.below (Nat.le_refl _) fun _ _ e => e.elim)
  have hKl := hK.lt
  clear hw2
  have H := Lib.hid (And.intro hb0 (And.intro hb1 (And.intro hb2 (And.intro f2 (And.intro hz (And.intro hK2 hKl))))))
  clear hb0 hb1 hb2 f2 hz hK2 hKl hK
  gi_wp2_with fail
  obtain ⟨hb0, hb1, hb2, f2, hz, hK2, hKl⟩ := H.out
  refine wpIn_rangeF (X := fun k => k = w.heap.size + 2) (Y := knownY) (xs := knownC) (encs := encCap) (gf := 63) (lb := #[]) (HasI (w.heap.size + 2) o) (fun c pre X1 W => (c = .ret ∧ ∃ y ∈ pre, y.2 = IV o) ∧ HasX (w.heap.size + 2) b X1 W)
    rfl (all_seqF w2 hK2) (fun k hk => ⟨by omega, fun e => by unfold knownY at e; omega⟩) (fun k hk => by unfold knownY at hk; omega) (by omega) (enters_of Tryz.func63 (by kernel_rfl) rfl) (fun _ => rfl)
    (hasI_stays _ _) (fun c s X1 V1 V2 hh h1 h2 => ⟨hh.1, h2.blk hh.2.1 fun e => e hh.2.2, hh.2.2⟩) ⟨fun y hy => (by cases hy), hb2, rfl⟩ ?round ?done ?stop
  case round =>
    rintro l pre ⟨nm, v⟩ r X1 V K rb hl2 hpx ⟨hI1, hI2, hI3⟩ hG hxl hF hlV hK
    dsimp only [encCap]
    have HK := Lib.hid hK
    have HV := Lib.hid (And.intro hpx (And.intro hI1 (And.intro hI2 (And.intro hI3 (And.intro hG (And.intro hxl (And.intro hF (And.intro hlV hl2))))))))
    clear hK hpx hI1 hI2 hI3 hG hxl hF hlV hl2 hb0 hb1 hb2 f2 hz hK2 hKl
    gi_wp2_with fail
    refine HK.out _ _ (Fr.refl _ _) fun Vb hfb hzb hsb hrb => ?_
    clear HK K
    obtain ⟨hpx, hI1, hI2, hI3, hG, hxl, hF, hlV, hl2⟩ := HV.out
    obtain ⟨hb0, hb1, hb2, f2, hz, hK2, hKl⟩ := H.out
    have k0 := hfb.blk (hF.blk hb0 (by omega)) (by omega)
    have k1 := hfb.blk (hF.blk hb1 (by omega)) (by omega)
    have k2 := hfb.blk hI2 (fun e => hxl (e ▸ hI3))
    have c0 := blk_cell k0 0
    have c1 := blk_cell k1 0
    have g2 := blk_free k2 0
    have d2 := blk_cell k2 0
    have hzs : Vb.heap.size = V.heap.size := hzb
    by_cases hv : v = IV o
    · have q1 : (v == IV o) = true := by simpa using hv
      have HE := Lib.hid (And.intro hv (And.intro hfb (And.intro hrb (And.intro hzs (And.intro k2 q1)))))
      clear hpx hI1 hI2 hG hF hb0 hb1 hb2 f2 hz hK2 hKl hfb hzb hsb hrb hzs k0 k1 k2 hv q1
      have q1 := HE.out.2.2.2.2.2
      gi_wp2_with fail
      obtain ⟨hv, hfb, hrb, hzs, k2, _⟩ := HE.out
      obtain ⟨_, _, _, _, hG, _, _, hlV, _⟩ := HV.out
      have hne : l ≠ w.heap.size + 2 := fun e => hxl (e ▸ hI3)
      refine ⟨X1, fun k hk => ⟨by simp; rw [hzs]; exact (hG k hk).1, fun _ => hk⟩, (hfb.mono (Y := fun k => k = l ∨ X1 k) fun k _ e => .inl e).setCell _ (.inr hI3) _, blk_other hrb _ (by simpa using hne) _, ⟨rfl, _, List.mem_append_right _ List.mem_cons_self, hv⟩, blk_set k2 0 _, hI3⟩
    · have q1 : (v == IV o) = false := by simpa using hv
      have HE := Lib.hid (And.intro hv (And.intro hfb (And.intro hrb (And.intro hzs (And.intro k2 q1)))))
      clear hpx hI1 hI2 hG hF hb0 hb1 hb2 f2 hz hK2 hKl hfb hzb hsb hrb hzs k0 k1 k2 hv q1
      have q1 := HE.out.2.2.2.2.2
      gi_wp2_with fail
      obtain ⟨hv, hfb, hrb, hzs, k2, _⟩ := HE.out
      obtain ⟨_, hI1, _, _, hG, _, _, hlV, _⟩ := HV.out
      refine ⟨X1, fun k hk => ⟨by rw [hzs]; exact (hG k hk).1, fun _ => hk⟩, hfb.mono (Y := fun k => k = l ∨ X1 k) fun k _ e => .inl e, hrb, fun y hy => ?_, k2, hI3⟩
      rw [List.mem_append, List.mem_singleton] at hy
      rcases hy with hy | rfl
      · exact hI1 y hy
      · exact hv
  case done =>
    rintro D X2 V hD hxD hG hF ⟨hI1, hI2, hI3⟩ hdef
    have g2 := blk_free hI2 0
    have d2 := blk_cell hI2 0
    have HE := Lib.hid (And.intro hI1 (And.intro hI2 (And.intro hF hdef)))
    clear hI1 hI2 hF hdef hG hb0 hb1 hb2 f2 hK2 hKl
    gi_wp2_with fail
    obtain ⟨hI1, hI2, hF, hdef⟩ := HE.out
    obtain ⟨hb0, hb1, hb2, f2, hz, hK2, hKl⟩ := H.out
    have hno : hasV h o = false := by
      unfold hasV
      rw [Bool.and_eq_false_iff]
      refine .inl (List.any_eq_false.2 fun y hy => ?_)
      simpa using hI1 y hy
    have hne : D ≠ w.heap.size + 2 := by omega
    refine leaves_one D _ (blk_other hdef _ (by simpa using hne) _) fun w' hf => ⟨_, res_in rfl _ _ (w.heap.size + 2) (.bool false) _ rfl ((blk_cell (hf.blk (blk_set hI2 0 _) fun e => hne e.symm) 0).trans rfl) rfl rfl, by rw [hno], ?_⟩
    refine Fr.below (X := fun k => w.heap.size ≤ k) ?_ (Nat.le_refl _) fun k hk e => by omega
    exact (((f2.mono (Y := fun k => w.heap.size ≤ k) fun _ _ e => e.elim).trans3 hF fun k _ e => by omega).setCell _ (by show w.heap.size ≤ w.heap.size + 2; omega) _).trans3 hf fun k _ e => by omega
  case stop =>
    rintro D c pre r X2 V hD hpr hxD hG hF ⟨⟨rfl, y, hy, hyo⟩, hI2, hI3⟩ hdef
    have hne : D ≠ w.heap.size + 2 := by omega
    have hyes : hasV h o = b := by
      unfold hasV
      rw [HB.out, List.any_eq_true.2 ⟨y, by rw [← hpr]; exact List.mem_append_left _ hy, by simpa using hyo⟩, Bool.true_and]
    refine wpIn_ret ?_
    refine leaves_one D _ hdef fun w' hf => ⟨_, res_in rfl _ _ (w.heap.size + 2) (.bool b) _ rfl ((blk_cell (hf.blk hI2 fun e => hne e.symm) 0).trans rfl) rfl rfl, by rw [hyes], ?_⟩
    refine Fr.below (X := fun k => w.heap.size ≤ k) ?_ (Nat.le_refl _) fun k hk e => by omega
    exact ((f2.mono (Y := fun k => w.heap.size ≤ k) fun _ _ e => e.elim).trans3 hF fun k _ e => by omega).trans3 hf fun k _ e => by omega
end Go.Proofs.YtdikpbldfnkgdaaGreatDoor
end
