/- Texts of this proof, one behind the other. -/
import Derived.Test.YtlkeomcillencaaGreatRoomsPlayG17
set_option linter.unusedVariables false
set_option linter.unusedSimpArgs false
section
/- Layer 20: the document's Join. -/
namespace Go.Proofs.YtlkeomcillencaaGreat
open Go Go.RowKit Go.Maps Go.Sort Go.Shelf Go.Lib

/-- what Join does -/
def JoinD (base R : Nat) (C : Nat → Tag) (mr mj mb : Int) (E : List RdE) (id : Int) (nm : List UInt8) (w : World) (e : Ending) (w' : World) : Prop :=
  (∃ f, getD E (foldL nm) = some f ∧ onD id f = true ∧ e = .returned (.tuple #[.pointer (some ⟨f.B, 0, none⟩), .int .i64 0]) ∧ RdTo base R C mr mj mb E w w') ∨
  ((∀ f, getD E (foldL nm) = some f → onD id f = false) ∧ (mj ≤ (E.filter (onD id)).length ∨ getD E (foldL nm) = none ∧ mr ≤ E.length) ∧ e = .returned (.tuple #[.pointer none, .int .i64 405]) ∧ RdTo base R C mr mj mb E w w') ∨
  (∃ E1 f E2 q', E = E1 ++ f :: E2 ∧ keyD f = foldL nm ∧ onD id f = false ∧ ((E.filter (onD id)).length : Int) < mj ∧ e = .returned (.tuple #[.pointer (some ⟨f.B, 0, none⟩), .int .i64 0]) ∧ RdTo base R C mr mj mb (E1 ++ ⟨f.B, q', addX f.x id false⟩ :: E2) w w') ∨
  (getD E (foldL nm) = none ∧ ((E.filter (onD id)).length : Int) < mj ∧ (E.length : Int) < mr ∧ ∃ B q, e = .returned (.tuple #[.pointer (some ⟨B, 0, none⟩), .int .i64 0]) ∧ RdTo base R C mr mj mb (E ++ [(⟨B, q, addX (rx0 nm mb) id true⟩ : RdE)]) w w')
theorem addX_nm (x : Rx) (id : Int) (op : Bool) : (addX x id op).nm = x.nm := by unfold addX; split <;> rfl
set_option maxRecDepth 100000 in
set_option maxHeartbeats 16000000 in
theorem refJoin_any {base : Nat} {w : World} {R : Nat} {v : Value} {C : Nat → Tag} {mr mj mb : Int} {E : List RdE} (h : RdPh base w R v C mr mj mb E) {n : Nat} (hl : RdLg n E) (hn : n ≤ 1000) (id : Int) (nm : List UInt8) (hnm : nm.length ≤ 1000) :
    Calls Tryz.prog 15 #[.pointer (some ⟨R, 0, none⟩), .int .i64 id, .string (bs nm)] w (JoinD base R C mr mj mb E id nm w) := by
  obtain ⟨i0, hi0, hz0, hz1, hz2⟩ := info_parts Tryz.infoPd
  obtain ⟨P, hP⟩ : ∃ P, JoinD base R C mr mj mb E id nm w = P := ⟨_, rfl⟩
  rw [hP]
  have HR := Lib.hid hP
  have HG := Lib.hid (refGet_any h hl hn nm hnm)
  have H := Lib.hid (And.intro h (And.intro hl (And.intro hn hnm)))
  obtain ⟨cnt, hcnt⟩ : ∃ cnt, (E.filter (onD id)).length = cnt := ⟨_, rfl⟩
  have HCn := Lib.hid hcnt
  obtain ⟨A, c, hv⟩ : ∃ A c, v = .slice A E.length c := by
    obtain ⟨A, c, hv⟩ := row_slice h.row
    rw [List.length_map] at hv
    exact ⟨A, c, hv⟩
  have HV := Lib.hid hv
  have hE1000 : E.length ≤ 1000 := Nat.le_trans hl.elen hn
  cases hg : getD E (foldL nm) with
  | some f =>
    rw [hg] at HG
    dsimp only [ptD, Option.map_some, Option.map_none] at HG
    obtain ⟨hfE, hfk⟩ := getD_mem hg
    obtain ⟨E1, E2, hE⟩ := List.append_of_mem hfE
    obtain ⟨fB, hfB⟩ : ∃ fB, f.B = fB := ⟨_, rfl⟩
    rw [hfB] at HG
    have HX := Lib.hid (And.intro hg (And.intro hfE (And.intro hfk (And.intro hE hfB))))
    clear h hl hn hnm hP hg hfE hfk hE hfB hcnt hv
    go_enter Tryz.func15, Tryz.ntmps15
    go_wp2_with fail
    refine HG.out.mono ?_
    rintro e w1 ⟨rfl, b1⟩
    obtain ⟨h, hl, hn, hnm⟩ := H.out
    obtain ⟨hg, hfE, hfk, hE, hfB⟩ := HX.out
    have h1 := h.below b1
    have HAt := Lib.hid (refAt_any (h1.each f hfE) id (by have := hl.llen f hfE; omega))
    obtain ⟨am, ham⟩ : ∃ am, atM f.x.L id = am := ⟨_, rfl⟩
    rw [hfB, ham] at HAt
    have HAm := Lib.hid ham
    have H1 := Lib.hid (And.intro h1 b1)
    have HOf := Lib.hid (fun W (hW : Fr (fun _ => False) w1 W) => refOf_id (h1.fr hW fun _ _ e => e) hl hn id)
    have HX4 := Lib.hid (fun W (hW : Fr (fun _ => False) w1 W) => (And.intro (blk_cell (hW.blk h1.self fun e => e) 1) (And.intro (blk_cell (hW.blk h1.self fun e => e) 0) trivial)))
    clear h1 b1 HG h hl hn hnm hg hfE hfk hE hfB ham
    by_cases ha : (0 : Int) ≤ am
    · have ha2 : decide ((0 : Int) ≤ am) = true := by simp; omega
      go_wp2_with fail
      refine HAt.out.mono ?_
      rintro e9 V9 ⟨rfl, rfl⟩
      go_wp2_with fail
      (try go_ret2)
      rw [← HR.out]
      obtain ⟨hg, hfE, hfk, hE, hfB⟩ := HX.out
      obtain ⟨h1, b1⟩ := H1.out
      exact .inl ⟨f, hg, by unfold onD; rw [HAm.out]; exact ha2, by rw [hfB]; rfl, H.out.1.to b1⟩
    · have ha2 : decide ((0 : Int) ≤ am) = false := by simp; omega
      have ha3 : am < 0 := by omega
      go_wp2_with fail
      refine HAt.out.mono ?_
      rintro e9 V9 ⟨rfl, rfl⟩
      rename World => w1
      by_cases hf : mj ≤ (cnt : Int)
      · have hf2 : decide (mj ≤ (cnt : Int)) = true := by simp; omega
        go_wp2_with fail
        refine wp_region_held_drew (S := fun W => Fr (fun _ => False) w1 W) (by kernel_rfl) (by exact (Fr.refl _ w1).drew) (fun hHeld => ?_)
        refine wpAnyH_read (i := 0) (oi := { dst := some 21, op := Go.Op.move (Go.Operand.tmp 0), type := 29, pos := "ref.go:52", after := #[], guard := none }) ?_ rfl (by kernel_rfl) (by kernel_rfl) (by kernel_rfl) (fun _ _ _ h => h) (by rfl) (by assumption) ?_ ?_
        rotate_left
        · (intro w0 hS0; go_simp <;> (try with_reducible rfl))
        try simp only [Act.put, List.setIfInBounds_toArray, List.set_cons_zero, List.set_cons_succ]
        refine wpAnyH_read (i := 1) (oi := { dst := some 22, op := Go.Op.move (Go.Operand.tmp 1), type := 3, pos := "ref.go:52", after := #[], guard := none }) ?_ rfl (by kernel_rfl) (by kernel_rfl) (by kernel_rfl) (fun _ _ _ h => h) (by rfl) (by assumption) ?_ ?_
        rotate_left
        · (intro w0 hS0; go_simp <;> (try with_reducible rfl))
        try simp only [Act.put, List.setIfInBounds_toArray, List.set_cons_zero, List.set_cons_succ]
        refine wpAnyH_read (i := 4) (oi := { dst := some 25, op := Go.Op.move (Go.Operand.tmp 0), type := 29, pos := "ref.go:52", after := #[], guard := none }) ?_ rfl (by kernel_rfl) (by kernel_rfl) (by kernel_rfl) (fun _ _ _ h => h) (by rfl) (by assumption) ?_ ?_
        rotate_left
        · (intro w0 hS0; go_simp <;> (try with_reducible rfl))
        try simp only [Act.put, List.setIfInBounds_toArray, List.set_cons_zero, List.set_cons_succ]
        refine wpAnyH_read (i := 5) (oi := { dst := some 26, op := Go.Op.nilCheck (Go.Operand.tmp 25), type := 0, pos := "ref.go:52", after := #[{ on := 4, ground := Go.Ground.data }], guard := none }) ?_ rfl (by kernel_rfl) (by kernel_rfl) (by kernel_rfl) (fun _ _ _ h => h) (by rfl) (by assumption) ?_ ?_
        rotate_left
        · (intro w0 hS0; go_simp <;> (try with_reducible rfl))
        try simp only [Act.put, List.setIfInBounds_toArray, List.set_cons_zero, List.set_cons_succ]
        refine wpAnyH_read (i := 6) (oi := { dst := some 27, op := Go.Op.fieldAddr 32 (Go.Operand.tmp 26) 1, type := 0, pos := "ref.go:52", after := #[{ on := 5, ground := Go.Ground.data }], guard := none }) ?_ rfl (by kernel_rfl) (by kernel_rfl) (by kernel_rfl) (fun _ _ _ h => h) (by rfl) (by assumption) ?_ ?_
        rotate_left
        · (intro w0 hS0; go_simp <;> (try with_reducible rfl))
        try simp only [Act.put, List.setIfInBounds_toArray, List.set_cons_zero, List.set_cons_succ]
        refine wpAnyH_read (i := 7) (oi := { dst := some 28, op := Go.Op.load 3 (Go.Operand.tmp 27), type := 3, pos := "ref.go:52", after := #[{ on := 6, ground := Go.Ground.data }], guard := none }) ?_ rfl (by kernel_rfl) (by kernel_rfl) (by kernel_rfl) (fun _ _ _ h => h) (by rfl) (by assumption) ?_ ?_
        rotate_left
        · (intro w0 hS0; obtain ⟨s0, s1, s2⟩ := HX4.out w0 hS0; go_simp <;> (try with_reducible rfl))
        try simp only [Act.put, List.setIfInBounds_toArray, List.set_cons_zero, List.set_cons_succ]
        refine wpAnyH_one (i := 2) (o := { dst := some 23, op := Go.Op.call { callee := Go.Callee.value (Go.Operand.func 22), args := #[Go.Operand.tmp 21, Go.Operand.tmp 22, Go.Operand.const (Go.Value.bool false)], argTypes := #[29, 3, 4] }, type := 30, pos := "ref.go:52", after := #[{ on := 0, ground := Go.Ground.data }, { on := 1, ground := Go.Ground.data }], guard := none }) (by kernel_rfl) rfl (by rfl) (fun K hK => ?_)
        go_simp
        refine (HOf.out _ (Fr.refl _ w1).drew).mono ?_
        rintro e9 V1 ⟨⟨vS, S, rfl, ho, hp, _⟩, b1⟩
        obtain ⟨A9, c9, rfl⟩ := row_slice ho
        have hSl : (S.map (·.B)).length = cnt := by rw [List.length_map, hp.length_eq]; exact HCn.out
        rw [hSl]
        have F2 : Hid (Fr (fun _ => False) w1 V1) := Lib.hid (((Fr.refl _ w1).drew).trans (Fr.of_below b1))
        clear b1 ho hp hSl
        refine hK.out _ _ ?_ (fun hHeld => ?_)
        · exact F2.out
        clear hK K
        try simp only [Act.put, List.setIfInBounds_toArray, List.set_cons_zero, List.set_cons_succ]
        refine wpAnyH_read (i := 3) (oi := { dst := some 24, op := Go.Op.call { callee := Go.Callee.builtin Go.Builtin.len, args := #[Go.Operand.tmp 23], argTypes := #[30] }, type := 3, pos := "ref.go:52", after := #[{ on := 2, ground := Go.Ground.data }], guard := none }) ?_ rfl (by kernel_rfl) (by kernel_rfl) (by kernel_rfl) (fun _ _ _ h => h) (by rfl) (by assumption) ?_ ?_
        rotate_left
        · (intro w0 hS0; go_simp <;> (try with_reducible rfl))
        try simp only [Act.put, List.setIfInBounds_toArray, List.set_cons_zero, List.set_cons_succ]
        refine wpAnyH_read (i := 8) (oi := { dst := some 29, op := Go.Op.binOp Go.BinOp.geq 3 (Go.Operand.tmp 24) (Go.Operand.tmp 28) 3, type := 4, pos := "ref.go:52", after := #[{ on := 3, ground := Go.Ground.data }, { on := 7, ground := Go.Ground.data }], guard := none }) ?_ rfl (by kernel_rfl) (by kernel_rfl) (by kernel_rfl) (fun _ _ _ h => h) (by rfl) (by assumption) ?_ ?_
        rotate_left
        · (intro w0 hS0; go_simp <;> (try with_reducible rfl))
        try simp only [Act.put, List.setIfInBounds_toArray, List.set_cons_zero, List.set_cons_succ]
        refine wpAnyH_read (i := 9) (oi := { dst := some 30, op := Go.Op.move (Go.Operand.tmp 29), type := 4, pos := "ref.go:52", after := #[{ on := 8, ground := Go.Ground.data }, { on := 2, ground := Go.Ground.chain }], guard := none }) ?_ rfl (by kernel_rfl) (by kernel_rfl) (by kernel_rfl) (fun _ _ _ h => h) (by rfl) (by assumption) ?_ ?_
        rotate_left
        · (intro w0 hS0; go_simp <;> (try with_reducible rfl))
        try simp only [Act.put, List.setIfInBounds_toArray, List.set_cons_zero, List.set_cons_succ]
        refine wpAnyH_pass (i := 10) (oi := { dst := some 31, op := Go.Op.move (Go.Operand.tmp 8), type := 40, pos := "ref.go:52", after := #[{ on := 9, ground := Go.Ground.guard }], guard := some (9, false) }) rfl (by kernel_rfl) (by kernel_rfl) (by kernel_rfl) (fun _ _ _ h => h) (by rfl) (by assumption) ?_
        try simp only [Act.put, List.setIfInBounds_toArray, List.set_cons_zero, List.set_cons_succ]
        refine wpAnyH_pass (i := 11) (oi := { dst := some 32, op := Go.Op.binOp Go.BinOp.eql 40 (Go.Operand.tmp 31) (Go.Operand.const (Go.Value.pointer none)) 40, type := 4, pos := "ref.go:52", after := #[{ on := 10, ground := Go.Ground.data }, { on := 9, ground := Go.Ground.guard }], guard := some (9, false) }) rfl (by kernel_rfl) (by kernel_rfl) (by kernel_rfl) (fun _ _ _ h => h) (by rfl) (by assumption) ?_
        try simp only [Act.put, List.setIfInBounds_toArray, List.set_cons_zero, List.set_cons_succ]
        refine wpAnyH_pass (i := 12) (oi := { dst := some 33, op := Go.Op.move (Go.Operand.tmp 32), type := 4, pos := "ref.go:52", after := #[{ on := 11, ground := Go.Ground.data }, { on := 9, ground := Go.Ground.chain }, { on := 9, ground := Go.Ground.guard }], guard := some (9, false) }) rfl (by kernel_rfl) (by kernel_rfl) (by kernel_rfl) (fun _ _ _ h => h) (by rfl) (by assumption) ?_
        try simp only [Act.put, List.setIfInBounds_toArray, List.set_cons_zero, List.set_cons_succ]
        refine wpAnyH_pass (i := 13) (oi := { dst := some 34, op := Go.Op.move (Go.Operand.tmp 0), type := 29, pos := "ref.go:52", after := #[{ on := 12, ground := Go.Ground.guard }], guard := some (12, true) }) rfl (by kernel_rfl) (by kernel_rfl) (by kernel_rfl) (fun _ _ _ h => h) (by rfl) (by assumption) ?_
        try simp only [Act.put, List.setIfInBounds_toArray, List.set_cons_zero, List.set_cons_succ]
        refine wpAnyH_pass (i := 14) (oi := { dst := some 35, op := Go.Op.nilCheck (Go.Operand.tmp 34), type := 0, pos := "ref.go:52", after := #[{ on := 13, ground := Go.Ground.data }, { on := 12, ground := Go.Ground.guard }], guard := some (12, true) }) rfl (by kernel_rfl) (by kernel_rfl) (by kernel_rfl) (fun _ _ _ h => h) (by rfl) (by assumption) ?_
        try simp only [Act.put, List.setIfInBounds_toArray, List.set_cons_zero, List.set_cons_succ]
        refine wpAnyH_pass (i := 15) (oi := { dst := some 36, op := Go.Op.fieldAddr 32 (Go.Operand.tmp 35) 3, type := 0, pos := "ref.go:52", after := #[{ on := 14, ground := Go.Ground.data }, { on := 12, ground := Go.Ground.guard }], guard := some (12, true) }) rfl (by kernel_rfl) (by kernel_rfl) (by kernel_rfl) (fun _ _ _ h => h) (by rfl) (by assumption) ?_
        try simp only [Act.put, List.setIfInBounds_toArray, List.set_cons_zero, List.set_cons_succ]
        refine wpAnyH_pass (i := 18) (oi := { dst := some 39, op := Go.Op.move (Go.Operand.tmp 0), type := 29, pos := "ref.go:52", after := #[{ on := 12, ground := Go.Ground.guard }], guard := some (12, true) }) rfl (by kernel_rfl) (by kernel_rfl) (by kernel_rfl) (fun _ _ _ h => h) (by rfl) (by assumption) ?_
        try simp only [Act.put, List.setIfInBounds_toArray, List.set_cons_zero, List.set_cons_succ]
        refine wpAnyH_pass (i := 19) (oi := { dst := some 40, op := Go.Op.nilCheck (Go.Operand.tmp 39), type := 0, pos := "ref.go:52", after := #[{ on := 18, ground := Go.Ground.data }, { on := 12, ground := Go.Ground.guard }], guard := some (12, true) }) rfl (by kernel_rfl) (by kernel_rfl) (by kernel_rfl) (fun _ _ _ h => h) (by rfl) (by assumption) ?_
        try simp only [Act.put, List.setIfInBounds_toArray, List.set_cons_zero, List.set_cons_succ]
        refine wpAnyH_pass (i := 20) (oi := { dst := some 41, op := Go.Op.fieldAddr 32 (Go.Operand.tmp 40) 0, type := 0, pos := "ref.go:52", after := #[{ on := 19, ground := Go.Ground.data }, { on := 12, ground := Go.Ground.guard }], guard := some (12, true) }) rfl (by kernel_rfl) (by kernel_rfl) (by kernel_rfl) (fun _ _ _ h => h) (by rfl) (by assumption) ?_
        try simp only [Act.put, List.setIfInBounds_toArray, List.set_cons_zero, List.set_cons_succ]
        refine wpAnyH_pass (i := 16) (oi := { dst := some 37, op := Go.Op.load 30 (Go.Operand.tmp 36), type := 30, pos := "ref.go:52", after := #[{ on := 15, ground := Go.Ground.data }, { on := 12, ground := Go.Ground.guard }], guard := some (12, true) }) rfl (by kernel_rfl) (by kernel_rfl) (by kernel_rfl) (fun _ _ _ h => h) (by rfl) (by assumption) ?_
        try simp only [Act.put, List.setIfInBounds_toArray, List.set_cons_zero, List.set_cons_succ]
        refine wpAnyH_pass (i := 17) (oi := { dst := some 38, op := Go.Op.call { callee := Go.Callee.builtin Go.Builtin.len, args := #[Go.Operand.tmp 37], argTypes := #[30] }, type := 3, pos := "ref.go:52", after := #[{ on := 16, ground := Go.Ground.data }, { on := 12, ground := Go.Ground.guard }], guard := some (12, true) }) rfl (by kernel_rfl) (by kernel_rfl) (by kernel_rfl) (fun _ _ _ h => h) (by rfl) (by assumption) ?_
        try simp only [Act.put, List.setIfInBounds_toArray, List.set_cons_zero, List.set_cons_succ]
        refine wpAnyH_pass (i := 21) (oi := { dst := some 42, op := Go.Op.load 3 (Go.Operand.tmp 41), type := 3, pos := "ref.go:52", after := #[{ on := 20, ground := Go.Ground.data }, { on := 12, ground := Go.Ground.guard }], guard := some (12, true) }) rfl (by kernel_rfl) (by kernel_rfl) (by kernel_rfl) (fun _ _ _ h => h) (by rfl) (by assumption) ?_
        try simp only [Act.put, List.setIfInBounds_toArray, List.set_cons_zero, List.set_cons_succ]
        refine wpAnyH_pass (i := 22) (oi := { dst := some 43, op := Go.Op.binOp Go.BinOp.geq 3 (Go.Operand.tmp 38) (Go.Operand.tmp 42) 3, type := 4, pos := "ref.go:52", after := #[{ on := 17, ground := Go.Ground.data }, { on := 21, ground := Go.Ground.data }, { on := 12, ground := Go.Ground.guard }], guard := some (12, true) }) rfl (by kernel_rfl) (by kernel_rfl) (by kernel_rfl) (fun _ _ _ h => h) (by rfl) (by assumption) ?_
        try simp only [Act.put, List.setIfInBounds_toArray, List.set_cons_zero, List.set_cons_succ]
        refine wpAnyH_pass (i := 23) (oi := { dst := some 44, op := Go.Op.pick (Go.Operand.tmp 33) (Go.Operand.tmp 43) (Go.Operand.const (Go.Value.bool false)), type := 4, pos := "ref.go:52", after := #[{ on := 12, ground := Go.Ground.data }, { on := 22, ground := Go.Ground.data }, { on := 9, ground := Go.Ground.guard }], guard := some (9, false) }) rfl (by kernel_rfl) (by kernel_rfl) (by kernel_rfl) (fun _ _ _ h => h) (by rfl) (by assumption) ?_
        try simp only [Act.put, List.setIfInBounds_toArray, List.set_cons_zero, List.set_cons_succ]
        refine wpAnyH_read (i := 24) (oi := { dst := some 45, op := Go.Op.pick (Go.Operand.tmp 30) (Go.Operand.const (Go.Value.bool true)) (Go.Operand.tmp 44), type := 4, pos := "ref.go:52", after := #[{ on := 9, ground := Go.Ground.data }, { on := 23, ground := Go.Ground.data }], guard := none }) ?_ rfl (by kernel_rfl) (by kernel_rfl) (by kernel_rfl) (fun _ _ _ h => h) (by rfl) (by assumption) ?_ ?_
        rotate_left
        · (intro w0 hS0; go_simp <;> (try with_reducible rfl))
        try simp only [Act.put, List.setIfInBounds_toArray, List.set_cons_zero, List.set_cons_succ]
        refine wpAnyH_done (by kernel_rfl) ?_ _
        go_wp2_with fail
        (try go_ret2)
        rw [← HR.out]
        obtain ⟨hg, hfE, hfk, hE, hfB⟩ := HX.out
        obtain ⟨h1, b1⟩ := H1.out
        exact .inr (.inl ⟨(fun f2 h5 => by rw [hg] at h5; cases h5; unfold onD; rw [HAm.out]; exact ha2), .inl (by rw [HCn.out]; exact hf), rfl, (H.out.1.to b1).then (F2.out.below (Nat.le_refl _) fun _ _ e => e.elim)⟩)
      · have hf2 : decide (mj ≤ (cnt : Int)) = false := by simp; omega
        go_wp2_with fail
        refine wp_region_held_drew (S := fun W => Fr (fun _ => False) w1 W) (by kernel_rfl) (by exact (Fr.refl _ w1).drew) (fun hHeld => ?_)
        refine wpAnyH_read (i := 0) (oi := { dst := some 21, op := Go.Op.move (Go.Operand.tmp 0), type := 29, pos := "ref.go:52", after := #[], guard := none }) ?_ rfl (by kernel_rfl) (by kernel_rfl) (by kernel_rfl) (fun _ _ _ h => h) (by rfl) (by assumption) ?_ ?_
        rotate_left
        · (intro w0 hS0; go_simp <;> (try with_reducible rfl))
        try simp only [Act.put, List.setIfInBounds_toArray, List.set_cons_zero, List.set_cons_succ]
        refine wpAnyH_read (i := 1) (oi := { dst := some 22, op := Go.Op.move (Go.Operand.tmp 1), type := 3, pos := "ref.go:52", after := #[], guard := none }) ?_ rfl (by kernel_rfl) (by kernel_rfl) (by kernel_rfl) (fun _ _ _ h => h) (by rfl) (by assumption) ?_ ?_
        rotate_left
        · (intro w0 hS0; go_simp <;> (try with_reducible rfl))
        try simp only [Act.put, List.setIfInBounds_toArray, List.set_cons_zero, List.set_cons_succ]
        refine wpAnyH_read (i := 4) (oi := { dst := some 25, op := Go.Op.move (Go.Operand.tmp 0), type := 29, pos := "ref.go:52", after := #[], guard := none }) ?_ rfl (by kernel_rfl) (by kernel_rfl) (by kernel_rfl) (fun _ _ _ h => h) (by rfl) (by assumption) ?_ ?_
        rotate_left
        · (intro w0 hS0; go_simp <;> (try with_reducible rfl))
        try simp only [Act.put, List.setIfInBounds_toArray, List.set_cons_zero, List.set_cons_succ]
        refine wpAnyH_read (i := 5) (oi := { dst := some 26, op := Go.Op.nilCheck (Go.Operand.tmp 25), type := 0, pos := "ref.go:52", after := #[{ on := 4, ground := Go.Ground.data }], guard := none }) ?_ rfl (by kernel_rfl) (by kernel_rfl) (by kernel_rfl) (fun _ _ _ h => h) (by rfl) (by assumption) ?_ ?_
        rotate_left
        · (intro w0 hS0; go_simp <;> (try with_reducible rfl))
        try simp only [Act.put, List.setIfInBounds_toArray, List.set_cons_zero, List.set_cons_succ]
        refine wpAnyH_read (i := 6) (oi := { dst := some 27, op := Go.Op.fieldAddr 32 (Go.Operand.tmp 26) 1, type := 0, pos := "ref.go:52", after := #[{ on := 5, ground := Go.Ground.data }], guard := none }) ?_ rfl (by kernel_rfl) (by kernel_rfl) (by kernel_rfl) (fun _ _ _ h => h) (by rfl) (by assumption) ?_ ?_
        rotate_left
        · (intro w0 hS0; go_simp <;> (try with_reducible rfl))
        try simp only [Act.put, List.setIfInBounds_toArray, List.set_cons_zero, List.set_cons_succ]
        refine wpAnyH_read (i := 7) (oi := { dst := some 28, op := Go.Op.load 3 (Go.Operand.tmp 27), type := 3, pos := "ref.go:52", after := #[{ on := 6, ground := Go.Ground.data }], guard := none }) ?_ rfl (by kernel_rfl) (by kernel_rfl) (by kernel_rfl) (fun _ _ _ h => h) (by rfl) (by assumption) ?_ ?_
        rotate_left
        · (intro w0 hS0; obtain ⟨s0, s1, s2⟩ := HX4.out w0 hS0; go_simp <;> (try with_reducible rfl))
        try simp only [Act.put, List.setIfInBounds_toArray, List.set_cons_zero, List.set_cons_succ]
        refine wpAnyH_one (i := 2) (o := { dst := some 23, op := Go.Op.call { callee := Go.Callee.value (Go.Operand.func 22), args := #[Go.Operand.tmp 21, Go.Operand.tmp 22, Go.Operand.const (Go.Value.bool false)], argTypes := #[29, 3, 4] }, type := 30, pos := "ref.go:52", after := #[{ on := 0, ground := Go.Ground.data }, { on := 1, ground := Go.Ground.data }], guard := none }) (by kernel_rfl) rfl (by rfl) (fun K hK => ?_)
        go_simp
        refine (HOf.out _ (Fr.refl _ w1).drew).mono ?_
        rintro e9 V1 ⟨⟨vS, S, rfl, ho, hp, _⟩, b1⟩
        obtain ⟨A9, c9, rfl⟩ := row_slice ho
        have hSl : (S.map (·.B)).length = cnt := by rw [List.length_map, hp.length_eq]; exact HCn.out
        rw [hSl]
        have F2 : Hid (Fr (fun _ => False) w1 V1) := Lib.hid (((Fr.refl _ w1).drew).trans (Fr.of_below b1))
        clear b1 ho hp hSl
        refine hK.out _ _ ?_ (fun hHeld => ?_)
        · exact F2.out
        clear hK K
        try simp only [Act.put, List.setIfInBounds_toArray, List.set_cons_zero, List.set_cons_succ]
        refine wpAnyH_read (i := 3) (oi := { dst := some 24, op := Go.Op.call { callee := Go.Callee.builtin Go.Builtin.len, args := #[Go.Operand.tmp 23], argTypes := #[30] }, type := 3, pos := "ref.go:52", after := #[{ on := 2, ground := Go.Ground.data }], guard := none }) ?_ rfl (by kernel_rfl) (by kernel_rfl) (by kernel_rfl) (fun _ _ _ h => h) (by rfl) (by assumption) ?_ ?_
        rotate_left
        · (intro w0 hS0; go_simp <;> (try with_reducible rfl))
        try simp only [Act.put, List.setIfInBounds_toArray, List.set_cons_zero, List.set_cons_succ]
        refine wpAnyH_read (i := 8) (oi := { dst := some 29, op := Go.Op.binOp Go.BinOp.geq 3 (Go.Operand.tmp 24) (Go.Operand.tmp 28) 3, type := 4, pos := "ref.go:52", after := #[{ on := 3, ground := Go.Ground.data }, { on := 7, ground := Go.Ground.data }], guard := none }) ?_ rfl (by kernel_rfl) (by kernel_rfl) (by kernel_rfl) (fun _ _ _ h => h) (by rfl) (by assumption) ?_ ?_
        rotate_left
        · (intro w0 hS0; go_simp <;> (try with_reducible rfl))
        try simp only [Act.put, List.setIfInBounds_toArray, List.set_cons_zero, List.set_cons_succ]
        refine wpAnyH_read (i := 9) (oi := { dst := some 30, op := Go.Op.move (Go.Operand.tmp 29), type := 4, pos := "ref.go:52", after := #[{ on := 8, ground := Go.Ground.data }, { on := 2, ground := Go.Ground.chain }], guard := none }) ?_ rfl (by kernel_rfl) (by kernel_rfl) (by kernel_rfl) (fun _ _ _ h => h) (by rfl) (by assumption) ?_ ?_
        rotate_left
        · (intro w0 hS0; go_simp <;> (try with_reducible rfl))
        try simp only [Act.put, List.setIfInBounds_toArray, List.set_cons_zero, List.set_cons_succ]
        refine wpAnyH_read (i := 10) (oi := { dst := some 31, op := Go.Op.move (Go.Operand.tmp 8), type := 40, pos := "ref.go:52", after := #[{ on := 9, ground := Go.Ground.guard }], guard := some (9, false) }) ?_ rfl (by kernel_rfl) (by kernel_rfl) (by kernel_rfl) (fun _ _ _ h => h) (by rfl) (by assumption) ?_ ?_
        rotate_left
        · (intro w0 hS0; go_simp <;> (try with_reducible rfl))
        try simp only [Act.put, List.setIfInBounds_toArray, List.set_cons_zero, List.set_cons_succ]
        refine wpAnyH_read (i := 11) (oi := { dst := some 32, op := Go.Op.binOp Go.BinOp.eql 40 (Go.Operand.tmp 31) (Go.Operand.const (Go.Value.pointer none)) 40, type := 4, pos := "ref.go:52", after := #[{ on := 10, ground := Go.Ground.data }, { on := 9, ground := Go.Ground.guard }], guard := some (9, false) }) ?_ rfl (by kernel_rfl) (by kernel_rfl) (by kernel_rfl) (fun _ _ _ h => h) (by rfl) (by assumption) ?_ ?_
        rotate_left
        · (intro w0 hS0; go_simp <;> (try with_reducible rfl))
        try simp only [Act.put, List.setIfInBounds_toArray, List.set_cons_zero, List.set_cons_succ]
        refine wpAnyH_read (i := 12) (oi := { dst := some 33, op := Go.Op.move (Go.Operand.tmp 32), type := 4, pos := "ref.go:52", after := #[{ on := 11, ground := Go.Ground.data }, { on := 9, ground := Go.Ground.chain }, { on := 9, ground := Go.Ground.guard }], guard := some (9, false) }) ?_ rfl (by kernel_rfl) (by kernel_rfl) (by kernel_rfl) (fun _ _ _ h => h) (by rfl) (by assumption) ?_ ?_
        rotate_left
        · (intro w0 hS0; go_simp <;> (try with_reducible rfl))
        try simp only [Act.put, List.setIfInBounds_toArray, List.set_cons_zero, List.set_cons_succ]
        refine wpAnyH_pass (i := 13) (oi := { dst := some 34, op := Go.Op.move (Go.Operand.tmp 0), type := 29, pos := "ref.go:52", after := #[{ on := 12, ground := Go.Ground.guard }], guard := some (12, true) }) rfl (by kernel_rfl) (by kernel_rfl) (by kernel_rfl) (fun _ _ _ h => h) (by rfl) (by assumption) ?_
        try simp only [Act.put, List.setIfInBounds_toArray, List.set_cons_zero, List.set_cons_succ]
        refine wpAnyH_pass (i := 14) (oi := { dst := some 35, op := Go.Op.nilCheck (Go.Operand.tmp 34), type := 0, pos := "ref.go:52", after := #[{ on := 13, ground := Go.Ground.data }, { on := 12, ground := Go.Ground.guard }], guard := some (12, true) }) rfl (by kernel_rfl) (by kernel_rfl) (by kernel_rfl) (fun _ _ _ h => h) (by rfl) (by assumption) ?_
        try simp only [Act.put, List.setIfInBounds_toArray, List.set_cons_zero, List.set_cons_succ]
        refine wpAnyH_pass (i := 15) (oi := { dst := some 36, op := Go.Op.fieldAddr 32 (Go.Operand.tmp 35) 3, type := 0, pos := "ref.go:52", after := #[{ on := 14, ground := Go.Ground.data }, { on := 12, ground := Go.Ground.guard }], guard := some (12, true) }) rfl (by kernel_rfl) (by kernel_rfl) (by kernel_rfl) (fun _ _ _ h => h) (by rfl) (by assumption) ?_
        try simp only [Act.put, List.setIfInBounds_toArray, List.set_cons_zero, List.set_cons_succ]
        refine wpAnyH_pass (i := 18) (oi := { dst := some 39, op := Go.Op.move (Go.Operand.tmp 0), type := 29, pos := "ref.go:52", after := #[{ on := 12, ground := Go.Ground.guard }], guard := some (12, true) }) rfl (by kernel_rfl) (by kernel_rfl) (by kernel_rfl) (fun _ _ _ h => h) (by rfl) (by assumption) ?_
        try simp only [Act.put, List.setIfInBounds_toArray, List.set_cons_zero, List.set_cons_succ]
        refine wpAnyH_pass (i := 19) (oi := { dst := some 40, op := Go.Op.nilCheck (Go.Operand.tmp 39), type := 0, pos := "ref.go:52", after := #[{ on := 18, ground := Go.Ground.data }, { on := 12, ground := Go.Ground.guard }], guard := some (12, true) }) rfl (by kernel_rfl) (by kernel_rfl) (by kernel_rfl) (fun _ _ _ h => h) (by rfl) (by assumption) ?_
        try simp only [Act.put, List.setIfInBounds_toArray, List.set_cons_zero, List.set_cons_succ]
        refine wpAnyH_pass (i := 20) (oi := { dst := some 41, op := Go.Op.fieldAddr 32 (Go.Operand.tmp 40) 0, type := 0, pos := "ref.go:52", after := #[{ on := 19, ground := Go.Ground.data }, { on := 12, ground := Go.Ground.guard }], guard := some (12, true) }) rfl (by kernel_rfl) (by kernel_rfl) (by kernel_rfl) (fun _ _ _ h => h) (by rfl) (by assumption) ?_
        try simp only [Act.put, List.setIfInBounds_toArray, List.set_cons_zero, List.set_cons_succ]
        refine wpAnyH_pass (i := 16) (oi := { dst := some 37, op := Go.Op.load 30 (Go.Operand.tmp 36), type := 30, pos := "ref.go:52", after := #[{ on := 15, ground := Go.Ground.data }, { on := 12, ground := Go.Ground.guard }], guard := some (12, true) }) rfl (by kernel_rfl) (by kernel_rfl) (by kernel_rfl) (fun _ _ _ h => h) (by rfl) (by assumption) ?_
        try simp only [Act.put, List.setIfInBounds_toArray, List.set_cons_zero, List.set_cons_succ]
        refine wpAnyH_pass (i := 17) (oi := { dst := some 38, op := Go.Op.call { callee := Go.Callee.builtin Go.Builtin.len, args := #[Go.Operand.tmp 37], argTypes := #[30] }, type := 3, pos := "ref.go:52", after := #[{ on := 16, ground := Go.Ground.data }, { on := 12, ground := Go.Ground.guard }], guard := some (12, true) }) rfl (by kernel_rfl) (by kernel_rfl) (by kernel_rfl) (fun _ _ _ h => h) (by rfl) (by assumption) ?_
        try simp only [Act.put, List.setIfInBounds_toArray, List.set_cons_zero, List.set_cons_succ]
        refine wpAnyH_pass (i := 21) (oi := { dst := some 42, op := Go.Op.load 3 (Go.Operand.tmp 41), type := 3, pos := "ref.go:52", after := #[{ on := 20, ground := Go.Ground.data }, { on := 12, ground := Go.Ground.guard }], guard := some (12, true) }) rfl (by kernel_rfl) (by kernel_rfl) (by kernel_rfl) (fun _ _ _ h => h) (by rfl) (by assumption) ?_
        try simp only [Act.put, List.setIfInBounds_toArray, List.set_cons_zero, List.set_cons_succ]
        refine wpAnyH_pass (i := 22) (oi := { dst := some 43, op := Go.Op.binOp Go.BinOp.geq 3 (Go.Operand.tmp 38) (Go.Operand.tmp 42) 3, type := 4, pos := "ref.go:52", after := #[{ on := 17, ground := Go.Ground.data }, { on := 21, ground := Go.Ground.data }, { on := 12, ground := Go.Ground.guard }], guard := some (12, true) }) rfl (by kernel_rfl) (by kernel_rfl) (by kernel_rfl) (fun _ _ _ h => h) (by rfl) (by assumption) ?_
        try simp only [Act.put, List.setIfInBounds_toArray, List.set_cons_zero, List.set_cons_succ]
        refine wpAnyH_read (i := 23) (oi := { dst := some 44, op := Go.Op.pick (Go.Operand.tmp 33) (Go.Operand.tmp 43) (Go.Operand.const (Go.Value.bool false)), type := 4, pos := "ref.go:52", after := #[{ on := 12, ground := Go.Ground.data }, { on := 22, ground := Go.Ground.data }, { on := 9, ground := Go.Ground.guard }], guard := some (9, false) }) ?_ rfl (by kernel_rfl) (by kernel_rfl) (by kernel_rfl) (fun _ _ _ h => h) (by rfl) (by assumption) ?_ ?_
        rotate_left
        · (intro w0 hS0; go_simp <;> (try with_reducible rfl))
        try simp only [Act.put, List.setIfInBounds_toArray, List.set_cons_zero, List.set_cons_succ]
        refine wpAnyH_read (i := 24) (oi := { dst := some 45, op := Go.Op.pick (Go.Operand.tmp 30) (Go.Operand.const (Go.Value.bool true)) (Go.Operand.tmp 44), type := 4, pos := "ref.go:52", after := #[{ on := 9, ground := Go.Ground.data }, { on := 23, ground := Go.Ground.data }], guard := none }) ?_ rfl (by kernel_rfl) (by kernel_rfl) (by kernel_rfl) (fun _ _ _ h => h) (by rfl) (by assumption) ?_ ?_
        rotate_left
        · (intro w0 hS0; go_simp <;> (try with_reducible rfl))
        try simp only [Act.put, List.setIfInBounds_toArray, List.set_cons_zero, List.set_cons_succ]
        refine wpAnyH_done (by kernel_rfl) ?_ _
        rename World => V2
        obtain ⟨h1, b1⟩ := H1.out
        have h2 := h1.fr F2.out fun _ _ e => e
        obtain ⟨hg, hfE, hfk, hE, hfB⟩ := HX.out
        have hlg := H.out.2.1
        have HAd := Lib.hid (refAdd_any (h2.each f hfE) id false (by have := hlg.llen f hfE; have := H.out.2.2.1; omega) (by rw [hlg.gs f hfE]; simp))
        rw [hfB] at HAd
        have o2 : Onto C C w V2 := (Onto.of_below C b1).trans ⟨fun _ _ => rfl, F2.out.mono fun _ _ e => e.elim⟩
        have H2 := Lib.hid (And.intro h2 o2)
        clear h1 b1 h2 hg hfE hfk hE hfB hlg o2
        go_wp2_with fail
        refine HAd.out.mono ?_
        rintro e9 w3 ⟨⟨v9, rfl⟩, hx⟩
        have HXW := Lib.hid hx
        clear hx HAd
        go_wp2_with fail
        (try go_ret2)
        rw [← HR.out]
        obtain ⟨hg, hfE, hfk, hE, hfB⟩ := HX.out
        obtain ⟨h2, o2⟩ := H2.out
        rw [hE] at h2
        have hx := HXW.out
        rw [← hfB] at hx
        obtain ⟨⟨q', h3⟩, f3⟩ := h2.roomTo (addX_nm _ _ _) hx
        refine .inr (.inr (.inl ⟨E1, f, E2, q', hE, hfk, by unfold onD; rw [HAm.out]; exact ha2, by rw [HCn.out]; omega, by rw [hfB]; rfl, _, _, h3, o2.trans (Onto.of_paint f3)⟩))
  | none =>
    rw [hg] at HG
    dsimp only [ptD, Option.map_some, Option.map_none] at HG
    have HX := Lib.hid hg
    clear h hl hn hnm hP hg hcnt hv
    go_enter Tryz.func15, Tryz.ntmps15
    go_wp2_with fail
    refine HG.out.mono ?_
    rintro e w1 ⟨rfl, b1⟩
    obtain ⟨h, hl, hn, hnm⟩ := H.out
    have h1 := h.below b1
    have H1 := Lib.hid (And.intro h1 b1)
    have HOf := Lib.hid (fun W (hW : Fr (fun _ => False) w1 W) => refOf_id (h1.fr hW fun _ _ e => e) hl hn id)
    have HX4 := Lib.hid (fun W (hW : Fr (fun _ => False) w1 W) => (And.intro (blk_cell (hW.blk h1.self fun e => e) 1) (And.intro (blk_cell (hW.blk h1.self fun e => e) 0) (show W.cell? ⟨R, 3, none⟩ = some (.slice A E.length c) from by rw [← HV.out]; exact blk_cell (hW.blk h1.self fun e => e) 3))))
    clear h1 b1 HG h hl hn hnm
    by_cases hf : mj ≤ (cnt : Int)
    · have hf2 : decide (mj ≤ (cnt : Int)) = true := by simp; omega
      · go_wp2_with fail
        refine wp_region_held_drew (S := fun W => Fr (fun _ => False) w1 W) (by kernel_rfl) (by exact (Fr.refl _ w1).drew) (fun hHeld => ?_)
        refine wpAnyH_read (i := 0) (oi := { dst := some 21, op := Go.Op.move (Go.Operand.tmp 0), type := 29, pos := "ref.go:52", after := #[], guard := none }) ?_ rfl (by kernel_rfl) (by kernel_rfl) (by kernel_rfl) (fun _ _ _ h => h) (by rfl) (by assumption) ?_ ?_
        rotate_left
        · (intro w0 hS0; go_simp <;> (try with_reducible rfl))
        try simp only [Act.put, List.setIfInBounds_toArray, List.set_cons_zero, List.set_cons_succ]
        refine wpAnyH_read (i := 1) (oi := { dst := some 22, op := Go.Op.move (Go.Operand.tmp 1), type := 3, pos := "ref.go:52", after := #[], guard := none }) ?_ rfl (by kernel_rfl) (by kernel_rfl) (by kernel_rfl) (fun _ _ _ h => h) (by rfl) (by assumption) ?_ ?_
        rotate_left
        · (intro w0 hS0; go_simp <;> (try with_reducible rfl))
        try simp only [Act.put, List.setIfInBounds_toArray, List.set_cons_zero, List.set_cons_succ]
        refine wpAnyH_read (i := 4) (oi := { dst := some 25, op := Go.Op.move (Go.Operand.tmp 0), type := 29, pos := "ref.go:52", after := #[], guard := none }) ?_ rfl (by kernel_rfl) (by kernel_rfl) (by kernel_rfl) (fun _ _ _ h => h) (by rfl) (by assumption) ?_ ?_
        rotate_left
        · (intro w0 hS0; go_simp <;> (try with_reducible rfl))
        try simp only [Act.put, List.setIfInBounds_toArray, List.set_cons_zero, List.set_cons_succ]
        refine wpAnyH_read (i := 5) (oi := { dst := some 26, op := Go.Op.nilCheck (Go.Operand.tmp 25), type := 0, pos := "ref.go:52", after := #[{ on := 4, ground := Go.Ground.data }], guard := none }) ?_ rfl (by kernel_rfl) (by kernel_rfl) (by kernel_rfl) (fun _ _ _ h => h) (by rfl) (by assumption) ?_ ?_
        rotate_left
        · (intro w0 hS0; go_simp <;> (try with_reducible rfl))
        try simp only [Act.put, List.setIfInBounds_toArray, List.set_cons_zero, List.set_cons_succ]
        refine wpAnyH_read (i := 6) (oi := { dst := some 27, op := Go.Op.fieldAddr 32 (Go.Operand.tmp 26) 1, type := 0, pos := "ref.go:52", after := #[{ on := 5, ground := Go.Ground.data }], guard := none }) ?_ rfl (by kernel_rfl) (by kernel_rfl) (by kernel_rfl) (fun _ _ _ h => h) (by rfl) (by assumption) ?_ ?_
        rotate_left
        · (intro w0 hS0; go_simp <;> (try with_reducible rfl))
        try simp only [Act.put, List.setIfInBounds_toArray, List.set_cons_zero, List.set_cons_succ]
        refine wpAnyH_read (i := 7) (oi := { dst := some 28, op := Go.Op.load 3 (Go.Operand.tmp 27), type := 3, pos := "ref.go:52", after := #[{ on := 6, ground := Go.Ground.data }], guard := none }) ?_ rfl (by kernel_rfl) (by kernel_rfl) (by kernel_rfl) (fun _ _ _ h => h) (by rfl) (by assumption) ?_ ?_
        rotate_left
        · (intro w0 hS0; obtain ⟨s0, s1, s2⟩ := HX4.out w0 hS0; go_simp <;> (try with_reducible rfl))
        try simp only [Act.put, List.setIfInBounds_toArray, List.set_cons_zero, List.set_cons_succ]
        refine wpAnyH_one (i := 2) (o := { dst := some 23, op := Go.Op.call { callee := Go.Callee.value (Go.Operand.func 22), args := #[Go.Operand.tmp 21, Go.Operand.tmp 22, Go.Operand.const (Go.Value.bool false)], argTypes := #[29, 3, 4] }, type := 30, pos := "ref.go:52", after := #[{ on := 0, ground := Go.Ground.data }, { on := 1, ground := Go.Ground.data }], guard := none }) (by kernel_rfl) rfl (by rfl) (fun K hK => ?_)
        go_simp
        refine (HOf.out _ (Fr.refl _ w1).drew).mono ?_
        rintro e9 V1 ⟨⟨vS, S, rfl, ho, hp, _⟩, b1⟩
        obtain ⟨A9, c9, rfl⟩ := row_slice ho
        have hSl : (S.map (·.B)).length = cnt := by rw [List.length_map, hp.length_eq]; exact HCn.out
        rw [hSl]
        have F2 : Hid (Fr (fun _ => False) w1 V1) := Lib.hid (((Fr.refl _ w1).drew).trans (Fr.of_below b1))
        clear b1 ho hp hSl
        refine hK.out _ _ ?_ (fun hHeld => ?_)
        · exact F2.out
        clear hK K
        try simp only [Act.put, List.setIfInBounds_toArray, List.set_cons_zero, List.set_cons_succ]
        refine wpAnyH_read (i := 3) (oi := { dst := some 24, op := Go.Op.call { callee := Go.Callee.builtin Go.Builtin.len, args := #[Go.Operand.tmp 23], argTypes := #[30] }, type := 3, pos := "ref.go:52", after := #[{ on := 2, ground := Go.Ground.data }], guard := none }) ?_ rfl (by kernel_rfl) (by kernel_rfl) (by kernel_rfl) (fun _ _ _ h => h) (by rfl) (by assumption) ?_ ?_
        rotate_left
        · (intro w0 hS0; go_simp <;> (try with_reducible rfl))
        try simp only [Act.put, List.setIfInBounds_toArray, List.set_cons_zero, List.set_cons_succ]
        refine wpAnyH_read (i := 8) (oi := { dst := some 29, op := Go.Op.binOp Go.BinOp.geq 3 (Go.Operand.tmp 24) (Go.Operand.tmp 28) 3, type := 4, pos := "ref.go:52", after := #[{ on := 3, ground := Go.Ground.data }, { on := 7, ground := Go.Ground.data }], guard := none }) ?_ rfl (by kernel_rfl) (by kernel_rfl) (by kernel_rfl) (fun _ _ _ h => h) (by rfl) (by assumption) ?_ ?_
        rotate_left
        · (intro w0 hS0; go_simp <;> (try with_reducible rfl))
        try simp only [Act.put, List.setIfInBounds_toArray, List.set_cons_zero, List.set_cons_succ]
        refine wpAnyH_read (i := 9) (oi := { dst := some 30, op := Go.Op.move (Go.Operand.tmp 29), type := 4, pos := "ref.go:52", after := #[{ on := 8, ground := Go.Ground.data }, { on := 2, ground := Go.Ground.chain }], guard := none }) ?_ rfl (by kernel_rfl) (by kernel_rfl) (by kernel_rfl) (fun _ _ _ h => h) (by rfl) (by assumption) ?_ ?_
        rotate_left
        · (intro w0 hS0; go_simp <;> (try with_reducible rfl))
        try simp only [Act.put, List.setIfInBounds_toArray, List.set_cons_zero, List.set_cons_succ]
        refine wpAnyH_pass (i := 10) (oi := { dst := some 31, op := Go.Op.move (Go.Operand.tmp 8), type := 40, pos := "ref.go:52", after := #[{ on := 9, ground := Go.Ground.guard }], guard := some (9, false) }) rfl (by kernel_rfl) (by kernel_rfl) (by kernel_rfl) (fun _ _ _ h => h) (by rfl) (by assumption) ?_
        try simp only [Act.put, List.setIfInBounds_toArray, List.set_cons_zero, List.set_cons_succ]
        refine wpAnyH_pass (i := 11) (oi := { dst := some 32, op := Go.Op.binOp Go.BinOp.eql 40 (Go.Operand.tmp 31) (Go.Operand.const (Go.Value.pointer none)) 40, type := 4, pos := "ref.go:52", after := #[{ on := 10, ground := Go.Ground.data }, { on := 9, ground := Go.Ground.guard }], guard := some (9, false) }) rfl (by kernel_rfl) (by kernel_rfl) (by kernel_rfl) (fun _ _ _ h => h) (by rfl) (by assumption) ?_
        try simp only [Act.put, List.setIfInBounds_toArray, List.set_cons_zero, List.set_cons_succ]
        refine wpAnyH_pass (i := 12) (oi := { dst := some 33, op := Go.Op.move (Go.Operand.tmp 32), type := 4, pos := "ref.go:52", after := #[{ on := 11, ground := Go.Ground.data }, { on := 9, ground := Go.Ground.chain }, { on := 9, ground := Go.Ground.guard }], guard := some (9, false) }) rfl (by kernel_rfl) (by kernel_rfl) (by kernel_rfl) (fun _ _ _ h => h) (by rfl) (by assumption) ?_
        try simp only [Act.put, List.setIfInBounds_toArray, List.set_cons_zero, List.set_cons_succ]
        refine wpAnyH_pass (i := 13) (oi := { dst := some 34, op := Go.Op.move (Go.Operand.tmp 0), type := 29, pos := "ref.go:52", after := #[{ on := 12, ground := Go.Ground.guard }], guard := some (12, true) }) rfl (by kernel_rfl) (by kernel_rfl) (by kernel_rfl) (fun _ _ _ h => h) (by rfl) (by assumption) ?_
        try simp only [Act.put, List.setIfInBounds_toArray, List.set_cons_zero, List.set_cons_succ]
        refine wpAnyH_pass (i := 14) (oi := { dst := some 35, op := Go.Op.nilCheck (Go.Operand.tmp 34), type := 0, pos := "ref.go:52", after := #[{ on := 13, ground := Go.Ground.data }, { on := 12, ground := Go.Ground.guard }], guard := some (12, true) }) rfl (by kernel_rfl) (by kernel_rfl) (by kernel_rfl) (fun _ _ _ h => h) (by rfl) (by assumption) ?_
        try simp only [Act.put, List.setIfInBounds_toArray, List.set_cons_zero, List.set_cons_succ]
        refine wpAnyH_pass (i := 15) (oi := { dst := some 36, op := Go.Op.fieldAddr 32 (Go.Operand.tmp 35) 3, type := 0, pos := "ref.go:52", after := #[{ on := 14, ground := Go.Ground.data }, { on := 12, ground := Go.Ground.guard }], guard := some (12, true) }) rfl (by kernel_rfl) (by kernel_rfl) (by kernel_rfl) (fun _ _ _ h => h) (by rfl) (by assumption) ?_
        try simp only [Act.put, List.setIfInBounds_toArray, List.set_cons_zero, List.set_cons_succ]
        refine wpAnyH_pass (i := 18) (oi := { dst := some 39, op := Go.Op.move (Go.Operand.tmp 0), type := 29, pos := "ref.go:52", after := #[{ on := 12, ground := Go.Ground.guard }], guard := some (12, true) }) rfl (by kernel_rfl) (by kernel_rfl) (by kernel_rfl) (fun _ _ _ h => h) (by rfl) (by assumption) ?_
        try simp only [Act.put, List.setIfInBounds_toArray, List.set_cons_zero, List.set_cons_succ]
        refine wpAnyH_pass (i := 19) (oi := { dst := some 40, op := Go.Op.nilCheck (Go.Operand.tmp 39), type := 0, pos := "ref.go:52", after := #[{ on := 18, ground := Go.Ground.data }, { on := 12, ground := Go.Ground.guard }], guard := some (12, true) }) rfl (by kernel_rfl) (by kernel_rfl) (by kernel_rfl) (fun _ _ _ h => h) (by rfl) (by assumption) ?_
        try simp only [Act.put, List.setIfInBounds_toArray, List.set_cons_zero, List.set_cons_succ]
        refine wpAnyH_pass (i := 20) (oi := { dst := some 41, op := Go.Op.fieldAddr 32 (Go.Operand.tmp 40) 0, type := 0, pos := "ref.go:52", after := #[{ on := 19, ground := Go.Ground.data }, { on := 12, ground := Go.Ground.guard }], guard := some (12, true) }) rfl (by kernel_rfl) (by kernel_rfl) (by kernel_rfl) (fun _ _ _ h => h) (by rfl) (by assumption) ?_
        try simp only [Act.put, List.setIfInBounds_toArray, List.set_cons_zero, List.set_cons_succ]
        refine wpAnyH_pass (i := 16) (oi := { dst := some 37, op := Go.Op.load 30 (Go.Operand.tmp 36), type := 30, pos := "ref.go:52", after := #[{ on := 15, ground := Go.Ground.data }, { on := 12, ground := Go.Ground.guard }], guard := some (12, true) }) rfl (by kernel_rfl) (by kernel_rfl) (by kernel_rfl) (fun _ _ _ h => h) (by rfl) (by assumption) ?_
        try simp only [Act.put, List.setIfInBounds_toArray, List.set_cons_zero, List.set_cons_succ]
        refine wpAnyH_pass (i := 17) (oi := { dst := some 38, op := Go.Op.call { callee := Go.Callee.builtin Go.Builtin.len, args := #[Go.Operand.tmp 37], argTypes := #[30] }, type := 3, pos := "ref.go:52", after := #[{ on := 16, ground := Go.Ground.data }, { on := 12, ground := Go.Ground.guard }], guard := some (12, true) }) rfl (by kernel_rfl) (by kernel_rfl) (by kernel_rfl) (fun _ _ _ h => h) (by rfl) (by assumption) ?_
        try simp only [Act.put, List.setIfInBounds_toArray, List.set_cons_zero, List.set_cons_succ]
        refine wpAnyH_pass (i := 21) (oi := { dst := some 42, op := Go.Op.load 3 (Go.Operand.tmp 41), type := 3, pos := "ref.go:52", after := #[{ on := 20, ground := Go.Ground.data }, { on := 12, ground := Go.Ground.guard }], guard := some (12, true) }) rfl (by kernel_rfl) (by kernel_rfl) (by kernel_rfl) (fun _ _ _ h => h) (by rfl) (by assumption) ?_
        try simp only [Act.put, List.setIfInBounds_toArray, List.set_cons_zero, List.set_cons_succ]
        refine wpAnyH_pass (i := 22) (oi := { dst := some 43, op := Go.Op.binOp Go.BinOp.geq 3 (Go.Operand.tmp 38) (Go.Operand.tmp 42) 3, type := 4, pos := "ref.go:52", after := #[{ on := 17, ground := Go.Ground.data }, { on := 21, ground := Go.Ground.data }, { on := 12, ground := Go.Ground.guard }], guard := some (12, true) }) rfl (by kernel_rfl) (by kernel_rfl) (by kernel_rfl) (fun _ _ _ h => h) (by rfl) (by assumption) ?_
        try simp only [Act.put, List.setIfInBounds_toArray, List.set_cons_zero, List.set_cons_succ]
        refine wpAnyH_pass (i := 23) (oi := { dst := some 44, op := Go.Op.pick (Go.Operand.tmp 33) (Go.Operand.tmp 43) (Go.Operand.const (Go.Value.bool false)), type := 4, pos := "ref.go:52", after := #[{ on := 12, ground := Go.Ground.data }, { on := 22, ground := Go.Ground.data }, { on := 9, ground := Go.Ground.guard }], guard := some (9, false) }) rfl (by kernel_rfl) (by kernel_rfl) (by kernel_rfl) (fun _ _ _ h => h) (by rfl) (by assumption) ?_
        try simp only [Act.put, List.setIfInBounds_toArray, List.set_cons_zero, List.set_cons_succ]
        refine wpAnyH_read (i := 24) (oi := { dst := some 45, op := Go.Op.pick (Go.Operand.tmp 30) (Go.Operand.const (Go.Value.bool true)) (Go.Operand.tmp 44), type := 4, pos := "ref.go:52", after := #[{ on := 9, ground := Go.Ground.data }, { on := 23, ground := Go.Ground.data }], guard := none }) ?_ rfl (by kernel_rfl) (by kernel_rfl) (by kernel_rfl) (fun _ _ _ h => h) (by rfl) (by assumption) ?_ ?_
        rotate_left
        · (intro w0 hS0; go_simp <;> (try with_reducible rfl))
        try simp only [Act.put, List.setIfInBounds_toArray, List.set_cons_zero, List.set_cons_succ]
        refine wpAnyH_done (by kernel_rfl) ?_ _
        go_wp2_with fail
        (try go_ret2)
        rw [← HR.out]
        obtain ⟨h1, b1⟩ := H1.out
        exact .inr (.inl ⟨(fun f2 h5 => by rw [HX.out] at h5; cases h5), .inl (by rw [HCn.out]; exact hf), rfl, (H.out.1.to b1).then (F2.out.below (Nat.le_refl _) fun _ _ e => e.elim)⟩)
    · have hf2 : decide (mj ≤ (cnt : Int)) = false := by simp; omega
      by_cases hm : mr ≤ (E.length : Int)
      · have hm2 : decide (mr ≤ (E.length : Int)) = true := by simp; omega
        go_wp2_with fail
        refine wp_region_held_drew (S := fun W => Fr (fun _ => False) w1 W) (by kernel_rfl) (by exact (Fr.refl _ w1).drew) (fun hHeld => ?_)
        refine wpAnyH_read (i := 0) (oi := { dst := some 21, op := Go.Op.move (Go.Operand.tmp 0), type := 29, pos := "ref.go:52", after := #[], guard := none }) ?_ rfl (by kernel_rfl) (by kernel_rfl) (by kernel_rfl) (fun _ _ _ h => h) (by rfl) (by assumption) ?_ ?_
        rotate_left
        · (intro w0 hS0; go_simp <;> (try with_reducible rfl))
        try simp only [Act.put, List.setIfInBounds_toArray, List.set_cons_zero, List.set_cons_succ]
        refine wpAnyH_read (i := 1) (oi := { dst := some 22, op := Go.Op.move (Go.Operand.tmp 1), type := 3, pos := "ref.go:52", after := #[], guard := none }) ?_ rfl (by kernel_rfl) (by kernel_rfl) (by kernel_rfl) (fun _ _ _ h => h) (by rfl) (by assumption) ?_ ?_
        rotate_left
        · (intro w0 hS0; go_simp <;> (try with_reducible rfl))
        try simp only [Act.put, List.setIfInBounds_toArray, List.set_cons_zero, List.set_cons_succ]
        refine wpAnyH_read (i := 4) (oi := { dst := some 25, op := Go.Op.move (Go.Operand.tmp 0), type := 29, pos := "ref.go:52", after := #[], guard := none }) ?_ rfl (by kernel_rfl) (by kernel_rfl) (by kernel_rfl) (fun _ _ _ h => h) (by rfl) (by assumption) ?_ ?_
        rotate_left
        · (intro w0 hS0; go_simp <;> (try with_reducible rfl))
        try simp only [Act.put, List.setIfInBounds_toArray, List.set_cons_zero, List.set_cons_succ]
        refine wpAnyH_read (i := 5) (oi := { dst := some 26, op := Go.Op.nilCheck (Go.Operand.tmp 25), type := 0, pos := "ref.go:52", after := #[{ on := 4, ground := Go.Ground.data }], guard := none }) ?_ rfl (by kernel_rfl) (by kernel_rfl) (by kernel_rfl) (fun _ _ _ h => h) (by rfl) (by assumption) ?_ ?_
        rotate_left
        · (intro w0 hS0; go_simp <;> (try with_reducible rfl))
        try simp only [Act.put, List.setIfInBounds_toArray, List.set_cons_zero, List.set_cons_succ]
        refine wpAnyH_read (i := 6) (oi := { dst := some 27, op := Go.Op.fieldAddr 32 (Go.Operand.tmp 26) 1, type := 0, pos := "ref.go:52", after := #[{ on := 5, ground := Go.Ground.data }], guard := none }) ?_ rfl (by kernel_rfl) (by kernel_rfl) (by kernel_rfl) (fun _ _ _ h => h) (by rfl) (by assumption) ?_ ?_
        rotate_left
        · (intro w0 hS0; go_simp <;> (try with_reducible rfl))
        try simp only [Act.put, List.setIfInBounds_toArray, List.set_cons_zero, List.set_cons_succ]
        refine wpAnyH_read (i := 7) (oi := { dst := some 28, op := Go.Op.load 3 (Go.Operand.tmp 27), type := 3, pos := "ref.go:52", after := #[{ on := 6, ground := Go.Ground.data }], guard := none }) ?_ rfl (by kernel_rfl) (by kernel_rfl) (by kernel_rfl) (fun _ _ _ h => h) (by rfl) (by assumption) ?_ ?_
        rotate_left
        · (intro w0 hS0; obtain ⟨s0, s1, s2⟩ := HX4.out w0 hS0; go_simp <;> (try with_reducible rfl))
        try simp only [Act.put, List.setIfInBounds_toArray, List.set_cons_zero, List.set_cons_succ]
        refine wpAnyH_one (i := 2) (o := { dst := some 23, op := Go.Op.call { callee := Go.Callee.value (Go.Operand.func 22), args := #[Go.Operand.tmp 21, Go.Operand.tmp 22, Go.Operand.const (Go.Value.bool false)], argTypes := #[29, 3, 4] }, type := 30, pos := "ref.go:52", after := #[{ on := 0, ground := Go.Ground.data }, { on := 1, ground := Go.Ground.data }], guard := none }) (by kernel_rfl) rfl (by rfl) (fun K hK => ?_)
        go_simp
        refine (HOf.out _ (Fr.refl _ w1).drew).mono ?_
        rintro e9 V1 ⟨⟨vS, S, rfl, ho, hp, _⟩, b1⟩
        obtain ⟨A9, c9, rfl⟩ := row_slice ho
        have hSl : (S.map (·.B)).length = cnt := by rw [List.length_map, hp.length_eq]; exact HCn.out
        rw [hSl]
        have F2 : Hid (Fr (fun _ => False) w1 V1) := Lib.hid (((Fr.refl _ w1).drew).trans (Fr.of_below b1))
        clear b1 ho hp hSl
        refine hK.out _ _ ?_ (fun hHeld => ?_)
        · exact F2.out
        clear hK K
        try simp only [Act.put, List.setIfInBounds_toArray, List.set_cons_zero, List.set_cons_succ]
        refine wpAnyH_read (i := 3) (oi := { dst := some 24, op := Go.Op.call { callee := Go.Callee.builtin Go.Builtin.len, args := #[Go.Operand.tmp 23], argTypes := #[30] }, type := 3, pos := "ref.go:52", after := #[{ on := 2, ground := Go.Ground.data }], guard := none }) ?_ rfl (by kernel_rfl) (by kernel_rfl) (by kernel_rfl) (fun _ _ _ h => h) (by rfl) (by assumption) ?_ ?_
        rotate_left
        · (intro w0 hS0; go_simp <;> (try with_reducible rfl))
        try simp only [Act.put, List.setIfInBounds_toArray, List.set_cons_zero, List.set_cons_succ]
        refine wpAnyH_read (i := 8) (oi := { dst := some 29, op := Go.Op.binOp Go.BinOp.geq 3 (Go.Operand.tmp 24) (Go.Operand.tmp 28) 3, type := 4, pos := "ref.go:52", after := #[{ on := 3, ground := Go.Ground.data }, { on := 7, ground := Go.Ground.data }], guard := none }) ?_ rfl (by kernel_rfl) (by kernel_rfl) (by kernel_rfl) (fun _ _ _ h => h) (by rfl) (by assumption) ?_ ?_
        rotate_left
        · (intro w0 hS0; go_simp <;> (try with_reducible rfl))
        try simp only [Act.put, List.setIfInBounds_toArray, List.set_cons_zero, List.set_cons_succ]
        refine wpAnyH_read (i := 9) (oi := { dst := some 30, op := Go.Op.move (Go.Operand.tmp 29), type := 4, pos := "ref.go:52", after := #[{ on := 8, ground := Go.Ground.data }, { on := 2, ground := Go.Ground.chain }], guard := none }) ?_ rfl (by kernel_rfl) (by kernel_rfl) (by kernel_rfl) (fun _ _ _ h => h) (by rfl) (by assumption) ?_ ?_
        rotate_left
        · (intro w0 hS0; go_simp <;> (try with_reducible rfl))
        try simp only [Act.put, List.setIfInBounds_toArray, List.set_cons_zero, List.set_cons_succ]
        refine wpAnyH_read (i := 10) (oi := { dst := some 31, op := Go.Op.move (Go.Operand.tmp 8), type := 40, pos := "ref.go:52", after := #[{ on := 9, ground := Go.Ground.guard }], guard := some (9, false) }) ?_ rfl (by kernel_rfl) (by kernel_rfl) (by kernel_rfl) (fun _ _ _ h => h) (by rfl) (by assumption) ?_ ?_
        rotate_left
        · (intro w0 hS0; go_simp <;> (try with_reducible rfl))
        try simp only [Act.put, List.setIfInBounds_toArray, List.set_cons_zero, List.set_cons_succ]
        refine wpAnyH_read (i := 11) (oi := { dst := some 32, op := Go.Op.binOp Go.BinOp.eql 40 (Go.Operand.tmp 31) (Go.Operand.const (Go.Value.pointer none)) 40, type := 4, pos := "ref.go:52", after := #[{ on := 10, ground := Go.Ground.data }, { on := 9, ground := Go.Ground.guard }], guard := some (9, false) }) ?_ rfl (by kernel_rfl) (by kernel_rfl) (by kernel_rfl) (fun _ _ _ h => h) (by rfl) (by assumption) ?_ ?_
        rotate_left
        · (intro w0 hS0; go_simp <;> (try with_reducible rfl))
        try simp only [Act.put, List.setIfInBounds_toArray, List.set_cons_zero, List.set_cons_succ]
        refine wpAnyH_read (i := 12) (oi := { dst := some 33, op := Go.Op.move (Go.Operand.tmp 32), type := 4, pos := "ref.go:52", after := #[{ on := 11, ground := Go.Ground.data }, { on := 9, ground := Go.Ground.chain }, { on := 9, ground := Go.Ground.guard }], guard := some (9, false) }) ?_ rfl (by kernel_rfl) (by kernel_rfl) (by kernel_rfl) (fun _ _ _ h => h) (by rfl) (by assumption) ?_ ?_
        rotate_left
        · (intro w0 hS0; go_simp <;> (try with_reducible rfl))
        try simp only [Act.put, List.setIfInBounds_toArray, List.set_cons_zero, List.set_cons_succ]
        refine wpAnyH_read (i := 13) (oi := { dst := some 34, op := Go.Op.move (Go.Operand.tmp 0), type := 29, pos := "ref.go:52", after := #[{ on := 12, ground := Go.Ground.guard }], guard := some (12, true) }) ?_ rfl (by kernel_rfl) (by kernel_rfl) (by kernel_rfl) (fun _ _ _ h => h) (by rfl) (by assumption) ?_ ?_
        rotate_left
        · (intro w0 hS0; go_simp <;> (try with_reducible rfl))
        try simp only [Act.put, List.setIfInBounds_toArray, List.set_cons_zero, List.set_cons_succ]
        refine wpAnyH_read (i := 14) (oi := { dst := some 35, op := Go.Op.nilCheck (Go.Operand.tmp 34), type := 0, pos := "ref.go:52", after := #[{ on := 13, ground := Go.Ground.data }, { on := 12, ground := Go.Ground.guard }], guard := some (12, true) }) ?_ rfl (by kernel_rfl) (by kernel_rfl) (by kernel_rfl) (fun _ _ _ h => h) (by rfl) (by assumption) ?_ ?_
        rotate_left
        · (intro w0 hS0; go_simp <;> (try with_reducible rfl))
        try simp only [Act.put, List.setIfInBounds_toArray, List.set_cons_zero, List.set_cons_succ]
        refine wpAnyH_read (i := 15) (oi := { dst := some 36, op := Go.Op.fieldAddr 32 (Go.Operand.tmp 35) 3, type := 0, pos := "ref.go:52", after := #[{ on := 14, ground := Go.Ground.data }, { on := 12, ground := Go.Ground.guard }], guard := some (12, true) }) ?_ rfl (by kernel_rfl) (by kernel_rfl) (by kernel_rfl) (fun _ _ _ h => h) (by rfl) (by assumption) ?_ ?_
        rotate_left
        · (intro w0 hS0; go_simp <;> (try with_reducible rfl))
        try simp only [Act.put, List.setIfInBounds_toArray, List.set_cons_zero, List.set_cons_succ]
        refine wpAnyH_read (i := 18) (oi := { dst := some 39, op := Go.Op.move (Go.Operand.tmp 0), type := 29, pos := "ref.go:52", after := #[{ on := 12, ground := Go.Ground.guard }], guard := some (12, true) }) ?_ rfl (by kernel_rfl) (by kernel_rfl) (by kernel_rfl) (fun _ _ _ h => h) (by rfl) (by assumption) ?_ ?_
        rotate_left
        · (intro w0 hS0; go_simp <;> (try with_reducible rfl))
        try simp only [Act.put, List.setIfInBounds_toArray, List.set_cons_zero, List.set_cons_succ]
        refine wpAnyH_read (i := 19) (oi := { dst := some 40, op := Go.Op.nilCheck (Go.Operand.tmp 39), type := 0, pos := "ref.go:52", after := #[{ on := 18, ground := Go.Ground.data }, { on := 12, ground := Go.Ground.guard }], guard := some (12, true) }) ?_ rfl (by kernel_rfl) (by kernel_rfl) (by kernel_rfl) (fun _ _ _ h => h) (by rfl) (by assumption) ?_ ?_
        rotate_left
        · (intro w0 hS0; go_simp <;> (try with_reducible rfl))
        try simp only [Act.put, List.setIfInBounds_toArray, List.set_cons_zero, List.set_cons_succ]
        refine wpAnyH_read (i := 20) (oi := { dst := some 41, op := Go.Op.fieldAddr 32 (Go.Operand.tmp 40) 0, type := 0, pos := "ref.go:52", after := #[{ on := 19, ground := Go.Ground.data }, { on := 12, ground := Go.Ground.guard }], guard := some (12, true) }) ?_ rfl (by kernel_rfl) (by kernel_rfl) (by kernel_rfl) (fun _ _ _ h => h) (by rfl) (by assumption) ?_ ?_
        rotate_left
        · (intro w0 hS0; go_simp <;> (try with_reducible rfl))
        try simp only [Act.put, List.setIfInBounds_toArray, List.set_cons_zero, List.set_cons_succ]
        refine wpAnyH_read (i := 16) (oi := { dst := some 37, op := Go.Op.load 30 (Go.Operand.tmp 36), type := 30, pos := "ref.go:52", after := #[{ on := 15, ground := Go.Ground.data }, { on := 12, ground := Go.Ground.guard }], guard := some (12, true) }) ?_ rfl (by kernel_rfl) (by kernel_rfl) (by kernel_rfl) (fun _ _ _ h => h) (by rfl) (by assumption) ?_ ?_
        rotate_left
        · (intro w0 hS0; obtain ⟨s0, s1, s2⟩ := HX4.out w0 hS0; go_simp <;> (try with_reducible rfl))
        try simp only [Act.put, List.setIfInBounds_toArray, List.set_cons_zero, List.set_cons_succ]
        refine wpAnyH_read (i := 17) (oi := { dst := some 38, op := Go.Op.call { callee := Go.Callee.builtin Go.Builtin.len, args := #[Go.Operand.tmp 37], argTypes := #[30] }, type := 3, pos := "ref.go:52", after := #[{ on := 16, ground := Go.Ground.data }, { on := 12, ground := Go.Ground.guard }], guard := some (12, true) }) ?_ rfl (by kernel_rfl) (by kernel_rfl) (by kernel_rfl) (fun _ _ _ h => h) (by rfl) (by assumption) ?_ ?_
        rotate_left
        · (intro w0 hS0; go_simp <;> (try with_reducible rfl))
        try simp only [Act.put, List.setIfInBounds_toArray, List.set_cons_zero, List.set_cons_succ]
        refine wpAnyH_read (i := 21) (oi := { dst := some 42, op := Go.Op.load 3 (Go.Operand.tmp 41), type := 3, pos := "ref.go:52", after := #[{ on := 20, ground := Go.Ground.data }, { on := 12, ground := Go.Ground.guard }], guard := some (12, true) }) ?_ rfl (by kernel_rfl) (by kernel_rfl) (by kernel_rfl) (fun _ _ _ h => h) (by rfl) (by assumption) ?_ ?_
        rotate_left
        · (intro w0 hS0; obtain ⟨s0, s1, s2⟩ := HX4.out w0 hS0; go_simp <;> (try with_reducible rfl))
        try simp only [Act.put, List.setIfInBounds_toArray, List.set_cons_zero, List.set_cons_succ]
        refine wpAnyH_read (i := 22) (oi := { dst := some 43, op := Go.Op.binOp Go.BinOp.geq 3 (Go.Operand.tmp 38) (Go.Operand.tmp 42) 3, type := 4, pos := "ref.go:52", after := #[{ on := 17, ground := Go.Ground.data }, { on := 21, ground := Go.Ground.data }, { on := 12, ground := Go.Ground.guard }], guard := some (12, true) }) ?_ rfl (by kernel_rfl) (by kernel_rfl) (by kernel_rfl) (fun _ _ _ h => h) (by rfl) (by assumption) ?_ ?_
        rotate_left
        · (intro w0 hS0; go_simp <;> (try with_reducible rfl))
        try simp only [Act.put, List.setIfInBounds_toArray, List.set_cons_zero, List.set_cons_succ]
        refine wpAnyH_read (i := 23) (oi := { dst := some 44, op := Go.Op.pick (Go.Operand.tmp 33) (Go.Operand.tmp 43) (Go.Operand.const (Go.Value.bool false)), type := 4, pos := "ref.go:52", after := #[{ on := 12, ground := Go.Ground.data }, { on := 22, ground := Go.Ground.data }, { on := 9, ground := Go.Ground.guard }], guard := some (9, false) }) ?_ rfl (by kernel_rfl) (by kernel_rfl) (by kernel_rfl) (fun _ _ _ h => h) (by rfl) (by assumption) ?_ ?_
        rotate_left
        · (intro w0 hS0; go_simp <;> (try with_reducible rfl))
        try simp only [Act.put, List.setIfInBounds_toArray, List.set_cons_zero, List.set_cons_succ]
        refine wpAnyH_read (i := 24) (oi := { dst := some 45, op := Go.Op.pick (Go.Operand.tmp 30) (Go.Operand.const (Go.Value.bool true)) (Go.Operand.tmp 44), type := 4, pos := "ref.go:52", after := #[{ on := 9, ground := Go.Ground.data }, { on := 23, ground := Go.Ground.data }], guard := none }) ?_ rfl (by kernel_rfl) (by kernel_rfl) (by kernel_rfl) (fun _ _ _ h => h) (by rfl) (by assumption) ?_ ?_
        rotate_left
        · (intro w0 hS0; go_simp <;> (try with_reducible rfl))
        try simp only [Act.put, List.setIfInBounds_toArray, List.set_cons_zero, List.set_cons_succ]
        refine wpAnyH_done (by kernel_rfl) ?_ _
        go_wp2_with fail
        (try go_ret2)
        rw [← HR.out]
        obtain ⟨h1, b1⟩ := H1.out
        exact .inr (.inl ⟨(fun f2 h5 => by rw [HX.out] at h5; cases h5), .inr ⟨HX.out, hm⟩, rfl, (H.out.1.to b1).then (F2.out.below (Nat.le_refl _) fun _ _ e => e.elim)⟩)
      · have hm2 : decide (mr ≤ (E.length : Int)) = false := by simp; omega
        go_wp2_with fail
        refine wp_region_held_drew (S := fun W => Fr (fun _ => False) w1 W) (by kernel_rfl) (by exact (Fr.refl _ w1).drew) (fun hHeld => ?_)
        refine wpAnyH_read (i := 0) (oi := { dst := some 21, op := Go.Op.move (Go.Operand.tmp 0), type := 29, pos := "ref.go:52", after := #[], guard := none }) ?_ rfl (by kernel_rfl) (by kernel_rfl) (by kernel_rfl) (fun _ _ _ h => h) (by rfl) (by assumption) ?_ ?_
        rotate_left
        · (intro w0 hS0; go_simp <;> (try with_reducible rfl))
        try simp only [Act.put, List.setIfInBounds_toArray, List.set_cons_zero, List.set_cons_succ]
        refine wpAnyH_read (i := 1) (oi := { dst := some 22, op := Go.Op.move (Go.Operand.tmp 1), type := 3, pos := "ref.go:52", after := #[], guard := none }) ?_ rfl (by kernel_rfl) (by kernel_rfl) (by kernel_rfl) (fun _ _ _ h => h) (by rfl) (by assumption) ?_ ?_
        rotate_left
        · (intro w0 hS0; go_simp <;> (try with_reducible rfl))
        try simp only [Act.put, List.setIfInBounds_toArray, List.set_cons_zero, List.set_cons_succ]
        refine wpAnyH_read (i := 4) (oi := { dst := some 25, op := Go.Op.move (Go.Operand.tmp 0), type := 29, pos := "ref.go:52", after := #[], guard := none }) ?_ rfl (by kernel_rfl) (by kernel_rfl) (by kernel_rfl) (fun _ _ _ h => h) (by rfl) (by assumption) ?_ ?_
        rotate_left
        · (intro w0 hS0; go_simp <;> (try with_reducible rfl))
        try simp only [Act.put, List.setIfInBounds_toArray, List.set_cons_zero, List.set_cons_succ]
        refine wpAnyH_read (i := 5) (oi := { dst := some 26, op := Go.Op.nilCheck (Go.Operand.tmp 25), type := 0, pos := "ref.go:52", after := #[{ on := 4, ground := Go.Ground.data }], guard := none }) ?_ rfl (by kernel_rfl) (by kernel_rfl) (by kernel_rfl) (fun _ _ _ h => h) (by rfl) (by assumption) ?_ ?_
        rotate_left
        · (intro w0 hS0; go_simp <;> (try with_reducible rfl))
        try simp only [Act.put, List.setIfInBounds_toArray, List.set_cons_zero, List.set_cons_succ]
        refine wpAnyH_read (i := 6) (oi := { dst := some 27, op := Go.Op.fieldAddr 32 (Go.Operand.tmp 26) 1, type := 0, pos := "ref.go:52", after := #[{ on := 5, ground := Go.Ground.data }], guard := none }) ?_ rfl (by kernel_rfl) (by kernel_rfl) (by kernel_rfl) (fun _ _ _ h => h) (by rfl) (by assumption) ?_ ?_
        rotate_left
        · (intro w0 hS0; go_simp <;> (try with_reducible rfl))
        try simp only [Act.put, List.setIfInBounds_toArray, List.set_cons_zero, List.set_cons_succ]
        refine wpAnyH_read (i := 7) (oi := { dst := some 28, op := Go.Op.load 3 (Go.Operand.tmp 27), type := 3, pos := "ref.go:52", after := #[{ on := 6, ground := Go.Ground.data }], guard := none }) ?_ rfl (by kernel_rfl) (by kernel_rfl) (by kernel_rfl) (fun _ _ _ h => h) (by rfl) (by assumption) ?_ ?_
        rotate_left
        · (intro w0 hS0; obtain ⟨s0, s1, s2⟩ := HX4.out w0 hS0; go_simp <;> (try with_reducible rfl))
        try simp only [Act.put, List.setIfInBounds_toArray, List.set_cons_zero, List.set_cons_succ]
        refine wpAnyH_one (i := 2) (o := { dst := some 23, op := Go.Op.call { callee := Go.Callee.value (Go.Operand.func 22), args := #[Go.Operand.tmp 21, Go.Operand.tmp 22, Go.Operand.const (Go.Value.bool false)], argTypes := #[29, 3, 4] }, type := 30, pos := "ref.go:52", after := #[{ on := 0, ground := Go.Ground.data }, { on := 1, ground := Go.Ground.data }], guard := none }) (by kernel_rfl) rfl (by rfl) (fun K hK => ?_)
        go_simp
        refine (HOf.out _ (Fr.refl _ w1).drew).mono ?_
        rintro e9 V1 ⟨⟨vS, S, rfl, ho, hp, _⟩, b1⟩
        obtain ⟨A9, c9, rfl⟩ := row_slice ho
        have hSl : (S.map (·.B)).length = cnt := by rw [List.length_map, hp.length_eq]; exact HCn.out
        rw [hSl]
        have F2 : Hid (Fr (fun _ => False) w1 V1) := Lib.hid (((Fr.refl _ w1).drew).trans (Fr.of_below b1))
        clear b1 ho hp hSl
        refine hK.out _ _ ?_ (fun hHeld => ?_)
        · exact F2.out
        clear hK K
        try simp only [Act.put, List.setIfInBounds_toArray, List.set_cons_zero, List.set_cons_succ]
        refine wpAnyH_read (i := 3) (oi := { dst := some 24, op := Go.Op.call { callee := Go.Callee.builtin Go.Builtin.len, args := #[Go.Operand.tmp 23], argTypes := #[30] }, type := 3, pos := "ref.go:52", after := #[{ on := 2, ground := Go.Ground.data }], guard := none }) ?_ rfl (by kernel_rfl) (by kernel_rfl) (by kernel_rfl) (fun _ _ _ h => h) (by rfl) (by assumption) ?_ ?_
        rotate_left
        · (intro w0 hS0; go_simp <;> (try with_reducible rfl))
        try simp only [Act.put, List.setIfInBounds_toArray, List.set_cons_zero, List.set_cons_succ]
        refine wpAnyH_read (i := 8) (oi := { dst := some 29, op := Go.Op.binOp Go.BinOp.geq 3 (Go.Operand.tmp 24) (Go.Operand.tmp 28) 3, type := 4, pos := "ref.go:52", after := #[{ on := 3, ground := Go.Ground.data }, { on := 7, ground := Go.Ground.data }], guard := none }) ?_ rfl (by kernel_rfl) (by kernel_rfl) (by kernel_rfl) (fun _ _ _ h => h) (by rfl) (by assumption) ?_ ?_
        rotate_left
        · (intro w0 hS0; go_simp <;> (try with_reducible rfl))
        try simp only [Act.put, List.setIfInBounds_toArray, List.set_cons_zero, List.set_cons_succ]
        refine wpAnyH_read (i := 9) (oi := { dst := some 30, op := Go.Op.move (Go.Operand.tmp 29), type := 4, pos := "ref.go:52", after := #[{ on := 8, ground := Go.Ground.data }, { on := 2, ground := Go.Ground.chain }], guard := none }) ?_ rfl (by kernel_rfl) (by kernel_rfl) (by kernel_rfl) (fun _ _ _ h => h) (by rfl) (by assumption) ?_ ?_
        rotate_left
        · (intro w0 hS0; go_simp <;> (try with_reducible rfl))
        try simp only [Act.put, List.setIfInBounds_toArray, List.set_cons_zero, List.set_cons_succ]
        refine wpAnyH_read (i := 10) (oi := { dst := some 31, op := Go.Op.move (Go.Operand.tmp 8), type := 40, pos := "ref.go:52", after := #[{ on := 9, ground := Go.Ground.guard }], guard := some (9, false) }) ?_ rfl (by kernel_rfl) (by kernel_rfl) (by kernel_rfl) (fun _ _ _ h => h) (by rfl) (by assumption) ?_ ?_
        rotate_left
        · (intro w0 hS0; go_simp <;> (try with_reducible rfl))
        try simp only [Act.put, List.setIfInBounds_toArray, List.set_cons_zero, List.set_cons_succ]
        refine wpAnyH_read (i := 11) (oi := { dst := some 32, op := Go.Op.binOp Go.BinOp.eql 40 (Go.Operand.tmp 31) (Go.Operand.const (Go.Value.pointer none)) 40, type := 4, pos := "ref.go:52", after := #[{ on := 10, ground := Go.Ground.data }, { on := 9, ground := Go.Ground.guard }], guard := some (9, false) }) ?_ rfl (by kernel_rfl) (by kernel_rfl) (by kernel_rfl) (fun _ _ _ h => h) (by rfl) (by assumption) ?_ ?_
        rotate_left
        · (intro w0 hS0; go_simp <;> (try with_reducible rfl))
        try simp only [Act.put, List.setIfInBounds_toArray, List.set_cons_zero, List.set_cons_succ]
        refine wpAnyH_read (i := 12) (oi := { dst := some 33, op := Go.Op.move (Go.Operand.tmp 32), type := 4, pos := "ref.go:52", after := #[{ on := 11, ground := Go.Ground.data }, { on := 9, ground := Go.Ground.chain }, { on := 9, ground := Go.Ground.guard }], guard := some (9, false) }) ?_ rfl (by kernel_rfl) (by kernel_rfl) (by kernel_rfl) (fun _ _ _ h => h) (by rfl) (by assumption) ?_ ?_
        rotate_left
        · (intro w0 hS0; go_simp <;> (try with_reducible rfl))
        try simp only [Act.put, List.setIfInBounds_toArray, List.set_cons_zero, List.set_cons_succ]
        refine wpAnyH_read (i := 13) (oi := { dst := some 34, op := Go.Op.move (Go.Operand.tmp 0), type := 29, pos := "ref.go:52", after := #[{ on := 12, ground := Go.Ground.guard }], guard := some (12, true) }) ?_ rfl (by kernel_rfl) (by kernel_rfl) (by kernel_rfl) (fun _ _ _ h => h) (by rfl) (by assumption) ?_ ?_
        rotate_left
        · (intro w0 hS0; go_simp <;> (try with_reducible rfl))
        try simp only [Act.put, List.setIfInBounds_toArray, List.set_cons_zero, List.set_cons_succ]
        refine wpAnyH_read (i := 14) (oi := { dst := some 35, op := Go.Op.nilCheck (Go.Operand.tmp 34), type := 0, pos := "ref.go:52", after := #[{ on := 13, ground := Go.Ground.data }, { on := 12, ground := Go.Ground.guard }], guard := some (12, true) }) ?_ rfl (by kernel_rfl) (by kernel_rfl) (by kernel_rfl) (fun _ _ _ h => h) (by rfl) (by assumption) ?_ ?_
        rotate_left
        · (intro w0 hS0; go_simp <;> (try with_reducible rfl))
        try simp only [Act.put, List.setIfInBounds_toArray, List.set_cons_zero, List.set_cons_succ]
        refine wpAnyH_read (i := 15) (oi := { dst := some 36, op := Go.Op.fieldAddr 32 (Go.Operand.tmp 35) 3, type := 0, pos := "ref.go:52", after := #[{ on := 14, ground := Go.Ground.data }, { on := 12, ground := Go.Ground.guard }], guard := some (12, true) }) ?_ rfl (by kernel_rfl) (by kernel_rfl) (by kernel_rfl) (fun _ _ _ h => h) (by rfl) (by assumption) ?_ ?_
        rotate_left
        · (intro w0 hS0; go_simp <;> (try with_reducible rfl))
        try simp only [Act.put, List.setIfInBounds_toArray, List.set_cons_zero, List.set_cons_succ]
        refine wpAnyH_read (i := 18) (oi := { dst := some 39, op := Go.Op.move (Go.Operand.tmp 0), type := 29, pos := "ref.go:52", after := #[{ on := 12, ground := Go.Ground.guard }], guard := some (12, true) }) ?_ rfl (by kernel_rfl) (by kernel_rfl) (by kernel_rfl) (fun _ _ _ h => h) (by rfl) (by assumption) ?_ ?_
        rotate_left
        · (intro w0 hS0; go_simp <;> (try with_reducible rfl))
        try simp only [Act.put, List.setIfInBounds_toArray, List.set_cons_zero, List.set_cons_succ]
        refine wpAnyH_read (i := 19) (oi := { dst := some 40, op := Go.Op.nilCheck (Go.Operand.tmp 39), type := 0, pos := "ref.go:52", after := #[{ on := 18, ground := Go.Ground.data }, { on := 12, ground := Go.Ground.guard }], guard := some (12, true) }) ?_ rfl (by kernel_rfl) (by kernel_rfl) (by kernel_rfl) (fun _ _ _ h => h) (by rfl) (by assumption) ?_ ?_
        rotate_left
        · (intro w0 hS0; go_simp <;> (try with_reducible rfl))
        try simp only [Act.put, List.setIfInBounds_toArray, List.set_cons_zero, List.set_cons_succ]
        refine wpAnyH_read (i := 20) (oi := { dst := some 41, op := Go.Op.fieldAddr 32 (Go.Operand.tmp 40) 0, type := 0, pos := "ref.go:52", after := #[{ on := 19, ground := Go.Ground.data }, { on := 12, ground := Go.Ground.guard }], guard := some (12, true) }) ?_ rfl (by kernel_rfl) (by kernel_rfl) (by kernel_rfl) (fun _ _ _ h => h) (by rfl) (by assumption) ?_ ?_
        rotate_left
        · (intro w0 hS0; go_simp <;> (try with_reducible rfl))
        try simp only [Act.put, List.setIfInBounds_toArray, List.set_cons_zero, List.set_cons_succ]
        refine wpAnyH_read (i := 16) (oi := { dst := some 37, op := Go.Op.load 30 (Go.Operand.tmp 36), type := 30, pos := "ref.go:52", after := #[{ on := 15, ground := Go.Ground.data }, { on := 12, ground := Go.Ground.guard }], guard := some (12, true) }) ?_ rfl (by kernel_rfl) (by kernel_rfl) (by kernel_rfl) (fun _ _ _ h => h) (by rfl) (by assumption) ?_ ?_
        rotate_left
        · (intro w0 hS0; obtain ⟨s0, s1, s2⟩ := HX4.out w0 hS0; go_simp <;> (try with_reducible rfl))
        try simp only [Act.put, List.setIfInBounds_toArray, List.set_cons_zero, List.set_cons_succ]
        refine wpAnyH_read (i := 17) (oi := { dst := some 38, op := Go.Op.call { callee := Go.Callee.builtin Go.Builtin.len, args := #[Go.Operand.tmp 37], argTypes := #[30] }, type := 3, pos := "ref.go:52", after := #[{ on := 16, ground := Go.Ground.data }, { on := 12, ground := Go.Ground.guard }], guard := some (12, true) }) ?_ rfl (by kernel_rfl) (by kernel_rfl) (by kernel_rfl) (fun _ _ _ h => h) (by rfl) (by assumption) ?_ ?_
        rotate_left
        · (intro w0 hS0; go_simp <;> (try with_reducible rfl))
        try simp only [Act.put, List.setIfInBounds_toArray, List.set_cons_zero, List.set_cons_succ]
        refine wpAnyH_read (i := 21) (oi := { dst := some 42, op := Go.Op.load 3 (Go.Operand.tmp 41), type := 3, pos := "ref.go:52", after := #[{ on := 20, ground := Go.Ground.data }, { on := 12, ground := Go.Ground.guard }], guard := some (12, true) }) ?_ rfl (by kernel_rfl) (by kernel_rfl) (by kernel_rfl) (fun _ _ _ h => h) (by rfl) (by assumption) ?_ ?_
        rotate_left
        · (intro w0 hS0; obtain ⟨s0, s1, s2⟩ := HX4.out w0 hS0; go_simp <;> (try with_reducible rfl))
        try simp only [Act.put, List.setIfInBounds_toArray, List.set_cons_zero, List.set_cons_succ]
        refine wpAnyH_read (i := 22) (oi := { dst := some 43, op := Go.Op.binOp Go.BinOp.geq 3 (Go.Operand.tmp 38) (Go.Operand.tmp 42) 3, type := 4, pos := "ref.go:52", after := #[{ on := 17, ground := Go.Ground.data }, { on := 21, ground := Go.Ground.data }, { on := 12, ground := Go.Ground.guard }], guard := some (12, true) }) ?_ rfl (by kernel_rfl) (by kernel_rfl) (by kernel_rfl) (fun _ _ _ h => h) (by rfl) (by assumption) ?_ ?_
        rotate_left
        · (intro w0 hS0; go_simp <;> (try with_reducible rfl))
        try simp only [Act.put, List.setIfInBounds_toArray, List.set_cons_zero, List.set_cons_succ]
        refine wpAnyH_read (i := 23) (oi := { dst := some 44, op := Go.Op.pick (Go.Operand.tmp 33) (Go.Operand.tmp 43) (Go.Operand.const (Go.Value.bool false)), type := 4, pos := "ref.go:52", after := #[{ on := 12, ground := Go.Ground.data }, { on := 22, ground := Go.Ground.data }, { on := 9, ground := Go.Ground.guard }], guard := some (9, false) }) ?_ rfl (by kernel_rfl) (by kernel_rfl) (by kernel_rfl) (fun _ _ _ h => h) (by rfl) (by assumption) ?_ ?_
        rotate_left
        · (intro w0 hS0; go_simp <;> (try with_reducible rfl))
        try simp only [Act.put, List.setIfInBounds_toArray, List.set_cons_zero, List.set_cons_succ]
        refine wpAnyH_read (i := 24) (oi := { dst := some 45, op := Go.Op.pick (Go.Operand.tmp 30) (Go.Operand.const (Go.Value.bool true)) (Go.Operand.tmp 44), type := 4, pos := "ref.go:52", after := #[{ on := 9, ground := Go.Ground.data }, { on := 23, ground := Go.Ground.data }], guard := none }) ?_ rfl (by kernel_rfl) (by kernel_rfl) (by kernel_rfl) (fun _ _ _ h => h) (by rfl) (by assumption) ?_ ?_
        rotate_left
        · (intro w0 hS0; go_simp <;> (try with_reducible rfl))
        try simp only [Act.put, List.setIfInBounds_toArray, List.set_cons_zero, List.set_cons_succ]
        refine wpAnyH_done (by kernel_rfl) ?_ _
        rename World => V2
        obtain ⟨h1, b1⟩ := H1.out
        have h2 := h1.fr F2.out fun _ _ e => e
        have o2 : Onto C C w V2 := (Onto.of_below C b1).trans ⟨fun _ _ => rfl, F2.out.mono fun _ _ e => e.elim⟩
        have c2 := blk_cell h2.self 2
        have HN := Lib.hid (refNew_any nm mb V2)
        have H2 := Lib.hid (And.intro h2 o2)
        clear h1 b1 h2 o2
        go_wp2_with fail
        refine HN.out.mono ?_
        rintro e9 w3 ⟨B, q, rfl, hx3, b3⟩
        have HAd := Lib.hid (refAdd_any hx3 id true (by show ([] : List Mem).length ≤ _; simp) (by show ([] : List Int).length ≤ _; simp))
        have H3 := Lib.hid (And.intro hx3 b3)
        clear hx3 b3 HN c2
        go_wp2_with fail
        refine HAd.out.mono ?_
        rintro e9 w4 ⟨⟨v9, rfl⟩, ⟨q4, hx4, f4, k4⟩⟩
        obtain ⟨h2, o2⟩ := H2.out
        obtain ⟨hx3, b3⟩ := H3.out
        have b4 : RowKit.Below V2.heap.size V2 w4 := b3.trans (f4.below b3.size fun k hk e9 => (hx3.lt k e9).1)
        have h4 := h2.below b4
        have hv4 := h4.row
        rw [HV.out] at hv4
        have hor : w4.ownsRow base 40 1 (.slice A E.length c) E.length ((E.map (·.B)).map encPr) := by
          have := hv4; unfold OwnPd at this; rwa [List.length_map] at this
        obtain ⟨A1, c1, A2, c2, W2, W3, hr1, hr2, r3, g2, g3⟩ := snoc_runs (P := Tryz.prog) 30 i0 (.pointer none) 8 Tryz.underlying30 hi0 hz0 hz1 hz2 rfl (by decide) hor (fun u hu => by obtain ⟨y, _, rfl⟩ := List.mem_map.1 hu; rfl) (by omega) (by decide) #[.pointer (some ⟨B, 0, none⟩)] rfl (by intro u hu; simp at hu; subst hu; rfl)
        have cR0 := blk_cell h4.self 3
        rw [HV.out] at cR0
        have cRa : ∀ o, (w4.alloc o).cell? ⟨R, 3, none⟩ = some (.slice A E.length c) := fun o => ((((Fr.refl (fun _ => False) w4).alloc o).cell (p := ⟨R, 3, none⟩) (blk_lt h4.self) fun e => e)).trans cR0
        have cR1 := cRa (.cells #[] 40)
        have kR := g3.blk h4.self fun e => e
        have cR3 := blk_cell kR 3
        have dR3 := blk_free kR 3
        have hnk : foldL nm ∉ E.map keyD := getD_none HX.out
        have hown3 : OwnPd w4.heap.size W3 (.slice A2 (E.length + 1) c2) ((E ++ [(⟨B, q4, addX (rx0 nm mb) id true⟩ : RdE)]).map (·.B)) := by
          unfold OwnPd
          rw [List.map_append, List.length_append, List.length_map, List.map_append]
          exact r3
        obtain ⟨W5, hW5⟩ : ∃ W5, W3.setCell ⟨R, 3, none⟩ (.slice A2 (E.length + 1) c2) = W5 := ⟨_, rfl⟩
        have hne : (Value.slice A2 (E.length + 1) c2).ownBlock ≠ some R := fun e9 => by have := (hown3.lt R e9).1; have := blk_lt h4.self; omega
        have f5 : Fr (fun k => k = R) w4 W5 := by rw [← hW5]; exact (g3.mono (Y := fun k => k = R) fun _ _ e => e.elim).setCell ⟨R, 3, none⟩ rfl _
        have kR5 : W5.heap[R]? = some (rdO mr mj mb (.slice A2 (E.length + 1) c2)) := by rw [← hW5]; exact blk_set kR 3 _
        have ho5 : OwnPd w4.heap.size W5 (.slice A2 (E.length + 1) c2) ((E ++ [(⟨B, q4, addX (rx0 nm mb) id true⟩ : RdE)]).map (·.B)) := by
          rw [← hW5]; exact ownPd_kept hown3 fun g hg => heap_setCell_other W3 _ g _ fun e9 => by simp at e9; exact hne (e9 ▸ hg)
        obtain ⟨C', h8, o8⟩ := h2.newTo hx4 b4 (by rw [addX_nm]; exact hnk) (ownPd_base ho5 h4.base_le) (fun k hk => (hown3.lt k hk).1) kR5 f5
        have HQ := Lib.hid (And.intro h8 (And.intro (o2.trans o8) hW5))
        have HR2 := Lib.hid hr2
        clear h2 o2 hx3 b3 hx4 f4 k4 b4 h4 hv4 hor r3 g2 g3 cR0 kR hnk hown3 hne f5 kR5 ho5 h8 o8 hW5 HAd cRa hr2
        go_wp2_with (at_builtin; refine Hid.out ?_)
        refine Lib.hid ?_
        refine wpList_app_g rfl _ _ _ _ rfl (by exact hr1) ?_
        go_wp2_with (at_builtin; refine Hid.out ?_)
        refine Lib.hid ?_
        refine wpList_app_g rfl _ _ _ _ rfl (by exact HR2.out) ?_
        go_wp2_with fail
        (try go_ret2)
        rw [← HR.out]
        obtain ⟨h8, o8, hW5⟩ := HQ.out
        (try rw [hW5])
        exact .inr (.inr (.inr ⟨HX.out, by rw [HCn.out]; omega, by omega, B, q4, rfl, _, C', h8, o8⟩))
end Go.Proofs.YtlkeomcillencaaGreat
end
