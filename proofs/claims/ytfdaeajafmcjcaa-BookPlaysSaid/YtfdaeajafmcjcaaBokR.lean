/- Layer 2: the document's book: Delete. -/
import Derived.Test.YtfdaeajafmcjcaaBokQ
namespace Go.Proofs.Ytfdaeajafmcjcaa
set_option linter.unusedVariables false
set_option linter.unusedSimpArgs false
open Go Go.RowKit Go.Maps Go.Sort Go.Shelf Go.Lib

theorem slice_entries (g o n c : Nat) (hc : n ≤ c) (i : Nat) (hi : i < n) :
    (∀ W, (Instr.slice 30 (.slice (some ⟨g, o, none⟩) n c) none (some (.int .i64 i)) none).run Try.prog W = .ok (.slice (some ⟨g, o, none⟩) i c) W) ∧
    ∃ g1 o1, (∀ W, (Instr.slice 30 (.slice (some ⟨g, o, none⟩) n c) (some (.int .i64 ((i : Int) + 1))) none none).run Try.prog W = .ok (.slice (some ⟨g1, o1, none⟩) (n - (i + 1)) (c - (i + 1))) W) ∧ (i + 1 < n → g1 = g ∧ o1 = o + (i + 1) * 2) := by
  have hu : Try.prog.underlying 30 = some (.slice (Try.prog.elem 30)) := by kernel_rfl
  obtain ⟨i0, hi0, _, hz1, _⟩ := info_parts Try.infoEU
  have ht : ((i : Int) + 1).toNat = i + 1 := by omega
  refine ⟨fun W => ?_, ?_⟩
  · rw [run_slice_h W 30 _ _ _ hu _ _ (by omega) (by omega)]
    have h3 : ¬ (c = 0) := by omega
    simp [sliced, sizeOf, hi0, hz1, go_sem, h3, add_any, typeInfo]
  · by_cases h1 : c = i + 1
    · refine ⟨g, o, fun W => ?_, fun h2 => by omega⟩
      rw [run_slice_l W 30 _ _ _ hu _ _ (by omega) (by omega)]
      simp [sliced, sizeOf, hi0, hz1, go_sem, h1, ht, typeInfo]
    · refine ⟨g, o + (i + 1) * 2, fun W => ?_, fun h2 => ⟨rfl, rfl⟩⟩
      rw [run_slice_l W 30 _ _ _ hu _ _ (by omega) (by omega)]
      have h2 : ¬ c - (i + 1) = 0 := by omega
      simp [sliced, sizeOf, hi0, hz1, go_sem, h1, h2, ht, add_any, typeInfo]
theorem ownU_of {base : Nat} {W : World} {v : Value} {xs : List (Ent VI)} {n : Nat} {cs : List Value} (h : W.ownsRow base 45 2 v n cs) (hn : n = xs.length) (hc : cs = xs.flatMap encU) : OwnU base W v xs := by
  subst hn; subst hc; exact h
theorem del_entries {base : Nat} {w : World} {A : Option Addr} {c : Nat} {T : List (Ent VI)} (h3 : OwnU base w (.slice A T.length c) T) {i : Nat} (hi : i < T.length) (hl : T.length ≤ 1000000) :
    ∃ g g1 o1 A1 c1 A2 c2 W2 W3, A = some ⟨g, 0, none⟩ ∧ T.length ≤ c ∧
      (∀ W, (Instr.slice 30 (.slice (some ⟨g, 0, none⟩) T.length c) none (some (.int .i64 i)) none).run Try.prog W = .ok (.slice (some ⟨g, 0, none⟩) i c) W) ∧
      (∀ W, (Instr.slice 30 (.slice (some ⟨g, 0, none⟩) T.length c) (some (.int .i64 ((i : Int) + 1))) none none).run Try.prog W = .ok (.slice (some ⟨g1, o1, none⟩) (T.length - (i + 1)) (c - (i + 1))) W) ∧
      (Builtin.append_ #[30, 30] 30 #[.slice (some ⟨w.heap.size, 0, none⟩) 0 0, .slice (some ⟨g, 0, none⟩) i c]).run Try.prog (w.drew.alloc (.cells #[] 45)) = .ok (.slice A1 i c1) W2 ∧
      (Builtin.append_ #[30, 30] 30 #[.slice A1 i c1, .slice (some ⟨g1, o1, none⟩) (T.length - (i + 1)) (c - (i + 1))]).run Try.prog W2 = .ok (.slice A2 (T.take i ++ T.drop (i + 1)).length c2) W3 ∧
      OwnU w.heap.size W3 (.slice A2 (T.take i ++ T.drop (i + 1)).length c2) (T.take i ++ T.drop (i + 1)) ∧ Fr (fun _ => False) w W2 ∧ Fr (fun _ => False) w W3 := by
  obtain ⟨i0, hi0, hz0, hz1, hz2⟩ := info_parts Try.infoEU
  have h3' := h3
  rcases h3.2 with ⟨_, hn⟩ | ⟨g, cap, cur, hv, hbg, hg, hnc, hcm, hcs, htake⟩
  · omega
  injection hv with q1 q2 q3
  subst q1
  subst q3
  obtain ⟨hs1, g1, o1, hs2, hg1⟩ := slice_entries g 0 T.length c hnc i hi
  obtain ⟨W1, hW1⟩ : ∃ W1, w.drew.alloc (.cells #[] 45) = W1 := ⟨_, rfl⟩
  have f1 : Fr (fun _ => False) w W1 := by rw [← hW1]; exact (Fr.refl _ w).drew.alloc _
  have z1 : W1.heap.size = w.heap.size + 1 := by rw [← hW1]; simp
  have kN : W1.heap[w.heap.size]? = some (.cells #[] 45 (0, 0)) := by rw [← hW1]; exact heap_alloc_new w.drew _
  have hown : W1.ownsRow w.heap.size 45 2 (.slice (some ⟨w.heap.size, 0, none⟩) 0 0) 0 [] := ⟨by simp, .inr ⟨w.heap.size, 0, #[], rfl, Nat.le_refl _, kN, by simp, by decide, by simp, by simp⟩⟩
  have hgl : g < w.heap.size := blk_lt hg
  have hcell : ∀ (W : World), Fr (fun _ => False) w W → ∀ j u, (T.flatMap encU)[j]? = some u → W.cell? ⟨g, 0 + j, none⟩ = some u := fun W hf j u hu => by
    rw [hf.cell (p := ⟨g, 0 + j, none⟩) hgl (fun e => e)]
    have := h3'.cells (g := g) rfl j u hu
    rwa [add_any] at this
  have hsp1 : T.flatMap encU = (T.take i).flatMap encU ++ (T.drop i).flatMap encU := by rw [← List.flatMap_append, List.take_append_drop]
  have hsp2 : T.flatMap encU = (T.take (i + 1)).flatMap encU ++ (T.drop (i + 1)).flatMap encU := by rw [← List.flatMap_append, List.take_append_drop]
  have l1 : ((T.take i).flatMap encU).length = i * 2 := by rw [encU_len, List.length_take]; omega
  have l2 : ((T.take (i + 1)).flatMap encU).length = (i + 1) * 2 := by rw [encU_len, List.length_take]; omega
  have l3 : ((T.drop (i + 1)).flatMap encU).length = (T.length - (i + 1)) * 2 := by rw [encU_len, List.length_drop]
  have src1 : Src Try.prog 2 30 (.slice (some ⟨g, 0, none⟩) i c) i ((T.take i).flatMap encU) W1 :=
    Src.ofSlice W1 Try.underlying30 ⟨g, 0, none⟩ i c _ l1 (fun j u hu => by
      rw [add_any]
      refine hcell W1 f1 j u ?_
      rw [hsp1, List.getElem?_append_left (by have := (List.getElem?_eq_some_iff.1 hu).1; omega)]
      exact hu) (encU_one _)
  obtain ⟨v1, W2, hr1, r1, r2, r3⟩ := run_app_any (P := Try.prog) W1 w.heap.size 30 30 30 45 i0 _ 2 24 Try.underlying30 hi0 hz0 hz1 hz2 rfl _ 0 [] hown _ i _ src1 (by unfold maxLen; omega) (by omega) (by omega)
  obtain ⟨A1, c1, rfl⟩ := row_slice r1
  rw [Nat.zero_add, List.nil_append] at r1
  rw [Nat.zero_add] at hr1 r3
  have f2 : Fr (fun _ => False) w W2 := f1.trans3 r2 fun k hk e => by have : w.heap.size = k := Option.some.inj e; omega
  have src2 : Src Try.prog 2 30 (.slice (some ⟨g1, o1, none⟩) (T.length - (i + 1)) (c - (i + 1))) (T.length - (i + 1)) ((T.drop (i + 1)).flatMap encU) W2 :=
    Src.ofSlice W2 Try.underlying30 ⟨g1, o1, none⟩ _ _ _ l3 (fun j u hu => by
      have hj := (List.getElem?_eq_some_iff.1 hu).1
      obtain ⟨rfl, rfl⟩ := hg1 (by omega)
      rw [add_any]
      have := hcell W2 f2 ((i + 1) * 2 + j) u (by rw [hsp2, List.getElem?_append_right (by omega), l2, Nat.add_sub_cancel_left]; exact hu)
      rwa [← Nat.add_assoc] at this) (encU_one _)
  have hz2' := r2.size
  obtain ⟨v2, W3, hr2, s1, s2, s3⟩ := run_app_any (P := Try.prog) W2 w.heap.size 30 30 30 45 i0 _ 2 24 Try.underlying30 hi0 hz0 hz1 hz2 rfl _ i _ r1 _ (T.length - (i + 1)) _ src2 (by unfold maxLen; omega) (by omega) (by omega)
  obtain ⟨A2, c2, rfl⟩ := row_slice s1
  have hlen : (T.take i ++ T.drop (i + 1)).length = i + (T.length - (i + 1)) := by rw [List.length_append, List.length_take, List.length_drop]; omega
  have hfm : (T.take i ++ T.drop (i + 1)).flatMap encU = (T.take i).flatMap encU ++ (T.drop (i + 1)).flatMap encU := List.flatMap_append
  refine ⟨g, g1, o1, A1, c1, A2, c2, W2, W3, rfl, hnc, hs1, hs2, hW1 ▸ hr1, by rw [hlen]; exact hr2, ?_, f2, ?_⟩
  · rw [hlen]
    exact ownU_of s1 hlen.symm hfm.symm
  · exact f2.trans3 s2 fun k hk e => by
      rcases r3 k e with e2 | e2
      · have : w.heap.size = k := Option.some.inj e2; omega
      · omega
/-- what Delete leaves -/
def DelU (base x : Nat) (most : Int) (U : List (Ent VI)) (k : KeyB) (w : World) (e : Ending) (w' : World) : Prop := ((e = .returned (.bool false) ∧ (∀ a ∈ U, a.fold ≠ k) ∧ RefB base w' x most U) ∨ ∃ i : Nat, ∃ h : i < U.length, U[i].fold = k ∧ e = .returned (.bool true) ∧ RefB base w' x most (U.take i ++ U.drop (i + 1))) ∧ Fr (fun j => j = x) w w'
set_option maxRecDepth 100000 in
set_option maxHeartbeats 16000000 in
theorem ref_del {base : Nat} {w : World} {x : Nat} {most : Int} {U : List (Ent VI)} (h : RefB base w x most U) (hb : base ≤ w.heap.size) (hk : OkUB U) (hl : U.length ≤ 1000000) {name : ByteArray} (hs : name.size ≤ 1000000) :
    Calls Try.prog 11 #[.pointer (some ⟨x, 0, none⟩), .string name] w (DelU base x most U (foldL name.data.toList) w) := by
  have hat := ref_at h hk hl hs
  have HH := Lib.hid h
  clear h
  go_enter Try.func11, Try.ntmps11
  go_wp2_with fail
  refine hat.mono ?_
  rintro e w1 ⟨⟨n, rfl, hix⟩, f1⟩
  have HA := refB_fr (X := fun _ => False) HH.out f1 fun _ _ e => e
  have F1 := Lib.hid f1
  have hb1 := Nat.le_trans hb f1.size
  clear f1 hat
  rcases hix with ⟨rfl, hno⟩ | ⟨i, hi, rfl, hk1⟩
  · have HL := Lib.hid (And.intro hno HA)
    clear hno HA
    go_wp2_with fail
    go_ret
    exact ⟨.inl ⟨rfl, HL.out.1, HL.out.2⟩, F1.out.mono fun _ _ e => e.elim⟩
  · obtain ⟨h0, A, c, h2, h3, h4⟩ := HA
    have H3 := Lib.hid (And.intro h2 (And.intro h3 h4))
    have HL := Lib.hid hk1
    obtain ⟨g, g1, o1, A1, c1, A2, c2, W2, W3, rfl, hnc, hs1, hs2, hr1, hr2, ho, f2, f3⟩ := del_entries h3 hi hl
    have k1 := blk_alloc (blk_drew h2) (.cells #[] 45)
    have d0 := blk_cell (blk_drew h2) 1
    have d1 := blk_cell k1 1
    have k2 := f2.blk h2 fun e => e
    have d2 := blk_cell k2 1
    have k3 := f3.blk h2 fun e => e
    have d3 := blk_cell k3 1
    have g3 := blk_free k3 1
    have hp1 : ¬ ((i : Int) < 0) := by omega
    have HK := Lib.hid (And.intro k3 (And.intro ho f3))
    have hlt : IntKind.i64.wrap ((i : Int) + 1) = (i : Int) + 1 := IntWalk.i64_in _ ⟨by omega, by omega⟩
    have e1 : (Sem.run Try.prog (Builtin.append_ #[30, 30] 30 #[.slice (some ⟨w1.heap.size, 0, none⟩) 0 0, .slice (some ⟨g, 0, none⟩) i c]) (w1.alloc (.cells #[] 45)).drew).andThen (fun a w' => Result.ok (Next.value a) w') = .ok (.value (.slice A1 i c1)) W2 := by
      have e0 : (w1.alloc (.cells #[] 45)).drew = w1.drew.alloc (.cells #[] 45) := rfl
      rw [e0, hr1]; rfl
    have e2 : (Sem.run Try.prog (Builtin.append_ #[30, 30] 30 #[.slice A1 i c1, .slice (some ⟨g1, o1, none⟩) (U.length - (i + 1)) (c - (i + 1))]) W2).andThen (fun a w' => Result.ok (Next.value a) w') = .ok (.value (.slice A2 (U.take i ++ U.drop (i + 1)).length c2)) W3 := by rw [hr2]; rfl
    obtain ⟨W1, hW1⟩ : ∃ W1, (w1.alloc (.cells #[] 45)).drew = W1 := ⟨_, rfl⟩
    have hr1 : (Builtin.append_ #[30, 30] 30 #[.slice (some ⟨w1.heap.size, 0, none⟩) 0 0, .slice (some ⟨g, 0, none⟩) i c]).run Try.prog W1 = .ok (.slice A1 i c1) W2 := by rw [← hW1]; exact hr1
    have d1 : W1.cell? ⟨x, 1, none⟩ = some (.slice (some ⟨g, 0, none⟩) U.length c) := by rw [← hW1]; exact d1
    have HW := Lib.hid hW1
    clear hW1
    obtain ⟨m, hm⟩ : ∃ m, U.length - (i + 1) = m := ⟨_, rfl⟩
    obtain ⟨m2, hm2⟩ : ∃ m2, c - (i + 1) = m2 := ⟨_, rfl⟩
    obtain ⟨m3, hm3⟩ : ∃ m3, (U.take i ++ U.drop (i + 1)).length = m3 := ⟨_, rfl⟩
    rw [hm, hm2] at hs2 e2 hr2
    rw [hm3] at e2 hr2
    have HM := Lib.hid (And.intro hm (And.intro hm2 hm3))
    clear hm hm2 hm3 k1 k2 k3 ho f2 f3 h2 h3 h4 hk1
    go_wp2_with fail
    clear e1 e2
    refine wp_region_z (S := fun V => V.cell? ⟨x, 1, none⟩ = some (.slice (some ⟨g, 0, none⟩) U.length c)) (z := 19) (by kernel_rfl) (by exact d0) (fun hHeld => ?_)
    refine wpAnyZ_read (i := 0) (oi := { dst := some 11, op := Go.Op.move (Go.Operand.tmp 0), type := 29, pos := "ref.go:47", after := #[], guard := none }) ?_ rfl (by kernel_rfl) (by kernel_rfl) (by kernel_rfl) (by kernel_rfl) (fun _ _ _ h => h) (by rfl) (by assumption) ?_ ?_
    rotate_left
    · (intro w0 hS0; go_simp <;> (try with_reducible rfl))
    try simp only [Act.put, List.setIfInBounds_toArray, List.set_cons_zero, List.set_cons_succ]
    refine wpAnyZ_read (i := 2) (oi := { dst := some 13, op := Go.Op.move (Go.Operand.tmp 0), type := 29, pos := "ref.go:47", after := #[], guard := none }) ?_ rfl (by kernel_rfl) (by kernel_rfl) (by kernel_rfl) (by kernel_rfl) (fun _ _ _ h => h) (by rfl) (by assumption) ?_ ?_
    rotate_left
    · (intro w0 hS0; go_simp <;> (try with_reducible rfl))
    try simp only [Act.put, List.setIfInBounds_toArray, List.set_cons_zero, List.set_cons_succ]
    refine wpAnyZ_read (i := 3) (oi := { dst := some 14, op := Go.Op.nilCheck (Go.Operand.tmp 13), type := 0, pos := "ref.go:47", after := #[{ on := 2, ground := Go.Ground.data }], guard := none }) ?_ rfl (by kernel_rfl) (by kernel_rfl) (by kernel_rfl) (by kernel_rfl) (fun _ _ _ h => h) (by rfl) (by assumption) ?_ ?_
    rotate_left
    · (intro w0 hS0; go_simp <;> (try with_reducible rfl))
    try simp only [Act.put, List.setIfInBounds_toArray, List.set_cons_zero, List.set_cons_succ]
    refine wpAnyZ_read (i := 4) (oi := { dst := some 15, op := Go.Op.fieldAddr 32 (Go.Operand.tmp 14) 1, type := 0, pos := "ref.go:47", after := #[{ on := 3, ground := Go.Ground.data }], guard := none }) ?_ rfl (by kernel_rfl) (by kernel_rfl) (by kernel_rfl) (by kernel_rfl) (fun _ _ _ h => h) (by rfl) (by assumption) ?_ ?_
    rotate_left
    · (intro w0 hS0; go_simp <;> (try with_reducible rfl))
    try simp only [Act.put, List.setIfInBounds_toArray, List.set_cons_zero, List.set_cons_succ]
    refine wpAnyZ_read (i := 6) (oi := { dst := some 17, op := Go.Op.move (Go.Operand.tmp 5), type := 3, pos := "ref.go:47", after := #[], guard := none }) ?_ rfl (by kernel_rfl) (by kernel_rfl) (by kernel_rfl) (by kernel_rfl) (fun _ _ _ h => h) (by rfl) (by assumption) ?_ ?_
    rotate_left
    · (intro w0 hS0; go_simp <;> (try with_reducible rfl))
    try simp only [Act.put, List.setIfInBounds_toArray, List.set_cons_zero, List.set_cons_succ]
    refine wpAnyZ_read (i := 9) (oi := { dst := some 20, op := Go.Op.move (Go.Operand.tmp 0), type := 29, pos := "ref.go:47", after := #[], guard := none }) ?_ rfl (by kernel_rfl) (by kernel_rfl) (by kernel_rfl) (by kernel_rfl) (fun _ _ _ h => h) (by rfl) (by assumption) ?_ ?_
    rotate_left
    · (intro w0 hS0; go_simp <;> (try with_reducible rfl))
    try simp only [Act.put, List.setIfInBounds_toArray, List.set_cons_zero, List.set_cons_succ]
    refine wpAnyZ_read (i := 10) (oi := { dst := some 21, op := Go.Op.nilCheck (Go.Operand.tmp 20), type := 0, pos := "ref.go:47", after := #[{ on := 9, ground := Go.Ground.data }], guard := none }) ?_ rfl (by kernel_rfl) (by kernel_rfl) (by kernel_rfl) (by kernel_rfl) (fun _ _ _ h => h) (by rfl) (by assumption) ?_ ?_
    rotate_left
    · (intro w0 hS0; go_simp <;> (try with_reducible rfl))
    try simp only [Act.put, List.setIfInBounds_toArray, List.set_cons_zero, List.set_cons_succ]
    refine wpAnyZ_read (i := 11) (oi := { dst := some 22, op := Go.Op.fieldAddr 32 (Go.Operand.tmp 21) 1, type := 0, pos := "ref.go:47", after := #[{ on := 10, ground := Go.Ground.data }], guard := none }) ?_ rfl (by kernel_rfl) (by kernel_rfl) (by kernel_rfl) (by kernel_rfl) (fun _ _ _ h => h) (by rfl) (by assumption) ?_ ?_
    rotate_left
    · (intro w0 hS0; go_simp <;> (try with_reducible rfl))
    try simp only [Act.put, List.setIfInBounds_toArray, List.set_cons_zero, List.set_cons_succ]
    refine wpAnyZ_read (i := 13) (oi := { dst := some 24, op := Go.Op.move (Go.Operand.tmp 5), type := 3, pos := "ref.go:47", after := #[], guard := none }) ?_ rfl (by kernel_rfl) (by kernel_rfl) (by kernel_rfl) (by kernel_rfl) (fun _ _ _ h => h) (by rfl) (by assumption) ?_ ?_
    rotate_left
    · (intro w0 hS0; go_simp <;> (try with_reducible rfl))
    try simp only [Act.put, List.setIfInBounds_toArray, List.set_cons_zero, List.set_cons_succ]
    refine wpAnyZ_read (i := 14) (oi := { dst := some 25, op := Go.Op.binOp Go.BinOp.add 3 (Go.Operand.tmp 24) (Go.Operand.const (Go.Value.int Go.IntKind.i64 1)) 3, type := 3, pos := "ref.go:47", after := #[{ on := 13, ground := Go.Ground.data }], guard := none }) ?_ rfl (by kernel_rfl) (by kernel_rfl) (by kernel_rfl) (by kernel_rfl) (fun _ _ _ h => h) (by rfl) (by assumption) ?_ ?_
    rotate_left
    · (intro w0 hS0; go_simp <;> (try with_reducible rfl))
    try simp only [Act.put, List.setIfInBounds_toArray, List.set_cons_zero, List.set_cons_succ]
    refine wpAnyZ_read (i := 5) (oi := { dst := some 16, op := Go.Op.load 30 (Go.Operand.tmp 15), type := 30, pos := "ref.go:47", after := #[{ on := 4, ground := Go.Ground.data }], guard := none }) ?_ rfl (by kernel_rfl) (by kernel_rfl) (by kernel_rfl) (by kernel_rfl) (fun _ _ _ h => h) (by rfl) (by assumption) ?_ ?_
    rotate_left
    · (intro w0 hS0; go_simp <;> (try with_reducible rfl))
    try simp only [Act.put, List.setIfInBounds_toArray, List.set_cons_zero, List.set_cons_succ]
    refine wpAnyZ_read (i := 7) (oi := { dst := some 18, op := Go.Op.slice 30 (Go.Operand.tmp 16) none (some (Go.Operand.tmp 17)) none, type := 30, pos := "ref.go:47", after := #[{ on := 5, ground := Go.Ground.data }, { on := 6, ground := Go.Ground.data }], guard := none }) ?_ rfl (by kernel_rfl) (by kernel_rfl) (by kernel_rfl) (by kernel_rfl) (fun _ _ _ h => h) (by rfl) (by assumption) ?_ ?_
    rotate_left
    · (intro w0 hS0; go_simp <;> (try with_reducible rfl))
    try simp only [Act.put, List.setIfInBounds_toArray, List.set_cons_zero, List.set_cons_succ]
    refine wpAnyZ_read (i := 12) (oi := { dst := some 23, op := Go.Op.load 30 (Go.Operand.tmp 22), type := 30, pos := "ref.go:47", after := #[{ on := 11, ground := Go.Ground.data }], guard := none }) ?_ rfl (by kernel_rfl) (by kernel_rfl) (by kernel_rfl) (by kernel_rfl) (fun _ _ _ h => h) (by rfl) (by assumption) ?_ ?_
    rotate_left
    · (intro w0 hS0; go_simp <;> (try with_reducible rfl))
    try simp only [Act.put, List.setIfInBounds_toArray, List.set_cons_zero, List.set_cons_succ]
    refine wpAnyZ_read (i := 15) (oi := { dst := some 26, op := Go.Op.slice 30 (Go.Operand.tmp 23) (some (Go.Operand.tmp 25)) none none, type := 30, pos := "ref.go:47", after := #[{ on := 12, ground := Go.Ground.data }, { on := 14, ground := Go.Ground.data }], guard := none }) ?_ rfl (by kernel_rfl) (by kernel_rfl) (by kernel_rfl) (by kernel_rfl) (fun _ _ _ h => h) (by rfl) (by assumption) ?_ ?_
    rotate_left
    · (intro w0 hS0; go_simp <;> (try with_reducible rfl))
    try simp only [Act.put, List.setIfInBounds_toArray, List.set_cons_zero, List.set_cons_succ]
    refine wpAnyZ_one (i := 1) (o := { dst := some 12, op := Go.Op.buildSlice 30 0 #[], type := 30, pos := "ref.go:47", after := #[], guard := none }) (by kernel_rfl) rfl (by rfl) (fun K hK => ?_)
    go_simp
    rw [HW.out]
    refine hK.out _ _ ?_ (fun hHeld => ?_)
    · exact d1
    clear hK K
    try simp only [Act.put, List.setIfInBounds_toArray, List.set_cons_zero, List.set_cons_succ]
    refine wpAnyZ_one (i := 8) (o := { dst := some 19, op := Go.Op.call { callee := Go.Callee.builtin Go.Builtin.append, args := #[Go.Operand.tmp 12, Go.Operand.tmp 18], argTypes := #[30, 30] }, type := 30, pos := "ref.go:47", after := #[{ on := 1, ground := Go.Ground.data }, { on := 7, ground := Go.Ground.data }], guard := none }) (by kernel_rfl) rfl (by rfl) (fun K hK => ?_)
    refine wp_app_run _ _ _ _ rfl hr1 ?_
    refine hK.out _ _ ?_ (fun hHeld => ?_)
    · exact d2
    clear hK K
    try simp only [Act.put, List.setIfInBounds_toArray, List.set_cons_zero, List.set_cons_succ]
    refine wpAnyZ_one (i := 16) (o := { dst := some 27, op := Go.Op.call { callee := Go.Callee.builtin Go.Builtin.append, args := #[Go.Operand.tmp 19, Go.Operand.tmp 26], argTypes := #[30, 30] }, type := 30, pos := "ref.go:47", after := #[{ on := 8, ground := Go.Ground.data }, { on := 15, ground := Go.Ground.data }, { on := 8, ground := Go.Ground.chain }], guard := none }) (by kernel_rfl) rfl (by rfl) (fun K hK => ?_)
    refine wp_app_run _ _ _ _ rfl hr2 ?_
    refine hK.out _ _ ?_ (fun hHeld => ?_)
    · exact d3
    clear hK K
    try simp only [Act.put, List.setIfInBounds_toArray, List.set_cons_zero, List.set_cons_succ]
    refine wpAnyZ_one (i := 17) (o := { dst := some 28, op := Go.Op.nilCheck (Go.Operand.tmp 11), type := 0, pos := "ref.go:47", after := #[{ on := 0, ground := Go.Ground.data }, { on := 0, ground := Go.Ground.phase }, { on := 1, ground := Go.Ground.phase }, { on := 2, ground := Go.Ground.phase }, { on := 3, ground := Go.Ground.phase }, { on := 4, ground := Go.Ground.phase }, { on := 5, ground := Go.Ground.phase }, { on := 6, ground := Go.Ground.phase }, { on := 7, ground := Go.Ground.phase }, { on := 8, ground := Go.Ground.phase }, { on := 9, ground := Go.Ground.phase }, { on := 10, ground := Go.Ground.phase }, { on := 11, ground := Go.Ground.phase }, { on := 12, ground := Go.Ground.phase }, { on := 13, ground := Go.Ground.phase }, { on := 14, ground := Go.Ground.phase }, { on := 15, ground := Go.Ground.phase }, { on := 16, ground := Go.Ground.phase }], guard := none }) (by kernel_rfl) rfl (by rfl) (fun K hK => ?_)
    go_simp
    refine hK.out _ _ ?_ (fun hHeld => ?_)
    · (first | assumption | trivial)
    clear hK K
    try simp only [Act.put, List.setIfInBounds_toArray, List.set_cons_zero, List.set_cons_succ]
    refine wpAnyZ_read (i := 18) (oi := { dst := some 29, op := Go.Op.fieldAddr 32 (Go.Operand.tmp 28) 1, type := 0, pos := "ref.go:47", after := #[{ on := 17, ground := Go.Ground.data }, { on := 0, ground := Go.Ground.phase }, { on := 1, ground := Go.Ground.phase }, { on := 2, ground := Go.Ground.phase }, { on := 3, ground := Go.Ground.phase }, { on := 4, ground := Go.Ground.phase }, { on := 5, ground := Go.Ground.phase }, { on := 6, ground := Go.Ground.phase }, { on := 7, ground := Go.Ground.phase }, { on := 8, ground := Go.Ground.phase }, { on := 9, ground := Go.Ground.phase }, { on := 10, ground := Go.Ground.phase }, { on := 11, ground := Go.Ground.phase }, { on := 12, ground := Go.Ground.phase }, { on := 13, ground := Go.Ground.phase }, { on := 14, ground := Go.Ground.phase }, { on := 15, ground := Go.Ground.phase }, { on := 16, ground := Go.Ground.phase }], guard := none }) ?_ rfl (by kernel_rfl) (by kernel_rfl) (by kernel_rfl) (by kernel_rfl) (fun _ _ _ h => h) (by rfl) (by assumption) ?_ ?_
    rotate_left
    · (intro w0 hS0; go_simp <;> (try with_reducible rfl))
    try simp only [Act.put, List.setIfInBounds_toArray, List.set_cons_zero, List.set_cons_succ]
    refine wpAnyZ_last (o := { dst := none, op := Go.Op.store 30 (Go.Operand.tmp 29) (Go.Operand.tmp 27), type := 0, pos := "ref.go:47", after := #[{ on := 18, ground := Go.Ground.data }, { on := 16, ground := Go.Ground.data }, { on := 16, ground := Go.Ground.chain }, { on := 0, ground := Go.Ground.phase }, { on := 1, ground := Go.Ground.phase }, { on := 2, ground := Go.Ground.phase }, { on := 3, ground := Go.Ground.phase }, { on := 4, ground := Go.Ground.phase }, { on := 5, ground := Go.Ground.phase }, { on := 6, ground := Go.Ground.phase }, { on := 7, ground := Go.Ground.phase }, { on := 8, ground := Go.Ground.phase }, { on := 9, ground := Go.Ground.phase }, { on := 10, ground := Go.Ground.phase }, { on := 11, ground := Go.Ground.phase }, { on := 12, ground := Go.Ground.phase }, { on := 13, ground := Go.Ground.phase }, { on := 14, ground := Go.Ground.phase }, { on := 15, ground := Go.Ground.phase }, { on := 16, ground := Go.Ground.phase }], guard := none }) (by kernel_rfl) rfl (by rfl) (fun K hK => ?_)
    go_simp
    refine hK.out _ _ ?_
    clear hK K
    try simp only [Act.put, List.setIfInBounds_toArray, List.set_cons_zero, List.set_cons_succ]
    refine wpAnyZ_done (by kernel_rfl) ?_ _
    go_wp2_with fail
    go_ret
    obtain ⟨k3, ho, f3⟩ := HK.out
    have hxl := blk_lt H3.out.1
    obtain ⟨hm, hm2, hm3⟩ := HM.out
    have hne : ∀ j, (Value.slice A2 m3 c2).ownBlock = some j → j ≠ x := fun j hj e => by
      rw [← hm3] at hj
      have := (ho.lt j hj).1
      omega
    refine ⟨.inr ⟨i, hi, HL.out, rfl, h0, A2, c2, ?_, ?_, ?_⟩, Fr.setCell (X := fun j => j = x) ((F1.out.trans f3).mono fun _ _ e => e.elim) ⟨x, 1, none⟩ rfl _⟩
    · rw [hm3]
      exact (blk_set k3 1 _).trans rfl
    · rw [hm3]
      exact ownU_base (ownU_kept (by rw [hm3] at ho; exact ho) fun j hj => heap_setCell_other W3 _ j _ fun e => hne j hj (by simpa using e)) hb1
    · rw [hm3]
      exact fun e => hne x e rfl
end Go.Proofs.Ytfdaeajafmcjcaa
