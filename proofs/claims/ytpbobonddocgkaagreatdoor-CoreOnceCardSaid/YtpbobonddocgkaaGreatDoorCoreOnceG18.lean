/- Texts of this proof, one behind the other. -/
import Derived.Test.YtpbobonddocgkaaGreatDoorCoreOnceG17
import Derived.Test.YtpbobonddocgkaaGreatDoorCoreOnceG11
import Derived.Test.YtpbobonddocgkaaGreatDoorCoreOnceG3
set_option linter.unusedVariables false
set_option linter.unusedSimpArgs false
section
/- Layer 23: Claim. -/
namespace Go.Proofs.YtpbobonddocgkaaGreatDoor
open Go Go.RowKit Go.Maps Go.Lib Go.Sort Go.Shelf

section
variable {base : Nat} {w w' : World} {G : CoG} {C : Nat → CTag} {K : List (Int × CE)} {T : List (KeyB × Ent VI)} {n : Nat}
set_option maxRecDepth 100000 in
set_option maxHeartbeats 16000000 in
theorem claim_move (h : CoAt base G C K T n w) (hg : GlobB base w) {id : Int} {e : CE} (hl : lookM K id = some e) (hdn : e.done = true) (hnk : e.nick.length ≤ 100) (hus : e.user.length ≤ 100) {nm : List UInt8} (hnm : nm.length ≤ 100) (hv : dec (NickP (bs nm)) = true) (hh : lookM T (foldL nm) = none) (hT : (delM T (foldL e.nick)).length < G.n0) (hT2 : T.length ≤ 1000) (hsm : sameF e.nick nm = false) (hU : G.U.length ≤ 1000) {E1 E2 : List Int} (e1 : ∀ a, a ∈ E1 ↔ (a, foldL e.nick) ∈ G.U.map fkW) (e2 : ∀ a, a ∈ E2 ↔ (a, foldL nm) ∈ G.U.map fkW) {i : Int} {ei : CE} (hi : i ≠ id) (hli : lookM K i = some ei) (hni : ei.nick.length ≤ 1000) (hE1 : E1 = [] ∨ E1 = [i]) (hE2 : E2 = [] ∨ (E2 = [i] ∧ E1 = [])) (ht1 : E1 = [i] → Takes ei.s (numL nameL ei.nick 731 [e.nick])) (ht2 : E2 = [i] → Takes ei.s (numL nameL ei.nick 730 [whoL nm e.user hostL])) :
    Calls Tryz.prog 7 #[.pointer (some ⟨G.c, 0, none⟩), .int .i64 id, .string (bs nm)] w fun r w' => r = .returned (.bool true) ∧ ∃ ob1 ob2, CoTo base G C (KE (KE (updM K id { e with nick := nm }) E1 i ei (numL nameL ei.nick 731 [e.nick]) ob1) E2 i ei (numL nameL ei.nick 730 [whoL nm e.user hostL]) ob2) (setM (delM T (foldL e.nick)) (foldL nm) ⟨bs nm, foldL nm, id⟩) n w w' := by
  have HSM := Lib.hid hsm
  have HM := Lib.hid (And.intro hU (And.intro e1 (And.intro e2 (And.intro hi (And.intro hli (And.intro hni (And.intro hE1 (And.intro hE2 (And.intro ht1 ht2)))))))))
  have hid := h.okK (lookM_memP hl)
  have HL := Lib.hid (live_some h hl)
  have hho := holder_any h (nm := nm) (by omega)
  rw [hh] at hho
  simp only [Option.getD_none, Option.isSome_none] at hho
  obtain ⟨z0, hz0⟩ : ∃ z0, (zeroEI).thing = z0 := ⟨_, rfl⟩
  rw [hz0] at hho
  clear hz0
  have HHo := Lib.hid hho
  have HNi := Lib.hid (fun W (hW : Below w.heap.size w W) => (by have := nick_v (bs nm) W (by simp; omega) (hg.onto (hW.mono h.base_le)).glob.1; rw [hv] at this; exact this : Calls Tryz.prog 29 #[.string (bs nm)] W fun e w' => e = .returned (.bool true) ∧ W = w'))
  have HPe := Lib.hid (fun W (hW : Below w.heap.size w W) => person_any (h.below hW) hl id)
  unfold perV per at HPe
  have H := Lib.hid (And.intro h (And.intro hg (And.intro hl (And.intro hid (And.intro hnk (And.intro hus (And.intro hnm (And.intro hT (And.intro hT2 hdn)))))))))
  have HH := Lib.hid hh
  clear h hg hl hid hnk hus hnm hT hT2 hh hho hv hdn hsm hU e1 e2 hi hli hni hE1 hE2 ht1 ht2
  go_enter Tryz.func7, Tryz.ntmps7
  go_wp2_with fail
  refine HL.out.mono ?_
  rintro r w1 ⟨rfl, rfl⟩
  clear HL
  go_wp2_with fail
  refine HHo.out.mono ?_
  rintro r w2 ⟨rfl, b2⟩
  have HNi2 := Lib.hid (HNi.out w2 b2)
  have B2 := Lib.hid b2
  clear HHo HNi b2
  go_wp2_with fail
  refine HNi2.out.mono ?_
  rintro r w2' ⟨rfl, rfl⟩
  clear HNi2
  have HPe2 := Lib.hid (HPe.out w2 B2.out)
  clear HPe
  go_wp2_with fail
  refine HPe2.out.mono ?_
  rintro r w3 ⟨rfl, b3⟩
  have B3 := Lib.hid (B2.out.trans (b3.mono B2.out.size))
  clear HPe2 B2 b3
  obtain ⟨N, hN⟩ : ∃ N, w3.heap.size = N := ⟨_, rfl⟩
  go_upto_region 6 with fail
  obtain ⟨h, hg, hl, hid, hnk, hus, hnm, hT, hT2, hdn⟩ := H.out
  obtain ⟨W5, hW5⟩ : ∃ W5, w3.alloc (Obj.cells #[.int .i64 id, .string (bs e.nick), .string (bs e.user), .string (bs hostL), .string ⟨#[]⟩, .string ⟨#[]⟩, .bool false, .bool false, .int .i64 0, .int .i64 0] 61) = W5 := ⟨_, rfl⟩
  have k5 : W5.heap[N]? = some (Obj.cells #[.int .i64 id, .string (bs e.nick), .string (bs e.user), .string (bs hostL), .string ⟨#[]⟩, .string ⟨#[]⟩, .bool false, .bool false, .int .i64 0, .int .i64 0] 61 (0, 0)) := by rw [← hW5, ← hN]; exact heap_alloc_new w3 _
  have b5 : Below w3.heap.size w3 W5 := by
    rw [← hW5]
    exact (Below.refl _ w3).alloc (Nat.le_refl _) _
  have bW : Below w1.heap.size w1 W5 := B3.out.trans (b5.mono B3.out.size)
  have h5 := h.below bW
  have hCN : C N = ctag0 := h.cN N (by have := B3.out.size; omega)
  have hNlt : N < W5.heap.size := blk_lt k5
  have h5d := h5.fr (Fr.refl (fun _ => False) W5).drew fun _ _ e => e
  have HDe := Lib.hid (bok_delI h5d.hol (name := bs e.nick) (by simp; omega))
  rw [bs_list e.nick] at HDe
  have HAf : Hid (∀ W, BokI base W G.ht G.hb G.n0 (delM T (foldL e.nick)) → Fr (fun j => j = G.hb) W5.drew W → CoTo base G C K (delM T (foldL e.nick)) n W5 W) := fun W h1 h2 => CoTo.trans ⟨fun _ _ => rfl, (Fr.refl _ W5).drew⟩ (h5d.holTo h1 h2)
  have hcl : ∀ (C' : Nat → CTag) (K' : List (Int × CE)) (T' : List (KeyB × Ent VI)) W, CoAt base G C' K' T' n W → OntoC C C' W5 W → ClS G.c G.ht N e.nick W ∧ W.heap[N]? = some (Obj.cells #[.int .i64 id, .string (bs e.nick), .string (bs e.user), .string (bs hostL), .string ⟨#[]⟩, .string ⟨#[]⟩, .bool false, .bool false, .int .i64 0, .int .i64 0] 61 (0, 0)) := fun C' K' T' W h1 h2 =>
    have k := h2.2.blk k5 (by rw [hCN]; simp)
    ⟨⟨h1.cell 17, blk_cell k 1⟩, k⟩
  have HAS : Hid (∀ W, CoTo base G C K (delM T (foldL e.nick)) n W5 W → ClS G.c G.ht N e.nick W) := fun W ⟨C1, h1, h2⟩ => (hcl C1 _ _ W h1 h2).1
  have HS5 := Lib.hid (hcl C K T W5.drew h5d ⟨fun _ _ => rfl, (Fr.refl _ W5).drew⟩).1
  have HW5 := Lib.hid hW5
  have H5 := Lib.hid (And.intro bW (And.intro hcl hCN))
  have HN := Lib.hid hN
  clear h hg hl hid hnk hus hnm hT hT2 hdn hW5 k5 b5 bW h5 hCN hNlt h5d hcl hN
  rw [HW5.out]
  refine wp_region_held_drew (S := ClS G.c G.ht N e.nick) (by kernel_rfl) (by exact HS5.out) (fun hHeld => ?_)
  refine wpAnyH_read (i := 0) (oi := { dst := some 38, op := Go.Op.move (Go.Operand.tmp 0), type := 24, pos := "core.go:250", after := #[], guard := none }) ?_ rfl (by kernel_rfl) (by kernel_rfl) (by kernel_rfl) (fun _ _ _ h => h) (by rfl) (by assumption) ?_ ?_
  rotate_left
  · (intro w0 hS0; go_simp <;> (try with_reducible rfl))
  try simp only [Act.put, List.setIfInBounds_toArray, List.set_cons_zero, List.set_cons_succ]
  refine wpAnyH_read (i := 1) (oi := { dst := some 39, op := Go.Op.nilCheck (Go.Operand.tmp 38), type := 0, pos := "core.go:250", after := #[{ on := 0, ground := Go.Ground.data }], guard := none }) ?_ rfl (by kernel_rfl) (by kernel_rfl) (by kernel_rfl) (fun _ _ _ h => h) (by rfl) (by assumption) ?_ ?_
  rotate_left
  · (intro w0 hS0; go_simp <;> (try with_reducible rfl))
  try simp only [Act.put, List.setIfInBounds_toArray, List.set_cons_zero, List.set_cons_succ]
  refine wpAnyH_read (i := 2) (oi := { dst := some 40, op := Go.Op.fieldAddr 55 (Go.Operand.tmp 39) 3, type := 0, pos := "core.go:250", after := #[{ on := 1, ground := Go.Ground.data }], guard := none }) ?_ rfl (by kernel_rfl) (by kernel_rfl) (by kernel_rfl) (fun _ _ _ h => h) (by rfl) (by assumption) ?_ ?_
  rotate_left
  · (intro w0 hS0; go_simp <;> (try with_reducible rfl))
  try simp only [Act.put, List.setIfInBounds_toArray, List.set_cons_zero, List.set_cons_succ]
  refine wpAnyH_read (i := 4) (oi := { dst := some 42, op := Go.Op.fieldAddr 61 (Go.Operand.tmp 10) 1, type := 0, pos := "core.go:250", after := #[], guard := none }) ?_ rfl (by kernel_rfl) (by kernel_rfl) (by kernel_rfl) (fun _ _ _ h => h) (by rfl) (by assumption) ?_ ?_
  rotate_left
  · (intro w0 hS0; go_simp <;> (try with_reducible rfl))
  try simp only [Act.put, List.setIfInBounds_toArray, List.set_cons_zero, List.set_cons_succ]
  refine wpAnyH_read (i := 3) (oi := { dst := some 41, op := Go.Op.load 51 (Go.Operand.tmp 40), type := 51, pos := "core.go:250", after := #[{ on := 2, ground := Go.Ground.data }], guard := none }) ?_ rfl (by kernel_rfl) (by kernel_rfl) (by kernel_rfl) (fun _ _ _ h => h) (by rfl) (by assumption) ?_ ?_
  rotate_left
  · (intro w0 hS0; obtain ⟨s17, s1⟩ := hS0; (try clear hHeld); go_simp <;> (try with_reducible rfl))
  try simp only [Act.put, List.setIfInBounds_toArray, List.set_cons_zero, List.set_cons_succ]
  refine wpAnyH_read (i := 5) (oi := { dst := some 43, op := Go.Op.load 9 (Go.Operand.tmp 42), type := 9, pos := "core.go:250", after := #[{ on := 4, ground := Go.Ground.data }], guard := none }) ?_ rfl (by kernel_rfl) (by kernel_rfl) (by kernel_rfl) (fun _ _ _ h => h) (by rfl) (by assumption) ?_ ?_
  rotate_left
  · (intro w0 hS0; obtain ⟨s17, s1⟩ := hS0; (try clear hHeld); go_simp <;> (try with_reducible rfl))
  try simp only [Act.put, List.setIfInBounds_toArray, List.set_cons_zero, List.set_cons_succ]
  refine wpAnyH_one (i := 6) (o := { dst := some 44, op := Go.Op.call { callee := Go.Callee.value (Go.Operand.func 31), args := #[Go.Operand.tmp 41, Go.Operand.tmp 43], argTypes := #[51, 9] }, type := 4, pos := "core.go:250", after := #[{ on := 3, ground := Go.Ground.data }, { on := 5, ground := Go.Ground.data }], guard := none }) (by kernel_rfl) rfl (by rfl) (fun K hK => ?_)
  clear hHeld
  go_simp
  refine (HDe.out).mono ?_
  rintro r1 w6 ⟨rfl, hd6, hf6⟩
  have HT6 := Lib.hid (HAf.out _ hd6 hf6)
  have HS6 := Lib.hid (HAS.out _ HT6.out)
  clear hd6 hf6
  refine hK.out _ _ ?_ (fun hHeld => ?_)
  · exact HS6.out
  clear hK K
  try simp only [Act.put, List.setIfInBounds_toArray, List.set_cons_zero, List.set_cons_succ]
  refine wpAnyH_done (by kernel_rfl) ?_ _
  obtain ⟨h, hg, hl, hid, hnk, hus, hnm, hT, hT2, hdn⟩ := H.out
  obtain ⟨C6, h6, o6⟩ := HT6.out
  have c17 : w6.cell? ⟨G.c, 17, none⟩ = some (.pointer (some ⟨G.ht, 0, none⟩)) := h6.cell 17
  have hput := bok_putI h6.hol (name := bs nm) (v := id) (by simp; omega) hid (by have := len_delM_le T (foldL e.nick); omega)
  unfold PutPI at hput
  simp only [bs_list, thVI] at hput
  have HPut := Lib.hid hput
  have H6 := Lib.hid (And.intro h6 o6)
  clear h hg hl hid hnk hus hnm hT hT2 hdn h6 o6 hput
  go_wp2_with fail
  refine HPut.out.mono ?_
  rintro r w7 ⟨hq, hf7⟩
  obtain ⟨h, hg, hl, hid, hnk, hus, hnm, hT, hT2, hdn⟩ := H.out
  obtain ⟨h6, o6⟩ := H6.out
  rcases hq with ⟨_, rfl, hq⟩ | ⟨⟨_, hbad⟩, _, _⟩
  rotate_left
  · exact absurd hT (by omega)
  obtain ⟨C7, h7, o7⟩ := h6.holTo hq hf7
  have hbq : w7.heap[e.B]? = some (Obj.cells (connC e) 72 (0, 0)) := h7.conn _ (lookM_memP hl)
  have p5 := blk_cell hbq 5
  have i5 := blk_free hbq 5
  unfold connC at p5
  obtain ⟨W8, hW8⟩ : ∃ W8, w7.setCell ⟨e.B, 5, none⟩ (.string (bs nm)) = W8 := ⟨_, rfl⟩
  have hto8 : CoTo base G C7 (updM K id { e with nick := nm }) (setM (delM T (foldL e.nick)) (foldL nm) ⟨bs nm, foldL nm, id⟩) n w7 W8 := by
    rw [← hW8]
    exact h7.connTo hl (e' := { e with nick := nm }) rfl rfl rfl rfl (blk_set hbq 5 (.string (bs nm))) (Fr.setCell (Fr.refl (fun k => k = e.B) _) ⟨e.B, 5, none⟩ rfl (.string (bs nm)))
  obtain ⟨C8, h8, o8⟩ := hto8
  have oA : OntoC C C8 W5 W8 := (o6.trans o7).trans o8
  have hl8 : lookM (updM K id { e with nick := nm }) id = some { e with nick := nm } := by rw [look_updM hl, if_pos rfl]
  have p8 : (w7.setCell ⟨e.B, 5, none⟩ (.string (bs nm))).cell? ⟨e.B, 8, none⟩ = some (.bool true) := by rw [hW8, ← hdn]; exact h8.cellC hl8 8
  have k8 := (H5.out.2.1 C8 _ _ W8 h8 oA).2
  have n1 : (w7.setCell ⟨e.B, 5, none⟩ (.string (bs nm))).cell? ⟨N, 1, none⟩ = some (.string (bs e.nick)) := by rw [hW8]; exact blk_cell k8 1
  have H8 := Lib.hid (And.intro h8 (And.intro oA (And.intro hl8 k8)))
  have HW8 := Lib.hid hW8
  clear h hg hl hid hnk hus hnm hT hT2 hdn h6 o6 hq hf7 h7 o7 hbq hW8 h8 o8 oA hl8 k8 c17 HPut H6 HT6 HS6 HAf HAS HDe HS5
  have HSa : Hid (Calls Tryz.prog 33 #[.string (bs e.nick), .string (bs nm)] W8 fun r w' => r = .returned (.bool false) ∧ Below W8.heap.size W8 w') := by
    obtain ⟨h, hg, hl, hid, hnk, hus, hnm, hT, hT2, hdn⟩ := H.out
    refine (same_any (bs e.nick) (bs nm) W8 (by simp; omega) (by simp; omega)).mono ?_
    rintro r w' ⟨rfl, q, rfl⟩
    rw [bs_list, bs_list, HSM.out]
    exact ⟨rfl, ((Fr.refl (fun _ => False) W8).drewN q).below (Nat.le_refl _) fun _ _ e => e.elim⟩
  go_wp2_with fail
  rw [HW8.out]
  refine HSa.out.mono ?_
  rintro r w9 ⟨rfl, b9⟩
  have B9 := Lib.hid b9
  clear b9 HSa p8 n1
  obtain ⟨h, hg, hl, hid, hnk, hus, hnm, hT, hT2, hdn⟩ := H.out
  obtain ⟨h8, oA, hl8, k8⟩ := H8.out
  have h9 := h8.below B9.out
  have k9 := (Fr.of_below (X := fun _ => False) B9.out).blk k8 fun e => e
  have n0 := blk_cell k9 0
  have n1 := blk_cell k9 1
  have n2 := blk_cell k9 2
  have n3 := blk_cell k9 3
  have n4 := blk_cell k9 4
  have n5 := blk_cell k9 5
  have n6 := blk_cell k9 6
  have n7 := blk_cell k9 7
  have n8 := blk_cell k9 8
  have n9 := blk_cell k9 9
  have oB : OntoC C C8 w1 w9 := ((OntoC.of_below C H5.out.1).trans oA).trans (OntoC.of_below C8 B9.out)
  have hg9 : GlobB base w9 := hg.onto (h.up oB)
  obtain ⟨hU, e1, e2, hi, hli, hni, hE1, hE2, ht1, ht2⟩ := HM.out
  have hli8 : lookM (updM K id { e with nick := nm }) i = some ei := by rw [look_updM hl, if_neg hi]; exact hli
  have htf := tellFree_any h9 hg9 (by omega) (id := id) hnk hus e1 (i := i) (e := ei) hE1 (fun q => ⟨hli8, ht1 q, hni⟩)
  unfold perV per at htf
  have HTf := Lib.hid htf
  have H9 := Lib.hid (And.intro h9 (And.intro oB (And.intro hg9 hli8)))
  clear h hg hl hid hnk hus hnm hT hT2 hdn h8 oA hl8 k8 h9 k9 oB hg9 hU e1 e2 hi hli hni hE1 hE2 ht1 ht2 hli8 htf
  go_wp2_with fail
  refine HTf.out.mono ?_
  rintro r w10 ⟨rfl, ob1, hto⟩
  obtain ⟨h, hg, hl, hid, hnk, hus, hnm, hT, hT2, hdn⟩ := H.out
  obtain ⟨h9, oB, hg9, hli8⟩ := H9.out
  obtain ⟨hU, e1, e2, hi, hli, hni, hE1, hE2, ht1, ht2⟩ := HM.out
  obtain ⟨C10, h10, o10⟩ := hto
  have oC := oB.trans o10
  have hl10 : lookM (KE (updM K id { e with nick := nm }) E1 i ei (numL nameL ei.nick 731 [e.nick]) ob1) id = some { e with nick := nm } := by
    unfold KE
    split
    · rw [look_updM hl, if_pos rfl]
    · rw [look_updM hli8, if_neg (fun q => hi q.symm), look_updM hl, if_pos rfl]
  have HPq := person_any h10 hl10 id
  dsimp only at HPq
  have HPq := Lib.hid HPq
  have HTh : Hid (∀ W, Below w10.heap.size w10 W → Calls Tryz.prog 35 #[.pointer (some ⟨G.c, 0, none⟩), perV id nm e.user] W fun r w' => r = .returned (.tuple #[]) ∧ ∃ ob2, CoTo base G C (KE (KE (updM K id { e with nick := nm }) E1 i ei (numL nameL ei.nick 731 [e.nick]) ob1) E2 i ei (numL nameL ei.nick 730 [whoL nm e.user hostL]) ob2) (setM (delM T (foldL e.nick)) (foldL nm) ⟨bs nm, foldL nm, id⟩) n w1 w') := fun W hW => by
    have h11 := h10.below hW
    refine (tellHeld_any h11 ((hg.onto (h.up oC)).onto (hW.mono h10.base_le)) (by omega) (id := id) hnm hus e2 (i := i) (e := ei) (by rcases hE2 with q | q; exact .inl q; exact .inr q.1) (fun q => ?_)).mono ?_
    · rcases hE2 with q2 | ⟨_, q2⟩
      · rw [q2] at q; cases q
      · subst q2
        rw [KE_nil]
        exact ⟨hli8, ht2 q, hni⟩
    · rintro r w' ⟨rfl, ob2, hto⟩
      exact ⟨rfl, ob2, CoTo.trans oC (CoTo.trans (OntoC.of_below C10 hW) hto)⟩
  clear h hg hl hid hnk hus hnm hT hT2 hdn h9 oB hg9 hli8 hU e1 e2 hi hli hni hE1 hE2 ht1 ht2 h10 o10 oC hl10 n0 n1 n2 n3 n4 n5 n6 n7 n8 n9
  go_wp2_with fail
  refine HPq.out.mono ?_
  rintro r w11 ⟨rfl, b11⟩
  have HTh2 := Lib.hid (HTh.out w11 b11)
  clear HPq HTh b11
  go_wp2_with fail
  refine HTh2.out.mono ?_
  rintro r w12 ⟨rfl, ob2, hto⟩
  have HT12 := Lib.hid hto
  clear HTh2 hto
  go_wp2_with fail
  go_ret
  exact ⟨rfl, ob1, ob2, HT12.out⟩
end
end Go.Proofs.YtpbobonddocgkaaGreatDoor
end
section
/- Layer 23: Claim. -/
namespace Go.Proofs.YtpbobonddocgkaaGreatDoor
open Go Go.RowKit Go.Maps Go.Lib Go.Sort Go.Shelf

section
variable {base : Nat} {w w' : World} {G : CoG} {C : Nat → CTag} {K : List (Int × CE)} {T : List (KeyB × Ent VI)} {n : Nat}
set_option maxRecDepth 100000 in
set_option maxHeartbeats 16000000 in
theorem claim_own (h : CoAt base G C K T n w) (hg : GlobB base w) {id : Int} {e : CE} {en : Ent VI} (hl : lookM K id = some e) (hdn : e.done = true) (hnk : e.nick.length ≤ 100) (hus : e.user.length ≤ 100) {nm : List UInt8} (hnm : nm.length ≤ 100) (hv : dec (NickP (bs nm)) = true) (hh : lookM T (foldL nm) = some en) (hen : en.thing = id) (hT : (delM T (foldL e.nick)).length < G.n0) (hT2 : T.length ≤ 1000) (hsm : sameF e.nick nm = true) :
    Calls Tryz.prog 7 #[.pointer (some ⟨G.c, 0, none⟩), .int .i64 id, .string (bs nm)] w fun r w' => r = .returned (.bool true) ∧ CoTo base G C (updM K id { e with nick := nm }) (setM (delM T (foldL e.nick)) (foldL nm) ⟨bs nm, foldL nm, id⟩) n w w' := by
  have HSM := Lib.hid hsm
  have hid := h.okK (lookM_memP hl)
  have HL := Lib.hid (live_some h hl)
  have hho := holder_any h (nm := nm) (by omega)
  rw [hh] at hho
  simp only [Option.getD_some, Option.isSome_some, hen] at hho
  have HHo := Lib.hid hho
  have HNi := Lib.hid (fun W (hW : Below w.heap.size w W) => (by have := nick_v (bs nm) W (by simp; omega) (hg.onto (hW.mono h.base_le)).glob.1; rw [hv] at this; exact this : Calls Tryz.prog 29 #[.string (bs nm)] W fun e w' => e = .returned (.bool true) ∧ W = w'))
  have HPe := Lib.hid (fun W (hW : Below w.heap.size w W) => person_any (h.below hW) hl id)
  unfold perV per at HPe
  have H := Lib.hid (And.intro h (And.intro hg (And.intro hl (And.intro hid (And.intro hnk (And.intro hus (And.intro hnm (And.intro hT (And.intro hT2 hdn)))))))))
  have HH := Lib.hid hh
  clear h hg hl hid hnk hus hnm hT hT2 hh hho hv hdn hsm hen
  go_enter Tryz.func7, Tryz.ntmps7
  go_wp2_with fail
  refine HL.out.mono ?_
  rintro r w1 ⟨rfl, rfl⟩
  clear HL
  go_wp2_with fail
  refine HHo.out.mono ?_
  rintro r w2 ⟨rfl, b2⟩
  have HNi2 := Lib.hid (HNi.out w2 b2)
  have B2 := Lib.hid b2
  clear HHo HNi b2
  go_wp2_with fail
  refine HNi2.out.mono ?_
  rintro r w2' ⟨rfl, rfl⟩
  clear HNi2
  have HPe2 := Lib.hid (HPe.out w2 B2.out)
  clear HPe
  go_wp2_with fail
  refine HPe2.out.mono ?_
  rintro r w3 ⟨rfl, b3⟩
  have B3 := Lib.hid (B2.out.trans (b3.mono B2.out.size))
  clear HPe2 B2 b3
  obtain ⟨N, hN⟩ : ∃ N, w3.heap.size = N := ⟨_, rfl⟩
  go_upto_region 6 with fail
  obtain ⟨h, hg, hl, hid, hnk, hus, hnm, hT, hT2, hdn⟩ := H.out
  obtain ⟨W5, hW5⟩ : ∃ W5, w3.alloc (Obj.cells #[.int .i64 id, .string (bs e.nick), .string (bs e.user), .string (bs hostL), .string ⟨#[]⟩, .string ⟨#[]⟩, .bool false, .bool false, .int .i64 0, .int .i64 0] 61) = W5 := ⟨_, rfl⟩
  have k5 : W5.heap[N]? = some (Obj.cells #[.int .i64 id, .string (bs e.nick), .string (bs e.user), .string (bs hostL), .string ⟨#[]⟩, .string ⟨#[]⟩, .bool false, .bool false, .int .i64 0, .int .i64 0] 61 (0, 0)) := by rw [← hW5, ← hN]; exact heap_alloc_new w3 _
  have b5 : Below w3.heap.size w3 W5 := by
    rw [← hW5]
    exact (Below.refl _ w3).alloc (Nat.le_refl _) _
  have bW : Below w1.heap.size w1 W5 := B3.out.trans (b5.mono B3.out.size)
  have h5 := h.below bW
  have hCN : C N = ctag0 := h.cN N (by have := B3.out.size; omega)
  have hNlt : N < W5.heap.size := blk_lt k5
  have h5d := h5.fr (Fr.refl (fun _ => False) W5).drew fun _ _ e => e
  have HDe := Lib.hid (bok_delI h5d.hol (name := bs e.nick) (by simp; omega))
  rw [bs_list e.nick] at HDe
  have HAf : Hid (∀ W, BokI base W G.ht G.hb G.n0 (delM T (foldL e.nick)) → Fr (fun j => j = G.hb) W5.drew W → CoTo base G C K (delM T (foldL e.nick)) n W5 W) := fun W h1 h2 => CoTo.trans ⟨fun _ _ => rfl, (Fr.refl _ W5).drew⟩ (h5d.holTo h1 h2)
  have hcl : ∀ (C' : Nat → CTag) (K' : List (Int × CE)) (T' : List (KeyB × Ent VI)) W, CoAt base G C' K' T' n W → OntoC C C' W5 W → ClS G.c G.ht N e.nick W ∧ W.heap[N]? = some (Obj.cells #[.int .i64 id, .string (bs e.nick), .string (bs e.user), .string (bs hostL), .string ⟨#[]⟩, .string ⟨#[]⟩, .bool false, .bool false, .int .i64 0, .int .i64 0] 61 (0, 0)) := fun C' K' T' W h1 h2 =>
    have k := h2.2.blk k5 (by rw [hCN]; simp)
    ⟨⟨h1.cell 17, blk_cell k 1⟩, k⟩
  have HAS : Hid (∀ W, CoTo base G C K (delM T (foldL e.nick)) n W5 W → ClS G.c G.ht N e.nick W) := fun W ⟨C1, h1, h2⟩ => (hcl C1 _ _ W h1 h2).1
  have HS5 := Lib.hid (hcl C K T W5.drew h5d ⟨fun _ _ => rfl, (Fr.refl _ W5).drew⟩).1
  have HW5 := Lib.hid hW5
  have H5 := Lib.hid (And.intro bW (And.intro hcl hCN))
  have HN := Lib.hid hN
  clear h hg hl hid hnk hus hnm hT hT2 hdn hW5 k5 b5 bW h5 hCN hNlt h5d hcl hN
  rw [HW5.out]
  refine wp_region_held_drew (S := ClS G.c G.ht N e.nick) (by kernel_rfl) (by exact HS5.out) (fun hHeld => ?_)
  refine wpAnyH_read (i := 0) (oi := { dst := some 38, op := Go.Op.move (Go.Operand.tmp 0), type := 24, pos := "core.go:250", after := #[], guard := none }) ?_ rfl (by kernel_rfl) (by kernel_rfl) (by kernel_rfl) (fun _ _ _ h => h) (by rfl) (by assumption) ?_ ?_
  rotate_left
  · (intro w0 hS0; go_simp <;> (try with_reducible rfl))
  try simp only [Act.put, List.setIfInBounds_toArray, List.set_cons_zero, List.set_cons_succ]
  refine wpAnyH_read (i := 1) (oi := { dst := some 39, op := Go.Op.nilCheck (Go.Operand.tmp 38), type := 0, pos := "core.go:250", after := #[{ on := 0, ground := Go.Ground.data }], guard := none }) ?_ rfl (by kernel_rfl) (by kernel_rfl) (by kernel_rfl) (fun _ _ _ h => h) (by rfl) (by assumption) ?_ ?_
  rotate_left
  · (intro w0 hS0; go_simp <;> (try with_reducible rfl))
  try simp only [Act.put, List.setIfInBounds_toArray, List.set_cons_zero, List.set_cons_succ]
  refine wpAnyH_read (i := 2) (oi := { dst := some 40, op := Go.Op.fieldAddr 55 (Go.Operand.tmp 39) 3, type := 0, pos := "core.go:250", after := #[{ on := 1, ground := Go.Ground.data }], guard := none }) ?_ rfl (by kernel_rfl) (by kernel_rfl) (by kernel_rfl) (fun _ _ _ h => h) (by rfl) (by assumption) ?_ ?_
  rotate_left
  · (intro w0 hS0; go_simp <;> (try with_reducible rfl))
  try simp only [Act.put, List.setIfInBounds_toArray, List.set_cons_zero, List.set_cons_succ]
  refine wpAnyH_read (i := 4) (oi := { dst := some 42, op := Go.Op.fieldAddr 61 (Go.Operand.tmp 10) 1, type := 0, pos := "core.go:250", after := #[], guard := none }) ?_ rfl (by kernel_rfl) (by kernel_rfl) (by kernel_rfl) (fun _ _ _ h => h) (by rfl) (by assumption) ?_ ?_
  rotate_left
  · (intro w0 hS0; go_simp <;> (try with_reducible rfl))
  try simp only [Act.put, List.setIfInBounds_toArray, List.set_cons_zero, List.set_cons_succ]
  refine wpAnyH_read (i := 3) (oi := { dst := some 41, op := Go.Op.load 51 (Go.Operand.tmp 40), type := 51, pos := "core.go:250", after := #[{ on := 2, ground := Go.Ground.data }], guard := none }) ?_ rfl (by kernel_rfl) (by kernel_rfl) (by kernel_rfl) (fun _ _ _ h => h) (by rfl) (by assumption) ?_ ?_
  rotate_left
  · (intro w0 hS0; obtain ⟨s17, s1⟩ := hS0; (try clear hHeld); go_simp <;> (try with_reducible rfl))
  try simp only [Act.put, List.setIfInBounds_toArray, List.set_cons_zero, List.set_cons_succ]
  refine wpAnyH_read (i := 5) (oi := { dst := some 43, op := Go.Op.load 9 (Go.Operand.tmp 42), type := 9, pos := "core.go:250", after := #[{ on := 4, ground := Go.Ground.data }], guard := none }) ?_ rfl (by kernel_rfl) (by kernel_rfl) (by kernel_rfl) (fun _ _ _ h => h) (by rfl) (by assumption) ?_ ?_
  rotate_left
  · (intro w0 hS0; obtain ⟨s17, s1⟩ := hS0; (try clear hHeld); go_simp <;> (try with_reducible rfl))
  try simp only [Act.put, List.setIfInBounds_toArray, List.set_cons_zero, List.set_cons_succ]
  refine wpAnyH_one (i := 6) (o := { dst := some 44, op := Go.Op.call { callee := Go.Callee.value (Go.Operand.func 31), args := #[Go.Operand.tmp 41, Go.Operand.tmp 43], argTypes := #[51, 9] }, type := 4, pos := "core.go:250", after := #[{ on := 3, ground := Go.Ground.data }, { on := 5, ground := Go.Ground.data }], guard := none }) (by kernel_rfl) rfl (by rfl) (fun K hK => ?_)
  clear hHeld
  go_simp
  refine (HDe.out).mono ?_
  rintro r1 w6 ⟨rfl, hd6, hf6⟩
  have HT6 := Lib.hid (HAf.out _ hd6 hf6)
  have HS6 := Lib.hid (HAS.out _ HT6.out)
  clear hd6 hf6
  refine hK.out _ _ ?_ (fun hHeld => ?_)
  · exact HS6.out
  clear hK K
  try simp only [Act.put, List.setIfInBounds_toArray, List.set_cons_zero, List.set_cons_succ]
  refine wpAnyH_done (by kernel_rfl) ?_ _
  obtain ⟨h, hg, hl, hid, hnk, hus, hnm, hT, hT2, hdn⟩ := H.out
  obtain ⟨C6, h6, o6⟩ := HT6.out
  have c17 : w6.cell? ⟨G.c, 17, none⟩ = some (.pointer (some ⟨G.ht, 0, none⟩)) := h6.cell 17
  have hput := bok_putI h6.hol (name := bs nm) (v := id) (by simp; omega) hid (by have := len_delM_le T (foldL e.nick); omega)
  unfold PutPI at hput
  simp only [bs_list, thVI] at hput
  have HPut := Lib.hid hput
  have H6 := Lib.hid (And.intro h6 o6)
  clear h hg hl hid hnk hus hnm hT hT2 hdn h6 o6 hput
  go_wp2_with fail
  refine HPut.out.mono ?_
  rintro r w7 ⟨hq, hf7⟩
  obtain ⟨h, hg, hl, hid, hnk, hus, hnm, hT, hT2, hdn⟩ := H.out
  obtain ⟨h6, o6⟩ := H6.out
  rcases hq with ⟨_, rfl, hq⟩ | ⟨⟨_, hbad⟩, _, _⟩
  rotate_left
  · exact absurd hT (by omega)
  obtain ⟨C7, h7, o7⟩ := h6.holTo hq hf7
  have hbq : w7.heap[e.B]? = some (Obj.cells (connC e) 72 (0, 0)) := h7.conn _ (lookM_memP hl)
  have p5 := blk_cell hbq 5
  have i5 := blk_free hbq 5
  unfold connC at p5
  obtain ⟨W8, hW8⟩ : ∃ W8, w7.setCell ⟨e.B, 5, none⟩ (.string (bs nm)) = W8 := ⟨_, rfl⟩
  have hto8 : CoTo base G C7 (updM K id { e with nick := nm }) (setM (delM T (foldL e.nick)) (foldL nm) ⟨bs nm, foldL nm, id⟩) n w7 W8 := by
    rw [← hW8]
    exact h7.connTo hl (e' := { e with nick := nm }) rfl rfl rfl rfl (blk_set hbq 5 (.string (bs nm))) (Fr.setCell (Fr.refl (fun k => k = e.B) _) ⟨e.B, 5, none⟩ rfl (.string (bs nm)))
  obtain ⟨C8, h8, o8⟩ := hto8
  have oA : OntoC C C8 W5 W8 := (o6.trans o7).trans o8
  have hl8 : lookM (updM K id { e with nick := nm }) id = some { e with nick := nm } := by rw [look_updM hl, if_pos rfl]
  have p8 : (w7.setCell ⟨e.B, 5, none⟩ (.string (bs nm))).cell? ⟨e.B, 8, none⟩ = some (.bool true) := by rw [hW8, ← hdn]; exact h8.cellC hl8 8
  have k8 := (H5.out.2.1 C8 _ _ W8 h8 oA).2
  have n1 : (w7.setCell ⟨e.B, 5, none⟩ (.string (bs nm))).cell? ⟨N, 1, none⟩ = some (.string (bs e.nick)) := by rw [hW8]; exact blk_cell k8 1
  have H8 := Lib.hid (And.intro h8 (And.intro oA (And.intro hl8 k8)))
  have HW8 := Lib.hid hW8
  clear h hg hl hid hnk hus hnm hT hT2 hdn h6 o6 hq hf7 h7 o7 hbq hW8 h8 o8 oA hl8 k8 c17 HPut H6 HT6 HS6 HAf HAS HDe HS5
  have HSa : Hid (Calls Tryz.prog 33 #[.string (bs e.nick), .string (bs nm)] W8 fun r w' => r = .returned (.bool true) ∧ Below W8.heap.size W8 w') := by
    obtain ⟨h, hg, hl, hid, hnk, hus, hnm, hT, hT2, hdn⟩ := H.out
    refine (same_any (bs e.nick) (bs nm) W8 (by simp; omega) (by simp; omega)).mono ?_
    rintro r w' ⟨rfl, q, rfl⟩
    rw [bs_list, bs_list, HSM.out]
    exact ⟨rfl, ((Fr.refl (fun _ => False) W8).drewN q).below (Nat.le_refl _) fun _ _ e => e.elim⟩
  go_wp2_with fail
  rw [HW8.out]
  refine HSa.out.mono ?_
  rintro r w9 ⟨rfl, b9⟩
  have B9 := Lib.hid b9
  clear b9 HSa p8 n1
  go_wp2_with fail
  go_ret
  obtain ⟨h8, oA, hl8, k8⟩ := H8.out
  exact ⟨rfl, (CoTo.trans (OntoC.of_below C H5.out.1) ⟨C8, h8, oA⟩ : CoTo base G C (updM K id { e with nick := nm }) (setM (delM T (foldL e.nick)) (foldL nm) ⟨bs nm, foldL nm, id⟩) n w1 W8).then B9.out⟩
end
end Go.Proofs.YtpbobonddocgkaaGreatDoor
end
section
/- Layer 23: Claim of a nickname that somebody else holds; what the law's watcher is told, as mathematics. -/
namespace Go.Proofs.YtpbobonddocgkaaGreatDoor
open Go Go.RowKit Go.Maps Go.Lib Go.Sort Go.Shelf

def dg (n : Nat) : UInt8 := UInt8.ofNat (48 + n % 10)
theorem dg_nat (n : Nat) : (dg n).toNat = 48 + n % 10 := by simp [dg]; omega
theorem conv_dg {W : World} {B n : Nat} {m : Int} {T : TypeId} (hm : m = ((48 + n % 10 : Nat) : Int)) (hk : W.heap[B]? = some (.cells #[.int .u8 m] T (0, 0))) :
    ((convert 22 9 (.slice (some ⟨B, 0, none⟩) 1 1)).run Tryz.prog W).andThen (fun a w' => Result.ok (Next.value a) w') = .ok (.value (.string (bs [dg n]))) W := by
  have h : (convert 22 9 (.slice (some ⟨B, 0, none⟩) 1 1)).run Tryz.prog W = .ok (.string (bs [dg n])) W := by
    refine run_convert_bytes_back W _ _ 5 ⟨B, 0, none⟩ 1 [dg n] Tryz.underlying22 Tryz.underlying5 Tryz.underlying9 fun j hj => ?_
    obtain rfl : j = 0 := by simp at hj; omega
    have := blk_cell hk 0
    simp only [List.getElem_cons_zero, dg_nat]
    rw [← hm]
    exact this
  rw [h]; rfl
set_option maxRecDepth 100000 in
set_option maxHeartbeats 4000000 in
theorem digits_one (n : Nat) (h : n < 10) (w : World) : Calls Tryz.prog 8 #[.int .i64 n] w fun e w' => e = .returned (.string (bs [dg n])) ∧ RowKit.Below w.heap.size w w' := by
  have h1 : ((n : Int) < 10) := by omega
  have q1 : decide ((n : Int) < 10) = true := by simp; omega
  have hc := conv_dg (n := n) (m := 48 + (n : Int)) (by omega) (heap_alloc_new w (Obj.cells #[Value.int IntKind.u8 (48 + (n : Int))] 5))
  go_enter Tryz.func8, Tryz.ntmps8
  go_wp2_with fail
  go_ret
  exact ⟨rfl, (Below.refl _ w).alloc (Nat.le_refl _) _⟩
section
variable {base : Nat} {w w' : World} {G : CoG} {C : Nat → CTag} {K : List (Int × CE)} {T : List (KeyB × Ent VI)} {n : Nat}
set_option maxRecDepth 100000 in
set_option maxHeartbeats 16000000 in
theorem claim_no (h : CoAt base G C K T n w) (hg : GlobB base w) {id : Int} {e : CE} {en : Ent VI} (hl : lookM K id = some e) {nm : List UInt8} (hnm : nm.length ≤ 100) (hv : dec (NickP (bs nm)) = true) (hh : lookM T (foldL nm) = some en) (hen : en.thing ≠ id) :
    Calls Tryz.prog 7 #[.pointer (some ⟨G.c, 0, none⟩), .int .i64 id, .string (bs nm)] w fun r w' => r = .returned (.bool false) ∧ Below w.heap.size w w' := by
  have HL := Lib.hid (live_some h hl)
  have hho := holder_any h (nm := nm) (by omega)
  rw [hh] at hho
  simp only [Option.getD_some, Option.isSome_some] at hho
  have HHo := Lib.hid hho
  have HNi := Lib.hid (fun W (hW : Below w.heap.size w W) => (by have := nick_v (bs nm) W (by simp; omega) (hg.onto (hW.mono h.base_le)).glob.1; rw [hv] at this; exact this : Calls Tryz.prog 29 #[.string (bs nm)] W fun e w' => e = .returned (.bool true) ∧ W = w'))
  obtain ⟨x, hx⟩ : ∃ x, en.thing = x := ⟨_, rfl⟩
  rw [hx] at HHo hen
  have hne : (x != id) = true := by simpa using hen
  clear h hg hl hh hho hx
  go_enter Tryz.func7, Tryz.ntmps7
  go_wp2_with fail
  refine HL.out.mono ?_
  rintro r w1 ⟨rfl, rfl⟩
  clear HL
  go_wp2_with fail
  refine HHo.out.mono ?_
  rintro r w2 ⟨rfl, b2⟩
  have HNi2 := Lib.hid (HNi.out w2 b2)
  have B2 := Lib.hid b2
  clear HHo HNi b2
  go_wp2_with fail
  refine HNi2.out.mono ?_
  rintro r w2' ⟨rfl, rfl⟩
  clear HNi2
  go_wp2_with fail
  go_ret
  exact ⟨rfl, B2.out⟩
end
/-- a line that tells that x is held -/
def upL : List UInt8 := [58, 105, 114, 99, 46, 120, 32, 55, 51, 48, 32, 110, 49, 32, 120, 33, 117, 64, 104, 13, 10]
/-- .. that it isn't any more -/
def downL : List UInt8 := [58, 105, 114, 99, 46, 120, 32, 55, 51, 49, 32, 110, 49, 32, 120, 13, 10]
def txL (on : Bool) : List UInt8 := if on then downL else upL
/-- so many lines, in turn -/
def restL : Nat → Bool → List UInt8
  | 0, _ => []
  | m + 1, on => txL on ++ restL m (!on)
def par (m : Nat) : Bool := m % 2 == 1
theorem par_succ (m : Nat) : par (m + 1) = !par m := by
  unfold par
  rcases Nat.mod_two_eq_zero_or_one m with h | h
  · have : (m + 1) % 2 = 1 := by omega
    rw [h, this]; rfl
  · have : (m + 1) % 2 = 0 := by omega
    rw [h, this]; rfl
theorem restL_snoc : ∀ (m : Nat) (on : Bool), restL (m + 1) on = restL m on ++ txL (on != par m)
  | 0, on => by simp [restL, par]
  | m + 1, on => by
    show txL on ++ restL (m + 1) (!on) = (txL on ++ restL m (!on)) ++ _
    rw [restL_snoc m (!on), par_succ, List.append_assoc]
    congr 3
    cases on <;> cases par m <;> rfl
theorem txL_len (on : Bool) : (txL on).length ≤ 21 := by cases on <;> decide
theorem restL_len : ∀ (m : Nat) (on : Bool), (restL m on).length ≤ 21 * m
  | 0, _ => by simp [restL]
  | m + 1, on => by
    show (txL on ++ restL m (!on)).length ≤ _
    rw [List.length_append]
    have := txL_len on; have := restL_len m (!on); omega
def n1L : List UInt8 := [110, 49]
theorem up_line : numL nameL n1L 730 [whoL [120] [117] hostL] ++ [13, 10] = upL := by rfl
theorem down_line : numL nameL n1L 731 [[120]] ++ [13, 10] = downL := by rfl
/-- who has which nickname: x has number s, if anybody has it -/
def nk (s i : Nat) : List UInt8 := if s = i then [120] else [110, dg i]
def ent (l : List UInt8) (i : Int) : KeyB × Ent VI := (foldL l, ⟨bs l, foldL l, i⟩)
def tab (s : Nat) : List (KeyB × Ent VI) := [ent n1L 1, ent (nk s 2) 2, ent (nk s 3) 3]
theorem perm_step {T T0 : List (KeyB × Ent VI)} (hp : T.Perm T0) (a b : KeyB) (v : Ent VI) : (setM (delM T a) b v).Perm (setM (delM T0 a) b v) := by
  unfold setM delM; exact ((hp.filter _).filter _).append_right _
theorem look_perm {T T0 : List (KeyB × Ent VI)} (hp : T.Perm T0) (hn : (T0.map (·.1)).Nodup) (k : KeyB) : lookM T k = lookM T0 k := by
  have hn2 : (T.map (·.1)).Nodup := (hp.map _).nodup_iff.2 hn
  cases h : lookM T0 k with
  | none =>
    cases h2 : lookM T k with
    | none => rfl
    | some v =>
      have := mem_lookM hn (hp.mem_iff.1 (lookM_memP h2))
      rw [h] at this; cases this
  | some v => exact mem_lookM hn2 (hp.mem_iff.2 (lookM_memP h))
theorem tab_nodup (s : Nat) (hs : s = 0 ∨ s = 2 ∨ s = 3) : ((tab s).map (·.1)).Nodup := by rcases hs with rfl | rfl | rfl <;> decide
def q0S : QS := ⟨65536, [], 0, false, false⟩
def c1E (B q f : Nat) (ob : Option Nat) (j : Nat) : CE := ⟨B, q, f, ob, n1L, [117], true, ⟨65536, restL j false, 0, false, false⟩⟩
def cnE (i s B q f : Nat) : CE := ⟨B, q, f, none, nk s i, [117], true, q0S⟩
/-- the three, as they lie; what waits for the first -/
def StO (base : Nat) (G : CoG) (s j : Nat) (W : World) : Prop := ∃ C B1 q1 f1 ob B2 q2 f2 B3 q3 f3 T, CoAt base G C [(1, c1E B1 q1 f1 ob j), (2, cnE 2 s B2 q2 f2), (3, cnE 3 s B3 q3 f3)] T 6 W ∧ T.Perm (tab s) ∧ GlobB base W
theorem StO.below {base : Nat} {G : CoG} {s j : Nat} {W W' : World} (h : StO base G s j W) (hb : RowKit.Below W.heap.size W W') : StO base G s j W' := by
  obtain ⟨C, B1, q1, f1, ob, B2, q2, f2, B3, q3, f3, T, h1, h2, h3⟩ := h
  exact ⟨C, B1, q1, f1, ob, B2, q2, f2, B3, q3, f3, T, h1.below hb, h2, h3.onto (hb.mono h1.base_le)⟩
theorem takes_line {j : Nat} (hj : j ≤ 40) {l : List UInt8} (hf : fitQ q0S l = true) (hl : l.length ≤ 100) : Takes ⟨65536, restL j false, 0, false, false⟩ l := by
  have h1 := restL_len j false
  refine ⟨hf, ?_, (by decide : (0 : Int) ≤ 65536), (by decide : (65536 : Int) ≤ 65536), by show (restL j false).length ≤ 100000; omega, by omega⟩
  unfold roomQ
  simp only [decide_eq_true_eq]
  omega
theorem mem_watch (a : Int) (nm : List UInt8) : (a, foldL nm) ∈ ([(1, [88])] : List WEnt).map fkW ↔ a = 1 ∧ foldL nm = foldL [88] := by simp [fkW]
end Go.Proofs.YtpbobonddocgkaaGreatDoor
end
section
/- Layer 23: one claim of the law CoreOnce. -/
namespace Go.Proofs.YtpbobonddocgkaaGreatDoor
open Go Go.RowKit Go.Maps Go.Lib Go.Sort Go.Shelf

theorem nick_x : dec (NickP (bs [120])) = true := by
  refine dec_iff.2 ⟨by decide, fun i hi => ?_⟩
  have hi' : i < 1 := hi
  obtain rfl : i = 0 := by omega
  rfl
theorem nick_n (d : Nat) (hd : d = 1 ∨ d = 2 ∨ d = 3) : dec (NickP (bs [110, dg d])) = true := by
  refine dec_iff.2 ⟨⟨(show 1 ≤ 2 by decide), (show 2 ≤ 16 by decide)⟩, fun i hi => ?_⟩
  have hi' : i < 2 := hi
  rcases hd with rfl | rfl | rfl <;> rcases (by omega : i = 0 ∨ i = 1) with rfl | rfl <;> rfl
theorem nick_n2 : dec (NickP (bs [110, dg 2])) = true := nick_n 2 (by decide)
theorem nick_n3 : dec (NickP (bs [110, dg 3])) = true := nick_n 3 (by decide)
theorem pushed_up {B q f : Nat} {ob ob2 : Option Nat} {j : Nat} (hp : par j = false) : pushed (c1E B q f ob j) (numL nameL n1L 730 [whoL [120] [117] hostL]) ob2 = c1E B q f ob2 (j + 1) := by
  unfold pushed c1E
  rw [restL_snoc, hp, show txL (false != false) = upL from rfl, ← up_line, ← List.append_assoc]
theorem pushed_down {B q f : Nat} {ob ob2 : Option Nat} {j : Nat} (hp : par j = true) : pushed (c1E B q f ob j) (numL nameL n1L 731 [[120]]) ob2 = c1E B q f ob2 (j + 1) := by
  unfold pushed c1E
  rw [restL_snoc, hp, show txL (false != true) = downL from rfl, ← down_line, ← List.append_assoc]
/-- what one claim of the law does -/
def StepO (base : Nat) (G : CoG) (j : Nat) (w : World) (r : Ending) (w' : World) : Prop := (∃ v, r = .returned (.bool v)) ∧ (∃ s' j', StO base G s' j' w' ∧ (s' = 0 ∨ s' = 2 ∨ s' = 3) ∧ j' ≤ j + 1 ∧ par j' = decide (s' ≠ 0)) ∧ RowKit.Below base w w'
section
variable {base : Nat} {w w' : World} {G : CoG} {j : Nat}
set_option maxRecDepth 100000 in
set_option maxHeartbeats 4000000 in
theorem step_0_2_x (h : StO base G 0 j w) (hU : G.U = [(1, [88])]) (h9 : G.n0 = 9) (hj : j ≤ 39) (hp : par j = false) : Calls Tryz.prog 7 #[.pointer (some ⟨G.c, 0, none⟩), .int .i64 2, .string (bs [120])] w (StepO base G j w) := by
  obtain ⟨C, B1, q1, f1, ob, B2, q2, f2, B3, q3, f3, T, h1, h2, h3⟩ := h
  have hl : lookM [((1 : Int), c1E B1 q1 f1 ob j), (2, cnE 2 0 B2 q2 f2), (3, cnE 3 0 B3 q3 f3)] 2 = some (cnE 2 0 B2 q2 f2) := rfl
  have hh : lookM T (foldL [120]) = none := (look_perm h2 (tab_nodup 0 (by decide)) _).trans rfl
  have hT2 : T.length ≤ 1000 := by have := h2.length_eq; have h4 : (tab 0).length = 3 := rfl; omega
  have hT : ((delM T (foldL (cnE 2 0 B2 q2 f2).nick)).length : Int) < G.n0 := by rw [h9]; have := len_delM_le T (foldL (cnE 2 0 B2 q2 f2).nick); have := h2.length_eq; have h4 : (tab 0).length = 3 := rfl; omega
  refine (claim_move h1 h3 hl rfl (show (nk 0 2).length ≤ 100 by decide) (show ([117] : List UInt8).length ≤ 100 by decide) (show ([120] : List UInt8).length ≤ 100 by decide) nick_x hh hT hT2 (by rfl) (by rw [hU]; decide) (E1 := []) (E2 := [1]) (fun a => by rw [hU, mem_watch]; exact ⟨fun q => by simp at q, fun q => absurd q.2 (show ¬ foldL (nk 0 2) = foldL [88] by decide)⟩) (fun a => by rw [hU, mem_watch]; exact ⟨fun q => ⟨by simpa using q, (show foldL ([120]) = foldL [88] by decide)⟩, fun q => by simp [q.1]⟩) (i := 1) (ei := c1E B1 q1 f1 ob j) (by decide) rfl (show n1L.length ≤ 1000 by decide) (.inl rfl) (.inr ⟨rfl, rfl⟩) (fun q => by cases q) (fun _ => show Takes ⟨65536, restL j false, 0, false, false⟩ (numL nameL n1L 730 [whoL [120] [117] hostL]) from takes_line (by omega) (by rfl) (by decide))).mono ?_
  rintro r w1 ⟨rfl, ob1, ob2, C1, k1, o1⟩
  have k2 : CoAt base G C1 (updM (updM [((1 : Int), c1E B1 q1 f1 ob j), (2, cnE 2 0 B2 q2 f2), (3, cnE 3 0 B3 q3 f3)] 2 { (cnE 2 0 B2 q2 f2) with nick := [120] }) 1 (pushed (c1E B1 q1 f1 ob j) (numL nameL n1L 730 [whoL [120] [117] hostL]) ob2)) _ 6 w1 := k1
  rw [pushed_up hp] at k2
  exact ⟨⟨_, rfl⟩, ⟨2, j + 1, ⟨C1, B1, q1, f1, ob2, B2, q2, f2, B3, q3, f3, _, k2, (perm_step h2 _ _ _).trans (show List.Perm [ent n1L 1, ent (nk 0 3) 3, ent [120] 2] (tab 2) from (List.Perm.swap _ _ _).cons _), h3.onto (h1.up o1)⟩, by decide, by omega, by rw [par_succ, hp]; rfl⟩, h1.up o1⟩
set_option maxRecDepth 100000 in
set_option maxHeartbeats 4000000 in
theorem step_0_2_n (h : StO base G 0 j w) (hU : G.U = [(1, [88])]) (h9 : G.n0 = 9) (hj : j ≤ 39) (hp : par j = false) : Calls Tryz.prog 7 #[.pointer (some ⟨G.c, 0, none⟩), .int .i64 2, .string (bs [110, dg 2])] w (StepO base G j w) := by
  obtain ⟨C, B1, q1, f1, ob, B2, q2, f2, B3, q3, f3, T, h1, h2, h3⟩ := h
  have hl : lookM [((1 : Int), c1E B1 q1 f1 ob j), (2, cnE 2 0 B2 q2 f2), (3, cnE 3 0 B3 q3 f3)] 2 = some (cnE 2 0 B2 q2 f2) := rfl
  have hh : lookM T (foldL [110, dg 2]) = some ⟨bs [110, dg 2], foldL [110, dg 2], 2⟩ := (look_perm h2 (tab_nodup 0 (by decide)) _).trans rfl
  have hT2 : T.length ≤ 1000 := by have := h2.length_eq; have h4 : (tab 0).length = 3 := rfl; omega
  have hT : ((delM T (foldL (cnE 2 0 B2 q2 f2).nick)).length : Int) < G.n0 := by rw [h9]; have := len_delM_le T (foldL (cnE 2 0 B2 q2 f2).nick); have := h2.length_eq; have h4 : (tab 0).length = 3 := rfl; omega
  refine (claim_own h1 h3 hl rfl (show (nk 0 2).length ≤ 100 by decide) (show ([117] : List UInt8).length ≤ 100 by decide) (show ([110, dg 2] : List UInt8).length ≤ 100 by decide) nick_n2 hh rfl hT hT2 (by rfl)).mono ?_
  rintro r w1 ⟨rfl, C1, k1, o1⟩
  exact ⟨⟨_, rfl⟩, ⟨0, j, ⟨C1, B1, q1, f1, ob, B2, q2, f2, B3, q3, f3, _, k1, (perm_step h2 _ _ _).trans (show List.Perm [ent n1L 1, ent (nk 0 3) 3, ent [110, dg 2] 2] (tab 0) from (List.Perm.swap _ _ _).cons _), h3.onto (h1.up o1)⟩, by decide, by omega, hp⟩, h1.up o1⟩
set_option maxRecDepth 100000 in
set_option maxHeartbeats 4000000 in
theorem step_0_3_x (h : StO base G 0 j w) (hU : G.U = [(1, [88])]) (h9 : G.n0 = 9) (hj : j ≤ 39) (hp : par j = false) : Calls Tryz.prog 7 #[.pointer (some ⟨G.c, 0, none⟩), .int .i64 3, .string (bs [120])] w (StepO base G j w) := by
  obtain ⟨C, B1, q1, f1, ob, B2, q2, f2, B3, q3, f3, T, h1, h2, h3⟩ := h
  have hl : lookM [((1 : Int), c1E B1 q1 f1 ob j), (2, cnE 2 0 B2 q2 f2), (3, cnE 3 0 B3 q3 f3)] 3 = some (cnE 3 0 B3 q3 f3) := rfl
  have hh : lookM T (foldL [120]) = none := (look_perm h2 (tab_nodup 0 (by decide)) _).trans rfl
  have hT2 : T.length ≤ 1000 := by have := h2.length_eq; have h4 : (tab 0).length = 3 := rfl; omega
  have hT : ((delM T (foldL (cnE 3 0 B3 q3 f3).nick)).length : Int) < G.n0 := by rw [h9]; have := len_delM_le T (foldL (cnE 3 0 B3 q3 f3).nick); have := h2.length_eq; have h4 : (tab 0).length = 3 := rfl; omega
  refine (claim_move h1 h3 hl rfl (show (nk 0 3).length ≤ 100 by decide) (show ([117] : List UInt8).length ≤ 100 by decide) (show ([120] : List UInt8).length ≤ 100 by decide) nick_x hh hT hT2 (by rfl) (by rw [hU]; decide) (E1 := []) (E2 := [1]) (fun a => by rw [hU, mem_watch]; exact ⟨fun q => by simp at q, fun q => absurd q.2 (show ¬ foldL (nk 0 3) = foldL [88] by decide)⟩) (fun a => by rw [hU, mem_watch]; exact ⟨fun q => ⟨by simpa using q, (show foldL ([120]) = foldL [88] by decide)⟩, fun q => by simp [q.1]⟩) (i := 1) (ei := c1E B1 q1 f1 ob j) (by decide) rfl (show n1L.length ≤ 1000 by decide) (.inl rfl) (.inr ⟨rfl, rfl⟩) (fun q => by cases q) (fun _ => show Takes ⟨65536, restL j false, 0, false, false⟩ (numL nameL n1L 730 [whoL [120] [117] hostL]) from takes_line (by omega) (by rfl) (by decide))).mono ?_
  rintro r w1 ⟨rfl, ob1, ob2, C1, k1, o1⟩
  have k2 : CoAt base G C1 (updM (updM [((1 : Int), c1E B1 q1 f1 ob j), (2, cnE 2 0 B2 q2 f2), (3, cnE 3 0 B3 q3 f3)] 3 { (cnE 3 0 B3 q3 f3) with nick := [120] }) 1 (pushed (c1E B1 q1 f1 ob j) (numL nameL n1L 730 [whoL [120] [117] hostL]) ob2)) _ 6 w1 := k1
  rw [pushed_up hp] at k2
  exact ⟨⟨_, rfl⟩, ⟨3, j + 1, ⟨C1, B1, q1, f1, ob2, B2, q2, f2, B3, q3, f3, _, k2, (perm_step h2 _ _ _).trans (show List.Perm [ent n1L 1, ent (nk 0 2) 2, ent [120] 3] (tab 3) from List.Perm.refl _), h3.onto (h1.up o1)⟩, by decide, by omega, by rw [par_succ, hp]; rfl⟩, h1.up o1⟩
set_option maxRecDepth 100000 in
set_option maxHeartbeats 4000000 in
theorem step_0_3_n (h : StO base G 0 j w) (hU : G.U = [(1, [88])]) (h9 : G.n0 = 9) (hj : j ≤ 39) (hp : par j = false) : Calls Tryz.prog 7 #[.pointer (some ⟨G.c, 0, none⟩), .int .i64 3, .string (bs [110, dg 3])] w (StepO base G j w) := by
  obtain ⟨C, B1, q1, f1, ob, B2, q2, f2, B3, q3, f3, T, h1, h2, h3⟩ := h
  have hl : lookM [((1 : Int), c1E B1 q1 f1 ob j), (2, cnE 2 0 B2 q2 f2), (3, cnE 3 0 B3 q3 f3)] 3 = some (cnE 3 0 B3 q3 f3) := rfl
  have hh : lookM T (foldL [110, dg 3]) = some ⟨bs [110, dg 3], foldL [110, dg 3], 3⟩ := (look_perm h2 (tab_nodup 0 (by decide)) _).trans rfl
  have hT2 : T.length ≤ 1000 := by have := h2.length_eq; have h4 : (tab 0).length = 3 := rfl; omega
  have hT : ((delM T (foldL (cnE 3 0 B3 q3 f3).nick)).length : Int) < G.n0 := by rw [h9]; have := len_delM_le T (foldL (cnE 3 0 B3 q3 f3).nick); have := h2.length_eq; have h4 : (tab 0).length = 3 := rfl; omega
  refine (claim_own h1 h3 hl rfl (show (nk 0 3).length ≤ 100 by decide) (show ([117] : List UInt8).length ≤ 100 by decide) (show ([110, dg 3] : List UInt8).length ≤ 100 by decide) nick_n3 hh rfl hT hT2 (by rfl)).mono ?_
  rintro r w1 ⟨rfl, C1, k1, o1⟩
  exact ⟨⟨_, rfl⟩, ⟨0, j, ⟨C1, B1, q1, f1, ob, B2, q2, f2, B3, q3, f3, _, k1, (perm_step h2 _ _ _).trans (show List.Perm [ent n1L 1, ent (nk 0 2) 2, ent [110, dg 3] 3] (tab 0) from List.Perm.refl _), h3.onto (h1.up o1)⟩, by decide, by omega, hp⟩, h1.up o1⟩
set_option maxRecDepth 100000 in
set_option maxHeartbeats 4000000 in
theorem step_2_2_x (h : StO base G 2 j w) (hU : G.U = [(1, [88])]) (h9 : G.n0 = 9) (hj : j ≤ 39) (hp : par j = true) : Calls Tryz.prog 7 #[.pointer (some ⟨G.c, 0, none⟩), .int .i64 2, .string (bs [120])] w (StepO base G j w) := by
  obtain ⟨C, B1, q1, f1, ob, B2, q2, f2, B3, q3, f3, T, h1, h2, h3⟩ := h
  have hl : lookM [((1 : Int), c1E B1 q1 f1 ob j), (2, cnE 2 2 B2 q2 f2), (3, cnE 3 2 B3 q3 f3)] 2 = some (cnE 2 2 B2 q2 f2) := rfl
  have hh : lookM T (foldL [120]) = some ⟨bs [120], foldL [120], 2⟩ := (look_perm h2 (tab_nodup 2 (by decide)) _).trans rfl
  have hT2 : T.length ≤ 1000 := by have := h2.length_eq; have h4 : (tab 2).length = 3 := rfl; omega
  have hT : ((delM T (foldL (cnE 2 2 B2 q2 f2).nick)).length : Int) < G.n0 := by rw [h9]; have := len_delM_le T (foldL (cnE 2 2 B2 q2 f2).nick); have := h2.length_eq; have h4 : (tab 2).length = 3 := rfl; omega
  refine (claim_own h1 h3 hl rfl (show (nk 2 2).length ≤ 100 by decide) (show ([117] : List UInt8).length ≤ 100 by decide) (show ([120] : List UInt8).length ≤ 100 by decide) nick_x hh rfl hT hT2 (by rfl)).mono ?_
  rintro r w1 ⟨rfl, C1, k1, o1⟩
  exact ⟨⟨_, rfl⟩, ⟨2, j, ⟨C1, B1, q1, f1, ob, B2, q2, f2, B3, q3, f3, _, k1, (perm_step h2 _ _ _).trans (show List.Perm [ent n1L 1, ent (nk 2 3) 3, ent [120] 2] (tab 2) from (List.Perm.swap _ _ _).cons _), h3.onto (h1.up o1)⟩, by decide, by omega, hp⟩, h1.up o1⟩
set_option maxRecDepth 100000 in
set_option maxHeartbeats 4000000 in
theorem step_2_2_n (h : StO base G 2 j w) (hU : G.U = [(1, [88])]) (h9 : G.n0 = 9) (hj : j ≤ 39) (hp : par j = true) : Calls Tryz.prog 7 #[.pointer (some ⟨G.c, 0, none⟩), .int .i64 2, .string (bs [110, dg 2])] w (StepO base G j w) := by
  obtain ⟨C, B1, q1, f1, ob, B2, q2, f2, B3, q3, f3, T, h1, h2, h3⟩ := h
  have hl : lookM [((1 : Int), c1E B1 q1 f1 ob j), (2, cnE 2 2 B2 q2 f2), (3, cnE 3 2 B3 q3 f3)] 2 = some (cnE 2 2 B2 q2 f2) := rfl
  have hh : lookM T (foldL [110, dg 2]) = none := (look_perm h2 (tab_nodup 2 (by decide)) _).trans rfl
  have hT2 : T.length ≤ 1000 := by have := h2.length_eq; have h4 : (tab 2).length = 3 := rfl; omega
  have hT : ((delM T (foldL (cnE 2 2 B2 q2 f2).nick)).length : Int) < G.n0 := by rw [h9]; have := len_delM_le T (foldL (cnE 2 2 B2 q2 f2).nick); have := h2.length_eq; have h4 : (tab 2).length = 3 := rfl; omega
  refine (claim_move h1 h3 hl rfl (show (nk 2 2).length ≤ 100 by decide) (show ([117] : List UInt8).length ≤ 100 by decide) (show ([110, dg 2] : List UInt8).length ≤ 100 by decide) nick_n2 hh hT hT2 (by rfl) (by rw [hU]; decide) (E1 := [1]) (E2 := []) (fun a => by rw [hU, mem_watch]; exact ⟨fun q => ⟨by simpa using q, (show foldL (nk 2 2) = foldL [88] by decide)⟩, fun q => by simp [q.1]⟩) (fun a => by rw [hU, mem_watch]; exact ⟨fun q => by simp at q, fun q => absurd q.2 (show ¬ foldL ([110, dg 2]) = foldL [88] by decide)⟩) (i := 1) (ei := c1E B1 q1 f1 ob j) (by decide) rfl (show n1L.length ≤ 1000 by decide) (.inr rfl) (.inl rfl) (fun _ => show Takes ⟨65536, restL j false, 0, false, false⟩ (numL nameL n1L 731 [[120]]) from takes_line (by omega) (by rfl) (by decide)) (fun q => by cases q)).mono ?_
  rintro r w1 ⟨rfl, ob1, ob2, C1, k1, o1⟩
  have k2 : CoAt base G C1 (updM (updM [((1 : Int), c1E B1 q1 f1 ob j), (2, cnE 2 2 B2 q2 f2), (3, cnE 3 2 B3 q3 f3)] 2 { (cnE 2 2 B2 q2 f2) with nick := [110, dg 2] }) 1 (pushed (c1E B1 q1 f1 ob j) (numL nameL n1L 731 [[120]]) ob1)) _ 6 w1 := k1
  rw [pushed_down hp] at k2
  exact ⟨⟨_, rfl⟩, ⟨0, j + 1, ⟨C1, B1, q1, f1, ob1, B2, q2, f2, B3, q3, f3, _, k2, (perm_step h2 _ _ _).trans (show List.Perm [ent n1L 1, ent (nk 2 3) 3, ent [110, dg 2] 2] (tab 0) from (List.Perm.swap _ _ _).cons _), h3.onto (h1.up o1)⟩, by decide, by omega, by rw [par_succ, hp]; rfl⟩, h1.up o1⟩
set_option maxRecDepth 100000 in
set_option maxHeartbeats 4000000 in
theorem step_2_3_x (h : StO base G 2 j w) (hU : G.U = [(1, [88])]) (h9 : G.n0 = 9) (hj : j ≤ 39) (hp : par j = true) : Calls Tryz.prog 7 #[.pointer (some ⟨G.c, 0, none⟩), .int .i64 3, .string (bs [120])] w (StepO base G j w) := by
  obtain ⟨C, B1, q1, f1, ob, B2, q2, f2, B3, q3, f3, T, h1, h2, h3⟩ := h
  have hl : lookM [((1 : Int), c1E B1 q1 f1 ob j), (2, cnE 2 2 B2 q2 f2), (3, cnE 3 2 B3 q3 f3)] 3 = some (cnE 3 2 B3 q3 f3) := rfl
  have hh : lookM T (foldL [120]) = some ⟨bs [120], foldL [120], 2⟩ := (look_perm h2 (tab_nodup 2 (by decide)) _).trans rfl
  have hT2 : T.length ≤ 1000 := by have := h2.length_eq; have h4 : (tab 2).length = 3 := rfl; omega
  refine (claim_no h1 h3 hl (show ([120] : List UInt8).length ≤ 100 by decide) nick_x hh (show (2 : Int) ≠ 3 by decide)).mono ?_
  rintro r w1 ⟨rfl, hb⟩
  exact ⟨⟨_, rfl⟩, ⟨2, j, (StO.below ⟨C, B1, q1, f1, ob, B2, q2, f2, B3, q3, f3, T, h1, h2, h3⟩ hb), by decide, by omega, hp⟩, hb.mono h1.base_le⟩
set_option maxRecDepth 100000 in
set_option maxHeartbeats 4000000 in
theorem step_2_3_n (h : StO base G 2 j w) (hU : G.U = [(1, [88])]) (h9 : G.n0 = 9) (hj : j ≤ 39) (hp : par j = true) : Calls Tryz.prog 7 #[.pointer (some ⟨G.c, 0, none⟩), .int .i64 3, .string (bs [110, dg 3])] w (StepO base G j w) := by
  obtain ⟨C, B1, q1, f1, ob, B2, q2, f2, B3, q3, f3, T, h1, h2, h3⟩ := h
  have hl : lookM [((1 : Int), c1E B1 q1 f1 ob j), (2, cnE 2 2 B2 q2 f2), (3, cnE 3 2 B3 q3 f3)] 3 = some (cnE 3 2 B3 q3 f3) := rfl
  have hh : lookM T (foldL [110, dg 3]) = some ⟨bs [110, dg 3], foldL [110, dg 3], 3⟩ := (look_perm h2 (tab_nodup 2 (by decide)) _).trans rfl
  have hT2 : T.length ≤ 1000 := by have := h2.length_eq; have h4 : (tab 2).length = 3 := rfl; omega
  have hT : ((delM T (foldL (cnE 3 2 B3 q3 f3).nick)).length : Int) < G.n0 := by rw [h9]; have := len_delM_le T (foldL (cnE 3 2 B3 q3 f3).nick); have := h2.length_eq; have h4 : (tab 2).length = 3 := rfl; omega
  refine (claim_own h1 h3 hl rfl (show (nk 2 3).length ≤ 100 by decide) (show ([117] : List UInt8).length ≤ 100 by decide) (show ([110, dg 3] : List UInt8).length ≤ 100 by decide) nick_n3 hh rfl hT hT2 (by rfl)).mono ?_
  rintro r w1 ⟨rfl, C1, k1, o1⟩
  exact ⟨⟨_, rfl⟩, ⟨2, j, ⟨C1, B1, q1, f1, ob, B2, q2, f2, B3, q3, f3, _, k1, (perm_step h2 _ _ _).trans (show List.Perm [ent n1L 1, ent (nk 2 2) 2, ent [110, dg 3] 3] (tab 2) from List.Perm.refl _), h3.onto (h1.up o1)⟩, by decide, by omega, hp⟩, h1.up o1⟩
set_option maxRecDepth 100000 in
set_option maxHeartbeats 4000000 in
theorem step_3_2_x (h : StO base G 3 j w) (hU : G.U = [(1, [88])]) (h9 : G.n0 = 9) (hj : j ≤ 39) (hp : par j = true) : Calls Tryz.prog 7 #[.pointer (some ⟨G.c, 0, none⟩), .int .i64 2, .string (bs [120])] w (StepO base G j w) := by
  obtain ⟨C, B1, q1, f1, ob, B2, q2, f2, B3, q3, f3, T, h1, h2, h3⟩ := h
  have hl : lookM [((1 : Int), c1E B1 q1 f1 ob j), (2, cnE 2 3 B2 q2 f2), (3, cnE 3 3 B3 q3 f3)] 2 = some (cnE 2 3 B2 q2 f2) := rfl
  have hh : lookM T (foldL [120]) = some ⟨bs [120], foldL [120], 3⟩ := (look_perm h2 (tab_nodup 3 (by decide)) _).trans rfl
  have hT2 : T.length ≤ 1000 := by have := h2.length_eq; have h4 : (tab 3).length = 3 := rfl; omega
  refine (claim_no h1 h3 hl (show ([120] : List UInt8).length ≤ 100 by decide) nick_x hh (show (3 : Int) ≠ 2 by decide)).mono ?_
  rintro r w1 ⟨rfl, hb⟩
  exact ⟨⟨_, rfl⟩, ⟨3, j, (StO.below ⟨C, B1, q1, f1, ob, B2, q2, f2, B3, q3, f3, T, h1, h2, h3⟩ hb), by decide, by omega, hp⟩, hb.mono h1.base_le⟩
set_option maxRecDepth 100000 in
set_option maxHeartbeats 4000000 in
theorem step_3_2_n (h : StO base G 3 j w) (hU : G.U = [(1, [88])]) (h9 : G.n0 = 9) (hj : j ≤ 39) (hp : par j = true) : Calls Tryz.prog 7 #[.pointer (some ⟨G.c, 0, none⟩), .int .i64 2, .string (bs [110, dg 2])] w (StepO base G j w) := by
  obtain ⟨C, B1, q1, f1, ob, B2, q2, f2, B3, q3, f3, T, h1, h2, h3⟩ := h
  have hl : lookM [((1 : Int), c1E B1 q1 f1 ob j), (2, cnE 2 3 B2 q2 f2), (3, cnE 3 3 B3 q3 f3)] 2 = some (cnE 2 3 B2 q2 f2) := rfl
  have hh : lookM T (foldL [110, dg 2]) = some ⟨bs [110, dg 2], foldL [110, dg 2], 2⟩ := (look_perm h2 (tab_nodup 3 (by decide)) _).trans rfl
  have hT2 : T.length ≤ 1000 := by have := h2.length_eq; have h4 : (tab 3).length = 3 := rfl; omega
  have hT : ((delM T (foldL (cnE 2 3 B2 q2 f2).nick)).length : Int) < G.n0 := by rw [h9]; have := len_delM_le T (foldL (cnE 2 3 B2 q2 f2).nick); have := h2.length_eq; have h4 : (tab 3).length = 3 := rfl; omega
  refine (claim_own h1 h3 hl rfl (show (nk 3 2).length ≤ 100 by decide) (show ([117] : List UInt8).length ≤ 100 by decide) (show ([110, dg 2] : List UInt8).length ≤ 100 by decide) nick_n2 hh rfl hT hT2 (by rfl)).mono ?_
  rintro r w1 ⟨rfl, C1, k1, o1⟩
  exact ⟨⟨_, rfl⟩, ⟨3, j, ⟨C1, B1, q1, f1, ob, B2, q2, f2, B3, q3, f3, _, k1, (perm_step h2 _ _ _).trans (show List.Perm [ent n1L 1, ent (nk 3 3) 3, ent [110, dg 2] 2] (tab 3) from (List.Perm.swap _ _ _).cons _), h3.onto (h1.up o1)⟩, by decide, by omega, hp⟩, h1.up o1⟩
set_option maxRecDepth 100000 in
set_option maxHeartbeats 4000000 in
theorem step_3_3_x (h : StO base G 3 j w) (hU : G.U = [(1, [88])]) (h9 : G.n0 = 9) (hj : j ≤ 39) (hp : par j = true) : Calls Tryz.prog 7 #[.pointer (some ⟨G.c, 0, none⟩), .int .i64 3, .string (bs [120])] w (StepO base G j w) := by
  obtain ⟨C, B1, q1, f1, ob, B2, q2, f2, B3, q3, f3, T, h1, h2, h3⟩ := h
  have hl : lookM [((1 : Int), c1E B1 q1 f1 ob j), (2, cnE 2 3 B2 q2 f2), (3, cnE 3 3 B3 q3 f3)] 3 = some (cnE 3 3 B3 q3 f3) := rfl
  have hh : lookM T (foldL [120]) = some ⟨bs [120], foldL [120], 3⟩ := (look_perm h2 (tab_nodup 3 (by decide)) _).trans rfl
  have hT2 : T.length ≤ 1000 := by have := h2.length_eq; have h4 : (tab 3).length = 3 := rfl; omega
  have hT : ((delM T (foldL (cnE 3 3 B3 q3 f3).nick)).length : Int) < G.n0 := by rw [h9]; have := len_delM_le T (foldL (cnE 3 3 B3 q3 f3).nick); have := h2.length_eq; have h4 : (tab 3).length = 3 := rfl; omega
  refine (claim_own h1 h3 hl rfl (show (nk 3 3).length ≤ 100 by decide) (show ([117] : List UInt8).length ≤ 100 by decide) (show ([120] : List UInt8).length ≤ 100 by decide) nick_x hh rfl hT hT2 (by rfl)).mono ?_
  rintro r w1 ⟨rfl, C1, k1, o1⟩
  exact ⟨⟨_, rfl⟩, ⟨3, j, ⟨C1, B1, q1, f1, ob, B2, q2, f2, B3, q3, f3, _, k1, (perm_step h2 _ _ _).trans (show List.Perm [ent n1L 1, ent (nk 3 2) 2, ent [120] 3] (tab 3) from List.Perm.refl _), h3.onto (h1.up o1)⟩, by decide, by omega, hp⟩, h1.up o1⟩
set_option maxRecDepth 100000 in
set_option maxHeartbeats 4000000 in
theorem step_3_3_n (h : StO base G 3 j w) (hU : G.U = [(1, [88])]) (h9 : G.n0 = 9) (hj : j ≤ 39) (hp : par j = true) : Calls Tryz.prog 7 #[.pointer (some ⟨G.c, 0, none⟩), .int .i64 3, .string (bs [110, dg 3])] w (StepO base G j w) := by
  obtain ⟨C, B1, q1, f1, ob, B2, q2, f2, B3, q3, f3, T, h1, h2, h3⟩ := h
  have hl : lookM [((1 : Int), c1E B1 q1 f1 ob j), (2, cnE 2 3 B2 q2 f2), (3, cnE 3 3 B3 q3 f3)] 3 = some (cnE 3 3 B3 q3 f3) := rfl
  have hh : lookM T (foldL [110, dg 3]) = none := (look_perm h2 (tab_nodup 3 (by decide)) _).trans rfl
  have hT2 : T.length ≤ 1000 := by have := h2.length_eq; have h4 : (tab 3).length = 3 := rfl; omega
  have hT : ((delM T (foldL (cnE 3 3 B3 q3 f3).nick)).length : Int) < G.n0 := by rw [h9]; have := len_delM_le T (foldL (cnE 3 3 B3 q3 f3).nick); have := h2.length_eq; have h4 : (tab 3).length = 3 := rfl; omega
  refine (claim_move h1 h3 hl rfl (show (nk 3 3).length ≤ 100 by decide) (show ([117] : List UInt8).length ≤ 100 by decide) (show ([110, dg 3] : List UInt8).length ≤ 100 by decide) nick_n3 hh hT hT2 (by rfl) (by rw [hU]; decide) (E1 := [1]) (E2 := []) (fun a => by rw [hU, mem_watch]; exact ⟨fun q => ⟨by simpa using q, (show foldL (nk 3 3) = foldL [88] by decide)⟩, fun q => by simp [q.1]⟩) (fun a => by rw [hU, mem_watch]; exact ⟨fun q => by simp at q, fun q => absurd q.2 (show ¬ foldL ([110, dg 3]) = foldL [88] by decide)⟩) (i := 1) (ei := c1E B1 q1 f1 ob j) (by decide) rfl (show n1L.length ≤ 1000 by decide) (.inr rfl) (.inl rfl) (fun _ => show Takes ⟨65536, restL j false, 0, false, false⟩ (numL nameL n1L 731 [[120]]) from takes_line (by omega) (by rfl) (by decide)) (fun q => by cases q)).mono ?_
  rintro r w1 ⟨rfl, ob1, ob2, C1, k1, o1⟩
  have k2 : CoAt base G C1 (updM (updM [((1 : Int), c1E B1 q1 f1 ob j), (2, cnE 2 3 B2 q2 f2), (3, cnE 3 3 B3 q3 f3)] 3 { (cnE 3 3 B3 q3 f3) with nick := [110, dg 3] }) 1 (pushed (c1E B1 q1 f1 ob j) (numL nameL n1L 731 [[120]]) ob1)) _ 6 w1 := k1
  rw [pushed_down hp] at k2
  exact ⟨⟨_, rfl⟩, ⟨0, j + 1, ⟨C1, B1, q1, f1, ob1, B2, q2, f2, B3, q3, f3, _, k2, (perm_step h2 _ _ _).trans (show List.Perm [ent n1L 1, ent (nk 3 2) 2, ent [110, dg 3] 3] (tab 0) from List.Perm.refl _), h3.onto (h1.up o1)⟩, by decide, by omega, by rw [par_succ, hp]; rfl⟩, h1.up o1⟩
/-- whoever claims what -/
theorem step_x {s : Nat} (hs : s = 0 ∨ s = 2 ∨ s = 3) (h : StO base G s j w) (hU : G.U = [(1, [88])]) (h9 : G.n0 = 9) (hj : j ≤ 39) (hp : par j = decide (s ≠ 0)) (i : Nat) (hi : i = 2 ∨ i = 3) : Calls Tryz.prog 7 #[.pointer (some ⟨G.c, 0, none⟩), .int .i64 (i : Nat), .string (bs [120])] w (StepO base G j w) := by
  rcases hs with rfl | rfl | rfl <;> rcases hi with rfl | rfl
  · exact step_0_2_x h hU h9 hj hp
  · exact step_0_3_x h hU h9 hj hp
  · exact step_2_2_x h hU h9 hj hp
  · exact step_2_3_x h hU h9 hj hp
  · exact step_3_2_x h hU h9 hj hp
  · exact step_3_3_x h hU h9 hj hp
theorem step_n {s : Nat} (hs : s = 0 ∨ s = 2 ∨ s = 3) (h : StO base G s j w) (hU : G.U = [(1, [88])]) (h9 : G.n0 = 9) (hj : j ≤ 39) (hp : par j = decide (s ≠ 0)) (i : Nat) (hi : i = 2 ∨ i = 3) : Calls Tryz.prog 7 #[.pointer (some ⟨G.c, 0, none⟩), .int .i64 (i : Nat), .string (bs [110, dg i])] w (StepO base G j w) := by
  rcases hs with rfl | rfl | rfl <;> rcases hi with rfl | rfl
  · exact step_0_2_n h hU h9 hj hp
  · exact step_0_3_n h hU h9 hj hp
  · exact step_2_2_n h hU h9 hj hp
  · exact step_2_3_n h hU h9 hj hp
  · exact step_3_2_n h hU h9 hj hp
  · exact step_3_3_n h hU h9 hj hp
end
end Go.Proofs.YtpbobonddocgkaaGreatDoor
end
