/- Texts of this proof, one behind the other. -/
import Derived.Test.YtpbobonddocgkaaGreatDoorCoreOnceG15
set_option linter.unusedVariables false
set_option linter.unusedSimpArgs false
section
/- Layer 23: tellHeld, tellFree. -/
namespace Go.Proofs.YtpbobonddocgkaaGreatDoor
open Go Go.RowKit Go.Maps Go.Lib Go.Sort Go.Shelf

def whoL (n u h : List UInt8) : List UInt8 := n ++ [33] ++ u ++ [64] ++ h
theorem whoB_bs (n u h : List UInt8) : whoB (bs n) (bs u) (bs h) = bs (whoL n u h) := ba_ext (by simp [whoB, whoL])
/-- logged online -/
def onL : List UInt8 := [108, 111, 103, 103, 101, 100, 32, 111, 110, 108, 105, 110, 101]
/-- logged offline -/
def offL : List UInt8 := [108, 111, 103, 103, 101, 100, 32, 111, 102, 102, 108, 105, 110, 101]
theorem itoa_zero : Lib.itoa 0 = [48] := by first | rfl | kernel_rfl | simp [Lib.itoa]
/-- who a connection is -/
def perV (id : Int) (nick user : List UInt8) : Value := per id (bs nick) (bs user) (bs hostL) ⟨#[]⟩ ⟨#[]⟩ false false 0 0
/-- who a connection is, in a box; the server's lists -/
def PeS (N c mo wa : Nat) (id : Int) (nick user : List UInt8) (W : World) : Prop := W.cell? ⟨N, 0, none⟩ = some (.int .i64 id) ∧ W.cell? ⟨N, 1, none⟩ = some (.string (bs nick)) ∧ W.cell? ⟨N, 2, none⟩ = some (.string (bs user)) ∧ W.cell? ⟨N, 3, none⟩ = some (.string (bs hostL)) ∧ W.cell? ⟨N, 4, none⟩ = some (.string ⟨#[]⟩) ∧ W.cell? ⟨N, 5, none⟩ = some (.string ⟨#[]⟩) ∧ W.cell? ⟨N, 6, none⟩ = some (.bool false) ∧ W.cell? ⟨N, 7, none⟩ = some (.bool false) ∧ W.cell? ⟨N, 8, none⟩ = some (.int .i64 0) ∧ W.cell? ⟨N, 9, none⟩ = some (.int .i64 0) ∧ W.cell? ⟨c, 15, none⟩ = some (.int .i64 0) ∧ W.cell? ⟨c, 19, none⟩ = some (.pointer (some ⟨mo, 0, none⟩)) ∧ W.cell? ⟨c, 20, none⟩ = some (.pointer (some ⟨wa, 0, none⟩))
theorem reads_five {W : World} {B : Nat} {a b c d f : List UInt8} {T : TypeId} (h : W.heap[B]? = some (.cells #[.string (bs a), .string (bs b), .string (bs c), .string (bs d), .string (bs f)] T (0, 0))) : ReadsT W (some ⟨B, 0, none⟩) [a, b, c, d, f] := fun _ =>
  ⟨B, 0, rfl, blk_lt h, fun j hj => by
    have hj' : j < 5 := hj
    match j, hj' with
    | 0, _ => exact blk_cell h 0
    | 1, _ => exact blk_cell h 1
    | 2, _ => exact blk_cell h 2
    | 3, _ => exact blk_cell h 3
    | 4, _ => exact blk_cell h 4⟩
section
variable {base : Nat} {w w' : World} {G : CoG} {C : Nat → CTag} {K : List (Int × CE)} {T : List (KeyB × Ent VI)} {n : Nat}
set_option maxRecDepth 100000 in
set_option maxHeartbeats 16000000 in
theorem tellHeld_any (h : CoAt base G C K T n w) (hg : GlobB base w) (hU : G.U.length ≤ 100000) {id : Int} {nick user : List UInt8} (hn : nick.length ≤ 100) (hu : user.length ≤ 100) {E : List Int} (e2 : ∀ a, a ∈ E ↔ (a, foldL nick) ∈ G.U.map fkW)
    {i : Int} {e : CE} (hE : E = [] ∨ E = [i]) (hi : E = [i] → lookM K i = some e ∧ Takes e.s (numL nameL e.nick 730 [whoL nick user hostL]) ∧ e.nick.length ≤ 1000) :
    Calls Tryz.prog 35 #[.pointer (some ⟨G.c, 0, none⟩), perV id nick user] w fun r w' => r = .returned (.tuple #[]) ∧ ∃ ob, CoTo base G C (KE K E i e (numL nameL e.nick 730 [whoL nick user hostL]) ob) T n w w' := by
  unfold perV per
  obtain ⟨V0, hV0⟩ : ∃ V0, w.alloc (.cells #[.int .i64 id, .string (bs nick), .string (bs user), .string (bs hostL), .string ⟨#[]⟩, .string ⟨#[]⟩, .bool false, .bool false, .int .i64 0, .int .i64 0] 61) = V0 := ⟨_, rfl⟩
  obtain ⟨N, hN⟩ : ∃ N, w.heap.size = N := ⟨_, rfl⟩
  have k0 : V0.heap[N]? = some (.cells #[.int .i64 id, .string (bs nick), .string (bs user), .string (bs hostL), .string ⟨#[]⟩, .string ⟨#[]⟩, .bool false, .bool false, .int .i64 0, .int .i64 0] 61 (0, 0)) := by rw [← hV0, ← hN]; exact heap_alloc_new w _
  have f0 : Fr (fun _ => False) w V0 := by rw [← hV0]; exact (Fr.refl _ w).alloc _
  have h0 := h.fr f0 fun _ _ e => e
  have hg0 : GlobB base V0 := hg.onto (f0.below h.base_le fun _ _ e => e.elim)
  have hCN : C N = ctag0 := h.cN N (by omega)
  have hE1 : E.Pairwise (· < ·) := by rcases hE with rfl | rfl <;> simp
  have cells : ∀ (K' : List (Int × CE)) (C' : Nat → CTag) (W : World), CoAt base G C' K' T n W → W.heap[N]? = some (.cells #[.int .i64 id, .string (bs nick), .string (bs user), .string (bs hostL), .string ⟨#[]⟩, .string ⟨#[]⟩, .bool false, .bool false, .int .i64 0, .int .i64 0] 61 (0, 0)) → PeS N G.c G.mo G.wa id nick user W := fun K' C' W hW kW =>
    ⟨blk_cell kW 0, blk_cell kW 1, blk_cell kW 2, blk_cell kW 3, blk_cell kW 4, blk_cell kW 5, blk_cell kW 6, blk_cell kW 7, blk_cell kW 8, blk_cell kW 9, hW.cell 15, hW.cell 19, hW.cell 20⟩
  have HP := Lib.hid (fun W (hW : Fr (fun _ => False) V0 W) => cells _ _ _ (h0.fr hW fun _ _ e => e) (hW.blk k0 fun e => e))
  have HT : Hid (∀ W, Fr (fun _ => False) V0 W → Calls Tryz.prog 59 #[.pointer (some ⟨G.c, 0, none⟩), .pointer (some ⟨G.mo, 0, none⟩), .string (bs nick), .int .i64 730, .slice (some ⟨W.heap.size, 0, none⟩) 1 1] (W.alloc (.cells #[.string (bs (whoL nick user hostL))] 9)) fun r w' => r = .returned (.tuple #[]) ∧ ∃ ob, CoTo base G C (KE K E i e (numL nameL e.nick 730 [whoL nick user hostL]) ob) T n V0 w') := fun W hW => by
    have f1 : Fr (fun _ => False) V0 (W.alloc (.cells #[.string (bs (whoL nick user hostL))] 9)) := hW.alloc _
    have h1 := h0.fr f1 fun _ _ e => e
    have := tellW h1 (hg0.onto (f1.below h0.base_le fun _ _ e => e.elim)) (l0 := G.mo) (nm := nick) (E := E) (fun V hV => wisBy (h1.below hV).mon hU (by omega) hE1 e2) (code := 730) (ps := [whoL nick user hostL]) (A := some ⟨W.heap.size, 0, none⟩) (cc := 1) hE hi (reads_one (heap_alloc_new W _)) (fun g o e => by cases e; exact h0.cN _ hW.size) (by decide) (by decide) (by simp) (by intro p hp; simp only [List.mem_singleton] at hp; subst hp; first | omega | (simp [whoL, hostL]; omega))
    refine this.mono ?_
    rintro r w' ⟨rfl, ob, hto⟩
    exact ⟨rfl, ob, CoTo.trans ⟨fun _ _ => rfl, f1.mono fun _ _ e => e.elim⟩ hto⟩
  have HWh : Hid (∀ W, Calls Tryz.prog 61 #[.agg #[.int .i64 id, .string (bs nick), .string (bs user), .string (bs hostL), .string ⟨#[]⟩, .string ⟨#[]⟩, .bool false, .bool false, .int .i64 0, .int .i64 0]] W fun e w' => e = .returned (.string (bs (whoL nick user hostL))) ∧ Below W.heap.size W w') := fun W => by
    have := who_any id (bs nick) (bs user) (bs hostL) ⟨#[]⟩ ⟨#[]⟩ false false 0 0 W (by simp; omega) (by simp; omega) (by decide)
    rw [whoB_bs] at this
    exact this
  have H := Lib.hid (And.intro k0 (And.intro f0 (And.intro h0 (And.intro hg0 (And.intro hCN (And.intro hN (And.intro hn hu)))))))
  have HV := Lib.hid (And.intro hV0 hN)
  have HAf := Lib.hid (fun ob W (hW : CoTo base G C (KE K E i e (numL nameL e.nick 730 [whoL nick user hostL]) ob) T n V0 W) => cells _ _ _ hW.choose_spec.1 (hW.choose_spec.2.2.blk k0 (by rw [hCN]; simp)))
  have HCells := Lib.hid cells
  have HU := Lib.hid hU
  clear k0 f0 h0 hg0 hV0 hN hCN hE1 cells h hg e2 hE hi hn hu hU
  go_enter Tryz.func35, Tryz.ntmps35
  go_upto_region 1 with fail
  rw [HV.out.1]
  rw [HV.out.2]
  refine wp_region_held_drew (S := PeS N G.c G.mo G.wa id nick user) (by kernel_rfl) (by exact HP.out _ (Fr.refl _ V0).drew) (fun hHeld => ?_)
  refine wpAnyH_read (i := 0) (oi := { dst := some 4, op := Go.Op.move (Go.Operand.tmp 0), type := 24, pos := "tell.go:42", after := #[], guard := none }) ?_ rfl (by kernel_rfl) (by kernel_rfl) (by kernel_rfl) (fun _ _ _ h => h) (by rfl) (by assumption) ?_ ?_
  rotate_left
  · (intro w0 hS0; go_simp <;> (try with_reducible rfl))
  try simp only [Act.put, List.setIfInBounds_toArray, List.set_cons_zero, List.set_cons_succ]
  refine wpAnyH_read (i := 1) (oi := { dst := some 5, op := Go.Op.move (Go.Operand.tmp 0), type := 24, pos := "tell.go:42", after := #[], guard := none }) ?_ rfl (by kernel_rfl) (by kernel_rfl) (by kernel_rfl) (fun _ _ _ h => h) (by rfl) (by assumption) ?_ ?_
  rotate_left
  · (intro w0 hS0; go_simp <;> (try with_reducible rfl))
  try simp only [Act.put, List.setIfInBounds_toArray, List.set_cons_zero, List.set_cons_succ]
  refine wpAnyH_read (i := 2) (oi := { dst := some 6, op := Go.Op.nilCheck (Go.Operand.tmp 5), type := 0, pos := "tell.go:42", after := #[{ on := 1, ground := Go.Ground.data }], guard := none }) ?_ rfl (by kernel_rfl) (by kernel_rfl) (by kernel_rfl) (fun _ _ _ h => h) (by rfl) (by assumption) ?_ ?_
  rotate_left
  · (intro w0 hS0; go_simp <;> (try with_reducible rfl))
  try simp only [Act.put, List.setIfInBounds_toArray, List.set_cons_zero, List.set_cons_succ]
  refine wpAnyH_read (i := 3) (oi := { dst := some 7, op := Go.Op.fieldAddr 55 (Go.Operand.tmp 6) 5, type := 0, pos := "tell.go:42", after := #[{ on := 2, ground := Go.Ground.data }], guard := none }) ?_ rfl (by kernel_rfl) (by kernel_rfl) (by kernel_rfl) (fun _ _ _ h => h) (by rfl) (by assumption) ?_ ?_
  rotate_left
  · (intro w0 hS0; go_simp <;> (try with_reducible rfl))
  try simp only [Act.put, List.setIfInBounds_toArray, List.set_cons_zero, List.set_cons_succ]
  refine wpAnyH_read (i := 5) (oi := { dst := some 9, op := Go.Op.fieldAddr 61 (Go.Operand.tmp 3) 1, type := 0, pos := "tell.go:42", after := #[], guard := none }) ?_ rfl (by kernel_rfl) (by kernel_rfl) (by kernel_rfl) (fun _ _ _ h => h) (by rfl) (by assumption) ?_ ?_
  rotate_left
  · (intro w0 hS0; go_simp <;> (try with_reducible rfl))
  try simp only [Act.put, List.setIfInBounds_toArray, List.set_cons_zero, List.set_cons_succ]
  refine wpAnyH_read (i := 4) (oi := { dst := some 8, op := Go.Op.load 36 (Go.Operand.tmp 7), type := 36, pos := "tell.go:42", after := #[{ on := 3, ground := Go.Ground.data }], guard := none }) ?_ rfl (by kernel_rfl) (by kernel_rfl) (by kernel_rfl) (fun _ _ _ h => h) (by rfl) (by assumption) ?_ ?_
  rotate_left
  · (intro w0 hS0; obtain ⟨r0, r1, r2, r3, r4, r5, r6, r7, r8, r9, c15, c19, c20⟩ := hS0; (try clear hHeld); go_simp <;> (try with_reducible rfl))
  try simp only [Act.put, List.setIfInBounds_toArray, List.set_cons_zero, List.set_cons_succ]
  refine wpAnyH_read (i := 6) (oi := { dst := some 10, op := Go.Op.load 9 (Go.Operand.tmp 9), type := 9, pos := "tell.go:42", after := #[{ on := 5, ground := Go.Ground.data }], guard := none }) ?_ rfl (by kernel_rfl) (by kernel_rfl) (by kernel_rfl) (fun _ _ _ h => h) (by rfl) (by assumption) ?_ ?_
  rotate_left
  · (intro w0 hS0; obtain ⟨r0, r1, r2, r3, r4, r5, r6, r7, r8, r9, c15, c19, c20⟩ := hS0; (try clear hHeld); go_simp <;> (try with_reducible rfl))
  try simp only [Act.put, List.setIfInBounds_toArray, List.set_cons_zero, List.set_cons_succ]
  refine wpAnyH_read (i := 7) (oi := { dst := some 11, op := Go.Op.load 61 (Go.Operand.tmp 3), type := 61, pos := "tell.go:42", after := #[], guard := none }) ?_ rfl (by kernel_rfl) (by kernel_rfl) (by kernel_rfl) (fun _ _ _ h => h) (by rfl) (by assumption) ?_ ?_
  rotate_left
  · (intro w0 hS0; obtain ⟨r0, r1, r2, r3, r4, r5, r6, r7, r8, r9, c15, c19, c20⟩ := hS0; (try clear hHeld); go_simp <;> (try with_reducible rfl))
  try simp only [Act.put, List.setIfInBounds_toArray, List.set_cons_zero, List.set_cons_succ]
  refine wpAnyH_one (i := 8) (o := { dst := some 12, op := Go.Op.call { callee := Go.Callee.value (Go.Operand.func 61), args := #[Go.Operand.tmp 11], argTypes := #[61] }, type := 9, pos := "tell.go:42", after := #[{ on := 7, ground := Go.Ground.data }], guard := none }) (by kernel_rfl) rfl (by rfl) (fun K hK => ?_)
  clear hHeld
  go_simp
  refine (HWh.out _).mono ?_
  rintro r1 Wa ⟨rfl, ba⟩
  have HA : Hid (Fr (fun _ => False) V0 Wa) := (Fr.drew (Fr.refl _ V0)).trans (Fr.of_below ba)
  clear ba
  refine hK.out _ _ ?_ (fun hHeld => ?_)
  · exact HP.out _ HA.out
  clear hK K
  try simp only [Act.put, List.setIfInBounds_toArray, List.set_cons_zero, List.set_cons_succ]
  refine wpAnyH_one (i := 9) (o := { dst := some 13, op := Go.Op.buildSlice 89 1 #[(0, Go.Operand.tmp 12)], type := 89, pos := "tell.go:42", after := #[{ on := 8, ground := Go.Ground.data }], guard := none }) (by kernel_rfl) rfl (by rfl) (fun K hK => ?_)
  clear hHeld
  go_simp
  refine hK.out _ _ ?_ (fun hHeld => ?_)
  · exact HP.out _ (Fr.alloc (HA.out) _)
  clear hK K
  try simp only [Act.put, List.setIfInBounds_toArray, List.set_cons_zero, List.set_cons_succ]
  refine wpAnyH_one (i := 10) (o := { dst := some 14, op := Go.Op.call { callee := Go.Callee.value (Go.Operand.func 59), args := #[Go.Operand.tmp 4, Go.Operand.tmp 8, Go.Operand.tmp 10, Go.Operand.const (Go.Value.int Go.IntKind.i64 730), Go.Operand.tmp 13], argTypes := #[24, 36, 9, 3, 89] }, type := 0, pos := "tell.go:42", after := #[{ on := 0, ground := Go.Ground.data }, { on := 4, ground := Go.Ground.data }, { on := 6, ground := Go.Ground.data }, { on := 9, ground := Go.Ground.data }, { on := 8, ground := Go.Ground.chain }], guard := none }) (by kernel_rfl) rfl (by rfl) (fun K hK => ?_)
  clear hHeld
  go_simp
  refine (HT.out _ HA.out).mono ?_
  rintro r1 W1 ⟨rfl, ob, hto⟩
  have HS1 := Lib.hid (HAf.out _ _ hto)
  have HTo := Lib.hid hto
  clear hto
  refine hK.out _ _ ?_ (fun hHeld => ?_)
  · exact HS1.out
  clear hK K
  try simp only [Act.put, List.setIfInBounds_toArray, List.set_cons_zero, List.set_cons_succ]
  refine wpAnyH_done (by kernel_rfl) ?_ _
  go_upto_region 2 with fail
  obtain ⟨k0, f0, h0, hg0, hCN, hN, hn, hu⟩ := H.out
  obtain ⟨C1, h1, o1⟩ := HTo.out
  have k1 := o1.2.blk k0 (by rw [hCN]; simp)
  have hg1 : GlobB base W1 := hg0.onto (h0.up o1)
  have HP := Lib.hid (fun W (hW : Fr (fun _ => False) W1 W) => HCells.out _ _ _ (h1.fr hW fun _ _ e => e) (hW.blk k1 fun e => e))
  have HIt : Hid (∀ W, Fr (fun _ => False) W1 W → Calls Tryz.prog 60 #[.int .i64 0] W fun e w' => e = .returned (.string (bs [48])) ∧ Below W.heap.size W w') := fun W hW => by
    have := itoaM 0 (by decide) (by decide) W (hg1.onto (hW.below h1.base_le fun _ _ e => e.elim)).glob.2.2
    rw [itoa_zero] at this
    exact this
  have HT2 : Hid (∀ W, Fr (fun _ => False) W1 W → Calls Tryz.prog 59 #[.pointer (some ⟨G.c, 0, none⟩), .pointer (some ⟨G.wa, 0, none⟩), .string (bs nick), .int .i64 600, .slice (some ⟨W.heap.size, 0, none⟩) 5 5] (W.alloc (.cells #[.string (bs nick), .string (bs user), .string (bs hostL), .string (bs [48]), .string (bs onL)] 9)) fun r w' => r = .returned (.tuple #[]) ∧ CoTo base G C1 (KE K E i e (numL nameL e.nick 730 [whoL nick user hostL]) ob) T n W1 w') := fun W hW => by
    have f1 : Fr (fun _ => False) W1 (W.alloc (.cells #[.string (bs nick), .string (bs user), .string (bs hostL), .string (bs [48]), .string (bs onL)] 9)) := hW.alloc _
    have h2 := h1.fr f1 fun _ _ e => e
    have := tellW h2 (hg1.onto (f1.below h1.base_le fun _ _ e => e.elim)) (l0 := G.wa) (nm := nick) (E := []) (fun V hV => wisBy (h2.below hV).wat (by simp) (by omega) List.Pairwise.nil (by simp)) (i := i) (e := e) (code := 600) (ps := [nick, user, hostL, [48], onL]) (A := some ⟨W.heap.size, 0, none⟩) (cc := 5) (.inl rfl) (fun e1 => by cases e1) (reads_five (heap_alloc_new W _)) (fun g o e => by cases e; exact h1.cN _ hW.size) (by decide) (by decide) (by simp) (by intro p hp; simp only [List.mem_cons, List.not_mem_nil, or_false] at hp; rcases hp with rfl | rfl | rfl | rfl | rfl <;> first | omega | (simp [hostL, onL, offL]))
    refine this.mono ?_
    rintro r w' ⟨rfl, ob2, hto⟩
    rw [KE_nil] at hto
    exact ⟨rfl, CoTo.trans ⟨fun _ _ => rfl, f1.mono fun _ _ e => e.elim⟩ hto⟩
  have HAf2 := Lib.hid (fun W (hW : CoTo base G C1 (KE K E i e (numL nameL e.nick 730 [whoL nick user hostL]) ob) T n W1 W) => HCells.out _ _ _ hW.choose_spec.1 (hW.choose_spec.2.2.blk k1 (by rw [o1.1 N (blk_lt k0), hCN]; simp)))
  clear k0 f0 h0 hg0 hCN hN hn hu k1 hg1 h1
  refine wp_region_held_drew (S := PeS N G.c G.mo G.wa id nick user) (by kernel_rfl) (by exact HP.out _ (Fr.refl _ W1).drew) (fun hHeld => ?_)
  refine wpAnyH_read (i := 0) (oi := { dst := some 15, op := Go.Op.move (Go.Operand.tmp 0), type := 24, pos := "tell.go:43", after := #[], guard := none }) ?_ rfl (by kernel_rfl) (by kernel_rfl) (by kernel_rfl) (fun _ _ _ h => h) (by rfl) (by assumption) ?_ ?_
  rotate_left
  · (intro w0 hS0; go_simp <;> (try with_reducible rfl))
  try simp only [Act.put, List.setIfInBounds_toArray, List.set_cons_zero, List.set_cons_succ]
  refine wpAnyH_read (i := 1) (oi := { dst := some 16, op := Go.Op.move (Go.Operand.tmp 0), type := 24, pos := "tell.go:43", after := #[], guard := none }) ?_ rfl (by kernel_rfl) (by kernel_rfl) (by kernel_rfl) (fun _ _ _ h => h) (by rfl) (by assumption) ?_ ?_
  rotate_left
  · (intro w0 hS0; go_simp <;> (try with_reducible rfl))
  try simp only [Act.put, List.setIfInBounds_toArray, List.set_cons_zero, List.set_cons_succ]
  refine wpAnyH_read (i := 2) (oi := { dst := some 17, op := Go.Op.nilCheck (Go.Operand.tmp 16), type := 0, pos := "tell.go:43", after := #[{ on := 1, ground := Go.Ground.data }], guard := none }) ?_ rfl (by kernel_rfl) (by kernel_rfl) (by kernel_rfl) (fun _ _ _ h => h) (by rfl) (by assumption) ?_ ?_
  rotate_left
  · (intro w0 hS0; go_simp <;> (try with_reducible rfl))
  try simp only [Act.put, List.setIfInBounds_toArray, List.set_cons_zero, List.set_cons_succ]
  refine wpAnyH_read (i := 3) (oi := { dst := some 18, op := Go.Op.fieldAddr 55 (Go.Operand.tmp 17) 6, type := 0, pos := "tell.go:43", after := #[{ on := 2, ground := Go.Ground.data }], guard := none }) ?_ rfl (by kernel_rfl) (by kernel_rfl) (by kernel_rfl) (fun _ _ _ h => h) (by rfl) (by assumption) ?_ ?_
  rotate_left
  · (intro w0 hS0; go_simp <;> (try with_reducible rfl))
  try simp only [Act.put, List.setIfInBounds_toArray, List.set_cons_zero, List.set_cons_succ]
  refine wpAnyH_read (i := 5) (oi := { dst := some 20, op := Go.Op.fieldAddr 61 (Go.Operand.tmp 3) 1, type := 0, pos := "tell.go:43", after := #[], guard := none }) ?_ rfl (by kernel_rfl) (by kernel_rfl) (by kernel_rfl) (fun _ _ _ h => h) (by rfl) (by assumption) ?_ ?_
  rotate_left
  · (intro w0 hS0; go_simp <;> (try with_reducible rfl))
  try simp only [Act.put, List.setIfInBounds_toArray, List.set_cons_zero, List.set_cons_succ]
  refine wpAnyH_read (i := 7) (oi := { dst := some 22, op := Go.Op.fieldAddr 61 (Go.Operand.tmp 3) 1, type := 0, pos := "tell.go:43", after := #[], guard := none }) ?_ rfl (by kernel_rfl) (by kernel_rfl) (by kernel_rfl) (fun _ _ _ h => h) (by rfl) (by assumption) ?_ ?_
  rotate_left
  · (intro w0 hS0; go_simp <;> (try with_reducible rfl))
  try simp only [Act.put, List.setIfInBounds_toArray, List.set_cons_zero, List.set_cons_succ]
  refine wpAnyH_read (i := 9) (oi := { dst := some 24, op := Go.Op.fieldAddr 61 (Go.Operand.tmp 3) 2, type := 0, pos := "tell.go:43", after := #[], guard := none }) ?_ rfl (by kernel_rfl) (by kernel_rfl) (by kernel_rfl) (fun _ _ _ h => h) (by rfl) (by assumption) ?_ ?_
  rotate_left
  · (intro w0 hS0; go_simp <;> (try with_reducible rfl))
  try simp only [Act.put, List.setIfInBounds_toArray, List.set_cons_zero, List.set_cons_succ]
  refine wpAnyH_read (i := 11) (oi := { dst := some 26, op := Go.Op.fieldAddr 61 (Go.Operand.tmp 3) 3, type := 0, pos := "tell.go:43", after := #[], guard := none }) ?_ rfl (by kernel_rfl) (by kernel_rfl) (by kernel_rfl) (fun _ _ _ h => h) (by rfl) (by assumption) ?_ ?_
  rotate_left
  · (intro w0 hS0; go_simp <;> (try with_reducible rfl))
  try simp only [Act.put, List.setIfInBounds_toArray, List.set_cons_zero, List.set_cons_succ]
  refine wpAnyH_read (i := 13) (oi := { dst := some 28, op := Go.Op.fieldAddr 61 (Go.Operand.tmp 3) 8, type := 0, pos := "tell.go:43", after := #[], guard := none }) ?_ rfl (by kernel_rfl) (by kernel_rfl) (by kernel_rfl) (fun _ _ _ h => h) (by rfl) (by assumption) ?_ ?_
  rotate_left
  · (intro w0 hS0; go_simp <;> (try with_reducible rfl))
  try simp only [Act.put, List.setIfInBounds_toArray, List.set_cons_zero, List.set_cons_succ]
  refine wpAnyH_read (i := 4) (oi := { dst := some 19, op := Go.Op.load 36 (Go.Operand.tmp 18), type := 36, pos := "tell.go:43", after := #[{ on := 3, ground := Go.Ground.data }], guard := none }) ?_ rfl (by kernel_rfl) (by kernel_rfl) (by kernel_rfl) (fun _ _ _ h => h) (by rfl) (by assumption) ?_ ?_
  rotate_left
  · (intro w0 hS0; obtain ⟨r0, r1, r2, r3, r4, r5, r6, r7, r8, r9, c15, c19, c20⟩ := hS0; (try clear hHeld); go_simp <;> (try with_reducible rfl))
  try simp only [Act.put, List.setIfInBounds_toArray, List.set_cons_zero, List.set_cons_succ]
  refine wpAnyH_read (i := 6) (oi := { dst := some 21, op := Go.Op.load 9 (Go.Operand.tmp 20), type := 9, pos := "tell.go:43", after := #[{ on := 5, ground := Go.Ground.data }], guard := none }) ?_ rfl (by kernel_rfl) (by kernel_rfl) (by kernel_rfl) (fun _ _ _ h => h) (by rfl) (by assumption) ?_ ?_
  rotate_left
  · (intro w0 hS0; obtain ⟨r0, r1, r2, r3, r4, r5, r6, r7, r8, r9, c15, c19, c20⟩ := hS0; (try clear hHeld); go_simp <;> (try with_reducible rfl))
  try simp only [Act.put, List.setIfInBounds_toArray, List.set_cons_zero, List.set_cons_succ]
  refine wpAnyH_read (i := 8) (oi := { dst := some 23, op := Go.Op.load 9 (Go.Operand.tmp 22), type := 9, pos := "tell.go:43", after := #[{ on := 7, ground := Go.Ground.data }], guard := none }) ?_ rfl (by kernel_rfl) (by kernel_rfl) (by kernel_rfl) (fun _ _ _ h => h) (by rfl) (by assumption) ?_ ?_
  rotate_left
  · (intro w0 hS0; obtain ⟨r0, r1, r2, r3, r4, r5, r6, r7, r8, r9, c15, c19, c20⟩ := hS0; (try clear hHeld); go_simp <;> (try with_reducible rfl))
  try simp only [Act.put, List.setIfInBounds_toArray, List.set_cons_zero, List.set_cons_succ]
  refine wpAnyH_read (i := 10) (oi := { dst := some 25, op := Go.Op.load 9 (Go.Operand.tmp 24), type := 9, pos := "tell.go:43", after := #[{ on := 9, ground := Go.Ground.data }], guard := none }) ?_ rfl (by kernel_rfl) (by kernel_rfl) (by kernel_rfl) (fun _ _ _ h => h) (by rfl) (by assumption) ?_ ?_
  rotate_left
  · (intro w0 hS0; obtain ⟨r0, r1, r2, r3, r4, r5, r6, r7, r8, r9, c15, c19, c20⟩ := hS0; (try clear hHeld); go_simp <;> (try with_reducible rfl))
  try simp only [Act.put, List.setIfInBounds_toArray, List.set_cons_zero, List.set_cons_succ]
  refine wpAnyH_read (i := 12) (oi := { dst := some 27, op := Go.Op.load 9 (Go.Operand.tmp 26), type := 9, pos := "tell.go:43", after := #[{ on := 11, ground := Go.Ground.data }], guard := none }) ?_ rfl (by kernel_rfl) (by kernel_rfl) (by kernel_rfl) (fun _ _ _ h => h) (by rfl) (by assumption) ?_ ?_
  rotate_left
  · (intro w0 hS0; obtain ⟨r0, r1, r2, r3, r4, r5, r6, r7, r8, r9, c15, c19, c20⟩ := hS0; (try clear hHeld); go_simp <;> (try with_reducible rfl))
  try simp only [Act.put, List.setIfInBounds_toArray, List.set_cons_zero, List.set_cons_succ]
  refine wpAnyH_read (i := 14) (oi := { dst := some 29, op := Go.Op.load 3 (Go.Operand.tmp 28), type := 3, pos := "tell.go:43", after := #[{ on := 13, ground := Go.Ground.data }], guard := none }) ?_ rfl (by kernel_rfl) (by kernel_rfl) (by kernel_rfl) (fun _ _ _ h => h) (by rfl) (by assumption) ?_ ?_
  rotate_left
  · (intro w0 hS0; obtain ⟨r0, r1, r2, r3, r4, r5, r6, r7, r8, r9, c15, c19, c20⟩ := hS0; (try clear hHeld); go_simp <;> (try with_reducible rfl))
  try simp only [Act.put, List.setIfInBounds_toArray, List.set_cons_zero, List.set_cons_succ]
  refine wpAnyH_one (i := 15) (o := { dst := some 30, op := Go.Op.call { callee := Go.Callee.value (Go.Operand.func 60), args := #[Go.Operand.tmp 29], argTypes := #[3] }, type := 9, pos := "tell.go:43", after := #[{ on := 14, ground := Go.Ground.data }], guard := none }) (by kernel_rfl) rfl (by rfl) (fun K hK => ?_)
  clear hHeld
  go_simp
  refine (HIt.out _ (Fr.drew (Fr.refl _ W1))).mono ?_
  rintro r1 Wb ⟨rfl, bb⟩
  have HB : Hid (Fr (fun _ => False) W1 Wb) := (Fr.drew (Fr.refl _ W1)).trans (Fr.of_below bb)
  clear bb
  refine hK.out _ _ ?_ (fun hHeld => ?_)
  · exact HP.out _ HB.out
  clear hK K
  try simp only [Act.put, List.setIfInBounds_toArray, List.set_cons_zero, List.set_cons_succ]
  refine wpAnyH_one (i := 16) (o := { dst := some 31, op := Go.Op.buildSlice 89 5 #[(0, Go.Operand.tmp 23), (1, Go.Operand.tmp 25), (2, Go.Operand.tmp 27), (3, Go.Operand.tmp 30), (4, Go.Operand.const (Go.Value.string { data := #[108, 111, 103, 103, 101, 100, 32, 111, 110, 108, 105, 110, 101] }))], type := 89, pos := "tell.go:43", after := #[{ on := 8, ground := Go.Ground.data }, { on := 10, ground := Go.Ground.data }, { on := 12, ground := Go.Ground.data }, { on := 15, ground := Go.Ground.data }], guard := none }) (by kernel_rfl) rfl (by rfl) (fun K hK => ?_)
  clear hHeld
  go_simp
  refine hK.out _ _ ?_ (fun hHeld => ?_)
  · exact HP.out _ (Fr.alloc (HB.out) _)
  clear hK K
  try simp only [Act.put, List.setIfInBounds_toArray, List.set_cons_zero, List.set_cons_succ]
  refine wpAnyH_one (i := 17) (o := { dst := some 32, op := Go.Op.call { callee := Go.Callee.value (Go.Operand.func 59), args := #[Go.Operand.tmp 15, Go.Operand.tmp 19, Go.Operand.tmp 21, Go.Operand.const (Go.Value.int Go.IntKind.i64 600), Go.Operand.tmp 31], argTypes := #[24, 36, 9, 3, 89] }, type := 0, pos := "tell.go:43", after := #[{ on := 0, ground := Go.Ground.data }, { on := 4, ground := Go.Ground.data }, { on := 6, ground := Go.Ground.data }, { on := 16, ground := Go.Ground.data }, { on := 15, ground := Go.Ground.chain }], guard := none }) (by kernel_rfl) rfl (by rfl) (fun K hK => ?_)
  clear hHeld
  go_simp
  refine (HT2.out _ HB.out).mono ?_
  rintro r1 W2 ⟨rfl, hto2⟩
  have HS2 := Lib.hid (HAf2.out _ hto2)
  have HTo2 := Lib.hid hto2
  clear hto2
  refine hK.out _ _ ?_ (fun hHeld => ?_)
  · exact HS2.out
  clear hK K
  try simp only [Act.put, List.setIfInBounds_toArray, List.set_cons_zero, List.set_cons_succ]
  refine wpAnyH_done (by kernel_rfl) ?_ _
  go_wp2_with fail
  first | go_end0 | refine bodyPost_ret (results_none rfl _ _ _) rfl ?_
  obtain ⟨k0, f0, h0, hg0, hCN, hN, hn, hu⟩ := H.out
  exact ⟨rfl, ob, CoTo.trans ⟨fun _ _ => rfl, f0.mono fun _ _ e => e.elim⟩ (CoTo.trans o1 HTo2.out)⟩
set_option maxRecDepth 100000 in
set_option maxHeartbeats 16000000 in
theorem tellFree_any (h : CoAt base G C K T n w) (hg : GlobB base w) (hU : G.U.length ≤ 100000) {id : Int} {nick user : List UInt8} (hn : nick.length ≤ 100) (hu : user.length ≤ 100) {E : List Int} (e2 : ∀ a, a ∈ E ↔ (a, foldL nick) ∈ G.U.map fkW)
    {i : Int} {e : CE} (hE : E = [] ∨ E = [i]) (hi : E = [i] → lookM K i = some e ∧ Takes e.s (numL nameL e.nick 731 [nick]) ∧ e.nick.length ≤ 1000) :
    Calls Tryz.prog 34 #[.pointer (some ⟨G.c, 0, none⟩), perV id nick user] w fun r w' => r = .returned (.tuple #[]) ∧ ∃ ob, CoTo base G C (KE K E i e (numL nameL e.nick 731 [nick]) ob) T n w w' := by
  unfold perV per
  obtain ⟨V0, hV0⟩ : ∃ V0, w.alloc (.cells #[.int .i64 id, .string (bs nick), .string (bs user), .string (bs hostL), .string ⟨#[]⟩, .string ⟨#[]⟩, .bool false, .bool false, .int .i64 0, .int .i64 0] 61) = V0 := ⟨_, rfl⟩
  obtain ⟨N, hN⟩ : ∃ N, w.heap.size = N := ⟨_, rfl⟩
  have k0 : V0.heap[N]? = some (.cells #[.int .i64 id, .string (bs nick), .string (bs user), .string (bs hostL), .string ⟨#[]⟩, .string ⟨#[]⟩, .bool false, .bool false, .int .i64 0, .int .i64 0] 61 (0, 0)) := by rw [← hV0, ← hN]; exact heap_alloc_new w _
  have f0 : Fr (fun _ => False) w V0 := by rw [← hV0]; exact (Fr.refl _ w).alloc _
  have h0 := h.fr f0 fun _ _ e => e
  have hg0 : GlobB base V0 := hg.onto (f0.below h.base_le fun _ _ e => e.elim)
  have hCN : C N = ctag0 := h.cN N (by omega)
  have hE1 : E.Pairwise (· < ·) := by rcases hE with rfl | rfl <;> simp
  have cells : ∀ (K' : List (Int × CE)) (C' : Nat → CTag) (W : World), CoAt base G C' K' T n W → W.heap[N]? = some (.cells #[.int .i64 id, .string (bs nick), .string (bs user), .string (bs hostL), .string ⟨#[]⟩, .string ⟨#[]⟩, .bool false, .bool false, .int .i64 0, .int .i64 0] 61 (0, 0)) → PeS N G.c G.mo G.wa id nick user W := fun K' C' W hW kW =>
    ⟨blk_cell kW 0, blk_cell kW 1, blk_cell kW 2, blk_cell kW 3, blk_cell kW 4, blk_cell kW 5, blk_cell kW 6, blk_cell kW 7, blk_cell kW 8, blk_cell kW 9, hW.cell 15, hW.cell 19, hW.cell 20⟩
  have HP := Lib.hid (fun W (hW : Fr (fun _ => False) V0 W) => cells _ _ _ (h0.fr hW fun _ _ e => e) (hW.blk k0 fun e => e))
  have HT : Hid (∀ W, Fr (fun _ => False) V0 W → Calls Tryz.prog 59 #[.pointer (some ⟨G.c, 0, none⟩), .pointer (some ⟨G.mo, 0, none⟩), .string (bs nick), .int .i64 731, .slice (some ⟨W.heap.size, 0, none⟩) 1 1] (W.alloc (.cells #[.string (bs nick)] 9)) fun r w' => r = .returned (.tuple #[]) ∧ ∃ ob, CoTo base G C (KE K E i e (numL nameL e.nick 731 [nick]) ob) T n V0 w') := fun W hW => by
    have f1 : Fr (fun _ => False) V0 (W.alloc (.cells #[.string (bs nick)] 9)) := hW.alloc _
    have h1 := h0.fr f1 fun _ _ e => e
    have := tellW h1 (hg0.onto (f1.below h0.base_le fun _ _ e => e.elim)) (l0 := G.mo) (nm := nick) (E := E) (fun V hV => wisBy (h1.below hV).mon hU (by omega) hE1 e2) (code := 731) (ps := [nick]) (A := some ⟨W.heap.size, 0, none⟩) (cc := 1) hE hi (reads_one (heap_alloc_new W _)) (fun g o e => by cases e; exact h0.cN _ hW.size) (by decide) (by decide) (by simp) (by intro p hp; simp only [List.mem_singleton] at hp; subst hp; first | omega | (simp [whoL, hostL]; omega))
    refine this.mono ?_
    rintro r w' ⟨rfl, ob, hto⟩
    exact ⟨rfl, ob, CoTo.trans ⟨fun _ _ => rfl, f1.mono fun _ _ e => e.elim⟩ hto⟩
  have H := Lib.hid (And.intro k0 (And.intro f0 (And.intro h0 (And.intro hg0 (And.intro hCN (And.intro hN (And.intro hn hu)))))))
  have HV := Lib.hid (And.intro hV0 hN)
  have HAf := Lib.hid (fun ob W (hW : CoTo base G C (KE K E i e (numL nameL e.nick 731 [nick]) ob) T n V0 W) => cells _ _ _ hW.choose_spec.1 (hW.choose_spec.2.2.blk k0 (by rw [hCN]; simp)))
  have HCells := Lib.hid cells
  have HU := Lib.hid hU
  clear k0 f0 h0 hg0 hV0 hN hCN hE1 cells h hg e2 hE hi hn hu hU
  go_enter Tryz.func34, Tryz.ntmps34
  go_upto_region 1 with fail
  rw [HV.out.1]
  rw [HV.out.2]
  refine wp_region_held_drew (S := PeS N G.c G.mo G.wa id nick user) (by kernel_rfl) (by exact HP.out _ (Fr.refl _ V0).drew) (fun hHeld => ?_)
  refine wpAnyH_read (i := 0) (oi := { dst := some 4, op := Go.Op.move (Go.Operand.tmp 0), type := 24, pos := "tell.go:48", after := #[], guard := none }) ?_ rfl (by kernel_rfl) (by kernel_rfl) (by kernel_rfl) (fun _ _ _ h => h) (by rfl) (by assumption) ?_ ?_
  rotate_left
  · (intro w0 hS0; go_simp <;> (try with_reducible rfl))
  try simp only [Act.put, List.setIfInBounds_toArray, List.set_cons_zero, List.set_cons_succ]
  refine wpAnyH_read (i := 1) (oi := { dst := some 5, op := Go.Op.move (Go.Operand.tmp 0), type := 24, pos := "tell.go:48", after := #[], guard := none }) ?_ rfl (by kernel_rfl) (by kernel_rfl) (by kernel_rfl) (fun _ _ _ h => h) (by rfl) (by assumption) ?_ ?_
  rotate_left
  · (intro w0 hS0; go_simp <;> (try with_reducible rfl))
  try simp only [Act.put, List.setIfInBounds_toArray, List.set_cons_zero, List.set_cons_succ]
  refine wpAnyH_read (i := 2) (oi := { dst := some 6, op := Go.Op.nilCheck (Go.Operand.tmp 5), type := 0, pos := "tell.go:48", after := #[{ on := 1, ground := Go.Ground.data }], guard := none }) ?_ rfl (by kernel_rfl) (by kernel_rfl) (by kernel_rfl) (fun _ _ _ h => h) (by rfl) (by assumption) ?_ ?_
  rotate_left
  · (intro w0 hS0; go_simp <;> (try with_reducible rfl))
  try simp only [Act.put, List.setIfInBounds_toArray, List.set_cons_zero, List.set_cons_succ]
  refine wpAnyH_read (i := 3) (oi := { dst := some 7, op := Go.Op.fieldAddr 55 (Go.Operand.tmp 6) 5, type := 0, pos := "tell.go:48", after := #[{ on := 2, ground := Go.Ground.data }], guard := none }) ?_ rfl (by kernel_rfl) (by kernel_rfl) (by kernel_rfl) (fun _ _ _ h => h) (by rfl) (by assumption) ?_ ?_
  rotate_left
  · (intro w0 hS0; go_simp <;> (try with_reducible rfl))
  try simp only [Act.put, List.setIfInBounds_toArray, List.set_cons_zero, List.set_cons_succ]
  refine wpAnyH_read (i := 5) (oi := { dst := some 9, op := Go.Op.fieldAddr 61 (Go.Operand.tmp 3) 1, type := 0, pos := "tell.go:48", after := #[], guard := none }) ?_ rfl (by kernel_rfl) (by kernel_rfl) (by kernel_rfl) (fun _ _ _ h => h) (by rfl) (by assumption) ?_ ?_
  rotate_left
  · (intro w0 hS0; go_simp <;> (try with_reducible rfl))
  try simp only [Act.put, List.setIfInBounds_toArray, List.set_cons_zero, List.set_cons_succ]
  refine wpAnyH_read (i := 7) (oi := { dst := some 11, op := Go.Op.fieldAddr 61 (Go.Operand.tmp 3) 1, type := 0, pos := "tell.go:48", after := #[], guard := none }) ?_ rfl (by kernel_rfl) (by kernel_rfl) (by kernel_rfl) (fun _ _ _ h => h) (by rfl) (by assumption) ?_ ?_
  rotate_left
  · (intro w0 hS0; go_simp <;> (try with_reducible rfl))
  try simp only [Act.put, List.setIfInBounds_toArray, List.set_cons_zero, List.set_cons_succ]
  refine wpAnyH_read (i := 4) (oi := { dst := some 8, op := Go.Op.load 36 (Go.Operand.tmp 7), type := 36, pos := "tell.go:48", after := #[{ on := 3, ground := Go.Ground.data }], guard := none }) ?_ rfl (by kernel_rfl) (by kernel_rfl) (by kernel_rfl) (fun _ _ _ h => h) (by rfl) (by assumption) ?_ ?_
  rotate_left
  · (intro w0 hS0; obtain ⟨r0, r1, r2, r3, r4, r5, r6, r7, r8, r9, c15, c19, c20⟩ := hS0; (try clear hHeld); go_simp <;> (try with_reducible rfl))
  try simp only [Act.put, List.setIfInBounds_toArray, List.set_cons_zero, List.set_cons_succ]
  refine wpAnyH_read (i := 6) (oi := { dst := some 10, op := Go.Op.load 9 (Go.Operand.tmp 9), type := 9, pos := "tell.go:48", after := #[{ on := 5, ground := Go.Ground.data }], guard := none }) ?_ rfl (by kernel_rfl) (by kernel_rfl) (by kernel_rfl) (fun _ _ _ h => h) (by rfl) (by assumption) ?_ ?_
  rotate_left
  · (intro w0 hS0; obtain ⟨r0, r1, r2, r3, r4, r5, r6, r7, r8, r9, c15, c19, c20⟩ := hS0; (try clear hHeld); go_simp <;> (try with_reducible rfl))
  try simp only [Act.put, List.setIfInBounds_toArray, List.set_cons_zero, List.set_cons_succ]
  refine wpAnyH_read (i := 8) (oi := { dst := some 12, op := Go.Op.load 9 (Go.Operand.tmp 11), type := 9, pos := "tell.go:48", after := #[{ on := 7, ground := Go.Ground.data }], guard := none }) ?_ rfl (by kernel_rfl) (by kernel_rfl) (by kernel_rfl) (fun _ _ _ h => h) (by rfl) (by assumption) ?_ ?_
  rotate_left
  · (intro w0 hS0; obtain ⟨r0, r1, r2, r3, r4, r5, r6, r7, r8, r9, c15, c19, c20⟩ := hS0; (try clear hHeld); go_simp <;> (try with_reducible rfl))
  try simp only [Act.put, List.setIfInBounds_toArray, List.set_cons_zero, List.set_cons_succ]
  refine wpAnyH_one (i := 9) (o := { dst := some 13, op := Go.Op.buildSlice 89 1 #[(0, Go.Operand.tmp 12)], type := 89, pos := "tell.go:48", after := #[{ on := 8, ground := Go.Ground.data }], guard := none }) (by kernel_rfl) rfl (by rfl) (fun K hK => ?_)
  clear hHeld
  go_simp
  refine hK.out _ _ ?_ (fun hHeld => ?_)
  · exact HP.out _ (Fr.alloc (Fr.drew (Fr.refl _ V0)) _)
  clear hK K
  try simp only [Act.put, List.setIfInBounds_toArray, List.set_cons_zero, List.set_cons_succ]
  refine wpAnyH_one (i := 10) (o := { dst := some 14, op := Go.Op.call { callee := Go.Callee.value (Go.Operand.func 59), args := #[Go.Operand.tmp 4, Go.Operand.tmp 8, Go.Operand.tmp 10, Go.Operand.const (Go.Value.int Go.IntKind.i64 731), Go.Operand.tmp 13], argTypes := #[24, 36, 9, 3, 89] }, type := 0, pos := "tell.go:48", after := #[{ on := 0, ground := Go.Ground.data }, { on := 4, ground := Go.Ground.data }, { on := 6, ground := Go.Ground.data }, { on := 9, ground := Go.Ground.data }], guard := none }) (by kernel_rfl) rfl (by rfl) (fun K hK => ?_)
  clear hHeld
  go_simp
  refine (HT.out _ ((Fr.refl _ V0).drew)).mono ?_
  rintro r1 W1 ⟨rfl, ob, hto⟩
  have HS1 := Lib.hid (HAf.out _ _ hto)
  have HTo := Lib.hid hto
  clear hto
  refine hK.out _ _ ?_ (fun hHeld => ?_)
  · exact HS1.out
  clear hK K
  try simp only [Act.put, List.setIfInBounds_toArray, List.set_cons_zero, List.set_cons_succ]
  refine wpAnyH_done (by kernel_rfl) ?_ _
  go_upto_region 2 with fail
  obtain ⟨k0, f0, h0, hg0, hCN, hN, hn, hu⟩ := H.out
  obtain ⟨C1, h1, o1⟩ := HTo.out
  have k1 := o1.2.blk k0 (by rw [hCN]; simp)
  have hg1 : GlobB base W1 := hg0.onto (h0.up o1)
  have HP := Lib.hid (fun W (hW : Fr (fun _ => False) W1 W) => HCells.out _ _ _ (h1.fr hW fun _ _ e => e) (hW.blk k1 fun e => e))
  have HIt : Hid (∀ W, Fr (fun _ => False) W1 W → Calls Tryz.prog 60 #[.int .i64 0] W fun e w' => e = .returned (.string (bs [48])) ∧ Below W.heap.size W w') := fun W hW => by
    have := itoaM 0 (by decide) (by decide) W (hg1.onto (hW.below h1.base_le fun _ _ e => e.elim)).glob.2.2
    rw [itoa_zero] at this
    exact this
  have HT2 : Hid (∀ W, Fr (fun _ => False) W1 W → Calls Tryz.prog 59 #[.pointer (some ⟨G.c, 0, none⟩), .pointer (some ⟨G.wa, 0, none⟩), .string (bs nick), .int .i64 601, .slice (some ⟨W.heap.size, 0, none⟩) 5 5] (W.alloc (.cells #[.string (bs nick), .string (bs user), .string (bs hostL), .string (bs [48]), .string (bs offL)] 9)) fun r w' => r = .returned (.tuple #[]) ∧ CoTo base G C1 (KE K E i e (numL nameL e.nick 731 [nick]) ob) T n W1 w') := fun W hW => by
    have f1 : Fr (fun _ => False) W1 (W.alloc (.cells #[.string (bs nick), .string (bs user), .string (bs hostL), .string (bs [48]), .string (bs offL)] 9)) := hW.alloc _
    have h2 := h1.fr f1 fun _ _ e => e
    have := tellW h2 (hg1.onto (f1.below h1.base_le fun _ _ e => e.elim)) (l0 := G.wa) (nm := nick) (E := []) (fun V hV => wisBy (h2.below hV).wat (by simp) (by omega) List.Pairwise.nil (by simp)) (i := i) (e := e) (code := 601) (ps := [nick, user, hostL, [48], offL]) (A := some ⟨W.heap.size, 0, none⟩) (cc := 5) (.inl rfl) (fun e1 => by cases e1) (reads_five (heap_alloc_new W _)) (fun g o e => by cases e; exact h1.cN _ hW.size) (by decide) (by decide) (by simp) (by intro p hp; simp only [List.mem_cons, List.not_mem_nil, or_false] at hp; rcases hp with rfl | rfl | rfl | rfl | rfl <;> first | omega | (simp [hostL, onL, offL]))
    refine this.mono ?_
    rintro r w' ⟨rfl, ob2, hto⟩
    rw [KE_nil] at hto
    exact ⟨rfl, CoTo.trans ⟨fun _ _ => rfl, f1.mono fun _ _ e => e.elim⟩ hto⟩
  have HAf2 := Lib.hid (fun W (hW : CoTo base G C1 (KE K E i e (numL nameL e.nick 731 [nick]) ob) T n W1 W) => HCells.out _ _ _ hW.choose_spec.1 (hW.choose_spec.2.2.blk k1 (by rw [o1.1 N (blk_lt k0), hCN]; simp)))
  clear k0 f0 h0 hg0 hCN hN hn hu k1 hg1 h1
  refine wp_region_held_drew (S := PeS N G.c G.mo G.wa id nick user) (by kernel_rfl) (by exact HP.out _ (Fr.refl _ W1).drew) (fun hHeld => ?_)
  refine wpAnyH_read (i := 0) (oi := { dst := some 15, op := Go.Op.move (Go.Operand.tmp 0), type := 24, pos := "tell.go:49", after := #[], guard := none }) ?_ rfl (by kernel_rfl) (by kernel_rfl) (by kernel_rfl) (fun _ _ _ h => h) (by rfl) (by assumption) ?_ ?_
  rotate_left
  · (intro w0 hS0; go_simp <;> (try with_reducible rfl))
  try simp only [Act.put, List.setIfInBounds_toArray, List.set_cons_zero, List.set_cons_succ]
  refine wpAnyH_read (i := 1) (oi := { dst := some 16, op := Go.Op.move (Go.Operand.tmp 0), type := 24, pos := "tell.go:49", after := #[], guard := none }) ?_ rfl (by kernel_rfl) (by kernel_rfl) (by kernel_rfl) (fun _ _ _ h => h) (by rfl) (by assumption) ?_ ?_
  rotate_left
  · (intro w0 hS0; go_simp <;> (try with_reducible rfl))
  try simp only [Act.put, List.setIfInBounds_toArray, List.set_cons_zero, List.set_cons_succ]
  refine wpAnyH_read (i := 2) (oi := { dst := some 17, op := Go.Op.nilCheck (Go.Operand.tmp 16), type := 0, pos := "tell.go:49", after := #[{ on := 1, ground := Go.Ground.data }], guard := none }) ?_ rfl (by kernel_rfl) (by kernel_rfl) (by kernel_rfl) (fun _ _ _ h => h) (by rfl) (by assumption) ?_ ?_
  rotate_left
  · (intro w0 hS0; go_simp <;> (try with_reducible rfl))
  try simp only [Act.put, List.setIfInBounds_toArray, List.set_cons_zero, List.set_cons_succ]
  refine wpAnyH_read (i := 3) (oi := { dst := some 18, op := Go.Op.fieldAddr 55 (Go.Operand.tmp 17) 6, type := 0, pos := "tell.go:49", after := #[{ on := 2, ground := Go.Ground.data }], guard := none }) ?_ rfl (by kernel_rfl) (by kernel_rfl) (by kernel_rfl) (fun _ _ _ h => h) (by rfl) (by assumption) ?_ ?_
  rotate_left
  · (intro w0 hS0; go_simp <;> (try with_reducible rfl))
  try simp only [Act.put, List.setIfInBounds_toArray, List.set_cons_zero, List.set_cons_succ]
  refine wpAnyH_read (i := 5) (oi := { dst := some 20, op := Go.Op.fieldAddr 61 (Go.Operand.tmp 3) 1, type := 0, pos := "tell.go:49", after := #[], guard := none }) ?_ rfl (by kernel_rfl) (by kernel_rfl) (by kernel_rfl) (fun _ _ _ h => h) (by rfl) (by assumption) ?_ ?_
  rotate_left
  · (intro w0 hS0; go_simp <;> (try with_reducible rfl))
  try simp only [Act.put, List.setIfInBounds_toArray, List.set_cons_zero, List.set_cons_succ]
  refine wpAnyH_read (i := 7) (oi := { dst := some 22, op := Go.Op.fieldAddr 61 (Go.Operand.tmp 3) 1, type := 0, pos := "tell.go:49", after := #[], guard := none }) ?_ rfl (by kernel_rfl) (by kernel_rfl) (by kernel_rfl) (fun _ _ _ h => h) (by rfl) (by assumption) ?_ ?_
  rotate_left
  · (intro w0 hS0; go_simp <;> (try with_reducible rfl))
  try simp only [Act.put, List.setIfInBounds_toArray, List.set_cons_zero, List.set_cons_succ]
  refine wpAnyH_read (i := 9) (oi := { dst := some 24, op := Go.Op.fieldAddr 61 (Go.Operand.tmp 3) 2, type := 0, pos := "tell.go:49", after := #[], guard := none }) ?_ rfl (by kernel_rfl) (by kernel_rfl) (by kernel_rfl) (fun _ _ _ h => h) (by rfl) (by assumption) ?_ ?_
  rotate_left
  · (intro w0 hS0; go_simp <;> (try with_reducible rfl))
  try simp only [Act.put, List.setIfInBounds_toArray, List.set_cons_zero, List.set_cons_succ]
  refine wpAnyH_read (i := 11) (oi := { dst := some 26, op := Go.Op.fieldAddr 61 (Go.Operand.tmp 3) 3, type := 0, pos := "tell.go:49", after := #[], guard := none }) ?_ rfl (by kernel_rfl) (by kernel_rfl) (by kernel_rfl) (fun _ _ _ h => h) (by rfl) (by assumption) ?_ ?_
  rotate_left
  · (intro w0 hS0; go_simp <;> (try with_reducible rfl))
  try simp only [Act.put, List.setIfInBounds_toArray, List.set_cons_zero, List.set_cons_succ]
  refine wpAnyH_read (i := 13) (oi := { dst := some 28, op := Go.Op.move (Go.Operand.tmp 0), type := 24, pos := "tell.go:49", after := #[], guard := none }) ?_ rfl (by kernel_rfl) (by kernel_rfl) (by kernel_rfl) (fun _ _ _ h => h) (by rfl) (by assumption) ?_ ?_
  rotate_left
  · (intro w0 hS0; go_simp <;> (try with_reducible rfl))
  try simp only [Act.put, List.setIfInBounds_toArray, List.set_cons_zero, List.set_cons_succ]
  refine wpAnyH_read (i := 14) (oi := { dst := some 29, op := Go.Op.nilCheck (Go.Operand.tmp 28), type := 0, pos := "tell.go:49", after := #[{ on := 13, ground := Go.Ground.data }], guard := none }) ?_ rfl (by kernel_rfl) (by kernel_rfl) (by kernel_rfl) (fun _ _ _ h => h) (by rfl) (by assumption) ?_ ?_
  rotate_left
  · (intro w0 hS0; go_simp <;> (try with_reducible rfl))
  try simp only [Act.put, List.setIfInBounds_toArray, List.set_cons_zero, List.set_cons_succ]
  refine wpAnyH_read (i := 15) (oi := { dst := some 30, op := Go.Op.fieldAddr 55 (Go.Operand.tmp 29) 1, type := 0, pos := "tell.go:49", after := #[{ on := 14, ground := Go.Ground.data }], guard := none }) ?_ rfl (by kernel_rfl) (by kernel_rfl) (by kernel_rfl) (fun _ _ _ h => h) (by rfl) (by assumption) ?_ ?_
  rotate_left
  · (intro w0 hS0; go_simp <;> (try with_reducible rfl))
  try simp only [Act.put, List.setIfInBounds_toArray, List.set_cons_zero, List.set_cons_succ]
  refine wpAnyH_read (i := 4) (oi := { dst := some 19, op := Go.Op.load 36 (Go.Operand.tmp 18), type := 36, pos := "tell.go:49", after := #[{ on := 3, ground := Go.Ground.data }], guard := none }) ?_ rfl (by kernel_rfl) (by kernel_rfl) (by kernel_rfl) (fun _ _ _ h => h) (by rfl) (by assumption) ?_ ?_
  rotate_left
  · (intro w0 hS0; obtain ⟨r0, r1, r2, r3, r4, r5, r6, r7, r8, r9, c15, c19, c20⟩ := hS0; (try clear hHeld); go_simp <;> (try with_reducible rfl))
  try simp only [Act.put, List.setIfInBounds_toArray, List.set_cons_zero, List.set_cons_succ]
  refine wpAnyH_read (i := 6) (oi := { dst := some 21, op := Go.Op.load 9 (Go.Operand.tmp 20), type := 9, pos := "tell.go:49", after := #[{ on := 5, ground := Go.Ground.data }], guard := none }) ?_ rfl (by kernel_rfl) (by kernel_rfl) (by kernel_rfl) (fun _ _ _ h => h) (by rfl) (by assumption) ?_ ?_
  rotate_left
  · (intro w0 hS0; obtain ⟨r0, r1, r2, r3, r4, r5, r6, r7, r8, r9, c15, c19, c20⟩ := hS0; (try clear hHeld); go_simp <;> (try with_reducible rfl))
  try simp only [Act.put, List.setIfInBounds_toArray, List.set_cons_zero, List.set_cons_succ]
  refine wpAnyH_read (i := 8) (oi := { dst := some 23, op := Go.Op.load 9 (Go.Operand.tmp 22), type := 9, pos := "tell.go:49", after := #[{ on := 7, ground := Go.Ground.data }], guard := none }) ?_ rfl (by kernel_rfl) (by kernel_rfl) (by kernel_rfl) (fun _ _ _ h => h) (by rfl) (by assumption) ?_ ?_
  rotate_left
  · (intro w0 hS0; obtain ⟨r0, r1, r2, r3, r4, r5, r6, r7, r8, r9, c15, c19, c20⟩ := hS0; (try clear hHeld); go_simp <;> (try with_reducible rfl))
  try simp only [Act.put, List.setIfInBounds_toArray, List.set_cons_zero, List.set_cons_succ]
  refine wpAnyH_read (i := 10) (oi := { dst := some 25, op := Go.Op.load 9 (Go.Operand.tmp 24), type := 9, pos := "tell.go:49", after := #[{ on := 9, ground := Go.Ground.data }], guard := none }) ?_ rfl (by kernel_rfl) (by kernel_rfl) (by kernel_rfl) (fun _ _ _ h => h) (by rfl) (by assumption) ?_ ?_
  rotate_left
  · (intro w0 hS0; obtain ⟨r0, r1, r2, r3, r4, r5, r6, r7, r8, r9, c15, c19, c20⟩ := hS0; (try clear hHeld); go_simp <;> (try with_reducible rfl))
  try simp only [Act.put, List.setIfInBounds_toArray, List.set_cons_zero, List.set_cons_succ]
  refine wpAnyH_read (i := 12) (oi := { dst := some 27, op := Go.Op.load 9 (Go.Operand.tmp 26), type := 9, pos := "tell.go:49", after := #[{ on := 11, ground := Go.Ground.data }], guard := none }) ?_ rfl (by kernel_rfl) (by kernel_rfl) (by kernel_rfl) (fun _ _ _ h => h) (by rfl) (by assumption) ?_ ?_
  rotate_left
  · (intro w0 hS0; obtain ⟨r0, r1, r2, r3, r4, r5, r6, r7, r8, r9, c15, c19, c20⟩ := hS0; (try clear hHeld); go_simp <;> (try with_reducible rfl))
  try simp only [Act.put, List.setIfInBounds_toArray, List.set_cons_zero, List.set_cons_succ]
  refine wpAnyH_read (i := 16) (oi := { dst := some 31, op := Go.Op.load 3 (Go.Operand.tmp 30), type := 3, pos := "tell.go:49", after := #[{ on := 15, ground := Go.Ground.data }], guard := none }) ?_ rfl (by kernel_rfl) (by kernel_rfl) (by kernel_rfl) (fun _ _ _ h => h) (by rfl) (by assumption) ?_ ?_
  rotate_left
  · (intro w0 hS0; obtain ⟨r0, r1, r2, r3, r4, r5, r6, r7, r8, r9, c15, c19, c20⟩ := hS0; (try clear hHeld); go_simp <;> (try with_reducible rfl))
  try simp only [Act.put, List.setIfInBounds_toArray, List.set_cons_zero, List.set_cons_succ]
  refine wpAnyH_one (i := 17) (o := { dst := some 32, op := Go.Op.call { callee := Go.Callee.value (Go.Operand.func 60), args := #[Go.Operand.tmp 31], argTypes := #[3] }, type := 9, pos := "tell.go:49", after := #[{ on := 16, ground := Go.Ground.data }], guard := none }) (by kernel_rfl) rfl (by rfl) (fun K hK => ?_)
  clear hHeld
  go_simp
  refine (HIt.out _ (Fr.drew (Fr.refl _ W1))).mono ?_
  rintro r1 Wb ⟨rfl, bb⟩
  have HB : Hid (Fr (fun _ => False) W1 Wb) := (Fr.drew (Fr.refl _ W1)).trans (Fr.of_below bb)
  clear bb
  refine hK.out _ _ ?_ (fun hHeld => ?_)
  · exact HP.out _ HB.out
  clear hK K
  try simp only [Act.put, List.setIfInBounds_toArray, List.set_cons_zero, List.set_cons_succ]
  refine wpAnyH_one (i := 18) (o := { dst := some 33, op := Go.Op.buildSlice 89 5 #[(0, Go.Operand.tmp 23), (1, Go.Operand.tmp 25), (2, Go.Operand.tmp 27), (3, Go.Operand.tmp 32), (4, Go.Operand.const (Go.Value.string { data := #[108, 111, 103, 103, 101, 100, 32, 111, 102, 102, 108, 105, 110, 101] }))], type := 89, pos := "tell.go:49", after := #[{ on := 8, ground := Go.Ground.data }, { on := 10, ground := Go.Ground.data }, { on := 12, ground := Go.Ground.data }, { on := 17, ground := Go.Ground.data }], guard := none }) (by kernel_rfl) rfl (by rfl) (fun K hK => ?_)
  clear hHeld
  go_simp
  refine hK.out _ _ ?_ (fun hHeld => ?_)
  · exact HP.out _ (Fr.alloc (HB.out) _)
  clear hK K
  try simp only [Act.put, List.setIfInBounds_toArray, List.set_cons_zero, List.set_cons_succ]
  refine wpAnyH_one (i := 19) (o := { dst := some 34, op := Go.Op.call { callee := Go.Callee.value (Go.Operand.func 59), args := #[Go.Operand.tmp 15, Go.Operand.tmp 19, Go.Operand.tmp 21, Go.Operand.const (Go.Value.int Go.IntKind.i64 601), Go.Operand.tmp 33], argTypes := #[24, 36, 9, 3, 89] }, type := 0, pos := "tell.go:49", after := #[{ on := 0, ground := Go.Ground.data }, { on := 4, ground := Go.Ground.data }, { on := 6, ground := Go.Ground.data }, { on := 18, ground := Go.Ground.data }, { on := 17, ground := Go.Ground.chain }], guard := none }) (by kernel_rfl) rfl (by rfl) (fun K hK => ?_)
  clear hHeld
  go_simp
  refine (HT2.out _ HB.out).mono ?_
  rintro r1 W2 ⟨rfl, hto2⟩
  have HS2 := Lib.hid (HAf2.out _ hto2)
  have HTo2 := Lib.hid hto2
  clear hto2
  refine hK.out _ _ ?_ (fun hHeld => ?_)
  · exact HS2.out
  clear hK K
  try simp only [Act.put, List.setIfInBounds_toArray, List.set_cons_zero, List.set_cons_succ]
  refine wpAnyH_done (by kernel_rfl) ?_ _
  go_wp2_with fail
  first | go_end0 | refine bodyPost_ret (results_none rfl _ _ _) rfl ?_
  obtain ⟨k0, f0, h0, hg0, hCN, hN, hn, hu⟩ := H.out
  exact ⟨rfl, ob, CoTo.trans ⟨fun _ _ => rfl, f0.mono fun _ _ e => e.elim⟩ (CoTo.trans o1 HTo2.out)⟩
end
end Go.Proofs.YtpbobonddocgkaaGreatDoor
end
