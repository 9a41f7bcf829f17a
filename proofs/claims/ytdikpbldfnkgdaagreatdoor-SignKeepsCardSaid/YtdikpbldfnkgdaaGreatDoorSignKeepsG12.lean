/- Texts of this proof, one behind the other. -/
import Derived.Test.YtdikpbldfnkgdaaGreatDoorSignKeepsG11
section
/- Layer 17: the law SignKeeps. -/
namespace Go.Proofs.YtdikpbldfnkgdaaGreatDoor
set_option linter.unusedVariables false
set_option linter.unusedSimpArgs false
open Go Go.RowKit Go.Lib

def Ld17 (W : World) : Prop := Mx W ∧ PowW W ∧ Known W ∧ Rowed W ∧ Lib.Utf8Tabs 2 3 W
theorem Ld17.kept {W W' : World} (h : Ld17 W) (hb : RowKit.Below W.heap.size W W') : Ld17 W' := ⟨mx_kept h.1 hb (Nat.le_refl _), PowW.below h.2.1 hb, h.2.2.1.kept hb, rowed_sg h.2.2.2.1 hb, utf8_kept h.2.2.2.2 hb⟩
theorem box7_new (w : World) (v0 v1 v2 v3 v4 v5 v6 : Value) {W : World}
    (hW : ((((((((w.alloc (.cells #[.int .i64 0, .bool false, .string ⟨#[]⟩, .string ⟨#[]⟩, .string ⟨#[]⟩, .string ⟨#[]⟩, .bool false] 23)).setCell ⟨w.heap.size, 0, none⟩ v0).setCell ⟨w.heap.size, 1, none⟩ v1).setCell ⟨w.heap.size, 2, none⟩ v2).setCell ⟨w.heap.size, 3, none⟩ v3).setCell ⟨w.heap.size, 4, none⟩ v4).setCell ⟨w.heap.size, 5, none⟩ v5).setCell ⟨w.heap.size, 6, none⟩ v6) = W) :
    W.heap[w.heap.size]? = some (.cells #[v0, v1, v2, v3, v4, v5, v6] 23 (0, 0)) ∧ RowKit.Below w.heap.size w W := by
  subst hW
  exact ⟨set7 (heap_alloc_new w _), (set7_fr (X := fun k => k = w.heap.size) (Fr.alloc (Fr.refl _ w) _) rfl).below (Nat.le_refl _) fun k hk e => by omega⟩
def LawP (w : World) (e : Ending) (w' : World) : Prop := e = .returned (.bool true) ∧ RowKit.Below w.heap.size w w'
set_option maxRecDepth 100000 in
set_option maxHeartbeats 8000000 in
theorem signKeeps_walk (v : BitVec 64) (t : Bool) (p u r : ByteArray) (nn : List UInt8) (d : Bool) (A : Option Addr) (c : Nat) (ps : List (List UInt8)) (w : World) (hR : ReadsT w A ps) (hl : ps.length ≤ 9223372036854775807) (hLd : Ld17 w) :
    Calls Tryz.prog 3 #[sgn (IV v) t p (bs nn) u r d, .slice A ps.length c] w (LawP w) := by
  obtain ⟨N, hN⟩ : ∃ N, w.heap.size = N := ⟨_, rfl⟩
  obtain ⟨W0, hW0⟩ : ∃ W0, w.alloc (.cells (sgC (IV v) t p (bs nn) u r d) 23) = W0 := ⟨_, rfl⟩
  have b0 : RowKit.Below w.heap.size w W0 := by rw [← hW0]; exact (Below.refl _ w).alloc (Nat.le_refl _) _
  have k0 : W0.heap[N]? = some (.cells (sgC (IV v) t p (bs nn) u r d) 23 (0, 0)) := by rw [← hW0, ← hN]; exact heap_alloc_new w _
  have HAW := Lib.hid (fun W (hb : RowKit.Below w.heap.size w W) => awake17 W (hLd.kept hb).1 (hLd.kept hb).2.1 (hLd.kept hb).2.2.1 (hLd.kept hb).2.2.2.2)
  have HGR := Lib.hid (fun W (hb : RowKit.Below w.heap.size w W) => great17 (IV v) t p (bs nn) u r d A c ps W (readsT_below hR hb (Nat.le_refl _)) hl)
  have HPS := Lib.hid (fun (gr : GrOk p (bs nn) u r ps) W (hb : RowKit.Below w.heap.size w W) => pass_any ircL (IV v) t p u r nn d A c ps W (hLd.kept hb).1 (hLd.kept hb).2.1 (readsT_below hR hb (Nat.le_refl _)) (by decide) (by have := gr.2.1; rw [bs_sz] at this; omega))
  have HUS := Lib.hid (fun (gr : GrOk p (bs nn) u r ps) W (hb : RowKit.Below w.heap.size w W) => user_any ircL (IV v) t p u r nn d A c ps W (hLd.kept hb).1 (hLd.kept hb).2.1 (hLd.kept hb).2.2.2.1 (readsT_below hR hb (Nat.le_refl _)) (by decide) (by have := gr.2.1; rw [bs_sz] at this; omega) (fun x hx => by have := gr.2.2.2.2.2 x hx; omega))
  have HCP := Lib.hid (fun (gr : GrOk p (bs nn) u r ps) W (hb : RowKit.Below w.heap.size w W) => cap_any ircL v t p u r nn d A c ps W (hLd.kept hb).1 (hLd.kept hb).2.1 (hLd.kept hb).2.2.1 (hLd.kept hb).2.2.2.2 (readsT_below hR hb (Nat.le_refl _)) (by decide) (by have := gr.2.1; rw [bs_sz] at this; omega) (by have := gr.1; omega) (fun i => by
    by_cases hi : i < ps.length
    · rw [List.getD_eq_getElem?_getD, List.getElem?_eq_getElem hi]; have := gr.2.2.2.2.2 _ (List.getElem_mem hi); simpa using by omega
    · rw [List.getD_eq_getElem?_getD, List.getElem?_eq_none (by omega)]; simp))
  have HW := Lib.hid hW0
  have H := Lib.hid (And.intro b0 k0)
  obtain ⟨n, hnn⟩ : ∃ n, bs nn = n := ⟨_, rfl⟩
  rw [hnn] at HGR HPS HUS HCP HW H ⊢
  have HN := Lib.hid hN
  clear hR hLd hW0 b0 k0 hnn hN
  unfold sgn
  go_enter Tryz.func3, Tryz.ntmps3
  have hW0 := HW.out
  have hN := HN.out
  unfold sgC at hW0
  go_wp2_with fail
  clear hW0 HW hN
  refine (HAW.out W0 H.out.1).mono ?_
  rintro e w1 ⟨rfl, hb1⟩
  have H1 := Lib.hid (And.intro (H.out.1.trans (hb1.mono H.out.1.size)) ((Fr.of_below (X := fun _ => False) hb1).blk H.out.2 fun e => e))
  clear hb1 H HAW
  obtain ⟨c0, c1, c2, c3, c4, c5, c6⟩ := box7_blk H1.out.2
  go_wp2_with fail
  clear c0 c1 c2 c3 c4 c5 c6
  refine (HGR.out w1 H1.out.1).mono ?_
  rintro e w2 ⟨b, rfl, hgr, hb2⟩
  have H2 := Lib.hid (And.intro (H1.out.1.trans (hb2.mono H1.out.1.size)) ((Fr.of_below (X := fun _ => False) hb2).blk H1.out.2 fun e => e))
  clear hb2 H1
  cases b with
  | true =>
    clear hgr
    go_wp2_with fail
    go_ret
    exact ⟨rfl, H2.out.1⟩
  | false =>
    have HP := Lib.hid (HPS.out (hgr rfl))
    have HU := Lib.hid (HUS.out (hgr rfl))
    have HC := Lib.hid (HCP.out (hgr rfl))
    clear hgr HPS HUS HCP
    obtain ⟨c0, c1, c2, c3, c4, c5, c6⟩ := box7_blk H2.out.2
    go_wp2_with fail
    clear c0 c1 c2 c3 c4 c5 c6
    refine (HP.out w2 H2.out.1).mono ?_
    rintro e w3 ⟨⟨q3, A3, c3, m3, rfl, hq3⟩, hb3⟩
    have H3 := Lib.hid (And.intro (H2.out.1.trans (hb3.mono H2.out.1.size)) ((Fr.of_below (X := fun _ => False) hb3).blk H2.out.2 fun e => e))
    have HQ3 := Lib.hid hq3
    have hlt := blk_lt H3.out.2
    obtain ⟨s0, s1, s2, s3, s4, s5, s6⟩ := box7_blk H3.out.2
    clear hb3 H2 hq3 HP
    unfold sgn
    go_wp2_with fail
    clear s0 s1 s2 s3 s4 s5 s6 hlt
    obtain ⟨Na, hNa⟩ : ∃ Na, w3.heap.size = Na := ⟨_, rfl⟩
    obtain ⟨w4, hw4⟩ : ∃ w4, w3.alloc (.cells (sgC (IV v) t q3 n u r d) 23) = w4 := ⟨_, rfl⟩
    have k4 : RowKit.Below w.heap.size w w4 := by rw [← hw4]; exact H3.out.1.alloc H3.out.1.size _
    have a4 : w4.heap[Na]? = some (.cells (sgC (IV v) t q3 n u r d) 23 (0, 0)) := by rw [← hw4, ← hNa]; exact heap_alloc_new w3 _
    have n4 : w4.heap[N]? = some (.cells (sgC (IV v) t p n u r d) 23 (0, 0)) := by rw [← hw4]; exact blk_alloc H3.out.2 _
    unfold sgC at hw4
    rw [hw4, hNa]
    have H4 := Lib.hid (And.intro k4 (And.intro a4 n4))
    clear hw4 hNa k4 a4 n4 H3
    refine (HU.out w4 H4.out.1).mono ?_
    rintro e w5 ⟨⟨u5, r5, A5, x5, m5, rfl, hq5⟩, hb5⟩
    have f5 : Fr (fun _ => False) w4 w5 := Fr.of_below hb5
    have H5 := Lib.hid (And.intro (H4.out.1.trans (hb5.mono H4.out.1.size)) (And.intro (f5.blk H4.out.2.1 fun e => e) (f5.blk H4.out.2.2 fun e => e)))
    have HQ5 := Lib.hid hq5
    have hlt := blk_lt H5.out.2.2
    obtain ⟨s0, s1, s2, s3, s4, s5, s6⟩ := box7_blk H5.out.2.2
    clear hb5 f5 hq5 H4 HU
    unfold sgn
    go_wp2_with fail
    clear s0 s1 s2 s3 s4 s5 s6 hlt
    obtain ⟨Nb, hNb⟩ : ∃ Nb, w5.heap.size = Nb := ⟨_, rfl⟩
    obtain ⟨w6, hw6⟩ : ∃ w6, w5.alloc (.cells (sgC (IV v) t p n u5 r5 d) 23) = w6 := ⟨_, rfl⟩
    have k6 : RowKit.Below w.heap.size w w6 := by rw [← hw6]; exact H5.out.1.alloc H5.out.1.size _
    have b6 : w6.heap[Nb]? = some (.cells (sgC (IV v) t p n u5 r5 d) 23 (0, 0)) := by rw [← hw6, ← hNb]; exact heap_alloc_new w5 _
    have a6 : w6.heap[Na]? = some (.cells (sgC (IV v) t q3 n u r d) 23 (0, 0)) := by rw [← hw6]; exact blk_alloc H5.out.2.1 _
    have n6 : w6.heap[N]? = some (.cells (sgC (IV v) t p n u r d) 23 (0, 0)) := by rw [← hw6]; exact blk_alloc H5.out.2.2 _
    unfold sgC at hw6
    rw [hw6, hNb]
    have H6 := Lib.hid (And.intro k6 (And.intro b6 (And.intro a6 n6)))
    clear hw6 hNb k6 b6 a6 n6 H5
    refine (HC.out w6 H6.out.1).mono ?_
    rintro e w7 ⟨⟨k7, t7, A7, x7, m7, rfl, hq7⟩, hb7⟩
    have f7 : Fr (fun _ => False) w6 w7 := Fr.of_below hb7
    have H7 := Lib.hid (And.intro (H6.out.1.trans (hb7.mono H6.out.1.size)) (And.intro (f7.blk H6.out.2.1 fun e => e) (And.intro (f7.blk H6.out.2.2.1 fun e => e) (f7.blk H6.out.2.2.2 fun e => e))))
    have HQ7 := Lib.hid hq7
    clear hb7 f7 hq7 H6 HC
    unfold sgn
    rcases HQ3.out with ⟨rfl, e3⟩ | ⟨rfl, ed⟩
    · have e3s := e3.symm
      subst e3s
      rcases HQ5.out with ⟨rfl, e5, e6⟩ | ⟨rfl, ed⟩
      · have e5s := e5.symm
        subst e5s
        have e6s := e6.symm
        subst e6s
        cases d with
        | false =>
          have la := blk_lt H7.out.2.2.1; have lb := blk_lt H7.out.2.1; have ln := blk_lt H7.out.2.2.2
          obtain ⟨s0, s1, s2, s3, s4, s5, s6⟩ := box7_blk H7.out.2.2.2
          obtain ⟨a0, a1, a2, a3, a4, a5, a6⟩ := box7_blk H7.out.2.2.1
          obtain ⟨b0, b1, b2, b3, b4, b5, b6⟩ := box7_blk H7.out.2.1
          go_wp2_with fail
          clear s0 s1 s2 s3 s4 s5 s6 a0 a1 a2 a3 a4 a5 a6 b0 b1 b2 b3 b4 b5 b6
          obtain ⟨w9, hw9⟩ : ∃ w9, (w7.alloc (.cells (sgC k7 t7 p n u r false) 23)).alloc (.cells (sgC k7 t7 p n u r false) 23) = w9 := ⟨_, rfl⟩
          obtain ⟨Nc, hNc⟩ : ∃ Nc, w7.heap.size = Nc := ⟨_, rfl⟩
          have k9 : RowKit.Below w.heap.size w w9 := by rw [← hw9]; exact (H7.out.1.alloc H7.out.1.size _).alloc (by have := H7.out.1.size; simp; omega) _
          have c9 : w9.heap[Nc]? = some (.cells (sgC k7 t7 p n u r false) 23 (0, 0)) := by rw [← hw9, ← hNc]; exact blk_alloc (heap_alloc_new w7 _) _
          have d9 : w9.heap[Nc + 1]? = some (.cells (sgC k7 t7 p n u r false) 23 (0, 0)) := by rw [← hw9, ← hNc]; exact heap_alloc2_new w7 _ _
          have b9 := blk_alloc (blk_alloc H7.out.2.1 (.cells (sgC k7 t7 p n u r false) 23)) (.cells (sgC k7 t7 p n u r false) 23)
          have a9 := blk_alloc (blk_alloc H7.out.2.2.1 (.cells (sgC k7 t7 p n u r false) 23)) (.cells (sgC k7 t7 p n u r false) 23)
          have n9 := blk_alloc (blk_alloc H7.out.2.2.2 (.cells (sgC k7 t7 p n u r false) 23)) (.cells (sgC k7 t7 p n u r false) 23)
          rw [hw9] at a9 b9 n9
          unfold sgC at hw9
          rw [hw9]
          try rw [hNc]
          have hne : Na < Nc ∧ Nb < Nc ∧ N < Nc ∧ w.heap.size ≤ Nc := ⟨by omega, by omega, by omega, by have := H7.out.1.size; omega⟩
          have H9 := Lib.hid (And.intro k9 (And.intro c9 (And.intro b9 (And.intro a9 (And.intro n9 (And.intro d9 hne))))))
          clear hw9 hNc k9 c9 b9 a9 n9 d9 hne la lb ln H7
          have hS0 : w9.drew.heap[N]? = some (.cells (sgC (IV v) t p n u r false) 23 (0, 0)) := H9.out.2.2.2.2.1
          have hX : w9.drew.heap[Nc + 1]? = some (.cells (sgC k7 t7 p n u r false) 23 (0, 0)) := H9.out.2.2.2.2.2.1
          have hF : Fr (fun k => k = Nc + 1) w9 w9.drew := (Fr.refl _ _).drew
          have hnN : N ≠ Nc + 1 := by have := H9.out.2.2.2.2.2.2.2.2.1; omega
          refine wp_region_held_drew (S := fun V => V.heap[N]? = some (.cells (sgC (IV v) t p n u r false) 23 (0, 0))) (by kernel_rfl) (by exact hS0) (fun hHeld => ?_)
          obtain ⟨w10, hw10⟩ : ∃ w10, w9.drew = w10 := ⟨_, rfl⟩
          rw [hw10] at hHeld hS0 hX hF ⊢
          clear hw10
          have q0 := blk_cell hX 0; have q1 := blk_cell hX 1; have f0 := blk_free hX 0; have f1 := blk_free hX 1
          refine wpAnyH_read (i := 0) (oi := { dst := some 54, op := Go.Op.fieldAddr 23 (Go.Operand.tmp 2) 0, type := 0, pos := "law.go:89", after := #[], guard := none }) ?_ rfl (by kernel_rfl) (by kernel_rfl) (by kernel_rfl) (fun _ _ _ h => h) (by rfl) (by exact hHeld) ?_ ?_
          rotate_left
          · (intro w0 hS0; have s0 := blk_cell hS0 0; have s1 := blk_cell hS0 1; go_simp <;> (try with_reducible rfl))
          try simp only [Act.put, List.setIfInBounds_toArray, List.set_cons_zero, List.set_cons_succ]
          refine wpAnyH_read (i := 2) (oi := { dst := some 56, op := Go.Op.fieldAddr 23 (Go.Operand.tmp 2) 1, type := 0, pos := "law.go:89", after := #[{ on := 5, ground := Go.Ground.gcOnly Go.Departure.lateStores }], guard := none }) ?_ rfl (by kernel_rfl) (by kernel_rfl) (by kernel_rfl) (fun _ _ _ h => h) (by rfl) (by exact hHeld) ?_ ?_
          rotate_left
          · (intro w0 hS0; have s0 := blk_cell hS0 0; have s1 := blk_cell hS0 1; go_simp <;> (try with_reducible rfl))
          try simp only [Act.put, List.setIfInBounds_toArray, List.set_cons_zero, List.set_cons_succ]
          refine wpAnyH_read (i := 1) (oi := { dst := some 55, op := Go.Op.load 3 (Go.Operand.tmp 54), type := 3, pos := "law.go:89", after := #[{ on := 0, ground := Go.Ground.data }], guard := none }) ?_ rfl (by kernel_rfl) (by kernel_rfl) (by kernel_rfl) (fun _ _ _ h => h) (by rfl) (by exact hHeld) ?_ ?_
          rotate_left
          · (intro w0 hS0; have s0 := blk_cell hS0 0; have s1 := blk_cell hS0 1; go_simp <;> (try with_reducible rfl))
          try simp only [Act.put, List.setIfInBounds_toArray, List.set_cons_zero, List.set_cons_succ]
          refine wpAnyH_read (i := 4) (oi := { dst := some 58, op := Go.Op.fieldAddr 23 (Go.Operand.tmp 11) 0, type := 0, pos := "law.go:89", after := #[{ on := 0, ground := Go.Ground.phase }, { on := 1, ground := Go.Ground.phase }, { on := 2, ground := Go.Ground.textOnly Go.Departure.lateStores }, { on := 3, ground := Go.Ground.textOnly Go.Departure.lateStores }], guard := none }) ?_ rfl (by kernel_rfl) (by kernel_rfl) (by kernel_rfl) (fun _ _ _ h => h) (by rfl) (by exact hHeld) ?_ ?_
          rotate_left
          · (intro w0 hS0; have s0 := blk_cell hS0 0; have s1 := blk_cell hS0 1; go_simp <;> (try with_reducible rfl))
          try simp only [Act.put, List.setIfInBounds_toArray, List.set_cons_zero, List.set_cons_succ]
          refine wpAnyH_read (i := 3) (oi := { dst := some 57, op := Go.Op.load 4 (Go.Operand.tmp 56), type := 4, pos := "law.go:89", after := #[{ on := 2, ground := Go.Ground.data }, { on := 5, ground := Go.Ground.gcOnly Go.Departure.lateStores }], guard := none }) ?_ rfl (by kernel_rfl) (by kernel_rfl) (by kernel_rfl) (fun _ _ _ h => h) (by rfl) (by exact hHeld) ?_ ?_
          rotate_left
          · (intro w0 hS0; have s0 := blk_cell hS0 0; have s1 := blk_cell hS0 1; go_simp <;> (try with_reducible rfl))
          try simp only [Act.put, List.setIfInBounds_toArray, List.set_cons_zero, List.set_cons_succ]
          refine wpAnyH_one (i := 5) (o := { dst := none, op := Go.Op.store 3 (Go.Operand.tmp 58) (Go.Operand.tmp 55), type := 0, pos := "law.go:89", after := #[{ on := 4, ground := Go.Ground.data }, { on := 1, ground := Go.Ground.data }, { on := 0, ground := Go.Ground.phase }, { on := 1, ground := Go.Ground.phase }, { on := 2, ground := Go.Ground.textOnly Go.Departure.lateStores }, { on := 3, ground := Go.Ground.textOnly Go.Departure.lateStores }], guard := none }) (by kernel_rfl) rfl (by rfl) (fun K hK => ?_)
          go_simp
          refine hK.out _ _ ?_ (fun hHeld => ?_)
          · exact Fr.blk (X := fun k => k = Nc + 1) (Fr.setCell (X := fun k => k = Nc + 1) (Fr.refl _ _) ⟨Nc + 1, 0, none⟩ rfl (.int .i64 (IV v))) hS0 hnN
          clear hK K
          try simp only [Act.put, List.setIfInBounds_toArray, List.set_cons_zero, List.set_cons_succ]
          have hS0 := hHeld
          have hX := blk_set hX 0 (.int .i64 (IV v))
          have hF := Fr.setCell (X := fun k => k = Nc + 1) hF ⟨Nc + 1, 0, none⟩ rfl (.int .i64 (IV v))
          clear q0 q1 f0 f1
          have q0 := blk_cell hX 0; have q1 := blk_cell hX 1; have f0 := blk_free hX 0; have f1 := blk_free hX 1
          refine wpAnyH_read (i := 6) (oi := { dst := some 59, op := Go.Op.fieldAddr 23 (Go.Operand.tmp 11) 1, type := 0, pos := "law.go:89", after := #[{ on := 0, ground := Go.Ground.phase }, { on := 1, ground := Go.Ground.phase }, { on := 2, ground := Go.Ground.phase }, { on := 3, ground := Go.Ground.phase }, { on := 4, ground := Go.Ground.phase }, { on := 5, ground := Go.Ground.phase }], guard := none }) ?_ rfl (by kernel_rfl) (by kernel_rfl) (by kernel_rfl) (fun _ _ _ h => h) (by rfl) (by exact hHeld) ?_ ?_
          rotate_left
          · (intro w0 hS0; have s0 := blk_cell hS0 0; have s1 := blk_cell hS0 1; go_simp <;> (try with_reducible rfl))
          try simp only [Act.put, List.setIfInBounds_toArray, List.set_cons_zero, List.set_cons_succ]
          refine wpAnyH_one (i := 7) (o := { dst := none, op := Go.Op.store 4 (Go.Operand.tmp 59) (Go.Operand.tmp 57), type := 0, pos := "law.go:89", after := #[{ on := 6, ground := Go.Ground.data }, { on := 3, ground := Go.Ground.data }, { on := 5, ground := Go.Ground.chain }, { on := 0, ground := Go.Ground.phase }, { on := 1, ground := Go.Ground.phase }, { on := 2, ground := Go.Ground.phase }, { on := 3, ground := Go.Ground.phase }, { on := 4, ground := Go.Ground.phase }, { on := 5, ground := Go.Ground.phase }], guard := none }) (by kernel_rfl) rfl (by rfl) (fun K hK => ?_)
          go_simp
          refine hK.out _ _ ?_ (fun hHeld => ?_)
          · exact Fr.blk (X := fun k => k = Nc + 1) (Fr.setCell (X := fun k => k = Nc + 1) (Fr.refl _ _) ⟨Nc + 1, 1, none⟩ rfl (.bool t)) hS0 hnN
          clear hK K
          try simp only [Act.put, List.setIfInBounds_toArray, List.set_cons_zero, List.set_cons_succ]
          have hS0 := hHeld
          have hX := blk_set hX 1 (.bool t)
          have hF := Fr.setCell (X := fun k => k = Nc + 1) hF ⟨Nc + 1, 1, none⟩ rfl (.bool t)
          clear q0 q1 f0 f1
          have q0 := blk_cell hX 0; have q1 := blk_cell hX 1; have f0 := blk_free hX 0; have f1 := blk_free hX 1
          refine wpAnyH_done (by kernel_rfl) ?_ _
          clear q0 q1 f0 f1
          have hc := hF.blk H9.out.2.1 (by omega); have hb := hF.blk H9.out.2.2.1 (by have := H9.out.2.2.2.2.2.2; omega); have ha := hF.blk H9.out.2.2.2.1 (by have := H9.out.2.2.2.2.2.2; omega)
          have hB : RowKit.Below w.heap.size w _ := H9.out.1.trans (hF.below H9.out.1.size fun k hk e => by have := H9.out.2.2.2.2.2.2; omega)
          obtain ⟨s0, s1, s2, s3, s4, s5, s6⟩ := box7_blk hS0
          have d0 := blk_cell hX 0; have d1 := blk_cell hX 1; have d2 := blk_cell hX 2; have d3 := blk_cell hX 3; have d4 := blk_cell hX 4; have d5 := blk_cell hX 5; have d6 := blk_cell hX 6
          obtain ⟨a0, a1, a2, a3, a4, a5, a6⟩ := box7_blk ha
          obtain ⟨b0, b1, b2, b3, b4, b5, b6⟩ := box7_blk hb
          obtain ⟨c0, c1, c2, c3, c4, c5, c6⟩ := box7_blk hc
          have HB := Lib.hid hB
          clear hB ha hb hc hX hF hS0 hHeld H9
          go_wp2_with fail
          go_ret
          exact ⟨rfl, HB.out⟩
        | true =>
          have h77 := HQ7.out rfl
          clear HQ7 HQ3 HQ5 e3 e5 e6
          cases t7 with
          | false =>
            cases t with
            | false =>
              have la := blk_lt H7.out.2.2.1; have lb := blk_lt H7.out.2.1; have ln := blk_lt H7.out.2.2.2
              obtain ⟨s0, s1, s2, s3, s4, s5, s6⟩ := box7_blk H7.out.2.2.2
              obtain ⟨a0, a1, a2, a3, a4, a5, a6⟩ := box7_blk H7.out.2.2.1
              obtain ⟨b0, b1, b2, b3, b4, b5, b6⟩ := box7_blk H7.out.2.1
              go_wp2_with fail
              clear s0 s1 s2 s3 s4 s5 s6 a0 a1 a2 a3 a4 a5 a6 b0 b1 b2 b3 b4 b5 b6
              obtain ⟨w9, hw9⟩ : ∃ w9, (w7.alloc (.cells (sgC k7 false p n u r true) 23)).alloc (.cells (sgC k7 false p n u r true) 23) = w9 := ⟨_, rfl⟩
              obtain ⟨Nc, hNc⟩ : ∃ Nc, w7.heap.size = Nc := ⟨_, rfl⟩
              have k9 : RowKit.Below w.heap.size w w9 := by rw [← hw9]; exact (H7.out.1.alloc H7.out.1.size _).alloc (by have := H7.out.1.size; simp; omega) _
              have c9 : w9.heap[Nc]? = some (.cells (sgC k7 false p n u r true) 23 (0, 0)) := by rw [← hw9, ← hNc]; exact blk_alloc (heap_alloc_new w7 _) _
              have d9 : w9.heap[Nc + 1]? = some (.cells (sgC k7 false p n u r true) 23 (0, 0)) := by rw [← hw9, ← hNc]; exact heap_alloc2_new w7 _ _
              have b9 := blk_alloc (blk_alloc H7.out.2.1 (.cells (sgC k7 false p n u r true) 23)) (.cells (sgC k7 false p n u r true) 23)
              have a9 := blk_alloc (blk_alloc H7.out.2.2.1 (.cells (sgC k7 false p n u r true) 23)) (.cells (sgC k7 false p n u r true) 23)
              have n9 := blk_alloc (blk_alloc H7.out.2.2.2 (.cells (sgC k7 false p n u r true) 23)) (.cells (sgC k7 false p n u r true) 23)
              rw [hw9] at a9 b9 n9
              unfold sgC at hw9
              rw [hw9]
              try rw [hNc]
              have hne : Na < Nc ∧ Nb < Nc ∧ N < Nc ∧ w.heap.size ≤ Nc := ⟨by omega, by omega, by omega, by have := H7.out.1.size; omega⟩
              have H9 := Lib.hid (And.intro k9 (And.intro c9 (And.intro b9 (And.intro a9 (And.intro n9 (And.intro d9 hne))))))
              clear hw9 hNc k9 c9 b9 a9 n9 d9 hne la lb ln H7
              have hS0 : w9.drew.heap[N]? = some (.cells (sgC (IV v) false p n u r true) 23 (0, 0)) := H9.out.2.2.2.2.1
              have hX : w9.drew.heap[Nc + 1]? = some (.cells (sgC k7 false p n u r true) 23 (0, 0)) := H9.out.2.2.2.2.2.1
              have hF : Fr (fun k => k = Nc + 1) w9 w9.drew := (Fr.refl _ _).drew
              have hnN : N ≠ Nc + 1 := by have := H9.out.2.2.2.2.2.2.2.2.1; omega
              refine wp_region_held_drew (S := fun V => V.heap[N]? = some (.cells (sgC (IV v) false p n u r true) 23 (0, 0))) (by kernel_rfl) (by exact hS0) (fun hHeld => ?_)
              obtain ⟨w10, hw10⟩ : ∃ w10, w9.drew = w10 := ⟨_, rfl⟩
              rw [hw10] at hHeld hS0 hX hF ⊢
              clear hw10
              have q0 := blk_cell hX 0; have q1 := blk_cell hX 1; have f0 := blk_free hX 0; have f1 := blk_free hX 1
              refine wpAnyH_read (i := 0) (oi := { dst := some 54, op := Go.Op.fieldAddr 23 (Go.Operand.tmp 2) 0, type := 0, pos := "law.go:89", after := #[], guard := none }) ?_ rfl (by kernel_rfl) (by kernel_rfl) (by kernel_rfl) (fun _ _ _ h => h) (by rfl) (by exact hHeld) ?_ ?_
              rotate_left
              · (intro w0 hS0; have s0 := blk_cell hS0 0; have s1 := blk_cell hS0 1; go_simp <;> (try with_reducible rfl))
              try simp only [Act.put, List.setIfInBounds_toArray, List.set_cons_zero, List.set_cons_succ]
              refine wpAnyH_read (i := 2) (oi := { dst := some 56, op := Go.Op.fieldAddr 23 (Go.Operand.tmp 2) 1, type := 0, pos := "law.go:89", after := #[{ on := 5, ground := Go.Ground.gcOnly Go.Departure.lateStores }], guard := none }) ?_ rfl (by kernel_rfl) (by kernel_rfl) (by kernel_rfl) (fun _ _ _ h => h) (by rfl) (by exact hHeld) ?_ ?_
              rotate_left
              · (intro w0 hS0; have s0 := blk_cell hS0 0; have s1 := blk_cell hS0 1; go_simp <;> (try with_reducible rfl))
              try simp only [Act.put, List.setIfInBounds_toArray, List.set_cons_zero, List.set_cons_succ]
              refine wpAnyH_read (i := 1) (oi := { dst := some 55, op := Go.Op.load 3 (Go.Operand.tmp 54), type := 3, pos := "law.go:89", after := #[{ on := 0, ground := Go.Ground.data }], guard := none }) ?_ rfl (by kernel_rfl) (by kernel_rfl) (by kernel_rfl) (fun _ _ _ h => h) (by rfl) (by exact hHeld) ?_ ?_
              rotate_left
              · (intro w0 hS0; have s0 := blk_cell hS0 0; have s1 := blk_cell hS0 1; go_simp <;> (try with_reducible rfl))
              try simp only [Act.put, List.setIfInBounds_toArray, List.set_cons_zero, List.set_cons_succ]
              refine wpAnyH_read (i := 4) (oi := { dst := some 58, op := Go.Op.fieldAddr 23 (Go.Operand.tmp 11) 0, type := 0, pos := "law.go:89", after := #[{ on := 0, ground := Go.Ground.phase }, { on := 1, ground := Go.Ground.phase }, { on := 2, ground := Go.Ground.textOnly Go.Departure.lateStores }, { on := 3, ground := Go.Ground.textOnly Go.Departure.lateStores }], guard := none }) ?_ rfl (by kernel_rfl) (by kernel_rfl) (by kernel_rfl) (fun _ _ _ h => h) (by rfl) (by exact hHeld) ?_ ?_
              rotate_left
              · (intro w0 hS0; have s0 := blk_cell hS0 0; have s1 := blk_cell hS0 1; go_simp <;> (try with_reducible rfl))
              try simp only [Act.put, List.setIfInBounds_toArray, List.set_cons_zero, List.set_cons_succ]
              refine wpAnyH_read (i := 3) (oi := { dst := some 57, op := Go.Op.load 4 (Go.Operand.tmp 56), type := 4, pos := "law.go:89", after := #[{ on := 2, ground := Go.Ground.data }, { on := 5, ground := Go.Ground.gcOnly Go.Departure.lateStores }], guard := none }) ?_ rfl (by kernel_rfl) (by kernel_rfl) (by kernel_rfl) (fun _ _ _ h => h) (by rfl) (by exact hHeld) ?_ ?_
              rotate_left
              · (intro w0 hS0; have s0 := blk_cell hS0 0; have s1 := blk_cell hS0 1; go_simp <;> (try with_reducible rfl))
              try simp only [Act.put, List.setIfInBounds_toArray, List.set_cons_zero, List.set_cons_succ]
              refine wpAnyH_one (i := 5) (o := { dst := none, op := Go.Op.store 3 (Go.Operand.tmp 58) (Go.Operand.tmp 55), type := 0, pos := "law.go:89", after := #[{ on := 4, ground := Go.Ground.data }, { on := 1, ground := Go.Ground.data }, { on := 0, ground := Go.Ground.phase }, { on := 1, ground := Go.Ground.phase }, { on := 2, ground := Go.Ground.textOnly Go.Departure.lateStores }, { on := 3, ground := Go.Ground.textOnly Go.Departure.lateStores }], guard := none }) (by kernel_rfl) rfl (by rfl) (fun K hK => ?_)
              go_simp
              refine hK.out _ _ ?_ (fun hHeld => ?_)
              · exact Fr.blk (X := fun k => k = Nc + 1) (Fr.setCell (X := fun k => k = Nc + 1) (Fr.refl _ _) ⟨Nc + 1, 0, none⟩ rfl (.int .i64 (IV v))) hS0 hnN
              clear hK K
              try simp only [Act.put, List.setIfInBounds_toArray, List.set_cons_zero, List.set_cons_succ]
              have hS0 := hHeld
              have hX := blk_set hX 0 (.int .i64 (IV v))
              have hF := Fr.setCell (X := fun k => k = Nc + 1) hF ⟨Nc + 1, 0, none⟩ rfl (.int .i64 (IV v))
              clear q0 q1 f0 f1
              have q0 := blk_cell hX 0; have q1 := blk_cell hX 1; have f0 := blk_free hX 0; have f1 := blk_free hX 1
              refine wpAnyH_read (i := 6) (oi := { dst := some 59, op := Go.Op.fieldAddr 23 (Go.Operand.tmp 11) 1, type := 0, pos := "law.go:89", after := #[{ on := 0, ground := Go.Ground.phase }, { on := 1, ground := Go.Ground.phase }, { on := 2, ground := Go.Ground.phase }, { on := 3, ground := Go.Ground.phase }, { on := 4, ground := Go.Ground.phase }, { on := 5, ground := Go.Ground.phase }], guard := none }) ?_ rfl (by kernel_rfl) (by kernel_rfl) (by kernel_rfl) (fun _ _ _ h => h) (by rfl) (by exact hHeld) ?_ ?_
              rotate_left
              · (intro w0 hS0; have s0 := blk_cell hS0 0; have s1 := blk_cell hS0 1; go_simp <;> (try with_reducible rfl))
              try simp only [Act.put, List.setIfInBounds_toArray, List.set_cons_zero, List.set_cons_succ]
              refine wpAnyH_one (i := 7) (o := { dst := none, op := Go.Op.store 4 (Go.Operand.tmp 59) (Go.Operand.tmp 57), type := 0, pos := "law.go:89", after := #[{ on := 6, ground := Go.Ground.data }, { on := 3, ground := Go.Ground.data }, { on := 5, ground := Go.Ground.chain }, { on := 0, ground := Go.Ground.phase }, { on := 1, ground := Go.Ground.phase }, { on := 2, ground := Go.Ground.phase }, { on := 3, ground := Go.Ground.phase }, { on := 4, ground := Go.Ground.phase }, { on := 5, ground := Go.Ground.phase }], guard := none }) (by kernel_rfl) rfl (by rfl) (fun K hK => ?_)
              go_simp
              refine hK.out _ _ ?_ (fun hHeld => ?_)
              · exact Fr.blk (X := fun k => k = Nc + 1) (Fr.setCell (X := fun k => k = Nc + 1) (Fr.refl _ _) ⟨Nc + 1, 1, none⟩ rfl (.bool false)) hS0 hnN
              clear hK K
              try simp only [Act.put, List.setIfInBounds_toArray, List.set_cons_zero, List.set_cons_succ]
              have hS0 := hHeld
              have hX := blk_set hX 1 (.bool false)
              have hF := Fr.setCell (X := fun k => k = Nc + 1) hF ⟨Nc + 1, 1, none⟩ rfl (.bool false)
              clear q0 q1 f0 f1
              have q0 := blk_cell hX 0; have q1 := blk_cell hX 1; have f0 := blk_free hX 0; have f1 := blk_free hX 1
              refine wpAnyH_done (by kernel_rfl) ?_ _
              clear q0 q1 f0 f1
              have hc := hF.blk H9.out.2.1 (by omega); have hb := hF.blk H9.out.2.2.1 (by have := H9.out.2.2.2.2.2.2; omega); have ha := hF.blk H9.out.2.2.2.1 (by have := H9.out.2.2.2.2.2.2; omega)
              have hB : RowKit.Below w.heap.size w _ := H9.out.1.trans (hF.below H9.out.1.size fun k hk e => by have := H9.out.2.2.2.2.2.2; omega)
              obtain ⟨s0, s1, s2, s3, s4, s5, s6⟩ := box7_blk hS0
              have d0 := blk_cell hX 0; have d1 := blk_cell hX 1; have d2 := blk_cell hX 2; have d3 := blk_cell hX 3; have d4 := blk_cell hX 4; have d5 := blk_cell hX 5; have d6 := blk_cell hX 6
              obtain ⟨a0, a1, a2, a3, a4, a5, a6⟩ := box7_blk ha
              obtain ⟨b0, b1, b2, b3, b4, b5, b6⟩ := box7_blk hb
              obtain ⟨c0, c1, c2, c3, c4, c5, c6⟩ := box7_blk hc
              have HB := Lib.hid hB
              clear hB ha hb hc hX hF hS0 hHeld H9
              go_wp2_with fail
              clear s0 s1 s2 s3 s4 s5 s6 a0 a1 a2 a3 a4 a5 a6 b0 b1 b2 b3 b4 b5 b6 c0 c1 c2 c3 c4 c5 c6 d0 d1 d2 d3 d4 d5 d6
              refine (ready_any k7 false p n u r true _).mono ?_
              rintro e w12 ⟨rfl, hb12⟩
              have HB12 := Lib.hid (HB.out.trans (hb12.mono HB.out.size))
              clear hb12
              simp only [Bool.not_true, Bool.and_false]
              go_wp2_with fail
              go_ret
              exact ⟨rfl, HB12.out⟩
            | true =>
              have la := blk_lt H7.out.2.2.1; have lb := blk_lt H7.out.2.1; have ln := blk_lt H7.out.2.2.2
              obtain ⟨s0, s1, s2, s3, s4, s5, s6⟩ := box7_blk H7.out.2.2.2
              obtain ⟨a0, a1, a2, a3, a4, a5, a6⟩ := box7_blk H7.out.2.2.1
              obtain ⟨b0, b1, b2, b3, b4, b5, b6⟩ := box7_blk H7.out.2.1
              go_wp2_with fail
              clear s0 s1 s2 s3 s4 s5 s6 a0 a1 a2 a3 a4 a5 a6 b0 b1 b2 b3 b4 b5 b6
              obtain ⟨w9, hw9⟩ : ∃ w9, (w7.alloc (.cells (sgC k7 false p n u r true) 23)).alloc (.cells (sgC k7 false p n u r true) 23) = w9 := ⟨_, rfl⟩
              obtain ⟨Nc, hNc⟩ : ∃ Nc, w7.heap.size = Nc := ⟨_, rfl⟩
              have k9 : RowKit.Below w.heap.size w w9 := by rw [← hw9]; exact (H7.out.1.alloc H7.out.1.size _).alloc (by have := H7.out.1.size; simp; omega) _
              have c9 : w9.heap[Nc]? = some (.cells (sgC k7 false p n u r true) 23 (0, 0)) := by rw [← hw9, ← hNc]; exact blk_alloc (heap_alloc_new w7 _) _
              have d9 : w9.heap[Nc + 1]? = some (.cells (sgC k7 false p n u r true) 23 (0, 0)) := by rw [← hw9, ← hNc]; exact heap_alloc2_new w7 _ _
              have b9 := blk_alloc (blk_alloc H7.out.2.1 (.cells (sgC k7 false p n u r true) 23)) (.cells (sgC k7 false p n u r true) 23)
              have a9 := blk_alloc (blk_alloc H7.out.2.2.1 (.cells (sgC k7 false p n u r true) 23)) (.cells (sgC k7 false p n u r true) 23)
              have n9 := blk_alloc (blk_alloc H7.out.2.2.2 (.cells (sgC k7 false p n u r true) 23)) (.cells (sgC k7 false p n u r true) 23)
              rw [hw9] at a9 b9 n9
              unfold sgC at hw9
              rw [hw9]
              try rw [hNc]
              have hne : Na < Nc ∧ Nb < Nc ∧ N < Nc ∧ w.heap.size ≤ Nc := ⟨by omega, by omega, by omega, by have := H7.out.1.size; omega⟩
              have H9 := Lib.hid (And.intro k9 (And.intro c9 (And.intro b9 (And.intro a9 (And.intro n9 (And.intro d9 hne))))))
              clear hw9 hNc k9 c9 b9 a9 n9 d9 hne la lb ln H7
              have hS0 : w9.drew.heap[N]? = some (.cells (sgC (IV v) true p n u r true) 23 (0, 0)) := H9.out.2.2.2.2.1
              have hX : w9.drew.heap[Nc + 1]? = some (.cells (sgC k7 false p n u r true) 23 (0, 0)) := H9.out.2.2.2.2.2.1
              have hF : Fr (fun k => k = Nc + 1) w9 w9.drew := (Fr.refl _ _).drew
              have hnN : N ≠ Nc + 1 := by have := H9.out.2.2.2.2.2.2.2.2.1; omega
              refine wp_region_held_drew (S := fun V => V.heap[N]? = some (.cells (sgC (IV v) true p n u r true) 23 (0, 0))) (by kernel_rfl) (by exact hS0) (fun hHeld => ?_)
              obtain ⟨w10, hw10⟩ : ∃ w10, w9.drew = w10 := ⟨_, rfl⟩
              rw [hw10] at hHeld hS0 hX hF ⊢
              clear hw10
              have q0 := blk_cell hX 0; have q1 := blk_cell hX 1; have f0 := blk_free hX 0; have f1 := blk_free hX 1
              refine wpAnyH_read (i := 0) (oi := { dst := some 54, op := Go.Op.fieldAddr 23 (Go.Operand.tmp 2) 0, type := 0, pos := "law.go:89", after := #[], guard := none }) ?_ rfl (by kernel_rfl) (by kernel_rfl) (by kernel_rfl) (fun _ _ _ h => h) (by rfl) (by exact hHeld) ?_ ?_
              rotate_left
              · (intro w0 hS0; have s0 := blk_cell hS0 0; have s1 := blk_cell hS0 1; go_simp <;> (try with_reducible rfl))
              try simp only [Act.put, List.setIfInBounds_toArray, List.set_cons_zero, List.set_cons_succ]
              refine wpAnyH_read (i := 2) (oi := { dst := some 56, op := Go.Op.fieldAddr 23 (Go.Operand.tmp 2) 1, type := 0, pos := "law.go:89", after := #[{ on := 5, ground := Go.Ground.gcOnly Go.Departure.lateStores }], guard := none }) ?_ rfl (by kernel_rfl) (by kernel_rfl) (by kernel_rfl) (fun _ _ _ h => h) (by rfl) (by exact hHeld) ?_ ?_
              rotate_left
              · (intro w0 hS0; have s0 := blk_cell hS0 0; have s1 := blk_cell hS0 1; go_simp <;> (try with_reducible rfl))
              try simp only [Act.put, List.setIfInBounds_toArray, List.set_cons_zero, List.set_cons_succ]
              refine wpAnyH_read (i := 1) (oi := { dst := some 55, op := Go.Op.load 3 (Go.Operand.tmp 54), type := 3, pos := "law.go:89", after := #[{ on := 0, ground := Go.Ground.data }], guard := none }) ?_ rfl (by kernel_rfl) (by kernel_rfl) (by kernel_rfl) (fun _ _ _ h => h) (by rfl) (by exact hHeld) ?_ ?_
              rotate_left
              · (intro w0 hS0; have s0 := blk_cell hS0 0; have s1 := blk_cell hS0 1; go_simp <;> (try with_reducible rfl))
              try simp only [Act.put, List.setIfInBounds_toArray, List.set_cons_zero, List.set_cons_succ]
              refine wpAnyH_read (i := 4) (oi := { dst := some 58, op := Go.Op.fieldAddr 23 (Go.Operand.tmp 11) 0, type := 0, pos := "law.go:89", after := #[{ on := 0, ground := Go.Ground.phase }, { on := 1, ground := Go.Ground.phase }, { on := 2, ground := Go.Ground.textOnly Go.Departure.lateStores }, { on := 3, ground := Go.Ground.textOnly Go.Departure.lateStores }], guard := none }) ?_ rfl (by kernel_rfl) (by kernel_rfl) (by kernel_rfl) (fun _ _ _ h => h) (by rfl) (by exact hHeld) ?_ ?_
              rotate_left
              · (intro w0 hS0; have s0 := blk_cell hS0 0; have s1 := blk_cell hS0 1; go_simp <;> (try with_reducible rfl))
              try simp only [Act.put, List.setIfInBounds_toArray, List.set_cons_zero, List.set_cons_succ]
              refine wpAnyH_read (i := 3) (oi := { dst := some 57, op := Go.Op.load 4 (Go.Operand.tmp 56), type := 4, pos := "law.go:89", after := #[{ on := 2, ground := Go.Ground.data }, { on := 5, ground := Go.Ground.gcOnly Go.Departure.lateStores }], guard := none }) ?_ rfl (by kernel_rfl) (by kernel_rfl) (by kernel_rfl) (fun _ _ _ h => h) (by rfl) (by exact hHeld) ?_ ?_
              rotate_left
              · (intro w0 hS0; have s0 := blk_cell hS0 0; have s1 := blk_cell hS0 1; go_simp <;> (try with_reducible rfl))
              try simp only [Act.put, List.setIfInBounds_toArray, List.set_cons_zero, List.set_cons_succ]
              refine wpAnyH_one (i := 5) (o := { dst := none, op := Go.Op.store 3 (Go.Operand.tmp 58) (Go.Operand.tmp 55), type := 0, pos := "law.go:89", after := #[{ on := 4, ground := Go.Ground.data }, { on := 1, ground := Go.Ground.data }, { on := 0, ground := Go.Ground.phase }, { on := 1, ground := Go.Ground.phase }, { on := 2, ground := Go.Ground.textOnly Go.Departure.lateStores }, { on := 3, ground := Go.Ground.textOnly Go.Departure.lateStores }], guard := none }) (by kernel_rfl) rfl (by rfl) (fun K hK => ?_)
              go_simp
              refine hK.out _ _ ?_ (fun hHeld => ?_)
              · exact Fr.blk (X := fun k => k = Nc + 1) (Fr.setCell (X := fun k => k = Nc + 1) (Fr.refl _ _) ⟨Nc + 1, 0, none⟩ rfl (.int .i64 (IV v))) hS0 hnN
              clear hK K
              try simp only [Act.put, List.setIfInBounds_toArray, List.set_cons_zero, List.set_cons_succ]
              have hS0 := hHeld
              have hX := blk_set hX 0 (.int .i64 (IV v))
              have hF := Fr.setCell (X := fun k => k = Nc + 1) hF ⟨Nc + 1, 0, none⟩ rfl (.int .i64 (IV v))
              clear q0 q1 f0 f1
              have q0 := blk_cell hX 0; have q1 := blk_cell hX 1; have f0 := blk_free hX 0; have f1 := blk_free hX 1
              refine wpAnyH_read (i := 6) (oi := { dst := some 59, op := Go.Op.fieldAddr 23 (Go.Operand.tmp 11) 1, type := 0, pos := "law.go:89", after := #[{ on := 0, ground := Go.Ground.phase }, { on := 1, ground := Go.Ground.phase }, { on := 2, ground := Go.Ground.phase }, { on := 3, ground := Go.Ground.phase }, { on := 4, ground := Go.Ground.phase }, { on := 5, ground := Go.Ground.phase }], guard := none }) ?_ rfl (by kernel_rfl) (by kernel_rfl) (by kernel_rfl) (fun _ _ _ h => h) (by rfl) (by exact hHeld) ?_ ?_
              rotate_left
              · (intro w0 hS0; have s0 := blk_cell hS0 0; have s1 := blk_cell hS0 1; go_simp <;> (try with_reducible rfl))
              try simp only [Act.put, List.setIfInBounds_toArray, List.set_cons_zero, List.set_cons_succ]
              refine wpAnyH_one (i := 7) (o := { dst := none, op := Go.Op.store 4 (Go.Operand.tmp 59) (Go.Operand.tmp 57), type := 0, pos := "law.go:89", after := #[{ on := 6, ground := Go.Ground.data }, { on := 3, ground := Go.Ground.data }, { on := 5, ground := Go.Ground.chain }, { on := 0, ground := Go.Ground.phase }, { on := 1, ground := Go.Ground.phase }, { on := 2, ground := Go.Ground.phase }, { on := 3, ground := Go.Ground.phase }, { on := 4, ground := Go.Ground.phase }, { on := 5, ground := Go.Ground.phase }], guard := none }) (by kernel_rfl) rfl (by rfl) (fun K hK => ?_)
              go_simp
              refine hK.out _ _ ?_ (fun hHeld => ?_)
              · exact Fr.blk (X := fun k => k = Nc + 1) (Fr.setCell (X := fun k => k = Nc + 1) (Fr.refl _ _) ⟨Nc + 1, 1, none⟩ rfl (.bool true)) hS0 hnN
              clear hK K
              try simp only [Act.put, List.setIfInBounds_toArray, List.set_cons_zero, List.set_cons_succ]
              have hS0 := hHeld
              have hX := blk_set hX 1 (.bool true)
              have hF := Fr.setCell (X := fun k => k = Nc + 1) hF ⟨Nc + 1, 1, none⟩ rfl (.bool true)
              clear q0 q1 f0 f1
              have q0 := blk_cell hX 0; have q1 := blk_cell hX 1; have f0 := blk_free hX 0; have f1 := blk_free hX 1
              refine wpAnyH_done (by kernel_rfl) ?_ _
              clear q0 q1 f0 f1
              have hc := hF.blk H9.out.2.1 (by omega); have hb := hF.blk H9.out.2.2.1 (by have := H9.out.2.2.2.2.2.2; omega); have ha := hF.blk H9.out.2.2.2.1 (by have := H9.out.2.2.2.2.2.2; omega)
              have hB : RowKit.Below w.heap.size w _ := H9.out.1.trans (hF.below H9.out.1.size fun k hk e => by have := H9.out.2.2.2.2.2.2; omega)
              obtain ⟨s0, s1, s2, s3, s4, s5, s6⟩ := box7_blk hS0
              have d0 := blk_cell hX 0; have d1 := blk_cell hX 1; have d2 := blk_cell hX 2; have d3 := blk_cell hX 3; have d4 := blk_cell hX 4; have d5 := blk_cell hX 5; have d6 := blk_cell hX 6
              obtain ⟨a0, a1, a2, a3, a4, a5, a6⟩ := box7_blk ha
              obtain ⟨b0, b1, b2, b3, b4, b5, b6⟩ := box7_blk hb
              obtain ⟨c0, c1, c2, c3, c4, c5, c6⟩ := box7_blk hc
              have HB := Lib.hid hB
              clear hB ha hb hc hX hF hS0 hHeld H9
              go_wp2_with fail
              clear s0 s1 s2 s3 s4 s5 s6 a0 a1 a2 a3 a4 a5 a6 b0 b1 b2 b3 b4 b5 b6 c0 c1 c2 c3 c4 c5 c6 d0 d1 d2 d3 d4 d5 d6
              refine (ready_any k7 false p n u r true _).mono ?_
              rintro e w12 ⟨rfl, hb12⟩
              have HB12 := Lib.hid (HB.out.trans (hb12.mono HB.out.size))
              clear hb12
              simp only [Bool.not_true, Bool.and_false]
              go_wp2_with fail
              go_ret
              exact ⟨rfl, HB12.out⟩
          | true =>
            obtain rfl : t = true := h77 rfl
            have la := blk_lt H7.out.2.2.1; have lb := blk_lt H7.out.2.1; have ln := blk_lt H7.out.2.2.2
            obtain ⟨s0, s1, s2, s3, s4, s5, s6⟩ := box7_blk H7.out.2.2.2
            obtain ⟨a0, a1, a2, a3, a4, a5, a6⟩ := box7_blk H7.out.2.2.1
            obtain ⟨b0, b1, b2, b3, b4, b5, b6⟩ := box7_blk H7.out.2.1
            go_wp2_with fail
            clear s0 s1 s2 s3 s4 s5 s6 a0 a1 a2 a3 a4 a5 a6 b0 b1 b2 b3 b4 b5 b6
            obtain ⟨w9, hw9⟩ : ∃ w9, (w7.alloc (.cells (sgC k7 true p n u r true) 23)).alloc (.cells (sgC k7 true p n u r true) 23) = w9 := ⟨_, rfl⟩
            obtain ⟨Nc, hNc⟩ : ∃ Nc, w7.heap.size = Nc := ⟨_, rfl⟩
            have k9 : RowKit.Below w.heap.size w w9 := by rw [← hw9]; exact (H7.out.1.alloc H7.out.1.size _).alloc (by have := H7.out.1.size; simp; omega) _
            have c9 : w9.heap[Nc]? = some (.cells (sgC k7 true p n u r true) 23 (0, 0)) := by rw [← hw9, ← hNc]; exact blk_alloc (heap_alloc_new w7 _) _
            have d9 : w9.heap[Nc + 1]? = some (.cells (sgC k7 true p n u r true) 23 (0, 0)) := by rw [← hw9, ← hNc]; exact heap_alloc2_new w7 _ _
            have b9 := blk_alloc (blk_alloc H7.out.2.1 (.cells (sgC k7 true p n u r true) 23)) (.cells (sgC k7 true p n u r true) 23)
            have a9 := blk_alloc (blk_alloc H7.out.2.2.1 (.cells (sgC k7 true p n u r true) 23)) (.cells (sgC k7 true p n u r true) 23)
            have n9 := blk_alloc (blk_alloc H7.out.2.2.2 (.cells (sgC k7 true p n u r true) 23)) (.cells (sgC k7 true p n u r true) 23)
            rw [hw9] at a9 b9 n9
            unfold sgC at hw9
            rw [hw9]
            try rw [hNc]
            have hne : Na < Nc ∧ Nb < Nc ∧ N < Nc ∧ w.heap.size ≤ Nc := ⟨by omega, by omega, by omega, by have := H7.out.1.size; omega⟩
            have H9 := Lib.hid (And.intro k9 (And.intro c9 (And.intro b9 (And.intro a9 (And.intro n9 (And.intro d9 hne))))))
            clear hw9 hNc k9 c9 b9 a9 n9 d9 hne la lb ln H7
            have hS0 : w9.drew.heap[N]? = some (.cells (sgC (IV v) true p n u r true) 23 (0, 0)) := H9.out.2.2.2.2.1
            have hX : w9.drew.heap[Nc + 1]? = some (.cells (sgC k7 true p n u r true) 23 (0, 0)) := H9.out.2.2.2.2.2.1
            have hF : Fr (fun k => k = Nc + 1) w9 w9.drew := (Fr.refl _ _).drew
            have hnN : N ≠ Nc + 1 := by have := H9.out.2.2.2.2.2.2.2.2.1; omega
            refine wp_region_held_drew (S := fun V => V.heap[N]? = some (.cells (sgC (IV v) true p n u r true) 23 (0, 0))) (by kernel_rfl) (by exact hS0) (fun hHeld => ?_)
            obtain ⟨w10, hw10⟩ : ∃ w10, w9.drew = w10 := ⟨_, rfl⟩
            rw [hw10] at hHeld hS0 hX hF ⊢
            clear hw10
            have q0 := blk_cell hX 0; have q1 := blk_cell hX 1; have f0 := blk_free hX 0; have f1 := blk_free hX 1
            refine wpAnyH_read (i := 0) (oi := { dst := some 54, op := Go.Op.fieldAddr 23 (Go.Operand.tmp 2) 0, type := 0, pos := "law.go:89", after := #[], guard := none }) ?_ rfl (by kernel_rfl) (by kernel_rfl) (by kernel_rfl) (fun _ _ _ h => h) (by rfl) (by exact hHeld) ?_ ?_
            rotate_left
            · (intro w0 hS0; have s0 := blk_cell hS0 0; have s1 := blk_cell hS0 1; go_simp <;> (try with_reducible rfl))
            try simp only [Act.put, List.setIfInBounds_toArray, List.set_cons_zero, List.set_cons_succ]
            refine wpAnyH_read (i := 2) (oi := { dst := some 56, op := Go.Op.fieldAddr 23 (Go.Operand.tmp 2) 1, type := 0, pos := "law.go:89", after := #[{ on := 5, ground := Go.Ground.gcOnly Go.Departure.lateStores }], guard := none }) ?_ rfl (by kernel_rfl) (by kernel_rfl) (by kernel_rfl) (fun _ _ _ h => h) (by rfl) (by exact hHeld) ?_ ?_
            rotate_left
            · (intro w0 hS0; have s0 := blk_cell hS0 0; have s1 := blk_cell hS0 1; go_simp <;> (try with_reducible rfl))
            try simp only [Act.put, List.setIfInBounds_toArray, List.set_cons_zero, List.set_cons_succ]
            refine wpAnyH_read (i := 1) (oi := { dst := some 55, op := Go.Op.load 3 (Go.Operand.tmp 54), type := 3, pos := "law.go:89", after := #[{ on := 0, ground := Go.Ground.data }], guard := none }) ?_ rfl (by kernel_rfl) (by kernel_rfl) (by kernel_rfl) (fun _ _ _ h => h) (by rfl) (by exact hHeld) ?_ ?_
            rotate_left
            · (intro w0 hS0; have s0 := blk_cell hS0 0; have s1 := blk_cell hS0 1; go_simp <;> (try with_reducible rfl))
            try simp only [Act.put, List.setIfInBounds_toArray, List.set_cons_zero, List.set_cons_succ]
            refine wpAnyH_read (i := 4) (oi := { dst := some 58, op := Go.Op.fieldAddr 23 (Go.Operand.tmp 11) 0, type := 0, pos := "law.go:89", after := #[{ on := 0, ground := Go.Ground.phase }, { on := 1, ground := Go.Ground.phase }, { on := 2, ground := Go.Ground.textOnly Go.Departure.lateStores }, { on := 3, ground := Go.Ground.textOnly Go.Departure.lateStores }], guard := none }) ?_ rfl (by kernel_rfl) (by kernel_rfl) (by kernel_rfl) (fun _ _ _ h => h) (by rfl) (by exact hHeld) ?_ ?_
            rotate_left
            · (intro w0 hS0; have s0 := blk_cell hS0 0; have s1 := blk_cell hS0 1; go_simp <;> (try with_reducible rfl))
            try simp only [Act.put, List.setIfInBounds_toArray, List.set_cons_zero, List.set_cons_succ]
            refine wpAnyH_read (i := 3) (oi := { dst := some 57, op := Go.Op.load 4 (Go.Operand.tmp 56), type := 4, pos := "law.go:89", after := #[{ on := 2, ground := Go.Ground.data }, { on := 5, ground := Go.Ground.gcOnly Go.Departure.lateStores }], guard := none }) ?_ rfl (by kernel_rfl) (by kernel_rfl) (by kernel_rfl) (fun _ _ _ h => h) (by rfl) (by exact hHeld) ?_ ?_
            rotate_left
            · (intro w0 hS0; have s0 := blk_cell hS0 0; have s1 := blk_cell hS0 1; go_simp <;> (try with_reducible rfl))
            try simp only [Act.put, List.setIfInBounds_toArray, List.set_cons_zero, List.set_cons_succ]
            refine wpAnyH_one (i := 5) (o := { dst := none, op := Go.Op.store 3 (Go.Operand.tmp 58) (Go.Operand.tmp 55), type := 0, pos := "law.go:89", after := #[{ on := 4, ground := Go.Ground.data }, { on := 1, ground := Go.Ground.data }, { on := 0, ground := Go.Ground.phase }, { on := 1, ground := Go.Ground.phase }, { on := 2, ground := Go.Ground.textOnly Go.Departure.lateStores }, { on := 3, ground := Go.Ground.textOnly Go.Departure.lateStores }], guard := none }) (by kernel_rfl) rfl (by rfl) (fun K hK => ?_)
            go_simp
            refine hK.out _ _ ?_ (fun hHeld => ?_)
            · exact Fr.blk (X := fun k => k = Nc + 1) (Fr.setCell (X := fun k => k = Nc + 1) (Fr.refl _ _) ⟨Nc + 1, 0, none⟩ rfl (.int .i64 (IV v))) hS0 hnN
            clear hK K
            try simp only [Act.put, List.setIfInBounds_toArray, List.set_cons_zero, List.set_cons_succ]
            have hS0 := hHeld
            have hX := blk_set hX 0 (.int .i64 (IV v))
            have hF := Fr.setCell (X := fun k => k = Nc + 1) hF ⟨Nc + 1, 0, none⟩ rfl (.int .i64 (IV v))
            clear q0 q1 f0 f1
            have q0 := blk_cell hX 0; have q1 := blk_cell hX 1; have f0 := blk_free hX 0; have f1 := blk_free hX 1
            refine wpAnyH_read (i := 6) (oi := { dst := some 59, op := Go.Op.fieldAddr 23 (Go.Operand.tmp 11) 1, type := 0, pos := "law.go:89", after := #[{ on := 0, ground := Go.Ground.phase }, { on := 1, ground := Go.Ground.phase }, { on := 2, ground := Go.Ground.phase }, { on := 3, ground := Go.Ground.phase }, { on := 4, ground := Go.Ground.phase }, { on := 5, ground := Go.Ground.phase }], guard := none }) ?_ rfl (by kernel_rfl) (by kernel_rfl) (by kernel_rfl) (fun _ _ _ h => h) (by rfl) (by exact hHeld) ?_ ?_
            rotate_left
            · (intro w0 hS0; have s0 := blk_cell hS0 0; have s1 := blk_cell hS0 1; go_simp <;> (try with_reducible rfl))
            try simp only [Act.put, List.setIfInBounds_toArray, List.set_cons_zero, List.set_cons_succ]
            refine wpAnyH_one (i := 7) (o := { dst := none, op := Go.Op.store 4 (Go.Operand.tmp 59) (Go.Operand.tmp 57), type := 0, pos := "law.go:89", after := #[{ on := 6, ground := Go.Ground.data }, { on := 3, ground := Go.Ground.data }, { on := 5, ground := Go.Ground.chain }, { on := 0, ground := Go.Ground.phase }, { on := 1, ground := Go.Ground.phase }, { on := 2, ground := Go.Ground.phase }, { on := 3, ground := Go.Ground.phase }, { on := 4, ground := Go.Ground.phase }, { on := 5, ground := Go.Ground.phase }], guard := none }) (by kernel_rfl) rfl (by rfl) (fun K hK => ?_)
            go_simp
            refine hK.out _ _ ?_ (fun hHeld => ?_)
            · exact Fr.blk (X := fun k => k = Nc + 1) (Fr.setCell (X := fun k => k = Nc + 1) (Fr.refl _ _) ⟨Nc + 1, 1, none⟩ rfl (.bool true)) hS0 hnN
            clear hK K
            try simp only [Act.put, List.setIfInBounds_toArray, List.set_cons_zero, List.set_cons_succ]
            have hS0 := hHeld
            have hX := blk_set hX 1 (.bool true)
            have hF := Fr.setCell (X := fun k => k = Nc + 1) hF ⟨Nc + 1, 1, none⟩ rfl (.bool true)
            clear q0 q1 f0 f1
            have q0 := blk_cell hX 0; have q1 := blk_cell hX 1; have f0 := blk_free hX 0; have f1 := blk_free hX 1
            refine wpAnyH_done (by kernel_rfl) ?_ _
            clear q0 q1 f0 f1
            have hc := hF.blk H9.out.2.1 (by omega); have hb := hF.blk H9.out.2.2.1 (by have := H9.out.2.2.2.2.2.2; omega); have ha := hF.blk H9.out.2.2.2.1 (by have := H9.out.2.2.2.2.2.2; omega)
            have hB : RowKit.Below w.heap.size w _ := H9.out.1.trans (hF.below H9.out.1.size fun k hk e => by have := H9.out.2.2.2.2.2.2; omega)
            obtain ⟨s0, s1, s2, s3, s4, s5, s6⟩ := box7_blk hS0
            have d0 := blk_cell hX 0; have d1 := blk_cell hX 1; have d2 := blk_cell hX 2; have d3 := blk_cell hX 3; have d4 := blk_cell hX 4; have d5 := blk_cell hX 5; have d6 := blk_cell hX 6
            obtain ⟨a0, a1, a2, a3, a4, a5, a6⟩ := box7_blk ha
            obtain ⟨b0, b1, b2, b3, b4, b5, b6⟩ := box7_blk hb
            obtain ⟨c0, c1, c2, c3, c4, c5, c6⟩ := box7_blk hc
            have HB := Lib.hid hB
            clear hB ha hb hc hX hF hS0 hHeld H9
            go_wp2_with fail
            clear s0 s1 s2 s3 s4 s5 s6 a0 a1 a2 a3 a4 a5 a6 b0 b1 b2 b3 b4 b5 b6 c0 c1 c2 c3 c4 c5 c6 d0 d1 d2 d3 d4 d5 d6
            refine (ready_any k7 true p n u r true _).mono ?_
            rintro e w12 ⟨rfl, hb12⟩
            have HB12 := Lib.hid (HB.out.trans (hb12.mono HB.out.size))
            clear hb12
            simp only [Bool.not_true, Bool.and_false]
            go_wp2_with fail
            go_ret
            exact ⟨rfl, HB12.out⟩
      · subst ed
        have la := blk_lt H7.out.2.2.1; have lb := blk_lt H7.out.2.1; have ln := blk_lt H7.out.2.2.2
        obtain ⟨s0, s1, s2, s3, s4, s5, s6⟩ := box7_blk H7.out.2.2.2
        obtain ⟨a0, a1, a2, a3, a4, a5, a6⟩ := box7_blk H7.out.2.2.1
        obtain ⟨b0, b1, b2, b3, b4, b5, b6⟩ := box7_blk H7.out.2.1
        go_wp2_with fail
        clear s0 s1 s2 s3 s4 s5 s6 a0 a1 a2 a3 a4 a5 a6 b0 b1 b2 b3 b4 b5 b6
        obtain ⟨w9, hw9⟩ : ∃ w9, (w7.alloc (.cells (sgC k7 t7 p n u r false) 23)).alloc (.cells (sgC k7 t7 p n u r false) 23) = w9 := ⟨_, rfl⟩
        obtain ⟨Nc, hNc⟩ : ∃ Nc, w7.heap.size = Nc := ⟨_, rfl⟩
        have k9 : RowKit.Below w.heap.size w w9 := by rw [← hw9]; exact (H7.out.1.alloc H7.out.1.size _).alloc (by have := H7.out.1.size; simp; omega) _
        have c9 : w9.heap[Nc]? = some (.cells (sgC k7 t7 p n u r false) 23 (0, 0)) := by rw [← hw9, ← hNc]; exact blk_alloc (heap_alloc_new w7 _) _
        have d9 : w9.heap[Nc + 1]? = some (.cells (sgC k7 t7 p n u r false) 23 (0, 0)) := by rw [← hw9, ← hNc]; exact heap_alloc2_new w7 _ _
        have b9 := blk_alloc (blk_alloc H7.out.2.1 (.cells (sgC k7 t7 p n u r false) 23)) (.cells (sgC k7 t7 p n u r false) 23)
        have a9 := blk_alloc (blk_alloc H7.out.2.2.1 (.cells (sgC k7 t7 p n u r false) 23)) (.cells (sgC k7 t7 p n u r false) 23)
        have n9 := blk_alloc (blk_alloc H7.out.2.2.2 (.cells (sgC k7 t7 p n u r false) 23)) (.cells (sgC k7 t7 p n u r false) 23)
        rw [hw9] at a9 b9 n9
        unfold sgC at hw9
        rw [hw9]
        try rw [hNc]
        have hne : Na < Nc ∧ Nb < Nc ∧ N < Nc ∧ w.heap.size ≤ Nc := ⟨by omega, by omega, by omega, by have := H7.out.1.size; omega⟩
        have H9 := Lib.hid (And.intro k9 (And.intro c9 (And.intro b9 (And.intro a9 (And.intro n9 (And.intro d9 hne))))))
        clear hw9 hNc k9 c9 b9 a9 n9 d9 hne la lb ln H7
        have hS0 : w9.drew.heap[N]? = some (.cells (sgC (IV v) t p n u r false) 23 (0, 0)) := H9.out.2.2.2.2.1
        have hX : w9.drew.heap[Nc + 1]? = some (.cells (sgC k7 t7 p n u r false) 23 (0, 0)) := H9.out.2.2.2.2.2.1
        have hF : Fr (fun k => k = Nc + 1) w9 w9.drew := (Fr.refl _ _).drew
        have hnN : N ≠ Nc + 1 := by have := H9.out.2.2.2.2.2.2.2.2.1; omega
        refine wp_region_held_drew (S := fun V => V.heap[N]? = some (.cells (sgC (IV v) t p n u r false) 23 (0, 0))) (by kernel_rfl) (by exact hS0) (fun hHeld => ?_)
        obtain ⟨w10, hw10⟩ : ∃ w10, w9.drew = w10 := ⟨_, rfl⟩
        rw [hw10] at hHeld hS0 hX hF ⊢
        clear hw10
        have q0 := blk_cell hX 0; have q1 := blk_cell hX 1; have f0 := blk_free hX 0; have f1 := blk_free hX 1
        refine wpAnyH_read (i := 0) (oi := { dst := some 54, op := Go.Op.fieldAddr 23 (Go.Operand.tmp 2) 0, type := 0, pos := "law.go:89", after := #[], guard := none }) ?_ rfl (by kernel_rfl) (by kernel_rfl) (by kernel_rfl) (fun _ _ _ h => h) (by rfl) (by exact hHeld) ?_ ?_
        rotate_left
        · (intro w0 hS0; have s0 := blk_cell hS0 0; have s1 := blk_cell hS0 1; go_simp <;> (try with_reducible rfl))
        try simp only [Act.put, List.setIfInBounds_toArray, List.set_cons_zero, List.set_cons_succ]
        refine wpAnyH_read (i := 2) (oi := { dst := some 56, op := Go.Op.fieldAddr 23 (Go.Operand.tmp 2) 1, type := 0, pos := "law.go:89", after := #[{ on := 5, ground := Go.Ground.gcOnly Go.Departure.lateStores }], guard := none }) ?_ rfl (by kernel_rfl) (by kernel_rfl) (by kernel_rfl) (fun _ _ _ h => h) (by rfl) (by exact hHeld) ?_ ?_
        rotate_left
        · (intro w0 hS0; have s0 := blk_cell hS0 0; have s1 := blk_cell hS0 1; go_simp <;> (try with_reducible rfl))
        try simp only [Act.put, List.setIfInBounds_toArray, List.set_cons_zero, List.set_cons_succ]
        refine wpAnyH_read (i := 1) (oi := { dst := some 55, op := Go.Op.load 3 (Go.Operand.tmp 54), type := 3, pos := "law.go:89", after := #[{ on := 0, ground := Go.Ground.data }], guard := none }) ?_ rfl (by kernel_rfl) (by kernel_rfl) (by kernel_rfl) (fun _ _ _ h => h) (by rfl) (by exact hHeld) ?_ ?_
        rotate_left
        · (intro w0 hS0; have s0 := blk_cell hS0 0; have s1 := blk_cell hS0 1; go_simp <;> (try with_reducible rfl))
        try simp only [Act.put, List.setIfInBounds_toArray, List.set_cons_zero, List.set_cons_succ]
        refine wpAnyH_read (i := 4) (oi := { dst := some 58, op := Go.Op.fieldAddr 23 (Go.Operand.tmp 11) 0, type := 0, pos := "law.go:89", after := #[{ on := 0, ground := Go.Ground.phase }, { on := 1, ground := Go.Ground.phase }, { on := 2, ground := Go.Ground.textOnly Go.Departure.lateStores }, { on := 3, ground := Go.Ground.textOnly Go.Departure.lateStores }], guard := none }) ?_ rfl (by kernel_rfl) (by kernel_rfl) (by kernel_rfl) (fun _ _ _ h => h) (by rfl) (by exact hHeld) ?_ ?_
        rotate_left
        · (intro w0 hS0; have s0 := blk_cell hS0 0; have s1 := blk_cell hS0 1; go_simp <;> (try with_reducible rfl))
        try simp only [Act.put, List.setIfInBounds_toArray, List.set_cons_zero, List.set_cons_succ]
        refine wpAnyH_read (i := 3) (oi := { dst := some 57, op := Go.Op.load 4 (Go.Operand.tmp 56), type := 4, pos := "law.go:89", after := #[{ on := 2, ground := Go.Ground.data }, { on := 5, ground := Go.Ground.gcOnly Go.Departure.lateStores }], guard := none }) ?_ rfl (by kernel_rfl) (by kernel_rfl) (by kernel_rfl) (fun _ _ _ h => h) (by rfl) (by exact hHeld) ?_ ?_
        rotate_left
        · (intro w0 hS0; have s0 := blk_cell hS0 0; have s1 := blk_cell hS0 1; go_simp <;> (try with_reducible rfl))
        try simp only [Act.put, List.setIfInBounds_toArray, List.set_cons_zero, List.set_cons_succ]
        refine wpAnyH_one (i := 5) (o := { dst := none, op := Go.Op.store 3 (Go.Operand.tmp 58) (Go.Operand.tmp 55), type := 0, pos := "law.go:89", after := #[{ on := 4, ground := Go.Ground.data }, { on := 1, ground := Go.Ground.data }, { on := 0, ground := Go.Ground.phase }, { on := 1, ground := Go.Ground.phase }, { on := 2, ground := Go.Ground.textOnly Go.Departure.lateStores }, { on := 3, ground := Go.Ground.textOnly Go.Departure.lateStores }], guard := none }) (by kernel_rfl) rfl (by rfl) (fun K hK => ?_)
        go_simp
        refine hK.out _ _ ?_ (fun hHeld => ?_)
        · exact Fr.blk (X := fun k => k = Nc + 1) (Fr.setCell (X := fun k => k = Nc + 1) (Fr.refl _ _) ⟨Nc + 1, 0, none⟩ rfl (.int .i64 (IV v))) hS0 hnN
        clear hK K
        try simp only [Act.put, List.setIfInBounds_toArray, List.set_cons_zero, List.set_cons_succ]
        have hS0 := hHeld
        have hX := blk_set hX 0 (.int .i64 (IV v))
        have hF := Fr.setCell (X := fun k => k = Nc + 1) hF ⟨Nc + 1, 0, none⟩ rfl (.int .i64 (IV v))
        clear q0 q1 f0 f1
        have q0 := blk_cell hX 0; have q1 := blk_cell hX 1; have f0 := blk_free hX 0; have f1 := blk_free hX 1
        refine wpAnyH_read (i := 6) (oi := { dst := some 59, op := Go.Op.fieldAddr 23 (Go.Operand.tmp 11) 1, type := 0, pos := "law.go:89", after := #[{ on := 0, ground := Go.Ground.phase }, { on := 1, ground := Go.Ground.phase }, { on := 2, ground := Go.Ground.phase }, { on := 3, ground := Go.Ground.phase }, { on := 4, ground := Go.Ground.phase }, { on := 5, ground := Go.Ground.phase }], guard := none }) ?_ rfl (by kernel_rfl) (by kernel_rfl) (by kernel_rfl) (fun _ _ _ h => h) (by rfl) (by exact hHeld) ?_ ?_
        rotate_left
        · (intro w0 hS0; have s0 := blk_cell hS0 0; have s1 := blk_cell hS0 1; go_simp <;> (try with_reducible rfl))
        try simp only [Act.put, List.setIfInBounds_toArray, List.set_cons_zero, List.set_cons_succ]
        refine wpAnyH_one (i := 7) (o := { dst := none, op := Go.Op.store 4 (Go.Operand.tmp 59) (Go.Operand.tmp 57), type := 0, pos := "law.go:89", after := #[{ on := 6, ground := Go.Ground.data }, { on := 3, ground := Go.Ground.data }, { on := 5, ground := Go.Ground.chain }, { on := 0, ground := Go.Ground.phase }, { on := 1, ground := Go.Ground.phase }, { on := 2, ground := Go.Ground.phase }, { on := 3, ground := Go.Ground.phase }, { on := 4, ground := Go.Ground.phase }, { on := 5, ground := Go.Ground.phase }], guard := none }) (by kernel_rfl) rfl (by rfl) (fun K hK => ?_)
        go_simp
        refine hK.out _ _ ?_ (fun hHeld => ?_)
        · exact Fr.blk (X := fun k => k = Nc + 1) (Fr.setCell (X := fun k => k = Nc + 1) (Fr.refl _ _) ⟨Nc + 1, 1, none⟩ rfl (.bool t)) hS0 hnN
        clear hK K
        try simp only [Act.put, List.setIfInBounds_toArray, List.set_cons_zero, List.set_cons_succ]
        have hS0 := hHeld
        have hX := blk_set hX 1 (.bool t)
        have hF := Fr.setCell (X := fun k => k = Nc + 1) hF ⟨Nc + 1, 1, none⟩ rfl (.bool t)
        clear q0 q1 f0 f1
        have q0 := blk_cell hX 0; have q1 := blk_cell hX 1; have f0 := blk_free hX 0; have f1 := blk_free hX 1
        refine wpAnyH_done (by kernel_rfl) ?_ _
        clear q0 q1 f0 f1
        have hc := hF.blk H9.out.2.1 (by omega); have hb := hF.blk H9.out.2.2.1 (by have := H9.out.2.2.2.2.2.2; omega); have ha := hF.blk H9.out.2.2.2.1 (by have := H9.out.2.2.2.2.2.2; omega)
        have hB : RowKit.Below w.heap.size w _ := H9.out.1.trans (hF.below H9.out.1.size fun k hk e => by have := H9.out.2.2.2.2.2.2; omega)
        obtain ⟨s0, s1, s2, s3, s4, s5, s6⟩ := box7_blk hS0
        have d0 := blk_cell hX 0; have d1 := blk_cell hX 1; have d2 := blk_cell hX 2; have d3 := blk_cell hX 3; have d4 := blk_cell hX 4; have d5 := blk_cell hX 5; have d6 := blk_cell hX 6
        obtain ⟨a0, a1, a2, a3, a4, a5, a6⟩ := box7_blk ha
        obtain ⟨b0, b1, b2, b3, b4, b5, b6⟩ := box7_blk hb
        obtain ⟨c0, c1, c2, c3, c4, c5, c6⟩ := box7_blk hc
        have HB := Lib.hid hB
        clear hB ha hb hc hX hF hS0 hHeld H9
        go_wp2_with fail
        go_ret
        exact ⟨rfl, HB.out⟩
    · subst ed
      rcases HQ5.out with ⟨rfl, e5, e6⟩ | ⟨rfl, _⟩
      · have e5s := e5.symm
        subst e5s
        have e6s := e6.symm
        subst e6s
        have la := blk_lt H7.out.2.2.1; have lb := blk_lt H7.out.2.1; have ln := blk_lt H7.out.2.2.2
        obtain ⟨s0, s1, s2, s3, s4, s5, s6⟩ := box7_blk H7.out.2.2.2
        obtain ⟨a0, a1, a2, a3, a4, a5, a6⟩ := box7_blk H7.out.2.2.1
        obtain ⟨b0, b1, b2, b3, b4, b5, b6⟩ := box7_blk H7.out.2.1
        go_wp2_with fail
        clear s0 s1 s2 s3 s4 s5 s6 a0 a1 a2 a3 a4 a5 a6 b0 b1 b2 b3 b4 b5 b6
        obtain ⟨w9, hw9⟩ : ∃ w9, (w7.alloc (.cells (sgC k7 t7 p n u r false) 23)).alloc (.cells (sgC k7 t7 p n u r false) 23) = w9 := ⟨_, rfl⟩
        obtain ⟨Nc, hNc⟩ : ∃ Nc, w7.heap.size = Nc := ⟨_, rfl⟩
        have k9 : RowKit.Below w.heap.size w w9 := by rw [← hw9]; exact (H7.out.1.alloc H7.out.1.size _).alloc (by have := H7.out.1.size; simp; omega) _
        have c9 : w9.heap[Nc]? = some (.cells (sgC k7 t7 p n u r false) 23 (0, 0)) := by rw [← hw9, ← hNc]; exact blk_alloc (heap_alloc_new w7 _) _
        have d9 : w9.heap[Nc + 1]? = some (.cells (sgC k7 t7 p n u r false) 23 (0, 0)) := by rw [← hw9, ← hNc]; exact heap_alloc2_new w7 _ _
        have b9 := blk_alloc (blk_alloc H7.out.2.1 (.cells (sgC k7 t7 p n u r false) 23)) (.cells (sgC k7 t7 p n u r false) 23)
        have a9 := blk_alloc (blk_alloc H7.out.2.2.1 (.cells (sgC k7 t7 p n u r false) 23)) (.cells (sgC k7 t7 p n u r false) 23)
        have n9 := blk_alloc (blk_alloc H7.out.2.2.2 (.cells (sgC k7 t7 p n u r false) 23)) (.cells (sgC k7 t7 p n u r false) 23)
        rw [hw9] at a9 b9 n9
        unfold sgC at hw9
        rw [hw9]
        try rw [hNc]
        have hne : Na < Nc ∧ Nb < Nc ∧ N < Nc ∧ w.heap.size ≤ Nc := ⟨by omega, by omega, by omega, by have := H7.out.1.size; omega⟩
        have H9 := Lib.hid (And.intro k9 (And.intro c9 (And.intro b9 (And.intro a9 (And.intro n9 (And.intro d9 hne))))))
        clear hw9 hNc k9 c9 b9 a9 n9 d9 hne la lb ln H7
        have hS0 : w9.drew.heap[N]? = some (.cells (sgC (IV v) t p n u r false) 23 (0, 0)) := H9.out.2.2.2.2.1
        have hX : w9.drew.heap[Nc + 1]? = some (.cells (sgC k7 t7 p n u r false) 23 (0, 0)) := H9.out.2.2.2.2.2.1
        have hF : Fr (fun k => k = Nc + 1) w9 w9.drew := (Fr.refl _ _).drew
        have hnN : N ≠ Nc + 1 := by have := H9.out.2.2.2.2.2.2.2.2.1; omega
        refine wp_region_held_drew (S := fun V => V.heap[N]? = some (.cells (sgC (IV v) t p n u r false) 23 (0, 0))) (by kernel_rfl) (by exact hS0) (fun hHeld => ?_)
        obtain ⟨w10, hw10⟩ : ∃ w10, w9.drew = w10 := ⟨_, rfl⟩
        rw [hw10] at hHeld hS0 hX hF ⊢
        clear hw10
        have q0 := blk_cell hX 0; have q1 := blk_cell hX 1; have f0 := blk_free hX 0; have f1 := blk_free hX 1
        refine wpAnyH_read (i := 0) (oi := { dst := some 54, op := Go.Op.fieldAddr 23 (Go.Operand.tmp 2) 0, type := 0, pos := "law.go:89", after := #[], guard := none }) ?_ rfl (by kernel_rfl) (by kernel_rfl) (by kernel_rfl) (fun _ _ _ h => h) (by rfl) (by exact hHeld) ?_ ?_
        rotate_left
        · (intro w0 hS0; have s0 := blk_cell hS0 0; have s1 := blk_cell hS0 1; go_simp <;> (try with_reducible rfl))
        try simp only [Act.put, List.setIfInBounds_toArray, List.set_cons_zero, List.set_cons_succ]
        refine wpAnyH_read (i := 2) (oi := { dst := some 56, op := Go.Op.fieldAddr 23 (Go.Operand.tmp 2) 1, type := 0, pos := "law.go:89", after := #[{ on := 5, ground := Go.Ground.gcOnly Go.Departure.lateStores }], guard := none }) ?_ rfl (by kernel_rfl) (by kernel_rfl) (by kernel_rfl) (fun _ _ _ h => h) (by rfl) (by exact hHeld) ?_ ?_
        rotate_left
        · (intro w0 hS0; have s0 := blk_cell hS0 0; have s1 := blk_cell hS0 1; go_simp <;> (try with_reducible rfl))
        try simp only [Act.put, List.setIfInBounds_toArray, List.set_cons_zero, List.set_cons_succ]
        refine wpAnyH_read (i := 1) (oi := { dst := some 55, op := Go.Op.load 3 (Go.Operand.tmp 54), type := 3, pos := "law.go:89", after := #[{ on := 0, ground := Go.Ground.data }], guard := none }) ?_ rfl (by kernel_rfl) (by kernel_rfl) (by kernel_rfl) (fun _ _ _ h => h) (by rfl) (by exact hHeld) ?_ ?_
        rotate_left
        · (intro w0 hS0; have s0 := blk_cell hS0 0; have s1 := blk_cell hS0 1; go_simp <;> (try with_reducible rfl))
        try simp only [Act.put, List.setIfInBounds_toArray, List.set_cons_zero, List.set_cons_succ]
        refine wpAnyH_read (i := 4) (oi := { dst := some 58, op := Go.Op.fieldAddr 23 (Go.Operand.tmp 11) 0, type := 0, pos := "law.go:89", after := #[{ on := 0, ground := Go.Ground.phase }, { on := 1, ground := Go.Ground.phase }, { on := 2, ground := Go.Ground.textOnly Go.Departure.lateStores }, { on := 3, ground := Go.Ground.textOnly Go.Departure.lateStores }], guard := none }) ?_ rfl (by kernel_rfl) (by kernel_rfl) (by kernel_rfl) (fun _ _ _ h => h) (by rfl) (by exact hHeld) ?_ ?_
        rotate_left
        · (intro w0 hS0; have s0 := blk_cell hS0 0; have s1 := blk_cell hS0 1; go_simp <;> (try with_reducible rfl))
        try simp only [Act.put, List.setIfInBounds_toArray, List.set_cons_zero, List.set_cons_succ]
        refine wpAnyH_read (i := 3) (oi := { dst := some 57, op := Go.Op.load 4 (Go.Operand.tmp 56), type := 4, pos := "law.go:89", after := #[{ on := 2, ground := Go.Ground.data }, { on := 5, ground := Go.Ground.gcOnly Go.Departure.lateStores }], guard := none }) ?_ rfl (by kernel_rfl) (by kernel_rfl) (by kernel_rfl) (fun _ _ _ h => h) (by rfl) (by exact hHeld) ?_ ?_
        rotate_left
        · (intro w0 hS0; have s0 := blk_cell hS0 0; have s1 := blk_cell hS0 1; go_simp <;> (try with_reducible rfl))
        try simp only [Act.put, List.setIfInBounds_toArray, List.set_cons_zero, List.set_cons_succ]
        refine wpAnyH_one (i := 5) (o := { dst := none, op := Go.Op.store 3 (Go.Operand.tmp 58) (Go.Operand.tmp 55), type := 0, pos := "law.go:89", after := #[{ on := 4, ground := Go.Ground.data }, { on := 1, ground := Go.Ground.data }, { on := 0, ground := Go.Ground.phase }, { on := 1, ground := Go.Ground.phase }, { on := 2, ground := Go.Ground.textOnly Go.Departure.lateStores }, { on := 3, ground := Go.Ground.textOnly Go.Departure.lateStores }], guard := none }) (by kernel_rfl) rfl (by rfl) (fun K hK => ?_)
        go_simp
        refine hK.out _ _ ?_ (fun hHeld => ?_)
        · exact Fr.blk (X := fun k => k = Nc + 1) (Fr.setCell (X := fun k => k = Nc + 1) (Fr.refl _ _) ⟨Nc + 1, 0, none⟩ rfl (.int .i64 (IV v))) hS0 hnN
        clear hK K
        try simp only [Act.put, List.setIfInBounds_toArray, List.set_cons_zero, List.set_cons_succ]
        have hS0 := hHeld
        have hX := blk_set hX 0 (.int .i64 (IV v))
        have hF := Fr.setCell (X := fun k => k = Nc + 1) hF ⟨Nc + 1, 0, none⟩ rfl (.int .i64 (IV v))
        clear q0 q1 f0 f1
        have q0 := blk_cell hX 0; have q1 := blk_cell hX 1; have f0 := blk_free hX 0; have f1 := blk_free hX 1
        refine wpAnyH_read (i := 6) (oi := { dst := some 59, op := Go.Op.fieldAddr 23 (Go.Operand.tmp 11) 1, type := 0, pos := "law.go:89", after := #[{ on := 0, ground := Go.Ground.phase }, { on := 1, ground := Go.Ground.phase }, { on := 2, ground := Go.Ground.phase }, { on := 3, ground := Go.Ground.phase }, { on := 4, ground := Go.Ground.phase }, { on := 5, ground := Go.Ground.phase }], guard := none }) ?_ rfl (by kernel_rfl) (by kernel_rfl) (by kernel_rfl) (fun _ _ _ h => h) (by rfl) (by exact hHeld) ?_ ?_
        rotate_left
        · (intro w0 hS0; have s0 := blk_cell hS0 0; have s1 := blk_cell hS0 1; go_simp <;> (try with_reducible rfl))
        try simp only [Act.put, List.setIfInBounds_toArray, List.set_cons_zero, List.set_cons_succ]
        refine wpAnyH_one (i := 7) (o := { dst := none, op := Go.Op.store 4 (Go.Operand.tmp 59) (Go.Operand.tmp 57), type := 0, pos := "law.go:89", after := #[{ on := 6, ground := Go.Ground.data }, { on := 3, ground := Go.Ground.data }, { on := 5, ground := Go.Ground.chain }, { on := 0, ground := Go.Ground.phase }, { on := 1, ground := Go.Ground.phase }, { on := 2, ground := Go.Ground.phase }, { on := 3, ground := Go.Ground.phase }, { on := 4, ground := Go.Ground.phase }, { on := 5, ground := Go.Ground.phase }], guard := none }) (by kernel_rfl) rfl (by rfl) (fun K hK => ?_)
        go_simp
        refine hK.out _ _ ?_ (fun hHeld => ?_)
        · exact Fr.blk (X := fun k => k = Nc + 1) (Fr.setCell (X := fun k => k = Nc + 1) (Fr.refl _ _) ⟨Nc + 1, 1, none⟩ rfl (.bool t)) hS0 hnN
        clear hK K
        try simp only [Act.put, List.setIfInBounds_toArray, List.set_cons_zero, List.set_cons_succ]
        have hS0 := hHeld
        have hX := blk_set hX 1 (.bool t)
        have hF := Fr.setCell (X := fun k => k = Nc + 1) hF ⟨Nc + 1, 1, none⟩ rfl (.bool t)
        clear q0 q1 f0 f1
        have q0 := blk_cell hX 0; have q1 := blk_cell hX 1; have f0 := blk_free hX 0; have f1 := blk_free hX 1
        refine wpAnyH_done (by kernel_rfl) ?_ _
        clear q0 q1 f0 f1
        have hc := hF.blk H9.out.2.1 (by omega); have hb := hF.blk H9.out.2.2.1 (by have := H9.out.2.2.2.2.2.2; omega); have ha := hF.blk H9.out.2.2.2.1 (by have := H9.out.2.2.2.2.2.2; omega)
        have hB : RowKit.Below w.heap.size w _ := H9.out.1.trans (hF.below H9.out.1.size fun k hk e => by have := H9.out.2.2.2.2.2.2; omega)
        obtain ⟨s0, s1, s2, s3, s4, s5, s6⟩ := box7_blk hS0
        have d0 := blk_cell hX 0; have d1 := blk_cell hX 1; have d2 := blk_cell hX 2; have d3 := blk_cell hX 3; have d4 := blk_cell hX 4; have d5 := blk_cell hX 5; have d6 := blk_cell hX 6
        obtain ⟨a0, a1, a2, a3, a4, a5, a6⟩ := box7_blk ha
        obtain ⟨b0, b1, b2, b3, b4, b5, b6⟩ := box7_blk hb
        obtain ⟨c0, c1, c2, c3, c4, c5, c6⟩ := box7_blk hc
        have HB := Lib.hid hB
        clear hB ha hb hc hX hF hS0 hHeld H9
        go_wp2_with fail
        go_ret
        exact ⟨rfl, HB.out⟩
      · clear HQ7 HQ3 HQ5
        have la := blk_lt H7.out.2.2.1; have lb := blk_lt H7.out.2.1; have ln := blk_lt H7.out.2.2.2
        obtain ⟨s0, s1, s2, s3, s4, s5, s6⟩ := box7_blk H7.out.2.2.2
        obtain ⟨a0, a1, a2, a3, a4, a5, a6⟩ := box7_blk H7.out.2.2.1
        obtain ⟨b0, b1, b2, b3, b4, b5, b6⟩ := box7_blk H7.out.2.1
        go_wp2_with fail
        clear s0 s1 s2 s3 s4 s5 s6 a0 a1 a2 a3 a4 a5 a6 b0 b1 b2 b3 b4 b5 b6
        obtain ⟨w9, hw9⟩ : ∃ w9, (w7.alloc (.cells (sgC k7 t7 p n u r false) 23)).alloc (.cells (sgC k7 t7 p n u r false) 23) = w9 := ⟨_, rfl⟩
        obtain ⟨Nc, hNc⟩ : ∃ Nc, w7.heap.size = Nc := ⟨_, rfl⟩
        have k9 : RowKit.Below w.heap.size w w9 := by rw [← hw9]; exact (H7.out.1.alloc H7.out.1.size _).alloc (by have := H7.out.1.size; simp; omega) _
        have c9 : w9.heap[Nc]? = some (.cells (sgC k7 t7 p n u r false) 23 (0, 0)) := by rw [← hw9, ← hNc]; exact blk_alloc (heap_alloc_new w7 _) _
        have d9 : w9.heap[Nc + 1]? = some (.cells (sgC k7 t7 p n u r false) 23 (0, 0)) := by rw [← hw9, ← hNc]; exact heap_alloc2_new w7 _ _
        have b9 := blk_alloc (blk_alloc H7.out.2.1 (.cells (sgC k7 t7 p n u r false) 23)) (.cells (sgC k7 t7 p n u r false) 23)
        have a9 := blk_alloc (blk_alloc H7.out.2.2.1 (.cells (sgC k7 t7 p n u r false) 23)) (.cells (sgC k7 t7 p n u r false) 23)
        have n9 := blk_alloc (blk_alloc H7.out.2.2.2 (.cells (sgC k7 t7 p n u r false) 23)) (.cells (sgC k7 t7 p n u r false) 23)
        rw [hw9] at a9 b9 n9
        unfold sgC at hw9
        rw [hw9]
        try rw [hNc]
        have hne : Na < Nc ∧ Nb < Nc ∧ N < Nc ∧ w.heap.size ≤ Nc := ⟨by omega, by omega, by omega, by have := H7.out.1.size; omega⟩
        have H9 := Lib.hid (And.intro k9 (And.intro c9 (And.intro b9 (And.intro a9 (And.intro n9 (And.intro d9 hne))))))
        clear hw9 hNc k9 c9 b9 a9 n9 d9 hne la lb ln H7
        have hS0 : w9.drew.heap[N]? = some (.cells (sgC (IV v) t p n u r false) 23 (0, 0)) := H9.out.2.2.2.2.1
        have hX : w9.drew.heap[Nc + 1]? = some (.cells (sgC k7 t7 p n u r false) 23 (0, 0)) := H9.out.2.2.2.2.2.1
        have hF : Fr (fun k => k = Nc + 1) w9 w9.drew := (Fr.refl _ _).drew
        have hnN : N ≠ Nc + 1 := by have := H9.out.2.2.2.2.2.2.2.2.1; omega
        refine wp_region_held_drew (S := fun V => V.heap[N]? = some (.cells (sgC (IV v) t p n u r false) 23 (0, 0))) (by kernel_rfl) (by exact hS0) (fun hHeld => ?_)
        obtain ⟨w10, hw10⟩ : ∃ w10, w9.drew = w10 := ⟨_, rfl⟩
        rw [hw10] at hHeld hS0 hX hF ⊢
        clear hw10
        have q0 := blk_cell hX 0; have q1 := blk_cell hX 1; have f0 := blk_free hX 0; have f1 := blk_free hX 1
        refine wpAnyH_read (i := 0) (oi := { dst := some 54, op := Go.Op.fieldAddr 23 (Go.Operand.tmp 2) 0, type := 0, pos := "law.go:89", after := #[], guard := none }) ?_ rfl (by kernel_rfl) (by kernel_rfl) (by kernel_rfl) (fun _ _ _ h => h) (by rfl) (by exact hHeld) ?_ ?_
        rotate_left
        · (intro w0 hS0; have s0 := blk_cell hS0 0; have s1 := blk_cell hS0 1; go_simp <;> (try with_reducible rfl))
        try simp only [Act.put, List.setIfInBounds_toArray, List.set_cons_zero, List.set_cons_succ]
        refine wpAnyH_read (i := 2) (oi := { dst := some 56, op := Go.Op.fieldAddr 23 (Go.Operand.tmp 2) 1, type := 0, pos := "law.go:89", after := #[{ on := 5, ground := Go.Ground.gcOnly Go.Departure.lateStores }], guard := none }) ?_ rfl (by kernel_rfl) (by kernel_rfl) (by kernel_rfl) (fun _ _ _ h => h) (by rfl) (by exact hHeld) ?_ ?_
        rotate_left
        · (intro w0 hS0; have s0 := blk_cell hS0 0; have s1 := blk_cell hS0 1; go_simp <;> (try with_reducible rfl))
        try simp only [Act.put, List.setIfInBounds_toArray, List.set_cons_zero, List.set_cons_succ]
        refine wpAnyH_read (i := 1) (oi := { dst := some 55, op := Go.Op.load 3 (Go.Operand.tmp 54), type := 3, pos := "law.go:89", after := #[{ on := 0, ground := Go.Ground.data }], guard := none }) ?_ rfl (by kernel_rfl) (by kernel_rfl) (by kernel_rfl) (fun _ _ _ h => h) (by rfl) (by exact hHeld) ?_ ?_
        rotate_left
        · (intro w0 hS0; have s0 := blk_cell hS0 0; have s1 := blk_cell hS0 1; go_simp <;> (try with_reducible rfl))
        try simp only [Act.put, List.setIfInBounds_toArray, List.set_cons_zero, List.set_cons_succ]
        refine wpAnyH_read (i := 4) (oi := { dst := some 58, op := Go.Op.fieldAddr 23 (Go.Operand.tmp 11) 0, type := 0, pos := "law.go:89", after := #[{ on := 0, ground := Go.Ground.phase }, { on := 1, ground := Go.Ground.phase }, { on := 2, ground := Go.Ground.textOnly Go.Departure.lateStores }, { on := 3, ground := Go.Ground.textOnly Go.Departure.lateStores }], guard := none }) ?_ rfl (by kernel_rfl) (by kernel_rfl) (by kernel_rfl) (fun _ _ _ h => h) (by rfl) (by exact hHeld) ?_ ?_
        rotate_left
        · (intro w0 hS0; have s0 := blk_cell hS0 0; have s1 := blk_cell hS0 1; go_simp <;> (try with_reducible rfl))
        try simp only [Act.put, List.setIfInBounds_toArray, List.set_cons_zero, List.set_cons_succ]
        refine wpAnyH_read (i := 3) (oi := { dst := some 57, op := Go.Op.load 4 (Go.Operand.tmp 56), type := 4, pos := "law.go:89", after := #[{ on := 2, ground := Go.Ground.data }, { on := 5, ground := Go.Ground.gcOnly Go.Departure.lateStores }], guard := none }) ?_ rfl (by kernel_rfl) (by kernel_rfl) (by kernel_rfl) (fun _ _ _ h => h) (by rfl) (by exact hHeld) ?_ ?_
        rotate_left
        · (intro w0 hS0; have s0 := blk_cell hS0 0; have s1 := blk_cell hS0 1; go_simp <;> (try with_reducible rfl))
        try simp only [Act.put, List.setIfInBounds_toArray, List.set_cons_zero, List.set_cons_succ]
        refine wpAnyH_one (i := 5) (o := { dst := none, op := Go.Op.store 3 (Go.Operand.tmp 58) (Go.Operand.tmp 55), type := 0, pos := "law.go:89", after := #[{ on := 4, ground := Go.Ground.data }, { on := 1, ground := Go.Ground.data }, { on := 0, ground := Go.Ground.phase }, { on := 1, ground := Go.Ground.phase }, { on := 2, ground := Go.Ground.textOnly Go.Departure.lateStores }, { on := 3, ground := Go.Ground.textOnly Go.Departure.lateStores }], guard := none }) (by kernel_rfl) rfl (by rfl) (fun K hK => ?_)
        go_simp
        refine hK.out _ _ ?_ (fun hHeld => ?_)
        · exact Fr.blk (X := fun k => k = Nc + 1) (Fr.setCell (X := fun k => k = Nc + 1) (Fr.refl _ _) ⟨Nc + 1, 0, none⟩ rfl (.int .i64 (IV v))) hS0 hnN
        clear hK K
        try simp only [Act.put, List.setIfInBounds_toArray, List.set_cons_zero, List.set_cons_succ]
        have hS0 := hHeld
        have hX := blk_set hX 0 (.int .i64 (IV v))
        have hF := Fr.setCell (X := fun k => k = Nc + 1) hF ⟨Nc + 1, 0, none⟩ rfl (.int .i64 (IV v))
        clear q0 q1 f0 f1
        have q0 := blk_cell hX 0; have q1 := blk_cell hX 1; have f0 := blk_free hX 0; have f1 := blk_free hX 1
        refine wpAnyH_read (i := 6) (oi := { dst := some 59, op := Go.Op.fieldAddr 23 (Go.Operand.tmp 11) 1, type := 0, pos := "law.go:89", after := #[{ on := 0, ground := Go.Ground.phase }, { on := 1, ground := Go.Ground.phase }, { on := 2, ground := Go.Ground.phase }, { on := 3, ground := Go.Ground.phase }, { on := 4, ground := Go.Ground.phase }, { on := 5, ground := Go.Ground.phase }], guard := none }) ?_ rfl (by kernel_rfl) (by kernel_rfl) (by kernel_rfl) (fun _ _ _ h => h) (by rfl) (by exact hHeld) ?_ ?_
        rotate_left
        · (intro w0 hS0; have s0 := blk_cell hS0 0; have s1 := blk_cell hS0 1; go_simp <;> (try with_reducible rfl))
        try simp only [Act.put, List.setIfInBounds_toArray, List.set_cons_zero, List.set_cons_succ]
        refine wpAnyH_one (i := 7) (o := { dst := none, op := Go.Op.store 4 (Go.Operand.tmp 59) (Go.Operand.tmp 57), type := 0, pos := "law.go:89", after := #[{ on := 6, ground := Go.Ground.data }, { on := 3, ground := Go.Ground.data }, { on := 5, ground := Go.Ground.chain }, { on := 0, ground := Go.Ground.phase }, { on := 1, ground := Go.Ground.phase }, { on := 2, ground := Go.Ground.phase }, { on := 3, ground := Go.Ground.phase }, { on := 4, ground := Go.Ground.phase }, { on := 5, ground := Go.Ground.phase }], guard := none }) (by kernel_rfl) rfl (by rfl) (fun K hK => ?_)
        go_simp
        refine hK.out _ _ ?_ (fun hHeld => ?_)
        · exact Fr.blk (X := fun k => k = Nc + 1) (Fr.setCell (X := fun k => k = Nc + 1) (Fr.refl _ _) ⟨Nc + 1, 1, none⟩ rfl (.bool t)) hS0 hnN
        clear hK K
        try simp only [Act.put, List.setIfInBounds_toArray, List.set_cons_zero, List.set_cons_succ]
        have hS0 := hHeld
        have hX := blk_set hX 1 (.bool t)
        have hF := Fr.setCell (X := fun k => k = Nc + 1) hF ⟨Nc + 1, 1, none⟩ rfl (.bool t)
        clear q0 q1 f0 f1
        have q0 := blk_cell hX 0; have q1 := blk_cell hX 1; have f0 := blk_free hX 0; have f1 := blk_free hX 1
        refine wpAnyH_done (by kernel_rfl) ?_ _
        clear q0 q1 f0 f1
        have hc := hF.blk H9.out.2.1 (by omega); have hb := hF.blk H9.out.2.2.1 (by have := H9.out.2.2.2.2.2.2; omega); have ha := hF.blk H9.out.2.2.2.1 (by have := H9.out.2.2.2.2.2.2; omega)
        have hB : RowKit.Below w.heap.size w _ := H9.out.1.trans (hF.below H9.out.1.size fun k hk e => by have := H9.out.2.2.2.2.2.2; omega)
        obtain ⟨s0, s1, s2, s3, s4, s5, s6⟩ := box7_blk hS0
        have d0 := blk_cell hX 0; have d1 := blk_cell hX 1; have d2 := blk_cell hX 2; have d3 := blk_cell hX 3; have d4 := blk_cell hX 4; have d5 := blk_cell hX 5; have d6 := blk_cell hX 6
        obtain ⟨a0, a1, a2, a3, a4, a5, a6⟩ := box7_blk ha
        obtain ⟨b0, b1, b2, b3, b4, b5, b6⟩ := box7_blk hb
        obtain ⟨c0, c1, c2, c3, c4, c5, c6⟩ := box7_blk hc
        have HB := Lib.hid hB
        clear hB ha hb hc hX hF hS0 hHeld H9
        go_wp2_with fail
        go_ret
        exact ⟨rfl, HB.out⟩
end Go.Proofs.YtdikpbldfnkgdaaGreatDoor
end
