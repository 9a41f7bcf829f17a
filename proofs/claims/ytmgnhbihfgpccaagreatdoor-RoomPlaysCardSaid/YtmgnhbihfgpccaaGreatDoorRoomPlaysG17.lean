/- Texts of this proof, one behind the other. -/
import Derived.Test.YtmgnhbihfgpccaaGreatDoorRoomPlaysG16
import Derived.Laws.StructEq
import Derived.Test.YtmgnhbihfgpccaaGreatDoorRoomPlaysG9
set_option linter.unusedVariables false
set_option linter.unusedSimpArgs false
section
/- Layer 19: members, changes compared. -/
namespace Go.Proofs.YtmgnhbihfgpccaaGreatDoor
open Go Go.RowKit

theorem eqlM (a b : Mem) (W : World) : (binOp .eql 38 (.agg #[.int .i64 a.1, .bool a.2.1, .bool a.2.2]) (.agg #[.int .i64 b.1, .bool b.2.1, .bool b.2.2])).run Tryz.prog W = .ok (.bool (decide (a = b))) W := by
  have u1 := Tryz.underlying3
  have u2 := Tryz.underlying4
  have a1 := Tryz.isAgg3
  have a2 := Tryz.isAgg4
  have z1 := Tryz.sizeOf3
  have z2 := Tryz.sizeOf4
  have hS : Tryz.prog.underlying 38 = some (.struct (Tryz.prog.fieldsOf 38)) := by kernel_rfl
  have hp : Tryz.prog.stoodInHeld 38 = false := by kernel_rfl
  rw [run_eql_struct, show (10000 : Nat) = 9999 + 1 from rfl, run_equalIn_agg W 9999 38 _ _ hS hp]
  simp only [Program.fieldsOf, Tryz.underlying38]
  go_simp
  obtain ⟨a1, a2, a3⟩ := a
  obtain ⟨b1, b2, b3⟩ := b
  by_cases h1 : a1 = b1 <;> by_cases h2 : a2 = b2 <;> by_cases h3 : a3 = b3 <;> simp [h1, h2, h3]
theorem guardM (x y : Operand) (xs ys : Array Value) (W : World) : (eqGuard .eql 38 x y (.agg xs) (.agg ys)).run Tryz.prog W = .ok () W := run_eqGuard_agg W .eql _ x y xs ys (by kernel_rfl)
theorem eqlC (a b : Bool) (c d : UInt8) (s t : ByteArray) (W : World) : (binOp .eql 31 (.agg #[.bool a, .int .u8 c.toNat, .string s]) (.agg #[.bool b, .int .u8 d.toNat, .string t])).run Tryz.prog W = .ok (.bool (decide (a = b ∧ c = d ∧ s = t))) W := by
  have u1 := Tryz.underlying5
  have u2 := Tryz.underlying4
  have u3 := Tryz.underlying9
  have a1 := Tryz.isAgg5
  have a2 := Tryz.isAgg4
  have a3 := Tryz.isAgg9
  have z1 := Tryz.sizeOf5
  have z2 := Tryz.sizeOf4
  have z3 := Tryz.sizeOf9
  have hS : Tryz.prog.underlying 31 = some (.struct (Tryz.prog.fieldsOf 31)) := by kernel_rfl
  have hp : Tryz.prog.stoodInHeld 31 = false := by kernel_rfl
  have hs : (s.toList == t.toList) = decide (s = t) := by
    rw [Bool.eq_iff_iff, beq_iff_eq, decide_eq_true_eq, ByteArray.toList_eq, ByteArray.toList_eq]
    exact ⟨fun h => ba_ext h, fun h => by rw [h]⟩
  have hc : ((c.toNat : Int) == (d.toNat : Int)) = decide (c = d) := by
    rw [Bool.eq_iff_iff, beq_iff_eq, decide_eq_true_eq]
    exact ⟨fun h => UInt8.toNat_inj.1 (by omega), fun h => by rw [h]⟩
  rw [run_eql_struct, show (10000 : Nat) = 9999 + 1 from rfl, run_equalIn_agg W 9999 31 _ _ hS hp]
  simp only [Program.fieldsOf, Tryz.underlying31]
  go_simp
  by_cases h1 : a = b <;> by_cases h2 : c = d <;> by_cases h3 : s = t <;> simp [h1, h2, h3, hs, hc]
theorem guardC (x y : Operand) (xs ys : Array Value) (W : World) : (eqGuard .eql 31 x y (.agg xs) (.agg ys)).run Tryz.prog W = .ok () W := run_eqGuard_agg W .eql _ x y xs ys (by kernel_rfl)
end Go.Proofs.YtmgnhbihfgpccaaGreatDoor
end
section
/- Layer 19: the document's Change: a mark. -/
namespace Go.Proofs.YtmgnhbihfgpccaaGreatDoor
open Go Go.RowKit

/-- a mark, for the document -/
def markX (x : Rx) (on : Bool) (c : UInt8) (arg : List UInt8) (id : Int) : Told × Rx :=
  if atM x.L id < 0 then (noT 441, x)
  else if newM (x.L.getD (atM x.L id).toNat default) c on = x.L.getD (atM x.L id).toNat default then (noT 0, x)
  else (⟨on, c, arg, 0⟩, { x with L := x.L.set (atM x.L id).toNat (newM (x.L.getD (atM x.L id).toNat default) c on) })
theorem ownM_set3 {base : Nat} {W : World} {g c : Nat} {xs : List Mem} (h : OwnM base W (.slice (some ⟨g, 0, none⟩) xs.length c) xs) (j : Nat) (hj : j < xs.length) (m : Mem) :
    OwnM base (((W.setCell ⟨g, j * 3, none⟩ (.int .i64 m.1)).setCell ⟨g, j * 3 + 1, none⟩ (.bool m.2.1)).setCell ⟨g, j * 3 + 2, none⟩ (.bool m.2.2)) (.slice (some ⟨g, 0, none⟩) xs.length c) (xs.set j m) := by
  have h1 := ownM_set h j 0 hj (by decide) (m.1, xs[j].2.1, xs[j].2.2) (.int .i64 m.1) rfl
  have hj1 : j < (xs.set j (m.1, xs[j].2.1, xs[j].2.2)).length := by rw [List.length_set]; exact hj
  have h2 := ownM_set h1 j 1 hj1 (by decide) (m.1, m.2.1, xs[j].2.2) (.bool m.2.1) (by rw [List.getElem_set_self]; rfl)
  rw [List.set_set] at h2
  have hj2 : j < (xs.set j (m.1, m.2.1, xs[j].2.2)).length := by rw [List.length_set]; exact hj
  have h3 := ownM_set h2 j 2 hj2 (by decide) m (.bool m.2.2) (by rw [List.getElem_set_self]; rfl)
  rw [List.set_set] at h3
  rw [List.length_set] at h3
  exact h3
set_option maxRecDepth 100000 in
set_option maxHeartbeats 16000000 in
theorem refChange_M111 {base B : Nat} {q : RxV} {x : Rx} {w : World} (h : RxAt base B q x w) (on : Bool) (arg : List UInt8) (id : Int) (hl : x.L.length ≤ 100000) :
    Calls Tryz.prog 35 #[.pointer (some ⟨B, 0, none⟩), chgV on 111 arg, .int .i64 id] w fun e w' => e = .returned (markX x on 111 arg id).1.val ∧ XW base B q (markX x on 111 arg id).2 w w' := by
  obtain ⟨N, hN⟩ : ∃ N, w.heap.size = N := ⟨_, rfl⟩
  obtain ⟨ab, hab⟩ : ∃ ab, bs arg = ab := ⟨_, rfl⟩
  have hcv : chgV on 111 arg = .agg #[.bool on, .int .u8 111, .string ab] := by rw [← hab]; rfl
  rw [hcv]
  obtain ⟨res, hres⟩ : ∃ res, markX x on 111 arg id = res := ⟨_, rfl⟩
  rw [hres]
  obtain ⟨V0, hV0⟩ : ∃ V0, (((w.alloc (.cells #[.bool on, .int .u8 111, .string ab] 31)).alloc (.cells #[.bool false, .int .u8 0, .string ⟨#[]⟩] 31)).alloc (.cells #[.bool false, .int .u8 0, .string ⟨#[]⟩] 31)) = V0 := ⟨_, rfl⟩
  have b0 : RowKit.Below w.heap.size w V0 := by rw [← hV0]; exact (((Below.refl _ w).alloc (Nat.le_refl _) _).alloc (by simp) _).alloc (by simp; omega) _
  have k0 : V0.heap[N]? = some (.cells #[.bool on, .int .u8 111, .string ab] 31 (0, 0)) := by rw [← hV0, ← hN]; exact blk_alloc (blk_alloc (heap_alloc_new w _) _) _
  have k1 : V0.heap[N + 1]? = some (.cells #[.bool false, .int .u8 0, .string ⟨#[]⟩] 31 (0, 0)) := by rw [← hV0, ← hN]; exact blk_alloc (heap_alloc2_new w _ _) _
  have k2 : V0.heap[N + 1 + 1]? = some (.cells #[.bool false, .int .u8 0, .string ⟨#[]⟩] 31 (0, 0)) := by
    rw [← hV0, ← hN]
    have := heap_alloc2_new (w.alloc (.cells #[.bool on, .int .u8 111, .string ab] 31)) (.cells #[.bool false, .int .u8 0, .string ⟨#[]⟩] 31) (.cells #[.bool false, .int .u8 0, .string ⟨#[]⟩] 31)
    rwa [World.size_alloc] at this
  have y0 := blk_cell k2 0; have y1 := blk_cell k2 1; have y2 := blk_cell k2 2; have x0 := blk_free k2 0; have x1 := blk_free k2 1; have x2 := blk_free k2 2
  obtain ⟨W0, hW0⟩ : ∃ W0, (((V0.setCell ⟨N + 1 + 1, 0, none⟩ (.bool false)).setCell ⟨N + 1 + 1, 1, none⟩ (.int .u8 0)).setCell ⟨N + 1 + 1, 2, none⟩ (.string ⟨#[]⟩)) = W0 := ⟨_, rfl⟩
  have fV : Fr (fun k => k = N + 1 + 1) V0 W0 := by rw [← hW0]; exact set3R_fr
  have b0 : RowKit.Below w.heap.size w W0 := b0.trans (fV.below (B := w.heap.size) b0.size fun k hk e => by omega)
  have k0 := fV.blk k0 (by omega)
  have k1 := fV.blk k1 (by omega)
  have k2 : W0.heap[N + 1 + 1]? = some (.cells #[.bool false, .int .u8 0, .string ⟨#[]⟩] 31 (0, 0)) := by rw [← hW0]; exact set3R k2
  clear fV
  have h0 := h.below b0
  have hlt : ∀ k, RxX B q k → k < w.heap.size := fun k hk => (h.lt k hk).2
  have HRES := Lib.hid hres
  have HAB := Lib.hid hab
  have H := Lib.hid (And.intro b0 (And.intro k0 (And.intro k1 (And.intro k2 (And.intro h0 (And.intro hN hlt))))))
  have HW := Lib.hid hW0
  have HP := Lib.hid (refAt_any h0 id (by omega))
  have z0 := blk_cell k0 0; have z1 := blk_cell k0 1
  clear h h0 k0 k1 k2 hlt hres hab hcv
  by_cases ha : atM x.L id < 0
  · have hc : markX x on 111 arg id = (noT 441, x) := by unfold markX; rw [if_pos ha]
    have HC := Lib.hid hc
    obtain ⟨a, haa⟩ : ∃ a, atM x.L id = a := ⟨_, rfl⟩
    rw [haa] at HP ha
    clear hc haa
    go_enter Tryz.func35, Tryz.ntmps35
    go_wp2_with fail
    refine HP.out.mono ?_
    rintro e w' ⟨rfl, hw'⟩
    rw [hw']
    clear hW0 hV0 hN z0 z1 y0 y1 y2 x0 x1 x2
    have q0 := blk_cell H.out.2.2.1 0; have q1 := blk_cell H.out.2.2.1 1; have q2 := blk_cell H.out.2.2.1 2; have g0 := blk_free H.out.2.2.1 0; have g1 := blk_free H.out.2.2.1 1; have g2 := blk_free H.out.2.2.1 2
    have p0 := blk_cell H.out.2.2.2.1 0; have p1 := blk_cell H.out.2.2.2.1 1; have p2 := blk_cell H.out.2.2.2.1 2
    go_wp2_with fail
    obtain ⟨b5, k5, r5, p5, a5, hN5, hlt5⟩ := H.out
    have kk := fun j => blk_cell (set3R (x := .bool false) (y := .int .u8 0) (z := .string ⟨#[]⟩) r5) j
    refine bodyPost_ret (res_three rfl rfl (Tryz.isAgg31 _) (Tryz.sizeOf31 _) (kk 0) (kk 1) (kk 2)) rfl ⟨by rw [← HRES.out, HC.out]; rfl, ?_⟩
    rw [← HRES.out, HC.out]
    exact XW.boxedZ (Z := fun k => k = N + 1) ⟨q, a5, Fr.refl _ _, fun _ hk _ => hk⟩ b5 hlt5 (fun k e => by have := blk_lt r5; omega) set3R_fr
  · obtain ⟨i, hi⟩ : ∃ i : Nat, atM x.L id = i := ⟨(atM x.L id).toNat, by omega⟩
    have hil := (atM_yes hi).1
    obtain ⟨m, hm⟩ : ∃ m, x.L[i] = m := ⟨_, rfl⟩
    have hgd : x.L.getD i default = m := by rw [List.getD_eq_getElem?_getD, List.getElem?_eq_getElem hil, ← hm]; rfl
    have hc0 : markX x on 111 arg id = if newM m 111 on = m then (noT 0, x) else (⟨on, 111, arg, 0⟩, { x with L := x.L.set i (newM m 111 on) }) := by
      unfold markX; rw [if_neg ha, hi]; simp only [Int.toNat_natCast]; rw [hgd]
    rw [hi] at HP
    obtain ⟨A, c', hv⟩ := ownM_slice H.out.2.2.2.2.1.2.1
    have ho := H.out.2.2.2.2.1.2.1
    rw [hv] at ho
    obtain ⟨g, rfl⟩ : ∃ g, A = some ⟨g, 0, none⟩ := by
      rcases ho.2 with ⟨h2, h3⟩ | ⟨g', cap', cur, h2, _⟩
      · omega
      · injection h2 with e1 _ _; exact ⟨g', e1⟩
    have hcell : ∀ j, j < 3 → W0.cell? ⟨g, i * 3 + j, none⟩ = (encM m)[j]? := fun j hj => by
      have h1 := World.ownsRow.cellAt ho (i * 3 + j) (by omega)
      rw [h1, ← hm]
      have h2 : x.L.flatMap encM = (x.L.flatMap encM).take (i * 3) ++ (x.L.flatMap encM).drop (i * 3) := (List.take_append_drop _ _).symm
      rw [h2, List.getElem?_append_right (by rw [List.length_take, flat3]; omega), List.length_take, flat3, flat_drop, List.drop_eq_getElem_cons hil, List.flatMap_cons, List.getElem?_append_left (by show _ < 3; omega)]
      congr 1; omega
    have hfree : ∀ j, j < 3 → W0.frozen? ⟨g, i * 3 + j, none⟩ = false := fun j hj => (row_spare ho _ (by
      have : x.L.length ≤ c' := by
        rcases ho.2 with ⟨h2, _⟩ | ⟨g', cap', cur, h2, _, _, h5, _⟩
        · cases h2
        · injection h2 with _ _ e3; subst e3; exact h5
      omega)).2
    obtain ⟨n, hn⟩ : ∃ n, x.L.length = n := ⟨_, rfl⟩
    have hin : i < n := by omega
    have hn6 : n ≤ 1000000 := by omega
    have hgl : g < w.heap.size := H.out.2.2.2.2.2.2 g (.inr (.inl (by rw [hv]; rfl)))
    have hBl : B < w.heap.size := H.out.2.2.2.2.2.2 B (.inl rfl)
    have hgB : g ≠ B := fun e => H.out.2.2.2.2.1.apart.1.1 (by rw [hv, e]; rfl)
    have hvn : q.vl = .slice (some ⟨g, 0, none⟩) n c' := by rw [← hn]; exact hv
    have c2 : W0.cell? ⟨B, 2, none⟩ = some (.slice (some ⟨g, 0, none⟩) n c') := by rw [← hvn]; exact blk_cell H.out.2.2.2.2.1.1 2
    obtain ⟨mi, mo, mv⟩ := m
    have e0 : W0.cell? ⟨g, i * 3, none⟩ = some (.int .i64 mi) := hcell 0 (by decide)
    have e1 : W0.cell? ⟨g, i * 3 + 1, none⟩ = some (.bool mo) := hcell 1 (by decide)
    have e2 : W0.cell? ⟨g, i * 3 + 2, none⟩ = some (.bool mv) := hcell 2 (by decide)
    have hp1 : ¬ ((i : Int) < 0) := by omega
    have hp2 : (i : Int) < n := by omega
    obtain ⟨M, hM⟩ : ∃ M, W0.heap.size = M := ⟨_, rfl⟩
    obtain ⟨W1, hW1⟩ : ∃ W1, W0.alloc (.cells #[.int .i64 mi, .bool mo, .bool mv] 38) = W1 := ⟨_, rfl⟩
    have f1 : Fr (fun _ => False) W0 W1 := by rw [← hW1]; exact (Fr.refl _ _).alloc _
    have k1 : W1.heap[M]? = some (.cells #[.int .i64 mi, .bool mo, .bool mv] 38 (0, 0)) := by rw [← hW1, ← hM]; exact heap_alloc_new W0 _
    obtain ⟨mo2, mv2, hmo2⟩ : ∃ mo2 mv2, newM (mi, mo, mv) 111 on = (mi, mo2, mv2) := by unfold newM; split <;> exact ⟨_, _, rfl⟩
    have hcase : mo2 = on ∧ mv2 = mv := by
      have : newM (mi, mo, mv) 111 on = (mi, on, mv) := rfl
      rw [this] at hmo2; injection hmo2 with _ e; injection e with e1 e2; exact ⟨e1.symm, e2.symm⟩
    obtain ⟨W2, hW2⟩ : ∃ W2, W1.setCell ⟨M, 1, none⟩ (.bool on) = W2 := ⟨_, rfl⟩
    have f2 : Fr (fun k => k = M) W1 W2 := by rw [← hW2]; exact Fr.setCell (X := fun k => k = M) (Fr.refl _ W1) ⟨M, 1, none⟩ rfl _
    have k2 : W2.heap[M]? = some (.cells #[.int .i64 mi, .bool mo2, .bool mv2] 38 (0, 0)) := by rw [← hW2, hcase.1, hcase.2]; exact blk_set k1 1 _
    have b2 : RowKit.Below w.heap.size w W2 := by
      have hz := H.out.1.size
      exact (H.out.1.trans ((f1.below (B := w.heap.size) hz fun k hk e => e.elim))).trans (f2.below (B := w.heap.size) (Nat.le_trans hz f1.size) fun k hk e => by omega)
    have a2 : RxAt base B q x W2 := (H.out.2.2.2.2.1.fr f1 fun _ _ e => e).fr f2 fun k hk e => by have := H.out.2.2.2.2.2.2 k hk; have := H.out.1.size; omega
    have hNM : N < M ∧ N + 1 < M ∧ N + 1 + 1 < M := by have := blk_lt H.out.2.2.2.1; omega
    have r2 := f2.blk (f1.blk H.out.2.2.1 fun e => e) (by omega)
    have kn2 := f2.blk (f1.blk H.out.2.1 fun e => e) (by omega)
    have p2 := f2.blk (f1.blk H.out.2.2.2.1 fun e => e) (by omega)
    have H2 := Lib.hid (And.intro b2 (And.intro kn2 (And.intro r2 (And.intro p2 (And.intro a2 H.out.2.2.2.2.2)))))
    have g0 : ∀ {V : World}, Fr (fun k => k = M) W1 V → V.cell? ⟨g, i * 3, none⟩ = some (.int .i64 mi) ∧ V.cell? ⟨g, i * 3 + 1, none⟩ = some (.bool mo) ∧ V.cell? ⟨g, i * 3 + 2, none⟩ = some (.bool mv) ∧ ∀ j, j < 3 → V.frozen? ⟨g, i * 3 + j, none⟩ = false := fun {V} hf => by
      have hb := (hf.block g (Nat.lt_of_lt_of_le (Nat.lt_of_lt_of_le hgl H.out.1.size) f1.size) (by have := H.out.1.size; omega)).trans (f1.block g (Nat.lt_of_lt_of_le hgl H.out.1.size) fun e => e)
      exact ⟨(World.cell?_of_block (w := W0) (w' := V) (a := ⟨g, i * 3, none⟩) hb).trans e0, (World.cell?_of_block (w := W0) (w' := V) (a := ⟨g, i * 3 + 1, none⟩) hb).trans e1, (World.cell?_of_block (w := W0) (w' := V) (a := ⟨g, i * 3 + 2, none⟩) hb).trans e2, fun j hj => by
        have := hfree j hj
        simp only [World.frozen?] at this ⊢
        rw [hb]; exact this⟩
    have G := Lib.hid (g0 f2)
    have HK := Lib.hid (And.intro k2 (And.intro hvn (And.intro hgB (And.intro hn (And.intro hgd (And.intro hmo2 (And.intro hNM hgl)))))))
    have HC0 := Lib.hid hc0
    have s0 := blk_cell k1 0; have s1 := blk_cell k1 1; have s2 := blk_cell k1 2; have sf := blk_free k1 1
    have zz0 : W1.cell? ⟨N, 0, none⟩ = some (.bool on) := blk_cell (f1.blk H.out.2.1 fun e => e) 0
    have zz1 : W1.cell? ⟨N, 1, none⟩ = some (.int .u8 111) := blk_cell (f1.blk H.out.2.1 fun e => e) 1
    have hilH := Lib.hid hil
    clear hc0 hgd hm hil ha hi hv ho hcell hfree hn hgl hBl hgB hvn f1 f2 k1 k2 b2 a2 r2 kn2 p2 g0 hcase hNM hmo2 hl
    go_enter Tryz.func35, Tryz.ntmps35
    go_wp2_with fail
    refine HP.out.mono ?_
    rintro e w' ⟨rfl, hw'⟩
    rw [hw']
    clear hW0 hV0 z1 y0 y1 y2 x0 x1 x2
    go_wp2_with fail
    clear e0 e1 e2 c2 s0 s1 s2 sf zz0 zz1 hN z0
    obtain ⟨e0, e1, e2, _⟩ := G.out
    have c2 : W2.cell? ⟨B, 2, none⟩ = some (.slice (some ⟨g, 0, none⟩) n c') := by rw [← HK.out.2.1]; exact blk_cell H2.out.2.2.2.2.1.1 2
    have s0 := blk_cell HK.out.1 0; have s1 := blk_cell HK.out.1 1; have s2 := blk_cell HK.out.1 2
    have heql : ∀ W, (binOp .eql 38 (.agg #[.int .i64 mi, .bool mo2, .bool mv2]) (.agg #[.int .i64 mi, .bool mo, .bool mv])).run Tryz.prog W = .ok (.bool (decide (newM (mi, mo, mv) 111 on = (mi, mo, mv)))) W := fun W => by rw [HK.out.2.2.2.2.2.1]; exact eqlM (mi, mo2, mv2) (mi, mo, mv) W
    have hgrd : ∀ x y W, (eqGuard .eql 38 x y (.agg #[.int .i64 mi, .bool mo2, .bool mv2]) (.agg #[.int .i64 mi, .bool mo, .bool mv])).run Tryz.prog W = .ok () W := fun x y W => guardM x y _ _ W
    by_cases heq : newM (mi, mo, mv) 111 on = (mi, mo, mv)
    · have hc : markX x on 111 arg id = (noT 0, x) := by rw [HC0.out, if_pos heq]
      have HC := Lib.hid hc
      rw [decide_eq_true heq] at heql
      clear hc heq
      go_quiet (fail)
      clear e0 e1 e2 c2 s0 s1 s2 heql hgrd
      obtain ⟨W5, hW5⟩ : ∃ W5, W2.drewN nq = W5 := ⟨_, rfl⟩
      rw [hW5]
      have f5 : Fr (fun _ => False) W2 W5 := by rw [← hW5]; exact Fr.of_below (below_drewN (Below.refl _ _) nq)
      have H5 := Lib.hid (And.intro (by rw [← hW5]; exact below_drewN H2.out.1 nq : RowKit.Below w.heap.size w W5) (And.intro (f5.blk H2.out.2.1 fun e => e) (And.intro (f5.blk H2.out.2.2.1 fun e => e) (And.intro (f5.blk H2.out.2.2.2.1 fun e => e) (And.intro (H2.out.2.2.2.2.1.fr f5 fun _ _ e => e) H2.out.2.2.2.2.2)))))
      clear hW5 f5
      have q0 := blk_cell H5.out.2.2.1 0; have q1 := blk_cell H5.out.2.2.1 1; have q2 := blk_cell H5.out.2.2.1 2; have g0 := blk_free H5.out.2.2.1 0; have g1 := blk_free H5.out.2.2.1 1; have g2 := blk_free H5.out.2.2.1 2
      have p0 := blk_cell H5.out.2.2.2.1 0; have p1 := blk_cell H5.out.2.2.2.1 1; have p2 := blk_cell H5.out.2.2.2.1 2
      go_wp2_with fail
      obtain ⟨b5, k5, r5, p5, a5, hN5, hlt5⟩ := H5.out
      have kk := fun j => blk_cell (set3R (x := .bool false) (y := .int .u8 0) (z := .string ⟨#[]⟩) r5) j
      refine bodyPost_ret (res_three rfl rfl (Tryz.isAgg31 _) (Tryz.sizeOf31 _) (kk 0) (kk 1) (kk 2)) rfl ⟨by rw [← HRES.out, HC.out]; rfl, ?_⟩
      rw [← HRES.out, HC.out]
      exact XW.boxedZ (Z := fun k => k = N + 1) ⟨q, a5, Fr.refl _ _, fun _ hk _ => hk⟩ b5 hlt5 (fun k e => by have := blk_lt r5; omega) set3R_fr
    · have hc : markX x on 111 arg id = (⟨on, 111, arg, 0⟩, { x with L := x.L.set i (mi, mo2, mv2) }) := by rw [HC0.out, if_neg heq, HK.out.2.2.2.2.2.1]
      have HC := Lib.hid hc
      rw [decide_eq_false heq] at heql
      clear hc heq
      go_quiet (fail)
      clear e0 e1 e2 c2 s0 s1 s2 heql hgrd
      obtain ⟨W5, hW5⟩ : ∃ W5, W2.drewN nq = W5 := ⟨_, rfl⟩
      rw [hW5]
      have f5 : Fr (fun _ => False) W2 W5 := by rw [← hW5]; exact Fr.of_below (below_drewN (Below.refl _ _) nq)
      have H5 := Lib.hid (And.intro (by rw [← hW5]; exact below_drewN H2.out.1 nq : RowKit.Below w.heap.size w W5) (And.intro (f5.blk H2.out.2.1 fun e => e) (And.intro (f5.blk H2.out.2.2.1 fun e => e) (And.intro (f5.blk H2.out.2.2.2.1 fun e => e) (And.intro (H2.out.2.2.2.2.1.fr f5 fun _ _ e => e) H2.out.2.2.2.2.2)))))
      have m5 := f5.blk HK.out.1 fun e => e
      have gg : W5.cell? ⟨g, i * 3, none⟩ = some (.int .i64 mi) ∧ W5.cell? ⟨g, i * 3 + 1, none⟩ = some (.bool mo) ∧ W5.cell? ⟨g, i * 3 + 2, none⟩ = some (.bool mv) ∧ ∀ j, j < 3 → W5.frozen? ⟨g, i * 3 + j, none⟩ = false := by rw [← hW5]; exact G.out
      have d0 : W5.drew.cell? ⟨B, 2, none⟩ = some (.slice (some ⟨g, 0, none⟩) n c') ∧ W5.drew.heap[M]? = some (.cells #[.int .i64 mi, .bool mo2, .bool mv2] 38 (0, 0)) := ⟨by rw [← HK.out.2.1]; exact blk_cell H5.out.2.2.2.2.1.1 2, m5⟩
      obtain ⟨W6, hW6⟩ : ∃ W6, W5.drew = W6 := ⟨_, rfl⟩
      have gg6 : W6.cell? ⟨g, i * 3, none⟩ = some (.int .i64 mi) ∧ W6.cell? ⟨g, i * 3 + 1, none⟩ = some (.bool mo) ∧ W6.cell? ⟨g, i * 3 + 2, none⟩ = some (.bool mv) ∧ ∀ j, j < 3 → W6.frozen? ⟨g, i * 3 + j, none⟩ = false := by rw [← hW6]; exact gg
      obtain ⟨e0, e1, e2, ef⟩ := gg6
      have ef0 : W6.frozen? ⟨g, i * 3, none⟩ = false := ef 0 (by decide)
      have ef1 := ef 1 (by decide)
      have ef2 := ef 2 (by decide)
      have f56 : Fr (fun _ => False) W5 W6 := by rw [← hW6]; exact (Fr.refl _ _).drew
      have a6 := H5.out.2.2.2.2.1.fr f56 fun _ _ e => e
      obtain ⟨W7, hW7⟩ : ∃ W7, (((W6.setCell ⟨g, i * 3, none⟩ (.int .i64 mi)).setCell ⟨g, i * 3 + 1, none⟩ (.bool mo2)).setCell ⟨g, i * 3 + 2, none⟩ (.bool mv2)) = W7 := ⟨_, rfl⟩
      have f67 : Fr (fun k => k = g) W6 W7 := by rw [← hW7]; exact Fr.setCell (Fr.setCell (Fr.setCell (Fr.refl (fun k => k = g) W6) ⟨g, i * 3, none⟩ rfl _) ⟨g, i * 3 + 1, none⟩ rfl _) ⟨g, i * 3 + 2, none⟩ rfl _
      have hNe := H5.out.2.2.2.2.2.1
      have hgl := HK.out.2.2.2.2.2.2.2
      have hgB := HK.out.2.2.1
      have ho7 : OwnM base W7 (.slice (some ⟨g, 0, none⟩) n c') (x.L.set i (mi, mo2, mv2)) := by
        have ho6 := a6.2.1
        have hvl := HK.out.2.1
        rw [hvl, ← HK.out.2.2.2.1] at ho6
        have := ownM_set3 ho6 i hilH.out (mi, mo2, mv2)
        rw [← hW7, ← HK.out.2.2.2.1]; exact this
      have h7 := f67.blk a6.1 fun e => hgB e.symm
      have a7 : RxAt base B { q with vl := .slice (some ⟨g, 0, none⟩) n c' } { x with L := x.L.set i (mi, mo2, mv2) } W7 := a6.toL ho7 (by rw [h7]; unfold rxO; rw [HK.out.2.1]) (f67.mono fun k _ e => .inr (by rw [HK.out.2.1, e]; rfl))
      have r7 := f67.blk (f56.blk H5.out.2.2.1 fun e => e) (by omega)
      have k7 := f67.blk (f56.blk H5.out.2.1 fun e => e) (by omega)
      have hx7 : XW base B q { x with L := x.L.set i (mi, mo2, mv2) } W5 W7 := by
        refine ⟨_, a7, (f56.mono (Y := RxX B q) fun _ _ e => e.elim).trans3 f67 fun k _ e => .inr (.inl (by rw [HK.out.2.1, e]; rfl)), fun k hk hlt => ?_⟩
        rcases hk with e | e | e | e
        · exact .inl e
        · exact .inr (.inl (by rw [HK.out.2.1]; exact e))
        · exact .inr (.inr (.inl e))
        · exact .inr (.inr (.inr e))
      have H7 := Lib.hid (And.intro hx7 (And.intro r7 (And.intro H5.out.1 (And.intro (blk_lt H5.out.2.2.1) H5.out.2.2.2.2.2))))
      have t0 := blk_cell r7 0; have t1 := blk_cell r7 1; have t3 := blk_cell r7 2; have u0 := blk_free r7 0; have u1 := blk_free r7 1; have u2 := blk_free r7 2
      have w0 := blk_cell k7 0; have w1 := blk_cell k7 1; have w2 := blk_cell k7 2
      clear hW5 f5 m5 gg ef f56 a6 f67 hNe hgl hgB ho7 h7 a7 r7 k7 hx7
      go_wp2_with fail
      refine wp_region_z (S := fun V => V.cell? ⟨B, 2, none⟩ = some (.slice (some ⟨g, 0, none⟩) n c') ∧ V.heap[M]? = some (.cells #[.int .i64 mi, .bool mo2, .bool mv2] 38 (0, 0))) (z := 7) (by kernel_rfl) (by exact d0) (fun hHeld => ?_)
      refine wpAnyZ_read (i := 0) (oi := { dst := some 111, op := Go.Op.move (Go.Operand.tmp 0), type := 27, pos := "ref.go:163", after := #[], guard := none }) ?_ rfl (by kernel_rfl) (by kernel_rfl) (by kernel_rfl) (by kernel_rfl) (fun _ _ _ h => h) (by rfl) (by exact hHeld) ?_ ?_
      rotate_left
      · (intro w0 hS0; have s0 := hS0.1; have s1 := blk_cell hS0.2 0; have s2 := blk_cell hS0.2 1; have s3 := blk_cell hS0.2 2; go_simp <;> (try with_reducible rfl))
      try simp only [Act.put, List.setIfInBounds_toArray, List.set_cons_zero, List.set_cons_succ]
      refine wpAnyZ_read (i := 1) (oi := { dst := some 112, op := Go.Op.nilCheck (Go.Operand.tmp 111), type := 0, pos := "ref.go:163", after := #[{ on := 0, ground := Go.Ground.data }], guard := none }) ?_ rfl (by kernel_rfl) (by kernel_rfl) (by kernel_rfl) (by kernel_rfl) (fun _ _ _ h => h) (by rfl) (by exact hHeld) ?_ ?_
      rotate_left
      · (intro w0 hS0; have s0 := hS0.1; have s1 := blk_cell hS0.2 0; have s2 := blk_cell hS0.2 1; have s3 := blk_cell hS0.2 2; go_simp <;> (try with_reducible rfl))
      try simp only [Act.put, List.setIfInBounds_toArray, List.set_cons_zero, List.set_cons_succ]
      refine wpAnyZ_read (i := 2) (oi := { dst := some 113, op := Go.Op.fieldAddr 46 (Go.Operand.tmp 112) 2, type := 0, pos := "ref.go:163", after := #[{ on := 1, ground := Go.Ground.data }], guard := none }) ?_ rfl (by kernel_rfl) (by kernel_rfl) (by kernel_rfl) (by kernel_rfl) (fun _ _ _ h => h) (by rfl) (by exact hHeld) ?_ ?_
      rotate_left
      · (intro w0 hS0; have s0 := hS0.1; have s1 := blk_cell hS0.2 0; have s2 := blk_cell hS0.2 1; have s3 := blk_cell hS0.2 2; go_simp <;> (try with_reducible rfl))
      try simp only [Act.put, List.setIfInBounds_toArray, List.set_cons_zero, List.set_cons_succ]
      refine wpAnyZ_read (i := 4) (oi := { dst := some 115, op := Go.Op.move (Go.Operand.tmp 11), type := 3, pos := "ref.go:163", after := #[], guard := none }) ?_ rfl (by kernel_rfl) (by kernel_rfl) (by kernel_rfl) (by kernel_rfl) (fun _ _ _ h => h) (by rfl) (by exact hHeld) ?_ ?_
      rotate_left
      · (intro w0 hS0; have s0 := hS0.1; have s1 := blk_cell hS0.2 0; have s2 := blk_cell hS0.2 1; have s3 := blk_cell hS0.2 2; go_simp <;> (try with_reducible rfl))
      try simp only [Act.put, List.setIfInBounds_toArray, List.set_cons_zero, List.set_cons_succ]
      refine wpAnyZ_read (i := 3) (oi := { dst := some 114, op := Go.Op.load 43 (Go.Operand.tmp 113), type := 43, pos := "ref.go:163", after := #[{ on := 2, ground := Go.Ground.data }], guard := none }) ?_ rfl (by kernel_rfl) (by kernel_rfl) (by kernel_rfl) (by kernel_rfl) (fun _ _ _ h => h) (by rfl) (by exact hHeld) ?_ ?_
      rotate_left
      · (intro w0 hS0; have s0 := hS0.1; have s1 := blk_cell hS0.2 0; have s2 := blk_cell hS0.2 1; have s3 := blk_cell hS0.2 2; go_simp <;> (try with_reducible rfl))
      try simp only [Act.put, List.setIfInBounds_toArray, List.set_cons_zero, List.set_cons_succ]
      refine wpAnyZ_read (i := 5) (oi := { dst := some 116, op := Go.Op.load 38 (Go.Operand.tmp 12), type := 38, pos := "ref.go:163", after := #[], guard := none }) ?_ rfl (by kernel_rfl) (by kernel_rfl) (by kernel_rfl) (by kernel_rfl) (fun _ _ _ h => h) (by rfl) (by exact hHeld) ?_ ?_
      rotate_left
      · (intro w0 hS0; have s0 := hS0.1; have s1 := blk_cell hS0.2 0; have s2 := blk_cell hS0.2 1; have s3 := blk_cell hS0.2 2; go_simp <;> (try with_reducible rfl))
      try simp only [Act.put, List.setIfInBounds_toArray, List.set_cons_zero, List.set_cons_succ]
      refine wpAnyZ_read (i := 6) (oi := { dst := some 117, op := Go.Op.indexAddr 43 (Go.Operand.tmp 114) (Go.Operand.tmp 115), type := 0, pos := "ref.go:163", after := #[{ on := 3, ground := Go.Ground.data }, { on := 4, ground := Go.Ground.data }, { on := 0, ground := Go.Ground.phase }, { on := 1, ground := Go.Ground.phase }, { on := 2, ground := Go.Ground.phase }, { on := 3, ground := Go.Ground.phase }, { on := 4, ground := Go.Ground.phase }, { on := 5, ground := Go.Ground.phase }], guard := none }) ?_ rfl (by kernel_rfl) (by kernel_rfl) (by kernel_rfl) (by kernel_rfl) (fun _ _ _ h => h) (by rfl) (by exact hHeld) ?_ ?_
      rotate_left
      · (intro w0 hS0; have s0 := hS0.1; have s1 := blk_cell hS0.2 0; have s2 := blk_cell hS0.2 1; have s3 := blk_cell hS0.2 2; go_simp <;> (try with_reducible rfl))
      try simp only [Act.put, List.setIfInBounds_toArray, List.set_cons_zero, List.set_cons_succ]
      refine wpAnyZ_last (o := { dst := none, op := Go.Op.store 38 (Go.Operand.tmp 117) (Go.Operand.tmp 116), type := 0, pos := "ref.go:163", after := #[{ on := 6, ground := Go.Ground.data }, { on := 5, ground := Go.Ground.data }, { on := 0, ground := Go.Ground.phase }, { on := 1, ground := Go.Ground.phase }, { on := 2, ground := Go.Ground.phase }, { on := 3, ground := Go.Ground.phase }, { on := 4, ground := Go.Ground.phase }, { on := 5, ground := Go.Ground.phase }], guard := none }) (by kernel_rfl) rfl (by rfl) (fun K hK => ?_)
      go_simp
      refine hK.out _ _ ?_
      clear hK K
      try simp only [Act.put, List.setIfInBounds_toArray, List.set_cons_zero, List.set_cons_succ]
      refine wpAnyZ_done (by kernel_rfl) ?_ _
      go_wp2_with fail
      obtain ⟨hx7, r7, b5, hl5, hN5, hlt5⟩ := H7.out
      have kk := fun j => blk_cell (set3R (x := .bool on) (y := .int .u8 111) (z := .string ab) r7) j
      refine bodyPost_ret (res_three rfl rfl (Tryz.isAgg31 _) (Tryz.sizeOf31 _) (kk 0) (kk 1) (kk 2)) rfl ⟨by rw [← HRES.out, HC.out, ← HAB.out]; rfl, ?_⟩
      rw [← HRES.out, HC.out]
      exact XW.boxedZ (Z := fun k => k = N + 1) hx7 b5 hlt5 (fun k e => by omega) set3R_fr
set_option maxRecDepth 100000 in
set_option maxHeartbeats 16000000 in
theorem refChange_M118 {base B : Nat} {q : RxV} {x : Rx} {w : World} (h : RxAt base B q x w) (on : Bool) (arg : List UInt8) (id : Int) (hl : x.L.length ≤ 100000) :
    Calls Tryz.prog 35 #[.pointer (some ⟨B, 0, none⟩), chgV on 118 arg, .int .i64 id] w fun e w' => e = .returned (markX x on 118 arg id).1.val ∧ XW base B q (markX x on 118 arg id).2 w w' := by
  obtain ⟨N, hN⟩ : ∃ N, w.heap.size = N := ⟨_, rfl⟩
  obtain ⟨ab, hab⟩ : ∃ ab, bs arg = ab := ⟨_, rfl⟩
  have hcv : chgV on 118 arg = .agg #[.bool on, .int .u8 118, .string ab] := by rw [← hab]; rfl
  rw [hcv]
  obtain ⟨res, hres⟩ : ∃ res, markX x on 118 arg id = res := ⟨_, rfl⟩
  rw [hres]
  obtain ⟨V0, hV0⟩ : ∃ V0, (((w.alloc (.cells #[.bool on, .int .u8 118, .string ab] 31)).alloc (.cells #[.bool false, .int .u8 0, .string ⟨#[]⟩] 31)).alloc (.cells #[.bool false, .int .u8 0, .string ⟨#[]⟩] 31)) = V0 := ⟨_, rfl⟩
  have b0 : RowKit.Below w.heap.size w V0 := by rw [← hV0]; exact (((Below.refl _ w).alloc (Nat.le_refl _) _).alloc (by simp) _).alloc (by simp; omega) _
  have k0 : V0.heap[N]? = some (.cells #[.bool on, .int .u8 118, .string ab] 31 (0, 0)) := by rw [← hV0, ← hN]; exact blk_alloc (blk_alloc (heap_alloc_new w _) _) _
  have k1 : V0.heap[N + 1]? = some (.cells #[.bool false, .int .u8 0, .string ⟨#[]⟩] 31 (0, 0)) := by rw [← hV0, ← hN]; exact blk_alloc (heap_alloc2_new w _ _) _
  have k2 : V0.heap[N + 1 + 1]? = some (.cells #[.bool false, .int .u8 0, .string ⟨#[]⟩] 31 (0, 0)) := by
    rw [← hV0, ← hN]
    have := heap_alloc2_new (w.alloc (.cells #[.bool on, .int .u8 118, .string ab] 31)) (.cells #[.bool false, .int .u8 0, .string ⟨#[]⟩] 31) (.cells #[.bool false, .int .u8 0, .string ⟨#[]⟩] 31)
    rwa [World.size_alloc] at this
  have y0 := blk_cell k2 0; have y1 := blk_cell k2 1; have y2 := blk_cell k2 2; have x0 := blk_free k2 0; have x1 := blk_free k2 1; have x2 := blk_free k2 2
  obtain ⟨W0, hW0⟩ : ∃ W0, (((V0.setCell ⟨N + 1 + 1, 0, none⟩ (.bool false)).setCell ⟨N + 1 + 1, 1, none⟩ (.int .u8 0)).setCell ⟨N + 1 + 1, 2, none⟩ (.string ⟨#[]⟩)) = W0 := ⟨_, rfl⟩
  have fV : Fr (fun k => k = N + 1 + 1) V0 W0 := by rw [← hW0]; exact set3R_fr
  have b0 : RowKit.Below w.heap.size w W0 := b0.trans (fV.below (B := w.heap.size) b0.size fun k hk e => by omega)
  have k0 := fV.blk k0 (by omega)
  have k1 := fV.blk k1 (by omega)
  have k2 : W0.heap[N + 1 + 1]? = some (.cells #[.bool false, .int .u8 0, .string ⟨#[]⟩] 31 (0, 0)) := by rw [← hW0]; exact set3R k2
  clear fV
  have h0 := h.below b0
  have hlt : ∀ k, RxX B q k → k < w.heap.size := fun k hk => (h.lt k hk).2
  have HRES := Lib.hid hres
  have HAB := Lib.hid hab
  have H := Lib.hid (And.intro b0 (And.intro k0 (And.intro k1 (And.intro k2 (And.intro h0 (And.intro hN hlt))))))
  have HW := Lib.hid hW0
  have HP := Lib.hid (refAt_any h0 id (by omega))
  have z0 := blk_cell k0 0; have z1 := blk_cell k0 1
  clear h h0 k0 k1 k2 hlt hres hab hcv
  by_cases ha : atM x.L id < 0
  · have hc : markX x on 118 arg id = (noT 441, x) := by unfold markX; rw [if_pos ha]
    have HC := Lib.hid hc
    obtain ⟨a, haa⟩ : ∃ a, atM x.L id = a := ⟨_, rfl⟩
    rw [haa] at HP ha
    clear hc haa
    go_enter Tryz.func35, Tryz.ntmps35
    go_wp2_with fail
    refine HP.out.mono ?_
    rintro e w' ⟨rfl, hw'⟩
    rw [hw']
    clear hW0 hV0 hN z0 z1 y0 y1 y2 x0 x1 x2
    have q0 := blk_cell H.out.2.2.1 0; have q1 := blk_cell H.out.2.2.1 1; have q2 := blk_cell H.out.2.2.1 2; have g0 := blk_free H.out.2.2.1 0; have g1 := blk_free H.out.2.2.1 1; have g2 := blk_free H.out.2.2.1 2
    have p0 := blk_cell H.out.2.2.2.1 0; have p1 := blk_cell H.out.2.2.2.1 1; have p2 := blk_cell H.out.2.2.2.1 2
    go_wp2_with fail
    obtain ⟨b5, k5, r5, p5, a5, hN5, hlt5⟩ := H.out
    have kk := fun j => blk_cell (set3R (x := .bool false) (y := .int .u8 0) (z := .string ⟨#[]⟩) r5) j
    refine bodyPost_ret (res_three rfl rfl (Tryz.isAgg31 _) (Tryz.sizeOf31 _) (kk 0) (kk 1) (kk 2)) rfl ⟨by rw [← HRES.out, HC.out]; rfl, ?_⟩
    rw [← HRES.out, HC.out]
    exact XW.boxedZ (Z := fun k => k = N + 1) ⟨q, a5, Fr.refl _ _, fun _ hk _ => hk⟩ b5 hlt5 (fun k e => by have := blk_lt r5; omega) set3R_fr
  · obtain ⟨i, hi⟩ : ∃ i : Nat, atM x.L id = i := ⟨(atM x.L id).toNat, by omega⟩
    have hil := (atM_yes hi).1
    obtain ⟨m, hm⟩ : ∃ m, x.L[i] = m := ⟨_, rfl⟩
    have hgd : x.L.getD i default = m := by rw [List.getD_eq_getElem?_getD, List.getElem?_eq_getElem hil, ← hm]; rfl
    have hc0 : markX x on 118 arg id = if newM m 118 on = m then (noT 0, x) else (⟨on, 118, arg, 0⟩, { x with L := x.L.set i (newM m 118 on) }) := by
      unfold markX; rw [if_neg ha, hi]; simp only [Int.toNat_natCast]; rw [hgd]
    rw [hi] at HP
    obtain ⟨A, c', hv⟩ := ownM_slice H.out.2.2.2.2.1.2.1
    have ho := H.out.2.2.2.2.1.2.1
    rw [hv] at ho
    obtain ⟨g, rfl⟩ : ∃ g, A = some ⟨g, 0, none⟩ := by
      rcases ho.2 with ⟨h2, h3⟩ | ⟨g', cap', cur, h2, _⟩
      · omega
      · injection h2 with e1 _ _; exact ⟨g', e1⟩
    have hcell : ∀ j, j < 3 → W0.cell? ⟨g, i * 3 + j, none⟩ = (encM m)[j]? := fun j hj => by
      have h1 := World.ownsRow.cellAt ho (i * 3 + j) (by omega)
      rw [h1, ← hm]
      have h2 : x.L.flatMap encM = (x.L.flatMap encM).take (i * 3) ++ (x.L.flatMap encM).drop (i * 3) := (List.take_append_drop _ _).symm
      rw [h2, List.getElem?_append_right (by rw [List.length_take, flat3]; omega), List.length_take, flat3, flat_drop, List.drop_eq_getElem_cons hil, List.flatMap_cons, List.getElem?_append_left (by show _ < 3; omega)]
      congr 1; omega
    have hfree : ∀ j, j < 3 → W0.frozen? ⟨g, i * 3 + j, none⟩ = false := fun j hj => (row_spare ho _ (by
      have : x.L.length ≤ c' := by
        rcases ho.2 with ⟨h2, _⟩ | ⟨g', cap', cur, h2, _, _, h5, _⟩
        · cases h2
        · injection h2 with _ _ e3; subst e3; exact h5
      omega)).2
    obtain ⟨n, hn⟩ : ∃ n, x.L.length = n := ⟨_, rfl⟩
    have hin : i < n := by omega
    have hn6 : n ≤ 1000000 := by omega
    have hgl : g < w.heap.size := H.out.2.2.2.2.2.2 g (.inr (.inl (by rw [hv]; rfl)))
    have hBl : B < w.heap.size := H.out.2.2.2.2.2.2 B (.inl rfl)
    have hgB : g ≠ B := fun e => H.out.2.2.2.2.1.apart.1.1 (by rw [hv, e]; rfl)
    have hvn : q.vl = .slice (some ⟨g, 0, none⟩) n c' := by rw [← hn]; exact hv
    have c2 : W0.cell? ⟨B, 2, none⟩ = some (.slice (some ⟨g, 0, none⟩) n c') := by rw [← hvn]; exact blk_cell H.out.2.2.2.2.1.1 2
    obtain ⟨mi, mo, mv⟩ := m
    have e0 : W0.cell? ⟨g, i * 3, none⟩ = some (.int .i64 mi) := hcell 0 (by decide)
    have e1 : W0.cell? ⟨g, i * 3 + 1, none⟩ = some (.bool mo) := hcell 1 (by decide)
    have e2 : W0.cell? ⟨g, i * 3 + 2, none⟩ = some (.bool mv) := hcell 2 (by decide)
    have hp1 : ¬ ((i : Int) < 0) := by omega
    have hp2 : (i : Int) < n := by omega
    obtain ⟨M, hM⟩ : ∃ M, W0.heap.size = M := ⟨_, rfl⟩
    obtain ⟨W1, hW1⟩ : ∃ W1, W0.alloc (.cells #[.int .i64 mi, .bool mo, .bool mv] 38) = W1 := ⟨_, rfl⟩
    have f1 : Fr (fun _ => False) W0 W1 := by rw [← hW1]; exact (Fr.refl _ _).alloc _
    have k1 : W1.heap[M]? = some (.cells #[.int .i64 mi, .bool mo, .bool mv] 38 (0, 0)) := by rw [← hW1, ← hM]; exact heap_alloc_new W0 _
    obtain ⟨mo2, mv2, hmo2⟩ : ∃ mo2 mv2, newM (mi, mo, mv) 118 on = (mi, mo2, mv2) := by unfold newM; split <;> exact ⟨_, _, rfl⟩
    have hcase : mo2 = mo ∧ mv2 = on := by
      have : newM (mi, mo, mv) 118 on = (mi, mo, on) := rfl
      rw [this] at hmo2; injection hmo2 with _ e; injection e with e1 e2; exact ⟨e1.symm, e2.symm⟩
    obtain ⟨W2, hW2⟩ : ∃ W2, W1.setCell ⟨M, 2, none⟩ (.bool on) = W2 := ⟨_, rfl⟩
    have f2 : Fr (fun k => k = M) W1 W2 := by rw [← hW2]; exact Fr.setCell (X := fun k => k = M) (Fr.refl _ W1) ⟨M, 2, none⟩ rfl _
    have k2 : W2.heap[M]? = some (.cells #[.int .i64 mi, .bool mo2, .bool mv2] 38 (0, 0)) := by rw [← hW2, hcase.1, hcase.2]; exact blk_set k1 2 _
    have b2 : RowKit.Below w.heap.size w W2 := by
      have hz := H.out.1.size
      exact (H.out.1.trans ((f1.below (B := w.heap.size) hz fun k hk e => e.elim))).trans (f2.below (B := w.heap.size) (Nat.le_trans hz f1.size) fun k hk e => by omega)
    have a2 : RxAt base B q x W2 := (H.out.2.2.2.2.1.fr f1 fun _ _ e => e).fr f2 fun k hk e => by have := H.out.2.2.2.2.2.2 k hk; have := H.out.1.size; omega
    have hNM : N < M ∧ N + 1 < M ∧ N + 1 + 1 < M := by have := blk_lt H.out.2.2.2.1; omega
    have r2 := f2.blk (f1.blk H.out.2.2.1 fun e => e) (by omega)
    have kn2 := f2.blk (f1.blk H.out.2.1 fun e => e) (by omega)
    have p2 := f2.blk (f1.blk H.out.2.2.2.1 fun e => e) (by omega)
    have H2 := Lib.hid (And.intro b2 (And.intro kn2 (And.intro r2 (And.intro p2 (And.intro a2 H.out.2.2.2.2.2)))))
    have g0 : ∀ {V : World}, Fr (fun k => k = M) W1 V → V.cell? ⟨g, i * 3, none⟩ = some (.int .i64 mi) ∧ V.cell? ⟨g, i * 3 + 1, none⟩ = some (.bool mo) ∧ V.cell? ⟨g, i * 3 + 2, none⟩ = some (.bool mv) ∧ ∀ j, j < 3 → V.frozen? ⟨g, i * 3 + j, none⟩ = false := fun {V} hf => by
      have hb := (hf.block g (Nat.lt_of_lt_of_le (Nat.lt_of_lt_of_le hgl H.out.1.size) f1.size) (by have := H.out.1.size; omega)).trans (f1.block g (Nat.lt_of_lt_of_le hgl H.out.1.size) fun e => e)
      exact ⟨(World.cell?_of_block (w := W0) (w' := V) (a := ⟨g, i * 3, none⟩) hb).trans e0, (World.cell?_of_block (w := W0) (w' := V) (a := ⟨g, i * 3 + 1, none⟩) hb).trans e1, (World.cell?_of_block (w := W0) (w' := V) (a := ⟨g, i * 3 + 2, none⟩) hb).trans e2, fun j hj => by
        have := hfree j hj
        simp only [World.frozen?] at this ⊢
        rw [hb]; exact this⟩
    have G := Lib.hid (g0 f2)
    have HK := Lib.hid (And.intro k2 (And.intro hvn (And.intro hgB (And.intro hn (And.intro hgd (And.intro hmo2 (And.intro hNM hgl)))))))
    have HC0 := Lib.hid hc0
    have s0 := blk_cell k1 0; have s1 := blk_cell k1 1; have s2 := blk_cell k1 2; have sf := blk_free k1 2
    have zz0 : W1.cell? ⟨N, 0, none⟩ = some (.bool on) := blk_cell (f1.blk H.out.2.1 fun e => e) 0
    have zz1 : W1.cell? ⟨N, 1, none⟩ = some (.int .u8 118) := blk_cell (f1.blk H.out.2.1 fun e => e) 1
    have hilH := Lib.hid hil
    clear hc0 hgd hm hil ha hi hv ho hcell hfree hn hgl hBl hgB hvn f1 f2 k1 k2 b2 a2 r2 kn2 p2 g0 hcase hNM hmo2 hl
    go_enter Tryz.func35, Tryz.ntmps35
    go_wp2_with fail
    refine HP.out.mono ?_
    rintro e w' ⟨rfl, hw'⟩
    rw [hw']
    clear hW0 hV0 z1 y0 y1 y2 x0 x1 x2
    go_wp2_with fail
    clear e0 e1 e2 c2 s0 s1 s2 sf zz0 zz1 hN z0
    obtain ⟨e0, e1, e2, _⟩ := G.out
    have c2 : W2.cell? ⟨B, 2, none⟩ = some (.slice (some ⟨g, 0, none⟩) n c') := by rw [← HK.out.2.1]; exact blk_cell H2.out.2.2.2.2.1.1 2
    have s0 := blk_cell HK.out.1 0; have s1 := blk_cell HK.out.1 1; have s2 := blk_cell HK.out.1 2
    have heql : ∀ W, (binOp .eql 38 (.agg #[.int .i64 mi, .bool mo2, .bool mv2]) (.agg #[.int .i64 mi, .bool mo, .bool mv])).run Tryz.prog W = .ok (.bool (decide (newM (mi, mo, mv) 118 on = (mi, mo, mv)))) W := fun W => by rw [HK.out.2.2.2.2.2.1]; exact eqlM (mi, mo2, mv2) (mi, mo, mv) W
    have hgrd : ∀ x y W, (eqGuard .eql 38 x y (.agg #[.int .i64 mi, .bool mo2, .bool mv2]) (.agg #[.int .i64 mi, .bool mo, .bool mv])).run Tryz.prog W = .ok () W := fun x y W => guardM x y _ _ W
    by_cases heq : newM (mi, mo, mv) 118 on = (mi, mo, mv)
    · have hc : markX x on 118 arg id = (noT 0, x) := by rw [HC0.out, if_pos heq]
      have HC := Lib.hid hc
      rw [decide_eq_true heq] at heql
      clear hc heq
      go_quiet (fail)
      clear e0 e1 e2 c2 s0 s1 s2 heql hgrd
      obtain ⟨W5, hW5⟩ : ∃ W5, W2.drewN nq = W5 := ⟨_, rfl⟩
      rw [hW5]
      have f5 : Fr (fun _ => False) W2 W5 := by rw [← hW5]; exact Fr.of_below (below_drewN (Below.refl _ _) nq)
      have H5 := Lib.hid (And.intro (by rw [← hW5]; exact below_drewN H2.out.1 nq : RowKit.Below w.heap.size w W5) (And.intro (f5.blk H2.out.2.1 fun e => e) (And.intro (f5.blk H2.out.2.2.1 fun e => e) (And.intro (f5.blk H2.out.2.2.2.1 fun e => e) (And.intro (H2.out.2.2.2.2.1.fr f5 fun _ _ e => e) H2.out.2.2.2.2.2)))))
      clear hW5 f5
      have q0 := blk_cell H5.out.2.2.1 0; have q1 := blk_cell H5.out.2.2.1 1; have q2 := blk_cell H5.out.2.2.1 2; have g0 := blk_free H5.out.2.2.1 0; have g1 := blk_free H5.out.2.2.1 1; have g2 := blk_free H5.out.2.2.1 2
      have p0 := blk_cell H5.out.2.2.2.1 0; have p1 := blk_cell H5.out.2.2.2.1 1; have p2 := blk_cell H5.out.2.2.2.1 2
      go_wp2_with fail
      obtain ⟨b5, k5, r5, p5, a5, hN5, hlt5⟩ := H5.out
      have kk := fun j => blk_cell (set3R (x := .bool false) (y := .int .u8 0) (z := .string ⟨#[]⟩) r5) j
      refine bodyPost_ret (res_three rfl rfl (Tryz.isAgg31 _) (Tryz.sizeOf31 _) (kk 0) (kk 1) (kk 2)) rfl ⟨by rw [← HRES.out, HC.out]; rfl, ?_⟩
      rw [← HRES.out, HC.out]
      exact XW.boxedZ (Z := fun k => k = N + 1) ⟨q, a5, Fr.refl _ _, fun _ hk _ => hk⟩ b5 hlt5 (fun k e => by have := blk_lt r5; omega) set3R_fr
    · have hc : markX x on 118 arg id = (⟨on, 118, arg, 0⟩, { x with L := x.L.set i (mi, mo2, mv2) }) := by rw [HC0.out, if_neg heq, HK.out.2.2.2.2.2.1]
      have HC := Lib.hid hc
      rw [decide_eq_false heq] at heql
      clear hc heq
      go_quiet (fail)
      clear e0 e1 e2 c2 s0 s1 s2 heql hgrd
      obtain ⟨W5, hW5⟩ : ∃ W5, W2.drewN nq = W5 := ⟨_, rfl⟩
      rw [hW5]
      have f5 : Fr (fun _ => False) W2 W5 := by rw [← hW5]; exact Fr.of_below (below_drewN (Below.refl _ _) nq)
      have H5 := Lib.hid (And.intro (by rw [← hW5]; exact below_drewN H2.out.1 nq : RowKit.Below w.heap.size w W5) (And.intro (f5.blk H2.out.2.1 fun e => e) (And.intro (f5.blk H2.out.2.2.1 fun e => e) (And.intro (f5.blk H2.out.2.2.2.1 fun e => e) (And.intro (H2.out.2.2.2.2.1.fr f5 fun _ _ e => e) H2.out.2.2.2.2.2)))))
      have m5 := f5.blk HK.out.1 fun e => e
      have gg : W5.cell? ⟨g, i * 3, none⟩ = some (.int .i64 mi) ∧ W5.cell? ⟨g, i * 3 + 1, none⟩ = some (.bool mo) ∧ W5.cell? ⟨g, i * 3 + 2, none⟩ = some (.bool mv) ∧ ∀ j, j < 3 → W5.frozen? ⟨g, i * 3 + j, none⟩ = false := by rw [← hW5]; exact G.out
      have d0 : W5.drew.cell? ⟨B, 2, none⟩ = some (.slice (some ⟨g, 0, none⟩) n c') ∧ W5.drew.heap[M]? = some (.cells #[.int .i64 mi, .bool mo2, .bool mv2] 38 (0, 0)) := ⟨by rw [← HK.out.2.1]; exact blk_cell H5.out.2.2.2.2.1.1 2, m5⟩
      obtain ⟨W6, hW6⟩ : ∃ W6, W5.drew = W6 := ⟨_, rfl⟩
      have gg6 : W6.cell? ⟨g, i * 3, none⟩ = some (.int .i64 mi) ∧ W6.cell? ⟨g, i * 3 + 1, none⟩ = some (.bool mo) ∧ W6.cell? ⟨g, i * 3 + 2, none⟩ = some (.bool mv) ∧ ∀ j, j < 3 → W6.frozen? ⟨g, i * 3 + j, none⟩ = false := by rw [← hW6]; exact gg
      obtain ⟨e0, e1, e2, ef⟩ := gg6
      have ef0 : W6.frozen? ⟨g, i * 3, none⟩ = false := ef 0 (by decide)
      have ef1 := ef 1 (by decide)
      have ef2 := ef 2 (by decide)
      have f56 : Fr (fun _ => False) W5 W6 := by rw [← hW6]; exact (Fr.refl _ _).drew
      have a6 := H5.out.2.2.2.2.1.fr f56 fun _ _ e => e
      obtain ⟨W7, hW7⟩ : ∃ W7, (((W6.setCell ⟨g, i * 3, none⟩ (.int .i64 mi)).setCell ⟨g, i * 3 + 1, none⟩ (.bool mo2)).setCell ⟨g, i * 3 + 2, none⟩ (.bool mv2)) = W7 := ⟨_, rfl⟩
      have f67 : Fr (fun k => k = g) W6 W7 := by rw [← hW7]; exact Fr.setCell (Fr.setCell (Fr.setCell (Fr.refl (fun k => k = g) W6) ⟨g, i * 3, none⟩ rfl _) ⟨g, i * 3 + 1, none⟩ rfl _) ⟨g, i * 3 + 2, none⟩ rfl _
      have hNe := H5.out.2.2.2.2.2.1
      have hgl := HK.out.2.2.2.2.2.2.2
      have hgB := HK.out.2.2.1
      have ho7 : OwnM base W7 (.slice (some ⟨g, 0, none⟩) n c') (x.L.set i (mi, mo2, mv2)) := by
        have ho6 := a6.2.1
        have hvl := HK.out.2.1
        rw [hvl, ← HK.out.2.2.2.1] at ho6
        have := ownM_set3 ho6 i hilH.out (mi, mo2, mv2)
        rw [← hW7, ← HK.out.2.2.2.1]; exact this
      have h7 := f67.blk a6.1 fun e => hgB e.symm
      have a7 : RxAt base B { q with vl := .slice (some ⟨g, 0, none⟩) n c' } { x with L := x.L.set i (mi, mo2, mv2) } W7 := a6.toL ho7 (by rw [h7]; unfold rxO; rw [HK.out.2.1]) (f67.mono fun k _ e => .inr (by rw [HK.out.2.1, e]; rfl))
      have r7 := f67.blk (f56.blk H5.out.2.2.1 fun e => e) (by omega)
      have k7 := f67.blk (f56.blk H5.out.2.1 fun e => e) (by omega)
      have hx7 : XW base B q { x with L := x.L.set i (mi, mo2, mv2) } W5 W7 := by
        refine ⟨_, a7, (f56.mono (Y := RxX B q) fun _ _ e => e.elim).trans3 f67 fun k _ e => .inr (.inl (by rw [HK.out.2.1, e]; rfl)), fun k hk hlt => ?_⟩
        rcases hk with e | e | e | e
        · exact .inl e
        · exact .inr (.inl (by rw [HK.out.2.1]; exact e))
        · exact .inr (.inr (.inl e))
        · exact .inr (.inr (.inr e))
      have H7 := Lib.hid (And.intro hx7 (And.intro r7 (And.intro H5.out.1 (And.intro (blk_lt H5.out.2.2.1) H5.out.2.2.2.2.2))))
      have t0 := blk_cell r7 0; have t1 := blk_cell r7 1; have t3 := blk_cell r7 2; have u0 := blk_free r7 0; have u1 := blk_free r7 1; have u2 := blk_free r7 2
      have w0 := blk_cell k7 0; have w1 := blk_cell k7 1; have w2 := blk_cell k7 2
      clear hW5 f5 m5 gg ef f56 a6 f67 hNe hgl hgB ho7 h7 a7 r7 k7 hx7
      go_wp2_with fail
      refine wp_region_z (S := fun V => V.cell? ⟨B, 2, none⟩ = some (.slice (some ⟨g, 0, none⟩) n c') ∧ V.heap[M]? = some (.cells #[.int .i64 mi, .bool mo2, .bool mv2] 38 (0, 0))) (z := 7) (by kernel_rfl) (by exact d0) (fun hHeld => ?_)
      refine wpAnyZ_read (i := 0) (oi := { dst := some 111, op := Go.Op.move (Go.Operand.tmp 0), type := 27, pos := "ref.go:163", after := #[], guard := none }) ?_ rfl (by kernel_rfl) (by kernel_rfl) (by kernel_rfl) (by kernel_rfl) (fun _ _ _ h => h) (by rfl) (by exact hHeld) ?_ ?_
      rotate_left
      · (intro w0 hS0; have s0 := hS0.1; have s1 := blk_cell hS0.2 0; have s2 := blk_cell hS0.2 1; have s3 := blk_cell hS0.2 2; go_simp <;> (try with_reducible rfl))
      try simp only [Act.put, List.setIfInBounds_toArray, List.set_cons_zero, List.set_cons_succ]
      refine wpAnyZ_read (i := 1) (oi := { dst := some 112, op := Go.Op.nilCheck (Go.Operand.tmp 111), type := 0, pos := "ref.go:163", after := #[{ on := 0, ground := Go.Ground.data }], guard := none }) ?_ rfl (by kernel_rfl) (by kernel_rfl) (by kernel_rfl) (by kernel_rfl) (fun _ _ _ h => h) (by rfl) (by exact hHeld) ?_ ?_
      rotate_left
      · (intro w0 hS0; have s0 := hS0.1; have s1 := blk_cell hS0.2 0; have s2 := blk_cell hS0.2 1; have s3 := blk_cell hS0.2 2; go_simp <;> (try with_reducible rfl))
      try simp only [Act.put, List.setIfInBounds_toArray, List.set_cons_zero, List.set_cons_succ]
      refine wpAnyZ_read (i := 2) (oi := { dst := some 113, op := Go.Op.fieldAddr 46 (Go.Operand.tmp 112) 2, type := 0, pos := "ref.go:163", after := #[{ on := 1, ground := Go.Ground.data }], guard := none }) ?_ rfl (by kernel_rfl) (by kernel_rfl) (by kernel_rfl) (by kernel_rfl) (fun _ _ _ h => h) (by rfl) (by exact hHeld) ?_ ?_
      rotate_left
      · (intro w0 hS0; have s0 := hS0.1; have s1 := blk_cell hS0.2 0; have s2 := blk_cell hS0.2 1; have s3 := blk_cell hS0.2 2; go_simp <;> (try with_reducible rfl))
      try simp only [Act.put, List.setIfInBounds_toArray, List.set_cons_zero, List.set_cons_succ]
      refine wpAnyZ_read (i := 4) (oi := { dst := some 115, op := Go.Op.move (Go.Operand.tmp 11), type := 3, pos := "ref.go:163", after := #[], guard := none }) ?_ rfl (by kernel_rfl) (by kernel_rfl) (by kernel_rfl) (by kernel_rfl) (fun _ _ _ h => h) (by rfl) (by exact hHeld) ?_ ?_
      rotate_left
      · (intro w0 hS0; have s0 := hS0.1; have s1 := blk_cell hS0.2 0; have s2 := blk_cell hS0.2 1; have s3 := blk_cell hS0.2 2; go_simp <;> (try with_reducible rfl))
      try simp only [Act.put, List.setIfInBounds_toArray, List.set_cons_zero, List.set_cons_succ]
      refine wpAnyZ_read (i := 3) (oi := { dst := some 114, op := Go.Op.load 43 (Go.Operand.tmp 113), type := 43, pos := "ref.go:163", after := #[{ on := 2, ground := Go.Ground.data }], guard := none }) ?_ rfl (by kernel_rfl) (by kernel_rfl) (by kernel_rfl) (by kernel_rfl) (fun _ _ _ h => h) (by rfl) (by exact hHeld) ?_ ?_
      rotate_left
      · (intro w0 hS0; have s0 := hS0.1; have s1 := blk_cell hS0.2 0; have s2 := blk_cell hS0.2 1; have s3 := blk_cell hS0.2 2; go_simp <;> (try with_reducible rfl))
      try simp only [Act.put, List.setIfInBounds_toArray, List.set_cons_zero, List.set_cons_succ]
      refine wpAnyZ_read (i := 5) (oi := { dst := some 116, op := Go.Op.load 38 (Go.Operand.tmp 12), type := 38, pos := "ref.go:163", after := #[], guard := none }) ?_ rfl (by kernel_rfl) (by kernel_rfl) (by kernel_rfl) (by kernel_rfl) (fun _ _ _ h => h) (by rfl) (by exact hHeld) ?_ ?_
      rotate_left
      · (intro w0 hS0; have s0 := hS0.1; have s1 := blk_cell hS0.2 0; have s2 := blk_cell hS0.2 1; have s3 := blk_cell hS0.2 2; go_simp <;> (try with_reducible rfl))
      try simp only [Act.put, List.setIfInBounds_toArray, List.set_cons_zero, List.set_cons_succ]
      refine wpAnyZ_read (i := 6) (oi := { dst := some 117, op := Go.Op.indexAddr 43 (Go.Operand.tmp 114) (Go.Operand.tmp 115), type := 0, pos := "ref.go:163", after := #[{ on := 3, ground := Go.Ground.data }, { on := 4, ground := Go.Ground.data }, { on := 0, ground := Go.Ground.phase }, { on := 1, ground := Go.Ground.phase }, { on := 2, ground := Go.Ground.phase }, { on := 3, ground := Go.Ground.phase }, { on := 4, ground := Go.Ground.phase }, { on := 5, ground := Go.Ground.phase }], guard := none }) ?_ rfl (by kernel_rfl) (by kernel_rfl) (by kernel_rfl) (by kernel_rfl) (fun _ _ _ h => h) (by rfl) (by exact hHeld) ?_ ?_
      rotate_left
      · (intro w0 hS0; have s0 := hS0.1; have s1 := blk_cell hS0.2 0; have s2 := blk_cell hS0.2 1; have s3 := blk_cell hS0.2 2; go_simp <;> (try with_reducible rfl))
      try simp only [Act.put, List.setIfInBounds_toArray, List.set_cons_zero, List.set_cons_succ]
      refine wpAnyZ_last (o := { dst := none, op := Go.Op.store 38 (Go.Operand.tmp 117) (Go.Operand.tmp 116), type := 0, pos := "ref.go:163", after := #[{ on := 6, ground := Go.Ground.data }, { on := 5, ground := Go.Ground.data }, { on := 0, ground := Go.Ground.phase }, { on := 1, ground := Go.Ground.phase }, { on := 2, ground := Go.Ground.phase }, { on := 3, ground := Go.Ground.phase }, { on := 4, ground := Go.Ground.phase }, { on := 5, ground := Go.Ground.phase }], guard := none }) (by kernel_rfl) rfl (by rfl) (fun K hK => ?_)
      go_simp
      refine hK.out _ _ ?_
      clear hK K
      try simp only [Act.put, List.setIfInBounds_toArray, List.set_cons_zero, List.set_cons_succ]
      refine wpAnyZ_done (by kernel_rfl) ?_ _
      go_wp2_with fail
      obtain ⟨hx7, r7, b5, hl5, hN5, hlt5⟩ := H7.out
      have kk := fun j => blk_cell (set3R (x := .bool on) (y := .int .u8 118) (z := .string ab) r7) j
      refine bodyPost_ret (res_three rfl rfl (Tryz.isAgg31 _) (Tryz.sizeOf31 _) (kk 0) (kk 1) (kk 2)) rfl ⟨by rw [← HRES.out, HC.out, ← HAB.out]; rfl, ?_⟩
      rw [← HRES.out, HC.out]
      exact XW.boxedZ (Z := fun k => k = N + 1) hx7 b5 hlt5 (fun k e => by omega) set3R_fr
end Go.Proofs.YtmgnhbihfgpccaaGreatDoor
end
