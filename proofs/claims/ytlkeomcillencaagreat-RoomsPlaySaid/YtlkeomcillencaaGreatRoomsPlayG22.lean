/- Texts of this proof, one behind the other. -/
import Derived.Test.YtlkeomcillencaaGreatRoomsPlayG21
set_option linter.unusedVariables false
set_option linter.unusedSimpArgs false
section
/- Layer 20: the document's Of, of all. -/
namespace Go.Proofs.YtlkeomcillencaaGreat
open Go Go.RowKit Go.Maps Go.Sort Go.Shelf Go.Lib

def allD (_ : RdE) : Bool := true
set_option maxRecDepth 100000 in
set_option maxHeartbeats 16000000 in
theorem refOf_all {base : Nat} {w : World} {R : Nat} {v : Value} {C : Nat → Tag} {mr mj mb : Int} {E : List RdE} (h : RdPh base w R v C mr mj mb E) {n : Nat} (hl : RdLg n E) (hn : n ≤ 1000) (id : Int) :
    Calls Tryz.prog 22 #[.pointer (some ⟨R, 0, none⟩), .int .i64 id, .bool true] w (RefOfP E allD w) := by
  obtain ⟨A, c, hv⟩ : ∃ A c, v = .slice A E.length c := by
    obtain ⟨A, c, hv⟩ := row_slice h.row
    rw [List.length_map] at hv
    exact ⟨A, c, hv⟩
  have hlen : E.length ≤ 1000 := Nat.le_trans hl.elen hn
  have HS := Lib.hid (fun W (hW : Fr (fun _ => False) w W) => (show W.cell? ⟨R, 3, none⟩ = some (.slice A E.length c) from by rw [← hv]; exact blk_cell (hW.blk h.self fun e => e) 3))
  have H0 : Hid (OfR w E allD 0 [] (.slice none 0 0) w) := Lib.hid ⟨Fr.refl _ _, ownPd_nil _ _, by simp, List.Pairwise.nil, fun _ => rfl⟩
  have H := Lib.hid (And.intro h (And.intro hl (And.intro hv hn)))
  clear h hl hv hn
  go_enter Tryz.func22, Tryz.ntmps22
  go_wp2_with fail
  go_loopw [7, 8, 9, 10, 11] (fun o t _ _ _ wr => ∃ (i : Nat) (S : List RdE) (A1 : Option Addr) (c1 : Nat), t = .int .i64 i ∧ o = .slice A1 S.length c1 ∧ i ≤ E.length ∧ Hid (OfR w E allD i S (.slice A1 S.length c1) wr)) (fun _ t _ _ _ _ => E.length - (RowKit.intOf t).toNat)
  case atStart => exact ⟨0, [], none, 0, rfl, rfl, Nat.zero_le _, H0⟩
  case round =>
    obtain ⟨i, S, A1, c1, rfl, rfl, hi, HG⟩ := hrel
    clear H0
    have s0 := HS.out wr HG.out.fr
    by_cases hlt : i < E.length
    · obtain ⟨h, hl, hv, hn⟩ := H.out
      obtain ⟨g, rfl, hf⟩ := rd_facts h hv hlt
      obtain ⟨x, hx⟩ : ∃ x, E[i] = x := ⟨_, rfl⟩
      rw [hx] at hf
      have hxE : x ∈ E := by rw [← hx]; exact List.getElem_mem _
      obtain ⟨xB, hxB⟩ : ∃ xB, x.B = xB := ⟨_, rfl⟩
      obtain ⟨nx, hnx⟩ : ∃ nx, x.x.nm = nx := ⟨_, rfl⟩
      have hnl := hl.nms x hxE
      have hSl : S.length ≤ 1000 := by
        have := HG.out.perm.length_eq
        have h3 := List.length_filter_le allD (E.take i)
        rw [List.length_take] at h3
        omega
      have hSE : ∀ e ∈ S, e ∈ E := fun e he => List.mem_of_mem_take (List.mem_filter.1 (HG.out.perm.mem_iff.1 he)).1
      have hno : ∀ e ∈ S, keyD e ≠ keyD x := fun e he e9 => by
        obtain ⟨j, hj, hje⟩ := List.getElem_of_mem (List.mem_filter.1 (HG.out.perm.mem_iff.1 he)).1
        rw [List.length_take] at hj
        rw [List.getElem_take] at hje
        have hk := h.keys
        have h1 : (E.map keyD)[j]'(by rw [List.length_map]; omega) = (E.map keyD)[i]'(by rw [List.length_map]; omega) := by rw [List.getElem_map, List.getElem_map, hje, hx, e9]
        have := (List.getElem_inj hk).1 h1
        omega
      have htk : E.take (i + 1) = E.take i ++ [x] := by rw [List.take_succ_eq_append_getElem hlt, hx]
      obtain ⟨q1, q2, _⟩ := hf wr HG.out.fr
      rw [hxB] at q2
      have q0 : (0 : Int) ≤ (i : Int) := by omega
      have n1 : (i : Int) < (E.length : Int) := by omega
      have n2 : decide ((i : Int) < (E.length : Int)) = true := by simp; omega
      have hcell2 : ∀ W, Fr (fun _ => False) wr W → W.cell? ⟨xB, 0, none⟩ = some (.string (bs nx)) ∧ W.cell? ⟨R, 3, none⟩ = some (.slice (some ⟨g, 0, none⟩) E.length c) := fun W hW => by
        obtain ⟨a1, a2, a3⟩ := hf W (HG.out.fr.trans hW)
        rw [hxB] at a3
        have a4 := blk_cell a3 0
        exact ⟨by rw [← hnx]; exact a4, a1⟩
      have H2 := Lib.hid hcell2
      have HT := Lib.hid htk
      have HNo := Lib.hid hno
      have HXB := Lib.hid (And.intro hxB (And.intro hnx (And.intro (show nx.length ≤ 1000 by rw [← hnx]; exact hnl) (And.intro hSE hxE))))
      clear h hl hv hn hf hx hxE hxB hnx hnl hSE hno htk hcell2
      cases hat : allD x with
      | false =>
        have hN : Hid (OfR w E allD (i + 1) S (.slice A1 S.length c1) wr) := Lib.hid ⟨HG.out.fr, HG.out.own, by rw [HT.out, List.filter_append, List.filter_cons_of_neg (by rw [hat]; simp)]; simpa using HG.out.perm, HG.out.up, HG.out.nil⟩
        exact absurd hat (by simp [allD])
      | true =>
        have HP : Hid ([x].filter allD = [x]) := Lib.hid (List.filter_cons_of_pos hat)
        clear hat
        go_wp2_with fail
        rename World => W0
        go_loopw [10] (fun t V => ∃ q : Nat, t = .int .i64 q ∧ q ≤ S.length ∧ Hid ((∀ r (hr : r < S.length), q ≤ r → keyD x < keyD S[r]) ∧ Fr (fun _ => False) W0 V)) (fun t _ => (RowKit.intOf t).toNat)
        case atStart => exact ⟨S.length, rfl, Nat.le_refl _, Lib.hid ⟨fun r hr h => by omega, Fr.refl _ _⟩⟩
        case round =>
          obtain ⟨q, rfl, hq, HB⟩ := hrel
          rcases Nat.eq_zero_or_pos q with hq0 | hq0
          · subst hq0
            go_wp2_with fail
            go_quiet (fail)
            generalize hV1 : wr.drewN nq = V1
            have FV : Hid (Fr (fun _ => False) W0 V1) := Lib.hid (by rw [← hV1]; exact HB.out.2.drewN nq)
            clear hV1 q2 s0
            have hlow : ∀ p (hp : p < S.length), p + 1 = 0 → ¬ keyD x < keyD S[p] := fun p _ e => by omega
            have hown := (HG.out.ofr FV.out).own
            obtain ⟨V2, V3, A3, c3, A4, c4, A5, c5, W3, W4, W5, hs1, hs2, hr3, hr4, hr5, o5, f3, f4, f5⟩ := ins_runsPd (ns := S.map (·.B)) (A := _) (c := c1) (by rw [List.length_map]; exact hown) (fun e9 => by have h1 := HG.out.nil (List.map_eq_nil_iff.1 e9); injection h1 with h1 h2 h3; exact ⟨h1, h3⟩) (i := 0) (by rw [List.length_map]; exact hq) (by rw [List.length_map]; omega) xB
            rw [List.length_map] at hs1 hs2 hr5 o5
            have hlen : (S.take (0) ++ x :: S.drop (0)).length = S.length + 1 := by rw [List.length_append, List.length_cons, List.length_take, List.length_drop]; omega
            have HNew : Hid (OfR w E allD (i + 1) (S.take (0) ++ x :: S.drop (0)) (.slice A5 (S.length + 1) c5) W5) := Lib.hid (by
              have hmp : (S.take (0) ++ x :: S.drop (0)).map (·.B) = (S.map (·.B)).take (0) ++ xB :: (S.map (·.B)).drop (0) := by rw [List.map_append, List.map_cons, List.map_take, List.map_drop, HXB.out.1]
              refine ⟨HG.out.fr.trans (FV.out.trans f5), ?_, ?_, ins_sorted HG.out.up hq HNo.out HB.out.1 hlow, fun e9 => absurd e9 (by simp)⟩
              · rw [hmp]; exact ownPd_base o5 (HG.out.fr.trans FV.out).size
              · rw [HT.out, List.filter_append, HP.out]
                exact (insert_perm S x (0)).trans ((List.perm_append_singleton x S).symm.trans (HG.out.perm.append_right [x])))
            rw [show ((0 : Nat) : Int) = 0 from rfl] at hs1 hs2
            obtain ⟨u1, u2⟩ := H2.out W3 (FV.out.trans f3)
            have HR4 := Lib.hid hr4
            have HR5 := Lib.hid hr5
            clear hlow hown f3 f4 f5 o5 hr4 hr5
            go_wp2_with (at_builtin; refine Hid.out ?_)
            refine Lib.hid ?_
            refine wpList_app_run rfl _ _ _ _ rfl (by exact hr3) ?_
            go_wp2_with (at_builtin; refine Hid.out ?_)
            refine Lib.hid ?_
            refine wpList_app_run rfl _ _ _ _ rfl (by exact HR4.out) ?_
            go_wp2_with (at_builtin; refine Hid.out ?_)
            refine Lib.hid ?_
            refine wpList_app_run rfl _ _ _ _ rfl (by exact HR5.out) ?_
            go_wp2_with fail
            go_roundw
            case rel => exact ⟨i + 1, _, A5, c5, by go_num, by rw [hlen], by omega, by rw [hlen]; exact HNew⟩
            case measure => simp [RowKit.intOf]; omega
          · obtain ⟨p, rfl⟩ : ∃ p, q = p + 1 := ⟨q - 1, by omega⟩
            obtain ⟨el, hel⟩ : ∃ el, S[p]'(by omega) = el := ⟨_, rfl⟩
            have helS : el ∈ S := by rw [← hel]; exact List.getElem_mem _
            have helE := HXB.out.2.2.2.1 el helS
            obtain ⟨nel, hnel⟩ : ∃ nel, el.x.nm = nel := ⟨_, rfl⟩
            obtain ⟨eB, heB⟩ : ∃ eB, el.B = eB := ⟨_, rfl⟩
            have hell : nel.length ≤ 1000 := by rw [← hnel]; exact H.out.2.1.nms el helE
            obtain ⟨g1, rfl, hg1, hcell1⟩ := reads_ownPd (A := A1) (n := S.length) (c := c1) HG.out.own (by rw [List.length_map]; omega)
            have hc1 := hcell1 p (by rw [List.length_map]; omega)
            rw [List.getElem_map, hel, heB, Nat.zero_add] at hc1
            have hcl : ∀ W, Fr (fun _ => False) wr W → W.cell? ⟨g1, p, none⟩ = some (.pointer (some ⟨eB, 0, none⟩)) ∧ W.cell? ⟨eB, 0, none⟩ = some (.string (bs nel)) ∧ W.cell? ⟨xB, 0, none⟩ = some (.string (bs nx)) := fun W hf =>
              ⟨((HB.out.2.trans hf).cell (p := ⟨g1, p, none⟩) hg1 fun e => e).trans hc1, by
                have a3 := (HG.out.fr.trans (HB.out.2.trans hf)).blk (H.out.1.each el helE).1 fun e => e
                have a4 := blk_cell a3 0
                rw [heB] at a4
                rw [← hnel]; exact a4, (H2.out W (HB.out.2.trans hf)).1⟩
            have HX := Lib.hid hcl
            have HE := Lib.hid (And.intro hel hnel)
            have p5 : (p : Int) < (S.length : Int) := by omega
            have r5 : (0 : Int) ≤ (p : Int) := by omega
            have hwm : IntKind.i64.wrap (p : Int) = (p : Int) := IntWalk.i64_in _ ⟨by omega, by omega⟩
            have r6 : (p : Int) + 1 > 0 := by omega
            have r7 : (0 : Int) < (p : Int) + 1 := by omega
            have HCm : Hid (∀ V, Calls Tryz.prog 34 #[.string (bs nel), .string (bs nx)] V fun e V' => e = .returned (.int .i64 (cmpF nel nx)) ∧ Below V.heap.size V V') := Lib.hid fun V => refcompare (bs nel) (bs nx) V (by simp; omega) (by have := HXB.out.2.2.1; simp; omega)
            obtain ⟨z, hz⟩ : ∃ z, cmpF nel nx = z := ⟨_, rfl⟩
            have hzp := cmpF_pos nel nx
            rw [hz] at HCm hzp
            have hkx : keyD x = foldL nx := by unfold keyD; rw [HXB.out.2.1]
            have hke : keyD el = foldL nel := by unfold keyD; rw [hnel]
            rw [← hkx, ← hke] at hzp
            have HZ := Lib.hid hzp
            clear hcl hel hg1 hcell1 hc1 hz hzp q2 s0 helS helE hnel heB hkx hke
            by_cases hgt : keyD x < keyD el
            · have z1 : (0 : Int) < z := HZ.out.2 hgt
              have hN : Hid (∀ r (hr : r < S.length), p ≤ r → keyD x < keyD S[r]) := Lib.hid fun r hr h => by
                rcases Nat.lt_or_ge p r with h1 | h1
                · exact HB.out.1 r hr h1
                · obtain rfl : r = p := by omega
                  rw [HE.out.1]; exact hgt
              clear hgt
              go_wp2_with fail
              refine wp_region_held_drew (S := fun W => Fr (fun _ => False) wr W) (by kernel_rfl) (by exact (Fr.refl _ wr).drew) (fun hHeld => ?_)
              refine wpAnyH_read (i := 0) (oi := { dst := some 38, op := Go.Op.move (Go.Operand.tmp 10), type := 3, pos := "ref.go:35", after := #[], guard := none }) ?_ rfl (by kernel_rfl) (by kernel_rfl) (by kernel_rfl) (fun _ _ _ h => h) (by rfl) (by assumption) ?_ ?_
              rotate_left
              · (intro w0 hS0; go_simp <;> (try with_reducible rfl))
              try simp only [Act.put, List.setIfInBounds_toArray, List.set_cons_zero, List.set_cons_succ]
              refine wpAnyH_read (i := 1) (oi := { dst := some 39, op := Go.Op.binOp Go.BinOp.gtr 3 (Go.Operand.tmp 38) (Go.Operand.const (Go.Value.int Go.IntKind.i64 0)) 3, type := 4, pos := "ref.go:35", after := #[{ on := 0, ground := Go.Ground.data }], guard := none }) ?_ rfl (by kernel_rfl) (by kernel_rfl) (by kernel_rfl) (fun _ _ _ h => h) (by rfl) (by assumption) ?_ ?_
              rotate_left
              · (intro w0 hS0; go_simp <;> (try with_reducible rfl))
              try simp only [Act.put, List.setIfInBounds_toArray, List.set_cons_zero, List.set_cons_succ]
              refine wpAnyH_read (i := 2) (oi := { dst := some 40, op := Go.Op.move (Go.Operand.tmp 39), type := 4, pos := "ref.go:35", after := #[{ on := 1, ground := Go.Ground.data }], guard := none }) ?_ rfl (by kernel_rfl) (by kernel_rfl) (by kernel_rfl) (fun _ _ _ h => h) (by rfl) (by assumption) ?_ ?_
              rotate_left
              · (intro w0 hS0; go_simp <;> (try with_reducible rfl))
              try simp only [Act.put, List.setIfInBounds_toArray, List.set_cons_zero, List.set_cons_succ]
              refine wpAnyH_read (i := 3) (oi := { dst := some 41, op := Go.Op.move (Go.Operand.tmp 7), type := 30, pos := "ref.go:35", after := #[{ on := 2, ground := Go.Ground.guard }], guard := some (2, true) }) ?_ rfl (by kernel_rfl) (by kernel_rfl) (by kernel_rfl) (fun _ _ _ h => h) (by rfl) (by assumption) ?_ ?_
              rotate_left
              · (intro w0 hS0; go_simp <;> (try with_reducible rfl))
              try simp only [Act.put, List.setIfInBounds_toArray, List.set_cons_zero, List.set_cons_succ]
              refine wpAnyH_read (i := 4) (oi := { dst := some 42, op := Go.Op.move (Go.Operand.tmp 10), type := 3, pos := "ref.go:35", after := #[{ on := 2, ground := Go.Ground.guard }], guard := some (2, true) }) ?_ rfl (by kernel_rfl) (by kernel_rfl) (by kernel_rfl) (fun _ _ _ h => h) (by rfl) (by assumption) ?_ ?_
              rotate_left
              · (intro w0 hS0; go_simp <;> (try with_reducible rfl))
              try simp only [Act.put, List.setIfInBounds_toArray, List.set_cons_zero, List.set_cons_succ]
              refine wpAnyH_read (i := 5) (oi := { dst := some 43, op := Go.Op.binOp Go.BinOp.sub 3 (Go.Operand.tmp 42) (Go.Operand.const (Go.Value.int Go.IntKind.i64 1)) 3, type := 3, pos := "ref.go:35", after := #[{ on := 4, ground := Go.Ground.data }, { on := 2, ground := Go.Ground.guard }], guard := some (2, true) }) ?_ rfl (by kernel_rfl) (by kernel_rfl) (by kernel_rfl) (fun _ _ _ h => h) (by rfl) (by assumption) ?_ ?_
              rotate_left
              · (intro w0 hS0; go_simp <;> (try with_reducible rfl))
              try simp only [Act.put, List.setIfInBounds_toArray, List.set_cons_zero, List.set_cons_succ]
              refine wpAnyH_read (i := 6) (oi := { dst := some 44, op := Go.Op.indexAddr 30 (Go.Operand.tmp 41) (Go.Operand.tmp 43), type := 0, pos := "ref.go:35", after := #[{ on := 3, ground := Go.Ground.data }, { on := 5, ground := Go.Ground.data }, { on := 2, ground := Go.Ground.guard }], guard := some (2, true) }) ?_ rfl (by kernel_rfl) (by kernel_rfl) (by kernel_rfl) (fun _ _ _ h => h) (by rfl) (by assumption) ?_ ?_
              rotate_left
              · (intro w0 hS0; go_simp <;> (try with_reducible rfl))
              try simp only [Act.put, List.setIfInBounds_toArray, List.set_cons_zero, List.set_cons_succ]
              refine wpAnyH_read (i := 11) (oi := { dst := some 49, op := Go.Op.move (Go.Operand.tmp 9), type := 40, pos := "ref.go:35", after := #[{ on := 2, ground := Go.Ground.guard }], guard := some (2, true) }) ?_ rfl (by kernel_rfl) (by kernel_rfl) (by kernel_rfl) (fun _ _ _ h => h) (by rfl) (by assumption) ?_ ?_
              rotate_left
              · (intro w0 hS0; go_simp <;> (try with_reducible rfl))
              try simp only [Act.put, List.setIfInBounds_toArray, List.set_cons_zero, List.set_cons_succ]
              refine wpAnyH_read (i := 12) (oi := { dst := some 50, op := Go.Op.nilCheck (Go.Operand.tmp 49), type := 0, pos := "ref.go:35", after := #[{ on := 11, ground := Go.Ground.data }, { on := 2, ground := Go.Ground.guard }], guard := some (2, true) }) ?_ rfl (by kernel_rfl) (by kernel_rfl) (by kernel_rfl) (fun _ _ _ h => h) (by rfl) (by assumption) ?_ ?_
              rotate_left
              · (intro w0 hS0; go_simp <;> (try with_reducible rfl))
              try simp only [Act.put, List.setIfInBounds_toArray, List.set_cons_zero, List.set_cons_succ]
              refine wpAnyH_read (i := 13) (oi := { dst := some 51, op := Go.Op.fieldAddr 90 (Go.Operand.tmp 50) 0, type := 0, pos := "ref.go:35", after := #[{ on := 12, ground := Go.Ground.data }, { on := 2, ground := Go.Ground.guard }], guard := some (2, true) }) ?_ rfl (by kernel_rfl) (by kernel_rfl) (by kernel_rfl) (fun _ _ _ h => h) (by rfl) (by assumption) ?_ ?_
              rotate_left
              · (intro w0 hS0; go_simp <;> (try with_reducible rfl))
              try simp only [Act.put, List.setIfInBounds_toArray, List.set_cons_zero, List.set_cons_succ]
              refine wpAnyH_read (i := 7) (oi := { dst := some 45, op := Go.Op.load 40 (Go.Operand.tmp 44), type := 40, pos := "ref.go:35", after := #[{ on := 6, ground := Go.Ground.data }, { on := 2, ground := Go.Ground.guard }], guard := some (2, true) }) ?_ rfl (by kernel_rfl) (by kernel_rfl) (by kernel_rfl) (fun _ _ _ h => h) (by rfl) (by assumption) ?_ ?_
              rotate_left
              · (intro w0 hS0; obtain ⟨s0, s1, s2⟩ := HX.out w0 hS0; go_simp <;> (try with_reducible rfl))
              try simp only [Act.put, List.setIfInBounds_toArray, List.set_cons_zero, List.set_cons_succ]
              refine wpAnyH_read (i := 8) (oi := { dst := some 46, op := Go.Op.nilCheck (Go.Operand.tmp 45), type := 0, pos := "ref.go:35", after := #[{ on := 7, ground := Go.Ground.data }, { on := 2, ground := Go.Ground.guard }], guard := some (2, true) }) ?_ rfl (by kernel_rfl) (by kernel_rfl) (by kernel_rfl) (fun _ _ _ h => h) (by rfl) (by assumption) ?_ ?_
              rotate_left
              · (intro w0 hS0; go_simp <;> (try with_reducible rfl))
              try simp only [Act.put, List.setIfInBounds_toArray, List.set_cons_zero, List.set_cons_succ]
              refine wpAnyH_read (i := 9) (oi := { dst := some 47, op := Go.Op.fieldAddr 90 (Go.Operand.tmp 46) 0, type := 0, pos := "ref.go:35", after := #[{ on := 8, ground := Go.Ground.data }, { on := 2, ground := Go.Ground.guard }], guard := some (2, true) }) ?_ rfl (by kernel_rfl) (by kernel_rfl) (by kernel_rfl) (fun _ _ _ h => h) (by rfl) (by assumption) ?_ ?_
              rotate_left
              · (intro w0 hS0; go_simp <;> (try with_reducible rfl))
              try simp only [Act.put, List.setIfInBounds_toArray, List.set_cons_zero, List.set_cons_succ]
              refine wpAnyH_read (i := 10) (oi := { dst := some 48, op := Go.Op.load 9 (Go.Operand.tmp 47), type := 9, pos := "ref.go:35", after := #[{ on := 9, ground := Go.Ground.data }, { on := 2, ground := Go.Ground.guard }], guard := some (2, true) }) ?_ rfl (by kernel_rfl) (by kernel_rfl) (by kernel_rfl) (fun _ _ _ h => h) (by rfl) (by assumption) ?_ ?_
              rotate_left
              · (intro w0 hS0; obtain ⟨s0, s1, s2⟩ := HX.out w0 hS0; go_simp <;> (try with_reducible rfl))
              try simp only [Act.put, List.setIfInBounds_toArray, List.set_cons_zero, List.set_cons_succ]
              refine wpAnyH_read (i := 14) (oi := { dst := some 52, op := Go.Op.load 9 (Go.Operand.tmp 51), type := 9, pos := "ref.go:35", after := #[{ on := 13, ground := Go.Ground.data }, { on := 2, ground := Go.Ground.guard }], guard := some (2, true) }) ?_ rfl (by kernel_rfl) (by kernel_rfl) (by kernel_rfl) (fun _ _ _ h => h) (by rfl) (by assumption) ?_ ?_
              rotate_left
              · (intro w0 hS0; obtain ⟨s0, s1, s2⟩ := HX.out w0 hS0; go_simp <;> (try with_reducible rfl))
              try simp only [Act.put, List.setIfInBounds_toArray, List.set_cons_zero, List.set_cons_succ]
              refine wpAnyH_one (i := 15) (o := { dst := some 53, op := Go.Op.call { callee := Go.Callee.value (Go.Operand.func 34), args := #[Go.Operand.tmp 48, Go.Operand.tmp 52], argTypes := #[9, 9] }, type := 3, pos := "ref.go:35", after := #[{ on := 10, ground := Go.Ground.data }, { on := 14, ground := Go.Ground.data }, { on := 2, ground := Go.Ground.chain }, { on := 2, ground := Go.Ground.guard }], guard := some (2, true) }) (by kernel_rfl) rfl (by rfl) (fun K hK => ?_)
              go_simp
              refine (HCm.out _).mono ?_
              rintro e9 V1 ⟨rfl, b1⟩
              have F2 : Hid (Fr (fun _ => False) wr V1) := Lib.hid (((Fr.refl _ wr).drew).trans (Fr.of_below b1))
              clear b1
              refine hK.out _ _ ?_ (fun hHeld => ?_)
              · exact F2.out
              clear hK K
              try simp only [Act.put, List.setIfInBounds_toArray, List.set_cons_zero, List.set_cons_succ]
              refine wpAnyH_read (i := 16) (oi := { dst := some 54, op := Go.Op.binOp Go.BinOp.gtr 3 (Go.Operand.tmp 53) (Go.Operand.const (Go.Value.int Go.IntKind.i64 0)) 3, type := 4, pos := "ref.go:35", after := #[{ on := 15, ground := Go.Ground.data }, { on := 2, ground := Go.Ground.guard }], guard := some (2, true) }) ?_ rfl (by kernel_rfl) (by kernel_rfl) (by kernel_rfl) (fun _ _ _ h => h) (by rfl) (by assumption) ?_ ?_
              rotate_left
              · (intro w0 hS0; go_simp <;> (try with_reducible rfl))
              try simp only [Act.put, List.setIfInBounds_toArray, List.set_cons_zero, List.set_cons_succ]
              refine wpAnyH_read (i := 17) (oi := { dst := some 55, op := Go.Op.pick (Go.Operand.tmp 40) (Go.Operand.tmp 54) (Go.Operand.const (Go.Value.bool false)), type := 4, pos := "ref.go:35", after := #[{ on := 2, ground := Go.Ground.data }, { on := 16, ground := Go.Ground.data }], guard := none }) ?_ rfl (by kernel_rfl) (by kernel_rfl) (by kernel_rfl) (fun _ _ _ h => h) (by rfl) (by assumption) ?_ ?_
              rotate_left
              · (intro w0 hS0; go_simp <;> (try with_reducible rfl))
              try simp only [Act.put, List.setIfInBounds_toArray, List.set_cons_zero, List.set_cons_succ]
              refine wpAnyH_done (by kernel_rfl) ?_ _
              go_wp2_with fail
              go_roundw
              case rel => exact ⟨p, by go_num, by omega, Lib.hid ⟨hN.out, HB.out.2.trans F2.out⟩⟩
              case measure => simp [RowKit.intOf]
            · have z1 : ¬ (0 : Int) < z := fun h => hgt (HZ.out.1 h)
              have hlow : ∀ p2 (hp : p2 < S.length), p2 + 1 = p + 1 → ¬ keyD x < keyD S[p2] := fun p2 hp e => by
                obtain rfl : p2 = p := by omega
                rw [HE.out.1]; exact hgt
              have HLo := Lib.hid hlow
              clear hgt hlow
              go_wp2_with fail
              refine wp_region_held_drew (S := fun W => Fr (fun _ => False) wr W) (by kernel_rfl) (by exact (Fr.refl _ wr).drew) (fun hHeld => ?_)
              refine wpAnyH_read (i := 0) (oi := { dst := some 38, op := Go.Op.move (Go.Operand.tmp 10), type := 3, pos := "ref.go:35", after := #[], guard := none }) ?_ rfl (by kernel_rfl) (by kernel_rfl) (by kernel_rfl) (fun _ _ _ h => h) (by rfl) (by assumption) ?_ ?_
              rotate_left
              · (intro w0 hS0; go_simp <;> (try with_reducible rfl))
              try simp only [Act.put, List.setIfInBounds_toArray, List.set_cons_zero, List.set_cons_succ]
              refine wpAnyH_read (i := 1) (oi := { dst := some 39, op := Go.Op.binOp Go.BinOp.gtr 3 (Go.Operand.tmp 38) (Go.Operand.const (Go.Value.int Go.IntKind.i64 0)) 3, type := 4, pos := "ref.go:35", after := #[{ on := 0, ground := Go.Ground.data }], guard := none }) ?_ rfl (by kernel_rfl) (by kernel_rfl) (by kernel_rfl) (fun _ _ _ h => h) (by rfl) (by assumption) ?_ ?_
              rotate_left
              · (intro w0 hS0; go_simp <;> (try with_reducible rfl))
              try simp only [Act.put, List.setIfInBounds_toArray, List.set_cons_zero, List.set_cons_succ]
              refine wpAnyH_read (i := 2) (oi := { dst := some 40, op := Go.Op.move (Go.Operand.tmp 39), type := 4, pos := "ref.go:35", after := #[{ on := 1, ground := Go.Ground.data }], guard := none }) ?_ rfl (by kernel_rfl) (by kernel_rfl) (by kernel_rfl) (fun _ _ _ h => h) (by rfl) (by assumption) ?_ ?_
              rotate_left
              · (intro w0 hS0; go_simp <;> (try with_reducible rfl))
              try simp only [Act.put, List.setIfInBounds_toArray, List.set_cons_zero, List.set_cons_succ]
              refine wpAnyH_read (i := 3) (oi := { dst := some 41, op := Go.Op.move (Go.Operand.tmp 7), type := 30, pos := "ref.go:35", after := #[{ on := 2, ground := Go.Ground.guard }], guard := some (2, true) }) ?_ rfl (by kernel_rfl) (by kernel_rfl) (by kernel_rfl) (fun _ _ _ h => h) (by rfl) (by assumption) ?_ ?_
              rotate_left
              · (intro w0 hS0; go_simp <;> (try with_reducible rfl))
              try simp only [Act.put, List.setIfInBounds_toArray, List.set_cons_zero, List.set_cons_succ]
              refine wpAnyH_read (i := 4) (oi := { dst := some 42, op := Go.Op.move (Go.Operand.tmp 10), type := 3, pos := "ref.go:35", after := #[{ on := 2, ground := Go.Ground.guard }], guard := some (2, true) }) ?_ rfl (by kernel_rfl) (by kernel_rfl) (by kernel_rfl) (fun _ _ _ h => h) (by rfl) (by assumption) ?_ ?_
              rotate_left
              · (intro w0 hS0; go_simp <;> (try with_reducible rfl))
              try simp only [Act.put, List.setIfInBounds_toArray, List.set_cons_zero, List.set_cons_succ]
              refine wpAnyH_read (i := 5) (oi := { dst := some 43, op := Go.Op.binOp Go.BinOp.sub 3 (Go.Operand.tmp 42) (Go.Operand.const (Go.Value.int Go.IntKind.i64 1)) 3, type := 3, pos := "ref.go:35", after := #[{ on := 4, ground := Go.Ground.data }, { on := 2, ground := Go.Ground.guard }], guard := some (2, true) }) ?_ rfl (by kernel_rfl) (by kernel_rfl) (by kernel_rfl) (fun _ _ _ h => h) (by rfl) (by assumption) ?_ ?_
              rotate_left
              · (intro w0 hS0; go_simp <;> (try with_reducible rfl))
              try simp only [Act.put, List.setIfInBounds_toArray, List.set_cons_zero, List.set_cons_succ]
              refine wpAnyH_read (i := 6) (oi := { dst := some 44, op := Go.Op.indexAddr 30 (Go.Operand.tmp 41) (Go.Operand.tmp 43), type := 0, pos := "ref.go:35", after := #[{ on := 3, ground := Go.Ground.data }, { on := 5, ground := Go.Ground.data }, { on := 2, ground := Go.Ground.guard }], guard := some (2, true) }) ?_ rfl (by kernel_rfl) (by kernel_rfl) (by kernel_rfl) (fun _ _ _ h => h) (by rfl) (by assumption) ?_ ?_
              rotate_left
              · (intro w0 hS0; go_simp <;> (try with_reducible rfl))
              try simp only [Act.put, List.setIfInBounds_toArray, List.set_cons_zero, List.set_cons_succ]
              refine wpAnyH_read (i := 11) (oi := { dst := some 49, op := Go.Op.move (Go.Operand.tmp 9), type := 40, pos := "ref.go:35", after := #[{ on := 2, ground := Go.Ground.guard }], guard := some (2, true) }) ?_ rfl (by kernel_rfl) (by kernel_rfl) (by kernel_rfl) (fun _ _ _ h => h) (by rfl) (by assumption) ?_ ?_
              rotate_left
              · (intro w0 hS0; go_simp <;> (try with_reducible rfl))
              try simp only [Act.put, List.setIfInBounds_toArray, List.set_cons_zero, List.set_cons_succ]
              refine wpAnyH_read (i := 12) (oi := { dst := some 50, op := Go.Op.nilCheck (Go.Operand.tmp 49), type := 0, pos := "ref.go:35", after := #[{ on := 11, ground := Go.Ground.data }, { on := 2, ground := Go.Ground.guard }], guard := some (2, true) }) ?_ rfl (by kernel_rfl) (by kernel_rfl) (by kernel_rfl) (fun _ _ _ h => h) (by rfl) (by assumption) ?_ ?_
              rotate_left
              · (intro w0 hS0; go_simp <;> (try with_reducible rfl))
              try simp only [Act.put, List.setIfInBounds_toArray, List.set_cons_zero, List.set_cons_succ]
              refine wpAnyH_read (i := 13) (oi := { dst := some 51, op := Go.Op.fieldAddr 90 (Go.Operand.tmp 50) 0, type := 0, pos := "ref.go:35", after := #[{ on := 12, ground := Go.Ground.data }, { on := 2, ground := Go.Ground.guard }], guard := some (2, true) }) ?_ rfl (by kernel_rfl) (by kernel_rfl) (by kernel_rfl) (fun _ _ _ h => h) (by rfl) (by assumption) ?_ ?_
              rotate_left
              · (intro w0 hS0; go_simp <;> (try with_reducible rfl))
              try simp only [Act.put, List.setIfInBounds_toArray, List.set_cons_zero, List.set_cons_succ]
              refine wpAnyH_read (i := 7) (oi := { dst := some 45, op := Go.Op.load 40 (Go.Operand.tmp 44), type := 40, pos := "ref.go:35", after := #[{ on := 6, ground := Go.Ground.data }, { on := 2, ground := Go.Ground.guard }], guard := some (2, true) }) ?_ rfl (by kernel_rfl) (by kernel_rfl) (by kernel_rfl) (fun _ _ _ h => h) (by rfl) (by assumption) ?_ ?_
              rotate_left
              · (intro w0 hS0; obtain ⟨s0, s1, s2⟩ := HX.out w0 hS0; go_simp <;> (try with_reducible rfl))
              try simp only [Act.put, List.setIfInBounds_toArray, List.set_cons_zero, List.set_cons_succ]
              refine wpAnyH_read (i := 8) (oi := { dst := some 46, op := Go.Op.nilCheck (Go.Operand.tmp 45), type := 0, pos := "ref.go:35", after := #[{ on := 7, ground := Go.Ground.data }, { on := 2, ground := Go.Ground.guard }], guard := some (2, true) }) ?_ rfl (by kernel_rfl) (by kernel_rfl) (by kernel_rfl) (fun _ _ _ h => h) (by rfl) (by assumption) ?_ ?_
              rotate_left
              · (intro w0 hS0; go_simp <;> (try with_reducible rfl))
              try simp only [Act.put, List.setIfInBounds_toArray, List.set_cons_zero, List.set_cons_succ]
              refine wpAnyH_read (i := 9) (oi := { dst := some 47, op := Go.Op.fieldAddr 90 (Go.Operand.tmp 46) 0, type := 0, pos := "ref.go:35", after := #[{ on := 8, ground := Go.Ground.data }, { on := 2, ground := Go.Ground.guard }], guard := some (2, true) }) ?_ rfl (by kernel_rfl) (by kernel_rfl) (by kernel_rfl) (fun _ _ _ h => h) (by rfl) (by assumption) ?_ ?_
              rotate_left
              · (intro w0 hS0; go_simp <;> (try with_reducible rfl))
              try simp only [Act.put, List.setIfInBounds_toArray, List.set_cons_zero, List.set_cons_succ]
              refine wpAnyH_read (i := 10) (oi := { dst := some 48, op := Go.Op.load 9 (Go.Operand.tmp 47), type := 9, pos := "ref.go:35", after := #[{ on := 9, ground := Go.Ground.data }, { on := 2, ground := Go.Ground.guard }], guard := some (2, true) }) ?_ rfl (by kernel_rfl) (by kernel_rfl) (by kernel_rfl) (fun _ _ _ h => h) (by rfl) (by assumption) ?_ ?_
              rotate_left
              · (intro w0 hS0; obtain ⟨s0, s1, s2⟩ := HX.out w0 hS0; go_simp <;> (try with_reducible rfl))
              try simp only [Act.put, List.setIfInBounds_toArray, List.set_cons_zero, List.set_cons_succ]
              refine wpAnyH_read (i := 14) (oi := { dst := some 52, op := Go.Op.load 9 (Go.Operand.tmp 51), type := 9, pos := "ref.go:35", after := #[{ on := 13, ground := Go.Ground.data }, { on := 2, ground := Go.Ground.guard }], guard := some (2, true) }) ?_ rfl (by kernel_rfl) (by kernel_rfl) (by kernel_rfl) (fun _ _ _ h => h) (by rfl) (by assumption) ?_ ?_
              rotate_left
              · (intro w0 hS0; obtain ⟨s0, s1, s2⟩ := HX.out w0 hS0; go_simp <;> (try with_reducible rfl))
              try simp only [Act.put, List.setIfInBounds_toArray, List.set_cons_zero, List.set_cons_succ]
              refine wpAnyH_one (i := 15) (o := { dst := some 53, op := Go.Op.call { callee := Go.Callee.value (Go.Operand.func 34), args := #[Go.Operand.tmp 48, Go.Operand.tmp 52], argTypes := #[9, 9] }, type := 3, pos := "ref.go:35", after := #[{ on := 10, ground := Go.Ground.data }, { on := 14, ground := Go.Ground.data }, { on := 2, ground := Go.Ground.chain }, { on := 2, ground := Go.Ground.guard }], guard := some (2, true) }) (by kernel_rfl) rfl (by rfl) (fun K hK => ?_)
              go_simp
              refine (HCm.out _).mono ?_
              rintro e9 V1 ⟨rfl, b1⟩
              have F2 : Hid (Fr (fun _ => False) wr V1) := Lib.hid (((Fr.refl _ wr).drew).trans (Fr.of_below b1))
              clear b1
              refine hK.out _ _ ?_ (fun hHeld => ?_)
              · exact F2.out
              clear hK K
              try simp only [Act.put, List.setIfInBounds_toArray, List.set_cons_zero, List.set_cons_succ]
              refine wpAnyH_read (i := 16) (oi := { dst := some 54, op := Go.Op.binOp Go.BinOp.gtr 3 (Go.Operand.tmp 53) (Go.Operand.const (Go.Value.int Go.IntKind.i64 0)) 3, type := 4, pos := "ref.go:35", after := #[{ on := 15, ground := Go.Ground.data }, { on := 2, ground := Go.Ground.guard }], guard := some (2, true) }) ?_ rfl (by kernel_rfl) (by kernel_rfl) (by kernel_rfl) (fun _ _ _ h => h) (by rfl) (by assumption) ?_ ?_
              rotate_left
              · (intro w0 hS0; go_simp <;> (try with_reducible rfl))
              try simp only [Act.put, List.setIfInBounds_toArray, List.set_cons_zero, List.set_cons_succ]
              refine wpAnyH_read (i := 17) (oi := { dst := some 55, op := Go.Op.pick (Go.Operand.tmp 40) (Go.Operand.tmp 54) (Go.Operand.const (Go.Value.bool false)), type := 4, pos := "ref.go:35", after := #[{ on := 2, ground := Go.Ground.data }, { on := 16, ground := Go.Ground.data }], guard := none }) ?_ rfl (by kernel_rfl) (by kernel_rfl) (by kernel_rfl) (fun _ _ _ h => h) (by rfl) (by assumption) ?_ ?_
              rotate_left
              · (intro w0 hS0; go_simp <;> (try with_reducible rfl))
              try simp only [Act.put, List.setIfInBounds_toArray, List.set_cons_zero, List.set_cons_succ]
              refine wpAnyH_done (by kernel_rfl) ?_ _
              rename World => V1
              have FV : Hid (Fr (fun _ => False) W0 V1) := Lib.hid (HB.out.2.trans F2.out)
              clear F2
              have hlow := HLo.out
              have hown := (HG.out.ofr FV.out).own
              obtain ⟨V2, V3, A3, c3, A4, c4, A5, c5, W3, W4, W5, hs1, hs2, hr3, hr4, hr5, o5, f3, f4, f5⟩ := ins_runsPd (ns := S.map (·.B)) (A := _) (c := c1) (by rw [List.length_map]; exact hown) (fun e9 => by have h1 := HG.out.nil (List.map_eq_nil_iff.1 e9); injection h1 with h1 h2 h3; exact ⟨h1, h3⟩) (i := p + 1) (by rw [List.length_map]; exact hq) (by rw [List.length_map]; omega) xB
              rw [List.length_map] at hs1 hs2 hr5 o5
              have hlen : (S.take (p + 1) ++ x :: S.drop (p + 1)).length = S.length + 1 := by rw [List.length_append, List.length_cons, List.length_take, List.length_drop]; omega
              have HNew : Hid (OfR w E allD (i + 1) (S.take (p + 1) ++ x :: S.drop (p + 1)) (.slice A5 (S.length + 1) c5) W5) := Lib.hid (by
                have hmp : (S.take (p + 1) ++ x :: S.drop (p + 1)).map (·.B) = (S.map (·.B)).take (p + 1) ++ xB :: (S.map (·.B)).drop (p + 1) := by rw [List.map_append, List.map_cons, List.map_take, List.map_drop, HXB.out.1]
                refine ⟨HG.out.fr.trans (FV.out.trans f5), ?_, ?_, ins_sorted HG.out.up hq HNo.out HB.out.1 hlow, fun e9 => absurd e9 (by simp)⟩
                · rw [hmp]; exact ownPd_base o5 (HG.out.fr.trans FV.out).size
                · rw [HT.out, List.filter_append, HP.out]
                  exact (insert_perm S x (p + 1)).trans ((List.perm_append_singleton x S).symm.trans (HG.out.perm.append_right [x])))
              rw [show ((p + 1 : Nat) : Int) = (p : Int) + 1 from rfl] at hs1 hs2
              obtain ⟨u1, u2⟩ := H2.out W3 (FV.out.trans f3)
              have HR4 := Lib.hid hr4
              have HR5 := Lib.hid hr5
              clear hlow hown f3 f4 f5 o5 hr4 hr5
              go_wp2_with (at_builtin; refine Hid.out ?_)
              refine Lib.hid ?_
              refine wpList_app_run rfl _ _ _ _ rfl (by exact hr3) ?_
              go_wp2_with (at_builtin; refine Hid.out ?_)
              refine Lib.hid ?_
              refine wpList_app_run rfl _ _ _ _ rfl (by exact HR4.out) ?_
              go_wp2_with (at_builtin; refine Hid.out ?_)
              refine Lib.hid ?_
              refine wpList_app_run rfl _ _ _ _ rfl (by exact HR5.out) ?_
              go_wp2_with fail
              go_roundw
              case rel => exact ⟨i + 1, _, A5, c5, by go_num, by rw [hlen], by omega, by rw [hlen]; exact HNew⟩
              case measure => simp [RowKit.intOf]; omega
    · have n1 : ¬ (i : Int) < (E.length : Int) := by omega
      have n2 : decide ((i : Int) < (E.length : Int)) = false := by simp; omega
      go_wp2_with fail
      go_ret
      have hie : i = E.length := by omega
      have hp := HG.out.perm
      rw [hie, List.take_length] at hp
      exact ⟨⟨_, S, rfl, HG.out.own, hp, HG.out.up⟩, HG.out.fr.below (Nat.le_refl _) fun _ _ e => e.elim⟩
end Go.Proofs.YtlkeomcillencaaGreat
end
section
/- Layer 20: the document's Leave. -/
namespace Go.Proofs.YtlkeomcillencaaGreat
open Go Go.RowKit Go.Maps Go.Sort Go.Shelf Go.Lib

def leaveXs (X : List Rx) (id : Int) (ks : List (List UInt8)) : List Rx := ks.foldl (fun X k => partXs X id k) X
theorem leaveXs_snoc (X : List Rx) (id : Int) (ks : List (List UInt8)) (k : List UInt8) : leaveXs X id (ks ++ [k]) = partXs (leaveXs X id ks) id k := by unfold leaveXs; rw [List.foldl_append]; rfl
theorem PartD.on {base : Nat} {w w' : World} {e : Ending} {R n : Nat} {v : Value} {C : Nat → Tag} {mr mj mb : Int} {E : List RdE} (h : RdPh base w R v C mr mj mb E) (hl : RdLg n E) {id : Int} {f : RdE} (hf : f ∈ E) (hm : onD id f = true) (hp : PartD base R C mr mj mb E id (keyD f) w e w') :
    e = .returned (.bool true) ∧ ∃ E', RdTo base R C mr mj mb E' w w' ∧ RdLg n E' ∧ E'.map (·.x) = partXs (E.map (·.x)) id (keyD f) ∧ ∀ g ∈ E, keyD g ≠ keyD f → g ∈ E' := by
  rcases hp with ⟨h1, _⟩ | ⟨E1, f2, E2, rfl, hk, hm2, rfl, hc⟩
  · have := h1 f (getD_of h.keys hf)
    rw [hm] at this; cases this
  · have e1 := getD_of h.keys hf
    have e2 := getD_of h.keys (e := f2) (by simp)
    rw [hk, e1] at e2
    cases e2
    have hkk := h.keys
    have hoth : ∀ g ∈ E1 ++ f :: E2, keyD g ≠ keyD f → g ∈ E1 ∨ g ∈ E2 := fun g hg hne => by
      rcases memD_mid.1 hg with a | rfl | a
      · exact .inl a
      · exact absurd rfl hne
      · exact .inr a
    refine ⟨rfl, ?_⟩
    rcases hc with ⟨hd, hto⟩ | ⟨hd, q', hto⟩
    · refine ⟨_, hto, ⟨?_, fun e he => ?_, fun e he => ?_, fun e he => ?_⟩, ?_, fun g hg hne => List.mem_append.2 (hoth g hg hne)⟩
      · have := hl.elen; simp at this ⊢; omega
      all_goals try
        have he2 : e ∈ E1 ++ f :: E2 := by
          rcases List.mem_append.1 he with a | a
          · exact memD_mid.2 (.inl a)
          · exact memD_mid.2 (.inr (.inr a))
      · exact hl.llen e he2
      · exact hl.gs e he2
      · exact hl.nms e he2
      · have : partXr id (keyD f) f.x = none := by unfold partXr; rw [if_pos ⟨rfl, hm⟩, if_pos hd]
        rw [partXs_mid hkk, this, List.map_append]; rfl
    · refine ⟨_, hto, ⟨?_, fun e he => ?_, fun e he => ?_, fun e he => ?_⟩, ?_, fun g hg hne => memD_mid.2 ((hoth g hg hne).elim .inl fun a => .inr (.inr a))⟩
      · have := hl.elen; simp at this ⊢; omega
      · rcases memD_mid.1 he with a | rfl | a
        · exact hl.llen e (memD_mid.2 (.inl a))
        · exact Nat.le_trans (dropX_len _ _) (hl.llen f (by simp))
        · exact hl.llen e (memD_mid.2 (.inr (.inr a)))
      · rcases memD_mid.1 he with a | rfl | a
        · exact hl.gs e (memD_mid.2 (.inl a))
        · exact (dropX_gs _ _).trans (hl.gs f (by simp))
        · exact hl.gs e (memD_mid.2 (.inr (.inr a)))
      · rcases memD_mid.1 he with a | rfl | a
        · exact hl.nms e (memD_mid.2 (.inl a))
        · show (dropX f.x id).nm.length ≤ 1000; rw [dropX_nm]; exact hl.nms f (by simp)
        · exact hl.nms e (memD_mid.2 (.inr (.inr a)))
      · have : partXr id (keyD f) f.x = some (dropX f.x id) := by unfold partXr; rw [if_pos ⟨rfl, hm⟩, if_neg hd]
        rw [partXs_mid hkk, this, List.map_append]; rfl
/-- how far Leave has come -/
def LeaD (base R n : Nat) (C : Nat → Tag) (mr mj mb : Int) (E : List RdE) (id : Int) (S : List RdE) (i : Nat) (w W : World) : Prop :=
  ∃ v' C' E', RdPh base W R v' C' mr mj mb E' ∧ Onto C C' w W ∧ RdLg n E' ∧ (∀ e ∈ S.drop i, e ∈ E') ∧ E'.map (·.x) = leaveXs (E.map (·.x)) id ((S.take i).map keyD)
theorem LeaD.step {base R n : Nat} {C : Nat → Tag} {mr mj mb : Int} {E : List RdE} {id : Int} {S : List RdE} {i : Nat} {w W W' : World} {e : Ending} (hi : i < S.length) (hup : S.Pairwise fun a b => keyD a < keyD b) (hon : onD id S[i] = true)
    {v' : Value} {C' : Nat → Tag} {E' : List RdE} (h1 : RdPh base W R v' C' mr mj mb E') (h2 : Onto C C' w W) (h3 : RdLg n E') (h4 : ∀ e ∈ S.drop i, e ∈ E') (h5 : E'.map (·.x) = leaveXs (E.map (·.x)) id ((S.take i).map keyD))
    (hp : PartD base R C' mr mj mb E' id (keyD S[i]) W e W') : e = .returned (.bool true) ∧ LeaD base R n C mr mj mb E id S (i + 1) w W' := by
  have hm : S[i] ∈ E' := h4 _ (by rw [List.drop_eq_getElem_cons hi]; exact List.mem_cons_self ..)
  obtain ⟨he, E2, ⟨v2, C2, k1, k2⟩, k3, k4, k5⟩ := hp.on h1 h3 hm hon
  refine ⟨he, v2, C2, E2, k1, h2.trans k2, k3, fun g hg => ?_, ?_⟩
  · refine k5 g (h4 g (by rw [List.drop_eq_getElem_cons hi]; exact List.mem_cons_of_mem _ hg)) fun e9 => ?_
    obtain ⟨j, hj, rfl⟩ := List.getElem_of_mem hg
    rw [List.length_drop] at hj
    rw [List.getElem_drop] at e9
    have := List.pairwise_iff_getElem.1 hup i (i + 1 + j) hi (by omega) (by omega)
    rw [e9] at this
    exact absurd this (tirr _)
  · rw [List.take_succ_eq_append_getElem hi, List.map_append, List.map_cons, List.map_nil, leaveXs_snoc, ← h5, k4]
/-- what the document's Leave does -/
def LeaveD (base R n : Nat) (C : Nat → Tag) (mr mj mb : Int) (E : List RdE) (id : Int) (w : World) (e : Ending) (w' : World) : Prop :=
  ∃ (S E' : List RdE), S.Perm (E.filter (onD id)) ∧ (S.Pairwise fun a b => keyD a < keyD b) ∧ e = .returned (.int .i64 (S.length : Nat)) ∧ RdTo base R C mr mj mb E' w w' ∧ RdLg n E' ∧ E'.map (·.x) = leaveXs (E.map (·.x)) id (S.map keyD)
set_option maxRecDepth 100000 in
set_option maxHeartbeats 16000000 in
theorem refLeave_any {base : Nat} {w : World} {R : Nat} {v : Value} {C : Nat → Tag} {mr mj mb : Int} {E : List RdE} (h : RdPh base w R v C mr mj mb E) {n : Nat} (hl : RdLg n E) (hn : n ≤ 1000) (id : Int) :
    Calls Tryz.prog 13 #[.pointer (some ⟨R, 0, none⟩), .int .i64 id] w (LeaveD base R n C mr mj mb E id w) := by
  obtain ⟨P, hP⟩ : ∃ P, LeaveD base R n C mr mj mb E id w = P := ⟨_, rfl⟩
  rw [hP]
  have HOf := Lib.hid (refOf_id h hl hn id)
  have H := Lib.hid (And.intro h (And.intro hl (And.intro hn hP)))
  clear h hl hn hP
  go_enter Tryz.func13, Tryz.ntmps13
  go_wp2_with fail
  refine HOf.out.mono ?_
  rintro e w1 ⟨⟨vS, S, rfl, hS1, hS2, hS3⟩, b1⟩
  clear HOf
  obtain ⟨h, hl, hn, hP⟩ := H.out
  obtain ⟨A, c, rfl⟩ := row_slice hS1
  rw [List.length_map] at hS1 ⊢
  have hSl : S.length ≤ 1000 := by
    have := hS2.length_eq
    have h3 := List.length_filter_le (onD id) E
    have := hl.elen
    omega
  have hSE : ∀ e ∈ S, e ∈ E ∧ onD id e = true := fun e he => List.mem_filter.1 (hS2.mem_iff.1 he)
  have hC : ∀ k, w.heap.size ≤ k → C k = tag0 := h.cN
  have HRow := Lib.hid (fun W (hW : Fr (fun k => C k ≠ tag0) w1 W) (j : Nat) (hj : j < S.length) => (by
    obtain ⟨g, rfl, hg, hc⟩ := reads_ownPd hS1 (by rw [List.length_map]; omega)
    have h1 := hc j (by rw [List.length_map]; exact hj)
    rw [List.getElem_map, Nat.zero_add] at h1
    refine ⟨g, rfl, (hW.cell (p := ⟨g, j, none⟩) hg fun e => e (hC g (hS1.lt g rfl).1)).trans h1⟩ : ∃ g, A = some ⟨g, 0, none⟩ ∧ W.cell? ⟨g, j, none⟩ = some (.pointer (some ⟨S[j].B, 0, none⟩))))
  have G0 : Hid (LeaD base R n C mr mj mb E id S 0 w1 w1) := Lib.hid ⟨v, C, E, h.below b1, Onto.refl _ _, hl, fun e he => (hSE e (by simpa using he)).1, by simp [leaveXs]⟩
  have HS := Lib.hid (And.intro hS2 (And.intro hS3 (And.intro hSE b1)))
  clear h hl hn hP hS1 hS2 hS3 hSE b1 hC
  go_wp2_with fail
  go_loopw [6] (fun t wr => ∃ i : Nat, t = .int .i64 i ∧ i ≤ S.length ∧ Hid (LeaD base R n C mr mj mb E id S i w1 wr)) (fun t _ => S.length - (RowKit.intOf t).toNat)
  case atStart => exact ⟨0, rfl, Nat.zero_le _, G0⟩
  case round =>
    obtain ⟨i, rfl, hi, HG⟩ := hrel
    clear G0
    by_cases hlt : i < S.length
    · obtain ⟨v2, C2, E2, h1, h2, h3, h4, h5⟩ := HG.out
      obtain ⟨g, rfl, t1⟩ := HRow.out wr h2.2 i hlt
      obtain ⟨x, hx⟩ : ∃ x, S[i] = x := ⟨_, rfl⟩
      rw [hx] at t1
      have hxE : x ∈ E2 := h4 _ (by rw [List.drop_eq_getElem_cons hlt, hx]; exact List.mem_cons_self ..)
      obtain ⟨nx, hnx⟩ : ∃ nx, x.x.nm = nx := ⟨_, rfl⟩
      obtain ⟨xB, hxB⟩ : ∃ xB, x.B = xB := ⟨_, rfl⟩
      have t2 := blk_cell (h1.each x hxE).1 0
      rw [hxB] at t1 t2
      have t3 : wr.cell? ⟨xB, 0, none⟩ = some (.string (bs nx)) := by rw [← hnx]; exact t2
      have hnl : nx.length ≤ 1000 := by rw [← hnx]; exact h3.nms x hxE
      have hkx : foldL nx = keyD S[i] := by rw [hx]; unfold keyD; rw [hnx]
      have HPt := Lib.hid (refPart_any h1 h3 H.out.2.2.1 id nx hnl)
      rw [hkx] at HPt
      have hst := Lib.hid (fun (e : Ending) (W' : World) (hp : PartD base R C2 mr mj mb E2 id (keyD S[i]) wr e W') => LeaD.step hlt HS.out.2.1 (HS.out.2.2.1 _ (List.getElem_mem hlt)).2 h1 h2 h3 h4 h5 hp)
      have q0 : (0 : Int) ≤ (i : Int) := by omega
      have n1 : (i : Int) < (S.length : Int) := by omega
      have n2 : decide ((i : Int) < (S.length : Int)) = true := by simp; omega
      clear h1 h2 h3 h4 h5 hx hxE hnx hxB t2 hnl hkx HG
      go_wp2_with fail
      refine HPt.out.mono ?_
      intro e w5 hp
      obtain ⟨rfl, G5⟩ := hst.out e w5 hp
      have HG5 := Lib.hid G5
      clear G5 hp hst HPt
      go_wp2_with fail
      go_roundw
      case rel => exact ⟨i + 1, by go_num, by omega, HG5⟩
      case measure => simp [RowKit.intOf]; omega
    · have n1 : ¬ (i : Int) < (S.length : Int) := by omega
      have n2 : decide ((i : Int) < (S.length : Int)) = false := by simp; omega
      go_wp2_with fail
      rw [← H.out.2.2.2]
      obtain ⟨v2, C2, E2, h1, h2, h3, h4, h5⟩ := HG.out
      rw [show i = S.length by omega, List.take_length] at h5
      exact ⟨S, E2, HS.out.1, HS.out.2.1, rfl, ⟨v2, C2, h1, (Onto.of_below C HS.out.2.2.2).trans h2⟩, h3, h5⟩
end Go.Proofs.YtlkeomcillencaaGreat
end
section
/- Layer 20: what the steps answer, on both sides. -/
namespace Go.Proofs.YtlkeomcillencaaGreat
open Go Go.RowKit Go.Maps Go.Sort Go.Shelf Go.Lib

section
variable {n m base : Nat} {mr mj mb : Int} {R P : Nat} {w0 w w' : World}
/-- behind a step of the program, all laid open -/
theorem left_open {t b tr : Nat} {X : Nat → Prop} {C D : Nat → Tag} {Q Q' : List RmE} {L L' : List (Int × List UInt8)} {v : Value} {E : List RdE} (hup : RowKit.Below base w0 w) (h0 : base ≤ w0.heap.size)
    (h1 : RsPh base w R t b tr X C mr mj mb Q L) (h4 : RdPh base w P v D mr mj mb E) (h7 : ∀ k, C k = tag0 ∨ D k = tag0) (hs : RsTo base R C mr mj mb Q' L' w w') :
    ∃ t2 b2 tr2 X2 C2, RsPh base w' R t2 b2 tr2 X2 C2 mr mj mb Q' L' ∧ RdPh base w' P v D mr mj mb E ∧ (∀ k, C2 k = tag0 ∨ D k = tag0) ∧ RowKit.Below base w0 w' ∧ (∀ k, k < w.heap.size → C2 k = C k) ∧ Fr (fun k => C k ≠ tag0) w w' := by
  obtain ⟨t2, b2, tr2, X2, C2, k1, k2, k3⟩ := hs
  refine ⟨t2, b2, tr2, X2, C2, k1, h4.fr k3 fun k hk e => ?_, fun k => ?_, h1.up k3 (Nat.le_refl _) hup h0, k2, k3⟩
  · rcases h7 k with a | a
    · exact e a
    · exact hk a
  · by_cases hk : k < w.heap.size
    · rw [k2 k hk]; exact h7 k
    · exact .inr (h4.cN k (by omega))
/-- behind a step of the document, all laid open -/
theorem right_open {t b tr : Nat} {X : Nat → Prop} {C D : Nat → Tag} {Q : List RmE} {L : List (Int × List UInt8)} {v : Value} {E E' : List RdE} (hup : RowKit.Below base w0 w) (h0 : base ≤ w0.heap.size)
    (h1 : RsPh base w R t b tr X C mr mj mb Q L) (h4 : RdPh base w P v D mr mj mb E) (h7 : ∀ k, C k = tag0 ∨ D k = tag0) (hs : RdTo base P D mr mj mb E' w w') :
    ∃ v2 D2, RsPh base w' R t b tr X C mr mj mb Q L ∧ RdPh base w' P v2 D2 mr mj mb E' ∧ (∀ k, C k = tag0 ∨ D2 k = tag0) ∧ RowKit.Below base w0 w' ∧ (∀ k, k < w.heap.size → D2 k = D k) ∧ Fr (fun k => D k ≠ tag0) w w' := by
  obtain ⟨v2, D2, k1, k2, k3⟩ := hs
  refine ⟨v2, D2, h1.fr k3 fun k hk e => ?_, k1, fun k => ?_, h4.up k3 (Nat.le_refl _) hup h0, k2, k3⟩
  · rcases h7 k with a | a
    · exact hk a
    · exact e a
  · by_cases hk : k < w.heap.size
    · rw [k2 k hk]; exact h7 k
    · exact .inl (h1.cN k (by omega))
end
/-- is somebody on the room of this name? -/
def onKA (A : List Rm) (id : Int) (k : List UInt8) : Bool := A.any fun r => decide (foldL r.nm = k) && hasM r.mem id
def onKX (X : List Rx) (id : Int) (k : List UInt8) : Bool := X.any fun x => decide (foldL x.nm = k) && onX id x
theorem RelL.onK : ∀ {A : List Rm} {X : List Rx}, RelL A X → ∀ id k, onKA A id k = onKX X id k
  | [], [], _, _, _ => rfl
  | r :: A, x :: X, h, id, k => by
    have ih := h.2.onK id k
    unfold onKA onKX at ih ⊢
    rw [List.any_cons, List.any_cons, ih, h.1.has id, h.1.1]
theorem onKA_iff {Q : List RmE} {id : Int} {k : List UInt8} : onKA (Q.map (·.r)) id k = true ↔ ∃ e ∈ Q, keyE e = k ∧ hasM e.r.mem id = true := by
  unfold onKA
  rw [List.any_map, List.any_eq_true]
  constructor
  · rintro ⟨e, he, h⟩
    have h2 := Bool.and_eq_true_iff.1 h
    exact ⟨e, he, of_decide_eq_true h2.1, h2.2⟩
  · rintro ⟨e, he, h1, h2⟩
    exact ⟨e, he, Bool.and_eq_true_iff.2 ⟨decide_eq_true h1, h2⟩⟩
theorem onKX_iff {E : List RdE} {id : Int} {k : List UInt8} : onKX (E.map (·.x)) id k = true ↔ ∃ e ∈ E, keyD e = k ∧ onD id e = true := by
  unfold onKX
  rw [List.any_map, List.any_eq_true]
  constructor
  · rintro ⟨e, he, h⟩
    have h2 := Bool.and_eq_true_iff.1 h
    exact ⟨e, he, of_decide_eq_true h2.1, h2.2⟩
  · rintro ⟨e, he, h1, h2⟩
    exact ⟨e, he, Bool.and_eq_true_iff.2 ⟨decide_eq_true h1, h2⟩⟩
theorem onKA_pairs {n : Nat} {Q : List RmE} {L : List (Int × List UInt8)} (hl : RsLg n Q L) (id : Int) (k : List UInt8) : decide ((id, k) ∈ L) = onKA (Q.map (·.r)) id k := by
  rw [Bool.eq_iff_iff, decide_eq_true_eq, hl.pairs, onKA_iff]
/-- what the document's Part answers -/
theorem PartD.val {base : Nat} {w w' : World} {e : Ending} {R : Nat} {v : Value} {C : Nat → Tag} {mr mj mb : Int} {E : List RdE} (h : RdPh base w R v C mr mj mb E) {id : Int} {k : List UInt8} (hp : PartD base R C mr mj mb E id k w e w') : e = .returned (.bool (onKX (E.map (·.x)) id k)) := by
  rcases hp with ⟨h1, rfl, _⟩ | ⟨E1, f, E2, rfl, hk, hm, rfl, _⟩
  · have : onKX (E.map (·.x)) id k = false := by
      cases hb : onKX (E.map (·.x)) id k with
      | false => rfl
      | true =>
        obtain ⟨f, hf, e1, e2⟩ := onKX_iff.1 hb
        have h2 := h1 f (by rw [← e1]; exact getD_of h.keys hf)
        rw [e2] at h2; cases h2
    rw [this]
  · rw [onKX_iff.2 ⟨f, by simp, hk, hm⟩]
theorem RelL.leave {A : List Rm} {X : List Rx} (id : Int) : ∀ (ks : List (List UInt8)) {A : List Rm} {X : List Rx}, RelL A X → RelL (leaveA A id ks) (leaveXs X id ks)
  | [], _, _, h => h
  | k :: ks, A, X, h => by
    have h2 := h.part id k
    exact RelL.leave (A := A) (X := X) id ks h2
/-- the names of somebody's rooms are the same on both sides -/
theorem names_both {n : Nat} {Q : List RmE} {L : List (Int × List UInt8)} (hl : RsLg n Q L) {E S : List RdE} (hr : RelL (Q.map (·.r)) (E.map (·.x))) {id : Int} {xs : List (List UInt8)} (h1 : xs.Pairwise (· < ·)) (h2 : ∀ k, k ∈ xs ↔ (id, k) ∈ L) (h3 : S.Perm (E.filter (onD id))) (h4 : S.Pairwise fun a b => keyD a < keyD b) : xs = S.map keyD := by
  refine up_extS h1 (by rw [List.pairwise_map]; exact h4) fun k => ?_
  rw [h2, ← decide_eq_true_eq (p := (id, k) ∈ L), onKA_pairs hl, hr.onK, onKX_iff, List.mem_map]
  constructor
  · rintro ⟨e, he, h5, h6⟩; exact ⟨e, h3.mem_iff.2 (List.mem_filter.2 ⟨he, h6⟩), h5⟩
  · rintro ⟨e, he, h5⟩
    have := List.mem_filter.1 (h3.mem_iff.1 he)
    exact ⟨e, this.1, h5, this.2⟩
/-- rows in the order of their names stand in pairs -/
theorem rel_row {Q S1 : List RmE} {E S2 : List RdE} (hr : RelL (Q.map (·.r)) (E.map (·.x))) (hkQ : (Q.map keyE).Nodup) (hkE : (E.map keyD).Nodup) (h1 : ∀ e ∈ S1, e ∈ Q) (h2 : ∀ e ∈ S2, e ∈ E) (hk : S1.map keyE = S2.map keyD) : S1.length = S2.length ∧ ∀ j (a : j < S1.length) (b : j < S2.length), R1 S1[j].r S2[j].x := by
  have hlen : S1.length = S2.length := by have := congrArg List.length hk; simpa using this
  refine ⟨hlen, fun j a b => ?_⟩
  have e1 : keyE S1[j] = keyD S2[j] := by
    have : (S1.map keyE)[j]'(by rw [List.length_map]; exact a) = (S2.map keyD)[j]'(by rw [List.length_map]; exact b) := by simp only [hk]
    rwa [List.getElem_map, List.getElem_map] at this
  have q1 := h1 _ (List.getElem_mem a)
  have q2 := h2 _ (List.getElem_mem b)
  have g1 := getE_of hkQ q1
  have g2 := getD_of hkE q2
  have g1' : getA (Q.map (·.r)) (keyE S1[j]) = some S1[j].r := by
    unfold getA
    have : getE Q (keyE S1[j]) = Q.find? fun e => decide (keyE e = keyE S1[j]) := rfl
    rw [List.find?_map, show ((fun r : Rm => decide (foldL r.nm = keyE S1[j])) ∘ fun e : RmE => e.r) = fun e => decide (keyE e = keyE S1[j]) from rfl, ← this, g1]; rfl
  have g2' : getXs (E.map (·.x)) (keyE S1[j]) = some S2[j].x := by rw [getXs_map, e1, g2]; rfl
  rcases hr.get (keyE S1[j]) with ⟨a1, _⟩ | ⟨r, x, a1, a2, a3⟩
  · rw [g1'] at a1; cases a1
  · rw [g1'] at a1; rw [g2'] at a2
    cases a1; cases a2
    exact a3
/-- all rooms, in the order of their names -/
theorem all_keys {Q S1 : List RmE} {E S2 : List RdE} (hr : RelL (Q.map (·.r)) (E.map (·.x))) (h1 : S1.Pairwise fun x y => keyE x < keyE y) (h2 : S1.Perm Q) (h3 : S2.Pairwise fun a b => keyD a < keyD b) (h4 : S2.Perm E) : S1.map keyE = S2.map keyD := by
  have hkeys : ∀ {A : List Rm} {X : List Rx}, RelL A X → A.map (fun r => foldL r.nm) = X.map (fun x => foldL x.nm) := fun {A} => by
    induction A with
    | nil => intro X h; cases X with
      | nil => rfl
      | cons => exact h.elim
    | cons r A ih => intro X h; cases X with
      | nil => exact h.elim
      | cons x X => rw [List.map_cons, List.map_cons, ih h.2, h.1.1]
  have hk := hkeys hr
  rw [List.map_map, List.map_map] at hk
  refine up_extS (by rw [List.pairwise_map]; exact h1) (by rw [List.pairwise_map]; exact h3) fun k => ?_
  have a1 : k ∈ S1.map keyE ↔ k ∈ Q.map ((fun r => foldL r.nm) ∘ fun e : RmE => e.r) := (h2.map keyE).mem_iff
  have a2 : k ∈ S2.map keyD ↔ k ∈ E.map ((fun x => foldL x.nm) ∘ fun e : RdE => e.x) := (h4.map keyD).mem_iff
  rw [a1, a2, hk]
/-- somebody's rooms, in the order of their names -/
theorem own_keys {Q S1 : List RmE} {E S2 : List RdE} (hr : RelL (Q.map (·.r)) (E.map (·.x))) {id : Int} (h1 : S1.Pairwise fun x y => keyE x < keyE y) (h2 : S1.Perm (ofQ Q id)) (h3 : S2.Pairwise fun a b => keyD a < keyD b) (h4 : S2.Perm (E.filter (onD id))) : S1.map keyE = S2.map keyD := by
  refine up_extS (by rw [List.pairwise_map]; exact h1) (by rw [List.pairwise_map]; exact h3) fun k => ?_
  have a1 : k ∈ S1.map keyE ↔ onKA (Q.map (·.r)) id k = true := by
    rw [List.mem_map, onKA_iff]
    constructor
    · rintro ⟨e, he, h5⟩
      have := List.mem_filter.1 (h2.mem_iff.1 he)
      exact ⟨e, this.1, h5, this.2⟩
    · rintro ⟨e, he, h5, h6⟩; exact ⟨e, h2.mem_iff.2 (List.mem_filter.2 ⟨he, h6⟩), h5⟩
  have a2 : k ∈ S2.map keyD ↔ onKX (E.map (·.x)) id k = true := by
    rw [List.mem_map, onKX_iff]
    constructor
    · rintro ⟨e, he, h5⟩
      have := List.mem_filter.1 (h4.mem_iff.1 he)
      exact ⟨e, this.1, h5, this.2⟩
    · rintro ⟨e, he, h5, h6⟩; exact ⟨e, h4.mem_iff.2 (List.mem_filter.2 ⟨he, h6⟩), h5⟩
  rw [a1, a2, hr.onK]
end Go.Proofs.YtlkeomcillencaaGreat
end
section
/- Layer 20: both sides' steps with their answers; named. -/
namespace Go.Proofs.YtlkeomcillencaaGreat
open Go Go.RowKit Go.Maps Go.Sort Go.Shelf Go.Lib

/-- both tables, a box that is neither's, and something of their rooms -/
structure TwoF (Φ : List RmE → List RdE → Prop) (Ba : Nat) (o : Obj) (n m base : Nat) (mr mj mb : Int) (R P : Nat) (A : List Rm) (Xs : List Rx) (w0 w : World) : Prop where
  st : ∃ t b tr X C Q L v D E, RsPh base w R t b tr X C mr mj mb Q L ∧ RsLg n Q L ∧ Q.map (·.r) = A ∧ RdPh base w P v D mr mj mb E ∧ RdLg m E ∧ E.map (·.x) = Xs ∧ (∀ k, C k = tag0 ∨ D k = tag0) ∧ (w.heap[Ba]? = some o ∧ C Ba = tag0 ∧ D Ba = tag0) ∧ Φ Q E
  up : RowKit.Below base w0 w
section
variable {n m base Ba : Nat} {o : Obj} {mr mj mb : Int} {R P : Nat} {A : List Rm} {Xs : List Rx} {w0 w w' : World} {Φ : List RmE → List RdE → Prop}
theorem TwoF.two (h : TwoF Φ Ba o n m base mr mj mb R P A Xs w0 w) : Two20 n m base mr mj mb R P A Xs w0 w := by
  obtain ⟨⟨t, b, tr, X, C, Q, L, v, D, E, h1, h2, h3, h4, h5, h6, h7, _⟩, h8⟩ := h
  exact ⟨⟨t, b, tr, X, C, Q, L, v, D, E, h1, h2, h3, h4, h5, h6, h7⟩, h8⟩
theorem TwoF.box (h : TwoF Φ Ba o n m base mr mj mb R P A Xs w0 w) : w.heap[Ba]? = some o := by
  obtain ⟨⟨t, b, tr, X, C, Q, L, v, D, E, h1, h2, h3, h4, h5, h6, h7, h8, _⟩, _⟩ := h
  exact h8.1
theorem TwoF.below (h : TwoF Φ Ba o n m base mr mj mb R P A Xs w0 w) (hb : RowKit.Below w.heap.size w w') : TwoF Φ Ba o n m base mr mj mb R P A Xs w0 w' := by
  obtain ⟨⟨t, b, tr, X, C, Q, L, v, D, E, h1, h2, h3, h4, h5, h6, h7, ⟨b1, b2, b3⟩, h9⟩, h8⟩ := h
  exact ⟨⟨t, b, tr, X, C, Q, L, v, D, E, h1.below hb, h2, h3, h4.below hb, h5, h6, h7, ⟨(Fr.of_below (X := fun _ => False) hb).blk b1 fun e => e, b2, b3⟩, h9⟩, h8.trans (hb.mono (by have := h1.base_le; omega))⟩
theorem TwoF.more (h : TwoF Φ Ba o n m base mr mj mb R P A Xs w0 w) : TwoF (fun _ _ => True) Ba o (n + 1) (m + 1) base mr mj mb R P A Xs w0 w := by
  obtain ⟨⟨t, b, tr, X, C, Q, L, v, D, E, h1, h2, h3, h4, h5, h6, h7, h9, _⟩, h8⟩ := h
  exact ⟨⟨t, b, tr, X, C, Q, L, v, D, E, h1, h2.more (Nat.le_succ n), h3, h4, h5.more (Nat.le_succ m), h6, h7, h9, trivial⟩, h8⟩
theorem TwoF.no (h : TwoF Φ Ba o n m base mr mj mb R P A Xs w0 w) : TwoF (fun _ _ => True) Ba o n m base mr mj mb R P A Xs w0 w := by
  obtain ⟨⟨t, b, tr, X, C, Q, L, v, D, E, h1, h2, h3, h4, h5, h6, h7, h9, _⟩, h8⟩ := h
  exact ⟨⟨t, b, tr, X, C, Q, L, v, D, E, h1, h2, h3, h4, h5, h6, h7, h9, trivial⟩, h8⟩
/-- a new box -/
theorem Two20.boxed (h : Two20 n m base mr mj mb R P A Xs w0 w) (o : Obj) : TwoF (fun _ _ => True) w.heap.size o n m base mr mj mb R P A Xs w0 (w.alloc o) := by
  obtain ⟨⟨t, b, tr, X, C, Q, L, v, D, E, h1, h2, h3, h4, h5, h6, h7⟩, h8⟩ := h
  have hb : RowKit.Below w.heap.size w (w.alloc o) := (Below.refl _ w).alloc (Nat.le_refl _) _
  exact ⟨⟨t, b, tr, X, C, Q, L, v, D, E, h1.below hb, h2, h3, h4.below hb, h5, h6, h7, ⟨World.alloc_heap_new w o, h1.cN _ (Nat.le_refl _), h4.cN _ (Nat.le_refl _)⟩, trivial⟩, h8.trans (hb.mono (by have := h1.base_le; omega))⟩
theorem boxL {C C2 D : Nat → Tag} (h : w.heap[Ba]? = some o ∧ C Ba = tag0 ∧ D Ba = tag0) (hc : ∀ k, k < w.heap.size → C2 k = C k) (hf : Fr (fun k => C k ≠ tag0) w w') : w'.heap[Ba]? = some o ∧ C2 Ba = tag0 ∧ D Ba = tag0 :=
  ⟨hf.blk h.1 fun e => e h.2.1, by rw [hc _ (blk_lt h.1)]; exact h.2.1, h.2.2⟩
theorem boxR {C D D2 : Nat → Tag} (h : w.heap[Ba]? = some o ∧ C Ba = tag0 ∧ D Ba = tag0) (hc : ∀ k, k < w.heap.size → D2 k = D k) (hf : Fr (fun k => D k ≠ tag0) w w') : w'.heap[Ba]? = some o ∧ C Ba = tag0 ∧ D2 Ba = tag0 :=
  ⟨hf.blk h.1 fun e => e h.2.2, h.2.1, by rw [hc _ (blk_lt h.1)]; exact h.2.2⟩
abbrev NoF : List RmE → List RdE → Prop := fun _ _ => True
theorem two_part_pv (h : TwoF Φ Ba o n m base mr mj mb R P A Xs w0 w) (h0 : base ≤ w0.heap.size) (hn : n ≤ 80000) {id : Int} (hid : OkKIS id) {nm : List UInt8} (hnm : nm.length ≤ 1000) :
    Calls Tryz.prog 10 #[.pointer (some ⟨R, 0, none⟩), .int .i64 id, .string (bs nm)] w fun e w' => e = .returned (.bool (onKA A id (foldL nm))) ∧ TwoF NoF Ba o n m base mr mj mb R P (partA A id (foldL nm)) Xs w0 w' := by
  obtain ⟨⟨t, b, tr, X, C, Q, L, v, D, E, h1, h2, rfl, h4, h5, rfl, h7, h9, _⟩, h8⟩ := h
  refine (part_w h1 h2 hn hid hnm).mono fun e w' ⟨he, Q', k1, k2, k3⟩ => ⟨by rw [he, onKA_pairs h2], ?_⟩
  obtain ⟨t2, b2, tr2, X2, C2, q1, q2, q3, q4, q5, q6⟩ := left_open h8 h0 h1 h4 h7 k1
  exact ⟨⟨t2, b2, tr2, X2, C2, Q', _, v, D, E, q1, k2, k3, q2, h5, rfl, q3, boxL h9 q5 q6, trivial⟩, q4⟩
theorem two_part_dv (h : TwoF Φ Ba o n m base mr mj mb R P A Xs w0 w) (h0 : base ≤ w0.heap.size) (hm : m ≤ 1000) (id : Int) {nm : List UInt8} (hnm : nm.length ≤ 1000) :
    Calls Tryz.prog 11 #[.pointer (some ⟨P, 0, none⟩), .int .i64 id, .string (bs nm)] w fun e w' => e = .returned (.bool (onKX Xs id (foldL nm))) ∧ TwoF NoF Ba o n m base mr mj mb R P A (partXs Xs id (foldL nm)) w0 w' := by
  obtain ⟨⟨t, b, tr, X, C, Q, L, v, D, E, h1, h2, rfl, h4, h5, rfl, h7, h9, _⟩, h8⟩ := h
  refine (refPart_any h4 h5 hm id nm hnm).mono fun e w' hp => ?_
  obtain ⟨E', he, k1, k2, k3⟩ := hp.to h4 h5
  obtain ⟨v2, D2, q1, q2, q3, q4, q5, q6⟩ := right_open h8 h0 h1 h4 h7 k1
  exact ⟨hp.val h4, ⟨t, b, tr, X, C, Q, L, v2, D2, E', q1, h2, rfl, q2, k2, k3, q3, boxR h9 q5 q6, trivial⟩, q4⟩
theorem two_leave_p (h : TwoF Φ Ba o n m base mr mj mb R P A Xs w0 w) (h0 : base ≤ w0.heap.size) (hn : n ≤ 80000) {id : Int} (hid : OkKIS id) :
    Calls Tryz.prog 12 #[.pointer (some ⟨R, 0, none⟩), .int .i64 id] w fun e w' => ∃ xs : List (List UInt8), xs.Pairwise (· < ·) ∧ (∀ k, k ∈ xs ↔ onKA A id k = true) ∧ e = .returned (.int .i64 (xs.length : Nat)) ∧ TwoF NoF Ba o n m base mr mj mb R P (leaveA A id xs) Xs w0 w' := by
  obtain ⟨⟨t, b, tr, X, C, Q, L, v, D, E, h1, h2, rfl, h4, h5, rfl, h7, h9, _⟩, h8⟩ := h
  refine (leave_w h1 h2 hn hid).mono fun e w' ⟨xs, Q', x1, x2, he, k1, k2, k3⟩ => ⟨xs, x1, fun k => ?_, he, ?_⟩
  · rw [x2, ← onKA_pairs h2, decide_eq_true_eq]
  · obtain ⟨t2, b2, tr2, X2, C2, q1, q2, q3, q4, q5, q6⟩ := left_open h8 h0 h1 h4 h7 k1
    exact ⟨⟨t2, b2, tr2, X2, C2, Q', _, v, D, E, q1, k2, k3, q2, h5, rfl, q3, boxL h9 q5 q6, trivial⟩, q4⟩
theorem two_leave_d (h : TwoF Φ Ba o n m base mr mj mb R P A Xs w0 w) (h0 : base ≤ w0.heap.size) (hm : m ≤ 1000) (id : Int) :
    Calls Tryz.prog 13 #[.pointer (some ⟨P, 0, none⟩), .int .i64 id] w fun e w' => ∃ xs : List (List UInt8), xs.Pairwise (· < ·) ∧ (∀ k, k ∈ xs ↔ onKX Xs id k = true) ∧ e = .returned (.int .i64 (xs.length : Nat)) ∧ TwoF NoF Ba o n m base mr mj mb R P A (leaveXs Xs id xs) w0 w' := by
  obtain ⟨⟨t, b, tr, X, C, Q, L, v, D, E, h1, h2, rfl, h4, h5, rfl, h7, h9, _⟩, h8⟩ := h
  refine (refLeave_any h4 h5 hm id).mono fun e w' ⟨S, E', s1, s2, he, k1, k2, k3⟩ => ⟨S.map keyD, by rw [List.pairwise_map]; exact s2, fun k => ?_, by rw [he, List.length_map], ?_⟩
  · rw [onKX_iff, List.mem_map]
    constructor
    · rintro ⟨e, a, b⟩
      have := List.mem_filter.1 (s1.mem_iff.1 a)
      exact ⟨e, this.1, b, this.2⟩
    · rintro ⟨e, a, b, c⟩; exact ⟨e, s1.mem_iff.2 (List.mem_filter.2 ⟨a, c⟩), b⟩
  · obtain ⟨v2, D2, q1, q2, q3, q4, q5, q6⟩ := right_open h8 h0 h1 h4 h7 k1
    exact ⟨⟨t, b, tr, X, C, Q, L, v2, D2, E', q1, h2, rfl, q2, k2, k3, q3, boxR h9 q5 q6, trivial⟩, q4⟩
/-- what Join answers -/
def HasRm (B : Nat) (r : Rm) (Q : List RmE) : Prop := ∃ f ∈ Q, f.B = B ∧ f.r = r
def HasRx (B : Nat) (x : Rx) (E : List RdE) : Prop := ∃ f ∈ E, f.B = B ∧ f.x = x
theorem two_join_pn (h : TwoF Φ Ba o n m base mr mj mb R P A Xs w0 w) (h0 : base ≤ w0.heap.size) (hn : n ≤ 80000) {id : Int} (hid : OkKIS id) {nm : List UInt8} (hnm : nm.length ≤ 1000) (hno : (joinA mr mj mb A id nm).2 = none) :
    Calls Tryz.prog 14 #[.pointer (some ⟨R, 0, none⟩), .int .i64 id, .string (bs nm)] w fun e w' => e = .returned (.tuple #[.pointer none, .int .i64 405]) ∧ TwoF NoF Ba o (n + 1) m base mr mj mb R P (joinA mr mj mb A id nm).1 Xs w0 w' := by
  obtain ⟨⟨t, b, tr, X, C, Q, L, v, D, E, h1, h2, rfl, h4, h5, rfl, h7, h9, _⟩, h8⟩ := h
  refine (join_w h1 h2 hn hid hnm).mono fun e w' ⟨Q', L', k1, k2, k3, k4⟩ => ?_
  obtain ⟨t2, b2, tr2, X2, C2, q1, q2, q3, q4, q5, q6⟩ := left_open h8 h0 h1 h4 h7 k1
  refine ⟨?_, ⟨t2, b2, tr2, X2, C2, Q', L', v, D, E, q1, k2, k3, q2, h5, rfl, q3, boxL h9 q5 q6, trivial⟩, q4⟩
  rcases k4 with ⟨_, he⟩ | ⟨f, _, hs, _⟩
  · exact he
  · rw [hno] at hs; cases hs
theorem two_join_pv (h : TwoF Φ Ba o n m base mr mj mb R P A Xs w0 w) (h0 : base ≤ w0.heap.size) (hn : n ≤ 80000) {id : Int} (hid : OkKIS id) {nm : List UInt8} (hnm : nm.length ≤ 1000) {r : Rm} (hso : (joinA mr mj mb A id nm).2 = some r) :
    Calls Tryz.prog 14 #[.pointer (some ⟨R, 0, none⟩), .int .i64 id, .string (bs nm)] w fun e w' => ∃ B, e = .returned (.tuple #[.pointer (some ⟨B, 0, none⟩), .int .i64 0]) ∧ TwoF (fun Q _ => HasRm B r Q) Ba o (n + 1) m base mr mj mb R P (joinA mr mj mb A id nm).1 Xs w0 w' := by
  obtain ⟨⟨t, b, tr, X, C, Q, L, v, D, E, h1, h2, rfl, h4, h5, rfl, h7, h9, _⟩, h8⟩ := h
  refine (join_w h1 h2 hn hid hnm).mono fun e w' ⟨Q', L', k1, k2, k3, k4⟩ => ?_
  obtain ⟨t2, b2, tr2, X2, C2, q1, q2, q3, q4, q5, q6⟩ := left_open h8 h0 h1 h4 h7 k1
  rcases k4 with ⟨hs, _⟩ | ⟨f, hf, hs, he⟩
  · rw [hso] at hs; cases hs
  · rw [hso] at hs
    exact ⟨f.B, he, ⟨t2, b2, tr2, X2, C2, Q', L', v, D, E, q1, k2, k3, q2, h5, rfl, q3, boxL h9 q5 q6, ⟨f, hf, rfl, (Option.some.inj hs).symm⟩⟩, q4⟩
theorem two_join_dn (h : TwoF Φ Ba o n m base mr mj mb R P A Xs w0 w) (h0 : base ≤ w0.heap.size) (hm : m ≤ 1000) (id : Int) {nm : List UInt8} (hnm : nm.length ≤ 1000) (hno : (joinXs mr mj mb Xs id nm).2 = none) :
    Calls Tryz.prog 15 #[.pointer (some ⟨P, 0, none⟩), .int .i64 id, .string (bs nm)] w fun e w' => e = .returned (.tuple #[.pointer none, .int .i64 405]) ∧ TwoF NoF Ba o n (m + 1) base mr mj mb R P A (joinXs mr mj mb Xs id nm).1 w0 w' := by
  obtain ⟨⟨t, b, tr, X, C, Q, L, v, D, E, h1, h2, rfl, h4, h5, rfl, h7, h9, _⟩, h8⟩ := h
  refine (refJoin_any h4 h5 hm id nm hnm).mono fun e w' hp => ?_
  obtain ⟨E', k1, k2, k3, k4⟩ := hp.to h4 h5 hnm
  obtain ⟨v2, D2, q1, q2, q3, q4, q5, q6⟩ := right_open h8 h0 h1 h4 h7 k1
  refine ⟨?_, ⟨t, b, tr, X, C, Q, L, v2, D2, E', q1, h2, rfl, q2, k2, k3, q3, boxR h9 q5 q6, trivial⟩, q4⟩
  rcases k4 with ⟨_, he⟩ | ⟨f, _, hs, _⟩
  · exact he
  · rw [hno] at hs; cases hs
theorem two_join_dv {B : Nat} {r : Rm} {x : Rx} (h : TwoF (fun Q _ => HasRm B r Q) Ba o n m base mr mj mb R P A Xs w0 w) (h0 : base ≤ w0.heap.size) (hm : m ≤ 1000) (id : Int) {nm : List UInt8} (hnm : nm.length ≤ 1000) (hso : (joinXs mr mj mb Xs id nm).2 = some x) :
    Calls Tryz.prog 15 #[.pointer (some ⟨P, 0, none⟩), .int .i64 id, .string (bs nm)] w fun e w' => ∃ B2, e = .returned (.tuple #[.pointer (some ⟨B2, 0, none⟩), .int .i64 0]) ∧ TwoF (fun Q E => HasRm B r Q ∧ HasRx B2 x E) Ba o n (m + 1) base mr mj mb R P A (joinXs mr mj mb Xs id nm).1 w0 w' := by
  obtain ⟨⟨t, b, tr, X, C, Q, L, v, D, E, h1, h2, rfl, h4, h5, rfl, h7, h9, hQ⟩, h8⟩ := h
  refine (refJoin_any h4 h5 hm id nm hnm).mono fun e w' hp => ?_
  obtain ⟨E', k1, k2, k3, k4⟩ := hp.to h4 h5 hnm
  obtain ⟨v2, D2, q1, q2, q3, q4, q5, q6⟩ := right_open h8 h0 h1 h4 h7 k1
  rcases k4 with ⟨hs, _⟩ | ⟨f, hf, hs, he⟩
  · rw [hso] at hs; cases hs
  · rw [hso] at hs
    exact ⟨f.B, he, ⟨t, b, tr, X, C, Q, L, v2, D2, E', q1, h2, rfl, q2, k2, k3, q3, boxR h9 q5 q6, hQ, ⟨f, hf, rfl, (Option.some.inj hs).symm⟩⟩, q4⟩
end
theorem named_nil (w : World) : Calls Tryz.prog 17 #[.pointer none] w fun e w' => e = .returned (.string (bs [])) ∧ w' = w := by
  go_enter Tryz.func17, Tryz.ntmps17
  go_wp2_with fail
  go_ret
  exact ⟨rfl, rfl⟩
theorem named_at {B : Nat} {q : RxV} {x : Rx} {w : World} (h : w.heap[B]? = some (rxO x q)) : Calls Tryz.prog 17 #[.pointer (some ⟨B, 0, none⟩)] w fun e w' => e = .returned (.string (bs x.nm)) ∧ w' = w := by
  have c0 : w.cell? ⟨B, 0, none⟩ = some (.string (bs x.nm)) := blk_cell h 0
  clear h
  go_enter Tryz.func17, Tryz.ntmps17
  go_wp2_with fail
  go_ret
  exact ⟨rfl, rfl⟩
section
variable {n m base Ba : Nat} {o : Obj} {mr mj mb : Int} {R P : Nat} {A : List Rm} {Xs : List Rx} {w0 w w' : World} {B B2 : Nat} {r : Rm} {x : Rx}
/-- the names of rooms that were given -/
theorem name_of (h : TwoF (fun Q E => HasRm B r Q ∧ HasRx B2 x E) Ba o n m base mr mj mb R P A Xs w0 w) : Calls Tryz.prog 16 #[.pointer (some ⟨B, 0, none⟩)] w fun e w' => e = .returned (.string (bs r.nm)) ∧ w' = w := by
  obtain ⟨⟨t, b, tr, X, C, Q, L, v, D, E, h1, h2, _, h4, h5, _, h7, _, ⟨f, hf, rfl, rfl⟩, _⟩, h8⟩ := h
  exact name_any (h1.each f hf).1
theorem named_of (h : TwoF (fun Q E => HasRm B r Q ∧ HasRx B2 x E) Ba o n m base mr mj mb R P A Xs w0 w) : Calls Tryz.prog 17 #[.pointer (some ⟨B2, 0, none⟩)] w fun e w' => e = .returned (.string (bs x.nm)) ∧ w' = w := by
  obtain ⟨⟨t, b, tr, X, C, Q, L, v, D, E, h1, h2, _, h4, h5, _, h7, _, _, ⟨f, hf, rfl, rfl⟩⟩, h8⟩ := h
  exact named_at (h4.each f hf).1
end
theorem TalePr.below {base : Nat} {w w' : World} {F : Value} {xs : List Nat} (h : TalePr base w F xs) (hb : RowKit.Below w.heap.size w w') : TalePr base w' F xs := by
  obtain ⟨B, v, h1, h2, h3, h4, h5⟩ := h
  have hf : Fr (fun _ => False) w w' := Fr.of_below hb
  exact ⟨B, v, h1, h2, hf.blk h3 fun e => e, h4, row_same h5 fun g hg => hf.block g (World.ownsRow.lt h5 g hg).2 fun e => e⟩
end Go.Proofs.YtlkeomcillencaaGreat
end
