/- Texts of this proof, one behind the other. -/
import Derived.Test.YtlkeomcillencaaGreatRoomsPlayG16
import Derived.LaidEqlPtr
set_option linter.unusedVariables false
set_option linter.unusedSimpArgs false
section
/- Layer 20: the document's Of. -/
namespace Go.Proofs.YtlkeomcillencaaGreat
open Go Go.RowKit Go.Maps Go.Sort Go.Shelf Go.Lib

theorem insert_perm {α : Type} (S : List α) (x : α) (q : Nat) : (S.take q ++ x :: S.drop q).Perm (x :: S) := by
  have h := List.perm_middle (a := x) (l₁ := S.take q) (l₂ := S.drop q)
  rwa [List.take_append_drop] at h
theorem ins_sorted {S : List RdE} {x : RdE} {q : Nat} (hs : S.Pairwise fun a b => keyD a < keyD b) (hq : q ≤ S.length) (hn : ∀ e ∈ S, keyD e ≠ keyD x) (h1 : ∀ r (hr : r < S.length), q ≤ r → keyD x < keyD S[r]) (h2 : ∀ p (hp : p < S.length), p + 1 = q → ¬ keyD x < keyD S[p]) : (S.take q ++ x :: S.drop q).Pairwise fun a b => keyD a < keyD b := by
  have low : ∀ e ∈ S.take q, keyD e < keyD x := fun e he => by
    obtain ⟨j, hj, rfl⟩ := List.getElem_of_mem he
    rw [List.length_take] at hj
    rw [List.getElem_take]
    have hp : q - 1 < S.length := by omega
    have h3 := h2 (q - 1) hp (by omega)
    have h4 : keyD S[q - 1] < keyD x := by
      rcases ttri (keyD S[q - 1]) (keyD x) with a | a | a
      · exact a
      · exact absurd a (hn _ (List.getElem_mem _))
      · exact absurd a h3
    by_cases e : j = q - 1
    · subst e; exact h4
    · exact ttr (List.pairwise_iff_getElem.1 hs j (q - 1) (by omega) hp (by omega)) h4
  have high : ∀ e ∈ S.drop q, keyD x < keyD e := fun e he => by
    obtain ⟨j, hj, rfl⟩ := List.getElem_of_mem he
    rw [List.length_drop] at hj
    rw [List.getElem_drop]
    exact h1 (q + j) (by omega) (by omega)
  refine List.pairwise_append.2 ⟨hs.sublist (List.take_sublist ..), List.pairwise_cons.2 ⟨high, hs.sublist (List.drop_sublist ..)⟩, fun a ha b hb => ?_⟩
  rcases List.mem_cons.1 hb with rfl | hb
  · exact low a ha
  · exact ttr (low a ha) (high b hb)
theorem cmpF_posD (a b : List UInt8) : 0 < cmpF a b ↔ foldL b < foldL a := cmpF_pos a b
/-- how far Of has come -/
structure OfR (w : World) (E : List RdE) (p : RdE → Bool) (j : Nat) (S : List RdE) (v : Value) (W : World) : Prop where
  fr : Fr (fun _ => False) w W
  own : OwnPd w.heap.size W v (S.map (·.B))
  perm : S.Perm ((E.take j).filter p)
  up : S.Pairwise fun a b => keyD a < keyD b
  nil : S = [] → v = .slice none 0 0
theorem OfR.ofr {w : World} {E : List RdE} {p : RdE → Bool} {j : Nat} {S : List RdE} {v : Value} {W W' : World} (h : OfR w E p j S v W) (hf : Fr (fun _ => False) W W') : OfR w E p j S v W' :=
  ⟨h.fr.trans hf, ownPd_kept h.own fun g hg => hf.block g (h.own.lt g hg).2 fun e => e, h.perm, h.up, h.nil⟩
def onD (id : Int) (e : RdE) : Bool := decide (0 ≤ atM e.x.L id)
def RefOfP (E : List RdE) (p : RdE → Bool) (w : World) (e : Ending) (w' : World) : Prop := (∃ (v : Value) (S : List RdE), e = .returned v ∧ OwnPd w.heap.size w' v (S.map (·.B)) ∧ S.Perm (E.filter p) ∧ S.Pairwise fun a b => keyD a < keyD b) ∧ RowKit.Below w.heap.size w w'
set_option maxRecDepth 100000 in
set_option maxHeartbeats 16000000 in
theorem refOf_id {base : Nat} {w : World} {R : Nat} {v : Value} {C : Nat → Tag} {mr mj mb : Int} {E : List RdE} (h : RdPh base w R v C mr mj mb E) {n : Nat} (hl : RdLg n E) (hn : n ≤ 1000) (id : Int) :
    Calls Tryz.prog 22 #[.pointer (some ⟨R, 0, none⟩), .int .i64 id, .bool false] w (RefOfP E (onD id) w) := by
  obtain ⟨A, c, hv⟩ : ∃ A c, v = .slice A E.length c := by
    obtain ⟨A, c, hv⟩ := row_slice h.row
    rw [List.length_map] at hv
    exact ⟨A, c, hv⟩
  have hlen : E.length ≤ 1000 := Nat.le_trans hl.elen hn
  have HS := Lib.hid (fun W (hW : Fr (fun _ => False) w W) => (show W.cell? ⟨R, 3, none⟩ = some (.slice A E.length c) from by rw [← hv]; exact blk_cell (hW.blk h.self fun e => e) 3))
  have H0 : Hid (OfR w E (onD id) 0 [] (.slice none 0 0) w) := Lib.hid ⟨Fr.refl _ _, ownPd_nil _ _, by simp, List.Pairwise.nil, fun _ => rfl⟩
  have H := Lib.hid (And.intro h (And.intro hl (And.intro hv hn)))
  clear h hl hv hn
  go_enter Tryz.func22, Tryz.ntmps22
  go_wp2_with fail
  go_loopw [7, 8, 9, 10, 11] (fun o t _ _ _ wr => ∃ (i : Nat) (S : List RdE) (A1 : Option Addr) (c1 : Nat), t = .int .i64 i ∧ o = .slice A1 S.length c1 ∧ i ≤ E.length ∧ Hid (OfR w E (onD id) i S (.slice A1 S.length c1) wr)) (fun _ t _ _ _ _ => E.length - (RowKit.intOf t).toNat)
  case atStart => exact ⟨0, [], none, 0, rfl, rfl, Nat.zero_le _, H0⟩
  case round =>
    obtain ⟨i, S, A1, c1, rfl, rfl, hi, HG⟩ := hrel
    clear H0
    have s0 := HS.out wr HG.out.fr
    by_cases hlt : i < E.length
    · obtain ⟨h, hl, hv, hn⟩ := H.out
      obtain ⟨g, rfl, hf⟩ := rd_facts h hv hlt
      obtain ⟨x, hx⟩ : ∃ x, E[i] = x := ⟨_, rfl⟩
      rw [hx] at hf
      have hxE : x ∈ E := by rw [← hx]; exact List.getElem_mem _
      obtain ⟨xB, hxB⟩ : ∃ xB, x.B = xB := ⟨_, rfl⟩
      obtain ⟨nx, hnx⟩ : ∃ nx, x.x.nm = nx := ⟨_, rfl⟩
      have hnl := hl.nms x hxE
      have hSl : S.length ≤ 1000 := by
        have := HG.out.perm.length_eq
        have h3 := List.length_filter_le (onD id) (E.take i)
        rw [List.length_take] at h3
        omega
      have hSE : ∀ e ∈ S, e ∈ E := fun e he => List.mem_of_mem_take (List.mem_filter.1 (HG.out.perm.mem_iff.1 he)).1
      have hno : ∀ e ∈ S, keyD e ≠ keyD x := fun e he e9 => by
        obtain ⟨j, hj, hje⟩ := List.getElem_of_mem (List.mem_filter.1 (HG.out.perm.mem_iff.1 he)).1
        rw [List.length_take] at hj
        rw [List.getElem_take] at hje
        have hk := h.keys
        have h1 : (E.map keyD)[j]'(by rw [List.length_map]; omega) = (E.map keyD)[i]'(by rw [List.length_map]; omega) := by rw [List.getElem_map, List.getElem_map, hje, hx, e9]
        have := (List.getElem_inj hk).1 h1
        omega
      have htk : E.take (i + 1) = E.take i ++ [x] := by rw [List.take_succ_eq_append_getElem hlt, hx]
      obtain ⟨q1, q2, _⟩ := hf wr HG.out.fr
      rw [hxB] at q2
      have q0 : (0 : Int) ≤ (i : Int) := by omega
      have n1 : (i : Int) < (E.length : Int) := by omega
      have n2 : decide ((i : Int) < (E.length : Int)) = true := by simp; omega
      have hcell2 : ∀ W, Fr (fun _ => False) wr W → W.cell? ⟨xB, 0, none⟩ = some (.string (bs nx)) ∧ W.cell? ⟨R, 3, none⟩ = some (.slice (some ⟨g, 0, none⟩) E.length c) := fun W hW => by
        obtain ⟨a1, a2, a3⟩ := hf W (HG.out.fr.trans hW)
        rw [hxB] at a3
        have a4 := blk_cell a3 0
        exact ⟨by rw [← hnx]; exact a4, a1⟩
      have H2 := Lib.hid hcell2
      have HT := Lib.hid htk
      have HNo := Lib.hid hno
      have HXB := Lib.hid (And.intro hxB (And.intro hnx (And.intro (show nx.length ≤ 1000 by rw [← hnx]; exact hnl) (And.intro hSE hxE))))
      have HAt := Lib.hid (refAt_any ((h.each x hxE).fr HG.out.fr fun _ _ e => e) id (by have := hl.llen x hxE; omega))
      obtain ⟨am, ham⟩ : ∃ am, atM x.x.L id = am := ⟨_, rfl⟩
      rw [ham, hxB] at HAt
      have HAm := Lib.hid ham
      clear ham
      clear h hl hv hn hf hx hxE hxB hnx hnl hSE hno htk hcell2
      cases hat : (onD id) x with
      | false =>
        have hN : Hid (OfR w E (onD id) (i + 1) S (.slice A1 S.length c1) wr) := Lib.hid ⟨HG.out.fr, HG.out.own, by rw [HT.out, List.filter_append, List.filter_cons_of_neg (by rw [hat]; simp)]; simpa using HG.out.perm, HG.out.up, HG.out.nil⟩
        have ha1 : ¬ (0 : Int) ≤ am := by rw [← HAm.out]; exact of_decide_eq_false (show decide (0 ≤ atM x.x.L id) = false from hat)
        have ha2 : am < 0 := by omega
        have ha3 : decide (am < 0) = true := by simp; omega
        clear hat
        go_wp2_with fail
        refine HAt.out.mono ?_
        rintro e9 V9 ⟨rfl, rfl⟩
        go_wp2_with fail
        go_roundw
        case rel => exact ⟨i + 1, S, A1, c1, by go_num, rfl, by omega, hN⟩
        case measure => simp [RowKit.intOf]; omega
      | true =>
        have HP : Hid ([x].filter (onD id) = [x]) := Lib.hid (List.filter_cons_of_pos hat)
        have ha1 : (0 : Int) ≤ am := by rw [← HAm.out]; exact of_decide_eq_true (show decide (0 ≤ atM x.x.L id) = true from hat)
        have ha2 : ¬ am < 0 := by omega
        have ha3 : decide (am < 0) = false := by simp; omega
        clear hat
        go_wp2_with fail
        refine HAt.out.mono ?_
        rintro e9 V9 ⟨rfl, rfl⟩
        go_wp2_with fail
        rename World => W0
        go_loopw [10] (fun t V => ∃ q : Nat, t = .int .i64 q ∧ q ≤ S.length ∧ Hid ((∀ r (hr : r < S.length), q ≤ r → keyD x < keyD S[r]) ∧ Fr (fun _ => False) W0 V)) (fun t _ => (RowKit.intOf t).toNat)
        case atStart => exact ⟨S.length, rfl, Nat.le_refl _, Lib.hid ⟨fun r hr h => by omega, Fr.refl _ _⟩⟩
        case round =>
          obtain ⟨q, rfl, hq, HB⟩ := hrel
          rcases Nat.eq_zero_or_pos q with hq0 | hq0
          · subst hq0
            go_wp2_with fail
            go_quiet (fail)
            generalize hV1 : wr.drewN nq = V1
            have FV : Hid (Fr (fun _ => False) W0 V1) := Lib.hid (by rw [← hV1]; exact HB.out.2.drewN nq)
            clear hV1 q2 s0
            have hlow : ∀ p (hp : p < S.length), p + 1 = 0 → ¬ keyD x < keyD S[p] := fun p _ e => by omega
            have hown := (HG.out.ofr FV.out).own
            obtain ⟨V2, V3, A3, c3, A4, c4, A5, c5, W3, W4, W5, hs1, hs2, hr3, hr4, hr5, o5, f3, f4, f5⟩ := ins_runsPd (ns := S.map (·.B)) (A := _) (c := c1) (by rw [List.length_map]; exact hown) (fun e9 => by have h1 := HG.out.nil (List.map_eq_nil_iff.1 e9); injection h1 with h1 h2 h3; exact ⟨h1, h3⟩) (i := 0) (by rw [List.length_map]; exact hq) (by rw [List.length_map]; omega) xB
            rw [List.length_map] at hs1 hs2 hr5 o5
            have hlen : (S.take (0) ++ x :: S.drop (0)).length = S.length + 1 := by rw [List.length_append, List.length_cons, List.length_take, List.length_drop]; omega
            have HNew : Hid (OfR w E (onD id) (i + 1) (S.take (0) ++ x :: S.drop (0)) (.slice A5 (S.length + 1) c5) W5) := Lib.hid (by
              have hmp : (S.take (0) ++ x :: S.drop (0)).map (·.B) = (S.map (·.B)).take (0) ++ xB :: (S.map (·.B)).drop (0) := by rw [List.map_append, List.map_cons, List.map_take, List.map_drop, HXB.out.1]
              refine ⟨HG.out.fr.trans (FV.out.trans f5), ?_, ?_, ins_sorted HG.out.up hq HNo.out HB.out.1 hlow, fun e9 => absurd e9 (by simp)⟩
              · rw [hmp]; exact ownPd_base o5 (HG.out.fr.trans FV.out).size
              · rw [HT.out, List.filter_append, HP.out]
                exact (insert_perm S x (0)).trans ((List.perm_append_singleton x S).symm.trans (HG.out.perm.append_right [x])))
            rw [show ((0 : Nat) : Int) = 0 from rfl] at hs1 hs2
            obtain ⟨u1, u2⟩ := H2.out W3 (FV.out.trans f3)
            have HR4 := Lib.hid hr4
            have HR5 := Lib.hid hr5
            clear hlow hown f3 f4 f5 o5 hr4 hr5
            go_wp2_with (at_builtin; refine Hid.out ?_)
            refine Lib.hid ?_
            refine wpList_app_run rfl _ _ _ _ rfl (by exact hr3) ?_
            go_wp2_with (at_builtin; refine Hid.out ?_)
            refine Lib.hid ?_
            refine wpList_app_run rfl _ _ _ _ rfl (by exact HR4.out) ?_
            go_wp2_with (at_builtin; refine Hid.out ?_)
            refine Lib.hid ?_
            refine wpList_app_run rfl _ _ _ _ rfl (by exact HR5.out) ?_
            go_wp2_with fail
            go_roundw
            case rel => exact ⟨i + 1, _, A5, c5, by go_num, by rw [hlen], by omega, by rw [hlen]; exact HNew⟩
            case measure => simp [RowKit.intOf]; omega
          · obtain ⟨p, rfl⟩ : ∃ p, q = p + 1 := ⟨q - 1, by omega⟩
            obtain ⟨el, hel⟩ : ∃ el, S[p]'(by omega) = el := ⟨_, rfl⟩
            have helS : el ∈ S := by rw [← hel]; exact List.getElem_mem _
            have helE := HXB.out.2.2.2.1 el helS
            obtain ⟨nel, hnel⟩ : ∃ nel, el.x.nm = nel := ⟨_, rfl⟩
            obtain ⟨eB, heB⟩ : ∃ eB, el.B = eB := ⟨_, rfl⟩
            have hell : nel.length ≤ 1000 := by rw [← hnel]; exact H.out.2.1.nms el helE
            obtain ⟨g1, rfl, hg1, hcell1⟩ := reads_ownPd (A := A1) (n := S.length) (c := c1) HG.out.own (by rw [List.length_map]; omega)
            have hc1 := hcell1 p (by rw [List.length_map]; omega)
            rw [List.getElem_map, hel, heB, Nat.zero_add] at hc1
            have hcl : ∀ W, Fr (fun _ => False) wr W → W.cell? ⟨g1, p, none⟩ = some (.pointer (some ⟨eB, 0, none⟩)) ∧ W.cell? ⟨eB, 0, none⟩ = some (.string (bs nel)) ∧ W.cell? ⟨xB, 0, none⟩ = some (.string (bs nx)) := fun W hf =>
              ⟨((HB.out.2.trans hf).cell (p := ⟨g1, p, none⟩) hg1 fun e => e).trans hc1, by
                have a3 := (HG.out.fr.trans (HB.out.2.trans hf)).blk (H.out.1.each el helE).1 fun e => e
                have a4 := blk_cell a3 0
                rw [heB] at a4
                rw [← hnel]; exact a4, (H2.out W (HB.out.2.trans hf)).1⟩
            have HX := Lib.hid hcl
            have HE := Lib.hid (And.intro hel hnel)
            have p5 : (p : Int) < (S.length : Int) := by omega
            have r5 : (0 : Int) ≤ (p : Int) := by omega
            have hwm : IntKind.i64.wrap (p : Int) = (p : Int) := IntWalk.i64_in _ ⟨by omega, by omega⟩
            have r6 : (p : Int) + 1 > 0 := by omega
            have r7 : (0 : Int) < (p : Int) + 1 := by omega
            have HCm : Hid (∀ V, Calls Tryz.prog 34 #[.string (bs nel), .string (bs nx)] V fun e V' => e = .returned (.int .i64 (cmpF nel nx)) ∧ Below V.heap.size V V') := Lib.hid fun V => refcompare (bs nel) (bs nx) V (by simp; omega) (by have := HXB.out.2.2.1; simp; omega)
            obtain ⟨z, hz⟩ : ∃ z, cmpF nel nx = z := ⟨_, rfl⟩
            have hzp := cmpF_pos nel nx
            rw [hz] at HCm hzp
            have hkx : keyD x = foldL nx := by unfold keyD; rw [HXB.out.2.1]
            have hke : keyD el = foldL nel := by unfold keyD; rw [hnel]
            rw [← hkx, ← hke] at hzp
            have HZ := Lib.hid hzp
            clear hcl hel hg1 hcell1 hc1 hz hzp q2 s0 helS helE hnel heB hkx hke
            by_cases hgt : keyD x < keyD el
            · have z1 : (0 : Int) < z := HZ.out.2 hgt
              have hN : Hid (∀ r (hr : r < S.length), p ≤ r → keyD x < keyD S[r]) := Lib.hid fun r hr h => by
                rcases Nat.lt_or_ge p r with h1 | h1
                · exact HB.out.1 r hr h1
                · obtain rfl : r = p := by omega
                  rw [HE.out.1]; exact hgt
              clear hgt
              go_wp2_with fail
              refine wp_region_held_drew (S := fun W => Fr (fun _ => False) wr W) (by kernel_rfl) (by exact (Fr.refl _ wr).drew) (fun hHeld => ?_)
              refine wpAnyH_read (i := 0) (oi := { dst := some 38, op := Go.Op.move (Go.Operand.tmp 10), type := 3, pos := "ref.go:35", after := #[], guard := none }) ?_ rfl (by kernel_rfl) (by kernel_rfl) (by kernel_rfl) (fun _ _ _ h => h) (by rfl) (by assumption) ?_ ?_
              rotate_left
              · (intro w0 hS0; go_simp <;> (try with_reducible rfl))
              try simp only [Act.put, List.setIfInBounds_toArray, List.set_cons_zero, List.set_cons_succ]
              refine wpAnyH_read (i := 1) (oi := { dst := some 39, op := Go.Op.binOp Go.BinOp.gtr 3 (Go.Operand.tmp 38) (Go.Operand.const (Go.Value.int Go.IntKind.i64 0)) 3, type := 4, pos := "ref.go:35", after := #[{ on := 0, ground := Go.Ground.data }], guard := none }) ?_ rfl (by kernel_rfl) (by kernel_rfl) (by kernel_rfl) (fun _ _ _ h => h) (by rfl) (by assumption) ?_ ?_
              rotate_left
              · (intro w0 hS0; go_simp <;> (try with_reducible rfl))
              try simp only [Act.put, List.setIfInBounds_toArray, List.set_cons_zero, List.set_cons_succ]
              refine wpAnyH_read (i := 2) (oi := { dst := some 40, op := Go.Op.move (Go.Operand.tmp 39), type := 4, pos := "ref.go:35", after := #[{ on := 1, ground := Go.Ground.data }], guard := none }) ?_ rfl (by kernel_rfl) (by kernel_rfl) (by kernel_rfl) (fun _ _ _ h => h) (by rfl) (by assumption) ?_ ?_
              rotate_left
              · (intro w0 hS0; go_simp <;> (try with_reducible rfl))
              try simp only [Act.put, List.setIfInBounds_toArray, List.set_cons_zero, List.set_cons_succ]
              refine wpAnyH_read (i := 3) (oi := { dst := some 41, op := Go.Op.move (Go.Operand.tmp 7), type := 30, pos := "ref.go:35", after := #[{ on := 2, ground := Go.Ground.guard }], guard := some (2, true) }) ?_ rfl (by kernel_rfl) (by kernel_rfl) (by kernel_rfl) (fun _ _ _ h => h) (by rfl) (by assumption) ?_ ?_
              rotate_left
              · (intro w0 hS0; go_simp <;> (try with_reducible rfl))
              try simp only [Act.put, List.setIfInBounds_toArray, List.set_cons_zero, List.set_cons_succ]
              refine wpAnyH_read (i := 4) (oi := { dst := some 42, op := Go.Op.move (Go.Operand.tmp 10), type := 3, pos := "ref.go:35", after := #[{ on := 2, ground := Go.Ground.guard }], guard := some (2, true) }) ?_ rfl (by kernel_rfl) (by kernel_rfl) (by kernel_rfl) (fun _ _ _ h => h) (by rfl) (by assumption) ?_ ?_
              rotate_left
              · (intro w0 hS0; go_simp <;> (try with_reducible rfl))
              try simp only [Act.put, List.setIfInBounds_toArray, List.set_cons_zero, List.set_cons_succ]
              refine wpAnyH_read (i := 5) (oi := { dst := some 43, op := Go.Op.binOp Go.BinOp.sub 3 (Go.Operand.tmp 42) (Go.Operand.const (Go.Value.int Go.IntKind.i64 1)) 3, type := 3, pos := "ref.go:35", after := #[{ on := 4, ground := Go.Ground.data }, { on := 2, ground := Go.Ground.guard }], guard := some (2, true) }) ?_ rfl (by kernel_rfl) (by kernel_rfl) (by kernel_rfl) (fun _ _ _ h => h) (by rfl) (by assumption) ?_ ?_
              rotate_left
              · (intro w0 hS0; go_simp <;> (try with_reducible rfl))
              try simp only [Act.put, List.setIfInBounds_toArray, List.set_cons_zero, List.set_cons_succ]
              refine wpAnyH_read (i := 6) (oi := { dst := some 44, op := Go.Op.indexAddr 30 (Go.Operand.tmp 41) (Go.Operand.tmp 43), type := 0, pos := "ref.go:35", after := #[{ on := 3, ground := Go.Ground.data }, { on := 5, ground := Go.Ground.data }, { on := 2, ground := Go.Ground.guard }], guard := some (2, true) }) ?_ rfl (by kernel_rfl) (by kernel_rfl) (by kernel_rfl) (fun _ _ _ h => h) (by rfl) (by assumption) ?_ ?_
              rotate_left
              · (intro w0 hS0; go_simp <;> (try with_reducible rfl))
              try simp only [Act.put, List.setIfInBounds_toArray, List.set_cons_zero, List.set_cons_succ]
              refine wpAnyH_read (i := 11) (oi := { dst := some 49, op := Go.Op.move (Go.Operand.tmp 9), type := 40, pos := "ref.go:35", after := #[{ on := 2, ground := Go.Ground.guard }], guard := some (2, true) }) ?_ rfl (by kernel_rfl) (by kernel_rfl) (by kernel_rfl) (fun _ _ _ h => h) (by rfl) (by assumption) ?_ ?_
              rotate_left
              · (intro w0 hS0; go_simp <;> (try with_reducible rfl))
              try simp only [Act.put, List.setIfInBounds_toArray, List.set_cons_zero, List.set_cons_succ]
              refine wpAnyH_read (i := 12) (oi := { dst := some 50, op := Go.Op.nilCheck (Go.Operand.tmp 49), type := 0, pos := "ref.go:35", after := #[{ on := 11, ground := Go.Ground.data }, { on := 2, ground := Go.Ground.guard }], guard := some (2, true) }) ?_ rfl (by kernel_rfl) (by kernel_rfl) (by kernel_rfl) (fun _ _ _ h => h) (by rfl) (by assumption) ?_ ?_
              rotate_left
              · (intro w0 hS0; go_simp <;> (try with_reducible rfl))
              try simp only [Act.put, List.setIfInBounds_toArray, List.set_cons_zero, List.set_cons_succ]
              refine wpAnyH_read (i := 13) (oi := { dst := some 51, op := Go.Op.fieldAddr 90 (Go.Operand.tmp 50) 0, type := 0, pos := "ref.go:35", after := #[{ on := 12, ground := Go.Ground.data }, { on := 2, ground := Go.Ground.guard }], guard := some (2, true) }) ?_ rfl (by kernel_rfl) (by kernel_rfl) (by kernel_rfl) (fun _ _ _ h => h) (by rfl) (by assumption) ?_ ?_
              rotate_left
              · (intro w0 hS0; go_simp <;> (try with_reducible rfl))
              try simp only [Act.put, List.setIfInBounds_toArray, List.set_cons_zero, List.set_cons_succ]
              refine wpAnyH_read (i := 7) (oi := { dst := some 45, op := Go.Op.load 40 (Go.Operand.tmp 44), type := 40, pos := "ref.go:35", after := #[{ on := 6, ground := Go.Ground.data }, { on := 2, ground := Go.Ground.guard }], guard := some (2, true) }) ?_ rfl (by kernel_rfl) (by kernel_rfl) (by kernel_rfl) (fun _ _ _ h => h) (by rfl) (by assumption) ?_ ?_
              rotate_left
              · (intro w0 hS0; obtain ⟨s0, s1, s2⟩ := HX.out w0 hS0; go_simp <;> (try with_reducible rfl))
              try simp only [Act.put, List.setIfInBounds_toArray, List.set_cons_zero, List.set_cons_succ]
              refine wpAnyH_read (i := 8) (oi := { dst := some 46, op := Go.Op.nilCheck (Go.Operand.tmp 45), type := 0, pos := "ref.go:35", after := #[{ on := 7, ground := Go.Ground.data }, { on := 2, ground := Go.Ground.guard }], guard := some (2, true) }) ?_ rfl (by kernel_rfl) (by kernel_rfl) (by kernel_rfl) (fun _ _ _ h => h) (by rfl) (by assumption) ?_ ?_
              rotate_left
              · (intro w0 hS0; go_simp <;> (try with_reducible rfl))
              try simp only [Act.put, List.setIfInBounds_toArray, List.set_cons_zero, List.set_cons_succ]
              refine wpAnyH_read (i := 9) (oi := { dst := some 47, op := Go.Op.fieldAddr 90 (Go.Operand.tmp 46) 0, type := 0, pos := "ref.go:35", after := #[{ on := 8, ground := Go.Ground.data }, { on := 2, ground := Go.Ground.guard }], guard := some (2, true) }) ?_ rfl (by kernel_rfl) (by kernel_rfl) (by kernel_rfl) (fun _ _ _ h => h) (by rfl) (by assumption) ?_ ?_
              rotate_left
              · (intro w0 hS0; go_simp <;> (try with_reducible rfl))
              try simp only [Act.put, List.setIfInBounds_toArray, List.set_cons_zero, List.set_cons_succ]
              refine wpAnyH_read (i := 10) (oi := { dst := some 48, op := Go.Op.load 9 (Go.Operand.tmp 47), type := 9, pos := "ref.go:35", after := #[{ on := 9, ground := Go.Ground.data }, { on := 2, ground := Go.Ground.guard }], guard := some (2, true) }) ?_ rfl (by kernel_rfl) (by kernel_rfl) (by kernel_rfl) (fun _ _ _ h => h) (by rfl) (by assumption) ?_ ?_
              rotate_left
              · (intro w0 hS0; obtain ⟨s0, s1, s2⟩ := HX.out w0 hS0; go_simp <;> (try with_reducible rfl))
              try simp only [Act.put, List.setIfInBounds_toArray, List.set_cons_zero, List.set_cons_succ]
              refine wpAnyH_read (i := 14) (oi := { dst := some 52, op := Go.Op.load 9 (Go.Operand.tmp 51), type := 9, pos := "ref.go:35", after := #[{ on := 13, ground := Go.Ground.data }, { on := 2, ground := Go.Ground.guard }], guard := some (2, true) }) ?_ rfl (by kernel_rfl) (by kernel_rfl) (by kernel_rfl) (fun _ _ _ h => h) (by rfl) (by assumption) ?_ ?_
              rotate_left
              · (intro w0 hS0; obtain ⟨s0, s1, s2⟩ := HX.out w0 hS0; go_simp <;> (try with_reducible rfl))
              try simp only [Act.put, List.setIfInBounds_toArray, List.set_cons_zero, List.set_cons_succ]
              refine wpAnyH_one (i := 15) (o := { dst := some 53, op := Go.Op.call { callee := Go.Callee.value (Go.Operand.func 34), args := #[Go.Operand.tmp 48, Go.Operand.tmp 52], argTypes := #[9, 9] }, type := 3, pos := "ref.go:35", after := #[{ on := 10, ground := Go.Ground.data }, { on := 14, ground := Go.Ground.data }, { on := 2, ground := Go.Ground.chain }, { on := 2, ground := Go.Ground.guard }], guard := some (2, true) }) (by kernel_rfl) rfl (by rfl) (fun K hK => ?_)
              go_simp
              refine (HCm.out _).mono ?_
              rintro e9 V1 ⟨rfl, b1⟩
              have F2 : Hid (Fr (fun _ => False) wr V1) := Lib.hid (((Fr.refl _ wr).drew).trans (Fr.of_below b1))
              clear b1
              refine hK.out _ _ ?_ (fun hHeld => ?_)
              · exact F2.out
              clear hK K
              try simp only [Act.put, List.setIfInBounds_toArray, List.set_cons_zero, List.set_cons_succ]
              refine wpAnyH_read (i := 16) (oi := { dst := some 54, op := Go.Op.binOp Go.BinOp.gtr 3 (Go.Operand.tmp 53) (Go.Operand.const (Go.Value.int Go.IntKind.i64 0)) 3, type := 4, pos := "ref.go:35", after := #[{ on := 15, ground := Go.Ground.data }, { on := 2, ground := Go.Ground.guard }], guard := some (2, true) }) ?_ rfl (by kernel_rfl) (by kernel_rfl) (by kernel_rfl) (fun _ _ _ h => h) (by rfl) (by assumption) ?_ ?_
              rotate_left
              · (intro w0 hS0; go_simp <;> (try with_reducible rfl))
              try simp only [Act.put, List.setIfInBounds_toArray, List.set_cons_zero, List.set_cons_succ]
              refine wpAnyH_read (i := 17) (oi := { dst := some 55, op := Go.Op.pick (Go.Operand.tmp 40) (Go.Operand.tmp 54) (Go.Operand.const (Go.Value.bool false)), type := 4, pos := "ref.go:35", after := #[{ on := 2, ground := Go.Ground.data }, { on := 16, ground := Go.Ground.data }], guard := none }) ?_ rfl (by kernel_rfl) (by kernel_rfl) (by kernel_rfl) (fun _ _ _ h => h) (by rfl) (by assumption) ?_ ?_
              rotate_left
              · (intro w0 hS0; go_simp <;> (try with_reducible rfl))
              try simp only [Act.put, List.setIfInBounds_toArray, List.set_cons_zero, List.set_cons_succ]
              refine wpAnyH_done (by kernel_rfl) ?_ _
              go_wp2_with fail
              go_roundw
              case rel => exact ⟨p, by go_num, by omega, Lib.hid ⟨hN.out, HB.out.2.trans F2.out⟩⟩
              case measure => simp [RowKit.intOf]
            · have z1 : ¬ (0 : Int) < z := fun h => hgt (HZ.out.1 h)
              have hlow : ∀ p2 (hp : p2 < S.length), p2 + 1 = p + 1 → ¬ keyD x < keyD S[p2] := fun p2 hp e => by
                obtain rfl : p2 = p := by omega
                rw [HE.out.1]; exact hgt
              have HLo := Lib.hid hlow
              clear hgt hlow
              go_wp2_with fail
              refine wp_region_held_drew (S := fun W => Fr (fun _ => False) wr W) (by kernel_rfl) (by exact (Fr.refl _ wr).drew) (fun hHeld => ?_)
              refine wpAnyH_read (i := 0) (oi := { dst := some 38, op := Go.Op.move (Go.Operand.tmp 10), type := 3, pos := "ref.go:35", after := #[], guard := none }) ?_ rfl (by kernel_rfl) (by kernel_rfl) (by kernel_rfl) (fun _ _ _ h => h) (by rfl) (by assumption) ?_ ?_
              rotate_left
              · (intro w0 hS0; go_simp <;> (try with_reducible rfl))
              try simp only [Act.put, List.setIfInBounds_toArray, List.set_cons_zero, List.set_cons_succ]
              refine wpAnyH_read (i := 1) (oi := { dst := some 39, op := Go.Op.binOp Go.BinOp.gtr 3 (Go.Operand.tmp 38) (Go.Operand.const (Go.Value.int Go.IntKind.i64 0)) 3, type := 4, pos := "ref.go:35", after := #[{ on := 0, ground := Go.Ground.data }], guard := none }) ?_ rfl (by kernel_rfl) (by kernel_rfl) (by kernel_rfl) (fun _ _ _ h => h) (by rfl) (by assumption) ?_ ?_
              rotate_left
              · (intro w0 hS0; go_simp <;> (try with_reducible rfl))
              try simp only [Act.put, List.setIfInBounds_toArray, List.set_cons_zero, List.set_cons_succ]
              refine wpAnyH_read (i := 2) (oi := { dst := some 40, op := Go.Op.move (Go.Operand.tmp 39), type := 4, pos := "ref.go:35", after := #[{ on := 1, ground := Go.Ground.data }], guard := none }) ?_ rfl (by kernel_rfl) (by kernel_rfl) (by kernel_rfl) (fun _ _ _ h => h) (by rfl) (by assumption) ?_ ?_
              rotate_left
              · (intro w0 hS0; go_simp <;> (try with_reducible rfl))
              try simp only [Act.put, List.setIfInBounds_toArray, List.set_cons_zero, List.set_cons_succ]
              refine wpAnyH_read (i := 3) (oi := { dst := some 41, op := Go.Op.move (Go.Operand.tmp 7), type := 30, pos := "ref.go:35", after := #[{ on := 2, ground := Go.Ground.guard }], guard := some (2, true) }) ?_ rfl (by kernel_rfl) (by kernel_rfl) (by kernel_rfl) (fun _ _ _ h => h) (by rfl) (by assumption) ?_ ?_
              rotate_left
              · (intro w0 hS0; go_simp <;> (try with_reducible rfl))
              try simp only [Act.put, List.setIfInBounds_toArray, List.set_cons_zero, List.set_cons_succ]
              refine wpAnyH_read (i := 4) (oi := { dst := some 42, op := Go.Op.move (Go.Operand.tmp 10), type := 3, pos := "ref.go:35", after := #[{ on := 2, ground := Go.Ground.guard }], guard := some (2, true) }) ?_ rfl (by kernel_rfl) (by kernel_rfl) (by kernel_rfl) (fun _ _ _ h => h) (by rfl) (by assumption) ?_ ?_
              rotate_left
              · (intro w0 hS0; go_simp <;> (try with_reducible rfl))
              try simp only [Act.put, List.setIfInBounds_toArray, List.set_cons_zero, List.set_cons_succ]
              refine wpAnyH_read (i := 5) (oi := { dst := some 43, op := Go.Op.binOp Go.BinOp.sub 3 (Go.Operand.tmp 42) (Go.Operand.const (Go.Value.int Go.IntKind.i64 1)) 3, type := 3, pos := "ref.go:35", after := #[{ on := 4, ground := Go.Ground.data }, { on := 2, ground := Go.Ground.guard }], guard := some (2, true) }) ?_ rfl (by kernel_rfl) (by kernel_rfl) (by kernel_rfl) (fun _ _ _ h => h) (by rfl) (by assumption) ?_ ?_
              rotate_left
              · (intro w0 hS0; go_simp <;> (try with_reducible rfl))
              try simp only [Act.put, List.setIfInBounds_toArray, List.set_cons_zero, List.set_cons_succ]
              refine wpAnyH_read (i := 6) (oi := { dst := some 44, op := Go.Op.indexAddr 30 (Go.Operand.tmp 41) (Go.Operand.tmp 43), type := 0, pos := "ref.go:35", after := #[{ on := 3, ground := Go.Ground.data }, { on := 5, ground := Go.Ground.data }, { on := 2, ground := Go.Ground.guard }], guard := some (2, true) }) ?_ rfl (by kernel_rfl) (by kernel_rfl) (by kernel_rfl) (fun _ _ _ h => h) (by rfl) (by assumption) ?_ ?_
              rotate_left
              · (intro w0 hS0; go_simp <;> (try with_reducible rfl))
              try simp only [Act.put, List.setIfInBounds_toArray, List.set_cons_zero, List.set_cons_succ]
              refine wpAnyH_read (i := 11) (oi := { dst := some 49, op := Go.Op.move (Go.Operand.tmp 9), type := 40, pos := "ref.go:35", after := #[{ on := 2, ground := Go.Ground.guard }], guard := some (2, true) }) ?_ rfl (by kernel_rfl) (by kernel_rfl) (by kernel_rfl) (fun _ _ _ h => h) (by rfl) (by assumption) ?_ ?_
              rotate_left
              · (intro w0 hS0; go_simp <;> (try with_reducible rfl))
              try simp only [Act.put, List.setIfInBounds_toArray, List.set_cons_zero, List.set_cons_succ]
              refine wpAnyH_read (i := 12) (oi := { dst := some 50, op := Go.Op.nilCheck (Go.Operand.tmp 49), type := 0, pos := "ref.go:35", after := #[{ on := 11, ground := Go.Ground.data }, { on := 2, ground := Go.Ground.guard }], guard := some (2, true) }) ?_ rfl (by kernel_rfl) (by kernel_rfl) (by kernel_rfl) (fun _ _ _ h => h) (by rfl) (by assumption) ?_ ?_
              rotate_left
              · (intro w0 hS0; go_simp <;> (try with_reducible rfl))
              try simp only [Act.put, List.setIfInBounds_toArray, List.set_cons_zero, List.set_cons_succ]
              refine wpAnyH_read (i := 13) (oi := { dst := some 51, op := Go.Op.fieldAddr 90 (Go.Operand.tmp 50) 0, type := 0, pos := "ref.go:35", after := #[{ on := 12, ground := Go.Ground.data }, { on := 2, ground := Go.Ground.guard }], guard := some (2, true) }) ?_ rfl (by kernel_rfl) (by kernel_rfl) (by kernel_rfl) (fun _ _ _ h => h) (by rfl) (by assumption) ?_ ?_
              rotate_left
              · (intro w0 hS0; go_simp <;> (try with_reducible rfl))
              try simp only [Act.put, List.setIfInBounds_toArray, List.set_cons_zero, List.set_cons_succ]
              refine wpAnyH_read (i := 7) (oi := { dst := some 45, op := Go.Op.load 40 (Go.Operand.tmp 44), type := 40, pos := "ref.go:35", after := #[{ on := 6, ground := Go.Ground.data }, { on := 2, ground := Go.Ground.guard }], guard := some (2, true) }) ?_ rfl (by kernel_rfl) (by kernel_rfl) (by kernel_rfl) (fun _ _ _ h => h) (by rfl) (by assumption) ?_ ?_
              rotate_left
              · (intro w0 hS0; obtain ⟨s0, s1, s2⟩ := HX.out w0 hS0; go_simp <;> (try with_reducible rfl))
              try simp only [Act.put, List.setIfInBounds_toArray, List.set_cons_zero, List.set_cons_succ]
              refine wpAnyH_read (i := 8) (oi := { dst := some 46, op := Go.Op.nilCheck (Go.Operand.tmp 45), type := 0, pos := "ref.go:35", after := #[{ on := 7, ground := Go.Ground.data }, { on := 2, ground := Go.Ground.guard }], guard := some (2, true) }) ?_ rfl (by kernel_rfl) (by kernel_rfl) (by kernel_rfl) (fun _ _ _ h => h) (by rfl) (by assumption) ?_ ?_
              rotate_left
              · (intro w0 hS0; go_simp <;> (try with_reducible rfl))
              try simp only [Act.put, List.setIfInBounds_toArray, List.set_cons_zero, List.set_cons_succ]
              refine wpAnyH_read (i := 9) (oi := { dst := some 47, op := Go.Op.fieldAddr 90 (Go.Operand.tmp 46) 0, type := 0, pos := "ref.go:35", after := #[{ on := 8, ground := Go.Ground.data }, { on := 2, ground := Go.Ground.guard }], guard := some (2, true) }) ?_ rfl (by kernel_rfl) (by kernel_rfl) (by kernel_rfl) (fun _ _ _ h => h) (by rfl) (by assumption) ?_ ?_
              rotate_left
              · (intro w0 hS0; go_simp <;> (try with_reducible rfl))
              try simp only [Act.put, List.setIfInBounds_toArray, List.set_cons_zero, List.set_cons_succ]
              refine wpAnyH_read (i := 10) (oi := { dst := some 48, op := Go.Op.load 9 (Go.Operand.tmp 47), type := 9, pos := "ref.go:35", after := #[{ on := 9, ground := Go.Ground.data }, { on := 2, ground := Go.Ground.guard }], guard := some (2, true) }) ?_ rfl (by kernel_rfl) (by kernel_rfl) (by kernel_rfl) (fun _ _ _ h => h) (by rfl) (by assumption) ?_ ?_
              rotate_left
              · (intro w0 hS0; obtain ⟨s0, s1, s2⟩ := HX.out w0 hS0; go_simp <;> (try with_reducible rfl))
              try simp only [Act.put, List.setIfInBounds_toArray, List.set_cons_zero, List.set_cons_succ]
              refine wpAnyH_read (i := 14) (oi := { dst := some 52, op := Go.Op.load 9 (Go.Operand.tmp 51), type := 9, pos := "ref.go:35", after := #[{ on := 13, ground := Go.Ground.data }, { on := 2, ground := Go.Ground.guard }], guard := some (2, true) }) ?_ rfl (by kernel_rfl) (by kernel_rfl) (by kernel_rfl) (fun _ _ _ h => h) (by rfl) (by assumption) ?_ ?_
              rotate_left
              · (intro w0 hS0; obtain ⟨s0, s1, s2⟩ := HX.out w0 hS0; go_simp <;> (try with_reducible rfl))
              try simp only [Act.put, List.setIfInBounds_toArray, List.set_cons_zero, List.set_cons_succ]
              refine wpAnyH_one (i := 15) (o := { dst := some 53, op := Go.Op.call { callee := Go.Callee.value (Go.Operand.func 34), args := #[Go.Operand.tmp 48, Go.Operand.tmp 52], argTypes := #[9, 9] }, type := 3, pos := "ref.go:35", after := #[{ on := 10, ground := Go.Ground.data }, { on := 14, ground := Go.Ground.data }, { on := 2, ground := Go.Ground.chain }, { on := 2, ground := Go.Ground.guard }], guard := some (2, true) }) (by kernel_rfl) rfl (by rfl) (fun K hK => ?_)
              go_simp
              refine (HCm.out _).mono ?_
              rintro e9 V1 ⟨rfl, b1⟩
              have F2 : Hid (Fr (fun _ => False) wr V1) := Lib.hid (((Fr.refl _ wr).drew).trans (Fr.of_below b1))
              clear b1
              refine hK.out _ _ ?_ (fun hHeld => ?_)
              · exact F2.out
              clear hK K
              try simp only [Act.put, List.setIfInBounds_toArray, List.set_cons_zero, List.set_cons_succ]
              refine wpAnyH_read (i := 16) (oi := { dst := some 54, op := Go.Op.binOp Go.BinOp.gtr 3 (Go.Operand.tmp 53) (Go.Operand.const (Go.Value.int Go.IntKind.i64 0)) 3, type := 4, pos := "ref.go:35", after := #[{ on := 15, ground := Go.Ground.data }, { on := 2, ground := Go.Ground.guard }], guard := some (2, true) }) ?_ rfl (by kernel_rfl) (by kernel_rfl) (by kernel_rfl) (fun _ _ _ h => h) (by rfl) (by assumption) ?_ ?_
              rotate_left
              · (intro w0 hS0; go_simp <;> (try with_reducible rfl))
              try simp only [Act.put, List.setIfInBounds_toArray, List.set_cons_zero, List.set_cons_succ]
              refine wpAnyH_read (i := 17) (oi := { dst := some 55, op := Go.Op.pick (Go.Operand.tmp 40) (Go.Operand.tmp 54) (Go.Operand.const (Go.Value.bool false)), type := 4, pos := "ref.go:35", after := #[{ on := 2, ground := Go.Ground.data }, { on := 16, ground := Go.Ground.data }], guard := none }) ?_ rfl (by kernel_rfl) (by kernel_rfl) (by kernel_rfl) (fun _ _ _ h => h) (by rfl) (by assumption) ?_ ?_
              rotate_left
              · (intro w0 hS0; go_simp <;> (try with_reducible rfl))
              try simp only [Act.put, List.setIfInBounds_toArray, List.set_cons_zero, List.set_cons_succ]
              refine wpAnyH_done (by kernel_rfl) ?_ _
              rename World => V1
              have FV : Hid (Fr (fun _ => False) W0 V1) := Lib.hid (HB.out.2.trans F2.out)
              clear F2
              have hlow := HLo.out
              have hown := (HG.out.ofr FV.out).own
              obtain ⟨V2, V3, A3, c3, A4, c4, A5, c5, W3, W4, W5, hs1, hs2, hr3, hr4, hr5, o5, f3, f4, f5⟩ := ins_runsPd (ns := S.map (·.B)) (A := _) (c := c1) (by rw [List.length_map]; exact hown) (fun e9 => by have h1 := HG.out.nil (List.map_eq_nil_iff.1 e9); injection h1 with h1 h2 h3; exact ⟨h1, h3⟩) (i := p + 1) (by rw [List.length_map]; exact hq) (by rw [List.length_map]; omega) xB
              rw [List.length_map] at hs1 hs2 hr5 o5
              have hlen : (S.take (p + 1) ++ x :: S.drop (p + 1)).length = S.length + 1 := by rw [List.length_append, List.length_cons, List.length_take, List.length_drop]; omega
              have HNew : Hid (OfR w E (onD id) (i + 1) (S.take (p + 1) ++ x :: S.drop (p + 1)) (.slice A5 (S.length + 1) c5) W5) := Lib.hid (by
                have hmp : (S.take (p + 1) ++ x :: S.drop (p + 1)).map (·.B) = (S.map (·.B)).take (p + 1) ++ xB :: (S.map (·.B)).drop (p + 1) := by rw [List.map_append, List.map_cons, List.map_take, List.map_drop, HXB.out.1]
                refine ⟨HG.out.fr.trans (FV.out.trans f5), ?_, ?_, ins_sorted HG.out.up hq HNo.out HB.out.1 hlow, fun e9 => absurd e9 (by simp)⟩
                · rw [hmp]; exact ownPd_base o5 (HG.out.fr.trans FV.out).size
                · rw [HT.out, List.filter_append, HP.out]
                  exact (insert_perm S x (p + 1)).trans ((List.perm_append_singleton x S).symm.trans (HG.out.perm.append_right [x])))
              rw [show ((p + 1 : Nat) : Int) = (p : Int) + 1 from rfl] at hs1 hs2
              obtain ⟨u1, u2⟩ := H2.out W3 (FV.out.trans f3)
              have HR4 := Lib.hid hr4
              have HR5 := Lib.hid hr5
              clear hlow hown f3 f4 f5 o5 hr4 hr5
              go_wp2_with (at_builtin; refine Hid.out ?_)
              refine Lib.hid ?_
              refine wpList_app_run rfl _ _ _ _ rfl (by exact hr3) ?_
              go_wp2_with (at_builtin; refine Hid.out ?_)
              refine Lib.hid ?_
              refine wpList_app_run rfl _ _ _ _ rfl (by exact HR4.out) ?_
              go_wp2_with (at_builtin; refine Hid.out ?_)
              refine Lib.hid ?_
              refine wpList_app_run rfl _ _ _ _ rfl (by exact HR5.out) ?_
              go_wp2_with fail
              go_roundw
              case rel => exact ⟨i + 1, _, A5, c5, by go_num, by rw [hlen], by omega, by rw [hlen]; exact HNew⟩
              case measure => simp [RowKit.intOf]; omega
    · have n1 : ¬ (i : Int) < (E.length : Int) := by omega
      have n2 : decide ((i : Int) < (E.length : Int)) = false := by simp; omega
      go_wp2_with fail
      go_ret
      have hie : i = E.length := by omega
      have hp := HG.out.perm
      rw [hie, List.take_length] at hp
      exact ⟨⟨_, S, rfl, HG.out.own, hp, HG.out.up⟩, HG.out.fr.below (Nat.le_refl _) fun _ _ e => e.elim⟩
end Go.Proofs.YtlkeomcillencaaGreat
end
section
/- Layer 20: the document's Part. -/
namespace Go.Proofs.YtlkeomcillencaaGreat
open Go Go.RowKit Go.Maps Go.Sort Go.Shelf Go.Lib

theorem ptr_neqD {a b : Nat} {W : World} {ca cb : Array Value} {ta tb : TypeId} (ha : W.heap[a]? = some (.cells ca ta (0, 0))) (hb : W.heap[b]? = some (.cells cb tb (0, 0))) : (binOp BinOp.neq 40 (.pointer (some ⟨a, 0, none⟩)) (.pointer (some ⟨b, 0, none⟩))).run Tryz.prog W = .ok (.bool (decide (a ≠ b))) W := by
  have hu : Tryz.prog.underlying 40 = some (.pointer 90) := by kernel_rfl
  have hz := Tryz.sizeOf90
  have key : (Op.equal 40 (.pointer (some ⟨a, 0, none⟩)) (.pointer (some ⟨b, 0, none⟩))).run Tryz.prog W = .ok (decide (a = b)) W := by
    rw [Op.equal, Op.maxDepth, show (10000 : Nat) = 9999 + 1 from rfl, Op.equalIn]
    simp only [underlying, go_sem, hu, hz]
    by_cases h : a = b
    · subst h; simp [hz, run_sameAddr_same, go_sem]
    · have hne : (⟨a, 0, none⟩ : Addr) ≠ ⟨b, 0, none⟩ := fun e => h (by injection e)
      simp [hz, run_sameAddr_other W hne ha hb, go_sem, h]
  by_cases h : a = b
  · subst h
    simp [binOp, hu, go_sem, key]
  · simp [binOp, hu, go_sem, h, key]
def RdTo (base R : Nat) (C : Nat → Tag) (mr mj mb : Int) (E : List RdE) (w w' : World) : Prop := ∃ v C', RdPh base w' R v C' mr mj mb E ∧ Onto C C' w w'
theorem RdTo.then {base R : Nat} {C : Nat → Tag} {mr mj mb : Int} {E : List RdE} {w w1 w2 : World} (h : RdTo base R C mr mj mb E w w1) (hb : RowKit.Below w1.heap.size w1 w2) : RdTo base R C mr mj mb E w w2 := by
  obtain ⟨v, C', h1, h2⟩ := h
  exact ⟨v, C', h1.below hb, h2.trans (Onto.of_below C' hb)⟩
theorem RdPh.to {base R : Nat} {v : Value} {C : Nat → Tag} {mr mj mb : Int} {E : List RdE} {w w1 : World} (h : RdPh base w R v C mr mj mb E) (hb : RowKit.Below w.heap.size w w1) : RdTo base R C mr mj mb E w w1 := ⟨v, C, h.below hb, Onto.of_below C hb⟩
theorem getD_mem {E : List RdE} {k : List UInt8} {e : RdE} (h : getD E k = some e) : e ∈ E ∧ keyD e = k := by
  have h2 := List.find?_some h
  exact ⟨List.mem_of_find?_eq_some h, of_decide_eq_true h2⟩
theorem getD_none {E : List RdE} {k : List UInt8} (h : getD E k = none) : k ∉ E.map keyD := fun hm => by
  obtain ⟨e, he, rfl⟩ := List.mem_map.1 hm
  have := List.find?_eq_none.1 h e he
  simp at this
/-- two rooms that lie at the same place are one -/
theorem RdPh.blkKey {base R : Nat} {w : World} {v : Value} {C : Nat → Tag} {mr mj mb : Int} {E : List RdE} (h : RdPh base w R v C mr mj mb E) {e f : RdE} (he : e ∈ E) (hf : f ∈ E) (hB : e.B = f.B) : keyD e = keyD f := by
  have h1 := h.cE e he e.B (.inl rfl)
  have h2 := h.cE f hf f.B (.inl rfl)
  rw [hB, h2] at h1
  exact (Prod.mk.inj h1).2.symm
theorem filterD {base R : Nat} {w : World} {v : Value} {C : Nat → Tag} {mr mj mb : Int} {E1 E2 : List RdE} {f : RdE} (h : RdPh base w R v C mr mj mb (E1 ++ f :: E2)) : (E1 ++ f :: E2).filter (fun e => decide (e.B ≠ f.B)) = E1 ++ E2 := by
  have hk := h.keys
  rw [List.map_append, List.map_cons, List.nodup_append, List.nodup_cons] at hk
  have hff : f ∈ E1 ++ f :: E2 := by simp
  have h1 : ∀ e ∈ E1, e.B ≠ f.B := fun e he e1 => hk.2.2 _ (List.mem_map_of_mem he) _ (List.mem_cons_self ..) (h.blkKey (by simp [he]) hff e1)
  have h2 : ∀ e ∈ E2, e.B ≠ f.B := fun e he e1 => hk.2.1.1 ((h.blkKey (by simp [he]) hff e1) ▸ List.mem_map_of_mem he)
  rw [List.filter_append, List.filter_cons_of_neg (by simp), List.filter_eq_self.2 fun e he => by simpa using h1 e he, List.filter_eq_self.2 fun e he => by simpa using h2 e he]
def flD (E : List RdE) (b i : Nat) : List Nat := ((E.take i).filter fun e => decide (e.B ≠ b)).map (·.B)
/-- what Part does -/
def PartD (base R : Nat) (C : Nat → Tag) (mr mj mb : Int) (E : List RdE) (id : Int) (k : List UInt8) (w : World) (e : Ending) (w' : World) : Prop :=
  ((∀ f, getD E k = some f → onD id f = false) ∧ e = .returned (.bool false) ∧ ∃ E', RdTo base R C mr mj mb E' w w' ∧ E'.map (·.x) = E.map (·.x)) ∨
  (∃ E1 f E2, E = E1 ++ f :: E2 ∧ keyD f = k ∧ onD id f = true ∧ e = .returned (.bool true) ∧
    (((dropX f.x id).L = [] ∧ RdTo base R C mr mj mb (E1 ++ E2) w w') ∨ ((dropX f.x id).L ≠ [] ∧ ∃ q', RdTo base R C mr mj mb (E1 ++ ⟨f.B, q', dropX f.x id⟩ :: E2) w w')))
theorem dropX_nm (x : Rx) (id : Int) : (dropX x id).nm = x.nm := by unfold dropX; split <;> rfl
theorem dropX_no {f : RdE} {id : Int} (h : onD id f = false) : dropX f.x id = f.x := by unfold dropX; exact if_neg (of_decide_eq_false h)
set_option maxRecDepth 100000 in
set_option maxHeartbeats 16000000 in
theorem refPart_any {base : Nat} {w : World} {R : Nat} {v : Value} {C : Nat → Tag} {mr mj mb : Int} {E : List RdE} (h : RdPh base w R v C mr mj mb E) {n : Nat} (hl : RdLg n E) (hn : n ≤ 1000) (id : Int) (nm : List UInt8) (hnm : nm.length ≤ 1000) :
    Calls Tryz.prog 11 #[.pointer (some ⟨R, 0, none⟩), .int .i64 id, .string (bs nm)] w (PartD base R C mr mj mb E id (foldL nm) w) := by
  obtain ⟨i0, hi0, hz0, hz1, hz2⟩ := info_parts Tryz.infoPd
  obtain ⟨P, hP⟩ : ∃ P, PartD base R C mr mj mb E id (foldL nm) w = P := ⟨_, rfl⟩
  rw [hP]
  have HR := Lib.hid hP
  have HG := Lib.hid (refGet_any h hl hn nm hnm)
  have H := Lib.hid (And.intro h (And.intro hl hn))
  cases hg : getD E (foldL nm) with
  | none =>
    rw [hg] at HG
    dsimp only [ptD, Option.map_some, Option.map_none] at HG
    have HGn := Lib.hid hg
    clear h hl hn hnm hP hg
    go_enter Tryz.func11, Tryz.ntmps11
    go_wp2_with fail
    refine HG.out.mono ?_
    rintro e w1 ⟨rfl, b1⟩
    have hfin := H.out.1.to b1
    have HF := Lib.hid hfin
    clear b1 hfin HG
    go_wp2_with fail
    (try go_ret)
    rw [← HR.out]
    exact .inl ⟨(fun f hf => by rw [HGn.out] at hf; cases hf), rfl, E, HF.out, rfl⟩
  | some f =>
    rw [hg] at HG
    dsimp only [ptD, Option.map_some, Option.map_none] at HG
    obtain ⟨hfE, hfk⟩ := getD_mem hg
    obtain ⟨E1, E2, hE⟩ := List.append_of_mem hfE
    obtain ⟨fB, hfB⟩ : ∃ fB, f.B = fB := ⟨_, rfl⟩
    rw [hfB] at HG
    have HX := Lib.hid (And.intro hg (And.intro hfE (And.intro hfk (And.intro hE hfB))))
    clear h hl hn hnm hP hg hfE hfk hE hfB
    go_enter Tryz.func11, Tryz.ntmps11
    go_wp2_with fail
    refine HG.out.mono ?_
    rintro e w1 ⟨rfl, b1⟩
    obtain ⟨h, hl, hn⟩ := H.out
    obtain ⟨hg, hfE, hfk, hE, hfB⟩ := HX.out
    have h1 := h.below b1
    have HD := Lib.hid (refDrop_any (h1.each f hfE) id (by have := hl.llen f hfE; omega))
    rw [hfB] at HD
    have H1 := Lib.hid (And.intro h1 b1)
    obtain ⟨d, hd⟩ : ∃ d, onD id f = d := ⟨_, rfl⟩
    unfold onD at hd
    rw [hd] at HD
    have HDd := Lib.hid (show onD id f = d from hd)
    clear h1 b1 HG h hl hn hg hfE hfk hE hfB hd
    go_wp2_with fail
    refine HD.out.mono ?_
    rintro e w2 ⟨rfl, hx⟩
    obtain ⟨h1, b1⟩ := H1.out
    obtain ⟨hg, hfE, hfk, hE, hfB⟩ := HX.out
    rw [hE] at h1
    rw [← hfB] at hx
    obtain ⟨⟨q', h2⟩, f2⟩ := h1.roomTo (dropX_nm _ _) hx
    have o2 := (Onto.of_below C b1).trans (Onto.of_paint (m := w2.heap.size) (g := (4, keyD f)) f2)
    obtain ⟨C2, hC2⟩ : ∃ C2, paint C w1.heap.size w2.heap.size (4, keyD f) = C2 := ⟨_, rfl⟩
    rw [hC2] at h2 o2
    have hro := h2.each ⟨f.B, q', dropX f.x id⟩ (by simp)
    obtain ⟨Am, cm, hvm⟩ := ownM_slice hro.2.1
    dsimp only at hvm
    obtain ⟨ml, hml⟩ : ∃ ml, (dropX f.x id).L.length = ml := ⟨_, rfl⟩
    rw [hml] at hvm
    have cL := blk_cell hro.1 2
    have cL2 : w2.cell? ⟨fB, 2, none⟩ = some (.slice Am ml cm) := by
      rw [← hfB]; refine cL.trans ?_
      show some q'.vl = _
      rw [hvm]
    have H2 := Lib.hid (And.intro h2 (And.intro o2 hml))
    clear h1 b1 hg hfE hfk hE hfB hx h2 f2 o2 hC2 hro hvm hml cL HD
    cases d with
    | false =>
      go_wp2_with fail
      (try go_ret)
      rw [← HR.out]
      obtain ⟨hg, hfE, hfk, hE, hfB⟩ := HX.out
      obtain ⟨h2, o2, hml⟩ := H2.out
      rw [dropX_no HDd.out] at h2
      exact .inl ⟨(fun f2 h5 => by rw [hg] at h5; cases h5; exact HDd.out), rfl, _, ⟨_, C2, h2, o2⟩, by rw [hE]; simp⟩
    | true =>
      cases ml with
      | succ ml =>
        have hz : (((ml + 1 : Nat) : Int) == 0) = false := by simp; omega
        go_wp2_with fail
        (try go_ret)
        rw [← HR.out]
        obtain ⟨hg, hfE, hfk, hE, hfB⟩ := HX.out
        obtain ⟨h2, o2, hml⟩ := H2.out
        exact .inr ⟨E1, f, E2, hE, hfk, HDd.out, rfl, .inr ⟨(fun e => by rw [e] at hml; cases hml), q', _, C2, h2, o2⟩⟩
      | zero =>
        obtain ⟨E', hE'⟩ : ∃ E', E1 ++ (⟨f.B, q', dropX f.x id⟩ : RdE) :: E2 = E' := ⟨_, rfl⟩
        have HE' := Lib.hid hE'
        have h2 := H2.out.1
        rw [hE'] at h2
        have hl40 : E'.length ≤ 1000 := by
          have h5 := congrArg List.length hE'
          have h6 := congrArg List.length HX.out.2.2.2.1
          simp at h5 h6
          have h7 := H.out.2.1.elen
          have h8 := H.out.2.2
          omega
        obtain ⟨A, c, hv⟩ : ∃ A c, v = .slice A E'.length c := by
          obtain ⟨A, c, hv⟩ := row_slice h2.row
          rw [List.length_map] at hv
          exact ⟨A, c, hv⟩
        have HS := Lib.hid (fun W (hW : Fr (fun _ => False) w2 W) => (show W.cell? ⟨R, 3, none⟩ = some (.slice A E'.length c) from by rw [← hv]; exact blk_cell (hW.blk h2.self fun e => e) 3))
        have K2 := Lib.hid (And.intro h2 hv)
        clear hE' h2 hv
        go_wp2_with fail
        go_loopw [8, 9] (fun o t wr => ∃ (i : Nat) (A1 : Option Addr) (c1 : Nat), t = .int .i64 i ∧ o = .slice A1 (flD E' fB i).length c1 ∧ i ≤ E'.length ∧ Hid (Fr (fun _ => False) w2 wr ∧ OwnPd w2.heap.size wr (.slice A1 (flD E' fB i).length c1) (flD E' fB i))) (fun _ t _ => E'.length - (RowKit.intOf t).toNat)
        case atStart => exact ⟨0, none, 0, rfl, rfl, Nat.zero_le _, Lib.hid ⟨Fr.refl _ _, ownPd_nil _ _⟩⟩
        case round =>
          obtain ⟨i, A1, c1, rfl, rfl, hi, HB⟩ := hrel
          have s0 := HS.out wr HB.out.1
          by_cases hlt : i < E'.length
          · obtain ⟨g, rfl, hf⟩ := rd_facts K2.out.1 K2.out.2 hlt
            obtain ⟨e, he⟩ : ∃ e, E'[i] = e := ⟨_, rfl⟩
            rw [he] at hf
            obtain ⟨eB, heB⟩ : ∃ eB, e.B = eB := ⟨_, rfl⟩
            obtain ⟨q1, q2, rE⟩ := hf wr HB.out.1
            rw [heB] at q2 rE
            have rF : wr.heap[fB]? = some (rxO (dropX f.x id) q') := by
              have h9 := K2.out.1.each ⟨f.B, q', dropX f.x id⟩ (by rw [← HE'.out]; simp)
              have h8 := HB.out.1.blk h9.1 fun e => e
              rw [← HX.out.2.2.2.2]; exact h8
            have hpe := ptr_neqD rE rF
            have htk : E'.take (i + 1) = E'.take i ++ [e] := by rw [List.take_succ_eq_append_getElem hlt, he]
            have n1 : (i : Int) < (E'.length : Int) := by omega
            have n2 : decide ((i : Int) < (E'.length : Int)) = true := by simp; omega
            have n3 : (i : Int) ≤ 1000000 := by omega
            have hfl40 : (flD E' fB i).length ≤ 1000 := by
              unfold flD
              rw [List.length_map]
              have := List.length_filter_le (fun e : RdE => decide (e.B ≠ fB)) (E'.take i)
              rw [List.length_take] at this
              omega
            have HT := Lib.hid (And.intro htk heB)
            clear hf he heB htk rE rF
            by_cases hB : eB = fB
            · have hfl : flD E' fB (i + 1) = flD E' fB i := by
                unfold flD
                rw [HT.out.1, List.filter_append, List.filter_cons_of_neg (by rw [HT.out.2, hB]; simp)]
                simp
              have hN : Hid (Fr (fun _ => False) w2 wr ∧ OwnPd w2.heap.size wr (.slice A1 (flD E' fB (i + 1)).length c1) (flD E' fB (i + 1))) := Lib.hid (by rw [hfl]; exact HB.out)
              have HFl := Lib.hid hfl
              subst hB
              rw [decide_eq_false (by simp)] at hpe
              clear hfl
              go_wp2_with fail
              go_roundw
              case rel => exact ⟨i + 1, A1, c1, by go_num, by rw [HFl.out], by omega, hN⟩
              case measure => simp [RowKit.intOf]; omega
            · have hfl : flD E' fB (i + 1) = flD E' fB i ++ [eB] := by
                unfold flD
                rw [HT.out.1, List.filter_append, List.map_append, List.filter_cons_of_pos (by rw [HT.out.2]; simpa using hB)]
                simp [HT.out.2]
              have HFl := Lib.hid hfl
              obtain ⟨fl, hfl2⟩ : ∃ fl, flD E' fB i = fl := ⟨_, rfl⟩
              have hown := HB.out.2
              rw [hfl2] at hown hfl40
              have hor : wr.ownsRow w2.heap.size 40 1 (.slice A1 fl.length c1) fl.length (fl.map encPr) := hown
              have HO := Lib.hid hor
              have hwz : w2.heap.size ≤ wr.heap.size := HB.out.1.size
              have HF2 := Lib.hid hfl2
              rw [decide_eq_true (show eB ≠ fB from hB)] at hpe
              clear hfl hown hor
              rw [hfl2]
              clear hfl2
              go_wp2_with (at_builtin; refine Hid.out ?_)
              refine Lib.hid ?_
              refine wpList_one_t rfl _ _ 30 rfl w2.heap.size 40 i0 _ 1 8 Tryz.underlying30 hi0 hz0 hz1 hz2 rfl (by decide) _ _ _ rfl HO.out #[.pointer (some ⟨eB, 0, none⟩)] _ rfl rfl rfl (by intro u hu; simp at hu; subst hu; rfl) (by omega) (by decide) hwz ?_
              intro v1 W3 hown1 hfr1 htie
              obtain ⟨A2, c2, rfl⟩ := row_slice hown1
              have hN : Hid (Fr (fun _ => False) w2 W3 ∧ OwnPd w2.heap.size W3 (.slice A2 (fl.length + 1) c2) (fl ++ [eB])) := Lib.hid ⟨HB.out.1.trans3 hfr1 fun k hk e9 => by have := (HO.out.lt k e9).1; omega, ownPd_snoc hown1⟩
              clear hown1 hfr1 htie
              go_wp2_with fail
              go_roundw
              case rel => exact ⟨i + 1, A2, c2, by go_num, by rw [HFl.out, HF2.out, List.length_append]; rfl, by omega, by rw [HFl.out, HF2.out, List.length_append]; exact hN⟩
              case measure => simp [RowKit.intOf]; omega
          · have n1 : ¬ (i : Int) < (E'.length : Int) := by omega
            have n2 : decide ((i : Int) < (E'.length : Int)) = false := by simp; omega
            obtain ⟨h2, hv⟩ := K2.out
            have hie : i = E'.length := by omega
            have hR := HB.out.1.blk h2.self fun e => e
            have dR := blk_free hR 3
            have hfin : flD E' fB i = (E1 ++ E2).map (·.B) := by
              unfold flD
              rw [hie, List.take_length]
              have h5 := h2
              rw [← HE'.out] at h5
              have h6 := filterD h5
              rw [← HE'.out, ← HX.out.2.2.2.2]
              exact congrArg _ h6
            obtain ⟨W4, hW4⟩ : ∃ W4, wr.setCell ⟨R, 3, none⟩ (.slice A1 (flD E' fB i).length c1) = W4 := ⟨_, rfl⟩
            have hown := HB.out.2
            have hne : (Value.slice A1 (flD E' fB i).length c1).ownBlock ≠ some R := fun e9 => by have := (hown.lt R e9).1; have := blk_lt h2.self; omega
            have f4 : Fr (fun k => k = R) w2 W4 := by rw [← hW4]; exact (HB.out.1.mono (Y := fun k => k = R) fun _ _ e => e.elim).setCell ⟨R, 3, none⟩ rfl _
            have kR : W4.heap[R]? = some (rdO mr mj mb (.slice A1 (flD E' fB i).length c1)) := by rw [← hW4]; exact blk_set hR 3 _
            have ho4 : OwnPd w2.heap.size W4 (.slice A1 (flD E' fB i).length c1) ((E1 ++ E2).map (·.B)) := by
              rw [← hfin, ← hW4]
              exact ownPd_kept hown fun g hg => heap_setCell_other wr _ g _ fun e9 => by simp at e9; exact hne (e9 ▸ hg)
            have hsub : (E1 ++ E2).Sublist E' := by rw [← HE'.out]; exact List.Sublist.append (List.Sublist.refl _) (List.sublist_cons_self ..)
            obtain ⟨h8, g8⟩ := h2.rowTo hsub (ownPd_base ho4 h2.base_le) (fun k hk => (hown.lt k hk).1) kR f4
            have o8 := H2.out.2.1.trans (Onto.of_paint (m := W4.heap.size) (g := (2, [])) g8)
            have HQ := Lib.hid (And.intro h8 (And.intro o8 hW4))
            clear h2 hv hR hfin hown hne f4 kR ho4 hsub h8 g8 o8 hW4 hie
            go_wp2_with fail
            (try go_ret)
            rw [← HR.out]
            obtain ⟨h8, o8, hW4⟩ := HQ.out
            rw [hW4]
            obtain ⟨hg, hfE, hfk, hE, hfB⟩ := HX.out
            exact .inr ⟨E1, f, E2, hE, hfk, HDd.out, rfl, .inl ⟨List.length_eq_zero_iff.1 H2.out.2.2, _, _, h8, o8⟩⟩
end Go.Proofs.YtlkeomcillencaaGreat
end
