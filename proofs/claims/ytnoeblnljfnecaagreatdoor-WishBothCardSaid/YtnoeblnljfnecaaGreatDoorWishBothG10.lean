/- Texts of this proof, one behind the other. -/
import Derived.Test.YtnoeblnljfnecaaGreatDoorWishBothG9
import Derived.Test.YtnoeblnljfnecaaGreatDoorWishBothG8
import Derived.DeepKeys4
import Derived.Maps.StringElems
section
/- Layer 21: the document's lists: Of, walked. -/
namespace Go.Proofs.YtnoeblnljfnecaaGreatDoor
set_option linter.unusedVariables false
set_option linter.unusedSimpArgs false
open Go Go.RowKit Go.Maps Go.Sort Go.Shelf Go.Lib

theorem namesW_no {U : List WEnt} {a : Int} {ns : List (List UInt8)} (h : NamesW U a ns) {p : WEnt} (hp : p.1 ≠ a) : NamesW (U ++ [p]) a ns := by
  refine ⟨h.up, fun n => ?_⟩
  rw [h.mem, List.mem_append, List.mem_singleton]
  exact ⟨.inl, fun e => e.resolve_right fun e2 => hp (by rw [← e2])⟩
theorem namesW_ins {U : List WEnt} {a : Int} {ns : List (List UInt8)} (h : NamesW U a ns) {s : List UInt8} (hnd : ((U ++ [(a, s)]).map fkW).Nodup) {q : Nat} (hq : q ≤ ns.length) (h1 : ∀ r (hr : r < ns.length), q ≤ r → foldL s < foldL ns[r]) (h2 : ∀ p (hp : p < ns.length), p + 1 = q → ¬ foldL s < foldL ns[p]) : NamesW (U ++ [(a, s)]) a (ns.take q ++ s :: ns.drop q) := by
  have hno : ∀ n ∈ ns, foldL n ≠ foldL s := fun n hn e => by
    rw [List.map_append, List.nodup_append] at hnd
    exact hnd.2.2 (fkW (a, n)) (List.mem_map_of_mem ((h.mem n).1 hn)) (fkW (a, s)) (by simp) (by unfold fkW; rw [e])
  have hup := h.up
  have hsp : ns = ns.take q ++ ns.drop q := (List.take_append_drop q ns).symm
  have hup2 := hup
  rw [hsp, List.map_append, List.pairwise_append] at hup2
  obtain ⟨u1, u2, u3⟩ := hup2
  have idx : ∀ i j (hj : j < ns.length) (hij : i < j), foldL (ns[i]'(by omega)) < foldL ns[j] := fun i j hj hij => by
    have := List.pairwise_iff_getElem.1 hup i j (by simp; omega) (by simp; omega) hij
    simpa using this
  have lo : ∀ n ∈ ns.take q, foldL n < foldL s := fun n hn => by
    obtain ⟨i, hi, rfl⟩ := List.getElem_of_mem hn
    rw [List.length_take] at hi
    rw [List.getElem_take]
    rcases ttri (foldL ns[i]) (foldL s) with e | e | e
    · exact e
    · exact absurd e (hno _ (List.getElem_mem _))
    · exfalso
      refine h2 (q - 1) (by omega) (by omega) ?_
      rcases Nat.lt_or_ge i (q - 1) with h3 | h3
      · exact ttr e (idx i (q - 1) (by omega) h3)
      · have : i = q - 1 := by omega
        subst this
        exact e
  have hi : ∀ n ∈ ns.drop q, foldL s < foldL n := fun n hn => by
    obtain ⟨i, hi, rfl⟩ := List.getElem_of_mem hn
    rw [List.length_drop] at hi
    rw [List.getElem_drop]
    exact h1 _ (by omega) (by omega)
  refine ⟨?_, fun n => ?_⟩
  · rw [List.map_append, List.map_cons, List.pairwise_append]
    refine ⟨u1, List.pairwise_cons.2 ⟨fun y hy => ?_, u2⟩, fun x hx y hy => ?_⟩
    · obtain ⟨n, hn, rfl⟩ := List.mem_map.1 hy
      exact hi n hn
    · rcases List.mem_cons.1 hy with rfl | hy
      · obtain ⟨n, hn, rfl⟩ := List.mem_map.1 hx
        exact lo n hn
      · exact u3 x hx y hy
  · have hm : n ∈ ns.take q ++ s :: ns.drop q ↔ (n ∈ ns ∨ n = s) := by
      have e : n ∈ ns ↔ n ∈ ns.take q ∨ n ∈ ns.drop q := by rw [← List.mem_append, List.take_append_drop]
      rw [e, List.mem_append, List.mem_cons]
      constructor
      · rintro (h | h | h)
        · exact .inl (.inl h)
        · exact .inr h
        · exact .inl (.inr h)
      · rintro ((h | h) | h)
        · exact .inl h
        · exact .inr (.inr h)
        · exact .inr (.inl h)
    rw [hm, h.mem, List.mem_append, List.mem_singleton, Prod.mk.injEq]
    simp
theorem namesW_nil (a : Int) : NamesW [] a [] := ⟨by simp, fun n => by simp⟩
theorem namesW_len {U : List WEnt} {a : Int} {ns : List (List UInt8)} (h : NamesW U a ns) : ns.length ≤ U.length := by
  have h1 := nodup_len (A := ns) (B := U.map (·.2)) (by
    have := h.up
    rw [List.pairwise_map] at this
    exact List.Pairwise.imp (fun {x y} (hlt : foldL x < foldL y) (e : x = y) => by subst e; exact tirr _ hlt) this) fun n hn => List.mem_map.2 ⟨(a, n), (h.mem n).1 hn, rfl⟩
  simpa using h1
/-- names, in a row of the call's own -/
def NmsW (ns : List (List UInt8)) (w : World) (e : Ending) (w' : World) : Prop := (∃ A c, e = .returned (.slice A ns.length c) ∧ OwnT w.heap.size w' (.slice A ns.length c) ns) ∧ Below w.heap.size w w'
def OfWs (U : List WEnt) (a : Int) (w : World) (e : Ending) (w' : World) : Prop := ∃ ns, NamesW U a ns ∧ NmsW ns w e w'
/-- how far the document's Of has come -/
structure OfG (w : World) (U : List WEnt) (a : Int) (j : Nat) (ns : List (List UInt8)) (v : Value) (W : World) : Prop where
  nms : NamesW (U.take j) a ns
  own : OwnT w.heap.size W v ns
  nil : ns = [] → v = .slice none 0 0
  below : Below w.heap.size w W
theorem OfG.fr {w : World} {U : List WEnt} {a : Int} {j : Nat} {ns : List (List UInt8)} {v : Value} {W W' : World} (h : OfG w U a j ns v W) (hf : Fr (fun _ => False) W W') : OfG w U a j ns v W' :=
  ⟨h.nms, ownT_kept h.own fun g hg => hf.block g (h.own.lt g hg).2 fun e => e, h.nil, h.below.trans (hf.below h.below.size fun _ _ e => e.elim)⟩
set_option maxRecDepth 100000 in
set_option maxHeartbeats 16000000 in
theorem refw_of {base : Nat} {w : World} {x : Nat} {most : Int} {U : List WEnt} (h : RefWR base w x most U) (hlen : U.length ≤ 900000) (hok : OkW U) (hnd : (U.map fkW).Nodup) (a : Int) :
    Calls Tryz.prog 21 #[.pointer (some ⟨x, 0, none⟩), .int .i64 a] w (OfWs U a w) := by
  have mixed : Tryz.prog.follows Departure.mixedOrders = true := by kernel_rfl
  obtain ⟨h0, A, c, h2, h3, h4⟩ := h
  have hx : ∀ W, Below w.heap.size w W → W.cell? ⟨x, 1, none⟩ = some (.slice A U.length c) := fun W hb => (blk_cell ((Fr.of_below hb).blk (X := fun _ => False) h2 fun e => e) 1).trans rfl
  have hrd : ∀ W, Below w.heap.size w W → ReadsWR W A U := fun W hb => reads_ownWR (ownWR_kept h3 fun g hg => hb.block g (h3.lt g hg).2)
  have HC := Lib.hid (And.intro hx (And.intro hrd (And.intro hok hnd)))
  have H0 : Hid (OfG w U a 0 [] (.slice none 0 0) w) := ⟨namesW_nil a, ownT_nil _ _, fun _ => rfl, Below.refl _ _⟩
  clear hx hrd h0 h2 h3 h4 hok hnd
  go_enter Tryz.func21, Tryz.ntmps21
  go_wp2_with fail
  go_loopw [5, 6, 7, 8] (fun o i _ _ wr => ∃ (j : Nat) (ns : List (List UInt8)) (A1 : Option Addr) (c1 : Nat), i = .int .i64 j ∧ o = .slice A1 ns.length c1 ∧ j ≤ U.length ∧ Hid (OfG w U a j ns (.slice A1 ns.length c1) wr)) (fun _ i _ _ _ => U.length - (RowKit.intOf i).toNat)
  case atStart => exact ⟨0, [], none, 0, rfl, rfl, Nat.zero_le _, H0⟩
  case round =>
    obtain ⟨j, ns, A1, c1, rfl, rfl, hj, HF⟩ := hrel
    clear H0
    have hcx := HC.out.1 wr HF.out.below
    by_cases hlt : j < U.length
    · obtain ⟨g, o, rfl, hg, hcell⟩ := HC.out.2.1 wr HF.out.below (by omega)
      have hcell2 : ∀ W, Fr (fun _ => False) wr W → W.cell? ⟨g, o + j * 2 + 1, none⟩ = some (.string (bs U[j].2)) ∧ W.cell? ⟨x, 1, none⟩ = some (.slice (some ⟨g, o, none⟩) U.length c) := fun W hf => ⟨(hf.cell (p := ⟨g, o + j * 2 + 1, none⟩) hg fun e => e).trans (hcell j hlt).2, HC.out.1 W (HF.out.fr hf).below⟩
      obtain ⟨e1, e2⟩ := hcell j hlt
      have htk : U.take (j + 1) = U.take j ++ [U[j]] := List.take_succ_eq_append_getElem hlt
      have hkl : U[j].2.length ≤ 1000 := (HC.out.2.2.1 _ (List.getElem_mem hlt)).2
      obtain ⟨p1, p2⟩ : ∃ p : WEnt, U[j] = p := ⟨_, rfl⟩
      rw [p2] at e1 e2 htk hkl hcell2
      obtain ⟨ka, kb⟩ := p1
      dsimp only at e1 e2 hkl hcell2
      have hnl : ns.length ≤ 900000 := by have := namesW_len HF.out.nms; rw [List.length_take] at this; omega
      have q1 : (j : Int) < (U.length : Int) := by omega
      have q0 : (0 : Int) ≤ (j : Int) := by omega
      have HT := Lib.hid htk
      clear hcell p2 htk hg
      by_cases hka : ka = a
      · subst hka
        have hk1 : (ka != ka) = false := by simp
        have hnd1 : ((U.take j ++ [(ka, kb)]).map fkW).Nodup := by
          rw [← HT.out]
          exact (List.Sublist.map fkW (List.take_sublist (j + 1) U)).nodup HC.out.2.2.2
        have HND := Lib.hid hnd1
        have H2 := Lib.hid hcell2
        clear hnd1 hcell2
        go_wp2_with fail
        rename World => W0
        go_loopw [7] (fun t V => ∃ q : Nat, t = .int .i64 q ∧ q ≤ ns.length ∧ Hid ((∀ r (hr : r < ns.length), q ≤ r → foldL kb < foldL ns[r]) ∧ Fr (fun _ => False) W0 V)) (fun t _ => (RowKit.intOf t).toNat)
        case atStart => exact ⟨ns.length, rfl, Nat.le_refl _, fun r hr h => by omega, Fr.refl _ _⟩
        case round =>
          obtain ⟨q, rfl, hq, HB⟩ := hrel
          rcases Nat.eq_zero_or_pos q with hq0 | hq0
          · subst hq0
            go_wp2_with fail
            go_quiet (fail)
            generalize hV1 : wr.drewN nq = V1
            have FV : Hid (Fr (fun _ => False) W0 V1) := by rw [← hV1]; exact HB.out.2.drewN nq
            clear hV1 e1 e2 hcx
            have hlow : ∀ p (hp : p < ns.length), p + 1 = 0 → ¬ foldL kb < foldL ns[p] := fun p _ e => by omega
            have hown := (HF.out.fr FV.out).own
            obtain ⟨V2, V3, A3, c3, A4, c4, A5, c5, W3, W4, W5, hs1, hs2, hr3, hr4, hr5, o5, f3, f4, f5⟩ := ins_runs hown (fun e => by have h1 := HF.out.nil e; injection h1 with h1 h2 h3; exact ⟨h1, h3⟩) hq (by omega) kb
            have HNew : Hid (OfG w U ka (j + 1) (ns.take (0) ++ kb :: ns.drop (0)) (.slice A5 (ns.length + 1) c5) W5) := ⟨by rw [HT.out]; exact namesW_ins HF.out.nms HND.out hq HB.out.1 hlow, ownT_base o5 (HF.out.fr FV.out).below.size, fun e => absurd e (by simp), (HF.out.fr (FV.out.trans f5)).below⟩
            rw [show ((0 : Nat) : Int) = 0 from rfl] at hs1 hs2
            have hlen : (ns.take (0) ++ kb :: ns.drop (0)).length = ns.length + 1 := by rw [List.length_append, List.length_cons, List.length_take, List.length_drop]; omega
            obtain ⟨u1, u2⟩ := H2.out W3 (FV.out.trans f3)
            have HR4 := Lib.hid hr4
            have HR5 := Lib.hid hr5
            clear hlow hown f3 f4 f5 o5 hr4 hr5
            go_wp2_with (at_builtin; refine Hid.out ?_)
            refine Lib.hid ?_
            refine wpList_app_run rfl _ _ _ _ rfl (by exact hr3) ?_
            go_wp2_with (at_builtin; refine Hid.out ?_)
            refine Lib.hid ?_
            refine wpList_app_run rfl _ _ _ _ rfl (by exact HR4.out) ?_
            go_wp2_with (at_builtin; refine Hid.out ?_)
            refine Lib.hid ?_
            refine wpList_app_run rfl _ _ _ _ rfl (by exact HR5.out) ?_
            go_wp2_with fail
            go_roundw
            case rel => exact ⟨j + 1, _, A5, c5, by go_num, by rw [hlen], by omega, by rw [hlen]; exact HNew⟩
            case measure => simp [RowKit.intOf]; omega
          · obtain ⟨p, rfl⟩ : ∃ p, q = p + 1 := ⟨q - 1, by omega⟩
            obtain ⟨el, hel⟩ : ∃ el, ns[p]'(by omega) = el := ⟨_, rfl⟩
            have hell : el.length ≤ 1000 := by
              have hm := (HF.out.nms.mem el).1 (by rw [← hel]; exact List.getElem_mem _)
              exact (HC.out.2.2.1 _ (List.mem_of_mem_take hm)).2
            obtain ⟨g1, o1, rfl, hg1, hcell1⟩ := reads_ownT (A := A1) (n := ns.length) (c := c1) HF.out.own (by omega)
            have hcl : ∀ W, Fr (fun _ => False) wr W → W.cell? ⟨g1, o1 + p, none⟩ = some (.string (bs el)) ∧ W.cell? ⟨g, o + j * 2 + 1, none⟩ = some (.string (bs kb)) ∧ W.cell? ⟨x, 1, none⟩ = some (.slice (some ⟨g, o, none⟩) U.length c) := fun W hf => ⟨by rw [(HB.out.2.trans hf).cell (p := ⟨g1, o1 + p, none⟩) hg1 fun e => e, hcell1 p (by omega), hel], H2.out W (HB.out.2.trans hf)⟩
            have HX := Lib.hid hcl
            have HE := Lib.hid hel
            have p5 : (p : Int) < (ns.length : Int) := by omega
            have r5 : (0 : Int) ≤ (p : Int) := by omega
            have hwm : IntKind.i64.wrap (p : Int) = (p : Int) := IntWalk.i64_in _ ⟨by omega, by omega⟩
            have r6 : (p : Int) + 1 > 0 := by omega
            have r7 : (0 : Int) < (p : Int) + 1 := by omega
            have HCm : Hid (∀ V, Calls Tryz.prog 39 #[.string (bs el), .string (bs kb)] V fun e V' => e = .returned (.int .i64 (cmpF el kb)) ∧ Below V.heap.size V V') := fun V => refcompare (bs el) (bs kb) V (by simp; omega) (by simp; omega)
            obtain ⟨z, hz⟩ : ∃ z, cmpF el kb = z := ⟨_, rfl⟩
            have hzp := cmpF_pos el kb
            rw [hz] at HCm hzp
            have HZ := Lib.hid hzp
            clear hcl hel hg1 hcell1 hz hzp hcx e1 e2
            by_cases hgt : foldL kb < foldL el
            · have z1 : (0 : Int) < z := HZ.out.2 hgt
              have hN : Hid (∀ r (hr : r < ns.length), p ≤ r → foldL kb < foldL ns[r]) := fun r hr h => by
                rcases Nat.lt_or_ge p r with h1 | h1
                · exact HB.out.1 r hr h1
                · obtain rfl : r = p := by omega
                  rw [HE.out]; exact hgt
              clear hgt
              go_wp2_with fail
              refine wp_region_held_drew (S := fun W => Fr (fun _ => False) wr W) (by kernel_rfl) (by exact (Fr.refl _ wr).drew) (fun hHeld => ?_)
              refine wpAnyH_read (i := 0) (oi := { dst := some 30, op := Go.Op.move (Go.Operand.tmp 7), type := 3, pos := "ref.go:41", after := #[], guard := none }) ?_ rfl (by kernel_rfl) (by kernel_rfl) (by kernel_rfl) (fun _ _ _ h => h) (by rfl) (by assumption) ?_ ?_
              rotate_left
              · (intro w0 hS0; go_simp <;> (try with_reducible rfl))
              try simp only [Act.put, List.setIfInBounds_toArray, List.set_cons_zero, List.set_cons_succ]
              refine wpAnyH_read (i := 1) (oi := { dst := some 31, op := Go.Op.binOp Go.BinOp.gtr 3 (Go.Operand.tmp 30) (Go.Operand.const (Go.Value.int Go.IntKind.i64 0)) 3, type := 4, pos := "ref.go:41", after := #[{ on := 0, ground := Go.Ground.data }], guard := none }) ?_ rfl (by kernel_rfl) (by kernel_rfl) (by kernel_rfl) (fun _ _ _ h => h) (by rfl) (by assumption) ?_ ?_
              rotate_left
              · (intro w0 hS0; go_simp <;> (try with_reducible rfl))
              try simp only [Act.put, List.setIfInBounds_toArray, List.set_cons_zero, List.set_cons_succ]
              refine wpAnyH_read (i := 2) (oi := { dst := some 32, op := Go.Op.move (Go.Operand.tmp 31), type := 4, pos := "ref.go:41", after := #[{ on := 1, ground := Go.Ground.data }], guard := none }) ?_ rfl (by kernel_rfl) (by kernel_rfl) (by kernel_rfl) (fun _ _ _ h => h) (by rfl) (by assumption) ?_ ?_
              rotate_left
              · (intro w0 hS0; go_simp <;> (try with_reducible rfl))
              try simp only [Act.put, List.setIfInBounds_toArray, List.set_cons_zero, List.set_cons_succ]
              refine wpAnyH_read (i := 3) (oi := { dst := some 33, op := Go.Op.move (Go.Operand.tmp 5), type := 38, pos := "ref.go:41", after := #[{ on := 2, ground := Go.Ground.guard }], guard := some (2, true) }) ?_ rfl (by kernel_rfl) (by kernel_rfl) (by kernel_rfl) (fun _ _ _ h => h) (by rfl) (by assumption) ?_ ?_
              rotate_left
              · (intro w0 hS0; go_simp <;> (try with_reducible rfl))
              try simp only [Act.put, List.setIfInBounds_toArray, List.set_cons_zero, List.set_cons_succ]
              refine wpAnyH_read (i := 4) (oi := { dst := some 34, op := Go.Op.move (Go.Operand.tmp 7), type := 3, pos := "ref.go:41", after := #[{ on := 2, ground := Go.Ground.guard }], guard := some (2, true) }) ?_ rfl (by kernel_rfl) (by kernel_rfl) (by kernel_rfl) (fun _ _ _ h => h) (by rfl) (by assumption) ?_ ?_
              rotate_left
              · (intro w0 hS0; go_simp <;> (try with_reducible rfl))
              try simp only [Act.put, List.setIfInBounds_toArray, List.set_cons_zero, List.set_cons_succ]
              refine wpAnyH_read (i := 5) (oi := { dst := some 35, op := Go.Op.binOp Go.BinOp.sub 3 (Go.Operand.tmp 34) (Go.Operand.const (Go.Value.int Go.IntKind.i64 1)) 3, type := 3, pos := "ref.go:41", after := #[{ on := 4, ground := Go.Ground.data }, { on := 2, ground := Go.Ground.guard }], guard := some (2, true) }) ?_ rfl (by kernel_rfl) (by kernel_rfl) (by kernel_rfl) (fun _ _ _ h => h) (by rfl) (by assumption) ?_ ?_
              rotate_left
              · (intro w0 hS0; go_simp <;> (try with_reducible rfl))
              try simp only [Act.put, List.setIfInBounds_toArray, List.set_cons_zero, List.set_cons_succ]
              refine wpAnyH_read (i := 6) (oi := { dst := some 36, op := Go.Op.indexAddr 38 (Go.Operand.tmp 33) (Go.Operand.tmp 35), type := 0, pos := "ref.go:41", after := #[{ on := 3, ground := Go.Ground.data }, { on := 5, ground := Go.Ground.data }, { on := 2, ground := Go.Ground.guard }], guard := some (2, true) }) ?_ rfl (by kernel_rfl) (by kernel_rfl) (by kernel_rfl) (fun _ _ _ h => h) (by rfl) (by assumption) ?_ ?_
              rotate_left
              · (intro w0 hS0; go_simp <;> (try with_reducible rfl))
              try simp only [Act.put, List.setIfInBounds_toArray, List.set_cons_zero, List.set_cons_succ]
              refine wpAnyH_read (i := 8) (oi := { dst := some 38, op := Go.Op.move (Go.Operand.tmp 0), type := 27, pos := "ref.go:41", after := #[{ on := 2, ground := Go.Ground.guard }], guard := some (2, true) }) ?_ rfl (by kernel_rfl) (by kernel_rfl) (by kernel_rfl) (fun _ _ _ h => h) (by rfl) (by assumption) ?_ ?_
              rotate_left
              · (intro w0 hS0; go_simp <;> (try with_reducible rfl))
              try simp only [Act.put, List.setIfInBounds_toArray, List.set_cons_zero, List.set_cons_succ]
              refine wpAnyH_read (i := 9) (oi := { dst := some 39, op := Go.Op.nilCheck (Go.Operand.tmp 38), type := 0, pos := "ref.go:41", after := #[{ on := 8, ground := Go.Ground.data }, { on := 2, ground := Go.Ground.guard }], guard := some (2, true) }) ?_ rfl (by kernel_rfl) (by kernel_rfl) (by kernel_rfl) (fun _ _ _ h => h) (by rfl) (by assumption) ?_ ?_
              rotate_left
              · (intro w0 hS0; go_simp <;> (try with_reducible rfl))
              try simp only [Act.put, List.setIfInBounds_toArray, List.set_cons_zero, List.set_cons_succ]
              refine wpAnyH_read (i := 10) (oi := { dst := some 40, op := Go.Op.fieldAddr 30 (Go.Operand.tmp 39) 1, type := 0, pos := "ref.go:41", after := #[{ on := 9, ground := Go.Ground.data }, { on := 2, ground := Go.Ground.guard }], guard := some (2, true) }) ?_ rfl (by kernel_rfl) (by kernel_rfl) (by kernel_rfl) (fun _ _ _ h => h) (by rfl) (by assumption) ?_ ?_
              rotate_left
              · (intro w0 hS0; go_simp <;> (try with_reducible rfl))
              try simp only [Act.put, List.setIfInBounds_toArray, List.set_cons_zero, List.set_cons_succ]
              refine wpAnyH_read (i := 12) (oi := { dst := some 42, op := Go.Op.move (Go.Operand.tmp 6), type := 3, pos := "ref.go:41", after := #[{ on := 2, ground := Go.Ground.guard }], guard := some (2, true) }) ?_ rfl (by kernel_rfl) (by kernel_rfl) (by kernel_rfl) (fun _ _ _ h => h) (by rfl) (by assumption) ?_ ?_
              rotate_left
              · (intro w0 hS0; go_simp <;> (try with_reducible rfl))
              try simp only [Act.put, List.setIfInBounds_toArray, List.set_cons_zero, List.set_cons_succ]
              refine wpAnyH_read (i := 7) (oi := { dst := some 37, op := Go.Op.load 9 (Go.Operand.tmp 36), type := 9, pos := "ref.go:41", after := #[{ on := 6, ground := Go.Ground.data }, { on := 2, ground := Go.Ground.guard }], guard := some (2, true) }) ?_ rfl (by kernel_rfl) (by kernel_rfl) (by kernel_rfl) (fun _ _ _ h => h) (by rfl) (by assumption) ?_ ?_
              rotate_left
              · (intro w0 hS0; obtain ⟨s0, s1, s2⟩ := HX.out w0 hS0; go_simp <;> (try with_reducible rfl))
              try simp only [Act.put, List.setIfInBounds_toArray, List.set_cons_zero, List.set_cons_succ]
              refine wpAnyH_read (i := 11) (oi := { dst := some 41, op := Go.Op.load 28 (Go.Operand.tmp 40), type := 28, pos := "ref.go:41", after := #[{ on := 10, ground := Go.Ground.data }, { on := 2, ground := Go.Ground.guard }], guard := some (2, true) }) ?_ rfl (by kernel_rfl) (by kernel_rfl) (by kernel_rfl) (fun _ _ _ h => h) (by rfl) (by assumption) ?_ ?_
              rotate_left
              · (intro w0 hS0; obtain ⟨s0, s1, s2⟩ := HX.out w0 hS0; go_simp <;> (try with_reducible rfl))
              try simp only [Act.put, List.setIfInBounds_toArray, List.set_cons_zero, List.set_cons_succ]
              refine wpAnyH_read (i := 13) (oi := { dst := some 43, op := Go.Op.indexAddr 28 (Go.Operand.tmp 41) (Go.Operand.tmp 42), type := 0, pos := "ref.go:41", after := #[{ on := 11, ground := Go.Ground.data }, { on := 12, ground := Go.Ground.data }, { on := 2, ground := Go.Ground.guard }], guard := some (2, true) }) ?_ rfl (by kernel_rfl) (by kernel_rfl) (by kernel_rfl) (fun _ _ _ h => h) (by rfl) (by assumption) ?_ ?_
              rotate_left
              · (intro w0 hS0; go_simp <;> (try with_reducible rfl))
              try simp only [Act.put, List.setIfInBounds_toArray, List.set_cons_zero, List.set_cons_succ]
              refine wpAnyH_read (i := 14) (oi := { dst := some 44, op := Go.Op.fieldAddr 73 (Go.Operand.tmp 43) 1, type := 0, pos := "ref.go:41", after := #[{ on := 13, ground := Go.Ground.data }, { on := 2, ground := Go.Ground.guard }], guard := some (2, true) }) ?_ rfl (by kernel_rfl) (by kernel_rfl) (by kernel_rfl) (fun _ _ _ h => h) (by rfl) (by assumption) ?_ ?_
              rotate_left
              · (intro w0 hS0; go_simp <;> (try with_reducible rfl))
              try simp only [Act.put, List.setIfInBounds_toArray, List.set_cons_zero, List.set_cons_succ]
              refine wpAnyH_read (i := 15) (oi := { dst := some 45, op := Go.Op.load 9 (Go.Operand.tmp 44), type := 9, pos := "ref.go:41", after := #[{ on := 14, ground := Go.Ground.data }, { on := 2, ground := Go.Ground.guard }], guard := some (2, true) }) ?_ rfl (by kernel_rfl) (by kernel_rfl) (by kernel_rfl) (fun _ _ _ h => h) (by rfl) (by assumption) ?_ ?_
              rotate_left
              · (intro w0 hS0; obtain ⟨s0, s1, s2⟩ := HX.out w0 hS0; go_simp <;> (try with_reducible rfl))
              try simp only [Act.put, List.setIfInBounds_toArray, List.set_cons_zero, List.set_cons_succ]
              refine wpAnyH_one (i := 16) (o := { dst := some 46, op := Go.Op.call { callee := Go.Callee.value (Go.Operand.func 39), args := #[Go.Operand.tmp 37, Go.Operand.tmp 45], argTypes := #[9, 9] }, type := 3, pos := "ref.go:41", after := #[{ on := 7, ground := Go.Ground.data }, { on := 15, ground := Go.Ground.data }, { on := 2, ground := Go.Ground.chain }, { on := 2, ground := Go.Ground.guard }], guard := some (2, true) }) (by kernel_rfl) rfl (by rfl) (fun K hK => ?_)
              go_simp
              refine (HCm.out _).mono ?_
              rintro e V1 ⟨rfl, b1⟩
              have F2 : Hid (Fr (fun _ => False) wr V1) := ((Fr.refl _ wr).drew).trans (Fr.of_below b1)
              clear b1
              refine hK.out _ _ ?_ (fun hHeld => ?_)
              · exact F2.out
              clear hK K
              try simp only [Act.put, List.setIfInBounds_toArray, List.set_cons_zero, List.set_cons_succ]
              refine wpAnyH_read (i := 17) (oi := { dst := some 47, op := Go.Op.binOp Go.BinOp.gtr 3 (Go.Operand.tmp 46) (Go.Operand.const (Go.Value.int Go.IntKind.i64 0)) 3, type := 4, pos := "ref.go:41", after := #[{ on := 16, ground := Go.Ground.data }, { on := 2, ground := Go.Ground.guard }], guard := some (2, true) }) ?_ rfl (by kernel_rfl) (by kernel_rfl) (by kernel_rfl) (fun _ _ _ h => h) (by rfl) (by assumption) ?_ ?_
              rotate_left
              · (intro w0 hS0; go_simp <;> (try with_reducible rfl))
              try simp only [Act.put, List.setIfInBounds_toArray, List.set_cons_zero, List.set_cons_succ]
              refine wpAnyH_read (i := 18) (oi := { dst := some 48, op := Go.Op.pick (Go.Operand.tmp 32) (Go.Operand.tmp 47) (Go.Operand.const (Go.Value.bool false)), type := 4, pos := "ref.go:41", after := #[{ on := 2, ground := Go.Ground.data }, { on := 17, ground := Go.Ground.data }], guard := none }) ?_ rfl (by kernel_rfl) (by kernel_rfl) (by kernel_rfl) (fun _ _ _ h => h) (by rfl) (by assumption) ?_ ?_
              rotate_left
              · (intro w0 hS0; go_simp <;> (try with_reducible rfl))
              try simp only [Act.put, List.setIfInBounds_toArray, List.set_cons_zero, List.set_cons_succ]
              refine wpAnyH_done (by kernel_rfl) ?_ _
              go_wp2_with fail
              go_roundw
              case rel => exact ⟨p, by go_num, by omega, hN.out, HB.out.2.trans F2.out⟩
              case measure => simp [RowKit.intOf]
            · have z1 : ¬ (0 : Int) < z := fun h => hgt (HZ.out.1 h)
              have hlow : ∀ p2 (hp : p2 < ns.length), p2 + 1 = p + 1 → ¬ foldL kb < foldL ns[p2] := fun p2 hp e => by
                obtain rfl : p2 = p := by omega
                rw [HE.out]; exact hgt
              have HLo := Lib.hid hlow
              clear hgt hlow
              go_wp2_with fail
              refine wp_region_held_drew (S := fun W => Fr (fun _ => False) wr W) (by kernel_rfl) (by exact (Fr.refl _ wr).drew) (fun hHeld => ?_)
              refine wpAnyH_read (i := 0) (oi := { dst := some 30, op := Go.Op.move (Go.Operand.tmp 7), type := 3, pos := "ref.go:41", after := #[], guard := none }) ?_ rfl (by kernel_rfl) (by kernel_rfl) (by kernel_rfl) (fun _ _ _ h => h) (by rfl) (by assumption) ?_ ?_
              rotate_left
              · (intro w0 hS0; go_simp <;> (try with_reducible rfl))
              try simp only [Act.put, List.setIfInBounds_toArray, List.set_cons_zero, List.set_cons_succ]
              refine wpAnyH_read (i := 1) (oi := { dst := some 31, op := Go.Op.binOp Go.BinOp.gtr 3 (Go.Operand.tmp 30) (Go.Operand.const (Go.Value.int Go.IntKind.i64 0)) 3, type := 4, pos := "ref.go:41", after := #[{ on := 0, ground := Go.Ground.data }], guard := none }) ?_ rfl (by kernel_rfl) (by kernel_rfl) (by kernel_rfl) (fun _ _ _ h => h) (by rfl) (by assumption) ?_ ?_
              rotate_left
              · (intro w0 hS0; go_simp <;> (try with_reducible rfl))
              try simp only [Act.put, List.setIfInBounds_toArray, List.set_cons_zero, List.set_cons_succ]
              refine wpAnyH_read (i := 2) (oi := { dst := some 32, op := Go.Op.move (Go.Operand.tmp 31), type := 4, pos := "ref.go:41", after := #[{ on := 1, ground := Go.Ground.data }], guard := none }) ?_ rfl (by kernel_rfl) (by kernel_rfl) (by kernel_rfl) (fun _ _ _ h => h) (by rfl) (by assumption) ?_ ?_
              rotate_left
              · (intro w0 hS0; go_simp <;> (try with_reducible rfl))
              try simp only [Act.put, List.setIfInBounds_toArray, List.set_cons_zero, List.set_cons_succ]
              refine wpAnyH_read (i := 3) (oi := { dst := some 33, op := Go.Op.move (Go.Operand.tmp 5), type := 38, pos := "ref.go:41", after := #[{ on := 2, ground := Go.Ground.guard }], guard := some (2, true) }) ?_ rfl (by kernel_rfl) (by kernel_rfl) (by kernel_rfl) (fun _ _ _ h => h) (by rfl) (by assumption) ?_ ?_
              rotate_left
              · (intro w0 hS0; go_simp <;> (try with_reducible rfl))
              try simp only [Act.put, List.setIfInBounds_toArray, List.set_cons_zero, List.set_cons_succ]
              refine wpAnyH_read (i := 4) (oi := { dst := some 34, op := Go.Op.move (Go.Operand.tmp 7), type := 3, pos := "ref.go:41", after := #[{ on := 2, ground := Go.Ground.guard }], guard := some (2, true) }) ?_ rfl (by kernel_rfl) (by kernel_rfl) (by kernel_rfl) (fun _ _ _ h => h) (by rfl) (by assumption) ?_ ?_
              rotate_left
              · (intro w0 hS0; go_simp <;> (try with_reducible rfl))
              try simp only [Act.put, List.setIfInBounds_toArray, List.set_cons_zero, List.set_cons_succ]
              refine wpAnyH_read (i := 5) (oi := { dst := some 35, op := Go.Op.binOp Go.BinOp.sub 3 (Go.Operand.tmp 34) (Go.Operand.const (Go.Value.int Go.IntKind.i64 1)) 3, type := 3, pos := "ref.go:41", after := #[{ on := 4, ground := Go.Ground.data }, { on := 2, ground := Go.Ground.guard }], guard := some (2, true) }) ?_ rfl (by kernel_rfl) (by kernel_rfl) (by kernel_rfl) (fun _ _ _ h => h) (by rfl) (by assumption) ?_ ?_
              rotate_left
              · (intro w0 hS0; go_simp <;> (try with_reducible rfl))
              try simp only [Act.put, List.setIfInBounds_toArray, List.set_cons_zero, List.set_cons_succ]
              refine wpAnyH_read (i := 6) (oi := { dst := some 36, op := Go.Op.indexAddr 38 (Go.Operand.tmp 33) (Go.Operand.tmp 35), type := 0, pos := "ref.go:41", after := #[{ on := 3, ground := Go.Ground.data }, { on := 5, ground := Go.Ground.data }, { on := 2, ground := Go.Ground.guard }], guard := some (2, true) }) ?_ rfl (by kernel_rfl) (by kernel_rfl) (by kernel_rfl) (fun _ _ _ h => h) (by rfl) (by assumption) ?_ ?_
              rotate_left
              · (intro w0 hS0; go_simp <;> (try with_reducible rfl))
              try simp only [Act.put, List.setIfInBounds_toArray, List.set_cons_zero, List.set_cons_succ]
              refine wpAnyH_read (i := 8) (oi := { dst := some 38, op := Go.Op.move (Go.Operand.tmp 0), type := 27, pos := "ref.go:41", after := #[{ on := 2, ground := Go.Ground.guard }], guard := some (2, true) }) ?_ rfl (by kernel_rfl) (by kernel_rfl) (by kernel_rfl) (fun _ _ _ h => h) (by rfl) (by assumption) ?_ ?_
              rotate_left
              · (intro w0 hS0; go_simp <;> (try with_reducible rfl))
              try simp only [Act.put, List.setIfInBounds_toArray, List.set_cons_zero, List.set_cons_succ]
              refine wpAnyH_read (i := 9) (oi := { dst := some 39, op := Go.Op.nilCheck (Go.Operand.tmp 38), type := 0, pos := "ref.go:41", after := #[{ on := 8, ground := Go.Ground.data }, { on := 2, ground := Go.Ground.guard }], guard := some (2, true) }) ?_ rfl (by kernel_rfl) (by kernel_rfl) (by kernel_rfl) (fun _ _ _ h => h) (by rfl) (by assumption) ?_ ?_
              rotate_left
              · (intro w0 hS0; go_simp <;> (try with_reducible rfl))
              try simp only [Act.put, List.setIfInBounds_toArray, List.set_cons_zero, List.set_cons_succ]
              refine wpAnyH_read (i := 10) (oi := { dst := some 40, op := Go.Op.fieldAddr 30 (Go.Operand.tmp 39) 1, type := 0, pos := "ref.go:41", after := #[{ on := 9, ground := Go.Ground.data }, { on := 2, ground := Go.Ground.guard }], guard := some (2, true) }) ?_ rfl (by kernel_rfl) (by kernel_rfl) (by kernel_rfl) (fun _ _ _ h => h) (by rfl) (by assumption) ?_ ?_
              rotate_left
              · (intro w0 hS0; go_simp <;> (try with_reducible rfl))
              try simp only [Act.put, List.setIfInBounds_toArray, List.set_cons_zero, List.set_cons_succ]
              refine wpAnyH_read (i := 12) (oi := { dst := some 42, op := Go.Op.move (Go.Operand.tmp 6), type := 3, pos := "ref.go:41", after := #[{ on := 2, ground := Go.Ground.guard }], guard := some (2, true) }) ?_ rfl (by kernel_rfl) (by kernel_rfl) (by kernel_rfl) (fun _ _ _ h => h) (by rfl) (by assumption) ?_ ?_
              rotate_left
              · (intro w0 hS0; go_simp <;> (try with_reducible rfl))
              try simp only [Act.put, List.setIfInBounds_toArray, List.set_cons_zero, List.set_cons_succ]
              refine wpAnyH_read (i := 7) (oi := { dst := some 37, op := Go.Op.load 9 (Go.Operand.tmp 36), type := 9, pos := "ref.go:41", after := #[{ on := 6, ground := Go.Ground.data }, { on := 2, ground := Go.Ground.guard }], guard := some (2, true) }) ?_ rfl (by kernel_rfl) (by kernel_rfl) (by kernel_rfl) (fun _ _ _ h => h) (by rfl) (by assumption) ?_ ?_
              rotate_left
              · (intro w0 hS0; obtain ⟨s0, s1, s2⟩ := HX.out w0 hS0; go_simp <;> (try with_reducible rfl))
              try simp only [Act.put, List.setIfInBounds_toArray, List.set_cons_zero, List.set_cons_succ]
              refine wpAnyH_read (i := 11) (oi := { dst := some 41, op := Go.Op.load 28 (Go.Operand.tmp 40), type := 28, pos := "ref.go:41", after := #[{ on := 10, ground := Go.Ground.data }, { on := 2, ground := Go.Ground.guard }], guard := some (2, true) }) ?_ rfl (by kernel_rfl) (by kernel_rfl) (by kernel_rfl) (fun _ _ _ h => h) (by rfl) (by assumption) ?_ ?_
              rotate_left
              · (intro w0 hS0; obtain ⟨s0, s1, s2⟩ := HX.out w0 hS0; go_simp <;> (try with_reducible rfl))
              try simp only [Act.put, List.setIfInBounds_toArray, List.set_cons_zero, List.set_cons_succ]
              refine wpAnyH_read (i := 13) (oi := { dst := some 43, op := Go.Op.indexAddr 28 (Go.Operand.tmp 41) (Go.Operand.tmp 42), type := 0, pos := "ref.go:41", after := #[{ on := 11, ground := Go.Ground.data }, { on := 12, ground := Go.Ground.data }, { on := 2, ground := Go.Ground.guard }], guard := some (2, true) }) ?_ rfl (by kernel_rfl) (by kernel_rfl) (by kernel_rfl) (fun _ _ _ h => h) (by rfl) (by assumption) ?_ ?_
              rotate_left
              · (intro w0 hS0; go_simp <;> (try with_reducible rfl))
              try simp only [Act.put, List.setIfInBounds_toArray, List.set_cons_zero, List.set_cons_succ]
              refine wpAnyH_read (i := 14) (oi := { dst := some 44, op := Go.Op.fieldAddr 73 (Go.Operand.tmp 43) 1, type := 0, pos := "ref.go:41", after := #[{ on := 13, ground := Go.Ground.data }, { on := 2, ground := Go.Ground.guard }], guard := some (2, true) }) ?_ rfl (by kernel_rfl) (by kernel_rfl) (by kernel_rfl) (fun _ _ _ h => h) (by rfl) (by assumption) ?_ ?_
              rotate_left
              · (intro w0 hS0; go_simp <;> (try with_reducible rfl))
              try simp only [Act.put, List.setIfInBounds_toArray, List.set_cons_zero, List.set_cons_succ]
              refine wpAnyH_read (i := 15) (oi := { dst := some 45, op := Go.Op.load 9 (Go.Operand.tmp 44), type := 9, pos := "ref.go:41", after := #[{ on := 14, ground := Go.Ground.data }, { on := 2, ground := Go.Ground.guard }], guard := some (2, true) }) ?_ rfl (by kernel_rfl) (by kernel_rfl) (by kernel_rfl) (fun _ _ _ h => h) (by rfl) (by assumption) ?_ ?_
              rotate_left
              · (intro w0 hS0; obtain ⟨s0, s1, s2⟩ := HX.out w0 hS0; go_simp <;> (try with_reducible rfl))
              try simp only [Act.put, List.setIfInBounds_toArray, List.set_cons_zero, List.set_cons_succ]
              refine wpAnyH_one (i := 16) (o := { dst := some 46, op := Go.Op.call { callee := Go.Callee.value (Go.Operand.func 39), args := #[Go.Operand.tmp 37, Go.Operand.tmp 45], argTypes := #[9, 9] }, type := 3, pos := "ref.go:41", after := #[{ on := 7, ground := Go.Ground.data }, { on := 15, ground := Go.Ground.data }, { on := 2, ground := Go.Ground.chain }, { on := 2, ground := Go.Ground.guard }], guard := some (2, true) }) (by kernel_rfl) rfl (by rfl) (fun K hK => ?_)
              go_simp
              refine (HCm.out _).mono ?_
              rintro e V1 ⟨rfl, b1⟩
              have F2 : Hid (Fr (fun _ => False) wr V1) := ((Fr.refl _ wr).drew).trans (Fr.of_below b1)
              clear b1
              refine hK.out _ _ ?_ (fun hHeld => ?_)
              · exact F2.out
              clear hK K
              try simp only [Act.put, List.setIfInBounds_toArray, List.set_cons_zero, List.set_cons_succ]
              refine wpAnyH_read (i := 17) (oi := { dst := some 47, op := Go.Op.binOp Go.BinOp.gtr 3 (Go.Operand.tmp 46) (Go.Operand.const (Go.Value.int Go.IntKind.i64 0)) 3, type := 4, pos := "ref.go:41", after := #[{ on := 16, ground := Go.Ground.data }, { on := 2, ground := Go.Ground.guard }], guard := some (2, true) }) ?_ rfl (by kernel_rfl) (by kernel_rfl) (by kernel_rfl) (fun _ _ _ h => h) (by rfl) (by assumption) ?_ ?_
              rotate_left
              · (intro w0 hS0; go_simp <;> (try with_reducible rfl))
              try simp only [Act.put, List.setIfInBounds_toArray, List.set_cons_zero, List.set_cons_succ]
              refine wpAnyH_read (i := 18) (oi := { dst := some 48, op := Go.Op.pick (Go.Operand.tmp 32) (Go.Operand.tmp 47) (Go.Operand.const (Go.Value.bool false)), type := 4, pos := "ref.go:41", after := #[{ on := 2, ground := Go.Ground.data }, { on := 17, ground := Go.Ground.data }], guard := none }) ?_ rfl (by kernel_rfl) (by kernel_rfl) (by kernel_rfl) (fun _ _ _ h => h) (by rfl) (by assumption) ?_ ?_
              rotate_left
              · (intro w0 hS0; go_simp <;> (try with_reducible rfl))
              try simp only [Act.put, List.setIfInBounds_toArray, List.set_cons_zero, List.set_cons_succ]
              refine wpAnyH_done (by kernel_rfl) ?_ _
              have FV : Hid (Fr (fun _ => False) W0 V1) := HB.out.2.trans F2.out
              have hlow := HLo.out
              clear HX HCm HZ
              have hown := (HF.out.fr FV.out).own
              obtain ⟨V2, V3, A3, c3, A4, c4, A5, c5, W3, W4, W5, hs1, hs2, hr3, hr4, hr5, o5, f3, f4, f5⟩ := ins_runs hown (fun e => by have h1 := HF.out.nil e; injection h1 with h1 h2 h3; exact ⟨h1, h3⟩) hq (by omega) kb
              have HNew : Hid (OfG w U ka (j + 1) (ns.take (p + 1) ++ kb :: ns.drop (p + 1)) (.slice A5 (ns.length + 1) c5) W5) := ⟨by rw [HT.out]; exact namesW_ins HF.out.nms HND.out hq HB.out.1 hlow, ownT_base o5 (HF.out.fr FV.out).below.size, fun e => absurd e (by simp), (HF.out.fr (FV.out.trans f5)).below⟩
              rw [show ((p + 1 : Nat) : Int) = (p : Int) + 1 from rfl] at hs1 hs2
              have hlen : (ns.take (p + 1) ++ kb :: ns.drop (p + 1)).length = ns.length + 1 := by rw [List.length_append, List.length_cons, List.length_take, List.length_drop]; omega
              obtain ⟨u1, u2⟩ := H2.out W3 (FV.out.trans f3)
              have HR4 := Lib.hid hr4
              have HR5 := Lib.hid hr5
              clear hlow hown f3 f4 f5 o5 hr4 hr5
              go_wp2_with (at_builtin; refine Hid.out ?_)
              refine Lib.hid ?_
              refine wpList_app_run rfl _ _ _ _ rfl (by exact hr3) ?_
              go_wp2_with (at_builtin; refine Hid.out ?_)
              refine Lib.hid ?_
              refine wpList_app_run rfl _ _ _ _ rfl (by exact HR4.out) ?_
              go_wp2_with (at_builtin; refine Hid.out ?_)
              refine Lib.hid ?_
              refine wpList_app_run rfl _ _ _ _ rfl (by exact HR5.out) ?_
              go_wp2_with fail
              go_roundw
              case rel => exact ⟨j + 1, _, A5, c5, by go_num, by rw [hlen], by omega, by rw [hlen]; exact HNew⟩
              case measure => simp [RowKit.intOf]; omega
      · have hk1 : (ka != a) = true := by simpa using hka
        have HN : Hid (OfG w U a (j + 1) ns (.slice A1 ns.length c1) wr) := ⟨by rw [HT.out]; exact namesW_no HF.out.nms hka, HF.out.own, HF.out.nil, HF.out.below⟩
        go_wp2_with fail
        go_roundw
        case rel => exact ⟨j + 1, ns, A1, c1, by go_num, rfl, by omega, HN⟩
        case measure => simp [RowKit.intOf]; omega
    · have q1 : ¬ (j : Int) < (U.length : Int) := by omega
      obtain rfl : j = U.length := by omega
      go_wp2_with fail
      go_ret
      have hF := HF.out
      exact ⟨ns, by have := hF.nms; rwa [List.take_length] at this, ⟨A1, c1, rfl, hF.own⟩, hF.below⟩
end Go.Proofs.YtnoeblnljfnecaaGreatDoor
end
section
/- Layer 21: the lists as they lie: what is spelled (a map keyed by places); New, rel, Count, Has, By. -/
namespace Go.Proofs.YtnoeblnljfnecaaGreatDoor
set_option linter.unusedVariables false
set_option linter.unusedSimpArgs false
open Go Go.RowKit Go.Maps Go.Lib

def kVW (k : PlK) : Value := .agg #[.int .i64 k.1.1, .string (bs k.1.2)]
def kLW (k : PlK) : Lit := .string (keyBytes [.int .i64 k.1.1, .string k.1.2])
theorem Tryz.laidOutW : laidOutB Tryz.prog = true := by kernel_rfl
theorem Tryz.rowW : (68 : TypeId) < Tryz.prog.types.size := of_decide_eq_true (by kernel_rfl)
theorem Tryz.wideW : (match Tryz.prog.underlying 68 with | some (.array _ _) | some (.struct _) => true | _ => false) = true := by rw [Tryz.underlying68]
set_option maxRecDepth 1000000 in
theorem lawW : WideMaps.KeyLaw Tryz.prog 68 := deep_law_laid Tryz.laidOutW (m := 2) (by omega) Tryz.rowW (by kernel_rfl) Tryz.wideW
theorem keyedW : Keyed Tryz.prog 68 := Keyed.of_law lawW
set_option maxRecDepth 1000000 in
theorem keyOfW (k : PlK) : keyOf Tryz.prog 68 (kVW k) = some (kLW k) := by
  have h1 : Tryz.prog.keyType 68 = true := by kernel_rfl
  have hc : Tryz.prog.cellsOf 68 = 2 := by kernel_rfl
  have hc1 : Tryz.prog.cellsOf 3 = 1 := by kernel_rfl
  have hc2 : Tryz.prog.cellsOf 9 = 1 := by kernel_rfl
  have h2 : (kVW k).formed Tryz.prog 68 = true := by simp [kVW, Value.formed, Tryz.underlying68, hc]
  have h3 : (bs k.1.2).size ≤ maxLen := by simpa using k.2.2
  obtain ⟨m, hm⟩ : ∃ m, Tryz.prog.types.size = m + 1 := Nat.exists_eq_succ_of_ne_zero (Nat.ne_of_gt (Nat.lt_of_le_of_lt (Nat.zero_le _) Tryz.rowW))
  unfold keyOf
  rw [Tryz.underlying68]
  simp only [h1, h2, Bool.and_self, if_true, hm]
  unfold Program.keyLits
  simp [kVW, Value.cells, Tryz.underlying68, hc, hc1, hc2, Program.keyLits, Tryz.underlying3, Tryz.underlying9, k.2.1, h3, kLW]
  rw [if_pos k.2.2]
  rfl
theorem kVW_inj {a b : PlK} (h : kVW a = kVW b) : a = b := by
  unfold kVW at h
  simp only [Value.agg.injEq] at h
  have h1 := congrArg (fun x : Array Value => x.toList) h
  simp only [List.cons.injEq, Value.int.injEq, Value.string.injEq, true_and, and_true] at h1
  refine Subtype.ext (Prod.ext h1.1 ?_)
  have := congrArg (fun x : ByteArray => x.data.toList) h1.2
  simpa using this
theorem kLW_inj : ∀ a b : PlK, kLW a = kLW b → a = b := fun a b h => kVW_inj (keyedW.inj (keyOfW a) ((keyOfW b).trans (by rw [h])))
theorem kLW_key (k : PlK) : WideAt.IsKeyLit (kLW k) := by simp [kLW, WideAt.IsKeyLit]
def vSW (s : List UInt8) : DataW Unit := .lit (.string s)
theorem vSW_inj : ∀ a b : List UInt8, vSW a = vSW b → a = b := fun a b h => by simpa [vSW] using h
/-- block b is the map of what is spelled -/
def OwnMW (w : World) (b : Nat) (T : List (PlK × List UInt8)) : Prop := (∃ D : DataW Unit, w.ownsMap Tryz.prog 68 (plainElem Tryz.prog 9) b T.length D ∧ MapHas kLW vSW D T) ∧ ∀ p ∈ T, p.2.length ≤ maxLen
theorem ownMW_lt {w : World} {b : Nat} {T : List (PlK × List UInt8)} (h : OwnMW w b T) : b < w.heap.size := by
  obtain ⟨⟨D, h1, _⟩, _⟩ := h
  exact h1.lt
theorem ownMW_same {w w' : World} {b : Nat} {T : List (PlK × List UInt8)} (h : OwnMW w b T) (he : w'.heap[b]? = w.heap[b]?) : OwnMW w' b T := by
  obtain ⟨⟨D, h1, h2⟩, h3⟩ := h
  exact ⟨⟨D, owns_sameP h1 he, h2⟩, h3⟩
theorem lookW {w : World} {b : Nat} {T : List (PlK × List UInt8)} (h : OwnMW w b T) (k : PlK) : (Instr.lookup 59 (.map (some b)) (kVW k) false).run Tryz.prog w = .ok (.string (bs ((lookM T k).getD []))) w := by
  obtain ⟨⟨D, a5, a6⟩, a7⟩ := h
  have hz : (zeroValue 9).run Tryz.prog w = .ok (.string ByteArray.empty) w := by kernel_rfl
  obtain ⟨v, ps, h1, h2⟩ := a5.lookup keyedW Tryz.underlying59 hz (zd := .lit (.string [])) (zp := []) (plainElem_string Tryz.underlying9 (by decide)) (keyOfW k)
  rw [h1]
  rw [a6.look kLW_inj] at h2
  obtain ⟨s, rfl, h3⟩ := plainElem_string_inv Tryz.underlying9 h2
  have h4 := (Prod.mk.inj h3.1).1
  cases hl : lookM T k with
  | none =>
    rw [hl] at h4
    simp only [DataW.lit.injEq, Lit.string.injEq] at h4
    have : s = bs [] := ba_ext (by simpa using h4.symm)
    rw [this]; rfl
  | some u =>
    rw [hl] at h4
    simp only [vSW, DataW.lit.injEq, Lit.string.injEq] at h4
    have : s = bs u := ba_ext (by simpa using h4.symm)
    rw [this]; rfl
theorem putW {w : World} {b : Nat} {T : List (PlK × List UInt8)} (h : OwnMW w b T) (k : PlK) (v : List UInt8) (hv : v.length ≤ 1000000) (hl : T.length ≤ 1000000) :
    ∃ w', (Instr.mapUpdate 59 (.map (some b)) (kVW k) (.string (bs v))).run Tryz.prog w = .ok () w' ∧ OwnMW w' b (setM T k v) ∧ Fr (fun j => j = b) w w' := by
  obtain ⟨⟨D, a5, a6⟩, a7⟩ := h
  obtain ⟨w', h1, h2, h3⟩ := a5.update keyedW Tryz.underlying59 (by unfold maxLen; omega) (keyOfW k) (val := .string (bs v)) (d := vSW v) (ps := []) (plainElem_string Tryz.underlying9 (by unfold maxLen; simp; omega))
  have h6 := a6.put kLW_inj (a5.tidy keyedW) k (kLW_key k) v
  refine ⟨w', h1, ⟨⟨_, by rw [← h6.size]; exact owns_tightP h2, h6⟩, fun p hp => ?_⟩, (Fr.refl _ w).grown h3 fun j e => by cases e; exact .inr rfl⟩
  rcases mem_setM.1 hp with ⟨hp, _⟩ | rfl
  · exact a7 p hp
  · simp only []; unfold maxLen; omega
theorem delW {w : World} {b : Nat} {T : List (PlK × List UInt8)} (h : OwnMW w b T) (k : PlK) (ty : TypeId) :
    ∃ w', (Builtin.delete_ #[59, 68] ty #[.map (some b), kVW k]).run Tryz.prog w = .ok (.tuple #[]) w' ∧ OwnMW w' b (delM T k) ∧ Fr (fun j => j = b) w w' := by
  obtain ⟨⟨D, a5, a6⟩, a7⟩ := h
  obtain ⟨w', h1, h2, h3⟩ := a5.drop keyedW Tryz.underlying59 (keyOfW k) ty
  have h6 := a6.del kLW_inj (a5.tidy keyedW) k
  exact ⟨w', h1, ⟨⟨_, by rw [← h6.size]; exact owns_tightP h2, h6⟩, fun p hp => a7 p (mem_delM.1 hp).1⟩, (Fr.refl _ w).grown h3.grown fun j e => by cases e; exact .inr rfl⟩
/-- the lists as they lie: their blocks are Y -/
def WisAt (base : Nat) (w : World) (l : Nat) (Y : Nat → Prop) (most : Int) (U : List WEnt) : Prop :=
  ∃ t b X T, base ≤ l ∧ base ≤ b ∧ l ≠ b ∧ w.heap[l]? = some (.cells #[.pointer (some ⟨t, 0, none⟩), .map (some b)] 62 (0, 0)) ∧ RelAtIS base w t X most (U.map fkW) ∧ OwnMW w b T ∧ SpellW U T ∧ ¬ X l ∧ ¬ X b ∧ OkW U ∧ ∀ j, Y j ↔ (j = l ∨ j = b ∨ X j)
theorem WisAt.same {base : Nat} {w w' : World} {l : Nat} {Y : Nat → Prop} {most : Int} {U : List WEnt} (h : WisAt base w l Y most U) (hs : ∀ j, Y j → w'.heap[j]? = w.heap[j]?) : WisAt base w' l Y most U := by
  obtain ⟨t, b, X, T, h1, h2, h3, h4, h5, h6, h7, h8, h9, h10, h11⟩ := h
  exact ⟨t, b, X, T, h1, h2, h3, (hs l ((h11 l).2 (.inl rfl))).trans h4, h5.same fun j hj => hs j ((h11 j).2 (.inr (.inr hj))), ownMW_same h6 (hs b ((h11 b).2 (.inr (.inl rfl)))), h7, h8, h9, h10, h11⟩
theorem WisAt.lt {base : Nat} {w : World} {l : Nat} {Y : Nat → Prop} {most : Int} {U : List WEnt} (h : WisAt base w l Y most U) {j : Nat} (hj : Y j) : base ≤ j ∧ j < w.heap.size := by
  obtain ⟨t, b, X, T, h1, h2, h3, h4, h5, h6, h7, h8, h9, h10, h11⟩ := h
  rcases (h11 j).1 hj with rfl | rfl | hj
  · exact ⟨h1, blk_lt h4⟩
  · exact ⟨h2, ownMW_lt h6⟩
  · exact h5.lt hj
theorem WisAt.fr {base : Nat} {w w' : World} {l : Nat} {Y Z : Nat → Prop} {most : Int} {U : List WEnt} (h : WisAt base w l Y most U) (hf : Fr Z w w') (hz : ∀ j, Y j → ¬ Z j) : WisAt base w' l Y most U := h.same fun j hj => hf.block j (h.lt hj).2 (hz j hj)
theorem WisAt.nodup {base : Nat} {w : World} {l : Nat} {Y : Nat → Prop} {most : Int} {U : List WEnt} (h : WisAt base w l Y most U) : (U.map fkW).Nodup := by
  obtain ⟨t, b, X, T, h1, h2, h3, h4, h5, h6, h7, h8, h9, h10, h11⟩ := h
  exact h5.nodup
theorem WisAt.ok {base : Nat} {w : World} {l : Nat} {Y : Nat → Prop} {most : Int} {U : List WEnt} (h : WisAt base w l Y most U) : OkW U := by
  obtain ⟨t, b, X, T, h1, h2, h3, h4, h5, h6, h7, h8, h9, h10, h11⟩ := h
  exact h10
set_option maxHeartbeats 1000000 in
theorem wisRelNil (w : World) : Calls Tryz.prog 30 #[.pointer none] w fun e w' => e = .returned (.pointer none) ∧ w' = w := by
  go_enter Tryz.func30, Tryz.ntmps30
  go_wp2_with fail
  go_ret
  exact ⟨rfl, rfl⟩
theorem wisRel {l t b : Nat} {w : World} (h : w.heap[l]? = some (.cells #[.pointer (some ⟨t, 0, none⟩), .map (some b)] 62 (0, 0))) : Calls Tryz.prog 30 #[.pointer (some ⟨l, 0, none⟩)] w fun e w' => e = .returned (.pointer (some ⟨t, 0, none⟩)) ∧ w' = w := by
  have c0 := blk_cell h 0
  clear h
  go_enter Tryz.func30, Tryz.ntmps30
  go_wp2_with fail
  go_ret
  exact ⟨rfl, rfl⟩
end Go.Proofs.YtnoeblnljfnecaaGreatDoor
end
section
/- Layer 21: the lists: New, Has, Count, By, Add, Remove; nil ones. -/
namespace Go.Proofs.YtnoeblnljfnecaaGreatDoor
set_option linter.unusedVariables false
set_option linter.unusedSimpArgs false
open Go Go.RowKit Go.Maps Go.Lib

theorem textW (n : List UInt8) (w : World) (h : n.length ≤ 1000000) : Calls Tryz.prog 29 #[.string (bs n)] w fun e w' => e = .returned (.string (bs (foldL n))) ∧ Below w.heap.size w w' := text_any (bs n) w (by simpa using h)
theorem okF {n : List UInt8} (h : n.length ≤ 1000) : OkKSI (foldL n) := by unfold OkKSI maxLen; simp; omega
/-- new lists -/
def NewWs (most : Int) (w : World) (e : Ending) (w' : World) : Prop := ∃ l Y, e = .returned (.pointer (some ⟨l, 0, none⟩)) ∧ WisAt w.heap.size w' l Y most [] ∧ (∀ j, Y j → w.heap.size ≤ j) ∧ Below w.heap.size w w'
set_option maxHeartbeats 1000000 in
theorem wisNew {most : Int} (hm : 0 ≤ most ∧ most ≤ 100000) (w : World) : Calls Tryz.prog 8 #[.int .i64 most] w (NewWs most w) := by
  have hmm := @run_makeMap Tryz.prog
  have HN : Hid (∀ V, Calls Tryz.prog 28 #[.int .i64 most] V (NewRIS most V)) := fun V => relNewIS hm V
  obtain ⟨w1, hw1⟩ : ∃ w1, (w.alloc (Obj.map #[] 0)).alloc (Obj.cells #[.pointer none, .map (some w.heap.size)] 62) = w1 := ⟨_, rfl⟩
  have z1 : w1.heap.size = w.heap.size + 2 := by rw [← hw1]; simp
  have f1 : Fr (fun _ => False) w w1 := by rw [← hw1]; exact ((Fr.refl _ w).alloc _).alloc _
  have k1 : w1.heap[w.heap.size + 1]? = some (.cells #[.pointer none, .map (some w.heap.size)] 62 (0, 0)) := by rw [← hw1]; exact heap_alloc2_new w _ _
  have m1 : OwnMW w1 w.heap.size [] := by
    refine ⟨⟨.map [], ?_, mapHas_empty _ _⟩, fun p hp => by cases hp⟩
    rw [← hw1]
    exact (World.ownsMap_made w _ _ _).alloc _
  have HW := Lib.hid hw1
  have H := Lib.hid (And.intro z1 (And.intro f1 (And.intro k1 m1)))
  clear hw1 z1 f1 k1 m1
  go_enter Tryz.func8, Tryz.ntmps8
  go_wp2_with fail
  rw [HW.out]
  refine (HN.out w1).mono ?_
  rintro e w2 ⟨t, X, rfl, h2, x2, b2⟩
  obtain ⟨z1, f1, k1, m1⟩ := H.out
  have k2 := (Fr.of_below (X := fun _ => False) b2).blk k1 fun e => e
  have c0 := blk_cell k2 0
  have d0 := blk_free k2 0
  have K := Lib.hid (And.intro h2 (And.intro x2 (And.intro b2 k2)))
  clear z1 f1 k1 m1 h2 x2 b2 k2
  go_wp2_with fail
  go_ret
  obtain ⟨z1, f1, k1, m1⟩ := H.out
  obtain ⟨h2, x2, b2, k2⟩ := K.out
  have fs : Fr (fun j => j = w.heap.size + 1) w2 (w2.setCell ⟨w.heap.size + 1, 0, none⟩ (.pointer (some ⟨t, 0, none⟩))) := Fr.setCell (X := fun j => j = w.heap.size + 1) (Fr.refl _ w2) _ rfl _
  have h3 := h2.fr fs fun j hj e => by have := x2 j hj; omega
  refine ⟨w.heap.size + 1, fun j => j = w.heap.size + 1 ∨ j = w.heap.size ∨ X j, rfl, ⟨t, w.heap.size, X, [], by omega, Nat.le_refl _, by omega, ?_, ?_, ?_, spell_nil, fun e => by have := x2 _ e; omega, fun e => by have := x2 _ e; omega, fun u hu => (by cases hu), fun j => Iff.rfl⟩, fun j hj => ?_, ?_⟩
  · have := blk_set k2 0 (.pointer (some ⟨t, 0, none⟩))
    exact this
  · obtain ⟨b1', b2', T1, T2, hst, hx⟩ := h3
    exact ⟨b1', b2', T1, T2, ⟨Nat.le_trans (by omega) hst.le, hst.blk, mapSt_baseIS hst.m1 (by omega), mapSt_baseSI hst.m2 (by omega), hst.n1, hst.n2, hst.ap, hst.t1, hst.t2, hst.h1, hst.h2, hst.nd⟩, hx⟩
  · exact ownMW_same m1 ((fs.block _ (by have := b2.size; omega) (by omega)).trans (b2.block _ (by omega)))
  · rcases hj with rfl | rfl | hj
    · omega
    · omega
    · have := x2 j hj; omega
  · have h5 := f1.below (B := w.heap.size) (Nat.le_refl _) fun _ _ e => e.elim
    exact (h5.trans (b2.mono (by omega))).trans (fs.below (by have := b2.size; omega) fun k _ e => by omega)
section
variable {base : Nat} {w : World} {l : Nat} {Y : Nat → Prop} {most : Int} {U : List WEnt}
set_option maxHeartbeats 1000000 in
theorem wisHas (h : WisAt base w l Y most U) (hU : U.length ≤ 100000) {a : Int} (ha : OkKIS a) {n : List UInt8} (hn : n.length ≤ 1000) :
    Calls Tryz.prog 18 #[.pointer (some ⟨l, 0, none⟩), .int .i64 a, .string (bs n)] w fun e w' => e = .returned (.bool (decide ((a, foldL n) ∈ U.map fkW))) ∧ Below w.heap.size w w' := by
  obtain ⟨t, b, X, T, h1, h2, h3, h4, h5, h6, h7, h8, h9, h10, h11⟩ := h
  have HR := Lib.hid (wisRel h4)
  have HT := Lib.hid (textW n w (by omega))
  have HH : Hid (∀ V, Below w.heap.size w V → Calls Tryz.prog 38 #[.pointer (some ⟨t, 0, none⟩), .int .i64 a, .string (bs (foldL n))] V fun e w' => e = .returned (.bool (decide ((a, foldL n) ∈ U.map fkW))) ∧ ∃ q, w' = V.drewN q) := fun V hV => hasAtIS (h5.below hV) (by simpa using hU) ha (foldL n)
  obtain ⟨d, hd⟩ : ∃ d, decide ((a, foldL n) ∈ U.map fkW) = d := ⟨_, rfl⟩
  rw [hd] at HH ⊢
  clear h1 h2 h3 h4 h5 h6 h7 h8 h9 h10 h11 hd
  go_enter Tryz.func18, Tryz.ntmps18
  go_wp2_with fail
  refine HR.out.mono ?_
  rintro e w1 ⟨rfl, rfl⟩
  go_wp2_with fail
  refine HT.out.mono ?_
  rintro e w2 ⟨rfl, b2⟩
  have B2 := Lib.hid b2
  clear b2
  go_wp2_with fail
  refine (HH.out w2 B2.out).mono ?_
  rintro e w3 ⟨rfl, q, rfl⟩
  go_wp2_with fail
  go_ret
  have hb := B2.out
  exact ⟨rfl, hb.os, hb.tape, hb.output, hb.size, hb.block⟩
theorem wisCount (h : WisAt base w l Y most U) {a : Int} (ha : OkKIS a) {ns : List (List UInt8)} (hns : NamesW U a ns) :
    Calls Tryz.prog 17 #[.pointer (some ⟨l, 0, none⟩), .int .i64 a] w fun e w' => e = .returned (.int .i64 ns.length) ∧ w' = w := by
  obtain ⟨t, b, X, T, h1, h2, h3, h4, h5, h6, h7, h8, h9, h10, h11⟩ := h
  have HR := Lib.hid (wisRel h4)
  have HC := Lib.hid (countAtIS h5 ha hns.up fun f => by
    simp only [List.mem_map]
    constructor
    · rintro ⟨n, hn, rfl⟩; exact ⟨(a, n), (hns.mem n).1 hn, rfl⟩
    · rintro ⟨u, hu, e⟩
      unfold fkW at e
      obtain ⟨e1, e2⟩ := Prod.mk.inj e
      exact ⟨u.2, (hns.mem _).2 (by rw [← e1]; exact hu), e2⟩)
  rw [List.length_map] at HC
  clear h1 h2 h3 h4 h5 h6 h7 h8 h9 h10 h11
  go_enter Tryz.func17, Tryz.ntmps17
  go_wp2_with fail
  refine HR.out.mono ?_
  rintro e w1 ⟨rfl, rfl⟩
  go_wp2_with fail
  refine HC.out.mono ?_
  rintro e w2 ⟨rfl, rfl⟩
  go_wp2_with fail
  go_ret
  exact ⟨rfl, rfl⟩
set_option maxHeartbeats 1000000 in
theorem wisBy (h : WisAt base w l Y most U) (hU : U.length ≤ 100000) {n : List UInt8} (hn : n.length ≤ 1000) {E : List Int} (e1 : E.Pairwise (· < ·)) (e2 : ∀ a, a ∈ E ↔ (a, foldL n) ∈ U.map fkW) :
    Calls Tryz.prog 36 #[.pointer (some ⟨l, 0, none⟩), .string (bs n)] w (AllP E w) := by
  obtain ⟨t, b, X, T, h1, h2, h3, h4, h5, h6, h7, h8, h9, h10, h11⟩ := h
  have HR := Lib.hid (wisRel h4)
  have HT := Lib.hid (textW n w (by omega))
  have HH : Hid (∀ V, Below w.heap.size w V → Calls Tryz.prog 54 #[.pointer (some ⟨t, 0, none⟩), .string (bs (foldL n))] V (AllP E V)) := fun V hV => by
    obtain ⟨xs, y1, y2, _, y4⟩ := byAtIS (h5.below hV) (by simpa using hU) (okF hn)
    obtain rfl : xs = E := up_ext y1 e1 fun x => (y2 x).trans (e2 x).symm
    exact y4 V (Fr.refl _ _)
  clear h1 h2 h3 h4 h5 h6 h7 h8 h9 h10 h11
  go_enter Tryz.func36, Tryz.ntmps36
  go_wp2_with fail
  refine HR.out.mono ?_
  rintro e w1 ⟨rfl, rfl⟩
  go_wp2_with fail
  refine HT.out.mono ?_
  rintro e w2 ⟨rfl, b2⟩
  have B2 := Lib.hid b2
  clear b2
  go_wp2_with fail
  refine (HH.out w2 B2.out).mono ?_
  rintro e w3 ⟨⟨F, rfl, hT⟩, b3⟩
  have B3 := Lib.hid (And.intro hT b3)
  clear hT b3
  go_wp2_with fail
  go_ret
  obtain ⟨B, v, t0, t1, t2, t3, t4⟩ := B3.out.1
  have hz := B2.out.size
  exact ⟨⟨F, rfl, B, v, Nat.le_trans hz t0, t1, t2, t3, row_baseP t4 hz⟩, B2.out.trans (B3.out.2.mono hz)⟩
end
/-- what Add does -/
def AddWs (base l : Nat) (Y : Nat → Prop) (most : Int) (U : List WEnt) (a : Int) (n : List UInt8) (w : World) (e : Ending) (w' : World) : Prop :=
  ∃ Y' c U', e = .returned (.int .i64 c) ∧ (∀ j, Y' j → Y j ∨ w.heap.size ≤ j) ∧ Fr Y w w' ∧ WisAt base w' l Y' most U' ∧
    (U' = U ∧ (c = 6 ∧ (a, foldL n) ∈ U.map fkW ∨ c = 7 ∧ (a, foldL n) ∉ U.map fkW ∧ (∀ xs : List (List UInt8), xs.Pairwise (· < ·) → (∀ x, x ∈ xs ↔ (a, x) ∈ U.map fkW) → most ≤ xs.length)) ∨
     U' = U ++ [(a, n)] ∧ c = 0 ∧ (a, foldL n) ∉ U.map fkW ∧ (∀ xs : List (List UInt8), xs.Pairwise (· < ·) → (∀ x, x ∈ xs ↔ (a, x) ∈ U.map fkW) → (xs.length : Int) < most))
set_option maxRecDepth 100000 in
set_option maxHeartbeats 4000000 in
theorem wisAdd {base : Nat} {w : World} {l : Nat} {Y : Nat → Prop} {most : Int} {U : List WEnt} (h : WisAt base w l Y most U) (hbw : base ≤ w.heap.size) (hU : U.length ≤ 80000) {a : Int} (ha : OkKIS a) {n : List UInt8} (hn : n.length ≤ 1000) :
    Calls Tryz.prog 13 #[.pointer (some ⟨l, 0, none⟩), .int .i64 a, .string (bs n)] w (AddWs base l Y most U a n w) := by
  obtain ⟨t, b, X, T, h1, h2, h3, h4, h5, h6, h7, h8, h9, h10, h11⟩ := h
  have HT := Lib.hid (textW n w (by omega))
  have hlt := blk_lt h4
  have hbt := ownMW_lt h6
  have HH := Lib.hid (And.intro h1 (And.intro h2 (And.intro h3 (And.intro h4 (And.intro h5 (And.intro h6 (And.intro h7 (And.intro h8 (And.intro h9 (And.intro h10 h11))))))))))
  have HA := Lib.hid ha
  clear h1 h2 h3 h4 h5 h6 h7 h8 h9 h10 h11 ha
  go_enter Tryz.func13, Tryz.ntmps13
  go_wp2_with fail
  refine HT.out.mono ?_
  rintro e w1 ⟨rfl, b1⟩
  obtain ⟨h1, h2, h3, h4, h5, h6, h7, h8, h9, h10, h11⟩ := HH.out
  have f1 : Fr (fun _ => False) w w1 := Fr.of_below b1
  have k1 := f1.blk h4 fun e => e
  have HR := Lib.hid (wisRel k1)
  have hr1 := h5.fr f1 fun _ _ e => e
  have HAd := Lib.hid (relAddIS hr1 (Nat.le_trans hbw f1.size) (by simpa using (by omega : U.length ≤ 90000)) HA.out (okF hn))
  have H1 := Lib.hid (And.intro f1 (And.intro k1 (ownMW_same h6 (f1.block b hbt fun e => e))))
  clear h1 h2 h3 h4 h5 h6 h7 h8 h9 h10 h11 f1 k1 hr1 b1
  go_wp2_with fail
  refine HR.out.mono ?_
  rintro e w2 ⟨rfl, rfl⟩
  go_wp2_with fail
  refine HAd.out.mono ?_
  intro e w3 hA3
  obtain ⟨X', c, L', rfl, x3, f3, r3, q3⟩ := hA3.any
  obtain ⟨h1, h2, h3, h4, h5, h6, h7, h8, h9, h10, h11⟩ := HH.out
  obtain ⟨f1, k1, m1⟩ := H1.out
  have k3 := f3.blk k1 h8
  have m3 := ownMW_same m1 (f3.block b (ownMW_lt m1) h9)
  have hz1 := f1.size
  have nl : ¬ X' l := fun e => by rcases x3 l e with e | e; exact h8 e; omega
  have nb : ¬ X' b := fun e => by rcases x3 b e with e | e; exact h9 e; omega
  have hfX : Fr Y w w3 := (f1.mono (Y := Y) fun _ _ e => e.elim).trans3 f3 fun k _ e => (h11 k).2 (.inr (.inr e))
  rcases q3 with ⟨rfl, q3⟩ | ⟨rfl, rfl, q3, q4⟩
  · have hne : ¬ c = 0 := by rcases q3 with ⟨rfl, _⟩ | ⟨rfl, _⟩ <;> decide
    have hc0 : (c == 0) = false := by simpa using hne
    have HE : Hid (AddWs base l Y most U a n w (.returned (.int .i64 c)) w3) := ⟨fun j => j = l ∨ j = b ∨ X' j, c, U, rfl, fun j hj => by
      rcases hj with rfl | rfl | hj
      · exact .inl ((h11 _).2 (.inl rfl))
      · exact .inl ((h11 _).2 (.inr (.inl rfl)))
      · rcases x3 j hj with e | e
        · exact .inl ((h11 _).2 (.inr (.inr e)))
        · exact .inr (by omega), hfX, ⟨t, b, X', T, h1, h2, h3, k3, r3, m3, h7, nl, nb, h10, fun j => Iff.rfl⟩, .inl ⟨rfl, q3⟩⟩
    clear hA3 x3 f3 r3 q3 h1 h2 h3 h4 h5 h6 h7 h8 h9 h10 h11 f1 k1 m1 k3 m3 nl nb hfX hne
    go_wp2_with fail
    go_ret
    exact HE.out
  · have c1 := blk_cell k3 1
    have hkl : (Lit.int .i64 a).wf = true ∧ (foldL n).length ≤ maxLen := ⟨HA.out, okF hn⟩
    obtain ⟨w4, hp4, m4, f4⟩ := putW m3 ⟨(a, foldL n), hkl⟩ n (by omega) (Nat.le_trans h7.len (by omega))
    unfold kVW at hp4
    dsimp only at hp4
    have k4 := f4.blk k3 h3
    have r4 := r3.fr f4 fun j hj e => nb (e ▸ hj)
    have HE : Hid (AddWs base l Y most U a n w (.returned (.int .i64 0)) w4) := ⟨fun j => j = l ∨ j = b ∨ X' j, 0, U ++ [(a, n)], rfl, fun j hj => by
      rcases hj with rfl | rfl | hj
      · exact .inl ((h11 _).2 (.inl rfl))
      · exact .inl ((h11 _).2 (.inr (.inl rfl)))
      · rcases x3 j hj with e | e
        · exact .inl ((h11 _).2 (.inr (.inr e)))
        · exact .inr (by omega), hfX.trans3 f4 fun k _ e => (h11 k).2 (.inr (.inl e)), ⟨t, b, X', _, h1, h2, h3, k4, by rw [List.map_append]; exact r4, m4, h7.put (u := (a, n)) rfl q3, nl, nb, fun u hu => by
      rcases List.mem_append.1 hu with e | e
      · exact h10 u e
      · rw [List.mem_singleton.1 e]; exact ⟨HA.out, hn⟩, fun j => Iff.rfl⟩, .inr ⟨rfl, rfl, q3, q4⟩⟩
    clear hA3 x3 f3 r3 q3 q4 h1 h2 h3 h4 h5 h6 h7 h8 h9 h10 h11 f1 k1 m1 k3 m3 nl nb hfX m4 f4 k4 r4 hkl
    go_wp2_with fail
    go_ret
    exact HE.out
end Go.Proofs.YtnoeblnljfnecaaGreatDoor
end
section
/- Layer 21: the lists: Remove; nil ones. -/
namespace Go.Proofs.YtnoeblnljfnecaaGreatDoor
set_option linter.unusedVariables false
set_option linter.unusedSimpArgs false
open Go Go.RowKit Go.Maps Go.Lib

theorem fk_not {U : List WEnt} {p : Int × List UInt8} (h : p ∉ U.map fkW) : (U.filter fun u => decide (fkW u ≠ p)) = U := by
  rw [List.filter_eq_self]
  intro u hu
  simp only [decide_eq_true_eq]
  exact fun e => h (e ▸ List.mem_map_of_mem hu)
/-- what Remove does -/
def RemWs (base l : Nat) (Y : Nat → Prop) (most : Int) (U : List WEnt) (a : Int) (n : List UInt8) (w : World) (e : Ending) (w' : World) : Prop :=
  e = .returned (.bool (decide ((a, foldL n) ∈ U.map fkW))) ∧ ∃ Y', (∀ j, Y' j → Y j ∨ w.heap.size ≤ j) ∧ Fr Y w w' ∧ WisAt base w' l Y' most (U.filter fun u => decide (fkW u ≠ (a, foldL n)))
set_option maxRecDepth 100000 in
set_option maxHeartbeats 4000000 in
theorem wisRem {base : Nat} {w : World} {l : Nat} {Y : Nat → Prop} {most : Int} {U : List WEnt} (h : WisAt base w l Y most U) (hbw : base ≤ w.heap.size) (hU : U.length ≤ 80000) {a : Int} (ha : OkKIS a) {n : List UInt8} (hn : n.length ≤ 1000) :
    Calls Tryz.prog 9 #[.pointer (some ⟨l, 0, none⟩), .int .i64 a, .string (bs n)] w (RemWs base l Y most U a n w) := by
  obtain ⟨t, b, X, T, h1, h2, h3, h4, h5, h6, h7, h8, h9, h10, h11⟩ := h
  have HT := Lib.hid (textW n w (by omega))
  have hlt := blk_lt h4
  have hbt := ownMW_lt h6
  have HH := Lib.hid (And.intro h1 (And.intro h2 (And.intro h3 (And.intro h4 (And.intro h5 (And.intro h6 (And.intro h7 (And.intro h8 (And.intro h9 (And.intro h10 h11))))))))))
  have HA := Lib.hid ha
  obtain ⟨R, hR⟩ : ∃ R, RemWs base l Y most U a n w = R := ⟨_, rfl⟩
  have HQ := Lib.hid hR
  rw [hR]
  clear h1 h2 h3 h4 h5 h6 h7 h8 h9 h10 h11 ha hR
  go_enter Tryz.func9, Tryz.ntmps9
  go_wp2_with fail
  refine HT.out.mono ?_
  rintro e w1 ⟨rfl, b1⟩
  obtain ⟨h1, h2, h3, h4, h5, h6, h7, h8, h9, h10, h11⟩ := HH.out
  have f1 : Fr (fun _ => False) w w1 := Fr.of_below b1
  have k1 := f1.blk h4 fun e => e
  have HR := Lib.hid (wisRel k1)
  have hr1 := h5.fr f1 fun _ _ e => e
  have hRm := relRemIS hr1 (Nat.le_trans hbw f1.size) (by simpa using (by omega : U.length ≤ 90000)) HA.out (okF hn)
  unfold RemRIS at hRm
  obtain ⟨d, hd⟩ : ∃ d, decide ((a, foldL n) ∈ U.map fkW) = d := ⟨_, rfl⟩
  rw [hd] at hRm
  have HRm := Lib.hid hRm
  have H1 := Lib.hid (And.intro f1 (And.intro k1 (And.intro (ownMW_same h6 (f1.block b hbt fun e => e)) hd)))
  clear h1 h2 h3 h4 h5 h6 h7 h8 h9 h10 h11 f1 k1 hr1 b1 hRm hd
  go_wp2_with fail
  refine HR.out.mono ?_
  rintro e w2 ⟨rfl, rfl⟩
  go_wp2_with fail
  refine HRm.out.mono ?_
  rintro e w3 ⟨rfl, X', x3, f3, r3⟩
  obtain ⟨h1, h2, h3, h4, h5, h6, h7, h8, h9, h10, h11⟩ := HH.out
  obtain ⟨f1, k1, m1, hd⟩ := H1.out
  have k3 := f3.blk k1 h8
  have m3 := ownMW_same m1 (f3.block b (ownMW_lt m1) h9)
  have hz1 := f1.size
  have nl : ¬ X' l := fun e => by rcases x3 l e with e | e; exact h8 e; omega
  have nb : ¬ X' b := fun e => by rcases x3 b e with e | e; exact h9 e; omega
  have hfX : Fr Y w w3 := (f1.mono (Y := Y) fun _ _ e => e.elim).trans3 f3 fun k _ e => (h11 k).2 (.inr (.inr e))
  have hY : ∀ j, (j = l ∨ j = b ∨ X' j) → Y j ∨ w.heap.size ≤ j := fun j hj => by
    rcases hj with rfl | rfl | hj
    · exact .inl ((h11 _).2 (.inl rfl))
    · exact .inl ((h11 _).2 (.inr (.inl rfl)))
    · rcases x3 j hj with e | e
      · exact .inl ((h11 _).2 (.inr (.inr e)))
      · exact .inr (by omega)
  have hok : OkW (U.filter fun u => decide (fkW u ≠ (a, foldL n))) := fun u hu => h10 u (List.mem_filter.1 hu).1
  rw [← fk_less] at r3
  cases d with
  | false =>
    have hnm : (a, foldL n) ∉ U.map fkW := of_decide_eq_false hd
    have HE : Hid (R (.returned (.bool false)) w3) := by
      rw [← HQ.out]
      refine ⟨by rw [hd], _, hY, hfX, ⟨t, b, X', T, h1, h2, h3, k3, r3, m3, ?_, nl, nb, hok, fun j => Iff.rfl⟩⟩
      rw [fk_not hnm]; exact h7
    clear x3 f3 r3 h1 h2 h3 h4 h5 h6 h7 h8 h9 h10 h11 f1 k1 m1 k3 m3 nl nb hfX hY hok hd hnm
    go_wp2_with fail
    exact HE.out
  | true =>
    have c1 := blk_cell k3 1
    have hkl : (Lit.int .i64 a).wf = true ∧ (foldL n).length ≤ maxLen := ⟨HA.out, okF hn⟩
    obtain ⟨w4, hp4, m4, f4⟩ := delW m3 ⟨(a, foldL n), hkl⟩ 0
    unfold kVW at hp4
    dsimp only at hp4
    have k4 := f4.blk k3 h3
    have r4 := r3.fr f4 fun j hj e => nb (e ▸ hj)
    have HE : Hid (R (.returned (.bool true)) w4) := by
      rw [← HQ.out]
      exact ⟨by rw [hd], _, hY, hfX.trans3 f4 fun k _ e => (h11 k).2 (.inr (.inl e)), ⟨t, b, X', _, h1, h2, h3, k4, r4, m4, h7.del ⟨(a, foldL n), hkl⟩, nl, nb, hok, fun j => Iff.rfl⟩⟩
    clear x3 f3 r3 h1 h2 h3 h4 h5 h6 h7 h8 h9 h10 h11 f1 k1 m1 k3 m3 nl nb hfX m4 f4 k4 r4 hkl hY hok hd
    go_wp2_with fail
    exact HE.out
theorem wisHasNil {n : List UInt8} (hn : n.length ≤ 1000) (a : Int) (w : World) : Calls Tryz.prog 18 #[.pointer none, .int .i64 a, .string (bs n)] w fun e w' => e = .returned (.bool false) ∧ Below w.heap.size w w' := by
  have HT := Lib.hid (textW n w (by omega))
  go_enter Tryz.func18, Tryz.ntmps18
  go_wp2_with fail
  refine (wisRelNil w).mono ?_
  rintro e w1 ⟨rfl, rfl⟩
  go_wp2_with fail
  refine HT.out.mono ?_
  rintro e w2 ⟨rfl, b2⟩
  have B2 := Lib.hid b2
  clear b2
  go_wp2_with fail
  refine (relHasNilIS a (foldL n) w2).mono ?_
  rintro e w3 ⟨rfl, rfl⟩
  go_wp2_with fail
  go_ret
  exact ⟨rfl, B2.out⟩
theorem wisCountNil (a : Int) (w : World) : Calls Tryz.prog 17 #[.pointer none, .int .i64 a] w fun e w' => e = .returned (.int .i64 0) ∧ w' = w := by
  go_enter Tryz.func17, Tryz.ntmps17
  go_wp2_with fail
  refine (wisRelNil w).mono ?_
  rintro e w1 ⟨rfl, rfl⟩
  go_wp2_with fail
  refine (relCountNilIS a w1).mono ?_
  rintro e w2 ⟨rfl, rfl⟩
  go_wp2_with fail
  go_ret
  exact ⟨rfl, rfl⟩
theorem wisByNil {n : List UInt8} (hn : n.length ≤ 1000) (w : World) : Calls Tryz.prog 36 #[.pointer none, .string (bs n)] w (AllP [] w) := by
  have HT := Lib.hid (textW n w (by omega))
  go_enter Tryz.func36, Tryz.ntmps36
  go_wp2_with fail
  refine (wisRelNil w).mono ?_
  rintro e w1 ⟨rfl, rfl⟩
  go_wp2_with fail
  refine HT.out.mono ?_
  rintro e w2 ⟨rfl, b2⟩
  have B2 := Lib.hid b2
  clear b2
  go_wp2_with fail
  refine (relByNilIS (foldL n) w2).mono ?_
  rintro e w3 ⟨⟨F, rfl, hT⟩, b3⟩
  have B3 := Lib.hid (And.intro hT b3)
  clear hT b3
  go_wp2_with fail
  go_ret
  obtain ⟨B, v, t0, t1, t2, t3, t4⟩ := B3.out.1
  have hz := B2.out.size
  exact ⟨⟨F, rfl, B, v, Nat.le_trans hz t0, t1, t2, t3, row_baseP t4 hz⟩, B2.out.trans (B3.out.2.mono hz)⟩
theorem wisAddNil {n : List UInt8} (hn : n.length ≤ 1000) (a : Int) (w : World) : Calls Tryz.prog 13 #[.pointer none, .int .i64 a, .string (bs n)] w fun e w' => e = .returned (.int .i64 1) ∧ Below w.heap.size w w' := by
  have HT := Lib.hid (textW n w (by omega))
  go_enter Tryz.func13, Tryz.ntmps13
  go_wp2_with fail
  refine HT.out.mono ?_
  rintro e w2 ⟨rfl, b2⟩
  have B2 := Lib.hid b2
  clear b2
  go_wp2_with fail
  refine (wisRelNil w2).mono ?_
  rintro e w1 ⟨rfl, rfl⟩
  go_wp2_with fail
  refine (relAddNilIS a (foldL n) w1).mono ?_
  rintro e w3 ⟨rfl, rfl⟩
  go_wp2_with fail
  go_ret
  exact ⟨rfl, B2.out⟩
theorem wisRemNil {n : List UInt8} (hn : n.length ≤ 1000) (a : Int) (w : World) : Calls Tryz.prog 9 #[.pointer none, .int .i64 a, .string (bs n)] w fun e w' => e = .returned (.bool false) ∧ Below w.heap.size w w' := by
  have HT := Lib.hid (textW n w (by omega))
  go_enter Tryz.func9, Tryz.ntmps9
  go_wp2_with fail
  refine HT.out.mono ?_
  rintro e w2 ⟨rfl, b2⟩
  have B2 := Lib.hid b2
  clear b2
  go_wp2_with fail
  refine (wisRelNil w2).mono ?_
  rintro e w1 ⟨rfl, rfl⟩
  go_wp2_with fail
  refine (relRemNilIS a (foldL n) w1).mono ?_
  rintro e w3 ⟨rfl, rfl⟩
  go_wp2_with fail
  go_ret
  exact ⟨rfl, B2.out⟩
end Go.Proofs.YtnoeblnljfnecaaGreatDoor
end
