/- Texts of this proof, one behind the other. -/
import Derived.Test.YtkbgpajconhgjaaGreatDoorPersonLinesG12
set_option linter.unusedVariables false
set_option linter.unusedSimpArgs false
section
/- Layer 22: Whois, the program. -/
namespace Go.Proofs.YtkbgpajconhgjaaGreatDoor
open Go Go.RowKit

set_option maxRecDepth 100000 in
set_option maxHeartbeats 16000000 in
theorem whois_m (server whom n u h r y : List UInt8) (id si sp now : Int) (o d : Bool) (ws : List (List UInt8)) (w : World) (Fv : Value) (HG : ∀ W, Fr (fun _ => False) w W → Calls Tryz.prog 19 #[Fv] W fun e w' => ∃ v, e = .returned v ∧ OwnT W.heap.size w' v ws ∧ Below W.heap.size W w') (hm : Mx w) (hp : PowW w)
    (hsv : server.length ≤ 100) (hwh : whom.length ≤ 100) (hwn : whom ≠ []) (hn : n.length ≤ 200) (hu : u.length ≤ 200) (hh : h.length ≤ 200) (hr : r.length ≤ 200) (hy : y.length ≤ 200) (hx : ∀ x ∈ ws, x.length ≤ 500) (hxl : ws.length ≤ 900) (hnow : -1099511627776 ≤ now ∧ now ≤ 1099511627776) (hsp : -1099511627776 ≤ sp ∧ sp ≤ 1099511627776) (hsi : -9223372036854775808 ≤ si ∧ si ≤ 9223372036854775807) :
    Calls Tryz.prog 9 #[.string (bs server), .string (bs whom), per id (bs n) (bs u) (bs h) (bs r) (bs y) o d si sp, Fv, .int .i64 now] w fun e w' => ∃ A c, e = .returned (.slice A (whoisL server whom n u h r y o sp si now ws).length c) ∧ ReadsT w' A (whoisL server whom n u h r y o sp si now ws) ∧ Below w.heap.size w w' := by
  unfold per
  obtain ⟨i0, hi0, hz0, hz1, hz2⟩ := info_parts Tryz.infoT
  obtain ⟨N, hN⟩ : ∃ N, w.heap.size = N := ⟨_, rfl⟩
  obtain ⟨W0, hW0⟩ : ∃ W, w.alloc (.cells #[.int .i64 id, .string (bs n), .string (bs u), .string (bs h), .string (bs r), .string (bs y), .bool o, .bool d, .int .i64 si, .int .i64 sp] 23) = W := ⟨_, rfl⟩
  have k1 : W0.heap[N]? = some (.cells #[.int .i64 id, .string (bs n), .string (bs u), .string (bs h), .string (bs r), .string (bs y), .bool o, .bool d, .int .i64 si, .int .i64 sp] 23 (0, 0)) := by rw [← hW0, ← hN]; exact heap_alloc_new w _
  have f0 : Fr (fun _ => False) w W0 := by rw [← hW0]; exact (Fr.refl _ w).alloc _
  have HF0 := Lib.hid f0
  have HP := Lib.hid (per_box k1)
  have hsv2 : server.length ≤ 1000 := by omega
  have hwh2 : whom.length ≤ 1000 := by omega
  obtain ⟨z, hz⟩ : ∃ z, (bs y).toList.isEmpty = z := ⟨_, rfl⟩
  have HZ : Hid (z = decide (y = [])) := Lib.hid (by rw [← hz]; exact emp_iff y)
  have HMX : Hid (∀ W, Fr (fun _ => False) W0 W → Mx W ∧ PowW W) := Lib.hid fun W hf => ⟨(hm.fr f0).fr hf, (hp.fr f0).fr hf⟩
  have HGg : Hid (∀ W, Fr (fun _ => False) W0 W → Calls Tryz.prog 19 #[Fv] W fun e w' => ∃ v, e = .returned v ∧ OwnT W.heap.size w' v ws ∧ Below W.heap.size W w') := Lib.hid fun W hf => HG W (f0.trans hf)
  have HN311 := Lib.hid (num_m (n := 311) (k := 5) server whom [n, u, h, [42], r] W0 _ rfl rfl (by decide) (by decide) (by decide) hsv2 hwh2 (whowas_all hn hu hh hr) (HMX.out _ (Fr.refl _ _)).1 (HMX.out _ (Fr.refl _ _)).2)
  obtain ⟨c0, c1, c2, c3, c4, c5, c6, c7, c8, c9⟩ := HP.out W0 (Fr.refl _ _)
  clear f0 k1 hm hp HG
  go_enter Tryz.func9, Tryz.ntmps9
  go_wp2_with fail
  try rw [hW0]
  refine HN311.out.mono ?_
  rintro e w1 ⟨rfl, hb1⟩
  have F1 : Hid (Fr (fun _ => False) W0 w1) := Lib.hid (Fr.of_below hb1)
  have F1b : Hid (Fr (fun _ => False) W0 (w1.alloc (.cells #[.string (bs (numL server whom 311 [n, u, h, [42], r]))] 9))) := Lib.hid (F1.out.alloc _)
  have HO1 : Hid (OwnT W0.heap.size (w1.alloc (.cells #[.string (bs (numL server whom 311 [n, u, h, [42], r]))] 9)) (.slice (some ⟨w1.heap.size, 0, none⟩) 1 1) [numL server whom 311 [n, u, h, [42], r]]) := Lib.hid (ownT_lit (xs := [numL server whom 311 [n, u, h, [42], r]]) F1.out.size (heap_alloc_new w1 _) (by simp))
  obtain ⟨q1, hq1⟩ : ∃ q, numL server whom 311 [n, u, h, [42], r] = q := ⟨_, rfl⟩
  rw [hq1] at HO1 F1b ⊢
  have HQ1 := Lib.hid hq1
  clear hb1 hq1 c0 c1 c2 c3 c4 c5 c6 c7 c8 c9
  go_wp2_with fail
  obtain ⟨W1, hW1⟩ : ∃ W, w1.alloc (.cells #[.string (bs q1)] 9) = W := ⟨_, rfl⟩
  rw [hW1] at HO1 F1b ⊢
  clear hW1
  obtain ⟨v1, hv1⟩ : ∃ v, Value.slice (some ⟨w1.heap.size, 0, none⟩) 1 1 = v := ⟨_, rfl⟩
  rw [hv1] at HO1 ⊢
  clear hv1
  refine (HGg.out W1 F1b.out).mono ?_
  rintro e w2 ⟨vn, rfl, hon, hb2⟩
  obtain ⟨An, cn, rfl⟩ := row_slice hon
  have FN : Hid (Fr (fun _ => False) W1 w2) := Lib.hid (Fr.of_below hb2)
  have F2 : Hid (Fr (fun _ => False) W0 w2) := Lib.hid (F1b.out.trans FN.out)
  have HO2 : Hid (OwnT W0.heap.size w2 v1 [q1]) := Lib.hid (ownT_fr HO1.out FN.out fun _ _ e => e)
  have HON := Lib.hid (And.intro hon F1b.out.size)
  clear hon hb2
  have HAh : Hid (aheadL server whom 319 [n] ≠ 0) := Lib.hid (by rw [ahead_eq hwn (long_ok hsv hwh hn).1]; exact (long_ok hsv hwh hn).2)
  by_cases hws : ws = []
  rotate_left
  focus
    have hq : (0 : Int) < ws.length := by have := List.length_pos_iff.2 hws; omega
    go_wp2_with fail
    refine wp_region_held_drew (S := fun W => Fr (fun _ => False) W0 W) (by kernel_rfl) (by exact F2.out.drew) (fun hHeld => ?_)
    obtain ⟨x0, hx0⟩ : ∃ W, w2.drew = W := ⟨_, rfl⟩
    have G0 : Fr (fun _ => False) w2 x0 := by rw [← hx0]; exact (Fr.refl _ _).drew
    rw [hx0] at hHeld ⊢
    clear hx0
    refine wpAnyH_read (i := 0) (oi := { dst := some 31, op := Go.Op.move (Go.Operand.tmp 11), type := 26, pos := "person.go:61", after := #[], guard := none }) ?_ rfl (by kernel_rfl) (by kernel_rfl) (by kernel_rfl) (fun _ _ _ h => h) (by rfl) (by exact hHeld) ?_ ?_
    rotate_left
    · (intro w0 hS0; go_simp <;> (try with_reducible rfl))
    try simp only [Act.put, List.setIfInBounds_toArray, List.set_cons_zero, List.set_cons_succ]
    refine wpAnyH_read (i := 1) (oi := { dst := some 32, op := Go.Op.move (Go.Operand.tmp 0), type := 9, pos := "person.go:61", after := #[], guard := none }) ?_ rfl (by kernel_rfl) (by kernel_rfl) (by kernel_rfl) (fun _ _ _ h => h) (by rfl) (by exact hHeld) ?_ ?_
    rotate_left
    · (intro w0 hS0; go_simp <;> (try with_reducible rfl))
    try simp only [Act.put, List.setIfInBounds_toArray, List.set_cons_zero, List.set_cons_succ]
    refine wpAnyH_read (i := 2) (oi := { dst := some 33, op := Go.Op.move (Go.Operand.tmp 1), type := 9, pos := "person.go:61", after := #[], guard := none }) ?_ rfl (by kernel_rfl) (by kernel_rfl) (by kernel_rfl) (fun _ _ _ h => h) (by rfl) (by exact hHeld) ?_ ?_
    rotate_left
    · (intro w0 hS0; go_simp <;> (try with_reducible rfl))
    try simp only [Act.put, List.setIfInBounds_toArray, List.set_cons_zero, List.set_cons_succ]
    refine wpAnyH_read (i := 3) (oi := { dst := some 34, op := Go.Op.fieldAddr 23 (Go.Operand.tmp 7) 1, type := 0, pos := "person.go:61", after := #[], guard := none }) ?_ rfl (by kernel_rfl) (by kernel_rfl) (by kernel_rfl) (fun _ _ _ h => h) (by rfl) (by exact hHeld) ?_ ?_
    rotate_left
    · (intro w0 hS0; go_simp <;> (try with_reducible rfl))
    try simp only [Act.put, List.setIfInBounds_toArray, List.set_cons_zero, List.set_cons_succ]
    refine wpAnyH_read (i := 6) (oi := { dst := some 37, op := Go.Op.move (Go.Operand.tmp 12), type := 26, pos := "person.go:61", after := #[], guard := none }) ?_ rfl (by kernel_rfl) (by kernel_rfl) (by kernel_rfl) (fun _ _ _ h => h) (by rfl) (by exact hHeld) ?_ ?_
    rotate_left
    · (intro w0 hS0; go_simp <;> (try with_reducible rfl))
    try simp only [Act.put, List.setIfInBounds_toArray, List.set_cons_zero, List.set_cons_succ]
    refine wpAnyH_read (i := 4) (oi := { dst := some 35, op := Go.Op.load 9 (Go.Operand.tmp 34), type := 9, pos := "person.go:61", after := #[{ on := 3, ground := Go.Ground.data }], guard := none }) ?_ rfl (by kernel_rfl) (by kernel_rfl) (by kernel_rfl) (fun _ _ _ h => h) (by rfl) (by exact hHeld) ?_ ?_
    rotate_left
    · (intro w0 hS0; obtain ⟨c0, c1, c2, c3, c4, c5, c6, c7, c8, c9⟩ := HP.out w0 hS0; go_simp <;> (try with_reducible rfl))
    try simp only [Act.put, List.setIfInBounds_toArray, List.set_cons_zero, List.set_cons_succ]
    refine wpAnyH_two (i := 5) (j := 7) (o := { dst := some 36, op := Go.Op.buildSlice 26 1 #[(0, Go.Operand.tmp 35)], type := 26, pos := "person.go:61", after := #[{ on := 4, ground := Go.Ground.data }], guard := none }) (o2 := { dst := some 38, op := Go.Op.call { callee := Go.Callee.value (Go.Operand.func 21), args := #[Go.Operand.tmp 37], argTypes := #[26] }, type := 41, pos := "person.go:61", after := #[{ on := 6, ground := Go.Ground.data }], guard := none }) (by kernel_rfl) rfl rfl (by rfl) (by rfl) (fun K hK => ?_) (fun K hK => ?_)
    focus
      go_simp
      obtain ⟨x1, hx1⟩ : ∃ W, x0.alloc (.cells #[.string (bs n)] 9) = W := ⟨_, rfl⟩
      rw [hx1]
      obtain ⟨p5, q5⟩ := mkL x0 x1 [n] _ rfl (by simp) hx1
      have G1 : Fr (fun _ => False) w2 x1 := (G0).trans q5
      refine hK.out _ _ ?_ (fun hHeld => ?_)
      · exact F2.out.trans G1
      clear hK K
      try simp only [Act.put, List.setIfInBounds_toArray, List.set_cons_zero, List.set_cons_succ]
      refine wpAnyH_one (i := 7) (o := { dst := some 38, op := Go.Op.call { callee := Go.Callee.value (Go.Operand.func 21), args := #[Go.Operand.tmp 37], argTypes := #[26] }, type := 41, pos := "person.go:61", after := #[{ on := 6, ground := Go.Ground.data }], guard := none }) (by kernel_rfl) rfl (by rfl) (fun K hK => ?_)
      go_simp
      refine (values_callsT An ws.length cn x1).mono ?_
      intro e9 x2 hv9
      obtain ⟨Fz, rfl, hTz, hbz⟩ := tale_ofT (base := W1.heap.size) (by have := FN.out.size; have := (G1).size; omega) (ownT_fr HON.out.1 (G1) fun _ _ e => e) hv9
      obtain ⟨Y7, _, gf7, lb7, rfl, hs7, hl7, he7⟩ := tellsT_tale hTz (by omega)
      have T7 : TellsF Tryz.prog encL x2 (.func (.func gf7) #[] lb7) Y7 ws := ⟨gf7, lb7, rfl, hs7, hl7, he7⟩
      have G2 : Fr (fun _ => False) w2 x2 := (G1).trans (Fr.of_below hbz)
      have p5b := readsT_frX (X := fun _ => False) p5 (Fr.of_below (X := fun _ => False) hbz) fun e => e
      refine hK.out _ _ ?_ (fun hHeld => ?_)
      · exact F2.out.trans G2
      clear hK K
      try simp only [Act.put, List.setIfInBounds_toArray, List.set_cons_zero, List.set_cons_succ]
      refine wpAnyH_one (i := 8) (o := { dst := some 39, op := Go.Op.call { callee := Go.Callee.value (Go.Operand.func 20), args := #[Go.Operand.tmp 32, Go.Operand.const (Go.Value.int Go.IntKind.i64 319), Go.Operand.tmp 33, Go.Operand.tmp 36, Go.Operand.tmp 38], argTypes := #[9, 3, 9, 26, 41] }, type := 26, pos := "person.go:61", after := #[{ on := 1, ground := Go.Ground.data }, { on := 2, ground := Go.Ground.data }, { on := 5, ground := Go.Ground.data }, { on := 7, ground := Go.Ground.data }, { on := 7, ground := Go.Ground.chain }], guard := none }) (by kernel_rfl) rfl (by rfl) (fun K hK => ?_)
      go_simp
      have HPk := pack_m server whom 319 _ 1 [n] ws gf7 lb7 Y7 x2 T7 hx (by omega) p5b (HMX.out _ (F2.out.trans G2)).1 (HMX.out _ (F2.out.trans G2)).2 (by decide) (by decide) (by simp) (by omega) (by omega) (by intro p hp; rw [List.mem_singleton.1 hp]; omega) HAh.out
      refine HPk.mono ?_
      rintro e9 x3 ⟨A8, c8, rfl, r8, b8⟩
      have G3 : Fr (fun _ => False) w2 x3 := (G2).trans (Fr.of_below b8)
      obtain ⟨pk, hpk⟩ : ∃ p, packL server whom 319 [n] ws = p := ⟨_, rfl⟩
      have hpl := packL_len server whom 319 [n] hx
      rw [hpk] at r8 hpl ⊢
      refine hK.out _ _ ?_ (fun hHeld => ?_)
      · exact F2.out.trans G3
      clear hK K
      try simp only [Act.put, List.setIfInBounds_toArray, List.set_cons_zero, List.set_cons_succ]
      refine wpAnyH_one (i := 9) (o := { dst := some 40, op := Go.Op.call { callee := Go.Callee.builtin Go.Builtin.append, args := #[Go.Operand.tmp 31, Go.Operand.tmp 39], argTypes := #[26, 26] }, type := 26, pos := "person.go:61", after := #[{ on := 0, ground := Go.Ground.data }, { on := 8, ground := Go.Ground.data }, { on := 8, ground := Go.Ground.chain }], guard := none }) (by kernel_rfl) rfl (by rfl) (fun K hK => ?_)
      have hoz := ownT_fr HO2.out (G3) fun _ _ e => e
      obtain ⟨v3, W3, hr9, r9, f9, t9⟩ := run_app_any (P := Tryz.prog) x3 W0.heap.size 26 26 26 9 i0 _ 1 16 Tryz.underlying26 hi0 hz0 hz1 hz2 rfl v1 1 ([q1].map encT) hoz (.slice A8 pk.length c8) pk.length (pk.map encT) (srcT r8) (by unfold maxLen; omega) (by omega) ((F2.out.trans G3).size)
      have G4 : Fr (fun k => v1.ownBlock = some k) w2 W3 := ((G3).mono (Y := fun k => v1.ownBlock = some k) fun _ _ e => e.elim).trans3 f9 fun _ _ e => e
      have HF3 : Hid (Fr (fun _ => False) W0 W3) := Lib.hid (F2.out.trans3 G4 fun k hk e => by have := (HO2.out.lt k e).1; omega)
      have HO3 : Hid (OwnT W0.heap.size W3 v3 ([q1] ++ pk)) := Lib.hid (by unfold OwnT; rw [List.length_append, List.map_append]; exact r9)
      refine wp_app_run _ _ _ _ rfl (v := v3) (W' := W3) (by exact hr9) ?_
      refine hK.out _ _ ?_ (fun hHeld => ?_)
      · exact HF3.out
      clear hK K
      try simp only [Act.put, List.setIfInBounds_toArray, List.set_cons_zero, List.set_cons_succ]
      refine wpAnyH_read (i := 10) (oi := { dst := some 11, op := Go.Op.assign (Go.Operand.tmp 40), type := 26, pos := "person.go:61", after := #[{ on := 9, ground := Go.Ground.data }, { on := 9, ground := Go.Ground.chain }, { on := 0, ground := Go.Ground.phase }, { on := 1, ground := Go.Ground.phase }, { on := 2, ground := Go.Ground.phase }, { on := 3, ground := Go.Ground.phase }, { on := 4, ground := Go.Ground.phase }, { on := 5, ground := Go.Ground.phase }, { on := 6, ground := Go.Ground.phase }, { on := 7, ground := Go.Ground.phase }, { on := 8, ground := Go.Ground.phase }, { on := 9, ground := Go.Ground.phase }], guard := none }) ?_ rfl (by kernel_rfl) (by kernel_rfl) (by kernel_rfl) (fun _ _ _ h => h) (by rfl) (by exact hHeld) ?_ ?_
      rotate_left
      · (intro w0 hS0; go_simp <;> (try with_reducible rfl))
      try simp only [Act.put, List.setIfInBounds_toArray, List.set_cons_zero, List.set_cons_succ]
      refine wpAnyH_done (by kernel_rfl) ?_ _
      obtain ⟨L3, hL3⟩ : ∃ L, [q1] ++ pk = L := ⟨_, rfl⟩
      rw [hL3] at HO3
      have hl3 : L3.length ≤ 2000 + 3 := by rw [← hL3, List.length_append]; simp only [List.length_cons, List.length_nil]; omega
      have HL3 : Hid (L3 = [numL server whom 311 [n, u, h, [42], r]] ++ chanS server whom n ws) := Lib.hid (by rw [← hL3, show chanS server whom n ws = packL server whom 319 [n] ws from if_neg hws, HQ1.out, hpk])
    rotate_left
    focus
      go_simp
      refine (values_callsT An ws.length cn x0).mono ?_
      intro e9 x5 hv9
      obtain ⟨Fz, rfl, hTz, hbz⟩ := tale_ofT (base := W1.heap.size) (by have := FN.out.size; have := (G0).size; omega) (ownT_fr HON.out.1 (G0) fun _ _ e => e) hv9
      obtain ⟨Y7, _, gf7, lb7, rfl, hs7, hl7, he7⟩ := tellsT_tale hTz (by omega)
      have T7 : TellsF Tryz.prog encL x5 (.func (.func gf7) #[] lb7) Y7 ws := ⟨gf7, lb7, rfl, hs7, hl7, he7⟩
      have G5 : Fr (fun _ => False) w2 x5 := (G0).trans (Fr.of_below hbz)
      refine hK.out _ _ ?_ (fun hHeld => ?_)
      · exact F2.out.trans G5
      clear hK K
      try simp only [Act.put, List.setIfInBounds_toArray, List.set_cons_zero, List.set_cons_succ]
      refine wpAnyH_one (i := 5) (o := { dst := some 36, op := Go.Op.buildSlice 26 1 #[(0, Go.Operand.tmp 35)], type := 26, pos := "person.go:61", after := #[{ on := 4, ground := Go.Ground.data }], guard := none }) (by kernel_rfl) rfl (by rfl) (fun K hK => ?_)
      go_simp
      obtain ⟨x6, hx6⟩ : ∃ W, x5.alloc (.cells #[.string (bs n)] 9) = W := ⟨_, rfl⟩
      rw [hx6]
      obtain ⟨p5, q5⟩ := mkL x5 x6 [n] _ rfl (by simp) hx6
      have G6 : Fr (fun _ => False) w2 x6 := (G5).trans q5
      have T7b := TellsF.fr T7 q5 fun _ _ e => e
      refine hK.out _ _ ?_ (fun hHeld => ?_)
      · exact F2.out.trans G6
      clear hK K
      try simp only [Act.put, List.setIfInBounds_toArray, List.set_cons_zero, List.set_cons_succ]
      refine wpAnyH_one (i := 8) (o := { dst := some 39, op := Go.Op.call { callee := Go.Callee.value (Go.Operand.func 20), args := #[Go.Operand.tmp 32, Go.Operand.const (Go.Value.int Go.IntKind.i64 319), Go.Operand.tmp 33, Go.Operand.tmp 36, Go.Operand.tmp 38], argTypes := #[9, 3, 9, 26, 41] }, type := 26, pos := "person.go:61", after := #[{ on := 1, ground := Go.Ground.data }, { on := 2, ground := Go.Ground.data }, { on := 5, ground := Go.Ground.data }, { on := 7, ground := Go.Ground.data }, { on := 7, ground := Go.Ground.chain }], guard := none }) (by kernel_rfl) rfl (by rfl) (fun K hK => ?_)
      go_simp
      have HPk := pack_m server whom 319 _ 1 [n] ws gf7 lb7 Y7 x6 T7b hx (by omega) p5 (HMX.out _ (F2.out.trans G6)).1 (HMX.out _ (F2.out.trans G6)).2 (by decide) (by decide) (by simp) (by omega) (by omega) (by intro p hp; rw [List.mem_singleton.1 hp]; omega) HAh.out
      refine HPk.mono ?_
      rintro e9 x7 ⟨A8, c8, rfl, r8, b8⟩
      have G7 : Fr (fun _ => False) w2 x7 := (G6).trans (Fr.of_below b8)
      obtain ⟨pk, hpk⟩ : ∃ p, packL server whom 319 [n] ws = p := ⟨_, rfl⟩
      have hpl := packL_len server whom 319 [n] hx
      rw [hpk] at r8 hpl ⊢
      refine hK.out _ _ ?_ (fun hHeld => ?_)
      · exact F2.out.trans G7
      clear hK K
      try simp only [Act.put, List.setIfInBounds_toArray, List.set_cons_zero, List.set_cons_succ]
      refine wpAnyH_one (i := 9) (o := { dst := some 40, op := Go.Op.call { callee := Go.Callee.builtin Go.Builtin.append, args := #[Go.Operand.tmp 31, Go.Operand.tmp 39], argTypes := #[26, 26] }, type := 26, pos := "person.go:61", after := #[{ on := 0, ground := Go.Ground.data }, { on := 8, ground := Go.Ground.data }, { on := 8, ground := Go.Ground.chain }], guard := none }) (by kernel_rfl) rfl (by rfl) (fun K hK => ?_)
      have hoz := ownT_fr HO2.out (G7) fun _ _ e => e
      obtain ⟨v3, W3, hr9, r9, f9, t9⟩ := run_app_any (P := Tryz.prog) x7 W0.heap.size 26 26 26 9 i0 _ 1 16 Tryz.underlying26 hi0 hz0 hz1 hz2 rfl v1 1 ([q1].map encT) hoz (.slice A8 pk.length c8) pk.length (pk.map encT) (srcT r8) (by unfold maxLen; omega) (by omega) ((F2.out.trans G7).size)
      have G8 : Fr (fun k => v1.ownBlock = some k) w2 W3 := ((G7).mono (Y := fun k => v1.ownBlock = some k) fun _ _ e => e.elim).trans3 f9 fun _ _ e => e
      have HF3 : Hid (Fr (fun _ => False) W0 W3) := Lib.hid (F2.out.trans3 G8 fun k hk e => by have := (HO2.out.lt k e).1; omega)
      have HO3 : Hid (OwnT W0.heap.size W3 v3 ([q1] ++ pk)) := Lib.hid (by unfold OwnT; rw [List.length_append, List.map_append]; exact r9)
      refine wp_app_run _ _ _ _ rfl (v := v3) (W' := W3) (by exact hr9) ?_
      refine hK.out _ _ ?_ (fun hHeld => ?_)
      · exact HF3.out
      clear hK K
      try simp only [Act.put, List.setIfInBounds_toArray, List.set_cons_zero, List.set_cons_succ]
      refine wpAnyH_read (i := 10) (oi := { dst := some 11, op := Go.Op.assign (Go.Operand.tmp 40), type := 26, pos := "person.go:61", after := #[{ on := 9, ground := Go.Ground.data }, { on := 9, ground := Go.Ground.chain }, { on := 0, ground := Go.Ground.phase }, { on := 1, ground := Go.Ground.phase }, { on := 2, ground := Go.Ground.phase }, { on := 3, ground := Go.Ground.phase }, { on := 4, ground := Go.Ground.phase }, { on := 5, ground := Go.Ground.phase }, { on := 6, ground := Go.Ground.phase }, { on := 7, ground := Go.Ground.phase }, { on := 8, ground := Go.Ground.phase }, { on := 9, ground := Go.Ground.phase }], guard := none }) ?_ rfl (by kernel_rfl) (by kernel_rfl) (by kernel_rfl) (fun _ _ _ h => h) (by rfl) (by exact hHeld) ?_ ?_
      rotate_left
      · (intro w0 hS0; go_simp <;> (try with_reducible rfl))
      try simp only [Act.put, List.setIfInBounds_toArray, List.set_cons_zero, List.set_cons_succ]
      refine wpAnyH_done (by kernel_rfl) ?_ _
      obtain ⟨L3, hL3⟩ : ∃ L, [q1] ++ pk = L := ⟨_, rfl⟩
      rw [hL3] at HO3
      have hl3 : L3.length ≤ 2000 + 3 := by rw [← hL3, List.length_append]; simp only [List.length_cons, List.length_nil]; omega
      have HL3 : Hid (L3 = [numL server whom 311 [n, u, h, [42], r]] ++ chanS server whom n ws) := Lib.hid (by rw [← hL3, show chanS server whom n ws = packL server whom 319 [n] ws from if_neg hws, HQ1.out, hpk])
    skip
  rotate_right
  focus
    have hq : ¬ (0 : Int) < ws.length := by rw [hws]; simp
    obtain ⟨W3, hW3⟩ : ∃ W, w2 = W := ⟨_, rfl⟩
    have HF3 : Hid (Fr (fun _ => False) W0 W3) := Lib.hid (by rw [← hW3]; exact F2.out)
    obtain ⟨v3, hv3⟩ : ∃ v, v1 = v := ⟨_, rfl⟩
    obtain ⟨L3, hL3⟩ : ∃ L, [q1] = L := ⟨_, rfl⟩
    have HO3 : Hid (OwnT W0.heap.size W3 v3 L3) := Lib.hid (by rw [← hW3, ← hv3, ← hL3]; exact HO2.out)
    have hl3 : L3.length ≤ 2000 + 3 := by rw [← hL3]; simp
    have HL3 : Hid (L3 = [numL server whom 311 [n, u, h, [42], r]] ++ chanS server whom n ws) := Lib.hid (by rw [← hL3, show chanS server whom n ws = [] from if_pos hws, HQ1.out]; rfl)
    rw [hW3, hv3]
    clear hW3 hv3 hws
    clear hL3
  all_goals
    obtain ⟨c0, c1, c2, c3, c4, c5, c6, c7, c8, c9⟩ := HP.out W3 HF3.out
    have HN := Lib.hid (servl_m server whom n u h r y id si sp o d W3 hsv hwh hn hu hh hr (HMX.out _ HF3.out).1 (HMX.out _ HF3.out).2)
    unfold per at HN
    go_wp2_with fail
    refine HN.out.mono ?_
    rintro e wc ⟨rfl, hbc⟩
    obtain ⟨qc, hqc⟩ : ∃ q, numL server whom 312 [n, server, rollL] = q := ⟨_, rfl⟩
    rw [hqc]
    have HFx : Hid (Fr (fun _ => False) W0 wc) := Lib.hid (HF3.out.trans (Fr.of_below hbc))
    have HOx : Hid (OwnT W0.heap.size wc v3 L3) := Lib.hid (ownT_fr HO3.out (Fr.of_below (X := fun _ => False) hbc) fun _ _ e => e)
    have HQ := Lib.hid hqc
    clear hbc hqc c0 c1 c2 c3 c4 c5 c6 c7 c8 c9
    go_wp2_with (at_builtin; refine wpList_app_fr rfl _ _ 26 rfl W0.heap.size 9 i0 (.string ByteArray.empty) 1 16 Tryz.underlying26 hi0 hz0 hz1 hz2 rfl (by decide) v3 L3.length (L3.map encT) rfl HOx.out #[.string (bs qc)] wc.heap.size rfl rfl rfl (by intro u hu; simp at hu; subst hu; rfl) (by omega) (by decide) (HFx.out.size) ?_)
    intro v4 W4 hown hfr
    have HO4 := Lib.hid (ownT_snoc hown)
    have HF4 : Hid (Fr (fun _ => False) W0 W4) := Lib.hid (HFx.out.trans3 hfr fun k hk e => by have := (HOx.out.lt k e).1; omega)
    obtain ⟨L4, hL4⟩ : ∃ L, L3 ++ [qc] = L := ⟨_, rfl⟩
    rw [hL4] at HO4
    have hl4 : L4.length ≤ 2000 + 4 := by rw [← hL4, List.length_append]; simp only [List.length_cons, List.length_nil]; omega
    have HL4 := Lib.hid hL4
    clear hown hfr hL4 HOx HFx
    have HE4 : Hid (L4 = L3 ++ [numL server whom 312 [n, server, rollL]]) := Lib.hid (by rw [← HL4.out, ← HQ.out])
    clear HL4 HQ HN
  all_goals
    obtain ⟨c0, c1, c2, c3, c4, c5, c6, c7, c8, c9⟩ := HP.out W4 HF4.out
    cases z
    rotate_left
    focus
      have hyn : Hid (y = []) := Lib.hid (by have := HZ.out; simpa using this)
      obtain ⟨W5, hW5⟩ : ∃ W, W4 = W := ⟨_, rfl⟩
      have HF5 : Hid (Fr (fun _ => False) W0 W5) := Lib.hid (by rw [← hW5]; exact HF4.out)
      obtain ⟨v5, hv5⟩ : ∃ v, v4 = v := ⟨_, rfl⟩
      obtain ⟨L5, hL5⟩ : ∃ L, L4 = L := ⟨_, rfl⟩
      have HO5 : Hid (OwnT W0.heap.size W5 v5 L5) := Lib.hid (by rw [← hW5, ← hv5, ← hL5]; exact HO4.out)
      have hl5 : L5.length ≤ 2000 + 5 := by rw [← hL5]; omega
      have HE5 : Hid (L5 = L4 ++ awayS server whom n y) := Lib.hid (by rw [← hL5, show awayS server whom n y = [] from if_pos hyn.out, List.append_nil])
      rw [hW5, hv5]
      clear hW5 hv5 hL5 c0 c1 c2 c3 c4 c5 c6 c7 c8 c9
    rotate_left
    focus
      have hyn : Hid (y ≠ []) := Lib.hid (fun e => by have := HZ.out; rw [e] at this; cases this)
      have HN := Lib.hid (num_m (n := 301) (k := 2) server whom [n, y] W4 _ rfl rfl (by decide) (by decide) (by decide) hsv2 hwh2 (away_all hn hy) (HMX.out _ HF4.out).1 (HMX.out _ HF4.out).2)
      go_wp2_with fail
      refine HN.out.mono ?_
      rintro e wc ⟨rfl, hbc⟩
      obtain ⟨qc, hqc⟩ : ∃ q, numL server whom 301 [n, y] = q := ⟨_, rfl⟩
      rw [hqc]
      have HFx : Hid (Fr (fun _ => False) W0 wc) := Lib.hid (HF4.out.trans (Fr.of_below hbc))
      have HOx : Hid (OwnT W0.heap.size wc v4 L4) := Lib.hid (ownT_fr HO4.out (Fr.of_below (X := fun _ => False) hbc) fun _ _ e => e)
      have HQ := Lib.hid hqc
      clear hbc hqc c0 c1 c2 c3 c4 c5 c6 c7 c8 c9
      go_wp2_with (at_builtin; refine wpList_app_fr rfl _ _ 26 rfl W0.heap.size 9 i0 (.string ByteArray.empty) 1 16 Tryz.underlying26 hi0 hz0 hz1 hz2 rfl (by decide) v4 L4.length (L4.map encT) rfl HOx.out #[.string (bs qc)] wc.heap.size rfl rfl rfl (by intro u hu; simp at hu; subst hu; rfl) (by omega) (by decide) (HFx.out.size) ?_)
      intro v5 W5 hown hfr
      have HO5 := Lib.hid (ownT_snoc hown)
      have HF5 : Hid (Fr (fun _ => False) W0 W5) := Lib.hid (HFx.out.trans3 hfr fun k hk e => by have := (HOx.out.lt k e).1; omega)
      obtain ⟨L5, hL5⟩ : ∃ L, L4 ++ [qc] = L := ⟨_, rfl⟩
      rw [hL5] at HO5
      have hl5 : L5.length ≤ 2000 + 5 := by rw [← hL5, List.length_append]; simp only [List.length_cons, List.length_nil]; omega
      have HL5 := Lib.hid hL5
      clear hown hfr hL5 HOx HFx
      have HE5 : Hid (L5 = L4 ++ awayS server whom n y) := Lib.hid (by rw [← HL5.out, show awayS server whom n y = [numL server whom 301 [n, y]] from if_neg hyn.out, ← HQ.out])
      clear HL5 HQ HN
  all_goals
    obtain ⟨c0, c1, c2, c3, c4, c5, c6, c7, c8, c9⟩ := HP.out W5 HF5.out
    cases o
    focus
      obtain ⟨W6, hW6⟩ : ∃ W, W5 = W := ⟨_, rfl⟩
      have HF6 : Hid (Fr (fun _ => False) W0 W6) := Lib.hid (by rw [← hW6]; exact HF5.out)
      obtain ⟨v6, hv6⟩ : ∃ v, v5 = v := ⟨_, rfl⟩
      obtain ⟨L6, hL6⟩ : ∃ L, L5 = L := ⟨_, rfl⟩
      have HO6 : Hid (OwnT W0.heap.size W6 v6 L6) := Lib.hid (by rw [← hW6, ← hv6, ← hL6]; exact HO5.out)
      have hl6 : L6.length ≤ 2000 + 6 := by rw [← hL6]; omega
      have HE6 : Hid (L6 = L5 ++ operS server whom n false) := Lib.hid (by rw [← hL6, show operS server whom n false = [] from if_neg (by decide), List.append_nil])
      rw [hW6, hv6]
      clear hW6 hv6 hL6 c0 c1 c2 c3 c4 c5 c6 c7 c8 c9
    rotate_left
    focus
      have HN := Lib.hid (num_m (n := 313) (k := 2) server whom [n, operL] W5 #[.string (bs n), .string ({ data := #[105, 115, 32, 97, 110, 32, 73, 82, 67, 32, 111, 112, 101, 114, 97, 116, 111, 114] } : ByteArray)] rfl rfl (by decide) (by decide) (by decide) hsv2 hwh2 (oper_all hn) (HMX.out _ HF5.out).1 (HMX.out _ HF5.out).2)
      go_wp2_with fail
      refine HN.out.mono ?_
      rintro e wc ⟨rfl, hbc⟩
      obtain ⟨qc, hqc⟩ : ∃ q, numL server whom 313 [n, operL] = q := ⟨_, rfl⟩
      rw [hqc]
      have HFx : Hid (Fr (fun _ => False) W0 wc) := Lib.hid (HF5.out.trans (Fr.of_below hbc))
      have HOx : Hid (OwnT W0.heap.size wc v5 L5) := Lib.hid (ownT_fr HO5.out (Fr.of_below (X := fun _ => False) hbc) fun _ _ e => e)
      have HQ := Lib.hid hqc
      clear hbc hqc c0 c1 c2 c3 c4 c5 c6 c7 c8 c9
      go_wp2_with (at_builtin; refine wpList_app_fr rfl _ _ 26 rfl W0.heap.size 9 i0 (.string ByteArray.empty) 1 16 Tryz.underlying26 hi0 hz0 hz1 hz2 rfl (by decide) v5 L5.length (L5.map encT) rfl HOx.out #[.string (bs qc)] wc.heap.size rfl rfl rfl (by intro u hu; simp at hu; subst hu; rfl) (by omega) (by decide) (HFx.out.size) ?_)
      intro v6 W6 hown hfr
      have HO6 := Lib.hid (ownT_snoc hown)
      have HF6 : Hid (Fr (fun _ => False) W0 W6) := Lib.hid (HFx.out.trans3 hfr fun k hk e => by have := (HOx.out.lt k e).1; omega)
      obtain ⟨L6, hL6⟩ : ∃ L, L5 ++ [qc] = L := ⟨_, rfl⟩
      rw [hL6] at HO6
      have hl6 : L6.length ≤ 2000 + 6 := by rw [← hL6, List.length_append]; simp only [List.length_cons, List.length_nil]; omega
      have HL6 := Lib.hid hL6
      clear hown hfr hL6 HOx HFx
      have HE6 : Hid (L6 = L5 ++ operS server whom n true) := Lib.hid (by rw [← HL6.out, show operS server whom n true = [numL server whom 313 [n, operL]] from if_pos rfl, ← HQ.out])
      clear HL6 HQ HN
  all_goals
    obtain ⟨c0, c1, c2, c3, c4, c5, c6, c7, c8, c9⟩ := HP.out W6 HF6.out
    have HPS := Lib.hid (fun W (hS : Fr (fun k => v6.ownBlock = some k) W6 W) => HP.out W (HF6.out.trans3 hS fun k hk e => by have := (HO6.out.lt k e).1; omega))
    have hbl1 := beh_len now sp (by omega)
    have hbl2 := beh_len si 0 (by omega)
    have hsub : IntKind.i64.wrap (now - sp) = now - sp := by simp [IntKind.wrap, IntKind.signed, IntKind.bits]; omega
    go_wp2_with fail
    clear c0 c1 c2 c3 c4 c5 c6 c7 c8 c9
    refine wp_region_held_drew (S := fun W => Fr (fun k => v6.ownBlock = some k) W6 W) (by kernel_rfl) (by exact (Fr.refl _ W6).drew) (fun hHeld => ?_)
    refine wpAnyH_read (i := 0) (oi := { dst := some 73, op := Go.Op.move (Go.Operand.tmp 11), type := 26, pos := "person.go:70", after := #[], guard := none }) ?_ rfl (by kernel_rfl) (by kernel_rfl) (by kernel_rfl) (fun _ _ _ h => h) (by rfl) (by assumption) ?_ ?_
    rotate_left
    · (intro w0 hS0; go_simp <;> (try with_reducible rfl))
    try simp only [Act.put, List.setIfInBounds_toArray, List.set_cons_zero, List.set_cons_succ]
    refine wpAnyH_read (i := 1) (oi := { dst := some 74, op := Go.Op.move (Go.Operand.tmp 0), type := 9, pos := "person.go:70", after := #[], guard := none }) ?_ rfl (by kernel_rfl) (by kernel_rfl) (by kernel_rfl) (fun _ _ _ h => h) (by rfl) (by assumption) ?_ ?_
    rotate_left
    · (intro w0 hS0; go_simp <;> (try with_reducible rfl))
    try simp only [Act.put, List.setIfInBounds_toArray, List.set_cons_zero, List.set_cons_succ]
    refine wpAnyH_read (i := 2) (oi := { dst := some 75, op := Go.Op.move (Go.Operand.tmp 1), type := 9, pos := "person.go:70", after := #[], guard := none }) ?_ rfl (by kernel_rfl) (by kernel_rfl) (by kernel_rfl) (fun _ _ _ h => h) (by rfl) (by assumption) ?_ ?_
    rotate_left
    · (intro w0 hS0; go_simp <;> (try with_reducible rfl))
    try simp only [Act.put, List.setIfInBounds_toArray, List.set_cons_zero, List.set_cons_succ]
    refine wpAnyH_read (i := 3) (oi := { dst := some 76, op := Go.Op.fieldAddr 23 (Go.Operand.tmp 7) 1, type := 0, pos := "person.go:70", after := #[], guard := none }) ?_ rfl (by kernel_rfl) (by kernel_rfl) (by kernel_rfl) (fun _ _ _ h => h) (by rfl) (by assumption) ?_ ?_
    rotate_left
    · (intro w0 hS0; go_simp <;> (try with_reducible rfl))
    try simp only [Act.put, List.setIfInBounds_toArray, List.set_cons_zero, List.set_cons_succ]
    refine wpAnyH_read (i := 5) (oi := { dst := some 78, op := Go.Op.move (Go.Operand.tmp 4), type := 3, pos := "person.go:70", after := #[], guard := none }) ?_ rfl (by kernel_rfl) (by kernel_rfl) (by kernel_rfl) (fun _ _ _ h => h) (by rfl) (by assumption) ?_ ?_
    rotate_left
    · (intro w0 hS0; go_simp <;> (try with_reducible rfl))
    try simp only [Act.put, List.setIfInBounds_toArray, List.set_cons_zero, List.set_cons_succ]
    refine wpAnyH_read (i := 6) (oi := { dst := some 79, op := Go.Op.fieldAddr 23 (Go.Operand.tmp 7) 9, type := 0, pos := "person.go:70", after := #[], guard := none }) ?_ rfl (by kernel_rfl) (by kernel_rfl) (by kernel_rfl) (fun _ _ _ h => h) (by rfl) (by assumption) ?_ ?_
    rotate_left
    · (intro w0 hS0; go_simp <;> (try with_reducible rfl))
    try simp only [Act.put, List.setIfInBounds_toArray, List.set_cons_zero, List.set_cons_succ]
    refine wpAnyH_read (i := 9) (oi := { dst := some 82, op := Go.Op.fieldAddr 23 (Go.Operand.tmp 7) 8, type := 0, pos := "person.go:70", after := #[], guard := none }) ?_ rfl (by kernel_rfl) (by kernel_rfl) (by kernel_rfl) (fun _ _ _ h => h) (by rfl) (by assumption) ?_ ?_
    rotate_left
    · (intro w0 hS0; go_simp <;> (try with_reducible rfl))
    try simp only [Act.put, List.setIfInBounds_toArray, List.set_cons_zero, List.set_cons_succ]
    refine wpAnyH_read (i := 4) (oi := { dst := some 77, op := Go.Op.load 9 (Go.Operand.tmp 76), type := 9, pos := "person.go:70", after := #[{ on := 3, ground := Go.Ground.data }], guard := none }) ?_ rfl (by kernel_rfl) (by kernel_rfl) (by kernel_rfl) (fun _ _ _ h => h) (by rfl) (by assumption) ?_ ?_
    rotate_left
    · (intro w0 hS0; obtain ⟨c0, c1, c2, c3, c4, c5, c6, c7, c8, c9⟩ := HPS.out w0 hS0; go_simp <;> (try with_reducible rfl))
    try simp only [Act.put, List.setIfInBounds_toArray, List.set_cons_zero, List.set_cons_succ]
    refine wpAnyH_read (i := 7) (oi := { dst := some 80, op := Go.Op.load 3 (Go.Operand.tmp 79), type := 3, pos := "person.go:70", after := #[{ on := 6, ground := Go.Ground.data }], guard := none }) ?_ rfl (by kernel_rfl) (by kernel_rfl) (by kernel_rfl) (fun _ _ _ h => h) (by rfl) (by assumption) ?_ ?_
    rotate_left
    · (intro w0 hS0; obtain ⟨c0, c1, c2, c3, c4, c5, c6, c7, c8, c9⟩ := HPS.out w0 hS0; go_simp <;> (try with_reducible rfl))
    try simp only [Act.put, List.setIfInBounds_toArray, List.set_cons_zero, List.set_cons_succ]
    refine wpAnyH_read (i := 10) (oi := { dst := some 83, op := Go.Op.load 3 (Go.Operand.tmp 82), type := 3, pos := "person.go:70", after := #[{ on := 9, ground := Go.Ground.data }], guard := none }) ?_ rfl (by kernel_rfl) (by kernel_rfl) (by kernel_rfl) (fun _ _ _ h => h) (by rfl) (by assumption) ?_ ?_
    rotate_left
    · (intro w0 hS0; obtain ⟨c0, c1, c2, c3, c4, c5, c6, c7, c8, c9⟩ := HPS.out w0 hS0; go_simp <;> (try with_reducible rfl))
    try simp only [Act.put, List.setIfInBounds_toArray, List.set_cons_zero, List.set_cons_succ]
    refine wpAnyH_one (i := 8) (o := { dst := some 81, op := Go.Op.call { callee := Go.Callee.value (Go.Operand.func 23), args := #[Go.Operand.tmp 78, Go.Operand.tmp 80], argTypes := #[3, 3] }, type := 9, pos := "person.go:70", after := #[{ on := 5, ground := Go.Ground.data }, { on := 7, ground := Go.Ground.data }], guard := none }) (by kernel_rfl) rfl (by rfl) (fun K hK => ?_)
    go_simp
    have HB1 := behind_m now sp (by omega) (by omega) (by omega) (by omega) W6.drew (HMX.out _ (HF6.out.trans ((Fr.refl (fun _ => False) W6).drew))).2
    refine HB1.mono ?_
    rintro e9 V1 ⟨rfl, hb1⟩
    have G1 : Fr (fun _ => False) W6 V1 := ((Fr.refl (fun _ => False) W6).drew).trans (Fr.of_below hb1)
    clear hb1 HB1
    refine hK.out _ _ ?_ (fun hHeld => ?_)
    · exact (G1).mono (Y := fun k => v6.ownBlock = some k) fun _ _ e => e.elim
    clear hK K
    try simp only [Act.put, List.setIfInBounds_toArray, List.set_cons_zero, List.set_cons_succ]
    refine wpAnyH_one (i := 11) (o := { dst := some 84, op := Go.Op.call { callee := Go.Callee.value (Go.Operand.func 23), args := #[Go.Operand.tmp 83, Go.Operand.const (Go.Value.int Go.IntKind.i64 0)], argTypes := #[3, 3] }, type := 9, pos := "person.go:70", after := #[{ on := 10, ground := Go.Ground.data }, { on := 8, ground := Go.Ground.chain }], guard := none }) (by kernel_rfl) rfl (by rfl) (fun K hK => ?_)
    go_simp
    refine (behind_m si 0 (by omega) (by omega) (by omega) (by omega) V1 (HMX.out _ (HF6.out.trans G1)).2).mono ?_
    rintro e9 V2 ⟨rfl, hb2⟩
    have G2 : Fr (fun _ => False) W6 V2 := G1.trans (Fr.of_below hb2)
    clear hb2
    refine hK.out _ _ ?_ (fun hHeld => ?_)
    · exact (G2).mono (Y := fun k => v6.ownBlock = some k) fun _ _ e => e.elim
    clear hK K
    try simp only [Act.put, List.setIfInBounds_toArray, List.set_cons_zero, List.set_cons_succ]
    refine wpAnyH_one (i := 12) (o := { dst := some 85, op := Go.Op.buildSlice 26 4 #[(0, Go.Operand.tmp 77), (1, Go.Operand.tmp 81), (2, Go.Operand.tmp 84), (3, Go.Operand.const (Go.Value.string { data := #[115, 101, 99, 111, 110, 100, 115, 32, 105, 100, 108, 101, 44, 32, 115, 105, 103, 110, 111, 110, 32, 116, 105, 109, 101] }))], type := 26, pos := "person.go:70", after := #[{ on := 4, ground := Go.Ground.data }, { on := 8, ground := Go.Ground.data }, { on := 11, ground := Go.Ground.data }], guard := none }) (by kernel_rfl) rfl (by rfl) (fun K hK => ?_)
    go_simp
    refine hK.out _ _ ?_ (fun hHeld => ?_)
    · exact ((G2.alloc _)).mono (Y := fun k => v6.ownBlock = some k) fun _ _ e => e.elim
    clear hK K
    try simp only [Act.put, List.setIfInBounds_toArray, List.set_cons_zero, List.set_cons_succ]
    refine wpAnyH_one (i := 13) (o := { dst := some 86, op := Go.Op.call { callee := Go.Callee.value (Go.Operand.func 16), args := #[Go.Operand.tmp 74, Go.Operand.const (Go.Value.int Go.IntKind.i64 317), Go.Operand.tmp 75, Go.Operand.tmp 85], argTypes := #[9, 3, 9, 26] }, type := 9, pos := "person.go:70", after := #[{ on := 1, ground := Go.Ground.data }, { on := 2, ground := Go.Ground.data }, { on := 12, ground := Go.Ground.data }, { on := 11, ground := Go.Ground.chain }], guard := none }) (by kernel_rfl) rfl (by rfl) (fun K hK => ?_)
    go_simp
    have HN := num_m (n := 317) (k := 4) server whom [n, behL now sp, behL si 0, idleL] V2 #[.string (bs n), .string (bs (behL now sp)), .string (bs (behL si 0)), .string ({ data := #[115, 101, 99, 111, 110, 100, 115, 32, 105, 100, 108, 101, 44, 32, 115, 105, 103, 110, 111, 110, 32, 116, 105, 109, 101] } : ByteArray)] rfl rfl (by decide) (by decide) (by decide) hsv2 hwh2 (idle_all hn hbl1 hbl2) (HMX.out _ (HF6.out.trans G2)).1 (HMX.out _ (HF6.out.trans G2)).2
    refine HN.mono ?_
    rintro e9 V3 ⟨rfl, hb3⟩
    have G3 : Fr (fun _ => False) W6 V3 := G2.trans (Fr.of_below hb3)
    obtain ⟨q8, hq8⟩ : ∃ q, numL server whom 317 [n, behL now sp, behL si 0, idleL] = q := ⟨_, rfl⟩
    rw [hq8]
    clear hb3 HN
    refine hK.out _ _ ?_ (fun hHeld => ?_)
    · exact (G3).mono (Y := fun k => v6.ownBlock = some k) fun _ _ e => e.elim
    clear hK K
    try simp only [Act.put, List.setIfInBounds_toArray, List.set_cons_zero, List.set_cons_succ]
    have HO8 := Lib.hid (run_one_t (P := Tryz.prog) (W := V3) W0.heap.size 26 26 9 i0 _ 1 16 Tryz.underlying26 hi0 hz0 hz1 hz2 rfl (by decide) v6 L6.length (L6.map encT) (ownT_fr HO6.out G3 fun _ _ e => e) #[.string (bs q8)] rfl (by intro u hu; simp at hu; subst hu; rfl) (by omega) (by decide) ((HF6.out.trans G3).size))
    refine wpAnyH_one (i := 14) (o := { dst := some 87, op := Go.Op.buildSlice 26 1 #[(0, Go.Operand.tmp 86)], type := 26, pos := "person.go:70", after := #[{ on := 13, ground := Go.Ground.data }], guard := none }) (by kernel_rfl) rfl (by rfl) (fun K hK => ?_)
    go_simp
    refine hK.out _ _ ?_ (fun hHeld => ?_)
    · exact ((G3.alloc _)).mono (Y := fun k => v6.ownBlock = some k) fun _ _ e => e.elim
    clear hK K
    try simp only [Act.put, List.setIfInBounds_toArray, List.set_cons_zero, List.set_cons_succ]
    refine wpAnyH_one (i := 15) (o := { dst := some 88, op := Go.Op.call { callee := Go.Callee.builtin Go.Builtin.append, args := #[Go.Operand.tmp 73, Go.Operand.tmp 87], argTypes := #[26, 26] }, type := 26, pos := "person.go:70", after := #[{ on := 0, ground := Go.Ground.data }, { on := 14, ground := Go.Ground.data }, { on := 13, ground := Go.Ground.chain }], guard := none }) (by kernel_rfl) rfl (by rfl) (fun K hK => ?_)
    obtain ⟨v9, W9, hr9, hown9, hfr9, htie9⟩ := HO8.out
    have hfrA : Fr (fun k => v6.ownBlock = some k) W6 W9 := ((G3).mono (Y := fun k => v6.ownBlock = some k) fun _ _ e => e.elim).trans3 hfr9 fun _ _ e => e
    refine wp_app_run _ _ _ _ rfl (v := v9) (W' := W9) (by exact hr9) ?_
    refine hK.out _ _ ?_ (fun hHeld => ?_)
    · exact hfrA
    clear hK K
    try simp only [Act.put, List.setIfInBounds_toArray, List.set_cons_zero, List.set_cons_succ]
    refine wpAnyH_read (i := 16) (oi := { dst := some 10, op := Go.Op.assign (Go.Operand.tmp 88), type := 26, pos := "person.go:70", after := #[{ on := 15, ground := Go.Ground.data }, { on := 15, ground := Go.Ground.chain }, { on := 0, ground := Go.Ground.phase }, { on := 1, ground := Go.Ground.phase }, { on := 2, ground := Go.Ground.phase }, { on := 3, ground := Go.Ground.phase }, { on := 4, ground := Go.Ground.phase }, { on := 5, ground := Go.Ground.phase }, { on := 6, ground := Go.Ground.phase }, { on := 7, ground := Go.Ground.phase }, { on := 8, ground := Go.Ground.phase }, { on := 9, ground := Go.Ground.phase }, { on := 10, ground := Go.Ground.phase }, { on := 11, ground := Go.Ground.phase }, { on := 12, ground := Go.Ground.phase }, { on := 13, ground := Go.Ground.phase }, { on := 14, ground := Go.Ground.phase }, { on := 15, ground := Go.Ground.phase }], guard := none }) ?_ rfl (by kernel_rfl) (by kernel_rfl) (by kernel_rfl) (fun _ _ _ h => h) (by rfl) (by assumption) ?_ ?_
    rotate_left
    · (intro w0 hS0; go_simp <;> (try with_reducible rfl))
    try simp only [Act.put, List.setIfInBounds_toArray, List.set_cons_zero, List.set_cons_succ]
    refine wpAnyH_done (by kernel_rfl) ?_ _
    have HFin : Hid (Fr (fun _ => False) w W9) := Lib.hid ((HF0.out.trans HF6.out).trans3 hfrA fun k hk e => by have := (HO6.out.lt k e).1; have := HF0.out.size; omega)
    have HO9 : Hid (OwnT W0.heap.size W9 v9 (L6 ++ [q8])) := Lib.hid (ownT_snoc hown9)
    obtain ⟨L9, hL9⟩ : ∃ L, L6 ++ [q8] = L := ⟨_, rfl⟩
    rw [hL9] at HO9
    first
      | (have hres : whoisL server whom n u h r y true sp si now ws = L9 := by (unfold whoisL; rw [hq8, ← HL3.out, ← HE4.out, ← HE5.out, ← HE6.out, hL9]))
      | (have hres : whoisL server whom n u h r y false sp si now ws = L9 := by (unfold whoisL; rw [hq8, ← HL3.out, ← HE4.out, ← HE5.out, ← HE6.out, hL9]))
    have HRes := Lib.hid hres
    obtain ⟨A9, c9, rfl⟩ := row_slice HO9.out
    clear hown9 hfr9 htie9 hfrA hr9 hL9 hres
    go_wp2_with fail
    go_ret
    rw [HRes.out]
    exact ⟨A9, ⟨c9, rfl⟩, reads_ownT HO9.out, HFin.out.below (by omega) fun _ _ e => e.elim⟩
end Go.Proofs.YtkbgpajconhgjaaGreatDoor
end
section
/- Layer 22: Whois, the document. -/
namespace Go.Proofs.YtkbgpajconhgjaaGreatDoor
open Go Go.RowKit

set_option maxRecDepth 100000 in
set_option maxHeartbeats 16000000 in
theorem whois_r (server whom n u h r y : List UInt8) (id si sp now : Int) (o d : Bool) (ws : List (List UInt8)) (w : World) (Aw : Option Addr) (cw : Nat) (hRw : ReadsT w Aw ws)
    (hsv : server.length ≤ 100) (hwh : whom.length ≤ 100) (hwn : whom ≠ []) (hn : n.length ≤ 200) (hu : u.length ≤ 200) (hh : h.length ≤ 200) (hr : r.length ≤ 200) (hy : y.length ≤ 200) (hx : ∀ x ∈ ws, x.length ≤ 500) (hxl : ws.length ≤ 900) (hnow : -1099511627776 ≤ now ∧ now ≤ 1099511627776) (hsp : -1099511627776 ≤ sp ∧ sp ≤ 1099511627776) (hsi : -9223372036854775808 ≤ si ∧ si ≤ 9223372036854775807) :
    Calls Tryz.prog 11 #[.string (bs server), .string (bs whom), per id (bs n) (bs u) (bs h) (bs r) (bs y) o d si sp, .slice Aw ws.length cw, .int .i64 now] w fun e w' => ∃ A c, e = .returned (.slice A (whoisL server whom n u h r y o sp si now ws).length c) ∧ ReadsT w' A (whoisL server whom n u h r y o sp si now ws) ∧ Below w.heap.size w w' := by
  unfold per
  obtain ⟨i0, hi0, hz0, hz1, hz2⟩ := info_parts Tryz.infoT
  obtain ⟨N, hN⟩ : ∃ N, w.heap.size = N := ⟨_, rfl⟩
  obtain ⟨W0, hW0⟩ : ∃ W, w.alloc (.cells #[.int .i64 id, .string (bs n), .string (bs u), .string (bs h), .string (bs r), .string (bs y), .bool o, .bool d, .int .i64 si, .int .i64 sp] 23) = W := ⟨_, rfl⟩
  have k1 : W0.heap[N]? = some (.cells #[.int .i64 id, .string (bs n), .string (bs u), .string (bs h), .string (bs r), .string (bs y), .bool o, .bool d, .int .i64 si, .int .i64 sp] 23 (0, 0)) := by rw [← hW0, ← hN]; exact heap_alloc_new w _
  have f0 : Fr (fun _ => False) w W0 := by rw [← hW0]; exact (Fr.refl _ w).alloc _
  have HF0 := Lib.hid f0
  have HP := Lib.hid (per_box k1)
  have hsv2 : server.length ≤ 1000 := by omega
  have hwh2 : whom.length ≤ 1000 := by omega
  obtain ⟨z, hz⟩ : ∃ z, (bs y).toList.isEmpty = z := ⟨_, rfl⟩
  have HZ : Hid (z = decide (y = [])) := Lib.hid (by rw [← hz]; exact emp_iff y)
  have HRw : Hid (∀ W, Fr (fun _ => False) W0 W → ReadsT W Aw ws) := Lib.hid fun W hf => readsT_fr0 (readsT_fr0 hRw f0) hf
  have HN311 := Lib.hid (num_r (n := 311) (k := 5) server whom [n, u, h, [42], r] W0 _ rfl rfl (by decide) (by decide) (by decide) hsv2 hwh2 (whowas_all hn hu hh hr))
  obtain ⟨c0, c1, c2, c3, c4, c5, c6, c7, c8, c9⟩ := HP.out W0 (Fr.refl _ _)
  clear f0 k1 hRw
  go_enter Tryz.func11, Tryz.ntmps11
  go_wp2_with fail
  try rw [hW0]
  refine HN311.out.mono ?_
  rintro e w1 ⟨rfl, hb1⟩
  have F1 : Hid (Fr (fun _ => False) W0 w1) := Lib.hid (Fr.of_below hb1)
  have F1b : Hid (Fr (fun _ => False) W0 (w1.alloc (.cells #[.string (bs (numL server whom 311 [n, u, h, [42], r]))] 9))) := Lib.hid (F1.out.alloc _)
  have HO1 : Hid (OwnT W0.heap.size (w1.alloc (.cells #[.string (bs (numL server whom 311 [n, u, h, [42], r]))] 9)) (.slice (some ⟨w1.heap.size, 0, none⟩) 1 1) [numL server whom 311 [n, u, h, [42], r]]) := Lib.hid (ownT_lit (xs := [numL server whom 311 [n, u, h, [42], r]]) F1.out.size (heap_alloc_new w1 _) (by simp))
  obtain ⟨q1, hq1⟩ : ∃ q, numL server whom 311 [n, u, h, [42], r] = q := ⟨_, rfl⟩
  rw [hq1] at HO1 F1b ⊢
  have HQ1 := Lib.hid hq1
  clear hb1 hq1 c0 c1 c2 c3 c4 c5 c6 c7 c8 c9
  obtain ⟨w2, hw2⟩ : ∃ W, w1.alloc (.cells #[.string (bs q1)] 9) = W := ⟨_, rfl⟩
  have hz2 : w1.heap.size + 1 = w2.heap.size := by rw [← hw2]; simp
  obtain ⟨v1, hv1⟩ : ∃ v, Value.slice (some ⟨w1.heap.size, 0, none⟩) 1 1 = v := ⟨_, rfl⟩
  have F2 : Hid (Fr (fun _ => False) W0 w2) := by rw [← hw2]; exact F1b
  have HO2 : Hid (OwnT W0.heap.size w2 v1 [q1]) := by rw [← hw2, ← hv1]; exact HO1
  clear HO1 F1b
  have HAh : Hid (aheadL server whom 319 [n] ≠ 0) := Lib.hid (by rw [ahead_eq hwn (long_ok hsv hwh hn).1]; exact (long_ok hsv hwh hn).2)
  by_cases hws : ws = []
  rotate_left
  focus
    have hq : (0 : Int) < ws.length := by have := List.length_pos_iff.2 hws; omega
    have HPk := Lib.hid (pack_r server whom 319 (some ⟨w2.heap.size, 0, none⟩) 1 [n] ws Aw cw (w2.alloc (.cells #[.string (bs n)] 9)) hwn (reads_new w2 [n] _ rfl (by simp)) (HRw.out _ (F2.out.alloc _)) hx (by omega) (by decide) (by decide) (by simp) (by omega) (by omega) (by intro p hp; rw [List.mem_singleton.1 hp]; omega) (long_ok hsv hwh hn).1)
    obtain ⟨c0, c1, c2, c3, c4, c5, c6, c7, c8, c9⟩ := HP.out w2 F2.out
    go_wp2_with fail
    try rw [hw2]
    try rw [hz2]
    try rw [hv1]
    clear hw2 hz2 hv1
    refine HPk.out.mono ?_
    rintro e x3 ⟨A8, k8, rfl, r8, b8⟩
    obtain ⟨pk, hpk⟩ : ∃ p, packL server whom 319 [n] ws = p := ⟨_, rfl⟩
    have hpl := packL_len server whom 319 [n] hx
    rw [hpk] at r8 hpl ⊢
    have hG : Fr (fun _ => False) w2 x3 := ((Fr.refl (fun _ => False) w2).alloc (.cells #[.string (bs n)] 9)).trans (Fr.of_below b8)
    have HOx : Hid (OwnT W0.heap.size x3 v1 [q1]) := Lib.hid (ownT_fr HO2.out hG fun _ _ e => e)
    have HFx : Hid (Fr (fun _ => False) W0 x3) := Lib.hid (F2.out.trans hG)
    have HSr := Lib.hid (srcT (c := k8) r8)
    clear r8 b8 hG c0 c1 c2 c3 c4 c5 c6 c7 c8 c9
    go_wp2_with (at_builtin; refine wpList_app_u rfl _ _ 26 26 rfl W0.heap.size 9 i0 _ 1 16 Tryz.underlying26 hi0 hz0 hz1 hz2 rfl v1 1 ([q1].map encT) rfl HOx.out (.slice A8 pk.length k8) pk.length (pk.map encT) rfl HSr.out (by omega) (by decide) HFx.out.size ?_)
    intro v3 W3 r9 f9 t9
    have HF3 : Hid (Fr (fun _ => False) W0 W3) := Lib.hid (HFx.out.trans3 f9 fun k hk e => by have := (HOx.out.lt k e).1; omega)
    have HO3 : Hid (OwnT W0.heap.size W3 v3 ([q1] ++ pk)) := Lib.hid (by unfold OwnT; rw [List.length_append, List.map_append]; exact r9)
    obtain ⟨L3, hL3⟩ : ∃ L, [q1] ++ pk = L := ⟨_, rfl⟩
    rw [hL3] at HO3
    have hl3 : L3.length ≤ 2000 + 3 := by rw [← hL3, List.length_append]; simp only [List.length_cons, List.length_nil]; omega
    have HL3 : Hid (L3 = [numL server whom 311 [n, u, h, [42], r]] ++ chanS server whom n ws) := Lib.hid (by rw [← hL3, show chanS server whom n ws = packL server whom 319 [n] ws from if_neg hws, HQ1.out, hpk])
    clear r9 f9 t9 hL3 hpk HSr HOx HFx HPk
  rotate_right
  focus
    have hq : ¬ (0 : Int) < ws.length := by rw [hws]; simp
    obtain ⟨W3, hW3⟩ : ∃ W, w2 = W := ⟨_, rfl⟩
    have HF3 : Hid (Fr (fun _ => False) W0 W3) := Lib.hid (by rw [← hW3]; exact F2.out)
    obtain ⟨v3, hv3⟩ : ∃ v, v1 = v := ⟨_, rfl⟩
    obtain ⟨L3, hL3⟩ : ∃ L, [q1] = L := ⟨_, rfl⟩
    have HO3 : Hid (OwnT W0.heap.size W3 v3 L3) := Lib.hid (by rw [← hW3, ← hv3, ← hL3]; exact HO2.out)
    have hl3 : L3.length ≤ 2000 + 3 := by rw [← hL3]; simp
    have HL3 : Hid (L3 = [numL server whom 311 [n, u, h, [42], r]] ++ chanS server whom n ws) := Lib.hid (by rw [← hL3, show chanS server whom n ws = [] from if_pos hws, HQ1.out]; rfl)
    rw [hW3] at hw2 hz2
    rw [hv3] at hv1
    clear hW3 hv3 hws hL3
  all_goals
    obtain ⟨c0, c1, c2, c3, c4, c5, c6, c7, c8, c9⟩ := HP.out W3 HF3.out
    have HN := Lib.hid (num_r (n := 312) (k := 3) server whom [n, server, rollL] W3 _ rfl rfl (by decide) (by decide) (by decide) hsv2 hwh2 (serv_all hn hsv))
    go_wp2_with fail
    try rw [hw2]
    try rw [hz2]
    try rw [hv1]
    try clear hw2 hz2 hv1
    refine HN.out.mono ?_
    rintro e wc ⟨rfl, hbc⟩
    obtain ⟨qc, hqc⟩ : ∃ q, numL server whom 312 [n, server, rollL] = q := ⟨_, rfl⟩
    rw [hqc]
    have HFx : Hid (Fr (fun _ => False) W0 wc) := Lib.hid (HF3.out.trans (Fr.of_below hbc))
    have HOx : Hid (OwnT W0.heap.size wc v3 L3) := Lib.hid (ownT_fr HO3.out (Fr.of_below (X := fun _ => False) hbc) fun _ _ e => e)
    have HQ := Lib.hid hqc
    clear hbc hqc c0 c1 c2 c3 c4 c5 c6 c7 c8 c9
    go_wp2_with (at_builtin; refine wpList_app_fr rfl _ _ 26 rfl W0.heap.size 9 i0 (.string ByteArray.empty) 1 16 Tryz.underlying26 hi0 hz0 hz1 hz2 rfl (by decide) v3 L3.length (L3.map encT) rfl HOx.out #[.string (bs qc)] wc.heap.size rfl rfl rfl (by intro u hu; simp at hu; subst hu; rfl) (by omega) (by decide) (HFx.out.size) ?_)
    intro v4 W4 hown hfr
    have HO4 := Lib.hid (ownT_snoc hown)
    have HF4 : Hid (Fr (fun _ => False) W0 W4) := Lib.hid (HFx.out.trans3 hfr fun k hk e => by have := (HOx.out.lt k e).1; omega)
    obtain ⟨L4, hL4⟩ : ∃ L, L3 ++ [qc] = L := ⟨_, rfl⟩
    rw [hL4] at HO4
    have hl4 : L4.length ≤ 2000 + 4 := by rw [← hL4, List.length_append]; simp only [List.length_cons, List.length_nil]; omega
    have HL4 := Lib.hid hL4
    clear hown hfr hL4 HOx HFx
    have HE4 : Hid (L4 = L3 ++ [numL server whom 312 [n, server, rollL]]) := Lib.hid (by rw [← HL4.out, ← HQ.out])
    clear HL4 HQ HN
  all_goals
    obtain ⟨c0, c1, c2, c3, c4, c5, c6, c7, c8, c9⟩ := HP.out W4 HF4.out
    cases z
    rotate_left
    focus
      have hyn : Hid (y = []) := Lib.hid (by have := HZ.out; simpa using this)
      obtain ⟨W5, hW5⟩ : ∃ W, W4 = W := ⟨_, rfl⟩
      have HF5 : Hid (Fr (fun _ => False) W0 W5) := Lib.hid (by rw [← hW5]; exact HF4.out)
      obtain ⟨v5, hv5⟩ : ∃ v, v4 = v := ⟨_, rfl⟩
      obtain ⟨L5, hL5⟩ : ∃ L, L4 = L := ⟨_, rfl⟩
      have HO5 : Hid (OwnT W0.heap.size W5 v5 L5) := Lib.hid (by rw [← hW5, ← hv5, ← hL5]; exact HO4.out)
      have hl5 : L5.length ≤ 2000 + 5 := by rw [← hL5]; omega
      have HE5 : Hid (L5 = L4 ++ awayS server whom n y) := Lib.hid (by rw [← hL5, show awayS server whom n y = [] from if_pos hyn.out, List.append_nil])
      rw [hW5, hv5]
      clear hW5 hv5 hL5 c0 c1 c2 c3 c4 c5 c6 c7 c8 c9
    rotate_left
    focus
      have hyn : Hid (y ≠ []) := Lib.hid (fun e => by have := HZ.out; rw [e] at this; cases this)
      have HN := Lib.hid (num_r (n := 301) (k := 2) server whom [n, y] W4 _ rfl rfl (by decide) (by decide) (by decide) hsv2 hwh2 (away_all hn hy))
      go_wp2_with fail
      refine HN.out.mono ?_
      rintro e wc ⟨rfl, hbc⟩
      obtain ⟨qc, hqc⟩ : ∃ q, numL server whom 301 [n, y] = q := ⟨_, rfl⟩
      rw [hqc]
      have HFx : Hid (Fr (fun _ => False) W0 wc) := Lib.hid (HF4.out.trans (Fr.of_below hbc))
      have HOx : Hid (OwnT W0.heap.size wc v4 L4) := Lib.hid (ownT_fr HO4.out (Fr.of_below (X := fun _ => False) hbc) fun _ _ e => e)
      have HQ := Lib.hid hqc
      clear hbc hqc c0 c1 c2 c3 c4 c5 c6 c7 c8 c9
      go_wp2_with (at_builtin; refine wpList_app_fr rfl _ _ 26 rfl W0.heap.size 9 i0 (.string ByteArray.empty) 1 16 Tryz.underlying26 hi0 hz0 hz1 hz2 rfl (by decide) v4 L4.length (L4.map encT) rfl HOx.out #[.string (bs qc)] wc.heap.size rfl rfl rfl (by intro u hu; simp at hu; subst hu; rfl) (by omega) (by decide) (HFx.out.size) ?_)
      intro v5 W5 hown hfr
      have HO5 := Lib.hid (ownT_snoc hown)
      have HF5 : Hid (Fr (fun _ => False) W0 W5) := Lib.hid (HFx.out.trans3 hfr fun k hk e => by have := (HOx.out.lt k e).1; omega)
      obtain ⟨L5, hL5⟩ : ∃ L, L4 ++ [qc] = L := ⟨_, rfl⟩
      rw [hL5] at HO5
      have hl5 : L5.length ≤ 2000 + 5 := by rw [← hL5, List.length_append]; simp only [List.length_cons, List.length_nil]; omega
      have HL5 := Lib.hid hL5
      clear hown hfr hL5 HOx HFx
      have HE5 : Hid (L5 = L4 ++ awayS server whom n y) := Lib.hid (by rw [← HL5.out, show awayS server whom n y = [numL server whom 301 [n, y]] from if_neg hyn.out, ← HQ.out])
      clear HL5 HQ HN
  all_goals
    obtain ⟨c0, c1, c2, c3, c4, c5, c6, c7, c8, c9⟩ := HP.out W5 HF5.out
    cases o
    focus
      obtain ⟨W6, hW6⟩ : ∃ W, W5 = W := ⟨_, rfl⟩
      have HF6 : Hid (Fr (fun _ => False) W0 W6) := Lib.hid (by rw [← hW6]; exact HF5.out)
      obtain ⟨v6, hv6⟩ : ∃ v, v5 = v := ⟨_, rfl⟩
      obtain ⟨L6, hL6⟩ : ∃ L, L5 = L := ⟨_, rfl⟩
      have HO6 : Hid (OwnT W0.heap.size W6 v6 L6) := Lib.hid (by rw [← hW6, ← hv6, ← hL6]; exact HO5.out)
      have hl6 : L6.length ≤ 2000 + 6 := by rw [← hL6]; omega
      have HE6 : Hid (L6 = L5 ++ operS server whom n false) := Lib.hid (by rw [← hL6, show operS server whom n false = [] from if_neg (by decide), List.append_nil])
      rw [hW6, hv6]
      clear hW6 hv6 hL6 c0 c1 c2 c3 c4 c5 c6 c7 c8 c9
    rotate_left
    focus
      have HN := Lib.hid (num_r (n := 313) (k := 2) server whom [n, operL] W5 #[.string (bs n), .string ({ data := #[105, 115, 32, 97, 110, 32, 73, 82, 67, 32, 111, 112, 101, 114, 97, 116, 111, 114] } : ByteArray)] rfl rfl (by decide) (by decide) (by decide) hsv2 hwh2 (oper_all hn))
      go_wp2_with fail
      refine HN.out.mono ?_
      rintro e wc ⟨rfl, hbc⟩
      obtain ⟨qc, hqc⟩ : ∃ q, numL server whom 313 [n, operL] = q := ⟨_, rfl⟩
      rw [hqc]
      have HFx : Hid (Fr (fun _ => False) W0 wc) := Lib.hid (HF5.out.trans (Fr.of_below hbc))
      have HOx : Hid (OwnT W0.heap.size wc v5 L5) := Lib.hid (ownT_fr HO5.out (Fr.of_below (X := fun _ => False) hbc) fun _ _ e => e)
      have HQ := Lib.hid hqc
      clear hbc hqc c0 c1 c2 c3 c4 c5 c6 c7 c8 c9
      go_wp2_with (at_builtin; refine wpList_app_fr rfl _ _ 26 rfl W0.heap.size 9 i0 (.string ByteArray.empty) 1 16 Tryz.underlying26 hi0 hz0 hz1 hz2 rfl (by decide) v5 L5.length (L5.map encT) rfl HOx.out #[.string (bs qc)] wc.heap.size rfl rfl rfl (by intro u hu; simp at hu; subst hu; rfl) (by omega) (by decide) (HFx.out.size) ?_)
      intro v6 W6 hown hfr
      have HO6 := Lib.hid (ownT_snoc hown)
      have HF6 : Hid (Fr (fun _ => False) W0 W6) := Lib.hid (HFx.out.trans3 hfr fun k hk e => by have := (HOx.out.lt k e).1; omega)
      obtain ⟨L6, hL6⟩ : ∃ L, L5 ++ [qc] = L := ⟨_, rfl⟩
      rw [hL6] at HO6
      have hl6 : L6.length ≤ 2000 + 6 := by rw [← hL6, List.length_append]; simp only [List.length_cons, List.length_nil]; omega
      have HL6 := Lib.hid hL6
      clear hown hfr hL6 HOx HFx
      have HE6 : Hid (L6 = L5 ++ operS server whom n true) := Lib.hid (by rw [← HL6.out, show operS server whom n true = [numL server whom 313 [n, operL]] from if_pos rfl, ← HQ.out])
      clear HL6 HQ HN
  all_goals
    obtain ⟨c0, c1, c2, c3, c4, c5, c6, c7, c8, c9⟩ := HP.out W6 HF6.out
    have HPS := Lib.hid (fun W (hS : Fr (fun k => v6.ownBlock = some k) W6 W) => HP.out W (HF6.out.trans3 hS fun k hk e => by have := (HO6.out.lt k e).1; omega))
    have hbl1 := beh_len now sp (by omega)
    have hbl2 := beh_len si 0 (by omega)
    have hsub : IntKind.i64.wrap (now - sp) = now - sp := by simp [IntKind.wrap, IntKind.signed, IntKind.bits]; omega
    go_wp2_with fail
    clear c0 c1 c2 c3 c4 c5 c6 c7 c8 c9
    refine wp_region_held_drew (S := fun W => Fr (fun k => v6.ownBlock = some k) W6 W) (by kernel_rfl) (by exact (Fr.refl _ W6).drew) (fun hHeld => ?_)
    refine wpAnyH_read (i := 0) (oi := { dst := some 72, op := Go.Op.move (Go.Operand.tmp 11), type := 26, pos := "ref.go:69", after := #[], guard := none }) ?_ rfl (by kernel_rfl) (by kernel_rfl) (by kernel_rfl) (fun _ _ _ h => h) (by rfl) (by assumption) ?_ ?_
    rotate_left
    · (intro w0 hS0; go_simp <;> (try with_reducible rfl))
    try simp only [Act.put, List.setIfInBounds_toArray, List.set_cons_zero, List.set_cons_succ]
    refine wpAnyH_read (i := 1) (oi := { dst := some 73, op := Go.Op.move (Go.Operand.tmp 0), type := 9, pos := "ref.go:69", after := #[], guard := none }) ?_ rfl (by kernel_rfl) (by kernel_rfl) (by kernel_rfl) (fun _ _ _ h => h) (by rfl) (by assumption) ?_ ?_
    rotate_left
    · (intro w0 hS0; go_simp <;> (try with_reducible rfl))
    try simp only [Act.put, List.setIfInBounds_toArray, List.set_cons_zero, List.set_cons_succ]
    refine wpAnyH_read (i := 2) (oi := { dst := some 74, op := Go.Op.move (Go.Operand.tmp 1), type := 9, pos := "ref.go:69", after := #[], guard := none }) ?_ rfl (by kernel_rfl) (by kernel_rfl) (by kernel_rfl) (fun _ _ _ h => h) (by rfl) (by assumption) ?_ ?_
    rotate_left
    · (intro w0 hS0; go_simp <;> (try with_reducible rfl))
    try simp only [Act.put, List.setIfInBounds_toArray, List.set_cons_zero, List.set_cons_succ]
    refine wpAnyH_read (i := 3) (oi := { dst := some 75, op := Go.Op.fieldAddr 23 (Go.Operand.tmp 7) 1, type := 0, pos := "ref.go:69", after := #[], guard := none }) ?_ rfl (by kernel_rfl) (by kernel_rfl) (by kernel_rfl) (fun _ _ _ h => h) (by rfl) (by assumption) ?_ ?_
    rotate_left
    · (intro w0 hS0; go_simp <;> (try with_reducible rfl))
    try simp only [Act.put, List.setIfInBounds_toArray, List.set_cons_zero, List.set_cons_succ]
    refine wpAnyH_read (i := 5) (oi := { dst := some 77, op := Go.Op.move (Go.Operand.tmp 4), type := 3, pos := "ref.go:69", after := #[], guard := none }) ?_ rfl (by kernel_rfl) (by kernel_rfl) (by kernel_rfl) (fun _ _ _ h => h) (by rfl) (by assumption) ?_ ?_
    rotate_left
    · (intro w0 hS0; go_simp <;> (try with_reducible rfl))
    try simp only [Act.put, List.setIfInBounds_toArray, List.set_cons_zero, List.set_cons_succ]
    refine wpAnyH_read (i := 6) (oi := { dst := some 78, op := Go.Op.fieldAddr 23 (Go.Operand.tmp 7) 9, type := 0, pos := "ref.go:69", after := #[], guard := none }) ?_ rfl (by kernel_rfl) (by kernel_rfl) (by kernel_rfl) (fun _ _ _ h => h) (by rfl) (by assumption) ?_ ?_
    rotate_left
    · (intro w0 hS0; go_simp <;> (try with_reducible rfl))
    try simp only [Act.put, List.setIfInBounds_toArray, List.set_cons_zero, List.set_cons_succ]
    refine wpAnyH_read (i := 10) (oi := { dst := some 82, op := Go.Op.fieldAddr 23 (Go.Operand.tmp 7) 8, type := 0, pos := "ref.go:69", after := #[], guard := none }) ?_ rfl (by kernel_rfl) (by kernel_rfl) (by kernel_rfl) (fun _ _ _ h => h) (by rfl) (by assumption) ?_ ?_
    rotate_left
    · (intro w0 hS0; go_simp <;> (try with_reducible rfl))
    try simp only [Act.put, List.setIfInBounds_toArray, List.set_cons_zero, List.set_cons_succ]
    refine wpAnyH_read (i := 4) (oi := { dst := some 76, op := Go.Op.load 9 (Go.Operand.tmp 75), type := 9, pos := "ref.go:69", after := #[{ on := 3, ground := Go.Ground.data }], guard := none }) ?_ rfl (by kernel_rfl) (by kernel_rfl) (by kernel_rfl) (fun _ _ _ h => h) (by rfl) (by assumption) ?_ ?_
    rotate_left
    · (intro w0 hS0; obtain ⟨c0, c1, c2, c3, c4, c5, c6, c7, c8, c9⟩ := HPS.out w0 hS0; go_simp <;> (try with_reducible rfl))
    try simp only [Act.put, List.setIfInBounds_toArray, List.set_cons_zero, List.set_cons_succ]
    refine wpAnyH_read (i := 7) (oi := { dst := some 79, op := Go.Op.load 3 (Go.Operand.tmp 78), type := 3, pos := "ref.go:69", after := #[{ on := 6, ground := Go.Ground.data }], guard := none }) ?_ rfl (by kernel_rfl) (by kernel_rfl) (by kernel_rfl) (fun _ _ _ h => h) (by rfl) (by assumption) ?_ ?_
    rotate_left
    · (intro w0 hS0; obtain ⟨c0, c1, c2, c3, c4, c5, c6, c7, c8, c9⟩ := HPS.out w0 hS0; go_simp <;> (try with_reducible rfl))
    try simp only [Act.put, List.setIfInBounds_toArray, List.set_cons_zero, List.set_cons_succ]
    refine wpAnyH_read (i := 8) (oi := { dst := some 80, op := Go.Op.binOp Go.BinOp.sub 3 (Go.Operand.tmp 77) (Go.Operand.tmp 79) 3, type := 3, pos := "ref.go:69", after := #[{ on := 5, ground := Go.Ground.data }, { on := 7, ground := Go.Ground.data }], guard := none }) ?_ rfl (by kernel_rfl) (by kernel_rfl) (by kernel_rfl) (fun _ _ _ h => h) (by rfl) (by assumption) ?_ ?_
    rotate_left
    · (intro w0 hS0; go_simp <;> (try with_reducible rfl))
    try simp only [Act.put, List.setIfInBounds_toArray, List.set_cons_zero, List.set_cons_succ]
    refine wpAnyH_read (i := 11) (oi := { dst := some 83, op := Go.Op.load 3 (Go.Operand.tmp 82), type := 3, pos := "ref.go:69", after := #[{ on := 10, ground := Go.Ground.data }], guard := none }) ?_ rfl (by kernel_rfl) (by kernel_rfl) (by kernel_rfl) (fun _ _ _ h => h) (by rfl) (by assumption) ?_ ?_
    rotate_left
    · (intro w0 hS0; obtain ⟨c0, c1, c2, c3, c4, c5, c6, c7, c8, c9⟩ := HPS.out w0 hS0; go_simp <;> (try with_reducible rfl))
    try simp only [Act.put, List.setIfInBounds_toArray, List.set_cons_zero, List.set_cons_succ]
    refine wpAnyH_one (i := 9) (o := { dst := some 81, op := Go.Op.call { callee := Go.Callee.value (Go.Operand.func 26), args := #[Go.Operand.tmp 80], argTypes := #[3] }, type := 9, pos := "ref.go:69", after := #[{ on := 8, ground := Go.Ground.data }], guard := none }) (by kernel_rfl) rfl (by rfl) (fun K hK => ?_)
    go_simp
    have HB1 := number_r (now - sp) (by omega) W6.drew
    rw [beh_zero] at HB1
    refine HB1.mono ?_
    rintro e9 V1 ⟨rfl, hb1⟩
    have G1 : Fr (fun _ => False) W6 V1 := ((Fr.refl (fun _ => False) W6).drew).trans (Fr.of_below hb1)
    clear hb1 HB1
    refine hK.out _ _ ?_ (fun hHeld => ?_)
    · exact (G1).mono (Y := fun k => v6.ownBlock = some k) fun _ _ e => e.elim
    clear hK K
    try simp only [Act.put, List.setIfInBounds_toArray, List.set_cons_zero, List.set_cons_succ]
    refine wpAnyH_one (i := 12) (o := { dst := some 84, op := Go.Op.call { callee := Go.Callee.value (Go.Operand.func 26), args := #[Go.Operand.tmp 83], argTypes := #[3] }, type := 9, pos := "ref.go:69", after := #[{ on := 11, ground := Go.Ground.data }, { on := 9, ground := Go.Ground.chain }], guard := none }) (by kernel_rfl) rfl (by rfl) (fun K hK => ?_)
    go_simp
    refine (number_r si (by omega) V1).mono ?_
    rintro e9 V2 ⟨rfl, hb2⟩
    have G2 : Fr (fun _ => False) W6 V2 := G1.trans (Fr.of_below hb2)
    clear hb2
    refine hK.out _ _ ?_ (fun hHeld => ?_)
    · exact (G2).mono (Y := fun k => v6.ownBlock = some k) fun _ _ e => e.elim
    clear hK K
    try simp only [Act.put, List.setIfInBounds_toArray, List.set_cons_zero, List.set_cons_succ]
    refine wpAnyH_one (i := 13) (o := { dst := some 85, op := Go.Op.buildSlice 26 4 #[(0, Go.Operand.tmp 76), (1, Go.Operand.tmp 81), (2, Go.Operand.tmp 84), (3, Go.Operand.const (Go.Value.string { data := #[115, 101, 99, 111, 110, 100, 115, 32, 105, 100, 108, 101, 44, 32, 115, 105, 103, 110, 111, 110, 32, 116, 105, 109, 101] }))], type := 26, pos := "ref.go:69", after := #[{ on := 4, ground := Go.Ground.data }, { on := 9, ground := Go.Ground.data }, { on := 12, ground := Go.Ground.data }], guard := none }) (by kernel_rfl) rfl (by rfl) (fun K hK => ?_)
    go_simp
    refine hK.out _ _ ?_ (fun hHeld => ?_)
    · exact ((G2.alloc _)).mono (Y := fun k => v6.ownBlock = some k) fun _ _ e => e.elim
    clear hK K
    try simp only [Act.put, List.setIfInBounds_toArray, List.set_cons_zero, List.set_cons_succ]
    refine wpAnyH_one (i := 14) (o := { dst := some 86, op := Go.Op.call { callee := Go.Callee.value (Go.Operand.func 17), args := #[Go.Operand.tmp 73, Go.Operand.const (Go.Value.int Go.IntKind.i64 317), Go.Operand.tmp 74, Go.Operand.tmp 85], argTypes := #[9, 3, 9, 26] }, type := 9, pos := "ref.go:69", after := #[{ on := 1, ground := Go.Ground.data }, { on := 2, ground := Go.Ground.data }, { on := 13, ground := Go.Ground.data }, { on := 12, ground := Go.Ground.chain }], guard := none }) (by kernel_rfl) rfl (by rfl) (fun K hK => ?_)
    go_simp
    have HN := num_r (n := 317) (k := 4) server whom [n, behL now sp, behL si 0, idleL] V2 #[.string (bs n), .string (bs (behL now sp)), .string (bs (behL si 0)), .string ({ data := #[115, 101, 99, 111, 110, 100, 115, 32, 105, 100, 108, 101, 44, 32, 115, 105, 103, 110, 111, 110, 32, 116, 105, 109, 101] } : ByteArray)] rfl rfl (by decide) (by decide) (by decide) hsv2 hwh2 (idle_all hn hbl1 hbl2)
    refine HN.mono ?_
    rintro e9 V3 ⟨rfl, hb3⟩
    have G3 : Fr (fun _ => False) W6 V3 := G2.trans (Fr.of_below hb3)
    obtain ⟨q8, hq8⟩ : ∃ q, numL server whom 317 [n, behL now sp, behL si 0, idleL] = q := ⟨_, rfl⟩
    rw [hq8]
    clear hb3 HN
    refine hK.out _ _ ?_ (fun hHeld => ?_)
    · exact (G3).mono (Y := fun k => v6.ownBlock = some k) fun _ _ e => e.elim
    clear hK K
    try simp only [Act.put, List.setIfInBounds_toArray, List.set_cons_zero, List.set_cons_succ]
    have HO8 := Lib.hid (run_one_t (P := Tryz.prog) (W := V3) W0.heap.size 26 26 9 i0 _ 1 16 Tryz.underlying26 hi0 hz0 hz1 hz2 rfl (by decide) v6 L6.length (L6.map encT) (ownT_fr HO6.out G3 fun _ _ e => e) #[.string (bs q8)] rfl (by intro u hu; simp at hu; subst hu; rfl) (by omega) (by decide) ((HF6.out.trans G3).size))
    refine wpAnyH_one (i := 15) (o := { dst := some 87, op := Go.Op.buildSlice 26 1 #[(0, Go.Operand.tmp 86)], type := 26, pos := "ref.go:69", after := #[{ on := 14, ground := Go.Ground.data }], guard := none }) (by kernel_rfl) rfl (by rfl) (fun K hK => ?_)
    go_simp
    refine hK.out _ _ ?_ (fun hHeld => ?_)
    · exact ((G3.alloc _)).mono (Y := fun k => v6.ownBlock = some k) fun _ _ e => e.elim
    clear hK K
    try simp only [Act.put, List.setIfInBounds_toArray, List.set_cons_zero, List.set_cons_succ]
    refine wpAnyH_one (i := 16) (o := { dst := some 88, op := Go.Op.call { callee := Go.Callee.builtin Go.Builtin.append, args := #[Go.Operand.tmp 72, Go.Operand.tmp 87], argTypes := #[26, 26] }, type := 26, pos := "ref.go:69", after := #[{ on := 0, ground := Go.Ground.data }, { on := 15, ground := Go.Ground.data }, { on := 14, ground := Go.Ground.chain }], guard := none }) (by kernel_rfl) rfl (by rfl) (fun K hK => ?_)
    obtain ⟨v9, W9, hr9, hown9, hfr9, htie9⟩ := HO8.out
    have hfrA : Fr (fun k => v6.ownBlock = some k) W6 W9 := ((G3).mono (Y := fun k => v6.ownBlock = some k) fun _ _ e => e.elim).trans3 hfr9 fun _ _ e => e
    refine wp_app_run _ _ _ _ rfl (v := v9) (W' := W9) (by exact hr9) ?_
    refine hK.out _ _ ?_ (fun hHeld => ?_)
    · exact hfrA
    clear hK K
    try simp only [Act.put, List.setIfInBounds_toArray, List.set_cons_zero, List.set_cons_succ]
    refine wpAnyH_read (i := 17) (oi := { dst := some 10, op := Go.Op.assign (Go.Operand.tmp 88), type := 26, pos := "ref.go:69", after := #[{ on := 16, ground := Go.Ground.data }, { on := 16, ground := Go.Ground.chain }, { on := 0, ground := Go.Ground.phase }, { on := 1, ground := Go.Ground.phase }, { on := 2, ground := Go.Ground.phase }, { on := 3, ground := Go.Ground.phase }, { on := 4, ground := Go.Ground.phase }, { on := 5, ground := Go.Ground.phase }, { on := 6, ground := Go.Ground.phase }, { on := 7, ground := Go.Ground.phase }, { on := 8, ground := Go.Ground.phase }, { on := 9, ground := Go.Ground.phase }, { on := 10, ground := Go.Ground.phase }, { on := 11, ground := Go.Ground.phase }, { on := 12, ground := Go.Ground.phase }, { on := 13, ground := Go.Ground.phase }, { on := 14, ground := Go.Ground.phase }, { on := 15, ground := Go.Ground.phase }, { on := 16, ground := Go.Ground.phase }], guard := none }) ?_ rfl (by kernel_rfl) (by kernel_rfl) (by kernel_rfl) (fun _ _ _ h => h) (by rfl) (by assumption) ?_ ?_
    rotate_left
    · (intro w0 hS0; go_simp <;> (try with_reducible rfl))
    try simp only [Act.put, List.setIfInBounds_toArray, List.set_cons_zero, List.set_cons_succ]
    refine wpAnyH_done (by kernel_rfl) ?_ _
    have HFin : Hid (Fr (fun _ => False) w W9) := Lib.hid ((HF0.out.trans HF6.out).trans3 hfrA fun k hk e => by have := (HO6.out.lt k e).1; have := HF0.out.size; omega)
    have HO9 : Hid (OwnT W0.heap.size W9 v9 (L6 ++ [q8])) := Lib.hid (ownT_snoc hown9)
    obtain ⟨L9, hL9⟩ : ∃ L, L6 ++ [q8] = L := ⟨_, rfl⟩
    rw [hL9] at HO9
    first
      | (have hres : whoisL server whom n u h r y true sp si now ws = L9 := by (unfold whoisL; rw [hq8, ← HL3.out, ← HE4.out, ← HE5.out, ← HE6.out, hL9]))
      | (have hres : whoisL server whom n u h r y false sp si now ws = L9 := by (unfold whoisL; rw [hq8, ← HL3.out, ← HE4.out, ← HE5.out, ← HE6.out, hL9]))
    have HRes := Lib.hid hres
    obtain ⟨A9, c9, rfl⟩ := row_slice HO9.out
    clear hown9 hfr9 htie9 hfrA hr9 hL9 hres
    go_wp2_with fail
    go_ret
    rw [HRes.out]
    exact ⟨A9, ⟨c9, rfl⟩, reads_ownT HO9.out, HFin.out.below (by omega) fun _ _ e => e.elim⟩
end Go.Proofs.YtkbgpajconhgjaaGreatDoor
end
