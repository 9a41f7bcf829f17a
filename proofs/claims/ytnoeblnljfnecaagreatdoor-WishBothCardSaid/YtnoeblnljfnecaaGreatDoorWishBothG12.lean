/- Texts of this proof, one behind the other. -/
import Derived.Test.YtnoeblnljfnecaaGreatDoorWishBothG11
import Derived.Test.YtnoeblnljfnecaaGreatDoorWishBothG4
import Derived.Test.YtnoeblnljfnecaaGreatDoorWishBothG9
import Derived.Test.YtnoeblnljfnecaaGreatDoorWishBothG7
import Derived.Laws.Entries
import Derived.WalkKit
section
/- Layer 21: the lists: Of. -/
namespace Go.Proofs.YtnoeblnljfnecaaGreatDoor
set_option linter.unusedVariables false
set_option linter.unusedSimpArgs false
open Go Go.RowKit Go.Maps Go.Lib
attribute [local go_sem] Oper.semAt_some

/-- how far Of has come: a box with a row of names, as many as were told -/
def OfsJ (S base : Nat) (ns : List (List UInt8)) (pre : List (List UInt8)) (X : Nat → Prop) (W : World) : Prop := ∃ v, W.heap[S]? = some (.cells #[v] 38 (0, 0)) ∧ OwnT base W v (ns.take pre.length) ∧ S < base ∧ ∀ k, X k ↔ (k = S ∨ v.ownBlock = some k)
theorem ofsJ_stays (S base : Nat) (ns : List (List UInt8)) : Stays (OfsJ S base ns) := fun pre X V V' ⟨v, h1, h2, h3, h4⟩ hl hf =>
  ⟨v, hf.blk h1 (fun e => e ((h4 S).2 (.inl rfl))), ownT_kept h2 fun g hg => hf.block g (h2.lt g hg).2 fun e => e ((h4 g).2 (.inr hg)), h3, h4⟩
theorem names_fk {U : List WEnt} {a : Int} {ns D : List (List UInt8)} (h : NamesW U a ns) (d1 : D.Pairwise (· < ·)) (d2 : ∀ f, f ∈ D ↔ (a, f) ∈ U.map fkW) : D = ns.map foldL :=
  up_extS d1 h.up fun f => (d2 f).trans (by
    simp only [List.mem_map]
    constructor
    · rintro ⟨u, hu, e⟩
      unfold fkW at e
      obtain ⟨e1, e2⟩ := Prod.mk.inj e
      exact ⟨u.2, (h.mem _).2 (by rw [← e1]; exact hu), e2⟩
    · rintro ⟨n, hn, rfl⟩; exact ⟨(a, n), (h.mem n).1 hn, rfl⟩)
theorem names_at {ns : List (List UInt8)} {pre : List (List UInt8)} {x : List UInt8} {r : List (List UInt8)} (h : pre ++ x :: r = ns.map foldL) : ∃ n, n ∈ ns ∧ x = foldL n ∧ ns.take (pre.length + 1) = ns.take pre.length ++ [n] ∧ pre.length + 1 ≤ ns.length := by
  have hl := congrArg List.length h
  simp only [List.length_append, List.length_cons, List.length_map] at hl
  have hlt : pre.length < ns.length := by omega
  refine ⟨ns[pre.length], List.getElem_mem hlt, ?_, (List.take_succ_eq_append_getElem hlt), hlt⟩
  have h2 : (pre ++ x :: r)[pre.length]? = some x := by simp
  rw [h, List.getElem?_map, List.getElem?_eq_getElem hlt] at h2
  exact (Option.some.inj h2).symm
set_option maxRecDepth 100000 in
set_option maxHeartbeats 16000000 in
theorem wisOf {base : Nat} {w : World} {l : Nat} {Y : Nat → Prop} {most : Int} {U : List WEnt} (h : WisAt base w l Y most U) (hU : U.length ≤ 80000) {a : Int} (ha : OkKIS a) {ns : List (List UInt8)} (hns : NamesW U a ns) :
    Calls Tryz.prog 35 #[.pointer (some ⟨l, 0, none⟩), .int .i64 a] w (AllPS ns w) := by
  obtain ⟨i0, iz, iz0, iz1, iz2⟩ := info_parts Tryz.infoT
  obtain ⟨t, b, X, T, h1, h2, h3, h4, h5, h6, h7, h8, h9, h10, h11⟩ := h
  have ha2 : (Lit.int .i64 a).wf = true := ha
  obtain ⟨w1, hw1⟩ : ∃ w1, ((w.alloc (Obj.cells #[Value.pointer (some ⟨l, 0, none⟩)] 25)).alloc (Obj.cells #[Value.int .i64 a] 3)).alloc (Obj.cells #[Value.slice none 0 0] 38) = w1 := ⟨_, rfl⟩
  have f1 : Fr (fun _ => False) w w1 := by rw [← hw1]; exact (((Fr.refl _ w).alloc _).alloc _).alloc _
  have z1 : w1.heap.size = w.heap.size + 3 := by rw [← hw1]; simp
  obtain ⟨B, hB⟩ : ∃ B, w.heap.size = B := ⟨_, rfl⟩
  rw [hB] at z1
  have k0 : w1.heap[B]? = some (.cells #[.pointer (some ⟨l, 0, none⟩)] 25 (0, 0)) := by rw [← hw1, ← hB]; exact blk_alloc (blk_alloc (heap_alloc_new w _) _) _
  have k1 : w1.heap[B + 1]? = some (.cells #[.int .i64 a] 3 (0, 0)) := by rw [← hw1, ← hB]; exact blk_alloc (heap_alloc2_new w _ _) _
  have k2 : w1.heap[B + 2]? = some (.cells #[.slice none 0 0] 38 (0, 0)) := by rw [← hw1, ← hB]; have := heap_alloc2_new (w.alloc (Obj.cells #[Value.pointer (some ⟨l, 0, none⟩)] 25)) (Obj.cells #[Value.int .i64 a] 3) (Obj.cells #[Value.slice none 0 0] 38); rwa [World.size_alloc] at this
  have hlB : l < B := by rw [← hB]; exact blk_lt h4
  have hbB : b < B := by rw [← hB]; exact ownMW_lt h6
  have r1 := h5.fr f1 fun _ _ e => e
  have kl := f1.blk h4 fun e => e
  have m1 := ownMW_same h6 (f1.block b (ownMW_lt h6) fun e => e)
  obtain ⟨D, d1, d2, d3, d4⟩ := ofAtIS r1 (by simpa using (by omega : U.length ≤ 100000)) ha
  have hDl : D.length ≤ 80000 := by rw [List.length_map] at d3; omega
  obtain rfl := names_fk hns d1 d2
  have hnl : ns.length ≤ 80000 := by simpa using hDl
  have HBX : Hid (∀ V, Fr (fun _ => False) w1 V → V.cell? ⟨B, 0, none⟩ = some (.pointer (some ⟨l, 0, none⟩)) ∧ V.cell? ⟨B + 1, 0, none⟩ = some (.int .i64 a) ∧ V.heap[l]? = some (.cells #[.pointer (some ⟨t, 0, none⟩), .map (some b)] 62 (0, 0))) := fun V hV => ⟨blk_cell (hV.blk k0 fun e => e) 0, blk_cell (hV.blk k1 fun e => e) 0, hV.blk kl fun e => e⟩
  have HOf := Lib.hid d4
  have HW := Lib.hid hw1
  have HBB := Lib.hid hB
  have H := Lib.hid (And.intro h3 (And.intro h7 (And.intro h10 (And.intro f1 (And.intro z1 (And.intro k0 (And.intro k1 (And.intro k2 (And.intro kl (And.intro m1 (And.intro hlB (And.intro hbB (And.intro hnl hns)))))))))))))
  clear h1 h2 h3 h4 h5 h6 h7 h8 h9 h10 h11 f1 z1 k0 k1 k2 kl r1 m1 d1 d2 d3 d4 hDl hnl hw1 hB hlB hbB hns
  refine (callsIn_wide (n := 30)).1 ?_
  refine callsIn_of_wp_marks Tryz.func35 rfl trivial ?_ rfl
  simp only [Tryz.ntmps35, List.size_toArray, List.length_cons, List.length_nil, Nat.reduceAdd, Nat.reduceSub, Array.replicate_succ, Array.replicate_zero, List.push_toArray, List.append_toArray, List.nil_append, List.cons_append]
  gi_wp2_with fail
  rw [HW.out, HBB.out]
  refine wpIn_class_tail (C := fun W => Fr (fun _ => False) w1 W) 3 (by kernel_rfl) (by kernel_rfl) (by kernel_rfl) ((Fr.refl (fun _ => False) w1).drew) ?_
  simp only [List.take_succ_cons, List.take_zero, List.drop_succ_cons, List.drop_zero]
  refine quiet_step_w (fun _ => trivial) (fun K hK => ?_)
  go_simp
  refine ⟨.pointer (some ⟨l, 0, none⟩), fun W hW => ?_, hK _ ?_⟩
  · obtain ⟨s0, s1, s2⟩ := HBX.out W hW; go_simp
  clear hK K
  refine quiet_step_w (fun _ => trivial) (fun K hK => ?_)
  go_simp
  refine ⟨.pointer (some ⟨t, 0, none⟩), fun W hW => ?_, hK _ ?_⟩
  · refine (calls_wide (.inl rfl) (wisRel (HBX.out W hW).2.2)).mono ?_
    rintro e W2 ⟨rfl, rfl⟩; exact ⟨rfl, hW⟩
  clear hK K
  refine quiet_step_w (fun _ => trivial) (fun K hK => ?_)
  go_simp
  refine ⟨.int .i64 a, fun W hW => ?_, hK _ ?_⟩
  · obtain ⟨s0, s1, s2⟩ := HBX.out W hW; go_simp
  clear hK K
  refine wpQuietIn_nil ?_
  intro V1 hV1
  have HV1 := Lib.hid hV1
  clear hV1
  gi_wp2_with fail
  refine ⟨trivial, (calls_wide (.inl rfl) (HOf.out V1 HV1.out)).mono ?_⟩
  rintro e w2 ⟨⟨F, rfl, hT⟩, hb2⟩
  have f2 : Fr (fun _ => False) w1 w2 := HV1.out.trans (Fr.of_below hb2)
  obtain ⟨Yt, hYb, gf, lb, rfl, hseq, hYl, heg⟩ := tellsT_tale (show TaleT V1.heap.size w2 F (ns.map foldL) from hT) (by have := H.out.2.2.2.2.2.2.2.2.2.2.2.2.1; simp; omega)
  have hz2 := HV1.out.size
  have K := Lib.hid (And.intro f2 (And.intro hYb (And.intro hseq (And.intro hYl (And.intro heg hz2)))))
  clear f2 hb2 hT hYb hseq hYl heg hz2
  gi_wp2_with fail
  obtain ⟨h3, h7, h10, f1, z1, k0, k1, k2, kl, m1, hlB, hbB, hnl, hns⟩ := H.out
  obtain ⟨f2, hYb, hseq, hYl, heg, hz2⟩ := K.out
  have hz21 := f2.size
  refine wpIn_rangeF (X := fun k => k = B + 2) (Y := Yt) (xs := ns.map foldL) (encs := encL) (gf := gf) (lb := lb) (OfsJ (B + 2) (B + 3) ns) (fun _ _ _ _ => False)
    rfl hseq (fun k hk => ⟨by omega, fun e => by have := hYb k e; omega⟩) hYl (by omega) heg (fun _ => rfl)
    (ofsJ_stays _ _ _) (fun c s X1 V1 V2 h => h.elim) ⟨_, f2.blk k2 (fun e => e), ownT_nil _ _, by omega, fun k => by simp [Value.ownBlock]⟩ ?round ?done (fun _ _ _ _ _ _ _ _ _ _ _ h => h.elim)
  case round =>
    rintro lp pre x r X1 V KK rb hl2 hpx hI hG2 hxl hF hlV hK
    dsimp only [encL]
    have HK := Lib.hid hK
    have HV := Lib.hid (And.intro hpx (And.intro hI (And.intro hG2 (And.intro hxl (And.intro hF (And.intro hlV hl2))))))
    clear hK hpx hI hG2 hxl hF hlV hl2 h3 h7 h10 f1 z1 k0 k1 k2 kl m1 hlB hbB hnl hns f2 hYb hseq hYl heg hz2 hz21
    gi_wp2_with fail
    refine HK.out _ _ (Fr.refl _ _) fun Vb hfb hzb hsb hrb => ?_
    clear HK KK
    obtain ⟨hpx, ⟨vb, k3, o3, hSl, hX1⟩, hG2, hxl, hF, hlV, hl2⟩ := HV.out
    obtain ⟨h3, h7, h10, f1, z1, k0, k1, k2, kl, m1, hlB, hbB, hnl, hns⟩ := H.out
    obtain ⟨f2, hYb, hseq, hYl, heg, hz2⟩ := K.out
    have hz21 := f2.size
    obtain ⟨n, hn1, rfl, hn2, hn3⟩ := names_at hpx
    have hnU := (hns.mem n).1 hn1
    have hnk : (foldL n).length ≤ maxLen := by have := (h10 _ hnU).2; unfold maxLen; simp at this ⊢; omega
    have hlb : ¬ b = lp := fun e => by have := hl2; omega
    have hmb : OwnMW Vb b T := ownMW_same m1 ((hfb.block b (by omega) hlb).trans ((hF.block b (by omega) (by omega)).trans (f2.block b (by omega) fun e => e)))
    have k3b := hfb.blk k3 (by omega : ¬ B + 2 = lp)
    have o3b : OwnT (B + 3) Vb vb (ns.take pre.length) := ownT_kept o3 fun g hg => hfb.block g (o3.lt g hg).2 fun e => hxl ((hX1 lp).2 (.inr (e ▸ hg)))
    have hpt : (ns.take pre.length).length = pre.length := by rw [List.length_take]; omega
    have hzs : Vb.heap.size = V.heap.size := hzb
    have hbz : B + 3 ≤ Vb.heap.size := by omega
    have hor : Vb.ownsRow (B + 3) 9 1 vb pre.length ((ns.take pre.length).map encT) := by
      have h0 := o3b; unfold OwnT at h0; rwa [hpt] at h0
    have HBV : Hid (∀ W, Fr (fun k => vb.ownBlock = some k) Vb W → W.cell? ⟨B, 0, none⟩ = some (.pointer (some ⟨l, 0, none⟩)) ∧ W.cell? ⟨B + 1, 0, none⟩ = some (.int .i64 a) ∧ W.cell? ⟨B + 2, 0, none⟩ = some vb ∧ W.heap[l]? = some (.cells #[.pointer (some ⟨t, 0, none⟩), .map (some b)] 62 (0, 0))) := fun W hW => by
      have hno : ∀ k, k < B + 3 → ¬ vb.ownBlock = some k := fun k hk e => by have := (o3b.lt k e).1; omega
      have q0 := hW.blk (hfb.blk (hF.blk (f2.blk k0 fun e => e) (by omega : ¬ B = B + 2)) (by omega : ¬ B = lp)) (hno _ (by omega))
      have q1 := hW.blk (hfb.blk (hF.blk (f2.blk k1 fun e => e) (by omega : ¬ B + 1 = B + 2)) (by omega : ¬ B + 1 = lp)) (hno _ (by omega))
      have q2 := hW.blk k3b (hno _ (by omega))
      have q3 := hW.blk (hfb.blk (hF.blk (f2.blk kl fun e => e) (by omega : ¬ l = B + 2)) (by omega : ¬ l = lp)) (hno _ (by omega))
      exact ⟨blk_cell q0 0, blk_cell q1 0, blk_cell q2 0, q3⟩
    have HM : Hid (∀ W, Fr (fun k => vb.ownBlock = some k) Vb W → (Instr.lookup 59 (.map (some b)) (.agg #[.int .i64 a, .string (bs (foldL n))]) false).run Tryz.prog W = .ok (.string (bs n)) W) := fun W hW => by
      have := lookW (ownMW_same hmb (hW.block b (ownMW_lt hmb) fun e => by have := (o3b.lt b e).1; omega)) ⟨(a, foldL n), ha2, hnk⟩
      rw [h7.look hnU rfl] at this
      exact this
    have HO : Hid (∃ v' w', (Builtin.append_ #[38, 38] 38 #[vb, .slice (some ⟨Vb.drew.heap.size, 0, none⟩) 1 1]).run Tryz.prog (Vb.drew.alloc (.cells #[encT n] 9)) = .ok v' w' ∧ w'.ownsRow (B + 3) 9 1 v' (pre.length + 1) ((ns.take pre.length).map encT ++ #[encT n].toList) ∧ Fr (fun k => vb.ownBlock = some k) Vb.drew w' ∧ (∀ k, v'.ownBlock = some k → vb.ownBlock = some k ∨ Vb.drew.heap.size ≤ k)) :=
      Lib.hid (run_one_t (W := Vb.drew) (B + 3) _ _ 9 i0 _ 1 16 Tryz.underlying38 iz iz0 iz1 iz2 rfl (by decide) vb pre.length _ (row_same hor fun g _ => rfl) #[encT n] rfl (by intro u hu; simp at hu; subst hu; rfl) (by omega) (by decide) hbz)
    have hnB : ∀ k, vb.ownBlock = some k → ¬ k = B + 2 := fun k hk e => by have := (o3b.lt k hk).1; omega
    have HU := Lib.hid (And.intro hfb (And.intro hzb (And.intro hrb (And.intro hX1 (And.intro hG2 (And.intro hxl (And.intro k3b (And.intro hpt (And.intro hn2 (And.intro hlV (And.intro hl2 (And.intro hn3 (And.intro hbz (And.intro hnl (And.intro z1 hnB)))))))))))))))
    clear hpx k3 o3 hSl hX1 hG2 hxl hF hlV hl2 h3 h7 h10 f1 z1 k0 k1 k2 kl m1 hlB hbB hnl hns f2 hYb hseq hYl heg hz2 hz21 hlb hmb hfb hzb hsb hrb k3b o3b hpt hzs hbz hor hn1 hn2 hn3 hnU hnk hnB
    gi_wp2_with fail
    refine wpIn_region_i (S := fun W => Fr (fun k => vb.ownBlock = some k) Vb W) 11 (by kernel_rfl) (by exact (Fr.refl _ Vb).drew) (fun hHeld => ?_)
    refine wpAnyI_read (i := 6) (oi := { dst := some 18, op := Go.Op.move (Go.Operand.tmp 6), type := 9, pos := "wish.go:84", after := #[], guard := none }) ?_ (fun _ => trivial) (by kernel_rfl) rfl (by kernel_rfl) (by kernel_rfl) (by kernel_rfl) (by kernel_rfl) (fun _ _ _ h => h) (by rfl) (by assumption) ?_ ?_
    rotate_left
    · (intro w0 hS0; go_simp <;> (try with_reducible rfl))
    try simp only [Act.put, List.setIfInBounds_toArray, List.set_cons_zero, List.set_cons_succ]
    refine wpAnyI_read (i := 0) (oi := { dst := some 12, op := Go.Op.load 38 (Go.Operand.tmp 5), type := 38, pos := "wish.go:84", after := #[], guard := none }) ?_ (fun _ => trivial) (by kernel_rfl) rfl (by kernel_rfl) (by kernel_rfl) (by kernel_rfl) (by kernel_rfl) (fun _ _ _ h => h) (by rfl) (by assumption) ?_ ?_
    rotate_left
    · (intro w0 hS0; obtain ⟨s0, s1, s2, s3⟩ := HBV.out w0 hS0; go_simp <;> (try with_reducible rfl))
    try simp only [Act.put, List.setIfInBounds_toArray, List.set_cons_zero, List.set_cons_succ]
    refine wpAnyI_read (i := 1) (oi := { dst := some 13, op := Go.Op.load 25 (Go.Operand.tmp 2), type := 25, pos := "wish.go:84", after := #[], guard := none }) ?_ (fun _ => trivial) (by kernel_rfl) rfl (by kernel_rfl) (by kernel_rfl) (by kernel_rfl) (by kernel_rfl) (fun _ _ _ h => h) (by rfl) (by assumption) ?_ ?_
    rotate_left
    · (intro w0 hS0; obtain ⟨s0, s1, s2, s3⟩ := HBV.out w0 hS0; go_simp <;> (try with_reducible rfl))
    try simp only [Act.put, List.setIfInBounds_toArray, List.set_cons_zero, List.set_cons_succ]
    refine wpAnyI_read (i := 2) (oi := { dst := some 14, op := Go.Op.nilCheck (Go.Operand.tmp 13), type := 0, pos := "wish.go:84", after := #[{ on := 1, ground := Go.Ground.data }], guard := none }) ?_ (fun _ => trivial) (by kernel_rfl) rfl (by kernel_rfl) (by kernel_rfl) (by kernel_rfl) (by kernel_rfl) (fun _ _ _ h => h) (by rfl) (by assumption) ?_ ?_
    rotate_left
    · (intro w0 hS0; go_simp <;> (try with_reducible rfl))
    try simp only [Act.put, List.setIfInBounds_toArray, List.set_cons_zero, List.set_cons_succ]
    refine wpAnyI_read (i := 3) (oi := { dst := some 15, op := Go.Op.fieldAddr 62 (Go.Operand.tmp 14) 1, type := 0, pos := "wish.go:84", after := #[{ on := 2, ground := Go.Ground.data }], guard := none }) ?_ (fun _ => trivial) (by kernel_rfl) rfl (by kernel_rfl) (by kernel_rfl) (by kernel_rfl) (by kernel_rfl) (fun _ _ _ h => h) (by rfl) (by assumption) ?_ ?_
    rotate_left
    · (intro w0 hS0; go_simp <;> (try with_reducible rfl))
    try simp only [Act.put, List.setIfInBounds_toArray, List.set_cons_zero, List.set_cons_succ]
    refine wpAnyI_read (i := 4) (oi := { dst := some 16, op := Go.Op.load 59 (Go.Operand.tmp 15), type := 59, pos := "wish.go:84", after := #[{ on := 3, ground := Go.Ground.data }], guard := none }) ?_ (fun _ => trivial) (by kernel_rfl) rfl (by kernel_rfl) (by kernel_rfl) (by kernel_rfl) (by kernel_rfl) (fun _ _ _ h => h) (by rfl) (by assumption) ?_ ?_
    rotate_left
    · (intro w0 hS0; obtain ⟨s0, s1, s2, s3⟩ := HBV.out w0 hS0; have s4 := blk_cell s3 1; go_simp <;> (try with_reducible rfl))
    try simp only [Act.put, List.setIfInBounds_toArray, List.set_cons_zero, List.set_cons_succ]
    refine wpAnyI_read (i := 5) (oi := { dst := some 17, op := Go.Op.load 3 (Go.Operand.tmp 3), type := 3, pos := "wish.go:84", after := #[], guard := none }) ?_ (fun _ => trivial) (by kernel_rfl) rfl (by kernel_rfl) (by kernel_rfl) (by kernel_rfl) (by kernel_rfl) (fun _ _ _ h => h) (by rfl) (by assumption) ?_ ?_
    rotate_left
    · (intro w0 hS0; obtain ⟨s0, s1, s2, s3⟩ := HBV.out w0 hS0; go_simp <;> (try with_reducible rfl))
    try simp only [Act.put, List.setIfInBounds_toArray, List.set_cons_zero, List.set_cons_succ]
    refine wpAnyI_read (i := 7) (oi := { dst := some 19, op := Go.Op.build 68 #[(0, Go.Operand.tmp 17), (1, Go.Operand.tmp 18)], type := 68, pos := "wish.go:84", after := #[{ on := 5, ground := Go.Ground.data }, { on := 6, ground := Go.Ground.data }], guard := none }) ?_ (fun _ => trivial) (by kernel_rfl) rfl (by kernel_rfl) (by kernel_rfl) (by kernel_rfl) (by kernel_rfl) (fun _ _ _ h => h) (by rfl) (by assumption) ?_ ?_
    rotate_left
    · (intro w0 hS0; go_simp <;> (try with_reducible rfl))
    try simp only [Act.put, List.setIfInBounds_toArray, List.set_cons_zero, List.set_cons_succ]
    refine wpAnyI_read (i := 8) (oi := { dst := some 20, op := Go.Op.lookup 59 (Go.Operand.tmp 16) (Go.Operand.tmp 19) false, type := 9, pos := "wish.go:84", after := #[{ on := 4, ground := Go.Ground.data }, { on := 7, ground := Go.Ground.data }], guard := none }) ?_ (fun _ => trivial) (by kernel_rfl) rfl (by kernel_rfl) (by kernel_rfl) (by kernel_rfl) (by kernel_rfl) (fun _ _ _ h => h) (by rfl) (by assumption) ?_ ?_
    rotate_left
    · (intro w0 hS0; have := HM.out w0 hS0; go_simp <;> (try with_reducible rfl))
    try simp only [Act.put, List.setIfInBounds_toArray, List.set_cons_zero, List.set_cons_succ]
    refine wpAnyI_one (i := 9) (o := { dst := some 21, op := Go.Op.buildSlice 38 1 #[(0, Go.Operand.tmp 20)], type := 38, pos := "wish.go:84", after := #[{ on := 8, ground := Go.Ground.data }], guard := none }) (by kernel_rfl) rfl (by rfl) (fun K hK => ?_)
    go_simp
    refine hK.out _ _ ?_ (fun hHeld => ?_)
    · exact (show Fr (fun k => vb.ownBlock = some k) Vb _ from (Fr.refl _ Vb).drew).alloc _
    clear hK K
    try simp only [Act.put, List.setIfInBounds_toArray, List.set_cons_zero, List.set_cons_succ]
    refine wpAnyI_one (i := 10) (o := { dst := some 22, op := Go.Op.call { callee := Go.Callee.builtin Go.Builtin.append, args := #[Go.Operand.tmp 12, Go.Operand.tmp 21], argTypes := #[38, 38] }, type := 38, pos := "wish.go:84", after := #[{ on := 0, ground := Go.Ground.data }, { on := 9, ground := Go.Ground.data }], guard := none }) (by kernel_rfl) rfl (by rfl) (fun K hK => ?_)
    obtain ⟨v1, W6, hr6, hown1, hfr1, htie⟩ := HO.out
    have hfrA : Fr (fun k => vb.ownBlock = some k) Vb W6 := ((Fr.refl _ Vb).drew).trans3 hfr1 fun _ _ e => e
    refine wpIn_app_run _ _ _ _ rfl (v := v1) (W' := W6) (by exact hr6) ?_
    refine hK.out _ _ ?_ (fun hHeld => ?_)
    · exact hfrA
    clear hK K
    try simp only [Act.put, List.setIfInBounds_toArray, List.set_cons_zero, List.set_cons_succ]
    obtain ⟨A1, c1', rfl⟩ := row_slice hown1
    have hn3 : ∀ k, vb.ownBlock = some k → k ≠ B + 2 := fun k hk e => HU.out.2.2.2.2.2.2.2.2.2.2.2.2.2.2.2 k hk e
    have e1 : W6.heap[B + 2]? = some (.cells #[vb] 38 (0, 0)) := hfrA.blk HU.out.2.2.2.2.2.2.1 fun e => hn3 _ e rfl
    have g1 := blk_cell e1 0
    have g2 := blk_free e1 0
    have HN := Lib.hid hn3
    clear hn3
    refine wpAnyI_last (o := { dst := none, op := Go.Op.store 38 (Go.Operand.tmp 5) (Go.Operand.tmp 22), type := 0, pos := "wish.go:84", after := #[{ on := 10, ground := Go.Ground.data }, { on := 10, ground := Go.Ground.chain }, { on := 0, ground := Go.Ground.phase }, { on := 1, ground := Go.Ground.phase }, { on := 2, ground := Go.Ground.phase }, { on := 3, ground := Go.Ground.phase }, { on := 4, ground := Go.Ground.phase }, { on := 5, ground := Go.Ground.phase }, { on := 6, ground := Go.Ground.phase }, { on := 7, ground := Go.Ground.phase }, { on := 8, ground := Go.Ground.phase }, { on := 9, ground := Go.Ground.phase }, { on := 10, ground := Go.Ground.phase }], guard := none }) (by kernel_rfl) rfl (by rfl) (fun K hK => ?_)
    go_simp
    refine hK.out _ _ ?_
    clear hK K
    try simp only [Act.put, List.setIfInBounds_toArray, List.set_cons_zero, List.set_cons_succ]
    refine wpAnyI_done (by kernel_rfl) ?_ _
    obtain ⟨hfb, hzb, hrb, hX1, hG2, hxl, k3b, hpt, hn2, hlV, hl2, hn4, hbz, hnl, z1, hn5⟩ := HU.out
    have hn3 := HN.out
    have hown2 : OwnT (B + 3) W6 (.slice A1 (pre.length + 1) c1') (ns.take (pre ++ [foldL n]).length) := by
      rw [List.length_append, List.length_singleton, hn2]
      unfold OwnT; rw [List.length_append, List.map_append, hpt]; exact hown1
    have hnx : (Value.slice A1 (pre.length + 1) c1').ownBlock ≠ some (B + 2) := fun e => by have := (hown2.lt _ e).1; omega
    have hf5 : Fr X1 Vb W6 := hfrA.mono fun k hk e => (hX1 k).2 (.inr e)
    have hfr : Fr (fun k => k = lp ∨ X1 k) V (W6.setCell ⟨B + 2, 0, none⟩ (.slice A1 (pre.length + 1) c1')) :=
      (((hfb.mono (Y := fun k => k = lp ∨ X1 k) fun k _ e => .inl e).trans3 hf5 fun k hk e => .inr e)).setCell _ (.inr ((hX1 _).2 (.inl rfl))) _
    refine ⟨fun k => k = B + 2 ∨ (Value.slice A1 (pre.length + 1) c1').ownBlock = some k, fun k hk => ?_, hfr, ?_, .slice A1 (pre.length + 1) c1', blk_set e1 0 _, ?_, by omega, fun k => Iff.rfl⟩
    · have hz2 := hfrA.size
      have hsz : (W6.setCell ⟨B + 2, 0, none⟩ (.slice A1 (pre.length + 1) c1')).heap.size = W6.heap.size := by simp
      rw [hsz]
      rcases hk with rfl | hk
      · exact ⟨blk_lt e1, fun _ => (hX1 _).2 (.inl rfl)⟩
      · refine ⟨(hown2.lt k hk).2, fun hlt => ?_⟩
        rcases htie k hk with e | e
        · exact (hX1 k).2 (.inr e)
        · have e2 : Vb.heap.size ≤ k := e
          have := hfb.size
          omega
    · have hl3 : ¬ X1 lp := hxl
      have := K.out.1.size
      exact blk_other (hf5.blk hrb hl3) _ (by simp; omega) _
    · exact ownT_kept hown2 fun g hg => heap_setCell_other W6 _ g _ fun e => by simp at e; exact hnx (e ▸ hg)
  case done =>
    rintro Dm X2 V hD hxD hG2 hF ⟨v, k3, o3, hSl, hX2⟩ hdef
    have hlen : (ns.map foldL).length = ns.length := by simp
    rw [hlen, List.take_length] at o3
    obtain ⟨A, cp, rfl⟩ := row_slice o3
    have c3 := blk_cell k3 0
    have hBV : B ≤ V.heap.size := by have := hF.size; omega
    have HV3 : Hid (Calls Tryz.prog 53 #[.slice A ns.length cp] V (ValsT (.slice A ns.length cp) V)) := values_callsT A ns.length cp V
    have HE := Lib.hid (And.intro k3 (And.intro o3 (And.intro hF (And.intro hdef (And.intro hxD (And.intro hX2 (And.intro hSl (And.intro hD (And.intro f1 (And.intro f2 (And.intro z1 hz21)))))))))))
    clear k3 o3 hF hdef hxD hX2 hSl hD hG2 h3 h7 h10 f1 z1 k0 k1 k2 kl m1 hlB hbB hnl hns f2 hYb hseq hYl heg hz2 hz21 hlen
    gi_wp2_with fail
    refine ⟨trivial, (calls_wide (.inl rfl) HV3.out).mono ?_⟩
    rintro e W6 hv6
    obtain ⟨k3, o3, hF, hdef, hxD, hX2, hSl, hD, f1, f2, z1, hz21⟩ := HE.out
    have hB := HBB.out
    obtain ⟨rfl, t2, b6⟩ := hv6
    have H6 := Lib.hid (And.intro t2 b6)
    clear t2 b6 k3 o3 hF hdef hxD hX2 hSl hD f1 f2 z1 hz21
    gi_wp2_with fail
    obtain ⟨t2, b6⟩ := H6.out
    obtain ⟨k3, o3, hF, hdef, hxD, hX2, hSl, hD, f1, f2, z1, hz21⟩ := HE.out
    have hd6 := (Fr.of_below (X := fun _ => False) b6).blk hdef fun e => e
    have hzF := hF.size
    have hDV := blk_lt hdef
    have a5 : Below w.heap.size w W6 := by
      have h5 : Below w.heap.size w V := ((f1.trans f2).mono (Y := fun k => k = B + 2) (fun _ _ h => h.elim)).trans3 hF (fun k _ e => e) |>.below (Nat.le_refl _) fun k hk e => by omega
      exact h5.trans (b6.mono (by omega))
    have hvD : ¬ (Value.slice A ns.length cp).ownBlock = some Dm := fun e => hxD ((hX2 Dm).2 (.inr e))
    have hvV : ¬ (Value.slice A ns.length cp).ownBlock = some V.heap.size := fun e => by have := (o3.lt _ e).2; omega
    refine leaves_one Dm _ hd6 fun w' hf => ⟨_, results_tmp rfl _ _ _, ⟨_, rfl, V.heap.size, .slice A ns.length cp, by omega, rfl, hf.blk t2 (by omega), hvV, ?_⟩, a5.trans (hf.below a5.size fun k _ e => by omega)⟩
    exact ownT_base (ownT_kept o3 fun g hg => (hf.block g (by have := (o3.lt g hg).2; have := b6.size; omega) fun e => hvD (e ▸ hg)).trans (b6.block g (o3.lt g hg).2)) (by omega)
end Go.Proofs.YtnoeblnljfnecaaGreatDoor
end
section
/- Layer 21: nil lists: Of, Clear. -/
namespace Go.Proofs.YtnoeblnljfnecaaGreatDoor
set_option linter.unusedVariables false
set_option linter.unusedSimpArgs false
open Go Go.RowKit Go.Maps Go.Lib
attribute [local go_sem] Oper.semAt_some

set_option maxRecDepth 100000 in
set_option maxHeartbeats 16000000 in
theorem wisOfNil (a : Int) (w : World) : Calls Tryz.prog 35 #[.pointer none, .int .i64 a] w (AllPS [] w) := by
  obtain ⟨w1, hw1⟩ : ∃ w1, ((w.alloc (Obj.cells #[Value.pointer none] 25)).alloc (Obj.cells #[Value.int .i64 a] 3)).alloc (Obj.cells #[Value.slice none 0 0] 38) = w1 := ⟨_, rfl⟩
  have f1 : Fr (fun _ => False) w w1 := by rw [← hw1]; exact (((Fr.refl _ w).alloc _).alloc _).alloc _
  have z1 : w1.heap.size = w.heap.size + 3 := by rw [← hw1]; simp
  obtain ⟨B, hB⟩ : ∃ B, w.heap.size = B := ⟨_, rfl⟩
  rw [hB] at z1
  have k0 : w1.heap[B]? = some (.cells #[.pointer none] 25 (0, 0)) := by rw [← hw1, ← hB]; exact blk_alloc (blk_alloc (heap_alloc_new w _) _) _
  have k1 : w1.heap[B + 1]? = some (.cells #[.int .i64 a] 3 (0, 0)) := by rw [← hw1, ← hB]; exact blk_alloc (heap_alloc2_new w _ _) _
  have k2 : w1.heap[B + 2]? = some (.cells #[.slice none 0 0] 38 (0, 0)) := by rw [← hw1, ← hB]; have := heap_alloc2_new (w.alloc (Obj.cells #[Value.pointer none] 25)) (Obj.cells #[Value.int .i64 a] 3) (Obj.cells #[Value.slice none 0 0] 38); rwa [World.size_alloc] at this
  have HBX : Hid (∀ V, Fr (fun _ => False) w1 V → V.cell? ⟨B, 0, none⟩ = some (.pointer none) ∧ V.cell? ⟨B + 1, 0, none⟩ = some (.int .i64 a)) := fun V hV => ⟨blk_cell (hV.blk k0 fun e => e) 0, blk_cell (hV.blk k1 fun e => e) 0⟩
  have HW := Lib.hid hw1
  have HBB := Lib.hid hB
  have H := Lib.hid (And.intro f1 (And.intro z1 k2))
  clear f1 z1 k0 k1 k2 hw1 hB
  refine (callsIn_wide (n := 30)).1 ?_
  refine callsIn_of_wp_marks Tryz.func35 rfl trivial ?_ rfl
  simp only [Tryz.ntmps35, List.size_toArray, List.length_cons, List.length_nil, Nat.reduceAdd, Nat.reduceSub, Array.replicate_succ, Array.replicate_zero, List.push_toArray, List.append_toArray, List.nil_append, List.cons_append]
  gi_wp2_with fail
  rw [HW.out, HBB.out]
  refine wpIn_class_tail (C := fun W => Fr (fun _ => False) w1 W) 3 (by kernel_rfl) (by kernel_rfl) (by kernel_rfl) ((Fr.refl (fun _ => False) w1).drew) ?_
  simp only [List.take_succ_cons, List.take_zero, List.drop_succ_cons, List.drop_zero]
  refine quiet_step_w (fun _ => trivial) (fun K hK => ?_)
  go_simp
  refine ⟨.pointer none, fun W hW => ?_, hK _ ?_⟩
  · obtain ⟨s0, s1⟩ := HBX.out W hW; go_simp
  clear hK K
  refine quiet_step_w (fun _ => trivial) (fun K hK => ?_)
  go_simp
  refine ⟨.pointer none, fun W hW => ?_, hK _ ?_⟩
  · refine (calls_wide (.inl rfl) (wisRelNil _)).mono ?_
    rintro e W2 ⟨rfl, rfl⟩; exact ⟨rfl, hW⟩
  clear hK K
  refine quiet_step_w (fun _ => trivial) (fun K hK => ?_)
  go_simp
  refine ⟨.int .i64 a, fun W hW => ?_, hK _ ?_⟩
  · obtain ⟨s0, s1⟩ := HBX.out W hW; go_simp
  clear hK K
  refine wpQuietIn_nil ?_
  intro V1 hV1
  have HV1 := Lib.hid hV1
  clear hV1
  gi_wp2_with fail
  refine ⟨trivial, (calls_wide (.inl rfl) (relOfNilIS a V1)).mono ?_⟩
  rintro e w2 ⟨⟨F, rfl, hT⟩, hb2⟩
  have f2 : Fr (fun _ => False) w1 w2 := HV1.out.trans (Fr.of_below hb2)
  obtain ⟨Yt, hYb, gf, lb, rfl, hseq, hYl, heg⟩ := tellsT_tale (show TaleT V1.heap.size w2 F [] from hT) (by decide)
  have hz2 := HV1.out.size
  have K := Lib.hid (And.intro f2 (And.intro hYb (And.intro hseq (And.intro hYl (And.intro heg hz2)))))
  clear f2 hb2 hT hYb hseq hYl heg hz2
  gi_wp2_with fail
  obtain ⟨f1, z1, k2⟩ := H.out
  obtain ⟨f2, hYb, hseq, hYl, heg, hz2⟩ := K.out
  have hz21 := f2.size
  refine wpIn_rangeF (X := fun _ => False) (Y := Yt) (xs := []) (encs := encL) (gf := gf) (lb := lb) (fun pre X1 W => pre = []) (fun _ _ _ _ => False)
    rfl hseq (fun k hk => hk.elim) hYl (by omega) heg (fun _ => rfl)
    (fun s X1 V1 V2 h _ _ => h) (fun c s X1 V1 V2 h => h.elim) rfl ?round ?done (fun _ _ _ _ _ _ _ _ _ _ _ h => h.elim)
  case round =>
    rintro l pre x r X1 V KK rb hl2 hpx hI hG2 hxl hF hlV hK
    simp at hpx
  case done =>
    rintro Dm X2 V hD hxD hG2 hF _ hdef
    have k3 := hF.blk (f2.blk k2 fun e => e) fun e => e
    have c3 := blk_cell k3 0
    have HV3 : Hid (Calls Tryz.prog 53 #[.slice none 0 0] V (ValsT (.slice none 0 0) V)) := values_callsT none 0 0 V
    have HE := Lib.hid (And.intro hF (And.intro hdef (And.intro hD (And.intro f1 (And.intro f2 (And.intro z1 hz21))))))
    clear k3 hF hdef hD f1 f2 z1 hz21 hxD hG2 k2 hYb hseq hYl heg hz2
    gi_wp2_with fail
    refine ⟨trivial, (calls_wide (.inl rfl) HV3.out).mono ?_⟩
    rintro e W6 ⟨rfl, t2, b6⟩
    have H6 := Lib.hid (And.intro t2 b6)
    clear t2 b6
    gi_wp2_with fail
    obtain ⟨t2, b6⟩ := H6.out
    obtain ⟨hF, hdef, hD, f1, f2, z1, hz21⟩ := HE.out
    have hB := HBB.out
    have hd6 := (Fr.of_below (X := fun _ => False) b6).blk hdef fun e => e
    have hzF := hF.size
    have hDV := blk_lt hdef
    have a5 : Below w.heap.size w W6 := (((f1.trans f2).trans hF).below (Nat.le_refl _) fun _ _ e => e.elim).trans (b6.mono (by omega))
    refine leaves_one Dm _ hd6 fun w' hf => ⟨_, results_tmp rfl _ _ _, ⟨_, rfl, V.heap.size, .slice none 0 0, by omega, rfl, hf.blk t2 (by omega), (by simp [Value.ownBlock]), ownT_nil _ _⟩, a5.trans (hf.below a5.size fun k _ e => by omega)⟩
set_option maxRecDepth 100000 in
set_option maxHeartbeats 16000000 in
theorem wisClearNil (a : Int) (w : World) : Calls Tryz.prog 11 #[.pointer none, .int .i64 a] w fun e w' => e = .returned (.int .i64 0) ∧ Below w.heap.size w w' := by
  obtain ⟨w1, hw1⟩ : ∃ w1, (w.alloc (Obj.cells #[Value.pointer none] 25)).alloc (Obj.cells #[Value.int .i64 a] 3) = w1 := ⟨_, rfl⟩
  have f1 : Fr (fun _ => False) w w1 := by rw [← hw1]; exact ((Fr.refl _ w).alloc _).alloc _
  have z1 : w1.heap.size = w.heap.size + 2 := by rw [← hw1]; simp
  obtain ⟨B, hB⟩ : ∃ B, w.heap.size = B := ⟨_, rfl⟩
  rw [hB] at z1
  have k0 : w1.heap[B]? = some (.cells #[.pointer none] 25 (0, 0)) := by rw [← hw1, ← hB]; exact blk_alloc (heap_alloc_new w _) _
  have k1 : w1.heap[B + 1]? = some (.cells #[.int .i64 a] 3 (0, 0)) := by rw [← hw1, ← hB]; exact heap_alloc2_new w _ _
  have k2 : True := trivial
  have HBX : Hid (∀ V, Fr (fun _ => False) w1 V → V.cell? ⟨B, 0, none⟩ = some (.pointer none) ∧ V.cell? ⟨B + 1, 0, none⟩ = some (.int .i64 a)) := fun V hV => ⟨blk_cell (hV.blk k0 fun e => e) 0, blk_cell (hV.blk k1 fun e => e) 0⟩
  have HW := Lib.hid hw1
  have HBB := Lib.hid hB
  have H := Lib.hid (And.intro f1 (And.intro z1 k2))
  clear f1 z1 k0 k1 k2 hw1 hB
  refine (callsIn_wide (n := 30)).1 ?_
  refine callsIn_of_wp_marks Tryz.func11 rfl trivial ?_ rfl
  simp only [Tryz.ntmps11, List.size_toArray, List.length_cons, List.length_nil, Nat.reduceAdd, Nat.reduceSub, Array.replicate_succ, Array.replicate_zero, List.push_toArray, List.append_toArray, List.nil_append, List.cons_append]
  gi_wp2_with fail
  rw [HW.out, HBB.out]
  refine wpIn_class_tail (C := fun W => Fr (fun _ => False) w1 W) 3 (by kernel_rfl) (by kernel_rfl) (by kernel_rfl) ((Fr.refl (fun _ => False) w1).drew) ?_
  simp only [List.take_succ_cons, List.take_zero, List.drop_succ_cons, List.drop_zero]
  refine quiet_step_w (fun _ => trivial) (fun K hK => ?_)
  go_simp
  refine ⟨.pointer none, fun W hW => ?_, hK _ ?_⟩
  · obtain ⟨s0, s1⟩ := HBX.out W hW; go_simp
  clear hK K
  refine quiet_step_w (fun _ => trivial) (fun K hK => ?_)
  go_simp
  refine ⟨.pointer none, fun W hW => ?_, hK _ ?_⟩
  · refine (calls_wide (.inl rfl) (wisRelNil _)).mono ?_
    rintro e W2 ⟨rfl, rfl⟩; exact ⟨rfl, hW⟩
  clear hK K
  refine quiet_step_w (fun _ => trivial) (fun K hK => ?_)
  go_simp
  refine ⟨.int .i64 a, fun W hW => ?_, hK _ ?_⟩
  · obtain ⟨s0, s1⟩ := HBX.out W hW; go_simp
  clear hK K
  refine wpQuietIn_nil ?_
  intro V1 hV1
  have HV1 := Lib.hid hV1
  clear hV1
  gi_wp2_with fail
  refine ⟨trivial, (calls_wide (.inl rfl) (relOfNilIS a V1)).mono ?_⟩
  rintro e w2 ⟨⟨F, rfl, hT⟩, hb2⟩
  have f2 : Fr (fun _ => False) w1 w2 := HV1.out.trans (Fr.of_below hb2)
  obtain ⟨Yt, hYb, gf, lb, rfl, hseq, hYl, heg⟩ := tellsT_tale (show TaleT V1.heap.size w2 F [] from hT) (by decide)
  have hz2 := HV1.out.size
  have K := Lib.hid (And.intro f2 (And.intro hYb (And.intro hseq (And.intro hYl (And.intro heg hz2)))))
  clear f2 hb2 hT hYb hseq hYl heg hz2
  gi_wp2_with fail
  obtain ⟨f1, z1, k2⟩ := H.out
  obtain ⟨f2, hYb, hseq, hYl, heg, hz2⟩ := K.out
  have hz21 := f2.size
  refine wpIn_rangeF (X := fun _ => False) (Y := Yt) (xs := []) (encs := encL) (gf := gf) (lb := lb) (fun pre X1 W => pre = []) (fun _ _ _ _ => False)
    rfl hseq (fun k hk => hk.elim) hYl (by omega) heg (fun _ => rfl)
    (fun s X1 V1 V2 h _ _ => h) (fun c s X1 V1 V2 h => h.elim) rfl ?round ?done (fun _ _ _ _ _ _ _ _ _ _ _ h => h.elim)
  case round =>
    rintro l pre x r X1 V KK rb hl2 hpx hI hG2 hxl hF hlV hK
    simp at hpx
  case done =>
    rintro Dm X2 V hD hxD hG2 hF _ hdef
    have HBV : Hid (∀ W, Fr (fun _ => False) V W → W.cell? ⟨B, 0, none⟩ = some (.pointer none) ∧ W.cell? ⟨B + 1, 0, none⟩ = some (.int .i64 a)) := fun W hW => HBX.out W ((f2.trans hF).trans hW)
    have HE := Lib.hid (And.intro hF (And.intro hdef (And.intro hD (And.intro f1 (And.intro f2 (And.intro z1 hz21))))))
    clear hF hdef hD f1 f2 z1 hz21 hxD hG2 k2 hYb hseq hYl heg hz2
    gi_wp2_with fail
    refine wpIn_class_tail (C := fun W => Fr (fun _ => False) V W) 3 (by kernel_rfl) (by kernel_rfl) (by kernel_rfl) ((Fr.refl (fun _ => False) V).drew) ?_
    simp only [List.take_succ_cons, List.take_zero, List.drop_succ_cons, List.drop_zero]
    refine quiet_step_w (fun _ => trivial) (fun K hK => ?_)
    go_simp
    refine ⟨.pointer none, fun W hW => ?_, hK _ ?_⟩
    · obtain ⟨s0, s1⟩ := HBV.out W hW; go_simp
    clear hK K
    refine quiet_step_w (fun _ => trivial) (fun K hK => ?_)
    go_simp
    refine ⟨.pointer none, fun W hW => ?_, hK _ ?_⟩
    · refine (calls_wide (.inl rfl) (wisRelNil _)).mono ?_
      rintro e W2 ⟨rfl, rfl⟩; exact ⟨rfl, hW⟩
    clear hK K
    refine quiet_step_w (fun _ => trivial) (fun K hK => ?_)
    go_simp
    refine ⟨.int .i64 a, fun W hW => ?_, hK _ ?_⟩
    · obtain ⟨s0, s1⟩ := HBV.out W hW; go_simp
    clear hK K
    refine wpQuietIn_nil ?_
    intro W5 hW5
    have H5 := Lib.hid hW5
    clear hW5
    gi_wp2_with fail
    refine ⟨trivial, (calls_wide (.inl rfl) (relDropNil a W5)).mono ?_⟩
    rintro e W6 ⟨rfl, b6⟩
    have H6 := Lib.hid b6
    clear b6
    gi_wp2_with fail
    have b6 := H6.out
    obtain ⟨hF, hdef, hD, f1, f2, z1, hz21⟩ := HE.out
    have hB := HBB.out
    have fV : Fr (fun _ => False) V W6 := H5.out.trans (Fr.of_below b6)
    have hd6 := fV.blk hdef fun e => e
    have hzF := hF.size
    have hDV := blk_lt hdef
    have a5 : Below w.heap.size w W6 := (((f1.trans f2).trans hF).trans fV).below (Nat.le_refl _) fun _ _ e => e.elim
    refine leaves_one Dm _ hd6 fun w' hf => ⟨_, results_tmp rfl _ _ _, rfl, a5.trans (hf.below a5.size fun k _ e => by omega)⟩
end Go.Proofs.YtnoeblnljfnecaaGreatDoor
end
section
/- Layer 21: the law's names. -/
namespace Go.Proofs.YtnoeblnljfnecaaGreatDoor
set_option linter.unusedVariables false
set_option linter.unusedSimpArgs false
open Go Go.RowKit Go.Lib Go.Sort Go.Shelf
attribute [local go_sem] Oper.semAt_some

/-- a box with a row of numbers: its blocks are X -/
def Box21R (S base : Nat) (pre : List (List UInt8)) (X : Nat → Prop) (W : World) : Prop := ∃ v, W.heap[S]? = some (.cells #[v] 38 (0, 0)) ∧ OwnT base W v pre ∧ S < base ∧ ∀ k, X k ↔ (k = S ∨ v.ownBlock = some k)
theorem box21R_stays (S base : Nat) : Stays (Box21R S base) := fun pre X V V' ⟨v, h1, h2, h3, h4⟩ hl hf =>
  ⟨v, hf.blk h1 (fun e => e ((h4 S).2 (.inl rfl))), ownT_kept h2 fun g hg => hf.block g (h2.lt g hg).2 fun e => e ((h4 g).2 (.inr hg)), h3, h4⟩
/-- what was told: a row of the call's own, and that it was all -/
def Told21R (xs : List (List UInt8)) (w : World) (e : Ending) (w' : World) : Prop := (∃ v, e = .returned (.tuple #[v, .bool true]) ∧ OwnT w.heap.size w' v xs) ∧ Below w.heap.size w w'
set_option maxRecDepth 100000 in
set_option maxHeartbeats 4000000 in
theorem names21 {w : World} {po : Option Addr} {a : Int} {xs : List (List UInt8)} (hOf : ∀ V, Fr (fun _ => False) w V → Calls Tryz.prog 35 #[.pointer po, .int .i64 a] V (AllPS xs V)) (hm : xs.length ≤ 99) : Calls Tryz.prog 15 #[.pointer po, .int .i64 a] w (Told21R xs w) := by
  obtain ⟨i0, hi, hz0, hz1, hz2⟩ := info_parts Tryz.infoT
  have HOf := Lib.hid hOf
  clear hOf
  refine (callsIn_wide (n := 20)).1 ?_
  refine callsIn_of_wp_marks Tryz.func15 rfl trivial ?_ rfl
  simp only [Tryz.ntmps15, List.size_toArray, List.length_cons, List.length_nil, Nat.reduceAdd, Nat.reduceSub, Array.replicate_succ, Array.replicate_zero, List.push_toArray, List.append_toArray, List.nil_append, List.cons_append]
  gi_wp2_with fail
  obtain ⟨w1, hw1⟩ : ∃ w1, ((w.alloc (Obj.cells #[Value.slice none 0 0] 38)).alloc (Obj.cells #[Value.bool false] 4)).alloc (Obj.cells #[Value.slice none 0 0] 38) = w1 := ⟨_, rfl⟩
  rw [hw1]
  have f0 : Fr (fun _ => False) w w1 := by rw [← hw1]; exact (((Fr.refl _ w).alloc _).alloc _).alloc _
  have HO0 := Lib.hid (HOf.out w1 f0)
  have HF0 := Lib.hid (And.intro hw1 f0)
  clear hw1 f0
  refine ⟨trivial, (calls_wide (.inl rfl) HO0.out).mono ?_⟩
  rintro e w2 ⟨⟨F, rfl, hT⟩, hb20⟩
  obtain ⟨Y, hYb, gf, lb, rfl, hseq, hY, heg⟩ := tellsT_tale (base := w1.heap.size) hT (by omega)
  have hnil : ∀ W, (binOp BinOp.eql 70 (.func (.func gf) #[] lb) Value.nilFunc).run Tryz.prog W = .ok (.bool false) W := fun W => by rfl
  have H20 := Lib.hid (And.intro hb20 (And.intro hYb (And.intro hseq (And.intro hY heg))))
  clear hb20 hYb hseq hY heg hT
  gi_wp2_with (simp only [hnil])
  obtain ⟨hw1, f0⟩ := HF0.out
  obtain ⟨hb20, hYb, hseq, hY, heg⟩ := H20.out
  have hfr20 : Fr (fun _ => False) w1 w2 := Fr.of_below hb20
  have z1 : w1.heap.size = w.heap.size + 3 := by rw [← hw1]; simp
  have f1 : Fr (fun _ => False) w w1 := by rw [← hw1]; exact (((Fr.refl _ w).alloc _).alloc _).alloc _
  have hb1 : w1.heap[w.heap.size]? = some (.cells #[.slice none 0 0] 38 (0, 0)) := by rw [← hw1]; exact blk_alloc (blk_alloc (heap_alloc_new w _) _) _
  have hb2 : w1.heap[w.heap.size + 1]? = some (.cells #[.bool false] 4 (0, 0)) := by rw [← hw1]; exact blk_alloc (heap_alloc2_new w _ _) _
  have hb3 : w1.heap[w.heap.size + 2]? = some (.cells #[.slice none 0 0] 38 (0, 0)) := by
    rw [← hw1]
    have := heap_alloc2_new (w.alloc (Obj.cells #[Value.slice none 0 0] 38)) (Obj.cells #[Value.bool false] 4) (Obj.cells #[Value.slice none 0 0] 38)
    rwa [World.size_alloc] at this
  have z2 : w1.heap.size ≤ w2.heap.size := hb20.size
  replace f1 := f1.trans hfr20
  replace hb1 := hfr20.blk hb1 fun e => e
  replace hb2 := hfr20.blk hb2 fun e => e
  replace hb3 := hfr20.blk hb3 fun e => e
  clear hw1 hfr20 hb20 f0
  have H := Lib.hid (And.intro f1 (And.intro hb1 (And.intro hb2 (And.intro z1 z2))))
  refine wpIn_rangeF (X := fun k => k = w.heap.size + 2) (Y := Y) (xs := xs) (encs := encL) (gf := gf) (lb := lb) (Box21R (w.heap.size + 2) w1.heap.size) (fun _ _ _ _ => False)
    rfl hseq (fun k hk => ⟨by omega, fun e => by have := hYb k e; omega⟩) hY (by omega) heg (fun _ => rfl)
    (box21R_stays _ _) (fun c s X1 V1 V2 h => h.elim) ⟨_, hb3, ownT_nil _ _, by omega, fun k => by simp [Value.ownBlock]⟩ ?round ?done (fun _ _ _ _ _ _ _ _ _ _ _ h => h.elim)
  case round =>
    rintro l pre x r X1 V K rb hl2 hpx hI hG hxl hF hlV hK
    dsimp only [encL]
    have HK := Lib.hid hK
    have HV := Lib.hid (And.intro hpx (And.intro hI (And.intro hG (And.intro hxl (And.intro hF (And.intro hlV hl2))))))
    clear hK hpx hI hG hxl hF hlV hl2 hYb hseq hY heg f1  hb1 hb2 hb3 z1 z2
    gi_wp2_with fail
    refine HK.out _ _ (Fr.refl _ _) fun Vb hfb hzb hsb hrb => ?_
    clear HK K
    obtain ⟨hpx, ⟨vb, k3, o3, hSl, hX1⟩, hG, hxl, hF, hlV, hl2⟩ := HV.out
    obtain ⟨f1, hb1, hb2, z1, z2⟩ := H.out
    have hpl : pre.length + 1 ≤ xs.length := by
      have := congrArg List.length hpx
      simp at this; omega
    have p2 : ¬ ((99 : Int) < (pre.length : Int)) := by omega
    have q2 : decide ((99 : Int) < (pre.length : Int)) = false := decide_eq_false p2
    have k3b := hfb.blk k3 (by omega : ¬ w.heap.size + 2 = l)
    have o3b : OwnT w1.heap.size Vb vb pre := ownT_kept o3 fun g hg => hfb.block g (o3.lt g hg).2 fun e => hxl ((hX1 l).2 (.inr (e ▸ hg)))
    have c3 := blk_cell k3b 0
    have hzs : Vb.heap.size = V.heap.size := hzb
    have hbz : w1.heap.size ≤ Vb.heap.size := by omega
    have hor : Vb.ownsRow w1.heap.size 9 1 vb pre.length (pre.map encT) := o3b
    have HO := Lib.hid hor
    have HE := Lib.hid (And.intro hX1 (And.intro hG (And.intro hxl (And.intro hfb (And.intro hrb (And.intro k3b (And.intro o3b (And.intro hzs (And.intro hlV (And.intro hSl hl2))))))))))
    clear hpx k3 o3 hSl hX1 hG hxl hF hlV hl2 f1  hb1 hb2 z1 z2 k3b o3b hor hfb hzb hsb hrb hzs
    have hlen : ∀ W, (Builtin.len_ #[38] 3 #[vb]).run Tryz.prog W = .ok (.int .i64 pre.length) W := fun W => by obtain ⟨A, cp, rfl⟩ := row_slice HO.out; rfl
    gi_wp2_with (first | (gi_at_builtin; refine Hid.out ?_) | simp only [hlen])
    refine Lib.hid ?_
    refine wpListIn_one_t rfl _ _ 38 rfl w1.heap.size 9 i0 _ 1 16 Tryz.underlying38 hi hz0 hz1 hz2 rfl (by decide) _ _ _ rfl HO.out #[encT x] _ rfl rfl rfl (by intro u hu; simp at hu; subst hu; rfl) (by omega) (by decide) hbz ?_
    intro v1 W2 hown1 hfr1 htie
    obtain ⟨A1, c1', rfl⟩ := row_slice hown1
    have hn3 : ∀ k, vb.ownBlock = some k → k ≠ w.heap.size + 2 := fun k hk e => by have := (HO.out.lt k hk).1; have := HE.out.2.2.2.2.2.2.2.2.2.1; omega
    have e1 : W2.heap[w.heap.size + 2]? = some (.cells #[vb] 38 (0, 0)) := hfr1.blk HE.out.2.2.2.2.2.1 fun e => hn3 _ e rfl
    have g1 := blk_cell e1 0
    have g2 := blk_free e1 0
    have HN := Lib.hid hn3
    clear hn3
    gi_wp2_with fail
    obtain ⟨hX1, hG, hxl, hfb, hrb, k3b, o3b, hzs, hlV, hSl, hl2⟩ := HE.out
    have hn3 := HN.out
    have z2 := H.out.2.2.2.2
    have z1 := H.out.2.2.2.1
    have hown2 : OwnT w1.heap.size W2 (.slice A1 (pre.length + 1) c1') (pre ++ [x]) := by
      unfold OwnT; rw [List.length_append, List.map_append]; exact hown1
    have hnx : (Value.slice A1 (pre.length + 1) c1').ownBlock ≠ some (w.heap.size + 2) := fun e => by have := (hown2.lt _ e).1; omega
    have hfr : Fr (fun k => k = l ∨ X1 k) V (W2.setCell ⟨w.heap.size + 2, 0, none⟩ (.slice A1 (pre.length + 1) c1')) :=
      (((hfb.mono (Y := fun k => k = l ∨ X1 k) fun k _ e => .inl e).trans3 hfr1 fun k _ e => .inr ((hX1 k).2 (.inr e)))).setCell _ (.inr ((hX1 _).2 (.inl rfl))) _
    refine ⟨fun k => k = w.heap.size + 2 ∨ (Value.slice A1 (pre.length + 1) c1').ownBlock = some k, fun k hk => ?_, hfr, ?_, .slice A1 (pre.length + 1) c1', blk_set e1 0 _, ?_, hSl, fun k => Iff.rfl⟩
    · have hz2 := hfr1.size
      have hsz : (W2.setCell ⟨w.heap.size + 2, 0, none⟩ (.slice A1 (pre.length + 1) c1')).heap.size = W2.heap.size := by simp
      rw [hsz]
      rcases hk with rfl | hk
      · exact ⟨blk_lt e1, fun _ => (hX1 _).2 (.inl rfl)⟩
      · refine ⟨(hown2.lt k hk).2, fun hlt => ?_⟩
        rcases htie k hk with e | e
        · exact (hX1 k).2 (.inr e)
        · omega
    · have hl3 : ¬ vb.ownBlock = some l := fun e => hxl ((hX1 l).2 (.inr e))
      exact blk_other (hfr1.blk hrb hl3) _ (by simp; omega) _
    · exact ownT_kept hown2 fun g hg => heap_setCell_other W2 _ g _ fun e => by simp at e; exact hnx (e ▸ hg)
  case done =>
    rintro D X2 V hD hxD hG hF ⟨v, k3, o3, hSl, hX2⟩ hdef
    obtain ⟨A, cp, rfl⟩ := row_slice o3
    have k1 := hF.blk hb1 (by omega)
    have k2 := hF.blk hb2 (by omega)
    have c1 := blk_cell k1 0
    have f1' := blk_free k1 0
    have c2 := blk_cell k2 0
    have f2 := blk_free k2 0
    have c3 := blk_cell k3 0
    have HE := Lib.hid (And.intro k1 (And.intro k2 (And.intro k3 (And.intro o3 (And.intro hF (And.intro hdef (And.intro hxD (And.intro hX2 (And.intro hSl hD)))))))))
    clear k1 k2 k3 o3 hF hdef hxD hX2 hSl hD hG hYb hseq hY heg f1  hb1 hb2 hb3 z1 z2
    gi_wp2_with fail
    obtain ⟨k1, k2, k3, o3, hF, hdef, hxD, hX2, hSl, hD⟩ := HE.out
    obtain ⟨f1, hb1, hb2, z1, z2⟩ := H.out
    obtain ⟨W3, hW3⟩ : ∃ W3, (V.setCell ⟨w.heap.size, 0, none⟩ (Value.slice A xs.length cp)).setCell ⟨w.heap.size + 1, 0, none⟩ (Value.bool true) = W3 := ⟨_, rfl⟩
    rw [hW3]
    have a1 : W3.heap[w.heap.size]? = some (.cells #[.slice A xs.length cp] 38 (0, 0)) := by
      rw [← hW3]
      exact blk_other (blk_set k1 0 _) _ (by simp) _
    have a2 : W3.heap[w.heap.size + 1]? = some (.cells #[.bool true] 4 (0, 0)) := by
      rw [← hW3]
      exact blk_set (blk_other k2 _ (by simp) _) 0 _
    have a3 : W3.heap[D]? = some (.deferred (some [])) := by
      rw [← hW3]
      exact blk_other (blk_other hdef _ (by simp; omega) _) _ (by simp; omega) _
    have a4 : OwnT w1.heap.size W3 (.slice A xs.length cp) xs := ownT_kept o3 fun g hg => by
      have := (o3.lt g hg).1
      rw [← hW3]
      exact (heap_setCell_other _ _ g _ (by simp; omega)).trans (heap_setCell_other _ _ g _ (by simp; omega))
    have a5 : Below w.heap.size w W3 := by
      have h5 : Below w.heap.size w V := (f1.mono (Y := fun k => k = w.heap.size + 2) (fun _ _ h => h.elim)).trans3 hF (fun k _ e => e) |>.below (Nat.le_refl _) fun k hk e => by omega
      rw [← hW3]
      exact (h5.setCell (by simp) _).setCell (by simp) _
    refine leaves_one D _ a3 fun w' hf => ?_
    have e1 := hf.blk a1 (by omega)
    have e2 := hf.blk a2 (by omega)
    refine ⟨_, results_box2 rfl _ _ (w.heap.size) (w.heap.size + 1) _ _ _ _ rfl (blk_cell e1 0) rfl (blk_cell e2 0) Tryz.underlying38 rfl Tryz.underlying4 rfl, ⟨.slice A xs.length cp, rfl, ?_⟩, a5.trans (hf.below a5.size fun k _ e => by omega)⟩
    exact ownT_base (ownT_kept a4 fun g hg => hf.block g (a4.lt g hg).2 fun e => hxD ((hX2 D).2 (.inr (e ▸ hg)))) (by omega)
end Go.Proofs.YtnoeblnljfnecaaGreatDoor
end
section
/- Layer 21: the law's clients. -/
namespace Go.Proofs.YtnoeblnljfnecaaGreatDoor
set_option linter.unusedVariables false
set_option linter.unusedSimpArgs false
open Go Go.RowKit Go.Lib Go.Sort Go.Shelf
attribute [local go_sem] Oper.semAt_some

/-- a box with a row of numbers: its blocks are X -/
def Box21L (S base : Nat) (pre : List Int) (X : Nat → Prop) (W : World) : Prop := ∃ v, W.heap[S]? = some (.cells #[v] 41 (0, 0)) ∧ OwnI base W v pre ∧ S < base ∧ ∀ k, X k ↔ (k = S ∨ v.ownBlock = some k)
theorem box21L_stays (S base : Nat) : Stays (Box21L S base) := fun pre X V V' ⟨v, h1, h2, h3, h4⟩ hl hf =>
  ⟨v, hf.blk h1 (fun e => e ((h4 S).2 (.inl rfl))), own_kept h2 fun g hg => hf.block g (h2.lt g hg).2 fun e => e ((h4 g).2 (.inr hg)), h3, h4⟩
/-- what was told: a row of the call's own, and that it was all -/
def Told21L (xs : List Int) (w : World) (e : Ending) (w' : World) : Prop := (∃ v, e = .returned (.tuple #[v, .bool true]) ∧ OwnI w.heap.size w' v xs) ∧ Below w.heap.size w w'
set_option maxRecDepth 100000 in
set_option maxHeartbeats 4000000 in
theorem clients21 {w : World} {po : Option Addr} {a : List UInt8} {xs : List Int} (hOf : ∀ V, Fr (fun _ => False) w V → Calls Tryz.prog 36 #[.pointer po, .string (bs a)] V (AllP xs V)) (hm : xs.length ≤ 99) : Calls Tryz.prog 16 #[.pointer po, .string (bs a)] w (Told21L xs w) := by
  obtain ⟨i0, hi, hz0, hz1, hz2⟩ := info_parts Tryz.infoI
  have HOf := Lib.hid hOf
  clear hOf
  refine (callsIn_wide (n := 20)).1 ?_
  refine callsIn_of_wp_marks Tryz.func16 rfl trivial ?_ rfl
  simp only [Tryz.ntmps16, List.size_toArray, List.length_cons, List.length_nil, Nat.reduceAdd, Nat.reduceSub, Array.replicate_succ, Array.replicate_zero, List.push_toArray, List.append_toArray, List.nil_append, List.cons_append]
  gi_wp2_with fail
  obtain ⟨w1, hw1⟩ : ∃ w1, ((w.alloc (Obj.cells #[Value.slice none 0 0] 41)).alloc (Obj.cells #[Value.bool false] 4)).alloc (Obj.cells #[Value.slice none 0 0] 41) = w1 := ⟨_, rfl⟩
  rw [hw1]
  have f0 : Fr (fun _ => False) w w1 := by rw [← hw1]; exact (((Fr.refl _ w).alloc _).alloc _).alloc _
  have HO0 := Lib.hid (HOf.out w1 f0)
  have HF0 := Lib.hid (And.intro hw1 f0)
  clear hw1 f0
  refine ⟨trivial, (calls_wide (.inl rfl) HO0.out).mono ?_⟩
  rintro e w2 ⟨⟨F, rfl, hT⟩, hb20⟩
  obtain ⟨Y, hYb, gf, lb, rfl, hseq, hY, heg⟩ := tellsI_tale (base := w1.heap.size) hT (by omega)
  have hnil : ∀ W, (binOp BinOp.eql 75 (.func (.func gf) #[] lb) Value.nilFunc).run Tryz.prog W = .ok (.bool false) W := fun W => by rfl
  have H20 := Lib.hid (And.intro hb20 (And.intro hYb (And.intro hseq (And.intro hY heg))))
  clear hb20 hYb hseq hY heg hT
  gi_wp2_with (simp only [hnil])
  obtain ⟨hw1, f0⟩ := HF0.out
  obtain ⟨hb20, hYb, hseq, hY, heg⟩ := H20.out
  have hfr20 : Fr (fun _ => False) w1 w2 := Fr.of_below hb20
  have z1 : w1.heap.size = w.heap.size + 3 := by rw [← hw1]; simp
  have f1 : Fr (fun _ => False) w w1 := by rw [← hw1]; exact (((Fr.refl _ w).alloc _).alloc _).alloc _
  have hb1 : w1.heap[w.heap.size]? = some (.cells #[.slice none 0 0] 41 (0, 0)) := by rw [← hw1]; exact blk_alloc (blk_alloc (heap_alloc_new w _) _) _
  have hb2 : w1.heap[w.heap.size + 1]? = some (.cells #[.bool false] 4 (0, 0)) := by rw [← hw1]; exact blk_alloc (heap_alloc2_new w _ _) _
  have hb3 : w1.heap[w.heap.size + 2]? = some (.cells #[.slice none 0 0] 41 (0, 0)) := by
    rw [← hw1]
    have := heap_alloc2_new (w.alloc (Obj.cells #[Value.slice none 0 0] 41)) (Obj.cells #[Value.bool false] 4) (Obj.cells #[Value.slice none 0 0] 41)
    rwa [World.size_alloc] at this
  have z2 : w1.heap.size ≤ w2.heap.size := hb20.size
  replace f1 := f1.trans hfr20
  replace hb1 := hfr20.blk hb1 fun e => e
  replace hb2 := hfr20.blk hb2 fun e => e
  replace hb3 := hfr20.blk hb3 fun e => e
  clear hw1 hfr20 hb20 f0
  have H := Lib.hid (And.intro f1 (And.intro hb1 (And.intro hb2 (And.intro z1 z2))))
  refine wpIn_rangeF (X := fun k => k = w.heap.size + 2) (Y := Y) (xs := xs) (encs := encI) (gf := gf) (lb := lb) (Box21L (w.heap.size + 2) w1.heap.size) (fun _ _ _ _ => False)
    rfl hseq (fun k hk => ⟨by omega, fun e => by have := hYb k e; omega⟩) hY (by omega) heg (fun _ => rfl)
    (box21L_stays _ _) (fun c s X1 V1 V2 h => h.elim) ⟨_, hb3, own_nil _ _, by omega, fun k => by simp [Value.ownBlock]⟩ ?round ?done (fun _ _ _ _ _ _ _ _ _ _ _ h => h.elim)
  case round =>
    rintro l pre x r X1 V K rb hl2 hpx hI hG hxl hF hlV hK
    dsimp only [encI]
    have HK := Lib.hid hK
    have HV := Lib.hid (And.intro hpx (And.intro hI (And.intro hG (And.intro hxl (And.intro hF (And.intro hlV hl2))))))
    clear hK hpx hI hG hxl hF hlV hl2 hYb hseq hY heg f1  hb1 hb2 hb3 z1 z2
    gi_wp2_with fail
    refine HK.out _ _ (Fr.refl _ _) fun Vb hfb hzb hsb hrb => ?_
    clear HK K
    obtain ⟨hpx, ⟨vb, k3, o3, hSl, hX1⟩, hG, hxl, hF, hlV, hl2⟩ := HV.out
    obtain ⟨f1, hb1, hb2, z1, z2⟩ := H.out
    have hpl : pre.length + 1 ≤ xs.length := by
      have := congrArg List.length hpx
      simp at this; omega
    have p2 : ¬ ((99 : Int) < (pre.length : Int)) := by omega
    have q2 : decide ((99 : Int) < (pre.length : Int)) = false := decide_eq_false p2
    have k3b := hfb.blk k3 (by omega : ¬ w.heap.size + 2 = l)
    have o3b : OwnI w1.heap.size Vb vb pre := own_kept o3 fun g hg => hfb.block g (o3.lt g hg).2 fun e => hxl ((hX1 l).2 (.inr (e ▸ hg)))
    have c3 := blk_cell k3b 0
    have hzs : Vb.heap.size = V.heap.size := hzb
    have hbz : w1.heap.size ≤ Vb.heap.size := by omega
    have hor : Vb.ownsRow w1.heap.size 3 1 vb pre.length (pre.map (Value.int .i64)) := o3b
    have HO := Lib.hid hor
    have HE := Lib.hid (And.intro hX1 (And.intro hG (And.intro hxl (And.intro hfb (And.intro hrb (And.intro k3b (And.intro o3b (And.intro hzs (And.intro hlV (And.intro hSl hl2))))))))))
    clear hpx k3 o3 hSl hX1 hG hxl hF hlV hl2 f1  hb1 hb2 z1 z2 k3b o3b hor hfb hzb hsb hrb hzs
    have hlen : ∀ W, (Builtin.len_ #[41] 3 #[vb]).run Tryz.prog W = .ok (.int .i64 pre.length) W := fun W => by obtain ⟨A, cp, rfl⟩ := row_slice HO.out; rfl
    gi_wp2_with (first | (gi_at_builtin; refine Hid.out ?_) | simp only [hlen])
    refine Lib.hid ?_
    refine wpListIn_one_t rfl _ _ 41 rfl w1.heap.size 3 i0 _ 1 8 Tryz.underlying41 hi hz0 hz1 hz2 rfl (by decide) _ _ _ rfl HO.out #[.int .i64 x] _ rfl rfl rfl (by intro u hu; simp at hu; subst hu; rfl) (by omega) (by decide) hbz ?_
    intro v1 W2 hown1 hfr1 htie
    obtain ⟨A1, c1', rfl⟩ := row_slice hown1
    have hn3 : ∀ k, vb.ownBlock = some k → k ≠ w.heap.size + 2 := fun k hk e => by have := (HO.out.lt k hk).1; have := HE.out.2.2.2.2.2.2.2.2.2.1; omega
    have e1 : W2.heap[w.heap.size + 2]? = some (.cells #[vb] 41 (0, 0)) := hfr1.blk HE.out.2.2.2.2.2.1 fun e => hn3 _ e rfl
    have g1 := blk_cell e1 0
    have g2 := blk_free e1 0
    have HN := Lib.hid hn3
    clear hn3
    gi_wp2_with fail
    obtain ⟨hX1, hG, hxl, hfb, hrb, k3b, o3b, hzs, hlV, hSl, hl2⟩ := HE.out
    have hn3 := HN.out
    have z2 := H.out.2.2.2.2
    have z1 := H.out.2.2.2.1
    have hown2 : OwnI w1.heap.size W2 (.slice A1 (pre.length + 1) c1') (pre ++ [x]) := by
      unfold OwnI; rw [List.length_append, List.map_append]; exact hown1
    have hnx : (Value.slice A1 (pre.length + 1) c1').ownBlock ≠ some (w.heap.size + 2) := fun e => by have := (hown2.lt _ e).1; omega
    have hfr : Fr (fun k => k = l ∨ X1 k) V (W2.setCell ⟨w.heap.size + 2, 0, none⟩ (.slice A1 (pre.length + 1) c1')) :=
      (((hfb.mono (Y := fun k => k = l ∨ X1 k) fun k _ e => .inl e).trans3 hfr1 fun k _ e => .inr ((hX1 k).2 (.inr e)))).setCell _ (.inr ((hX1 _).2 (.inl rfl))) _
    refine ⟨fun k => k = w.heap.size + 2 ∨ (Value.slice A1 (pre.length + 1) c1').ownBlock = some k, fun k hk => ?_, hfr, ?_, .slice A1 (pre.length + 1) c1', blk_set e1 0 _, ?_, hSl, fun k => Iff.rfl⟩
    · have hz2 := hfr1.size
      have hsz : (W2.setCell ⟨w.heap.size + 2, 0, none⟩ (.slice A1 (pre.length + 1) c1')).heap.size = W2.heap.size := by simp
      rw [hsz]
      rcases hk with rfl | hk
      · exact ⟨blk_lt e1, fun _ => (hX1 _).2 (.inl rfl)⟩
      · refine ⟨(hown2.lt k hk).2, fun hlt => ?_⟩
        rcases htie k hk with e | e
        · exact (hX1 k).2 (.inr e)
        · omega
    · have hl3 : ¬ vb.ownBlock = some l := fun e => hxl ((hX1 l).2 (.inr e))
      exact blk_other (hfr1.blk hrb hl3) _ (by simp; omega) _
    · exact own_kept hown2 fun g hg => heap_setCell_other W2 _ g _ fun e => by simp at e; exact hnx (e ▸ hg)
  case done =>
    rintro D X2 V hD hxD hG hF ⟨v, k3, o3, hSl, hX2⟩ hdef
    obtain ⟨A, cp, rfl⟩ := row_slice o3
    have k1 := hF.blk hb1 (by omega)
    have k2 := hF.blk hb2 (by omega)
    have c1 := blk_cell k1 0
    have f1' := blk_free k1 0
    have c2 := blk_cell k2 0
    have f2 := blk_free k2 0
    have c3 := blk_cell k3 0
    have HE := Lib.hid (And.intro k1 (And.intro k2 (And.intro k3 (And.intro o3 (And.intro hF (And.intro hdef (And.intro hxD (And.intro hX2 (And.intro hSl hD)))))))))
    clear k1 k2 k3 o3 hF hdef hxD hX2 hSl hD hG hYb hseq hY heg f1  hb1 hb2 hb3 z1 z2
    gi_wp2_with fail
    obtain ⟨k1, k2, k3, o3, hF, hdef, hxD, hX2, hSl, hD⟩ := HE.out
    obtain ⟨f1, hb1, hb2, z1, z2⟩ := H.out
    obtain ⟨W3, hW3⟩ : ∃ W3, (V.setCell ⟨w.heap.size, 0, none⟩ (Value.slice A xs.length cp)).setCell ⟨w.heap.size + 1, 0, none⟩ (Value.bool true) = W3 := ⟨_, rfl⟩
    rw [hW3]
    have a1 : W3.heap[w.heap.size]? = some (.cells #[.slice A xs.length cp] 41 (0, 0)) := by
      rw [← hW3]
      exact blk_other (blk_set k1 0 _) _ (by simp) _
    have a2 : W3.heap[w.heap.size + 1]? = some (.cells #[.bool true] 4 (0, 0)) := by
      rw [← hW3]
      exact blk_set (blk_other k2 _ (by simp) _) 0 _
    have a3 : W3.heap[D]? = some (.deferred (some [])) := by
      rw [← hW3]
      exact blk_other (blk_other hdef _ (by simp; omega) _) _ (by simp; omega) _
    have a4 : OwnI w1.heap.size W3 (.slice A xs.length cp) xs := own_kept o3 fun g hg => by
      have := (o3.lt g hg).1
      rw [← hW3]
      exact (heap_setCell_other _ _ g _ (by simp; omega)).trans (heap_setCell_other _ _ g _ (by simp; omega))
    have a5 : Below w.heap.size w W3 := by
      have h5 : Below w.heap.size w V := (f1.mono (Y := fun k => k = w.heap.size + 2) (fun _ _ h => h.elim)).trans3 hF (fun k _ e => e) |>.below (Nat.le_refl _) fun k hk e => by omega
      rw [← hW3]
      exact (h5.setCell (by simp) _).setCell (by simp) _
    refine leaves_one D _ a3 fun w' hf => ?_
    have e1 := hf.blk a1 (by omega)
    have e2 := hf.blk a2 (by omega)
    refine ⟨_, results_box2 rfl _ _ (w.heap.size) (w.heap.size + 1) _ _ _ _ rfl (blk_cell e1 0) rfl (blk_cell e2 0) Tryz.underlying41 rfl Tryz.underlying4 rfl, ⟨.slice A xs.length cp, rfl, ?_⟩, a5.trans (hf.below a5.size fun k _ e => by omega)⟩
    exact row_baseP (own_kept a4 fun g hg => hf.block g (a4.lt g hg).2 fun e => hxD ((hX2 D).2 (.inr (e ▸ hg)))) (by omega)
end Go.Proofs.YtnoeblnljfnecaaGreatDoor
end
section
/- Layer 12, as mathematics: words between blanks; what requests make of capabilities, bit by bit. -/
namespace Go.Proofs.YtnoeblnljfnecaaGreatDoor
open Go

/-- the pieces between blanks -/
def splitL : List UInt8 → List (List UInt8)
  | [] => [[]]
  | c :: r => if c = 32 then [] :: splitL r else match splitL r with
    | [] => [[c]]
    | p :: ps => (c :: p) :: ps
theorem splitL_ne : ∀ l, splitL l ≠ []
  | [] => by simp [splitL]
  | c :: r => by
    unfold splitL
    split
    · simp
    · split <;> simp
theorem splitL_none : ∀ p : List UInt8, (32 : UInt8) ∉ p → splitL p = [p]
  | [], _ => rfl
  | c :: r, h => by
    have h1 : c ≠ 32 := fun e => h (by rw [e]; exact List.mem_cons_self)
    unfold splitL
    rw [if_neg h1, splitL_none r (fun e => h (List.mem_cons_of_mem _ e))]
theorem splitL_cut : ∀ (p q : List UInt8), (32 : UInt8) ∉ p → splitL (p ++ 32 :: q) = p :: splitL q
  | [], q, _ => by simp [splitL]
  | c :: r, q, h => by
    have h1 : c ≠ 32 := fun e => h (by rw [e]; exact List.mem_cons_self)
    rw [List.cons_append]
    conv => lhs; unfold splitL
    rw [if_neg h1, splitL_cut r q (fun e => h (List.mem_cons_of_mem _ e))]
theorem splitL_blank (r : List UInt8) : splitL (32 :: r) = [] :: splitL r := by
  conv => lhs; unfold splitL
  rw [if_pos rfl]
theorem splitL_more {c : UInt8} {r p : List UInt8} {ps : List (List UInt8)} (h : c ≠ 32) (hs : splitL r = p :: ps) : splitL (c :: r) = (c :: p) :: ps := by
  conv => lhs; unfold splitL
  rw [if_neg h, hs]
theorem splitL_append : ∀ (a b : List UInt8), splitL (a ++ 32 :: b) = splitL a ++ splitL b
  | [], b => by rw [List.nil_append, splitL_blank]; rfl
  | c :: r, b => by
    have ih := splitL_append r b
    rw [List.cons_append]
    by_cases hc : c = 32
    · subst hc; rw [splitL_blank, splitL_blank, ih]; rfl
    · cases hs : splitL r with
      | nil => exact absurd hs (splitL_ne r)
      | cons p ps =>
        rw [hs] at ih
        rw [splitL_more hc hs, splitL_more hc (by rw [ih]; rfl)]
        rfl
theorem splitL_len : ∀ l : List UInt8, (splitL l).length ≤ l.length + 1
  | [] => by simp [splitL]
  | c :: r => by
    have := splitL_len r
    unfold splitL
    split
    · simp; omega
    · split
      · simp
      · rename_i h; rw [h] at this; simp at this ⊢; omega

/-! whole numbers of 64 bits -/
theorem wrap_nat (v : BitVec 64) : IntKind.i64.wrap ((v.toNat : Nat) : Int) = v.toInt := by
  have h := v.isLt
  rw [IntKind.wrap_i64, BitVec.toInt_eq_toNat_cond]
  split <;> omega
/-- what a whole number is, of 64 bits -/
def IV (v : BitVec 64) : Int := v.toInt
theorem of_toInt (v : BitVec 64) : BitVec.ofInt 64 v.toInt = v := BitVec.ofInt_toInt
theorem bits_or_v (v m : BitVec 64) : bits .or .i64 (IV v) (IV m) = IV (v ||| m) := by
  show IntKind.i64.wrap (((BitVec.ofInt 64 v.toInt ||| BitVec.ofInt 64 m.toInt).toNat : Nat) : Int) = _
  rw [of_toInt, of_toInt, wrap_nat]; rfl
theorem bits_and_v (v m : BitVec 64) : bits .and .i64 (IV v) (IV m) = IV (v &&& m) := by
  show IntKind.i64.wrap (((BitVec.ofInt 64 v.toInt &&& BitVec.ofInt 64 m.toInt).toNat : Nat) : Int) = _
  rw [of_toInt, of_toInt, wrap_nat]; rfl
theorem bits_xor_v (v m : BitVec 64) : bits .xor .i64 (IV v) (IV m) = IV (v ^^^ m) := by
  show IntKind.i64.wrap (((BitVec.ofInt 64 v.toInt ^^^ BitVec.ofInt 64 m.toInt).toNat : Nat) : Int) = _
  rw [of_toInt, of_toInt, wrap_nat]; rfl
theorem bits_andNot_v (v m : BitVec 64) : bits .andNot .i64 (IV v) (IV m) = IV (v &&& ~~~m) := by
  show IntKind.i64.wrap (((BitVec.ofInt 64 v.toInt &&& ~~~BitVec.ofInt 64 m.toInt).toNat : Nat) : Int) = _
  rw [of_toInt, of_toInt, wrap_nat]; rfl
theorem IV_beq (v m : BitVec 64) : (IV v == IV m) = (v == m) := by
  unfold IV
  rw [Bool.eq_iff_iff, beq_iff_eq, beq_iff_eq]
  exact ⟨fun h => BitVec.eq_of_toInt_eq h, fun h => by rw [h]⟩
theorem bit_eq {v m : BitVec 64} (h : ∀ i, v.getLsbD i = m.getLsbD i) : v = m := BitVec.eq_of_getLsbD_eq fun i _ => h i
theorem toggle_set {v m : BitVec 64} (h : v &&& m = m) : v ||| m = v ∧ v ^^^ m = v &&& ~~~m := by
  have hb : ∀ i, (v.getLsbD i && m.getLsbD i) = m.getLsbD i := fun i => by rw [← BitVec.getLsbD_and, h]
  refine ⟨BitVec.eq_of_getLsbD_eq fun i hi => ?_, BitVec.eq_of_getLsbD_eq fun i hi => ?_⟩
  · have := hb i
    rw [BitVec.getLsbD_or]
    cases hv : v.getLsbD i <;> cases hm : m.getLsbD i <;> simp_all
  · have := hb i
    rw [BitVec.getLsbD_xor, BitVec.getLsbD_and, BitVec.getLsbD_not]
    cases hv : v.getLsbD i <;> cases hm : m.getLsbD i <;> simp_all
theorem toggle_clear {v m : BitVec 64} (h : v &&& m = 0#64) : v ||| m = v ^^^ m ∧ v &&& ~~~m = v := by
  have hb : ∀ i, (v.getLsbD i && m.getLsbD i) = false := fun i => by rw [← BitVec.getLsbD_and, h]; simp
  refine ⟨BitVec.eq_of_getLsbD_eq fun i hi => ?_, BitVec.eq_of_getLsbD_eq fun i hi => ?_⟩
  · have := hb i
    rw [BitVec.getLsbD_or, BitVec.getLsbD_xor]
    cases hv : v.getLsbD i <;> cases hm : m.getLsbD i <;> simp_all
  · have := hb i
    rw [BitVec.getLsbD_and, BitVec.getLsbD_not]
    cases hv : v.getLsbD i <;> cases hm : m.getLsbD i <;> simp_all

/-! capabilities -/
def awayL : List UInt8 := [97, 119, 97, 121, 45, 110, 111, 116, 105, 102, 121]
def echoL : List UInt8 := [101, 99, 104, 111, 45, 109, 101, 115, 115, 97, 103, 101]
def multiL : List UInt8 := [109, 117, 108, 116, 105, 45, 112, 114, 101, 102, 105, 120]
/-- a name's number -/
def numV (l : List UInt8) : BitVec 64 := if l = awayL then 1#64 else if l = echoL then 2#64 else if l = multiL then 4#64 else 0#64
theorem numV_bit (l : List UInt8) (h : numV l ≠ 0#64) (v : BitVec 64) : v &&& numV l = numV l ∨ v &&& numV l = 0#64 := by
  have two : ∀ i, v &&& BitVec.twoPow 64 i = BitVec.twoPow 64 i ∨ v &&& BitVec.twoPow 64 i = 0#64 := fun i => by
    rw [BitVec.and_twoPow]
    split
    · exact .inl rfl
    · exact .inr rfl
  unfold numV at h ⊢
  split
  · exact two 0
  · split
    · exact two 1
    · split
      · exact two 2
      · simp_all
/-- a word's name, and whether it is taken off -/
def cutV : List UInt8 → List UInt8 × Bool
  | [] => ([], false)
  | c :: r => if c = 45 then (r, true) else (c :: r, false)
def stepV (v m : BitVec 64) (off : Bool) : BitVec 64 := if off then v &&& ~~~m else v ||| m
def appV (h : BitVec 64) : BitVec 64 → List (List UInt8) → BitVec 64 × Bool
  | v, [] => (v, true)
  | v, w :: r => if w = [] then appV h v r else if numV (cutV w).1 = 0#64 then (h, false) else appV h (stepV v (numV (cutV w).1) (cutV w).2) r
theorem appV_skip {h v : BitVec 64} {r : List (List UInt8)} : appV h v ([] :: r) = appV h v r := by simp [appV]
theorem appV_bad {h v : BitVec 64} {w : List UInt8} {r : List (List UInt8)} (hw : w ≠ []) (hn : numV (cutV w).1 = 0#64) : appV h v (w :: r) = (h, false) := by simp [appV, hw, hn]
theorem appV_good {h v : BitVec 64} {w : List UInt8} {r : List (List UInt8)} (hw : w ≠ []) (hn : numV (cutV w).1 ≠ 0#64) : appV h v (w :: r) = appV h (stepV v (numV (cutV w).1) (cutV w).2) r := by simp [appV, hw, hn]
/-- the document's step is the same -/
theorem step_same (l : List UInt8) (hl : numV l ≠ 0#64) (v : BitVec 64) (on : Bool) : (if ((v &&& numV l) == numV l) != on then v ^^^ numV l else v) = stepV v (numV l) (!on) := by
  unfold stepV
  rcases numV_bit l hl v with h | h
  · have := toggle_set h
    rw [h, this.1, ← this.2]
    cases on <;> simp
  · have := toggle_clear h
    rw [h, this.1, this.2]
    have h0 : (0#64 == numV l) = false := by rw [beq_eq_false_iff_ne]; exact fun e => hl e.symm
    rw [h0]
    cases on <;> simp
theorem form_off (v m M S : BitVec 64) : ((v &&& ~~~m) &&& ~~~M) ||| S = (v &&& ~~~(m ||| M)) ||| S := BitVec.eq_of_getLsbD_eq fun i hi => by
  simp only [BitVec.getLsbD_or, BitVec.getLsbD_and, BitVec.getLsbD_not, hi]
  cases v.getLsbD i <;> cases m.getLsbD i <;> cases M.getLsbD i <;> cases S.getLsbD i <;> rfl
theorem form_on (v m M S : BitVec 64) : ((v ||| m) &&& ~~~M) ||| S = (v &&& ~~~M) ||| ((m &&& ~~~M) ||| S) := BitVec.eq_of_getLsbD_eq fun i hi => by
  simp only [BitVec.getLsbD_or, BitVec.getLsbD_and, BitVec.getLsbD_not, hi]
  cases v.getLsbD i <;> cases m.getLsbD i <;> cases M.getLsbD i <;> cases S.getLsbD i <;> rfl
theorem form_twice (v M S : BitVec 64) : ((((v &&& ~~~M) ||| S) &&& ~~~M) ||| S) = (v &&& ~~~M) ||| S := BitVec.eq_of_getLsbD_eq fun i hi => by
  simp only [BitVec.getLsbD_or, BitVec.getLsbD_and, BitVec.getLsbD_not, hi]
  cases v.getLsbD i <;> cases M.getLsbD i <;> cases S.getLsbD i <;> rfl
theorem appV_form : ∀ ws : List (List UInt8), (∃ M S : BitVec 64, ∀ h v, appV h v ws = ((v &&& ~~~M) ||| S, true)) ∨ (∀ h v, appV h v ws = (h, false))
  | [] => .inl ⟨0#64, 0#64, fun h v => by
      have : (v &&& ~~~(0#64)) ||| 0#64 = v := BitVec.eq_of_getLsbD_eq fun i hi => by
        have h0 : (0#64).getLsbD i = false := by simp
        rw [BitVec.getLsbD_or, BitVec.getLsbD_and, BitVec.getLsbD_not, h0]
        simp only [hi, decide_true, Bool.true_and, Bool.not_false, Bool.and_true, Bool.or_false]
      rw [this]; rfl⟩
  | w :: r => by
    by_cases hw : w = []
    · subst hw
      rcases appV_form r with ⟨M, S, hf⟩ | hf
      · exact .inl ⟨M, S, fun h v => by rw [appV_skip, hf]⟩
      · exact .inr fun h v => by rw [appV_skip, hf]
    · by_cases hn : numV (cutV w).1 = 0#64
      · exact .inr fun h v => appV_bad hw hn
      · rcases appV_form r with ⟨M, S, hf⟩ | hf
        · cases ho : (cutV w).2 with
          | true => exact .inl ⟨numV (cutV w).1 ||| M, S, fun h v => by rw [appV_good hw hn, hf, ho]; unfold stepV; rw [if_pos rfl, form_off]⟩
          | false => exact .inl ⟨M, (numV (cutV w).1 &&& ~~~M) ||| S, fun h v => by rw [appV_good hw hn, hf, ho]; unfold stepV; rw [if_neg (by simp), form_on]⟩
        · exact .inr fun h v => by rw [appV_good hw hn, hf]
theorem appV_append (h : BitVec 64) : ∀ (a b : List (List UInt8)) (v : BitVec 64), appV h v (a ++ b) = if (appV h v a).2 then appV h (appV h v a).1 b else (h, false)
  | [], b, v => by simp [appV]
  | w :: r, b, v => by
    rw [List.cons_append]
    by_cases hw : w = []
    · subst hw; rw [appV_skip, appV_skip, appV_append h r b v]
    · by_cases hn : numV (cutV w).1 = 0#64
      · rw [appV_bad hw hn, appV_bad hw hn]; simp
      · rw [appV_good hw hn, appV_good hw hn, appV_append h r b]
/-- what a request makes of capabilities -/
def capV (h : BitVec 64) (l : List UInt8) : BitVec 64 × Bool := appV h h (splitL l)
theorem cap_again (h : BitVec 64) (l : List UInt8) : capV (capV h l).1 l = capV h l := by
  unfold capV
  rcases appV_form (splitL l) with ⟨M, S, hf⟩ | hf
  · rw [hf, hf, form_twice]
  · rw [hf, hf]
theorem cap_two (h : BitVec 64) (a b : List UInt8) :
    ((capV h a).2 = true ∧ (capV (capV h a).1 b).2 = true → capV h (a ++ 32 :: b) = ((capV (capV h a).1 b).1, true)) ∧
    (¬ ((capV h a).2 = true ∧ (capV (capV h a).1 b).2 = true) → capV h (a ++ 32 :: b) = (h, false)) ∧ ((capV h a).2 = false → (capV h a).1 = h) ∧ ((capV (capV h a).1 b).2 = false → (capV (capV h a).1 b).1 = (capV h a).1) := by
  unfold capV
  rw [splitL_append, appV_append]
  rcases appV_form (splitL a) with ⟨M, S, hf⟩ | hf <;> rcases appV_form (splitL b) with ⟨M', S', hg⟩ | hg <;> simp only [hf, hg] <;> simp
end Go.Proofs.YtnoeblnljfnecaaGreatDoor
end
