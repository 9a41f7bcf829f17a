/- Texts of this proof, one behind the other. -/
import Derived.Test.YtlkeomcillencaaGreatRoomsOrderG16
set_option linter.unusedVariables false
set_option linter.unusedSimpArgs false
section
/- Layer 20: nil rooms. -/
namespace Go.Proofs.YtlkeomcillencaaGreat
open Go Go.RowKit Go.Maps Go.Sort Go.Shelf Go.Lib
attribute [local go_sem] Oper.semAt_some

/-- a box that stays as it is -/
def NilJ {α : Type} (S : Nat) (o : Obj) (_ : List α) (X : Nat → Prop) (W : World) : Prop := W.heap[S]? = some o ∧ ∀ k, X k ↔ k = S
theorem nilJ_stays {α : Type} (S : Nat) (o : Obj) : Stays (NilJ (α := α) S o) := fun pre X V V' ⟨h1, h2⟩ hl hf => ⟨hf.blk h1 (fun e => e ((h2 S).2 rfl)), h2⟩
/-- what tells no room -/
def NoRm (w : World) (e : Ending) (w' : World) : Prop := (∃ F, e = .returned F ∧ TalePr w.heap.size w' F []) ∧ RowKit.Below w.heap.size w w'
theorem sorted_nilP (from_ : ByteArray) (w : World) : Calls Tryz.prog 83 #[.pointer none, .string from_] w fun e w' => e = .returned (.slice none 0 0) ∧ Fr (fun _ => False) w w' := by
  go_enter Tryz.func83, Tryz.ntmps83
  go_wp2_with fail
  go_ret
  exact ⟨rfl, ((Fr.refl _ w).alloc _).alloc _⟩
theorem all_nilP (w : World) : Calls Tryz.prog 57 #[.pointer none] w fun e w' => (∃ F, e = .returned F ∧ TaleEP w.heap.size w' F []) ∧ Fr (fun _ => False) w w' := by
  go_enter Tryz.func57, Tryz.ntmps57
  go_wp2_with fail
  refine (sorted_nilP _ _).mono ?_
  rintro e w1 ⟨rfl, f1⟩
  have F1 := Lib.hid f1
  clear f1
  go_wp2_with fail
  refine (told_ofP (base := w.heap.size) (A := none) (c := 0) (xs := []) (ownEP_nil _ _) F1.out.size).mono ?_
  rintro e w2 ⟨⟨F, rfl, hT⟩, f2⟩
  have F2 := Lib.hid (And.intro hT f2)
  clear hT f2
  go_wp2_with fail
  go_ret
  exact ⟨⟨F, rfl, F2.out.1⟩, F1.out.trans F2.out.2⟩
set_option maxRecDepth 100000 in
set_option maxHeartbeats 8000000 in
theorem all_nil (w : World) : Calls Tryz.prog 24 #[.pointer none] w (NoRm w) := by
  obtain ⟨w1, hw1⟩ : ∃ w1, w.alloc (Obj.cells #[Value.slice none 0 0] 104) = w1 := ⟨_, rfl⟩
  have z1 : w1.heap.size = w.heap.size + 1 := by rw [← hw1]; simp
  have f1 : Fr (fun _ => False) w w1 := by rw [← hw1]; exact (Fr.refl _ w).alloc _
  have hb1 : w1.heap[w.heap.size]? = some (.cells #[.slice none 0 0] 104 (0, 0)) := by rw [← hw1]; exact heap_alloc_new w _
  have HR := Lib.hid (rooms_nil w1)
  have HA := Lib.hid (all_nilP w1)
  have H := Lib.hid (And.intro f1 (And.intro hb1 z1))
  have HW := Lib.hid hw1
  clear f1 hb1 z1 hw1
  refine (callsIn_wide (n := 20)).1 ?_
  refine callsIn_of_wp_marks Tryz.func24 rfl trivial ?_ rfl
  simp only [Tryz.ntmps24, List.size_toArray, List.length_cons, List.length_nil, Nat.reduceAdd, Nat.reduceSub, Array.replicate_succ, Array.replicate_zero, List.push_toArray, List.append_toArray, List.nil_append, List.cons_append]
  gi_wp2_with fail
  rw [HW.out]
  refine ⟨trivial, (calls_wide (.inl rfl) HR.out).mono ?_⟩
  rintro e w2 ⟨rfl, rfl⟩
  clear HW HR
  gi_wp2_with fail
  refine ⟨trivial, (calls_wide (.inl rfl) HA.out).mono ?_⟩
  rintro e w3 ⟨⟨F, rfl, hT⟩, f3⟩
  clear HA
  obtain ⟨Y, hYb, gf, lb, rfl, hseq, hYl, heg⟩ := taleEP_tells hT (by simp)
  obtain ⟨f1, hb1, z1⟩ := H.out
  have z3 := f3.size
  have hb3 := f3.blk hb1 fun e => e
  have hY3 : ∀ k, Y k → k ≠ w.heap.size := fun k hk => by have := hYb k hk; omega
  have HF := Lib.hid (And.intro (f1.trans f3) (show w.heap.size + 1 ≤ w3.heap.size by omega))
  clear hT
  gi_wp2_with fail
  refine wpIn_rangeF (X := fun k => k = w.heap.size) (Y := Y) (xs := []) (encs := encPP) (gf := gf) (lb := lb) (NilJ w.heap.size (.cells #[.slice none 0 0] 104 (0, 0))) (fun _ _ _ _ => False)
    rfl hseq (fun k hk => ⟨by omega, fun e => hY3 k e hk⟩) hYl (by omega) heg (fun _ => rfl)
    (nilJ_stays _ _) (fun c s X1 V1 V2 h => h.elim) ⟨hb3, fun k => Iff.rfl⟩ ?round ?done (fun _ _ _ _ _ _ _ _ _ _ _ h => h.elim)
  case round =>
    rintro l pre x r X1 V KK rb hl2 hpx
    exact absurd hpx (by simp)
  case done =>
    rintro D X2 V hD hxD hG hF ⟨k3, hX2⟩ hdef
    have c3 := blk_cell k3 0
    have HV := Lib.hid (values_callsPr none 0 0 V)
    have HE := Lib.hid (And.intro hF (And.intro hdef hD))
    clear k3 hF hdef hxD hX2 hD hG hseq hYl heg hYb hY3
    gi_wp2_with fail
    refine ⟨trivial, (calls_wide (.inl rfl) HV.out).mono ?_⟩
    intro e W4 hv
    obtain ⟨hF, hdef, hD⟩ := HE.out
    obtain ⟨F, rfl, hT, hb⟩ := tale_ofPr (xs := []) (Nat.le_refl V.heap.size) (ownPr_nil _ _) hv
    have d4 := (Fr.of_below (X := fun _ => False) hb).blk hdef fun e => e
    have HQ := Lib.hid (And.intro hT (And.intro hb d4))
    clear hF hdef hD hT hb d4 hv c3 HV
    gi_wp2_with fail
    obtain ⟨hT, hb, d4⟩ := HQ.out
    obtain ⟨hF, hdef, hD⟩ := HE.out
    have f4 : RowKit.Below w.heap.size w W4 := by
      have h5 : Fr (fun k => k = w.heap.size) w V := (HF.out.1.mono (Y := fun k => k = w.heap.size) fun _ _ e => e.elim).trans3 hF fun k _ e => e
      exact (h5.below (Nat.le_refl _) fun k hk e => by omega).trans (hb.mono h5.size)
    have hz4 := HF.out.2
    have hVz := hF.size
    have hDl := blk_lt hdef
    refine leaves_one D _ d4 fun w' hf => ?_
    refine ⟨F, by simp [results, Tryz.results24, go_sem], ⟨F, rfl, ?_⟩, f4.trans (hf.below f4.size fun k _ e => by omega)⟩
    obtain ⟨B, v, t1, t2, t3, t4, t5⟩ := hT
    have hBn : B ≠ D := fun e => by omega
    refine ⟨B, v, by omega, t2, hf.blk t3 hBn, t4, ownPr_base (ownPr_kept t5 fun g hg => hf.block g (t5.lt g hg).2 fun e => ?_) (by omega)⟩
    have hge := (t5.lt g hg).1
    have e2 : g = D := e
    omega
set_option maxRecDepth 100000 in
set_option maxHeartbeats 8000000 in
theorem of_nil (id : Int) (w : World) : Calls Tryz.prog 25 #[.pointer none, .int .i64 id] w (NoRm w) := by
  obtain ⟨N, hN⟩ : ∃ N, w.heap.size = N := ⟨_, rfl⟩
  obtain ⟨w1, hw1⟩ : ∃ w1, (w.alloc (Obj.cells #[.pointer none] 25)).alloc (Obj.cells #[Value.slice none 0 0] 104) = w1 := ⟨_, rfl⟩
  have z1 : w1.heap.size = N + 2 := by rw [← hw1, ← hN]; simp
  have f1 : Fr (fun _ => False) w w1 := by rw [← hw1]; exact ((Fr.refl _ w).alloc _).alloc _
  have hb0 : w1.heap[N]? = some (.cells #[.pointer none] 25 (0, 0)) := by rw [← hw1, ← hN]; exact blk_alloc (heap_alloc_new w _) _
  have hb1 : w1.heap[N + 1]? = some (.cells #[.slice none 0 0] 104 (0, 0)) := by rw [← hw1, ← hN]; exact heap_alloc2_new w _ _
  have HR := Lib.hid (joined_nil w1)
  have HA := Lib.hid (relOfNilIS id w1)
  have H := Lib.hid (And.intro f1 (And.intro hb1 (And.intro z1 hN)))
  have HW := Lib.hid (And.intro hN hw1)
  have c0 := blk_cell hb0 0
  clear f1 hb0 hb1 z1 hw1 hN
  refine (callsIn_wide (n := 20)).1 ?_
  refine callsIn_of_wp_marks Tryz.func25 rfl trivial ?_ rfl
  simp only [Tryz.ntmps25, List.size_toArray, List.length_cons, List.length_nil, Nat.reduceAdd, Nat.reduceSub, Array.replicate_succ, Array.replicate_zero, List.push_toArray, List.append_toArray, List.nil_append, List.cons_append]
  gi_wp2_with fail
  rw [HW.out.1]
  rw [HW.out.2]
  refine ⟨trivial, (calls_wide (.inl rfl) HR.out).mono ?_⟩
  rintro e w2 ⟨rfl, rfl⟩
  clear HW HR c0
  gi_wp2_with fail
  refine ⟨trivial, (calls_wide (.inl rfl) HA.out).mono ?_⟩
  rintro e w3 ⟨⟨F, rfl, hT⟩, hb3⟩
  clear HA
  have f3 : Fr (fun _ => False) w2 w3 := Fr.of_below hb3
  obtain ⟨Y, hYb, gf, lb, rfl, hseq, hYl, heg⟩ := tellsT_tale (show TaleT w2.heap.size w3 F [] from hT) (by simp)
  obtain ⟨f1, hb1, z1, hN⟩ := H.out
  have z3 := f3.size
  have j1 := f3.blk hb1 fun e => e
  have hY3 : ∀ k, Y k → N + 2 ≤ k := fun k hk => by have := hYb k hk; omega
  have HF := Lib.hid (And.intro (f1.trans f3) (show N + 2 ≤ w3.heap.size by omega))
  clear hT hb3
  gi_wp2_with fail
  refine wpIn_rangeF (X := fun k => k = N + 1) (Y := Y) (xs := []) (encs := encL) (gf := gf) (lb := lb) (NilJ (N + 1) (.cells #[.slice none 0 0] 104 (0, 0))) (fun _ _ _ _ => False)
    rfl hseq (fun k hk => ⟨by omega, fun e => by have := hY3 k e; omega⟩) hYl (by omega) heg (fun _ => rfl)
    (nilJ_stays _ _) (fun c s X1 V1 V2 h => h.elim) ⟨j1, fun k => Iff.rfl⟩ ?round ?done (fun _ _ _ _ _ _ _ _ _ _ _ h => h.elim)
  case round =>
    rintro l pre x r X1 V KK rb hl2 hpx
    exact absurd hpx (by simp)
  case done =>
    rintro D X2 V hD hxD hG hF ⟨k3, hX2⟩ hdef
    have c3 := blk_cell k3 0
    have HV := Lib.hid (values_callsPr none 0 0 V)
    have HE := Lib.hid (And.intro hF (And.intro hdef hD))
    clear k3 hF hdef hxD hX2 hD hG hseq hYl heg hYb hY3
    gi_wp2_with fail
    refine ⟨trivial, (calls_wide (.inl rfl) HV.out).mono ?_⟩
    intro e W4 hv
    obtain ⟨hF, hdef, hD⟩ := HE.out
    obtain ⟨F, rfl, hT, hb⟩ := tale_ofPr (xs := []) (Nat.le_refl V.heap.size) (ownPr_nil _ _) hv
    have d4 := (Fr.of_below (X := fun _ => False) hb).blk hdef fun e => e
    have HQ := Lib.hid (And.intro hT (And.intro hb d4))
    clear hF hdef hD hT hb d4 hv c3 HV
    gi_wp2_with fail
    obtain ⟨hT, hb, d4⟩ := HQ.out
    obtain ⟨hF, hdef, hD⟩ := HE.out
    have f4 : RowKit.Below w.heap.size w W4 := by
      have h5 : Fr (fun k => k = N + 1) w V := (HF.out.1.mono (Y := fun k => k = N + 1) fun _ _ e => e.elim).trans3 hF fun k _ e => e
      exact (h5.below (Nat.le_refl _) fun k hk e => by omega).trans (hb.mono h5.size)
    have hz4 := HF.out.2
    have hVz := hF.size
    have hDl := blk_lt hdef
    refine leaves_one D _ d4 fun w' hf => ?_
    refine ⟨F, by simp [results, Tryz.results25, go_sem], ⟨F, rfl, ?_⟩, f4.trans (hf.below f4.size fun k _ e => by omega)⟩
    obtain ⟨B, v, t1, t2, t3, t4, t5⟩ := hT
    have hBn : B ≠ D := fun e => by omega
    refine ⟨B, v, by omega, t2, hf.blk t3 hBn, t4, ownPr_base (ownPr_kept t5 fun g hg => hf.block g (t5.lt g hg).2 fun e => ?_) (by omega)⟩
    have hge := (t5.lt g hg).1
    have e2 : g = D := e
    omega
set_option maxRecDepth 100000 in
set_option maxHeartbeats 8000000 in
theorem peers_nil (id : Int) (w : World) : Calls Tryz.prog 27 #[.pointer none, .int .i64 id] w fun e w' => (∃ (F : Value) (Y : Nat → Prop), e = .returned F ∧ TellsF Tryz.prog encI w' F Y []) ∧ RowKit.Below w.heap.size w w' := by
  obtain ⟨N, hN⟩ : ∃ N, w.heap.size = N := ⟨_, rfl⟩
  obtain ⟨w1, hw1⟩ : ∃ w1, (w.alloc (Obj.cells #[.pointer none] 25)).alloc (Obj.cells #[Value.slice none 0 0] 109) = w1 := ⟨_, rfl⟩
  have z1 : w1.heap.size = N + 2 := by rw [← hw1, ← hN]; simp
  have f1 : Fr (fun _ => False) w w1 := by rw [← hw1]; exact ((Fr.refl _ w).alloc _).alloc _
  have hb0 : w1.heap[N]? = some (.cells #[.pointer none] 25 (0, 0)) := by rw [← hw1, ← hN]; exact blk_alloc (heap_alloc_new w _) _
  have hb1 : w1.heap[N + 1]? = some (.cells #[.slice none 0 0] 109 (0, 0)) := by rw [← hw1, ← hN]; exact heap_alloc2_new w _ _
  have HR := Lib.hid (joined_nil w1)
  have HA := Lib.hid (relOfNilIS id w1)
  have H := Lib.hid (And.intro f1 (And.intro hb1 (And.intro z1 hN)))
  have HW := Lib.hid (And.intro hN hw1)
  have c0 := blk_cell hb0 0
  clear f1 hb0 hb1 z1 hw1 hN
  refine (callsIn_wide (n := 20)).1 ?_
  refine callsIn_of_wp_marks Tryz.func27 rfl trivial ?_ rfl
  simp only [Tryz.ntmps27, List.size_toArray, List.length_cons, List.length_nil, Nat.reduceAdd, Nat.reduceSub, Array.replicate_succ, Array.replicate_zero, List.push_toArray, List.append_toArray, List.nil_append, List.cons_append]
  gi_wp2_with fail
  rw [HW.out.1]
  rw [HW.out.2]
  refine ⟨trivial, (calls_wide (.inl rfl) HR.out).mono ?_⟩
  rintro e w2 ⟨rfl, rfl⟩
  clear HW HR c0
  gi_wp2_with fail
  refine ⟨trivial, (calls_wide (.inl rfl) HA.out).mono ?_⟩
  rintro e w3 ⟨⟨F, rfl, hT⟩, hb3⟩
  clear HA
  have f3 : Fr (fun _ => False) w2 w3 := Fr.of_below hb3
  obtain ⟨Y, hYb, gf, lb, rfl, hseq, hYl, heg⟩ := tellsT_tale (show TaleT w2.heap.size w3 F [] from hT) (by simp)
  obtain ⟨f1, hb1, z1, hN⟩ := H.out
  have z3 := f3.size
  have j1 := f3.blk hb1 fun e => e
  have hY3 : ∀ k, Y k → N + 2 ≤ k := fun k hk => by have := hYb k hk; omega
  have HF := Lib.hid (And.intro (f1.trans f3) (show N + 2 ≤ w3.heap.size by omega))
  clear hT hb3
  gi_wp2_with fail
  refine wpIn_rangeF (X := fun k => k = N + 1) (Y := Y) (xs := []) (encs := encL) (gf := gf) (lb := lb) (NilJ (N + 1) (.cells #[.slice none 0 0] 109 (0, 0))) (fun _ _ _ _ => False)
    rfl hseq (fun k hk => ⟨by omega, fun e => by have := hY3 k e; omega⟩) hYl (by omega) heg (fun _ => rfl)
    (nilJ_stays _ _) (fun c s X1 V1 V2 h => h.elim) ⟨j1, fun k => Iff.rfl⟩ ?round ?done (fun _ _ _ _ _ _ _ _ _ _ _ h => h.elim)
  case round =>
    rintro l pre x r X1 V KK rb hl2 hpx
    exact absurd hpx (by simp)
  case done =>
    rintro D X2 V hD hxD hG hF ⟨k3, hX2⟩ hdef
    have c3 := blk_cell k3 0
    have HUn := Lib.hid (set_union (w := V) none [] 0 (by simp) (by simp) (fun h => absurd h (by simp)))
    have HE := Lib.hid (And.intro hF (And.intro hdef hD))
    clear k3 hF hdef hxD hX2 hD hG hseq hYl heg hYb hY3
    gi_wp2_with fail
    refine ⟨trivial, (calls_wide (.inl rfl) HUn.out).mono ?_⟩
    rintro e W4 ⟨⟨F4, rfl, hT4⟩, b4⟩
    have hnl : (normI ([] : List (List Int)).flatten).length ≤ 1000000 := Nat.le_trans (normI_len _) (by simp)
    obtain ⟨Y4, hY4, hTF⟩ := tellsI_tale hT4 hnl
    have HWo := Lib.hid (without_F2 hTF id)
    have HQ := Lib.hid (And.intro b4 hY4)
    clear hT4 b4 hnl hY4 hTF HUn c3
    gi_wp2_with fail
    refine ⟨trivial, (calls_wide (.inl rfl) HWo.out).mono ?_⟩
    rintro e W5 ⟨⟨F5, Y5, rfl, hT5, hY5⟩, b5⟩
    have HQ2 := Lib.hid (And.intro b5 (And.intro hT5 hY5))
    clear HWo hT5 b5 hY5
    gi_wp2_with fail
    obtain ⟨b4, hY4⟩ := HQ.out
    obtain ⟨b5, hT5, hY5⟩ := HQ2.out
    obtain ⟨hF, hdef, hD⟩ := HE.out
    have hs4 := b4.size
    have b45 : RowKit.Below V.heap.size V W5 := b4.trans (b5.mono hs4)
    have d5 := (Fr.of_below (X := fun _ => False) b45).blk hdef fun e => e
    have hDV := blk_lt hdef
    have hz4 := HF.out.2
    have f5 : RowKit.Below w.heap.size w W5 := by
      have h5 : Fr (fun k => k = N + 1) w V := (HF.out.1.mono (Y := fun k => k = N + 1) fun _ _ e => e.elim).trans3 hF fun k _ e => e
      exact (h5.below (Nat.le_refl _) fun k hk e => by omega).trans (b45.mono h5.size)
    refine leaves_one D _ d5 fun w' hf => ?_
    have hYD : ∀ k, Y5 k → ¬ k = D := fun k hk e => by
      rcases hY5 k hk with a | a
      · omega
      · have := hY4 k a; omega
    have hnil : (normI ([] : List (List Int)).flatten).filter (fun y => decide (y ≠ id)) = [] := by
      have : normI ([] : List (List Int)).flatten = [] := List.eq_nil_of_length_eq_zero (Nat.le_zero.1 (normI_len []))
      rw [this]; rfl
    rw [hnil] at hT5
    exact ⟨F5, by simp [results, Tryz.results27, go_sem], ⟨F5, Y5, rfl, hT5.fr hf hYD⟩, f5.trans (hf.below f5.size fun k _ e => by omega)⟩
set_option maxRecDepth 100000 in
set_option maxHeartbeats 8000000 in
theorem leave_nil (id : Int) (w : World) : Calls Tryz.prog 12 #[.pointer none, .int .i64 id] w fun e w' => e = .returned (.int .i64 0) ∧ RowKit.Below w.heap.size w w' := by
  obtain ⟨N, hN⟩ : ∃ N, w.heap.size = N := ⟨_, rfl⟩
  obtain ⟨w1, hw1⟩ : ∃ w1, ((w.alloc (Obj.cells #[.pointer none] 25)).alloc (Obj.cells #[Value.int .i64 id] 3)).alloc (Obj.cells #[Value.int .i64 0] 3) = w1 := ⟨_, rfl⟩
  have z1 : w1.heap.size = N + 3 := by rw [← hw1, ← hN]; simp
  have f1 : Fr (fun _ => False) w w1 := by rw [← hw1]; exact (((Fr.refl _ w).alloc _).alloc _).alloc _
  have k0 : w1.heap[N]? = some (.cells #[.pointer none] 25 (0, 0)) := by rw [← hw1, ← hN]; exact blk_alloc (blk_alloc (heap_alloc_new w _) _) _
  have k1 : w1.heap[N + 1]? = some (.cells #[.int .i64 id] 3 (0, 0)) := by rw [← hw1, ← hN]; exact blk_alloc (heap_alloc2_new w _ _) _
  have k2 : w1.heap[N + 2]? = some (.cells #[.int .i64 0] 3 (0, 0)) := by
    rw [← hw1, ← hN]
    have := heap_alloc2_new (w.alloc (Obj.cells #[.pointer none] 25)) (Obj.cells #[Value.int .i64 id] 3) (Obj.cells #[Value.int .i64 0] 3)
    rwa [World.size_alloc] at this
  have HBX := Lib.hid (fun W (hW : Fr (fun _ => False) w1 W) => (And.intro (blk_cell (hW.blk k0 fun e => e) 0) (blk_cell (hW.blk k1 fun e => e) 0)))
  have H := Lib.hid (And.intro f1 (And.intro k2 (And.intro z1 hN)))
  have HW := Lib.hid hw1
  have HBB := Lib.hid hN
  clear f1 k0 k1 k2 z1 hw1 hN
  refine (callsIn_wide (n := 20)).1 ?_
  refine callsIn_of_wp_marks Tryz.func12 rfl trivial ?_ rfl
  simp only [Tryz.ntmps12, List.size_toArray, List.length_cons, List.length_nil, Nat.reduceAdd, Nat.reduceSub, Array.replicate_succ, Array.replicate_zero, List.push_toArray, List.append_toArray, List.nil_append, List.cons_append]
  gi_wp2_with fail
  rw [HW.out, HBB.out]
  refine wpIn_class_tail (C := fun W => Fr (fun _ => False) w1 W) 3 (by kernel_rfl) (by kernel_rfl) (by kernel_rfl) ((Fr.refl (fun _ => False) w1).drew) ?_
  simp only [List.take_succ_cons, List.take_zero, List.drop_succ_cons, List.drop_zero]
  refine quiet_step_w (fun _ => trivial) (fun K hK => ?_)
  go_simp
  refine ⟨.pointer none, fun W hW => ?_, hK _ ?_⟩
  · obtain ⟨s0, s1⟩ := HBX.out W hW; go_simp
  clear hK K
  refine quiet_step_w (fun _ => trivial) (fun K hK => ?_)
  go_simp
  refine ⟨.pointer none, fun W hW => ?_, hK _ ?_⟩
  · refine (calls_wide (.inl rfl) (joined_nil W)).mono ?_
    rintro e W2 ⟨rfl, rfl⟩; exact ⟨rfl, hW⟩
  clear hK K
  refine quiet_step_w (fun _ => trivial) (fun K hK => ?_)
  go_simp
  refine ⟨.int .i64 id, fun W hW => ?_, hK _ ?_⟩
  · obtain ⟨s0, s1⟩ := HBX.out W hW; go_simp
  clear hK K
  refine wpQuietIn_nil ?_
  intro V1 hV1
  have HV1 := Lib.hid hV1
  clear hV1
  have HOf := Lib.hid (relOfNilIS id V1)
  gi_wp2_with fail
  refine ⟨trivial, (calls_wide (.inl rfl) HOf.out).mono ?_⟩
  rintro e w2 ⟨⟨F, rfl, hT⟩, hb2⟩
  clear HOf
  obtain ⟨f1, k2, z1, hN⟩ := H.out
  have fV := HV1.out
  have zV := fV.size
  have f2 : Fr (fun _ => False) w1 w2 := fV.trans (Fr.of_below hb2)
  have z2 : V1.heap.size ≤ w2.heap.size := hb2.size
  obtain ⟨Y, hYb, gf, lb, rfl, hseq, hYl, heg⟩ := tellsT_tale (show TaleT V1.heap.size w2 F [] from hT) (by simp)
  have q2 := f2.blk k2 fun e => e
  have hY3 : ∀ k, Y k → N + 3 ≤ k := fun k hk => by have := hYb k hk; omega
  have HF := Lib.hid (And.intro (f1.trans f2) (show N + 3 ≤ w2.heap.size by omega))
  have hz9 := HF.out.2
  clear hT hb2 fV zV HBX
  gi_wp2_with fail
  have hB := HBB.out
  refine wpIn_rangeF (X := fun k => k = N + 2) (Y := Y) (xs := []) (encs := encL) (gf := gf) (lb := lb) (NilJ (N + 2) (.cells #[.int .i64 0] 3 (0, 0))) (fun _ _ _ _ => False)
    rfl hseq (fun k hk => ⟨by omega, fun e => by have := hY3 k e; omega⟩) hYl (by omega) heg (fun _ => rfl)
    (nilJ_stays _ _) (fun c s X1 V1 V2 h => h.elim) ⟨q2, fun k => Iff.rfl⟩ ?round ?done (fun _ _ _ _ _ _ _ _ _ _ _ h => h.elim)
  case round =>
    rintro l pre x r X1 V KK rb hl2 hpx
    exact absurd hpx (by simp)
  case done =>
    rintro D X2 V hD hxD hG hF ⟨j2, hX2⟩ hdef
    have cc2 := blk_cell j2 0
    have HE := Lib.hid (And.intro hF (And.intro hdef hD))
    clear j2 hF hdef hxD hX2 hD hG hseq hYl heg hYb hY3 f1 k2 z1 hN f2 z2 q2 hz9
    gi_wp2_with fail
    obtain ⟨hF, hdef, hD⟩ := HE.out
    have hz4 := HF.out.2
    have f5 : RowKit.Below w.heap.size w V := by
      have h5 : Fr (fun k => k = N + 2) w V := (HF.out.1.mono (Y := fun k => k = N + 2) fun _ _ e => e.elim).trans3 hF fun k _ e => e
      exact h5.below (Nat.le_refl _) fun k hk e => by omega
    exact leaves_one D _ hdef fun w' hf => ⟨.int .i64 0, by simp [results, Tryz.results12, go_sem], rfl, f5.trans (hf.below f5.size fun k _ e => by omega)⟩
set_option maxRecDepth 100000 in
set_option maxHeartbeats 8000000 in
theorem common_nil (a b : Int) (w : World) : Calls Tryz.prog 30 #[.pointer none, .int .i64 a, .int .i64 b] w fun e w' => e = .returned (.bool false) ∧ RowKit.Below w.heap.size w w' := by
  obtain ⟨N, hN⟩ : ∃ N, w.heap.size = N := ⟨_, rfl⟩
  obtain ⟨w1, hw1⟩ : ∃ w1, ((w.alloc (Obj.cells #[.pointer none] 25)).alloc (Obj.cells #[Value.int .i64 b] 3)).alloc (Obj.cells #[Value.bool false] 4) = w1 := ⟨_, rfl⟩
  have z1 : w1.heap.size = N + 3 := by rw [← hw1, ← hN]; simp
  have f1 : Fr (fun _ => False) w w1 := by rw [← hw1]; exact (((Fr.refl _ w).alloc _).alloc _).alloc _
  have k0 : w1.heap[N]? = some (.cells #[.pointer none] 25 (0, 0)) := by rw [← hw1, ← hN]; exact blk_alloc (blk_alloc (heap_alloc_new w _) _) _
  have k2 : w1.heap[N + 2]? = some (.cells #[.bool false] 4 (0, 0)) := by
    rw [← hw1, ← hN]
    have := heap_alloc2_new (w.alloc (Obj.cells #[.pointer none] 25)) (Obj.cells #[Value.int .i64 b] 3) (Obj.cells #[Value.bool false] 4)
    rwa [World.size_alloc] at this
  have HR := Lib.hid (joined_nil w1)
  have HA := Lib.hid (relOfNilIS a w1)
  have H := Lib.hid (And.intro f1 (And.intro k2 (And.intro z1 hN)))
  have HW := Lib.hid (And.intro hN hw1)
  have c0 := blk_cell k0 0
  clear f1 k0 k2 z1 hw1 hN
  refine (callsIn_wide (n := 20)).1 ?_
  refine callsIn_of_wp_marks Tryz.func30 rfl trivial ?_ rfl
  simp only [Tryz.ntmps30, List.size_toArray, List.length_cons, List.length_nil, Nat.reduceAdd, Nat.reduceSub, Array.replicate_succ, Array.replicate_zero, List.push_toArray, List.append_toArray, List.nil_append, List.cons_append]
  gi_wp2_with fail
  rw [HW.out.1]
  rw [HW.out.2]
  refine ⟨trivial, (calls_wide (.inl rfl) HR.out).mono ?_⟩
  rintro e w2 ⟨rfl, rfl⟩
  clear HR c0
  gi_wp2_with fail
  refine ⟨trivial, (calls_wide (.inl rfl) HA.out).mono ?_⟩
  rintro e w3 ⟨⟨F, rfl, hT⟩, hb3⟩
  clear HA
  have f3 : Fr (fun _ => False) w2 w3 := Fr.of_below hb3
  obtain ⟨Y, hYb, gf, lb, rfl, hseq, hYl, heg⟩ := tellsT_tale (show TaleT w2.heap.size w3 F [] from hT) (by simp)
  obtain ⟨f1, k2, z1, hN⟩ := H.out
  have z3 := f3.size
  have q2 := f3.blk k2 fun e => e
  have hY3 : ∀ k, Y k → N + 3 ≤ k := fun k hk => by have := hYb k hk; omega
  have HF := Lib.hid (And.intro (f1.trans f3) (show N + 3 ≤ w3.heap.size by omega))
  clear hT hb3 HW
  gi_wp2_with fail
  refine wpIn_rangeF (X := fun k => k = N + 2) (Y := Y) (xs := []) (encs := encL) (gf := gf) (lb := lb) (NilJ (N + 2) (.cells #[.bool false] 4 (0, 0))) (fun _ _ _ _ => False)
    rfl hseq (fun k hk => ⟨by omega, fun e => by have := hY3 k e; omega⟩) hYl (by omega) heg (fun _ => rfl)
    (nilJ_stays _ _) (fun c s X1 V1 V2 h => h.elim) ⟨q2, fun k => Iff.rfl⟩ ?round ?done (fun _ _ _ _ _ _ _ _ _ _ _ h => h.elim)
  case round =>
    rintro l pre x r X1 V KK rb hl2 hpx
    exact absurd hpx (by simp)
  case done =>
    rintro D X2 V hD hxD hG hF ⟨j2, hX2⟩ hdef
    have cc2 := blk_cell j2 0
    have dd2 := blk_free j2 0
    have HE := Lib.hid (And.intro hF (And.intro hdef (And.intro hD j2)))
    clear j2 hF hdef hxD hX2 hD hG hseq hYl heg hYb hY3 f1 k2 z1 hN f3 z3 q2
    gi_wp2_with fail
    obtain ⟨hF, hdef, hD, j2⟩ := HE.out
    have hz4 := HF.out.2
    have hN := H.out.2.2.2
    obtain ⟨W3, hW3⟩ : ∃ W3, V.setCell ⟨N + 1 + 1, 0, none⟩ (Value.bool false) = W3 := ⟨_, rfl⟩
    have e3 : W3.heap[N + 2]? = some (.cells #[.bool false] 4 (0, 0)) := by rw [← hW3]; exact blk_set j2 0 _
    have d3 : W3.heap[D]? = some (.deferred (some [])) := by rw [← hW3]; exact blk_other hdef _ (by simp; omega) _
    have f5 : RowKit.Below w.heap.size w W3 := by
      have h5 : Fr (fun k => k = N + 2) w V := (HF.out.1.mono (Y := fun k => k = N + 2) fun _ _ e => e.elim).trans3 hF fun k _ e => e
      rw [← hW3]
      exact (h5.below (Nat.le_refl _) fun k hk e => by omega).setCell (by simp; omega) _
    (try rw [hW3])
    refine leaves_one D _ d3 fun w' hf => ?_
    have e4 := hf.blk e3 (by omega)
    exact ⟨.bool false, results_box rfl _ _ (N + 2) _ _ rfl (blk_cell e4 0) Tryz.underlying4 rfl, rfl, f5.trans (hf.below f5.size fun k _ e => by omega)⟩
theorem join_nil (id : Int) (nm : List UInt8) (hn : nm.length ≤ 1000000) (w : World) : Calls Tryz.prog 14 #[.pointer none, .int .i64 id, .string (bs nm)] w fun e w' => e = .returned (.tuple #[.pointer none, .int .i64 405]) ∧ RowKit.Below w.heap.size w w' := by
  have HG := Lib.hid (get_nil (bs nm) w)
  refine (callsIn_wide (n := 20)).1 ?_
  refine callsIn_of_wp Tryz.func14 rfl trivial ?_ rfl
  simp only [Tryz.ntmps14, List.size_toArray, List.length_cons, List.length_nil, Nat.reduceAdd, Nat.reduceSub, Array.replicate_succ, Array.replicate_zero, List.push_toArray, List.append_toArray, List.nil_append, List.cons_append]
  gi_wp2_with fail
  refine ⟨trivial, (calls_wide (.inl rfl) HG.out).mono ?_⟩
  rintro e w1 ⟨rfl, b1⟩
  have HJ := Lib.hid (joined_nil w1)
  have HT := Lib.hid (text_any (bs nm) w1 (by simp; omega))
  rw [bs_toList] at HT
  have H1 := Lib.hid b1
  clear b1 HG
  gi_wp2_with fail
  refine ⟨trivial, (calls_wide (.inl rfl) HJ.out).mono ?_⟩
  rintro e w2 ⟨rfl, rfl⟩
  clear HJ
  gi_wp2_with fail
  refine ⟨trivial, (calls_wide (.inl rfl) HT.out).mono ?_⟩
  rintro e w3 ⟨rfl, b3⟩
  have HA := Lib.hid (relAddNilIS id (foldL nm) w3)
  have H3 := Lib.hid b3
  clear b3 HT
  gi_wp2_with fail
  refine ⟨trivial, (calls_wide (.inl rfl) HA.out).mono ?_⟩
  rintro e w4 ⟨rfl, rfl⟩
  clear HA
  gi_wp2_with fail
  (try go_ret2)
  exact ⟨rfl, H1.out.trans (H3.out.mono H1.out.size)⟩
theorem part_nil (id : Int) (nm : List UInt8) (hn : nm.length ≤ 1000000) (w : World) : Calls Tryz.prog 10 #[.pointer none, .int .i64 id, .string (bs nm)] w fun e w' => e = .returned (.bool false) ∧ RowKit.Below w.heap.size w w' := by
  have HJ := Lib.hid (joined_nil w)
  have HT := Lib.hid (text_any (bs nm) w (by simp; omega))
  rw [bs_toList] at HT
  refine (callsIn_wide (n := 20)).1 ?_
  refine callsIn_of_wp Tryz.func10 rfl trivial ?_ rfl
  simp only [Tryz.ntmps10, List.size_toArray, List.length_cons, List.length_nil, Nat.reduceAdd, Nat.reduceSub, Array.replicate_succ, Array.replicate_zero, List.push_toArray, List.append_toArray, List.nil_append, List.cons_append]
  gi_wp2_with fail
  refine ⟨trivial, (calls_wide (.inl rfl) HJ.out).mono ?_⟩
  rintro e w2 ⟨rfl, rfl⟩
  clear HJ
  gi_wp2_with fail
  refine ⟨trivial, (calls_wide (.inl rfl) HT.out).mono ?_⟩
  rintro e w3 ⟨rfl, b3⟩
  have HA := Lib.hid (relRemNilIS id (foldL nm) w3)
  have H3 := Lib.hid b3
  clear b3 HT
  gi_wp2_with fail
  refine ⟨trivial, (calls_wide (.inl rfl) HA.out).mono ?_⟩
  rintro e w4 ⟨rfl, rfl⟩
  clear HA
  gi_wp2_with fail
  (try go_ret)
  exact ⟨rfl, H3.out⟩
end Go.Proofs.YtlkeomcillencaaGreat
end
section
/- Layer 20: what Join keeps: no more rooms than may be, and of nobody; the law's same of no rooms. -/
namespace Go.Proofs.YtlkeomcillencaaGreat
open Go Go.RowKit Go.Maps Go.Sort Go.Shelf Go.Lib
attribute [local go_sem] Oper.semAt_some

def kA (r : Rm) : List UInt8 := foldL r.nm
theorem RsOn.keys {n base : Nat} {mr mj mb : Int} {R : Nat} {A : List Rm} {w0 w : World} (h : RsOn n base mr mj mb R A w0 w) : (A.map kA).Nodup := by
  obtain ⟨t, b, tr, X, C, Q, L, h1, h2, rfl⟩ := h.st
  have := h1.keys
  rw [List.map_map]
  exact this
theorem addA_cut {A1 A2 : List Rm} {r : Rm} {id : Int} (hk : ((A1 ++ r :: A2).map kA).Nodup) : addA (A1 ++ r :: A2) id (kA r) = A1 ++ addR r id false :: A2 := by
  rw [List.map_append, List.map_cons, List.nodup_append, List.nodup_cons] at hk
  have same : ∀ (P : List Rm), (∀ e ∈ P, kA e ≠ kA r) → addA P id (kA r) = P := fun P hP => by
    unfold addA
    conv => rhs; rw [← List.map_id P]
    refine List.map_congr_left fun e he => ?_
    exact if_neg (hP e he)
  have h1 := same A1 fun e he => hk.2.2 _ (List.mem_map_of_mem he) _ (List.mem_cons_self ..)
  have h2 := same A2 fun e he e1 => hk.2.1.1 (e1 ▸ List.mem_map_of_mem he)
  unfold addA at h1 h2 ⊢
  rw [List.map_append, h1, List.map_cons, h2, if_pos (show foldL r.nm = kA r from rfl)]
theorem getA_some {A : List Rm} {k : List UInt8} {r : Rm} (h : getA A k = some r) : r ∈ A ∧ kA r = k := by
  have h2 := List.find?_some h
  exact ⟨List.mem_of_find?_eq_some h, of_decide_eq_true h2⟩
theorem ofA_mid (A1 A2 : List Rm) (r : Rm) (j : Int) : (ofA (A1 ++ r :: A2) j).length = (ofA A1 j).length + (if hasM r.mem j = true then 1 else 0) + (ofA A2 j).length := by
  unfold ofA
  rw [List.filter_append, List.length_append, List.filter_cons]
  split <;> simp <;> omega
/-- no more than may be -/
def InvA (mr mj : Int) (A : List Rm) : Prop := (A.length : Int) ≤ mr ∧ ∀ j, ((ofA A j).length : Int) ≤ mj
theorem joinA_inv {mr mj mb : Int} {A : List Rm} {id : Int} {nm : List UInt8} (hk : (A.map kA).Nodup) (h : InvA mr mj A) : InvA mr mj (joinA mr mj mb A id nm).1 := by
  unfold joinA
  cases hg : getA A (foldL nm) with
  | some r =>
    simp only
    by_cases hm : hasM r.mem id = true
    · rw [if_pos hm]; exact h
    · rw [if_neg hm]
      by_cases hf : mj ≤ ((ofA A id).length : Int)
      · rw [if_pos hf]; exact h
      · rw [if_neg hf]
        obtain ⟨h1, h2⟩ := getA_some hg
        obtain ⟨A1, A2, rfl⟩ := List.append_of_mem h1
        rw [← h2, addA_cut hk]
        refine ⟨by have := h.1; simp at this ⊢; omega, fun j => ?_⟩
        have hj := h.2 j
        have hi := h.2 id
        have hmf : hasM r.mem id = false := by simpa using hm
        rw [ofA_mid] at hj hf ⊢
        rw [addR_has hmf]
        by_cases e : id = j
        · subst e
          simp only [hmf] at hf hj ⊢
          simp at hf hj ⊢
          omega
        · have : (id == j) = false := by simpa using e
          rw [this, Bool.false_or]
          exact hj
  | none =>
    simp only
    by_cases hf : mj ≤ ((ofA A id).length : Int) ∨ mr ≤ (A.length : Int)
    · rw [if_pos hf]; exact h
    · rw [if_neg hf]
      have hm : hasM (rm0 nm mb).mem id = false := rfl
      refine ⟨by simp; omega, fun j => ?_⟩
      have hj := h.2 j
      rw [ofA_mid]
      rw [addR_has hm]
      by_cases e : id = j
      · subst e
        simp [ofA] at hf ⊢
        omega
      · have : (id == j) = false := by simpa using e
        rw [this, Bool.false_or]
        have h0 : hasM (rm0 nm mb).mem j = false := rfl
        simp [ofA, h0] at hj ⊢
        omega
/-- somebody is on a room -/
def onA (A : List Rm) (j : Int) : Prop := ∃ r ∈ A, hasM r.mem j = true
theorem addR_on {r : Rm} {id j : Int} {op : Bool} (h : hasM (addR r id op).mem j = true) : hasM r.mem j = true ∨ j = id := by
  cases hm : hasM r.mem id with
  | true => unfold addR at h; rw [if_pos hm] at h; exact .inl h
  | false =>
    rw [addR_has hm, Bool.or_eq_true, beq_iff_eq] at h
    rcases h with e | e
    · exact .inr e.symm
    · exact .inl e
theorem joinA_on {mr mj mb : Int} {A : List Rm} {id : Int} {nm : List UInt8} {j : Int} (h : onA (joinA mr mj mb A id nm).1 j) : onA A j ∨ j = id := by
  unfold joinA at h
  cases hg : getA A (foldL nm) with
  | some r =>
    rw [hg] at h
    simp only at h
    split at h
    · exact .inl h
    · split at h
      · exact .inl h
      · obtain ⟨s, hs, hm⟩ := h
        unfold addA at hs
        obtain ⟨q, hq, rfl⟩ := List.mem_map.1 hs
        split at hm
        · rcases addR_on hm with e | e
          · exact .inl ⟨q, hq, e⟩
          · exact .inr e
        · exact .inl ⟨q, hq, hm⟩
  | none =>
    rw [hg] at h
    simp only at h
    split at h
    · exact .inl h
    · obtain ⟨s, hs, hm⟩ := h
      rcases List.mem_append.1 hs with a | a
      · exact .inl ⟨s, a, hm⟩
      · obtain rfl := List.mem_singleton.1 a
        rcases addR_on hm with e | e
        · cases e
        · exact .inr e
def SamJ {α : Type} (S : Nat) (_ : List α) (X : Nat → Prop) (W : World) : Prop := W.heap[S]? = some (.cells #[.int .i64 0] 3 (0, 0)) ∧ W.heap[S + 1]? = some (.cells #[.bool true] 4 (0, 0)) ∧ ∀ k, X k ↔ (k = S ∨ k = S + 1)
theorem samJ_stays {α : Type} (S : Nat) : Stays (SamJ (α := α) S) := fun pre X V V' ⟨h1, h2, h3⟩ hl hf => ⟨hf.blk h1 (fun e => e ((h3 S).2 (.inl rfl))), hf.blk h2 (fun e => e ((h3 _).2 (.inr rfl))), h3⟩
set_option maxRecDepth 100000 in
set_option maxHeartbeats 8000000 in
theorem same_nil {base : Nat} {w : World} {F : Value} (h : TalePr base w F []) : Calls Tryz.prog 23 #[F, .slice none 0 0] w fun e w' => e = .returned (.bool true) ∧ RowKit.Below w.heap.size w w' := by
  obtain ⟨Y, hYb, gf, lb, rfl, hseq0, hYl0, heg⟩ := tellsPr_tale h (by simp)
  obtain ⟨N, hN⟩ : ∃ N, w.heap.size = N := ⟨_, rfl⟩
  obtain ⟨w1, hw1⟩ : ∃ w1, (((w.alloc (Obj.cells #[Value.slice none 0 0] 30)).alloc (Obj.cells #[Value.bool false] 4)).alloc (Obj.cells #[Value.int .i64 0] 3)).alloc (Obj.cells #[Value.bool true] 4) = w1 := ⟨_, rfl⟩
  have z1 : w1.heap.size = N + 4 := by rw [← hw1, ← hN]; simp
  have f1 : Fr (fun _ => False) w w1 := by rw [← hw1]; exact ((((Fr.refl _ w).alloc _).alloc _).alloc _).alloc _
  have k0 : w1.heap[N]? = some (.cells #[.slice none 0 0] 30 (0, 0)) := by rw [← hw1, ← hN]; exact blk_alloc (blk_alloc (blk_alloc (heap_alloc_new w _) _) _) _
  have k1 : w1.heap[N + 1]? = some (.cells #[.bool false] 4 (0, 0)) := by rw [← hw1, ← hN]; exact blk_alloc (blk_alloc (heap_alloc2_new w _ _) _) _
  have k2 : w1.heap[N + 2]? = some (.cells #[.int .i64 0] 3 (0, 0)) := by
    rw [← hw1, ← hN]
    have := heap_alloc2_new (w.alloc (Obj.cells #[Value.slice none 0 0] 30)) (Obj.cells #[Value.bool false] 4) (Obj.cells #[Value.int .i64 0] 3)
    rw [World.size_alloc] at this
    exact blk_alloc this _
  have k3 : w1.heap[N + 3]? = some (.cells #[.bool true] 4 (0, 0)) := by
    rw [← hw1, ← hN]
    have := heap_alloc2_new ((w.alloc (Obj.cells #[Value.slice none 0 0] 30)).alloc (Obj.cells #[Value.bool false] 4)) (Obj.cells #[Value.int .i64 0] 3) (Obj.cells #[Value.bool true] 4)
    rwa [World.size_alloc, World.size_alloc] at this
  have hnil : ∀ W, (binOp BinOp.eql 52 (.func (.func gf) #[] lb) Value.nilFunc).run Tryz.prog W = .ok (.bool false) W := fun W => by rfl
  have HW := Lib.hid (And.intro hN hw1)
  have H := Lib.hid (And.intro f1 (And.intro k0 (And.intro k1 (And.intro k2 (And.intro k3 (And.intro z1 hN))))))
  clear h f1 k0 k1 k2 k3 z1 hw1 hN
  refine (callsIn_wide (n := 20)).1 ?_
  refine callsIn_of_wp_marks Tryz.func23 rfl trivial ?_ rfl
  simp only [Tryz.ntmps23, List.size_toArray, List.length_cons, List.length_nil, Nat.reduceAdd, Nat.reduceSub, Array.replicate_succ, Array.replicate_zero, List.push_toArray, List.append_toArray, List.nil_append, List.cons_append]
  gi_wp2_with (simp only [hnil])
  rw [HW.out.1]
  rw [HW.out.2]
  obtain ⟨f1, k0, k1, k2, k3, z1, hN⟩ := H.out
  have hseq := hseq0.same fun b hb => f1.block b (hYl0 b hb) fun e => e
  have hYN : ∀ k, Y k → k < N := fun k hk => by have := hYl0 k hk; omega
  refine wpIn_rangeF (X := fun k => k = N + 2 ∨ k = N + 2 + 1) (Y := Y) (xs := []) (encs := encRm) (gf := gf) (lb := lb) (SamJ (N + 2)) (fun _ _ _ _ => False)
    rfl hseq (fun k hk => ⟨by omega, fun e => by have := hYN k e; omega⟩) (fun b hb => by have := hYN b hb; omega) (by omega) heg (fun _ => rfl)
    (samJ_stays _) (fun c s X1 V1 V2 h => h.elim) ⟨k2, k3, fun k => Iff.rfl⟩ ?round ?done (fun _ _ _ _ _ _ _ _ _ _ _ h => h.elim)
  case round =>
    rintro l pre x r X1 V KK rb hl2 hpx
    exact absurd hpx (by simp)
  case done =>
    rintro D X2 V hD hxD hG hF ⟨j2, j3, hX2⟩ hdef
    have q0 := hF.blk k0 (by omega)
    have q1 := hF.blk k1 (by omega)
    have c0 := blk_cell q0 0
    have c1 := blk_cell q1 0
    have d1 := blk_free q1 0
    have c2 := blk_cell j2 0
    have c3 := blk_cell j3 0
    have HE := Lib.hid (And.intro hF (And.intro hdef (And.intro hD q1)))
    clear q0 q1 j2 j3 hF hdef hxD hX2 hD hG hseq hseq0 hYl0 heg hYb hYN f1 k0 k1 k2 k3 z1 hN
    gi_wp2_with fail
    obtain ⟨hF, hdef, hD, q1⟩ := HE.out
    obtain ⟨f1, k0, k1, k2, k3, z1, hN⟩ := H.out
    obtain ⟨W3, hW3⟩ : ∃ W3, V.setCell ⟨N + 1, 0, none⟩ (Value.bool true) = W3 := ⟨_, rfl⟩
    have e3 : W3.heap[N + 1]? = some (.cells #[.bool true] 4 (0, 0)) := by rw [← hW3]; exact blk_set q1 0 _
    have d3 : W3.heap[D]? = some (.deferred (some [])) := by rw [← hW3]; exact blk_other hdef _ (by simp; omega) _
    have f5 : RowKit.Below w.heap.size w W3 := by
      have h5 : Fr (fun k => N ≤ k) w V := (f1.mono (Y := fun k => N ≤ k) fun _ _ e => e.elim).trans3 hF fun k _ e => by rcases e with e | e <;> omega
      rw [← hW3]
      exact (h5.below (Nat.le_refl _) fun k hk e => by have e2 : N ≤ k := e; omega).setCell (by simp; omega) _
    (try rw [hW3])
    refine leaves_one D _ d3 fun w' hf => ?_
    have e4 := hf.blk e3 (by omega)
    exact ⟨.bool true, results_box rfl _ _ (N + 1) _ _ rfl (blk_cell e4 0) Tryz.underlying4 rfl, rfl, f5.trans (hf.below f5.size fun k _ e => by omega)⟩
end Go.Proofs.YtlkeomcillencaaGreat
end
section
/- Layer 20: RoomsStay. -/
namespace Go.Proofs.YtlkeomcillencaaGreat
open Go Go.RowKit Go.Maps Go.Sort Go.Shelf Go.Lib
attribute [local go_sem] Oper.semAt_some

theorem wf8s {a : Int} (h : (Lit.int .u8 a).wf = true) : 0 ≤ a ∧ a ≤ 255 := by
  simp only [Lit.wf, IntKind.has, Bool.and_eq_true, decide_eq_true_eq] at h
  exact ⟨h.1, h.2⟩
theorem count_on {n base : Nat} {mr mj mb : Int} {R : Nat} {A : List Rm} {w0 w : World} (h : RsOn n base mr mj mb R A w0 w) (hn : n ≤ 90000) {id : Int} (hid : OkKIS id) : Calls Tryz.prog 21 #[.pointer (some ⟨R, 0, none⟩), .int .i64 id] w fun e w' => e = .returned (.int .i64 (ofA A id).length) ∧ w' = w := by
  obtain ⟨t, b, tr, X, C, Q, L, h1, h2, rfl⟩ := h.st
  rw [ofA_map, List.length_map]
  exact count_any h1 h2 hid hn
/-- a box that counts what is told -/
def CntJ {α : Type} (S : Nat) (pre : List α) (X : Nat → Prop) (W : World) : Prop := W.heap[S]? = some (.cells #[.int .i64 (pre.length : Int)] 3 (0, 0)) ∧ ∀ k, X k ↔ k = S
theorem cntJ_stays {α : Type} (S : Nat) : Stays (CntJ (α := α) S) := fun pre X V V' ⟨h1, h2⟩ hl hf => ⟨hf.blk h1 (fun e => e ((h2 S).2 rfl)), h2⟩
/-- who leaves: the state of the second loop -/
def LvS (base n : Nat) (p g : Int) (R : Nat) (C : Nat → Tag) (l : List zraT) (i : Nat) (Wr W : World) : Prop :=
  ∃ t b tr X C' Q' L', RsPh base W R t b tr X C' p g 3 Q' L' ∧ RsLg n Q' L' ∧ Onto C C' Wr W ∧ ∀ j k, (j, k) ∈ L' → ∃ q, ∃ h : q < l.length, i ≤ q ∧ l[q].2.1 = j
set_option maxRecDepth 100000 in
set_option maxHeartbeats 16000000 in
theorem roomsStay_main (A : Option Addr) (l : List zraT) (cc : Nat) (p g : Int) (hp : 0 ≤ p ∧ p ≤ 255) (hg : 0 ≤ g ∧ g ≤ 255) (w : World) (hA : ActRs w A l) :
    Calls Tryz.prog 5 #[.int .u8 p, .int .u8 g, .slice A l.length cc] w fun e w' => e = .returned (.bool true) ∧ RowKit.Below w.heap.size w w' := by
  have hwp : IntKind.i64.wrap p = p := IntWalk.i64_in _ ⟨by omega, by omega⟩
  have hwg : IntKind.i64.wrap g = g := IntWalk.i64_in _ ⟨by omega, by omega⟩
  obtain ⟨N, hN⟩ : ∃ N, w.heap.size = N := ⟨_, rfl⟩
  obtain ⟨W0, hW0⟩ : ∃ W0, w.alloc (.cells #[.bool false] 4) = W0 := ⟨_, rfl⟩
  have b0 : RowKit.Below w.heap.size w W0 := by rw [← hW0]; exact (Below.refl _ w).alloc (Nat.le_refl _) _
  have k0 : W0.heap[N]? = some (.cells #[.bool false] 4 (0, 0)) := by rw [← hW0, ← hN]; exact heap_alloc_new w _
  have z0 : W0.heap.size = N + 1 := by rw [← hW0, ← hN]; simp
  have H0 := Lib.hid (And.intro b0 (And.intro k0 (And.intro z0 hN)))
  have HW := Lib.hid (And.intro hN hW0)
  have HA := Lib.hid hA
  have HPG := Lib.hid (And.intro hp hg)
  clear b0 k0 z0 hN hW0 hA hp hg
  refine (callsIn_wide (n := 30)).1 ?_
  refine callsIn_of_wp_marks Tryz.func5 rfl trivial ?_ rfl
  simp only [Tryz.ntmps5, List.size_toArray, List.length_cons, List.length_nil, Nat.reduceAdd, Nat.reduceSub, Array.replicate_succ, Array.replicate_zero, List.push_toArray, List.append_toArray, List.nil_append, List.cons_append]
  gi_wp2_with fail
  rw [HW.out.1]
  rw [HW.out.2]
  refine ⟨trivial, (calls_wide (.inl rfl) (awake20 W0)).mono ?_⟩
  rintro e w1 ⟨rfl, b1⟩
  have hb1 : RowKit.Below w.heap.size w w1 := H0.out.1.trans (b1.mono H0.out.1.size)
  have k1 := (Fr.of_below (X := fun _ => False) b1).blk H0.out.2.1 fun e => e
  have z1 := b1.size
  have H1 := Lib.hid (And.intro hb1 (And.intro k1 (show N + 1 ≤ w1.heap.size by have := H0.out.2.2.1; omega)))
  clear b1 hb1 k1 z1 HW
  gi_wp2_with fail
  refine ⟨trivial, (calls_wide (.inl rfl) (great20 HA.out w1 H1.out.1)).mono ?_⟩
  rintro e w1 ⟨rfl, rfl⟩
  obtain ⟨gr, hgr⟩ : ∃ gr, greatRs l = gr := ⟨_, rfl⟩
  rw [hgr]
  have HGR := Lib.hid hgr
  clear hgr
  cases gr with
  | true =>
    have c0 := blk_cell H1.out.2.1 0
    have d0 := blk_free H1.out.2.1 0
    have kk := blk_set H1.out.2.1 0 (.bool true)
    have hbb := H1.out.1.setCell (p := ⟨N, 0, none⟩) (by have := H0.out.2.2.2; show w.heap.size ≤ N; omega) (.bool true)
    have HK := Lib.hid (And.intro kk hbb)
    clear kk hbb
    gi_wp2_with fail
    obtain ⟨p1, p2⟩ := HK.out
    exact leavesF [] _ List.nodup_nil (by simp) fun w' hf => ⟨_, results_box rfl _ _ N (.bool true) _ rfl (blk_cell (hf.blk p1 (by simp)) 0) Tryz.underlying4 rfl, rfl, p2.trans (hf.below p2.size fun k _ e => by simp at e)⟩
  | false =>
  have hlim := greatRs_no HGR.out
  have hNw := H0.out.2.2.2
  have HN := Lib.hid (new_on (mr := p) (mj := g) ⟨HPG.out.1.1, by have := HPG.out.1.2; omega⟩ ⟨HPG.out.2.1, by have := HPG.out.2.2; omega⟩ 3 w1)
  unfold cfgV at HN
  have HLim := Lib.hid hlim
  have hl40 := hlim.1
  clear hlim hNw
  gi_wp2_with fail
  (try rw [hwp])
  (try rw [hwg])
  refine ⟨trivial, (calls_wide (.inl rfl) HN.out).mono ?_⟩
  rintro e w2 ⟨R, rfl, h2⟩
  have G0 : Hid (∃ A2, RsOn 0 w1.heap.size p g 3 R A2 w1 w2 ∧ InvA p g A2 ∧ ∀ j, onA A2 j → ∃ q, ∃ h : q < l.length, q < 0 ∧ l[q].2.1 = j) := Lib.hid ⟨[], h2, ⟨by have := HPG.out.1.1; simp; omega, fun j => by have := HPG.out.2.1; simp [ofA]; omega⟩, fun j hj => by obtain ⟨r, hr, _⟩ := hj; cases hr⟩
  clear h2 HN
  gi_wp2_with fail
  gi_loopw [8] (fun c8 wr => ∃ i : Nat, c8 = .int .i64 i ∧ i ≤ l.length ∧ Hid (∃ A2, RsOn i w1.heap.size p g 3 R A2 w1 wr ∧ InvA p g A2 ∧ ∀ j, onA A2 j → ∃ q, ∃ h : q < l.length, q < i ∧ l[q].2.1 = j)) (fun c8 _ => l.length - (RowKit.intOf c8).toNat)
  case atStart => exact ⟨0, rfl, Nat.zero_le _, G0⟩
  case round =>
    obtain ⟨i, rfl, hi, HB⟩ := hrel
    clear G0
    obtain ⟨A2, hon, hinv, honA⟩ := HB.out
    have hbw : RowKit.Below w.heap.size w wr := H1.out.1.trans (hon.up.mono H1.out.1.size)
    have HG := Lib.hid (And.intro hon (And.intro hinv (And.intro honA hbw)))
    clear HB hon hinv honA hbw
    by_cases hlt : i < l.length
    · obtain ⟨ga, o, rfl, hat⟩ := actRs_at HA.out (by omega)
      obtain ⟨s1, hs1⟩ : ∃ s1, l[i].2.1 = s1 := ⟨_, rfl⟩
      obtain ⟨s2, hs2⟩ : ∃ s2, l[i].2.2 = s2 := ⟨_, rfl⟩
      have HAT : Hid (∀ W, Fr (fun _ => False) wr W → W.cell? ⟨ga, o + i * 3 + 1, none⟩ = some (.int .i64 s1) ∧ W.cell? ⟨ga, o + i * 3 + 2, none⟩ = some (.string s2)) := Lib.hid fun W hW => by
        obtain ⟨c1, c2, c3⟩ := hat W (HG.out.2.2.2.trans (hW.below HG.out.2.2.2.size fun _ _ e => e.elim)) i hlt
        rw [hs1] at c2; rw [hs2] at c3
        exact ⟨c2, c3⟩
      have hok : OkKIS s1 := by rw [← hs1]; exact (HA.out.1 _ (List.getElem_mem hlt)).2.1
      have hnm : s2.data.toList.length ≤ 1000 := by have := HLim.out.2 _ (List.getElem_mem hlt); rw [hs2] at this; rw [Array.length_toList]; show s2.size ≤ 1000; omega
      have n1 : (i : Int) < (l.length : Int) := by omega
      have n2 : decide ((i : Int) < (l.length : Int)) = true := by simp; omega
      have n3 : ¬ (l.length : Int) ≤ (i : Int) := by omega
      have HOK := Lib.hid (And.intro hok (And.intro hnm hs1))
      clear hat hok hnm hs1 hs2
      gi_wp2_with fail
      refine wpIn_class_tail (C := fun W => Fr (fun _ => False) wr W) 11 (by kernel_rfl) (by kernel_rfl) (by kernel_rfl) ((Fr.refl (fun _ => False) wr).drew) ?_
      simp only [List.take_succ_cons, List.take_zero, List.drop_succ_cons, List.drop_zero]
      refine quiet_step_w (fun _ => trivial) (fun K hK => ?_)
      go_simp
      first | refine ⟨_, fun _ _ => rfl, hK _ ?_⟩ | refine hK _ ?_
      clear hK K
      refine quiet_step_w (fun _ => trivial) (fun K hK => ?_)
      go_simp
      first | refine ⟨_, fun _ _ => rfl, hK _ ?_⟩ | refine hK _ ?_
      clear hK K
      refine quiet_step_w (fun _ => trivial) (fun K hK => ?_)
      go_simp
      first | refine ⟨_, fun _ _ => rfl, hK _ ?_⟩ | refine hK _ ?_
      clear hK K
      refine quiet_step_w (fun _ => trivial) (fun K hK => ?_)
      go_simp
      first | refine ⟨_, fun _ _ => rfl, hK _ ?_⟩ | refine hK _ ?_
      clear hK K
      refine quiet_step_w (fun _ => trivial) (fun K hK => ?_)
      go_simp
      first | refine ⟨_, fun _ _ => rfl, hK _ ?_⟩ | refine hK _ ?_
      clear hK K
      refine quiet_step_w (fun _ => trivial) (fun K hK => ?_)
      go_simp
      refine ⟨.int .i64 s1, fun W hW => ?_, hK _ ?_⟩
      · obtain ⟨q1, q2⟩ := HAT.out W hW; go_simp
      clear hK K
      refine quiet_step_w (fun _ => trivial) (fun K hK => ?_)
      go_simp
      first | refine ⟨_, fun _ _ => rfl, hK _ ?_⟩ | refine hK _ ?_
      clear hK K
      refine quiet_step_w (fun _ => trivial) (fun K hK => ?_)
      go_simp
      first | refine ⟨_, fun _ _ => rfl, hK _ ?_⟩ | refine hK _ ?_
      clear hK K
      refine quiet_step_w (fun _ => trivial) (fun K hK => ?_)
      go_simp
      first | refine ⟨_, fun _ _ => rfl, hK _ ?_⟩ | refine hK _ ?_
      clear hK K
      refine quiet_step_w (fun _ => trivial) (fun K hK => ?_)
      go_simp
      first | refine ⟨_, fun _ _ => rfl, hK _ ?_⟩ | refine hK _ ?_
      clear hK K
      refine quiet_step_w (fun _ => trivial) (fun K hK => ?_)
      go_simp
      refine ⟨.string s2, fun W hW => ?_, hK _ ?_⟩
      · obtain ⟨q1, q2⟩ := HAT.out W hW; go_simp
      clear hK K
      refine wpQuietIn_nil ?_
      intro V1 hV1
      have h5 : RsOn i w1.heap.size p g 3 R A2 w1 V1 := HG.out.1.below (hV1.below (Nat.le_refl _) fun _ _ e => e.elim)
      have HJ := Lib.hid (join_on h5 (Nat.le_refl _) (by omega) HOK.out.1 HOK.out.2.1)
      rw [show bs s2.data.toList = s2 from rfl] at HJ
      clear hV1 h5
      gi_wp2_with fail
      refine ⟨trivial, (calls_wide (.inl rfl) HJ.out).mono ?_⟩
      intro e w5 hj
      obtain ⟨pp, mm, rfl, h6⟩ := hj.ret
      have hinv6 := joinA_inv (mb := 3) (id := s1) (nm := s2.data.toList) HG.out.1.keys HG.out.2.1
      have hon6 : ∀ j, onA (joinA p g 3 A2 s1 s2.data.toList).1 j → ∃ q, ∃ h : q < l.length, q < i + 1 ∧ l[q].2.1 = j := fun j hjj => by
        rcases joinA_on hjj with a | a
        · obtain ⟨q, q1, q2, q3⟩ := HG.out.2.2.1 j a
          exact ⟨q, q1, by omega, q3⟩
        · exact ⟨i, hlt, by omega, by rw [HOK.out.2.2, a]⟩
      obtain ⟨A3, hA3⟩ : ∃ A3, (joinA p g 3 A2 s1 s2.data.toList).1 = A3 := ⟨_, rfl⟩
      rw [hA3] at h6 hinv6 hon6
      have HL := Lib.hid (len_on h6)
      have HCt := Lib.hid (count_on h6 (by omega) HOK.out.1)
      obtain ⟨nl, hnl⟩ : ∃ nl, A3.length = nl := ⟨_, rfl⟩
      obtain ⟨nc, hnc⟩ : ∃ nc, (ofA A3 s1).length = nc := ⟨_, rfl⟩
      have v1 := hinv6.1
      have v2 := hinv6.2 s1
      rw [hnl] at HL v1
      rw [hnc] at HCt v2
      have p1 : ¬ p < (nl : Int) := by omega
      have p2 : decide (p < (nl : Int)) = false := by simp; omega
      have p3 : ¬ g < (nc : Int) := by omega
      have p4 : decide (g < (nc : Int)) = false := by simp; omega
      have hbw5 : RowKit.Below w.heap.size w w5 := H1.out.1.trans (h6.up.mono H1.out.1.size)
      obtain ⟨ga', o', hge, hat⟩ := actRs_at HA.out (by omega)
      obtain ⟨_, cI, _⟩ := hat w5 hbw5 i hlt
      rw [HOK.out.2.2] at cI
      injection hge with hge
      injection hge with e1 e2 _
      subst e1; subst e2
      have G5 : Hid (∃ A2, RsOn (i + 1) w1.heap.size p g 3 R A2 w1 w5 ∧ InvA p g A2 ∧ ∀ j, onA A2 j → ∃ q, ∃ h : q < l.length, q < i + 1 ∧ l[q].2.1 = j) := Lib.hid ⟨A3, h6, hinv6, hon6⟩
      clear h6 hinv6 hon6 hA3 hnl hnc v1 v2 hbw5 hat hj HJ
      gi_wp2_with fail
      refine ⟨trivial, (calls_wide (.inl rfl) HL.out).mono ?_⟩
      rintro e w6 ⟨rfl, rfl⟩
      gi_wp2_with fail
      (try rw [hwp])
      gi_wp2_with fail
      refine ⟨trivial, (calls_wide (.inl rfl) HCt.out).mono ?_⟩
      rintro e w6 ⟨rfl, rfl⟩
      gi_wp2_with fail
      (try rw [hwg])
      gi_wp2_with fail
      go_roundw
      case rel => exact ⟨i + 1, by go_num, by omega, G5⟩
      case measure => simp [RowKit.intOf]; omega
    · have n1 : ¬ (i : Int) < (l.length : Int) := by omega
      have n2 : decide ((i : Int) < (l.length : Int)) = false := by simp; omega
      obtain ⟨t, b, tr, X, C, Q, L, h1, hlg, hQA⟩ := HG.out.1.st
      have hq40 : Q.length ≤ 40 := by have := hlg.qlen; omega
      have hLon : ∀ j k, (j, k) ∈ L → ∃ q, ∃ h : q < l.length, 0 ≤ q ∧ l[q].2.1 = j := fun j k hjk => by
        obtain ⟨e, he, _, hm⟩ := (hlg.pairs j k).1 hjk
        obtain ⟨q, hq, _, e2⟩ := HG.out.2.2.1 j ⟨e.r, by rw [← hQA]; exact List.mem_map_of_mem he, hm⟩
        exact ⟨q, hq, Nat.zero_le _, e2⟩
      have HAl := Lib.hid (all_any h1 (by omega))
      have hupW := HG.out.1.up
      have hkN := (Fr.of_below (X := fun _ => False) (hupW.mono (Nat.le_refl _))).blk H1.out.2.1 fun e => e
      have K1 := Lib.hid (And.intro h1 (And.intro hlg (And.intro hq40 (And.intro hLon (And.intro hupW hkN)))))
      clear h1 hlg hQA hq40 hLon hupW hkN
      gi_wp2_with fail
      refine ⟨trivial, (calls_wide (.inl rfl) HAl.out).mono ?_⟩
      rintro e w5 ⟨⟨F, S, rfl, hT, hS1, hS2⟩, b5⟩
      have hSl : S.length = Q.length := hS2.length_eq
      obtain ⟨h1, hlg, hq40, hLon, hupW, hkN⟩ := K1.out
      have h5 := h1.below b5
      obtain ⟨Y, hYb, gf, lb, rfl, hseq, hYl, heg⟩ := tellsPr_tale hT (by rw [List.length_map]; omega)
      obtain ⟨bs5, hbs5⟩ : ∃ bs5, S.map (·.B) = bs5 := ⟨_, rfl⟩
      obtain ⟨nq, hnq⟩ : ∃ nq, Q.length = nq := ⟨_, rfl⟩
      have hbl : bs5.length = nq := by rw [← hbs5, List.length_map, hSl, hnq]
      rw [hbs5] at hseq
      have HLn := Lib.hid (len_any h5)
      rw [hnq] at HLn
      obtain ⟨Nb, hNb⟩ : ∃ Nb, w5.heap.size = Nb := ⟨_, rfl⟩
      obtain ⟨Wr, hWr⟩ : ∃ Wr, w5.alloc (.cells #[.int .i64 (nq : Int)] 3) = Wr := ⟨_, rfl⟩
      have fr : Fr (fun _ => False) w5 Wr := by rw [← hWr]; exact (Fr.refl _ w5).alloc _
      have kr : Wr.heap[Nb]? = some (.cells #[.int .i64 (nq : Int)] 3 (0, 0)) := by rw [← hWr, ← hNb]; exact heap_alloc_new w5 _
      have zr : Wr.heap.size = Nb + 1 := by rw [← hWr, ← hNb]; simp
      have f5 : Fr (fun _ => False) wr w5 := Fr.of_below b5
      have hkr := fr.blk (f5.blk hkN fun e => e) fun e => e
      have hr := h5.fr fr fun _ _ e => e
      have hsqr := hseq.same fun b2 hb2 => fr.block b2 (hYl b2 hb2) fun e => e
      have hCt : ∀ k, wr.heap.size ≤ k → C k = tag0 := h1.cN
      have hz5 := b5.size
      have hWrz : wr.heap.size ≤ Nb := by omega
      have hYn : ∀ k, Y k → wr.heap.size ≤ k ∧ k < Nb := fun k hk => ⟨hYb k hk, by have := hYl k hk; omega⟩
      have hbr : RowKit.Below w1.heap.size w1 Wr := (hupW.trans (b5.mono hupW.size)).trans ((fr.below (Nat.le_refl _) fun _ _ e => e.elim).mono (by have := hupW.size; omega))
      have HWr := Lib.hid (And.intro hWr hNb)
      have K2 := Lib.hid (And.intro kr (And.intro zr (And.intro hkr (And.intro hsqr (And.intro hCt (And.intro hWrz (And.intro hYn (And.intro hbr (And.intro heg (And.intro hbl hq40))))))))))
      have G1 : Hid (LvS w1.heap.size i p g R C l 0 Wr Wr) := Lib.hid ⟨t, b, tr, X, C, Q, L, hr, hlg, Onto.refl C Wr, hLon⟩
      have hnil : ∀ W, (binOp BinOp.eql 52 (.func (.func gf) #[] lb) Value.nilFunc).run Tryz.prog W = .ok (.bool false) W := fun W => by rfl
      have hnq40 : nq ≤ 40 := by omega
      clear hT hS1 hS2 b5 hSl h1 hlg hq40 hLon hupW hkN h5 hYb hseq hYl hbs5 hnq fr kr zr f5 hkr hr hsqr hCt hz5 hWrz hYn hbr heg hWr hNb HAl hbl
      gi_wp2_with fail
      refine ⟨trivial, (calls_wide (.inl rfl) HLn.out).mono ?_⟩
      rintro e w6 ⟨rfl, rfl⟩
      clear HLn
      gi_wp2_with fail
      rw [HWr.out.2]
      rw [HWr.out.1]
      gi_loopw [11] (fun c8 wq => ∃ m : Nat, c8 = .int .i64 m ∧ m ≤ l.length ∧ Hid (LvS w1.heap.size i p g R C l m Wr wq)) (fun c8 _ => l.length - (RowKit.intOf c8).toNat)
      case atStart => exact ⟨0, rfl, Nat.zero_le _, G1⟩
      case round =>
        obtain ⟨m, rfl, hm, HB2⟩ := hrel
        clear G1
        obtain ⟨t3, b3, tr3, X3, C3, Q3, L3, h3, hl3, o3, hid3⟩ := HB2.out
        obtain ⟨kr, zr, hkr, hsqr, hCt, hWrz, hYn, hbr, heg, hbl, hq40⟩ := K2.out
        have hbW : RowKit.Below w1.heap.size w1 wr := hbr.trans (o3.2.below hbr.size fun k hk e => Nat.le_of_not_lt fun e2 => e (by
          have e3 := h3.cB k e2
          rwa [o3.1 k hk] at e3))
        have hbw3 : RowKit.Below w.heap.size w wr := H1.out.1.trans (hbW.mono H1.out.1.size)
        have HG3 := Lib.hid (And.intro h3 (And.intro hl3 (And.intro o3 (And.intro hid3 (And.intro hbW hbw3)))))
        clear HB2 h3 hl3 o3 hid3 hbW hbw3 kr zr hkr hsqr hCt hWrz hYn hbr heg hbl hq40
        by_cases hlt2 : m < l.length
        · obtain ⟨ga, o, rfl, hat⟩ := actRs_at HA.out (by omega)
          obtain ⟨s1, hs1⟩ : ∃ s1, l[m].2.1 = s1 := ⟨_, rfl⟩
          obtain ⟨c1, c2, c3⟩ := hat wr HG3.out.2.2.2.2.2 m hlt2
          rw [hs1] at c2
          have hok : OkKIS s1 := by rw [← hs1]; exact (HA.out.1 _ (List.getElem_mem hlt2)).2.1
          have m1 : (m : Int) < (l.length : Int) := by omega
          have m2 : decide ((m : Int) < (l.length : Int)) = true := by simp; omega
          have m3 : ¬ (l.length : Int) ≤ (m : Int) := by omega
          have HLv := Lib.hid (leave_w HG3.out.1 HG3.out.2.1 (by omega) hok)
          have HOK := Lib.hid (And.intro hok (And.intro hs1 hat))
          clear hat hok hs1 c1 c3
          gi_wp2_with fail
          refine ⟨trivial, (calls_wide (.inl rfl) HLv.out).mono ?_⟩
          rintro e w7 ⟨xs, Q4, x1, x2, rfl, hto, hl4, hmp⟩
          obtain ⟨t4, b4, tr4, X4, C4, h4, o4⟩ := hto.onto
          obtain ⟨h3, hl3, o3, hid3, hbW, hbw3⟩ := HG3.out
          have o34 := o3.trans o4
          have hbW4 : RowKit.Below w1.heap.size w1 w7 := h3.up o4.2 (Nat.le_refl _) hbW (Nat.le_refl _)
          have hbw4 : RowKit.Below w.heap.size w w7 := H1.out.1.trans (hbW4.mono H1.out.1.size)
          have hid4 : ∀ j k, (j, k) ∈ dropL L3 s1 xs → ∃ q, ∃ h : q < l.length, m + 1 ≤ q ∧ l[q].2.1 = j := fun j k hjk => by
            have hin : (j, k) ∈ L3 := by rw [dropL_filter] at hjk; exact (List.mem_filter.1 hjk).1
            have hne : j ≠ s1 := fun e => dropL_pairs x2 k (e ▸ hjk)
            obtain ⟨q, q1, q2, q3⟩ := hid3 j k hin
            refine ⟨q, q1, ?_, q3⟩
            by_cases e : q = m
            · subst e; exact absurd (q3.symm.trans HOK.out.2.1) hne
            · omega
          have hc0 : (ofQ Q4 s1).length = 0 := by
            refine List.length_eq_zero_iff.2 (List.filter_eq_nil_iff.2 fun e he hm2 => ?_)
            exact dropL_pairs x2 (keyE e) ((hl4.pairs _ _).2 ⟨e, he, rfl, hm2⟩)
          have HCt := Lib.hid (count_any h4 hl4 HOK.out.1 (by omega))
          rw [hc0] at HCt
          obtain ⟨_, cI, _⟩ := HOK.out.2.2 w7 hbw4 m hlt2
          rw [HOK.out.2.1] at cI
          have G6 : Hid (LvS w1.heap.size i p g R C l (m + 1) Wr w7) := Lib.hid ⟨t4, b4, tr4, X4, C4, Q4, _, h4, hl4, o34, hid4⟩
          clear x1 x2 hto hl4 hmp h4 o4 h3 hl3 o3 hid3 hbW hbw3 o34 hbW4 hbw4 hid4 hc0 HLv c2
          gi_wp2_with fail
          refine ⟨trivial, (calls_wide (.inl rfl) HCt.out).mono ?_⟩
          rintro e w8 ⟨rfl, rfl⟩
          gi_wp2_with fail
          go_roundw
          case rel => exact ⟨m + 1, by go_num, by omega, G6⟩
          case measure => simp [RowKit.intOf]; omega
        · have m1 : ¬ (m : Int) < (l.length : Int) := by omega
          have m2 : decide ((m : Int) < (l.length : Int)) = false := by simp; omega
          obtain ⟨h3, hl3, o3, hid3, hbW, hbw3⟩ := HG3.out
          obtain ⟨kr, zr, hkr, hsqr, hCt, hWrz, hYn, hbr, heg, hbl, hq40⟩ := K2.out
          have hQ3 : Q3.length = 0 := by
            cases Q3 with
            | nil => rfl
            | cons e r =>
              exfalso
              have hf := hl3.full e (List.mem_cons_self ..)
              cases hm3 : e.r.mem with
              | nil => exact hf hm3
              | cons a ar =>
                have hh : hasM e.r.mem a.1 = true := hasM_mem.2 ⟨a, by rw [hm3]; exact List.mem_cons_self .., rfl⟩
                obtain ⟨q, q1, q2, _⟩ := hid3 a.1 (keyE e) ((hl3.pairs _ _).2 ⟨e, List.mem_cons_self .., rfl, hh⟩)
                omega
          have HLn := Lib.hid (len_any h3)
          rw [hQ3] at HLn
          have tagY : ∀ k, Y k → C k = tag0 := fun k hk => hCt k (hYn k hk).1
          have hsq3 := hsqr.same fun b2 hb2 => o3.2.block b2 (by have := hYn b2 hb2; omega) (by simp [tagY b2 hb2])
          have kn3 := o3.2.blk kr (by rw [hCt Nb hWrz]; simp)
          have hN3 : wr.heap[N]? = some (.cells #[.bool false] 4 (0, 0)) := (Fr.of_below (X := fun _ => False) (hbW.mono (Nat.le_refl _))).blk H1.out.2.1 fun e => e
          obtain ⟨Nk, hNk⟩ : ∃ Nk, wr.heap.size = Nk := ⟨_, rfl⟩
          obtain ⟨W9, hW9⟩ : ∃ W9, wr.alloc (.cells #[.int .i64 0] 3) = W9 := ⟨_, rfl⟩
          have f9 : Fr (fun _ => False) wr W9 := by rw [← hW9]; exact (Fr.refl _ wr).alloc _
          have k9 : W9.heap[Nk]? = some (.cells #[.int .i64 0] 3 (0, 0)) := by rw [← hW9, ← hNk]; exact heap_alloc_new wr _
          have z9 : W9.heap.size = Nk + 1 := by rw [← hW9, ← hNk]; simp
          have hNbk : Nb < Nk := by have := o3.2.size; omega
          have hsq9 := hsq3.same fun b2 hb2 => f9.block b2 (by have := hYn b2 hb2; omega) fun e => e
          have kn9 := f9.blk kn3 fun e => e
          have hN9 := f9.blk hN3 fun e => e
          have hNn : N < w1.heap.size := blk_lt H1.out.2.1
          have hw1N : w1.heap.size ≤ Nb := by have := HG.out.1.up.size; omega
          have hb9 : RowKit.Below w.heap.size w W9 := hbw3.trans ((f9.below (Nat.le_refl _) fun _ _ e => e.elim).mono hbw3.size)
          have HW9 := Lib.hid (And.intro hW9 hNk)
          have K9 := Lib.hid (And.intro k9 (And.intro z9 (And.intro hNbk (And.intro hsq9 (And.intro kn9 (And.intro hN9 (And.intro hNn (And.intro hw1N (And.intro hb9 (And.intro hYn (And.intro heg hbl)))))))))))
          clear h3 hl3 o3 hid3 hbW hbw3 kr zr hkr hsqr hCt hWrz hYn hbr heg hbl hq40 hQ3 tagY hsq3 kn3 hN3 hNk hW9 f9 k9 z9 hNbk hsq9 kn9 hN9 hNn hw1N hb9
          gi_wp2_with (simp only [hnil])
          refine ⟨trivial, (calls_wide (.inl rfl) HLn.out).mono ?_⟩
          rintro e w8 ⟨rfl, rfl⟩
          gi_wp2_with fail
          rw [HW9.out.2]
          rw [HW9.out.1]
          obtain ⟨k9, z9, hNbk, hsq9, kn9, hN9, hNn, hw1N, hb9, hYn, heg, hbl⟩ := K9.out
          refine wpIn_rangeF (X := fun k => k = Nk) (Y := Y) (xs := bs5) (encs := encRm) (gf := gf) (lb := lb) (CntJ Nk) (fun _ _ _ _ => False)
            rfl hsq9 (fun k hk => ⟨by omega, fun e => by have := hYn k e; omega⟩) (fun b2 hb2 => by have := hYn b2 hb2; omega) (by omega) heg (fun _ => rfl)
            (cntJ_stays _) (fun c s X1 V1 V2 h => h.elim) ⟨k9, fun k => Iff.rfl⟩ ?round ?done (fun _ _ _ _ _ _ _ _ _ _ _ h => h.elim)
          case round =>
            rintro lo pre x r X1 V KK rb hl2 hpx hI hG2 hxl hF hlV hK
            dsimp only [encRm]
            have HKK := Lib.hid hK
            have HV := Lib.hid (And.intro hpx (And.intro hI (And.intro hG2 (And.intro hxl (And.intro hF (And.intro hlV hl2))))))
            clear hK hpx hI hG2 hxl hF hlV hl2 k9 z9 hNbk hsq9 kn9 hN9 hNn hw1N hb9 hYn heg hbl
            gi_wp2_with fail
            refine HKK.out _ _ (Fr.refl _ _) fun Vb hfb hzb hsb hrb => ?_
            clear HKK KK
            obtain ⟨hpx, ⟨j2, hX1⟩, hG2, hxl, hF, hlV, hl2⟩ := HV.out
            obtain ⟨k9, z9, hNbk, hsq9, kn9, hN9, hNn, hw1N, hb9, hYn, heg, hbl⟩ := K9.out
            have hpl : pre.length + 1 ≤ nq := by
              have := congrArg List.length hpx
              simp at this; omega
            have v2 := hfb.blk j2 (fun e => hxl ((hX1 lo).2 (show lo = Nk from e.symm)))
            have vn := hfb.blk (hF.blk kn9 (by omega)) (by omega : ¬ Nb = lo)
            have cc2 := blk_cell v2 0
            have dd2 := blk_free v2 0
            have ccn := blk_cell vn 0
            have p1 : ¬ (nq : Int) < (pre.length : Int) + 1 := by omega
            have p2 : decide ((nq : Int) < (pre.length : Int) + 1) = false := by simp; omega
            have p3 : (pre.length : Int) ≤ 100000 := by omega
            have HE := Lib.hid (And.intro v2 (And.intro hX1 (And.intro hG2 (And.intro hxl (And.intro hfb (And.intro hrb (And.intro hzb (show Nb < Nk from hNbk))))))))
            clear hpx j2 hX1 hG2 hxl hF hlV hl2 k9 z9 hsq9 kn9 hN9 hNn hw1N hb9 hYn heg hbl v2 vn hfb hrb hzb hsb hpl
            gi_wp2_with fail
            obtain ⟨v2, hX1, hG2, hxl, hfb, hrb, hzb, hNbk⟩ := HE.out
            have hf3 : Fr X1 Vb (Vb.setCell ⟨Nk, 0, none⟩ (.int .i64 ((pre.length : Int) + 1))) := (Fr.refl X1 Vb).setCell _ ((hX1 _).2 rfl) _
            refine ⟨X1, fun k hk => ⟨Nat.lt_of_lt_of_le (hG2 k hk).1 (Nat.le_trans hfb.size hf3.size), fun _ => hk⟩, (hfb.mono (Y := fun k => k = lo ∨ X1 k) fun k _ e => .inl e).trans3 hf3 fun k _ e => .inr e, hf3.blk hrb hxl, ?_, hX1⟩
            have := blk_set v2 0 (.int .i64 ((pre.length : Int) + 1))
            rw [List.length_append]
            exact this
          case done =>
            rintro D X2 V hD hxD hG2 hF ⟨j2, hX2⟩ hdef
            have vn := hF.blk kn9 (by omega)
            have v0 := hF.blk hN9 (by omega)
            have bV : RowKit.Below w.heap.size w V := hb9.trans (hF.below hb9.size fun k hk e => by have e2 : k = Nk := e; have := H0.out.2.2.2; omega)
            rw [hbl] at j2
            have HV := Lib.hid (And.intro j2 (And.intro vn (And.intro v0 (And.intro bV (And.intro hdef (And.intro (show N ≠ D by omega) (And.intro (show w.heap.size ≤ D by have := hb9.size; have := H0.out.2.2.2; omega) (show Nb ≠ D by omega))))))))
            have HG9 := Lib.hid (get_nil (bs [35, 97]) V)
            clear hD hxD hG2 hF j2 hX2 hdef k9 z9 hNbk hsq9 kn9 hN9 hNn hw1N hb9 hYn heg hbl vn v0 bV
            gi_wp2_with fail
            refine ⟨trivial, (calls_wide (.inl rfl) HG9.out).mono ?_⟩
            rintro e V1 ⟨rfl, bb1⟩
            have HB1 := Lib.hid bb1
            have HJn := Lib.hid (join_nil 1 [35, 97] (by decide) V1)
            clear bb1 HG9
            gi_wp2_with fail
            refine ⟨trivial, (calls_wide (.inl rfl) HJn.out).mono ?_⟩
            rintro e V2 ⟨rfl, bb2⟩
            have HB2 := Lib.hid (HB1.out.trans (bb2.mono HB1.out.size))
            have HPn := Lib.hid (peers_nil 1 V2)
            clear bb2 HJn
            gi_wp2_with fail
            refine ⟨trivial, (calls_wide (.inl rfl) HPn.out).mono ?_⟩
            rintro e V3 ⟨⟨F3, Y3, rfl, hT3⟩, bb3⟩
            have HB3 := Lib.hid (HB2.out.trans (bb3.mono HB2.out.size))
            have HNu := Lib.hid (numbers_F hT3 (by simp) 0 (by simp) (by omega))
            clear bb3 hT3 HPn
            gi_wp2_with fail
            refine ⟨trivial, (calls_wide (.inl rfl) HNu.out).mono ?_⟩
            rintro e V4 ⟨⟨v4, rfl, ho4⟩, bb4⟩
            have HB4 := Lib.hid (HB3.out.trans (bb4.mono HB3.out.size))
            obtain ⟨A4, c4, rfl⟩ := row_slice ho4
            have f4 : Fr (fun _ => False) V V4 := Fr.of_below HB4.out
            have ck := blk_cell (f4.blk HV.out.1 fun e => e) 0
            have cn := blk_cell (f4.blk HV.out.2.1 fun e => e) 0
            have HPt := Lib.hid (part_nil 1 [35, 97] (by decide) V4)
            clear bb4 ho4 f4 HNu
            gi_wp2_with fail
            refine ⟨trivial, (calls_wide (.inl rfl) HPt.out).mono ?_⟩
            rintro e V5 ⟨rfl, bb⟩
            have HB5 := Lib.hid (HB4.out.trans (bb.mono HB4.out.size))
            have HLn2 := Lib.hid (leave_nil 1 V5)
            clear bb HPt ck cn
            gi_wp2_with fail
            refine ⟨trivial, (calls_wide (.inl rfl) HLn2.out).mono ?_⟩
            rintro e V6 ⟨rfl, bb⟩
            have HB6 := Lib.hid (HB5.out.trans (bb.mono HB5.out.size))
            have HCn := Lib.hid (count_nil 1 V6)
            clear bb HLn2
            gi_wp2_with fail
            refine ⟨trivial, (calls_wide (.inl rfl) HCn.out).mono ?_⟩
            rintro e V6 ⟨rfl, rfl⟩
            have HLe := Lib.hid (len_nil V6)
            clear HCn
            gi_wp2_with fail
            refine ⟨trivial, (calls_wide (.inl rfl) HLe.out).mono ?_⟩
            rintro e V6 ⟨rfl, rfl⟩
            have HCo := Lib.hid (common_nil 1 1 V6)
            clear HLe
            gi_wp2_with fail
            refine ⟨trivial, (calls_wide (.inl rfl) HCo.out).mono ?_⟩
            rintro e V7 ⟨rfl, bb⟩
            have HB7 := Lib.hid (HB6.out.trans (bb.mono HB6.out.size))
            have HAn := Lib.hid (all_nil V7)
            clear bb HCo
            gi_wp2_with fail
            refine ⟨trivial, (calls_wide (.inl rfl) HAn.out).mono ?_⟩
            rintro e V8 ⟨⟨F8, rfl, hT8⟩, bb⟩
            have HB8 := Lib.hid (HB7.out.trans (bb.mono HB7.out.size))
            have HS8 := Lib.hid (same_nil hT8)
            clear bb hT8 HAn
            gi_wp2_with fail
            refine ⟨trivial, (calls_wide (.inl rfl) HS8.out).mono ?_⟩
            rintro e V9 ⟨rfl, bb⟩
            have HB9 := Lib.hid (HB8.out.trans (bb.mono HB8.out.size))
            have HOn := Lib.hid (of_nil 1 V9)
            clear bb HS8
            gi_wp2_with fail
            refine ⟨trivial, (calls_wide (.inl rfl) HOn.out).mono ?_⟩
            rintro e V10 ⟨⟨F10, rfl, hT10⟩, bb⟩
            have HB10 := Lib.hid (HB9.out.trans (bb.mono HB9.out.size))
            have HS10 := Lib.hid (same_nil hT10)
            clear bb hT10 HOn
            gi_wp2_with fail
            refine ⟨trivial, (calls_wide (.inl rfl) HS10.out).mono ?_⟩
            rintro e V11 ⟨rfl, bb⟩
            have hB := HB10.out.trans (bb.mono HB10.out.size)
            have f11 : Fr (fun _ => False) V V11 := Fr.of_below hB
            have v0 := f11.blk HV.out.2.2.1 fun e => e
            have vd := f11.blk HV.out.2.2.2.2.1 fun e => e
            have d0 := blk_free v0 0
            have c0 := blk_cell v0 0
            have HQ := Lib.hid (And.intro v0 (And.intro vd (HV.out.2.2.2.1.trans (hB.mono HV.out.2.2.2.1.size))))
            clear bb hB f11 v0 vd HS10
            gi_wp2_with fail
            obtain ⟨v0, vd, hB⟩ := HQ.out
            have hND := HV.out.2.2.2.2.2.1
            have hNw := H0.out.2.2.2
            obtain ⟨W12, hW12⟩ : ∃ W12, V11.setCell ⟨N, 0, none⟩ (Value.bool true) = W12 := ⟨_, rfl⟩
            have e3 : W12.heap[N]? = some (.cells #[.bool true] 4 (0, 0)) := by rw [← hW12]; exact blk_set v0 0 _
            have d3 : W12.heap[D]? = some (.deferred (some [])) := by rw [← hW12]; exact blk_other vd _ (fun e => hND e.symm) _
            have f5 : RowKit.Below w.heap.size w W12 := by rw [← hW12]; exact hB.setCell (by show w.heap.size ≤ N; omega) _
            (try rw [hW12])
            refine leaves_one D _ d3 fun w' hf => ?_
            have e4 := hf.blk e3 hND
            have hDw : w.heap.size ≤ D := HV.out.2.2.2.2.2.2.1
            exact ⟨.bool true, results_box rfl _ _ N _ _ rfl (blk_cell e4 0) Tryz.underlying4 rfl, rfl, f5.trans (hf.below f5.size fun k _ e => by have e2 : k = D := e; omega)⟩
end Go.Proofs.YtlkeomcillencaaGreat
end
