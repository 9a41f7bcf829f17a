/- Layer 2: a book of int: New, Len, Put, find, Get, Name, Delete. -/
import Derived.Test.YtfdaeajafmcjcaaBokAI
import Derived.Test.YtfdaeajafmcjcaaReg
import Derived.Deep.CutRange
import Derived.Shelf.RegionOpenPlain
import Derived.Deep.QuietTactic
import Derived.BigQuiet
import Derived.Laws.ResultCell
namespace Go.Proofs.Ytfdaeajafmcjcaa
set_option linter.unusedVariables false
set_option linter.unusedSimpArgs false
open Go Go.RowKit Go.Maps

def BNewPI (most : Int) (w : World) (e : Ending) (w' : World) : Prop := ∃ t b, e = .returned (.tuple #[.pointer (some ⟨t, 0, none⟩), .int .i64 0]) ∧ BokI w.heap.size w' t b most [] ∧ Below w.heap.size w w'
set_option maxHeartbeats 1000000 in
theorem bok_newI {most : Int} (hm : 0 ≤ most ∧ most ≤ 100000) (w : World) : Calls Try.prog 9 #[.int .i64 most] w (BNewPI most w) := by
  have hmm := @run_makeMap Try.prog
  have p1 : decide (most < 0) = false := by simp; omega
  have p2 : decide (100000 < most) = false := by simp; omega
  have p3 : ¬ most < 0 := by omega
  have p4 : ¬ 100000 < most := by omega
  go_enter Try.func9, Try.ntmps9
  go_wp2_with fail
  go_ret2
  refine ⟨_, _, rfl, ⟨by omega, Nat.le_refl _, by omega, ?_, ?_⟩, ((Below.refl _ _).alloc (Nat.le_refl _) _).alloc (by simp) _⟩
  · have := heap_alloc_new (w.alloc (Obj.map #[] 0)) (Obj.cells #[Value.int .i64 most, Value.map (some w.heap.size)] 68)
    rwa [World.size_alloc] at this
  · exact ⟨.map [], (World.ownsMap_made w _ _ _).alloc _, mapHas_empty _ _, fun p hp => by cases hp⟩
set_option maxHeartbeats 1000000 in
theorem bok_lenI {base : Nat} {w : World} {t b : Nat} {most : Int} {T : List (KeyB × Ent VI)} (h : BokI base w t b most T) : Calls Try.prog 17 #[.pointer (some ⟨t, 0, none⟩)] w fun e w' => e = .returned (.int .i64 T.length) ∧ w' = w := by
  obtain ⟨a1, a2, a3, a4, D, a5, a6, a7⟩ := h
  have c0 := blk_cell a4 1
  have hl := a5.len Try.underlying66 3
  rw [a6.size] at hl
  clear a1 a2 a3 a4 a5 a6 a7
  go_enter Try.func17, Try.ntmps17
  go_wp2_with fail
  go_ret
  exact ⟨rfl, rfl⟩
def PutPI (base t b : Nat) (most : Int) (T : List (KeyB × Ent VI)) (name : ByteArray) (v : VI) (w : World) (e : Ending) (w' : World) : Prop :=
  (((lookM T (foldL name.data.toList)).isSome = true ∨ (T.length : Int) < most) ∧ e = .returned (.int .i64 0) ∧ BokI base w' t b most (setM T (foldL name.data.toList) ⟨name, foldL name.data.toList, v⟩) ∨ ((lookM T (foldL name.data.toList)).isSome = false ∧ ¬ (T.length : Int) < most) ∧ e = .returned (.int .i64 7) ∧ BokI base w' t b most T) ∧ Fr (fun j => j = b) w w'
set_option maxHeartbeats 4000000 in
theorem bok_putI {base : Nat} {w : World} {t b : Nat} {most : Int} {T : List (KeyB × Ent VI)} (h : BokI base w t b most T) {name : ByteArray} {v : VI} (hs : name.size ≤ 1000000) (hv : OkVI v) (hl : T.length ≤ 1000000) :
    Calls Try.prog 12 #[.pointer (some ⟨t, 0, none⟩), .string name, thVI v] w (PutPI base t b most T name v w) := by
  obtain ⟨R, hR⟩ : ∃ R, PutPI base t b most T name v w = R := ⟨_, rfl⟩
  rw [hR]
  have HR := Lib.hid hR
  clear hR
  have HT := Lib.hid (text_any name w hs)
  have HH := Lib.hid h
  clear h
  obtain ⟨k, hk⟩ : ∃ k, foldL name.data.toList = k := ⟨_, rfl⟩
  have hok : OkKB k := by rw [← hk]; exact fold_ok name hs
  rw [hk] at HT
  have HK := Lib.hid (And.intro hk hok)
  have HV := Lib.hid (And.intro hv hs)
  clear hk hok hv hs
  obtain ⟨z, hz⟩ : ∃ z, (lookM T k).getD zeroEI = z := ⟨_, rfl⟩
  obtain ⟨i, hi⟩ : ∃ i, (lookM T k).isSome = i := ⟨_, rfl⟩
  have HZ := Lib.hid (And.intro hz hi)
  clear hz hi
  unfold thVI
  go_enter Try.func12, Try.ntmps12
  go_wp2_with fail
  refine HT.out.mono ?_
  rintro e w1 ⟨rfl, b1⟩
  have h1 := bokI_below HH.out b1
  have c1 := blk_cell h1.2.2.2.1 1
  have hlk := lookBI h1.2.2.2.2 HK.out.2
  rw [HZ.out.1, HZ.out.2] at hlk
  obtain ⟨w2, hw2⟩ : ∃ w2, w1.alloc (Obj.cells #[.string z.name, .string (bs z.fold), thVI z.thing] 70) = w2 := ⟨_, rfl⟩
  have f2 : Fr (fun _ => False) w w2 := by rw [← hw2]; exact ((Fr.of_below b1).mono fun _ _ e => e).alloc _
  have H2 := Lib.hid f2
  clear h1 b1 HT f2
  unfold kVB valEI thVI at *
  have h2 := bokI_fr HH.out H2.out (fun e => e) fun e => e
  have c0 := blk_cell h2.2.2.2.1 0
  have c2 := blk_cell h2.2.2.2.1 1
  have hln : ∀ n, (Builtin.len_ #[66] 3 #[.map (some b)]).run Try.prog (w2.drewN n) = .ok (.int .i64 T.length) (w2.drewN n) := fun n => by
    have h3 := bokI_fr h2 ((Fr.refl (fun _ => False) w2).drewN n) (fun e => e) fun e => e
    obtain ⟨a1, a2, a3, a4, D, a5, a6, a7⟩ := h3
    have := a5.len Try.underlying66 3
    rwa [a6.size] at this
  clear h2
  go_upto_region 5 with fail
  have done : ∀ n, ∃ w', (Instr.mapUpdate 66 (.map (some b)) (.string (bs k)) (.agg #[.string name, .string (bs k), .int .i64 v])).run Try.prog (w2.drewN n) = .ok () w' ∧ Hid (BokI base w' t b most (setM T k ⟨name, k, v⟩) ∧ Fr (fun j => j = b) w w') := fun n => by
    have f3 : Fr (fun _ => False) w (w2.drewN n) := H2.out.drewN n
    have h3 := bokI_fr HH.out f3 (fun e => e) fun e => e
    obtain ⟨a1, a2, a3, a4, D, a5, a6, a7⟩ := h3
    obtain ⟨w', u1, u2, u3⟩ := a5.update keyedB Try.underlying66 (by unfold maxLen; omega) (keyOfB HK.out.2) (readEI_val ⟨name, k, v⟩)
    have hf : Fr (fun j => j = b) (w2.drewN n) w' := (Fr.refl _ _).grown u3 fun j e => by cases e; exact .inr rfl
    have h6 := a6.put kLB_inj (a5.tidy keyedB) k (kLB_key k) ⟨name, k, v⟩
    have h7 : OkTIB (setM T k ⟨name, k, v⟩) := by
      have := okTIB_set (v := v) a7 HV.out.2 HV.out.1
      rwa [HK.out.1] at this
    exact ⟨w', u1, ⟨a1, a2, a3, hf.blk a4 a3, _, by rw [← h6.size]; exact ownsB_tight u2, h6, h7⟩, (f3.mono fun _ _ e => e.elim).trans hf⟩
  have HD := Lib.hid done
  clear done
  cases i with
  | true =>
    go_quiet (fail)
    obtain ⟨w', u1, hW⟩ := HD.out nq
    go_wp2_with fail
    rw [← HR.out]
    refine ⟨.inl ⟨.inl ?_, rfl, ?_⟩, hW.out.2⟩
    · rw [HK.out.1]; exact HZ.out.2
    · rw [HK.out.1]; exact hW.out.1
  | false =>
    by_cases hlt : (T.length : Int) < most
    · have q1 : decide (most ≤ (T.length : Int)) = false := by simp <;> omega
      have q2 : ¬ most ≤ (T.length : Int) := by omega
      go_quiet (fail)
      obtain ⟨w', u1, hW⟩ := HD.out nq
      go_wp2_with fail
      rw [← HR.out]
      refine ⟨.inl ⟨.inr hlt, rfl, ?_⟩, hW.out.2⟩
      rw [HK.out.1]; exact hW.out.1
    · have q1 : decide (most ≤ (T.length : Int)) = true := by simp <;> omega
      have q2 : most ≤ (T.length : Int) := by omega
      go_quiet (fail)
      go_wp2_with fail
      rw [← HR.out]
      refine ⟨.inr ⟨⟨?_, by omega⟩, rfl, ?_⟩, ((H2.out.mono fun _ _ e => e.elim).drewN nq)⟩
      · rw [HK.out.1]; exact HZ.out.2
      · exact bokI_fr HH.out (H2.out.drewN nq) (fun e => e) fun e => e
theorem bok_put_nilI (name : ByteArray) (v : VI) (w : World) : Calls Try.prog 12 #[.pointer none, .string name, thVI v] w fun e w' => e = .returned (.int .i64 1) ∧ w' = w := by
  unfold thVI
  go_enter Try.func12, Try.ntmps12
  go_wp2_with fail
  go_ret
  exact ⟨rfl, rfl⟩
theorem bok_len_nilI (w : World) : Calls Try.prog 17 #[.pointer none] w fun e w' => e = .returned (.int .i64 0) ∧ w' = w := by
  go_enter Try.func17, Try.ntmps17
  go_wp2_with fail
  go_ret
  exact ⟨rfl, rfl⟩
def FindPI (T : List (KeyB × Ent VI)) (k : KeyB) (w : World) (e : Ending) (w' : World) : Prop := e = .returned (.tuple #[valEI ((lookM T k).getD zeroEI), .bool (lookM T k).isSome]) ∧ Below w.heap.size w w'
theorem set3I {V : World} {E : Nat} {T : TypeId} {a b c x y u : Value} (h : V.heap[E]? = some (.cells #[a, b, c] T (0, 0))) : (((V.setCell ⟨E, 0, none⟩ x).setCell ⟨E, 1, none⟩ y).setCell ⟨E, 2, none⟩ u).heap[E]? = some (.cells #[x, y, u] T (0, 0)) := by
  have := blk_set (blk_set (blk_set h 0 x) 1 y) 2 u
  simpa using this
theorem fr3I {w1 V : World} {x y u : Value} (h : Fr (fun _ => False) w1 V) : Fr (fun _ => False) w1 (((V.setCell ⟨w1.heap.size, 0, none⟩ x).setCell ⟨w1.heap.size, 1, none⟩ y).setCell ⟨w1.heap.size, 2, none⟩ u) :=
  ((h.setNew _ (Nat.le_refl _) _).setNew _ (Nat.le_refl _) _).setNew _ (Nat.le_refl _) _
theorem res_entI {P : Program} {fn : Func} {p u : Tmp} {ty : TypeId} {tmps : Array Value} {V : World} {N : Nat} {a b c : Value} (h : fn.results = #[.cell p ty, .tmp u]) (hp : tmps.getD p undef = .pointer (some ⟨N, 0, none⟩)) (hg : (isAgg ty).run P V = .ok true V) (hz : (sizeOf ty).run P V = .ok 3 V)
    (h0 : V.cell? ⟨N, 0, none⟩ = some a) (h1 : V.cell? ⟨N, 1, none⟩ = some b) (h2 : V.cell? ⟨N, 2, none⟩ = some c) : (results fn tmps).run P V = .ok (.tuple #[.agg #[a, b, c], tmps.getD u undef]) V := by
  rw [results_cell_tmp h, hp]
  simp [asAddr, loadVar, Sem.run_bind, hg, hz, loadCells, loadCellsFrom, h0, h1, h2, Result.andThen, go_sem]
set_option maxRecDepth 100000 in
set_option maxHeartbeats 4000000 in
theorem bok_findI {base : Nat} {w : World} {t b : Nat} {most : Int} {T : List (KeyB × Ent VI)} (h : BokI base w t b most T) {name : ByteArray} (hs : name.size ≤ 1000000) :
    Calls Try.prog 31 #[.pointer (some ⟨t, 0, none⟩), .string name] w (FindPI T (foldL name.data.toList) w) := by
  have HT := Lib.hid (fun W => text_any name W hs)
  have HH := Lib.hid h
  clear h
  obtain ⟨k, hk⟩ : ∃ k, foldL name.data.toList = k := ⟨_, rfl⟩
  have hok : OkKB k := by rw [← hk]; exact fold_ok name hs
  rw [hk] at HT ⊢
  have HK := Lib.hid (And.intro hk hok)
  unfold FindPI
  clear hk hok
  obtain ⟨z, hz⟩ : ∃ z, (lookM T k).getD zeroEI = z := ⟨_, rfl⟩
  obtain ⟨i, hi⟩ : ∃ i, (lookM T k).isSome = i := ⟨_, rfl⟩
  have HZ := Lib.hid (And.intro hz hi)
  rw [hz, hi]
  clear hz hi
  obtain ⟨N, hN⟩ : ∃ N, w.heap.size = N := ⟨_, rfl⟩
  obtain ⟨w1, hw1⟩ : ∃ w1, w.alloc (Obj.cells #[.string ⟨#[]⟩, .string ⟨#[]⟩, .int .i64 0] 70) = w1 := ⟨_, rfl⟩
  have f1 : Fr (fun _ => False) w w1 := by rw [← hw1]; exact (Fr.refl _ w).alloc _
  have k1 : w1.heap[N]? = some (.cells #[.string ⟨#[]⟩, .string ⟨#[]⟩, .int .i64 0] 70 (0, 0)) := by rw [← hw1, ← hN]; exact heap_alloc_new w _
  have h1 := bokI_fr HH.out f1 (fun e => e) fun e => e
  obtain ⟨Z, hZ⟩ : ∃ Z, Obj.cells #[.string ⟨#[]⟩, .string ⟨#[]⟩, .int .i64 0] 70 = Z := ⟨_, rfl⟩
  have facts : ∀ V, Fr (fun _ => False) w1 V → V.cell? ⟨t, 1, none⟩ = some (.map (some b)) ∧ ((Instr.lookup 66 (.map (some b)) (.string (bs k)) true).run Try.prog V).andThen (fun a w' => Result.ok (Next.value a) w') = .ok (.value (.tuple #[.agg #[.string z.name, .string (bs z.fold), .int .i64 z.thing], .bool i])) V ∧ V.heap[N]? = some (.cells #[.string ⟨#[]⟩, .string ⟨#[]⟩, .int .i64 0] 70 (0, 0)) := fun V hV => by
    have h2 := bokI_fr h1 hV (fun e => e) fun e => e
    have hlk := lookBI h2.2.2.2.2 HK.out.2
    rw [HZ.out.1, HZ.out.2] at hlk
    unfold kVB valEI thVI at hlk
    exact ⟨blk_cell h2.2.2.2.1 1, by rw [hlk]; rfl, hV.blk k1 fun e => e⟩
  have hzN : w1.heap.size = N + 1 := by rw [← hw1, ← hN]; simp
  have HX := Lib.hid (And.intro facts (And.intro f1 (And.intro hzN hN)))
  obtain ⟨a1, a2, a3⟩ := facts w1.drew ((Fr.refl _ w1).drew)
  have fA : Fr (fun _ => False) w1 ((w1.alloc (Obj.cells #[.string ⟨#[]⟩, .string ⟨#[]⟩, .int .i64 0] 70)).drew) := ((Fr.refl _ w1).alloc _).drew
  obtain ⟨b1, b2, b3⟩ := facts _ fA
  have kA := heap_alloc_new w1 (Obj.cells #[.string ⟨#[]⟩, .string ⟨#[]⟩, .int .i64 0] 70)
  have hzD : w1.drew.heap.size = N + 1 := hzN
  have HT2 : Hid (∀ X, (X = w1.drew ∨ X = (w1.alloc (Obj.cells #[.string ⟨#[]⟩, .string ⟨#[]⟩, .int .i64 0] 70)).drew) → Calls Try.prog 32 #[.string name] X fun e v2 => e = .returned (.string (bs k)) ∧ v2.cell? ⟨t, 1, none⟩ = some (.map (some b)) ∧ (v2.alloc (Obj.cells #[.string ⟨#[]⟩, .string ⟨#[]⟩, .int .i64 0] 70)).cell? ⟨t, 1, none⟩ = some (.map (some b)) ∧
      ((Instr.lookup 66 (.map (some b)) (.string (bs k)) true).run Try.prog v2).andThen (fun a w' => Result.ok (Next.value a) w') = .ok (.value (.tuple #[.agg #[.string z.name, .string (bs z.fold), .int .i64 z.thing], .bool i])) v2 ∧
      ((Instr.lookup 66 (.map (some b)) (.string (bs k)) true).run Try.prog (v2.alloc (Obj.cells #[.string ⟨#[]⟩, .string ⟨#[]⟩, .int .i64 0] 70))).andThen (fun a w' => Result.ok (Next.value a) w') = .ok (.value (.tuple #[.agg #[.string z.name, .string (bs z.fold), .int .i64 z.thing], .bool i])) (v2.alloc (Obj.cells #[.string ⟨#[]⟩, .string ⟨#[]⟩, .int .i64 0] 70)) ∧
      Hid (Fr (fun _ => False) w1 v2) ∧ (X = (w1.alloc (Obj.cells #[.string ⟨#[]⟩, .string ⟨#[]⟩, .int .i64 0] 70)).drew → v2.cell? ⟨w1.heap.size, 0, none⟩ = some (.string ⟨#[]⟩) ∧ v2.cell? ⟨w1.heap.size, 1, none⟩ = some (.string ⟨#[]⟩) ∧ v2.cell? ⟨w1.heap.size, 2, none⟩ = some (.int .i64 0) ∧ v2.frozen? ⟨w1.heap.size, 0, none⟩ = false ∧ v2.frozen? ⟨w1.heap.size, 1, none⟩ = false ∧ v2.frozen? ⟨w1.heap.size, 2, none⟩ = false ∧ Hid (v2.heap[w1.heap.size]? = some (Obj.cells #[.string ⟨#[]⟩, .string ⟨#[]⟩, .int .i64 0] 70)))) := fun X hX => by
    have fX : Fr (fun _ => False) w1 X := by rcases hX with rfl | rfl; exact (Fr.refl _ w1).drew; exact fA
    refine (HT.out X).mono fun e v2 ⟨he, b2⟩ => ?_
    have fv := fX.trans (Fr.of_below b2)
    have q1 := facts v2 fv
    have q2 := facts _ (fv.alloc (Obj.cells #[.string ⟨#[]⟩, .string ⟨#[]⟩, .int .i64 0] 70))
    refine ⟨he, q1.1, q2.1, q1.2.1, q2.2.1, fv, fun hx => ?_⟩
    subst hx
    have kE := (Fr.of_below (X := fun _ => False) b2).blk kA fun e => e
    exact ⟨blk_cell kE 0, blk_cell kE 1, blk_cell kE 2, blk_free kE 0, blk_free kE 1, blk_free kE 2, kE⟩
  have oD : w1.drew = w1.drew ∨ w1.drew = (w1.alloc (Obj.cells #[.string ⟨#[]⟩, .string ⟨#[]⟩, .int .i64 0] 70)).drew := .inl rfl
  have HTD := Lib.hid (HT2.out w1.drew (.inl rfl))
  have HTA := Lib.hid (HT2.out ((w1.alloc (Obj.cells #[.string ⟨#[]⟩, .string ⟨#[]⟩, .int .i64 0] 70)).drew) (.inr rfl))
  clear oD HT HT2 hzD
  clear facts h1 k1 f1 a3 b3 kA fA hzN hZ Z
  have mixed : (Try.prog).follows Departure.mixedOrders = true := by kernel_rfl
  unfold valEI thVI
  go_enter Try.func31, Try.ntmps31
  go_upto_region 3 with fail
  clear hw1 hN
  go_cut [6, 7] from 8 to 22 (fun s6 s7 wx => ∃ E : Nat, s6 = .pointer (some ⟨E, 0, none⟩) ∧ s7 = .bool i ∧ Hid (N < E ∧ wx.heap[E]? = some (.cells #[.string z.name, .string (bs z.fold), .int .i64 z.thing] 70 (0, 0)) ∧ wx.heap[N]? = some (.cells #[.string ⟨#[]⟩, .string ⟨#[]⟩, .int .i64 0] 70 (0, 0)) ∧ Fr (fun _ => False) w1 wx))
  case first =>
    go_region_with_o (first | (with_reducible refine HTD.out.mono ?_; rintro e v2 ⟨rfl, g1, g4, g2, g3, HV2, hbx⟩; clear hbx) | (with_reducible refine HTA.out.mono ?_; rintro e v2 ⟨rfl, g1, g4, g2, g3, HV2, hbx⟩; simp only [true_implies, forall_const] at hbx))
    all_goals (go_wp2_with fail; go_meet; case rel => first
      | exact ⟨_, rfl, rfl, by have := HV2.out.size; have := HX.out.2.2; omega, heap_alloc_new v2 _, (HX.out.1 _ (HV2.out.alloc _)).2.2, HV2.out.alloc _⟩
      | exact ⟨_, rfl, rfl, by have := HX.out.2.2; omega, set3I hbx.2.2.2.2.2.2.out, (HX.out.1 _ (fr3I HV2.out)).2.2, fr3I HV2.out⟩)
  case rest =>
  obtain ⟨E, rfl, rfl, HC⟩ := hcut
  clear a1 a2 b1 b2 HTD HTA
  have e0 := blk_cell HC.out.2.1 0
  have e1 := blk_cell HC.out.2.1 1
  have e2 := blk_cell HC.out.2.1 2
  have n0 := blk_cell HC.out.2.2.1 0
  have n1 := blk_cell HC.out.2.2.1 1
  have n2 := blk_cell HC.out.2.2.1 2
  have d0 := blk_free HC.out.2.2.1 0
  have d1 := blk_free HC.out.2.2.1 1
  have d2 := blk_free HC.out.2.2.1 2
  go_wp2_with fail
  (try simp only [Exit.inBlock, Exit.then])
  have r3 := set3I (x := .string z.name) (y := .string (bs z.fold)) (u := .int .i64 z.thing) HC.out.2.2.1
  refine bodyPost_ret (res_entI rfl rfl (Try.isAgg70 _) (Try.sizeOf70 _) (blk_cell r3 0) (blk_cell r3 1) (blk_cell r3 2)) rfl ?_
  have h0 := (HX.out.2.1.trans HC.out.2.2.2).below (Nat.le_refl _) (fun _ _ e => e.elim)
  have hN := HX.out.2.2.2
  exact ⟨rfl, ((h0.setCell (by rw [hN]; exact Nat.le_refl _) _).setCell (by rw [hN]; exact Nat.le_refl _) _).setCell (by rw [hN]; exact Nat.le_refl _) _⟩
theorem bok_find_nilI (name : ByteArray) (w : World) : Calls Try.prog 31 #[.pointer none, .string name] w fun e w' => e = .returned (.tuple #[valEI zeroEI, .bool false]) ∧ Below w.heap.size w w' := by
  obtain ⟨N, hN⟩ : ∃ N, w.heap.size = N := ⟨_, rfl⟩
  obtain ⟨w1, hw1⟩ : ∃ w1, w.alloc (Obj.cells #[.string ⟨#[]⟩, .string ⟨#[]⟩, .int .i64 0] 70) = w1 := ⟨_, rfl⟩
  have b1 : Below w.heap.size w w1 := by rw [← hw1]; exact (Below.refl _ w).alloc (Nat.le_refl _) _
  have k1 : w1.heap[N]? = some (.cells #[.string ⟨#[]⟩, .string ⟨#[]⟩, .int .i64 0] 70 (0, 0)) := by rw [← hw1, ← hN]; exact heap_alloc_new w _
  have c0 := blk_cell k1 0
  have c1 := blk_cell k1 1
  have c2 := blk_cell k1 2
  have d0 := blk_free k1 0
  have d1 := blk_free k1 1
  have d2 := blk_free k1 2
  have H1 := Lib.hid (And.intro b1 k1)
  clear b1 k1
  unfold valEI thVI zeroEI
  go_enter Try.func31, Try.ntmps31
  go_wp2_with fail
  (try simp only [Exit.inBlock, Exit.then])
  have r3 := set3I (x := .string ⟨#[]⟩) (y := .string ⟨#[]⟩) (u := .int .i64 0) H1.out.2
  refine bodyPost_ret (res_entI rfl rfl (Try.isAgg70 _) (Try.sizeOf70 _) (blk_cell r3 0) (blk_cell r3 1) (blk_cell r3 2)) rfl ?_
  exact ⟨rfl, by have h0 := H1.out.1; exact ((h0.setCell (by rw [hN]; exact Nat.le_refl _) _).setCell (by rw [hN]; exact Nat.le_refl _) _).setCell (by rw [hN]; exact Nat.le_refl _) _⟩
set_option maxHeartbeats 1000000 in
theorem bok_getI {base : Nat} {w : World} {t b : Nat} {most : Int} {T : List (KeyB × Ent VI)} (h : BokI base w t b most T) {name : ByteArray} (hs : name.size ≤ 1000000) :
    Calls Try.prog 14 #[.pointer (some ⟨t, 0, none⟩), .string name] w fun e w' => e = .returned (.tuple #[thVI ((lookM T (foldL name.data.toList)).getD zeroEI).thing, .bool (lookM T (foldL name.data.toList)).isSome]) ∧ Below w.heap.size w w' := by
  have HF := Lib.hid (bok_findI h hs)
  clear h
  obtain ⟨z, hz⟩ : ∃ z, (lookM T (foldL name.data.toList)).getD zeroEI = z := ⟨_, rfl⟩
  obtain ⟨i, hi⟩ : ∃ i, (lookM T (foldL name.data.toList)).isSome = i := ⟨_, rfl⟩
  unfold FindPI at HF
  rw [hz, hi] at HF ⊢
  unfold valEI thVI at *
  clear hz hi
  go_enter Try.func14, Try.ntmps14
  go_wp2_with fail
  refine HF.out.mono ?_
  rintro e w1 ⟨rfl, b1⟩
  have B1 := Lib.hid b1
  clear b1 HF
  go_wp2_with fail
  go_ret2
  exact ⟨rfl, B1.out.alloc (by have := B1.out.size; omega) _⟩
theorem bok_get_nilI (name : ByteArray) (w : World) : Calls Try.prog 14 #[.pointer none, .string name] w fun e w' => e = .returned (.tuple #[thVI zeroEI.thing, .bool false]) ∧ Below w.heap.size w w' := by
  have HF := Lib.hid (bok_find_nilI name w)
  unfold valEI thVI zeroEI at *
  go_enter Try.func14, Try.ntmps14
  go_wp2_with fail
  refine HF.out.mono ?_
  rintro e w1 ⟨rfl, b1⟩
  have B1 := Lib.hid b1
  clear b1 HF
  go_wp2_with fail
  go_ret2
  exact ⟨rfl, B1.out.alloc (by have := B1.out.size; omega) _⟩
set_option maxHeartbeats 1000000 in
theorem bok_nameI {base : Nat} {w : World} {t b : Nat} {most : Int} {T : List (KeyB × Ent VI)} (h : BokI base w t b most T) {name : ByteArray} (hs : name.size ≤ 1000000) :
    Calls Try.prog 15 #[.pointer (some ⟨t, 0, none⟩), .string name] w fun e w' => e = .returned (.tuple #[.string ((lookM T (foldL name.data.toList)).getD zeroEI).name, .bool (lookM T (foldL name.data.toList)).isSome]) ∧ Below w.heap.size w w' := by
  have HF := Lib.hid (bok_findI h hs)
  clear h
  obtain ⟨z, hz⟩ : ∃ z, (lookM T (foldL name.data.toList)).getD zeroEI = z := ⟨_, rfl⟩
  obtain ⟨i, hi⟩ : ∃ i, (lookM T (foldL name.data.toList)).isSome = i := ⟨_, rfl⟩
  unfold FindPI at HF
  rw [hz, hi] at HF ⊢
  unfold valEI thVI at *
  clear hz hi
  go_enter Try.func15, Try.ntmps15
  go_wp2_with fail
  refine HF.out.mono ?_
  rintro e w1 ⟨rfl, b1⟩
  have B1 := Lib.hid b1
  clear b1 HF
  go_wp2_with fail
  go_ret2
  exact ⟨rfl, B1.out.alloc (by have := B1.out.size; omega) _⟩
theorem bok_name_nilI (name : ByteArray) (w : World) : Calls Try.prog 15 #[.pointer none, .string name] w fun e w' => e = .returned (.tuple #[.string ⟨#[]⟩, .bool false]) ∧ Below w.heap.size w w' := by
  have HF := Lib.hid (bok_find_nilI name w)
  unfold valEI thVI zeroEI at *
  go_enter Try.func15, Try.ntmps15
  go_wp2_with fail
  refine HF.out.mono ?_
  rintro e w1 ⟨rfl, b1⟩
  have B1 := Lib.hid b1
  clear b1 HF
  go_wp2_with fail
  go_ret2
  exact ⟨rfl, B1.out.alloc (by have := B1.out.size; omega) _⟩
set_option maxRecDepth 100000 in
set_option maxHeartbeats 2000000 in
theorem bok_delI {base : Nat} {w : World} {t b : Nat} {most : Int} {T : List (KeyB × Ent VI)} (h : BokI base w t b most T) {name : ByteArray} (hs : name.size ≤ 1000000) :
    Calls Try.prog 10 #[.pointer (some ⟨t, 0, none⟩), .string name] w fun e w' => e = .returned (.bool (lookM T (foldL name.data.toList)).isSome) ∧ BokI base w' t b most (delM T (foldL name.data.toList)) ∧ Fr (fun j => j = b) w w' := by
  have HF := Lib.hid (bok_findI h hs)
  have HH := Lib.hid h
  clear h
  obtain ⟨k, hk⟩ : ∃ k, foldL name.data.toList = k := ⟨_, rfl⟩
  have hok : OkKB k := by rw [← hk]; exact fold_ok name hs
  rw [hk] at HF ⊢
  clear hk
  obtain ⟨z, hz⟩ : ∃ z, (lookM T k).getD zeroEI = z := ⟨_, rfl⟩
  obtain ⟨i, hi⟩ : ∃ i, (lookM T k).isSome = i := ⟨_, rfl⟩
  unfold FindPI at HF
  rw [hz, hi] at HF
  rw [hi]
  have HZ := Lib.hid (And.intro hz (And.intro hi hok))
  clear hz hi hok
  unfold valEI thVI at *
  go_enter Try.func10, Try.ntmps10
  go_wp2_with fail
  refine HF.out.mono ?_
  rintro e w1 ⟨rfl, b1⟩
  have h1 := bokI_below HH.out b1
  have f1 : Fr (fun _ => False) w w1 := Fr.of_below b1
  have H1 := Lib.hid (And.intro h1 f1)
  clear b1 HF h1 f1
  cases i with
  | false =>
    go_wp2_with fail
    go_ret
    refine ⟨rfl, ?_, (H1.out.2.mono fun _ _ e => e.elim).alloc _⟩
    rw [lookM_none HZ.out.2.1]
    exact bokI_fr HH.out (H1.out.2.alloc _) (fun e => e) fun e => e
  | true =>
    obtain ⟨Z, hZ⟩ : ∃ Z, Obj.cells #[.string z.name, .string (bs z.fold), .int .i64 z.thing] 70 = Z := ⟨_, rfl⟩
    obtain ⟨w2, hw2⟩ : ∃ w2, w1.alloc (Obj.cells #[.string z.name, .string (bs z.fold), .int .i64 z.thing] 70) = w2 := ⟨_, rfl⟩
    obtain ⟨E, hE⟩ : ∃ E, w1.heap.size = E := ⟨_, rfl⟩
    have f2 : Fr (fun _ => False) w w2 := by rw [← hw2]; exact H1.out.2.alloc _
    have k2 : w2.heap[E]? = some (.cells #[.string z.name, .string (bs z.fold), .int .i64 z.thing] 70 (0, 0)) := by rw [← hw2, ← hE]; exact heap_alloc_new w1 _
    have h2 := bokI_fr HH.out f2 (fun e => e) fun e => e
    have c1 := blk_cell h2.2.2.2.1 1
    have c2 := blk_cell k2 1
    have hzk : z.fold = k := by
      have h3 := h2.2.2.2.2
      obtain ⟨D, _, _, a7⟩ := h3
      have hz := HZ.out.1
      cases hl : lookM T k with
      | none => have := HZ.out.2.1; rw [hl] at this; cases this
      | some v =>
        rw [hl] at hz
        obtain rfl : v = z := hz
        exact (a7 _ (lookM_in hl)).2.1
    rw [hzk] at c2 hw2
    have H2 := Lib.hid f2
    clear f2 k2 h2 hZ Z
    have done : ∃ w', (Builtin.delete_ #[66, 9] 0 #[.map (some b), .string (bs k)]).run Try.prog w2.drew = .ok (.tuple #[]) w' ∧ Hid (BokI base w' t b most (delM T k) ∧ Fr (fun j => j = b) w w') := by
      have f3 : Fr (fun _ => False) w w2.drew := H2.out.drew
      have h3 := bokI_fr HH.out f3 (fun e => e) fun e => e
      obtain ⟨a1, a2, a3, a4, D, a5, a6, a7⟩ := h3
      obtain ⟨w', u1, u2, u3⟩ := a5.drop keyedB Try.underlying66 (keyOfB HZ.out.2.2) 0
      have hf : Fr (fun j => j = b) w2.drew w' := (Fr.refl _ _).grown u3.grown fun j e => by cases e; exact .inr rfl
      have h6 := a6.del kLB_inj (a5.tidy keyedB) k
      exact ⟨w', u1, ⟨a1, a2, a3, hf.blk a4 a3, _, by rw [← h6.size]; exact ownsB_tight u2, h6, okTIB_del a7 k⟩, (f3.mono fun _ _ e => e.elim).trans hf⟩
    obtain ⟨w', u1, hW⟩ := done
    have c3 : w2.drew.cell? ⟨t, 1, none⟩ = _ := c1
    have c4 : w2.drew.cell? ⟨E, 1, none⟩ = _ := c2
    go_upto_region 3 with fail
    (try rw [hw2])
    (try rw [hE])
    clear hw2 hE
    have mixed : (Try.prog).follows Departure.mixedOrders = true := by kernel_rfl
    go_region_with_o (fail)
    all_goals go_wp2_with fail
    all_goals go_ret
    all_goals
    exact ⟨rfl, hW.out.1, hW.out.2⟩
theorem bok_del_nilI (name : ByteArray) (w : World) : Calls Try.prog 10 #[.pointer none, .string name] w fun e w' => e = .returned (.bool false) ∧ Below w.heap.size w w' := by
  have HF := Lib.hid (bok_find_nilI name w)
  unfold valEI thVI zeroEI at *
  go_enter Try.func10, Try.ntmps10
  go_wp2_with fail
  refine HF.out.mono ?_
  rintro e w1 ⟨rfl, b1⟩
  have B1 := Lib.hid b1
  clear b1 HF
  go_wp2_with fail
  go_ret
  exact ⟨rfl, B1.out.alloc (by have := B1.out.size; omega) _⟩
end Go.Proofs.Ytfdaeajafmcjcaa
