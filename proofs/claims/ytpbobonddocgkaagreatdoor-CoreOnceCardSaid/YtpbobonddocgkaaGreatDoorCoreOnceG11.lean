/- Texts of this proof, one behind the other. -/
import Derived.Test.YtpbobonddocgkaaGreatDoorCoreOnceG10
import Derived.Test.YtpbobonddocgkaaGreatDoorCoreOnceG9
import Derived.Deep.CutRange
import Derived.Shelf.RegionOpenPlain
import Derived.Deep.QuietTactic
import Derived.BigQuiet
import Derived.Laws.ResultCell
import Derived.Test.YtpbobonddocgkaaGreatDoorCoreOnceG7
import Derived.Outline
import Derived.Lib.Strings
import Derived.Lib.Bytealg
import Derived.Lib.IndexLaws
import Derived.Lib.Walk
set_option linter.unusedVariables false
set_option linter.unusedSimpArgs false
section
/- Layer 2: a book of int: New, Len, Put, find, Get, Name, Delete. -/
namespace Go.Proofs.YtpbobonddocgkaaGreatDoor
open Go Go.RowKit Go.Maps

def BNewPI (most : Int) (w : World) (e : Ending) (w' : World) : Prop := ∃ t b, e = .returned (.tuple #[.pointer (some ⟨t, 0, none⟩), .int .i64 0]) ∧ BokI w.heap.size w' t b most [] ∧ Below w.heap.size w w'
set_option maxHeartbeats 1000000 in
theorem bok_newI {most : Int} (hm : 0 ≤ most ∧ most ≤ 100000) (w : World) : Calls Tryz.prog 21 #[.int .i64 most] w (BNewPI most w) := by
  have hmm := @run_makeMap Tryz.prog
  have p1 : decide (most < 0) = false := by simp; omega
  have p2 : decide (100000 < most) = false := by simp; omega
  have p3 : ¬ most < 0 := by omega
  have p4 : ¬ 100000 < most := by omega
  go_enter Tryz.func21, Tryz.ntmps21
  go_wp2_with fail
  go_ret2
  refine ⟨_, _, rfl, ⟨by omega, Nat.le_refl _, by omega, ?_, ?_⟩, ((Below.refl _ _).alloc (Nat.le_refl _) _).alloc (by simp) _⟩
  · have := heap_alloc_new (w.alloc (Obj.map #[] 0)) (Obj.cells #[Value.int .i64 most, Value.map (some w.heap.size)] 108)
    rwa [World.size_alloc] at this
  · exact ⟨.map [], (World.ownsMap_made w _ _ _).alloc _, mapHas_empty _ _, fun p hp => by cases hp⟩

def PutPI (base t b : Nat) (most : Int) (T : List (KeyB × Ent VI)) (name : ByteArray) (v : VI) (w : World) (e : Ending) (w' : World) : Prop :=
  (((lookM T (foldL name.data.toList)).isSome = true ∨ (T.length : Int) < most) ∧ e = .returned (.int .i64 0) ∧ BokI base w' t b most (setM T (foldL name.data.toList) ⟨name, foldL name.data.toList, v⟩) ∨ ((lookM T (foldL name.data.toList)).isSome = false ∧ ¬ (T.length : Int) < most) ∧ e = .returned (.int .i64 7) ∧ BokI base w' t b most T) ∧ Fr (fun j => j = b) w w'
set_option maxHeartbeats 4000000 in
theorem bok_putI {base : Nat} {w : World} {t b : Nat} {most : Int} {T : List (KeyB × Ent VI)} (h : BokI base w t b most T) {name : ByteArray} {v : VI} (hs : name.size ≤ 1000000) (hv : OkVI v) (hl : T.length ≤ 1000000) :
    Calls Tryz.prog 32 #[.pointer (some ⟨t, 0, none⟩), .string name, thVI v] w (PutPI base t b most T name v w) := by
  obtain ⟨R, hR⟩ : ∃ R, PutPI base t b most T name v w = R := ⟨_, rfl⟩
  rw [hR]
  have HR := Lib.hid hR
  clear hR
  have HT := Lib.hid (text_any name w hs)
  have HH := Lib.hid h
  clear h
  obtain ⟨k, hk⟩ : ∃ k, foldL name.data.toList = k := ⟨_, rfl⟩
  have hok : OkKB k := by rw [← hk]; exact fold_ok name hs
  rw [hk] at HT
  have HK := Lib.hid (And.intro hk hok)
  have HV := Lib.hid (And.intro hv hs)
  clear hk hok hv hs
  obtain ⟨z, hz⟩ : ∃ z, (lookM T k).getD zeroEI = z := ⟨_, rfl⟩
  obtain ⟨i, hi⟩ : ∃ i, (lookM T k).isSome = i := ⟨_, rfl⟩
  have HZ := Lib.hid (And.intro hz hi)
  clear hz hi
  unfold thVI
  go_enter Tryz.func32, Tryz.ntmps32
  go_wp2_with fail
  refine HT.out.mono ?_
  rintro e w1 ⟨rfl, b1⟩
  have h1 := bokI_below HH.out b1
  have c1 := blk_cell h1.2.2.2.1 1
  have hlk := lookBI h1.2.2.2.2 HK.out.2
  rw [HZ.out.1, HZ.out.2] at hlk
  obtain ⟨w2, hw2⟩ : ∃ w2, w1.alloc (Obj.cells #[.string z.name, .string (bs z.fold), thVI z.thing] 120) = w2 := ⟨_, rfl⟩
  have f2 : Fr (fun _ => False) w w2 := by rw [← hw2]; exact ((Fr.of_below b1).mono fun _ _ e => e).alloc _
  have H2 := Lib.hid f2
  clear h1 b1 HT f2
  unfold kVB valEI thVI at *
  have h2 := bokI_fr HH.out H2.out (fun e => e) fun e => e
  have c0 := blk_cell h2.2.2.2.1 0
  have c2 := blk_cell h2.2.2.2.1 1
  have hln : ∀ n, (Builtin.len_ #[106] 3 #[.map (some b)]).run Tryz.prog (w2.drewN n) = .ok (.int .i64 T.length) (w2.drewN n) := fun n => by
    have h3 := bokI_fr h2 ((Fr.refl (fun _ => False) w2).drewN n) (fun e => e) fun e => e
    obtain ⟨a1, a2, a3, a4, D, a5, a6, a7⟩ := h3
    have := a5.len Tryz.underlying106 3
    rwa [a6.size] at this
  clear h2
  go_upto_region 5 with fail
  have done : ∀ n, ∃ w', (Instr.mapUpdate 106 (.map (some b)) (.string (bs k)) (.agg #[.string name, .string (bs k), .int .i64 v])).run Tryz.prog (w2.drewN n) = .ok () w' ∧ Hid (BokI base w' t b most (setM T k ⟨name, k, v⟩) ∧ Fr (fun j => j = b) w w') := fun n => by
    have f3 : Fr (fun _ => False) w (w2.drewN n) := H2.out.drewN n
    have h3 := bokI_fr HH.out f3 (fun e => e) fun e => e
    obtain ⟨a1, a2, a3, a4, D, a5, a6, a7⟩ := h3
    obtain ⟨w', u1, u2, u3⟩ := a5.update keyedB Tryz.underlying106 (by unfold maxLen; omega) (keyOfB HK.out.2) (readEI_val ⟨name, k, v⟩)
    have hf : Fr (fun j => j = b) (w2.drewN n) w' := (Fr.refl _ _).grown u3 fun j e => by cases e; exact .inr rfl
    have h6 := a6.put kLB_inj (a5.tidy keyedB) k (kLB_key k) ⟨name, k, v⟩
    have h7 : OkTIB (setM T k ⟨name, k, v⟩) := by
      have := okTIB_set (v := v) a7 HV.out.2 HV.out.1
      rwa [HK.out.1] at this
    exact ⟨w', u1, ⟨a1, a2, a3, hf.blk a4 a3, _, by rw [← h6.size]; exact ownsB_tight u2, h6, h7⟩, (f3.mono fun _ _ e => e.elim).trans hf⟩
  have HD := Lib.hid done
  clear done
  cases i with
  | true =>
    go_quiet (fail)
    obtain ⟨w', u1, hW⟩ := HD.out nq
    go_wp2_with fail
    rw [← HR.out]
    refine ⟨.inl ⟨.inl ?_, rfl, ?_⟩, hW.out.2⟩
    · rw [HK.out.1]; exact HZ.out.2
    · rw [HK.out.1]; exact hW.out.1
  | false =>
    by_cases hlt : (T.length : Int) < most
    · have q1 : decide (most ≤ (T.length : Int)) = false := by simp <;> omega
      have q2 : ¬ most ≤ (T.length : Int) := by omega
      go_quiet (fail)
      obtain ⟨w', u1, hW⟩ := HD.out nq
      go_wp2_with fail
      rw [← HR.out]
      refine ⟨.inl ⟨.inr hlt, rfl, ?_⟩, hW.out.2⟩
      rw [HK.out.1]; exact hW.out.1
    · have q1 : decide (most ≤ (T.length : Int)) = true := by simp <;> omega
      have q2 : most ≤ (T.length : Int) := by omega
      go_quiet (fail)
      go_wp2_with fail
      rw [← HR.out]
      refine ⟨.inr ⟨⟨?_, by omega⟩, rfl, ?_⟩, ((H2.out.mono fun _ _ e => e.elim).drewN nq)⟩
      · rw [HK.out.1]; exact HZ.out.2
      · exact bokI_fr HH.out (H2.out.drewN nq) (fun e => e) fun e => e
theorem bok_put_nilI (name : ByteArray) (v : VI) (w : World) : Calls Tryz.prog 32 #[.pointer none, .string name, thVI v] w fun e w' => e = .returned (.int .i64 1) ∧ w' = w := by
  unfold thVI
  go_enter Tryz.func32, Tryz.ntmps32
  go_wp2_with fail
  go_ret
  exact ⟨rfl, rfl⟩

def FindPI (T : List (KeyB × Ent VI)) (k : KeyB) (w : World) (e : Ending) (w' : World) : Prop := e = .returned (.tuple #[valEI ((lookM T k).getD zeroEI), .bool (lookM T k).isSome]) ∧ Below w.heap.size w w'
theorem set3I {V : World} {E : Nat} {T : TypeId} {a b c x y u : Value} (h : V.heap[E]? = some (.cells #[a, b, c] T (0, 0))) : (((V.setCell ⟨E, 0, none⟩ x).setCell ⟨E, 1, none⟩ y).setCell ⟨E, 2, none⟩ u).heap[E]? = some (.cells #[x, y, u] T (0, 0)) := by
  have := blk_set (blk_set (blk_set h 0 x) 1 y) 2 u
  simpa using this
theorem fr3I {w1 V : World} {x y u : Value} (h : Fr (fun _ => False) w1 V) : Fr (fun _ => False) w1 (((V.setCell ⟨w1.heap.size, 0, none⟩ x).setCell ⟨w1.heap.size, 1, none⟩ y).setCell ⟨w1.heap.size, 2, none⟩ u) :=
  ((h.setNew _ (Nat.le_refl _) _).setNew _ (Nat.le_refl _) _).setNew _ (Nat.le_refl _) _
theorem res_entI {P : Program} {fn : Func} {p u : Tmp} {ty : TypeId} {tmps : Array Value} {V : World} {N : Nat} {a b c : Value} (h : fn.results = #[.cell p ty, .tmp u]) (hp : tmps.getD p undef = .pointer (some ⟨N, 0, none⟩)) (hg : (isAgg ty).run P V = .ok true V) (hz : (sizeOf ty).run P V = .ok 3 V)
    (h0 : V.cell? ⟨N, 0, none⟩ = some a) (h1 : V.cell? ⟨N, 1, none⟩ = some b) (h2 : V.cell? ⟨N, 2, none⟩ = some c) : (results fn tmps).run P V = .ok (.tuple #[.agg #[a, b, c], tmps.getD u undef]) V := by
  rw [results_cell_tmp h, hp]
  simp [asAddr, loadVar, Sem.run_bind, hg, hz, loadCells, loadCellsFrom, h0, h1, h2, Result.andThen, go_sem]
set_option maxRecDepth 100000 in
set_option maxHeartbeats 4000000 in
theorem bok_findI {base : Nat} {w : World} {t b : Nat} {most : Int} {T : List (KeyB × Ent VI)} (h : BokI base w t b most T) {name : ByteArray} (hs : name.size ≤ 1000000) :
    Calls Tryz.prog 57 #[.pointer (some ⟨t, 0, none⟩), .string name] w (FindPI T (foldL name.data.toList) w) := by
  have HT := Lib.hid (fun W => text_any name W hs)
  have HH := Lib.hid h
  clear h
  obtain ⟨k, hk⟩ : ∃ k, foldL name.data.toList = k := ⟨_, rfl⟩
  have hok : OkKB k := by rw [← hk]; exact fold_ok name hs
  rw [hk] at HT ⊢
  have HK := Lib.hid (And.intro hk hok)
  unfold FindPI
  clear hk hok
  obtain ⟨z, hz⟩ : ∃ z, (lookM T k).getD zeroEI = z := ⟨_, rfl⟩
  obtain ⟨i, hi⟩ : ∃ i, (lookM T k).isSome = i := ⟨_, rfl⟩
  have HZ := Lib.hid (And.intro hz hi)
  rw [hz, hi]
  clear hz hi
  obtain ⟨N, hN⟩ : ∃ N, w.heap.size = N := ⟨_, rfl⟩
  obtain ⟨w1, hw1⟩ : ∃ w1, w.alloc (Obj.cells #[.string ⟨#[]⟩, .string ⟨#[]⟩, .int .i64 0] 120) = w1 := ⟨_, rfl⟩
  have f1 : Fr (fun _ => False) w w1 := by rw [← hw1]; exact (Fr.refl _ w).alloc _
  have k1 : w1.heap[N]? = some (.cells #[.string ⟨#[]⟩, .string ⟨#[]⟩, .int .i64 0] 120 (0, 0)) := by rw [← hw1, ← hN]; exact heap_alloc_new w _
  have h1 := bokI_fr HH.out f1 (fun e => e) fun e => e
  obtain ⟨Z, hZ⟩ : ∃ Z, Obj.cells #[.string ⟨#[]⟩, .string ⟨#[]⟩, .int .i64 0] 120 = Z := ⟨_, rfl⟩
  have facts : ∀ V, Fr (fun _ => False) w1 V → V.cell? ⟨t, 1, none⟩ = some (.map (some b)) ∧ ((Instr.lookup 106 (.map (some b)) (.string (bs k)) true).run Tryz.prog V).andThen (fun a w' => Result.ok (Next.value a) w') = .ok (.value (.tuple #[.agg #[.string z.name, .string (bs z.fold), .int .i64 z.thing], .bool i])) V ∧ V.heap[N]? = some (.cells #[.string ⟨#[]⟩, .string ⟨#[]⟩, .int .i64 0] 120 (0, 0)) := fun V hV => by
    have h2 := bokI_fr h1 hV (fun e => e) fun e => e
    have hlk := lookBI h2.2.2.2.2 HK.out.2
    rw [HZ.out.1, HZ.out.2] at hlk
    unfold kVB valEI thVI at hlk
    exact ⟨blk_cell h2.2.2.2.1 1, by rw [hlk]; rfl, hV.blk k1 fun e => e⟩
  have hzN : w1.heap.size = N + 1 := by rw [← hw1, ← hN]; simp
  have HX := Lib.hid (And.intro facts (And.intro f1 (And.intro hzN hN)))
  obtain ⟨a1, a2, a3⟩ := facts w1.drew ((Fr.refl _ w1).drew)
  have fA : Fr (fun _ => False) w1 ((w1.alloc (Obj.cells #[.string ⟨#[]⟩, .string ⟨#[]⟩, .int .i64 0] 120)).drew) := ((Fr.refl _ w1).alloc _).drew
  obtain ⟨b1, b2, b3⟩ := facts _ fA
  have kA := heap_alloc_new w1 (Obj.cells #[.string ⟨#[]⟩, .string ⟨#[]⟩, .int .i64 0] 120)
  have hzD : w1.drew.heap.size = N + 1 := hzN
  have HT2 : Hid (∀ X, (X = w1.drew ∨ X = (w1.alloc (Obj.cells #[.string ⟨#[]⟩, .string ⟨#[]⟩, .int .i64 0] 120)).drew) → Calls Tryz.prog 37 #[.string name] X fun e v2 => e = .returned (.string (bs k)) ∧ v2.cell? ⟨t, 1, none⟩ = some (.map (some b)) ∧ (v2.alloc (Obj.cells #[.string ⟨#[]⟩, .string ⟨#[]⟩, .int .i64 0] 120)).cell? ⟨t, 1, none⟩ = some (.map (some b)) ∧
      ((Instr.lookup 106 (.map (some b)) (.string (bs k)) true).run Tryz.prog v2).andThen (fun a w' => Result.ok (Next.value a) w') = .ok (.value (.tuple #[.agg #[.string z.name, .string (bs z.fold), .int .i64 z.thing], .bool i])) v2 ∧
      ((Instr.lookup 106 (.map (some b)) (.string (bs k)) true).run Tryz.prog (v2.alloc (Obj.cells #[.string ⟨#[]⟩, .string ⟨#[]⟩, .int .i64 0] 120))).andThen (fun a w' => Result.ok (Next.value a) w') = .ok (.value (.tuple #[.agg #[.string z.name, .string (bs z.fold), .int .i64 z.thing], .bool i])) (v2.alloc (Obj.cells #[.string ⟨#[]⟩, .string ⟨#[]⟩, .int .i64 0] 120)) ∧
      Hid (Fr (fun _ => False) w1 v2) ∧ (X = (w1.alloc (Obj.cells #[.string ⟨#[]⟩, .string ⟨#[]⟩, .int .i64 0] 120)).drew → v2.cell? ⟨w1.heap.size, 0, none⟩ = some (.string ⟨#[]⟩) ∧ v2.cell? ⟨w1.heap.size, 1, none⟩ = some (.string ⟨#[]⟩) ∧ v2.cell? ⟨w1.heap.size, 2, none⟩ = some (.int .i64 0) ∧ v2.frozen? ⟨w1.heap.size, 0, none⟩ = false ∧ v2.frozen? ⟨w1.heap.size, 1, none⟩ = false ∧ v2.frozen? ⟨w1.heap.size, 2, none⟩ = false ∧ Hid (v2.heap[w1.heap.size]? = some (Obj.cells #[.string ⟨#[]⟩, .string ⟨#[]⟩, .int .i64 0] 120)))) := fun X hX => by
    have fX : Fr (fun _ => False) w1 X := by rcases hX with rfl | rfl; exact (Fr.refl _ w1).drew; exact fA
    refine (HT.out X).mono fun e v2 ⟨he, b2⟩ => ?_
    have fv := fX.trans (Fr.of_below b2)
    have q1 := facts v2 fv
    have q2 := facts _ (fv.alloc (Obj.cells #[.string ⟨#[]⟩, .string ⟨#[]⟩, .int .i64 0] 120))
    refine ⟨he, q1.1, q2.1, q1.2.1, q2.2.1, fv, fun hx => ?_⟩
    subst hx
    have kE := (Fr.of_below (X := fun _ => False) b2).blk kA fun e => e
    exact ⟨blk_cell kE 0, blk_cell kE 1, blk_cell kE 2, blk_free kE 0, blk_free kE 1, blk_free kE 2, kE⟩
  have oD : w1.drew = w1.drew ∨ w1.drew = (w1.alloc (Obj.cells #[.string ⟨#[]⟩, .string ⟨#[]⟩, .int .i64 0] 120)).drew := .inl rfl
  have HTD := Lib.hid (HT2.out w1.drew (.inl rfl))
  have HTA := Lib.hid (HT2.out ((w1.alloc (Obj.cells #[.string ⟨#[]⟩, .string ⟨#[]⟩, .int .i64 0] 120)).drew) (.inr rfl))
  clear oD HT HT2 hzD
  clear facts h1 k1 f1 a3 b3 kA fA hzN hZ Z
  have mixed : (Tryz.prog).follows Departure.mixedOrders = true := by kernel_rfl
  unfold valEI thVI
  go_enter Tryz.func57, Tryz.ntmps57
  go_upto_region 3 with fail
  clear hw1 hN
  go_cut [6, 7] from 8 to 22 (fun s6 s7 wx => ∃ E : Nat, s6 = .pointer (some ⟨E, 0, none⟩) ∧ s7 = .bool i ∧ Hid (N < E ∧ wx.heap[E]? = some (.cells #[.string z.name, .string (bs z.fold), .int .i64 z.thing] 120 (0, 0)) ∧ wx.heap[N]? = some (.cells #[.string ⟨#[]⟩, .string ⟨#[]⟩, .int .i64 0] 120 (0, 0)) ∧ Fr (fun _ => False) w1 wx))
  case first =>
    go_region_with_o (first | (with_reducible refine HTD.out.mono ?_; rintro e v2 ⟨rfl, g1, g4, g2, g3, HV2, hbx⟩; clear hbx) | (with_reducible refine HTA.out.mono ?_; rintro e v2 ⟨rfl, g1, g4, g2, g3, HV2, hbx⟩; simp only [true_implies, forall_const] at hbx))
    all_goals (go_wp2_with fail; go_meet; case rel => first
      | exact ⟨_, rfl, rfl, by have := HV2.out.size; have := HX.out.2.2; omega, heap_alloc_new v2 _, (HX.out.1 _ (HV2.out.alloc _)).2.2, HV2.out.alloc _⟩
      | exact ⟨_, rfl, rfl, by have := HX.out.2.2; omega, set3I hbx.2.2.2.2.2.2.out, (HX.out.1 _ (fr3I HV2.out)).2.2, fr3I HV2.out⟩)
  case rest =>
  obtain ⟨E, rfl, rfl, HC⟩ := hcut
  clear a1 a2 b1 b2 HTD HTA
  have e0 := blk_cell HC.out.2.1 0
  have e1 := blk_cell HC.out.2.1 1
  have e2 := blk_cell HC.out.2.1 2
  have n0 := blk_cell HC.out.2.2.1 0
  have n1 := blk_cell HC.out.2.2.1 1
  have n2 := blk_cell HC.out.2.2.1 2
  have d0 := blk_free HC.out.2.2.1 0
  have d1 := blk_free HC.out.2.2.1 1
  have d2 := blk_free HC.out.2.2.1 2
  go_wp2_with fail
  (try simp only [Exit.inBlock, Exit.then])
  have r3 := set3I (x := .string z.name) (y := .string (bs z.fold)) (u := .int .i64 z.thing) HC.out.2.2.1
  refine bodyPost_ret (res_entI rfl rfl (Tryz.isAgg120 _) (Tryz.sizeOf120 _) (blk_cell r3 0) (blk_cell r3 1) (blk_cell r3 2)) rfl ?_
  have h0 := (HX.out.2.1.trans HC.out.2.2.2).below (Nat.le_refl _) (fun _ _ e => e.elim)
  have hN := HX.out.2.2.2
  exact ⟨rfl, ((h0.setCell (by rw [hN]; exact Nat.le_refl _) _).setCell (by rw [hN]; exact Nat.le_refl _) _).setCell (by rw [hN]; exact Nat.le_refl _) _⟩
theorem bok_find_nilI (name : ByteArray) (w : World) : Calls Tryz.prog 57 #[.pointer none, .string name] w fun e w' => e = .returned (.tuple #[valEI zeroEI, .bool false]) ∧ Below w.heap.size w w' := by
  obtain ⟨N, hN⟩ : ∃ N, w.heap.size = N := ⟨_, rfl⟩
  obtain ⟨w1, hw1⟩ : ∃ w1, w.alloc (Obj.cells #[.string ⟨#[]⟩, .string ⟨#[]⟩, .int .i64 0] 120) = w1 := ⟨_, rfl⟩
  have b1 : Below w.heap.size w w1 := by rw [← hw1]; exact (Below.refl _ w).alloc (Nat.le_refl _) _
  have k1 : w1.heap[N]? = some (.cells #[.string ⟨#[]⟩, .string ⟨#[]⟩, .int .i64 0] 120 (0, 0)) := by rw [← hw1, ← hN]; exact heap_alloc_new w _
  have c0 := blk_cell k1 0
  have c1 := blk_cell k1 1
  have c2 := blk_cell k1 2
  have d0 := blk_free k1 0
  have d1 := blk_free k1 1
  have d2 := blk_free k1 2
  have H1 := Lib.hid (And.intro b1 k1)
  clear b1 k1
  unfold valEI thVI zeroEI
  go_enter Tryz.func57, Tryz.ntmps57
  go_wp2_with fail
  (try simp only [Exit.inBlock, Exit.then])
  have r3 := set3I (x := .string ⟨#[]⟩) (y := .string ⟨#[]⟩) (u := .int .i64 0) H1.out.2
  refine bodyPost_ret (res_entI rfl rfl (Tryz.isAgg120 _) (Tryz.sizeOf120 _) (blk_cell r3 0) (blk_cell r3 1) (blk_cell r3 2)) rfl ?_
  exact ⟨rfl, by have h0 := H1.out.1; exact ((h0.setCell (by rw [hN]; exact Nat.le_refl _) _).setCell (by rw [hN]; exact Nat.le_refl _) _).setCell (by rw [hN]; exact Nat.le_refl _) _⟩
set_option maxHeartbeats 1000000 in
theorem bok_getI {base : Nat} {w : World} {t b : Nat} {most : Int} {T : List (KeyB × Ent VI)} (h : BokI base w t b most T) {name : ByteArray} (hs : name.size ≤ 1000000) :
    Calls Tryz.prog 40 #[.pointer (some ⟨t, 0, none⟩), .string name] w fun e w' => e = .returned (.tuple #[thVI ((lookM T (foldL name.data.toList)).getD zeroEI).thing, .bool (lookM T (foldL name.data.toList)).isSome]) ∧ Below w.heap.size w w' := by
  have HF := Lib.hid (bok_findI h hs)
  clear h
  obtain ⟨z, hz⟩ : ∃ z, (lookM T (foldL name.data.toList)).getD zeroEI = z := ⟨_, rfl⟩
  obtain ⟨i, hi⟩ : ∃ i, (lookM T (foldL name.data.toList)).isSome = i := ⟨_, rfl⟩
  unfold FindPI at HF
  rw [hz, hi] at HF ⊢
  unfold valEI thVI at *
  clear hz hi
  go_enter Tryz.func40, Tryz.ntmps40
  go_wp2_with fail
  refine HF.out.mono ?_
  rintro e w1 ⟨rfl, b1⟩
  have B1 := Lib.hid b1
  clear b1 HF
  go_wp2_with fail
  go_ret2
  exact ⟨rfl, B1.out.alloc (by have := B1.out.size; omega) _⟩
theorem bok_get_nilI (name : ByteArray) (w : World) : Calls Tryz.prog 40 #[.pointer none, .string name] w fun e w' => e = .returned (.tuple #[thVI zeroEI.thing, .bool false]) ∧ Below w.heap.size w w' := by
  have HF := Lib.hid (bok_find_nilI name w)
  unfold valEI thVI zeroEI at *
  go_enter Tryz.func40, Tryz.ntmps40
  go_wp2_with fail
  refine HF.out.mono ?_
  rintro e w1 ⟨rfl, b1⟩
  have B1 := Lib.hid b1
  clear b1 HF
  go_wp2_with fail
  go_ret2
  exact ⟨rfl, B1.out.alloc (by have := B1.out.size; omega) _⟩


set_option maxRecDepth 100000 in
set_option maxHeartbeats 2000000 in
theorem bok_delI {base : Nat} {w : World} {t b : Nat} {most : Int} {T : List (KeyB × Ent VI)} (h : BokI base w t b most T) {name : ByteArray} (hs : name.size ≤ 1000000) :
    Calls Tryz.prog 31 #[.pointer (some ⟨t, 0, none⟩), .string name] w fun e w' => e = .returned (.bool (lookM T (foldL name.data.toList)).isSome) ∧ BokI base w' t b most (delM T (foldL name.data.toList)) ∧ Fr (fun j => j = b) w w' := by
  have HF := Lib.hid (bok_findI h hs)
  have HH := Lib.hid h
  clear h
  obtain ⟨k, hk⟩ : ∃ k, foldL name.data.toList = k := ⟨_, rfl⟩
  have hok : OkKB k := by rw [← hk]; exact fold_ok name hs
  rw [hk] at HF ⊢
  clear hk
  obtain ⟨z, hz⟩ : ∃ z, (lookM T k).getD zeroEI = z := ⟨_, rfl⟩
  obtain ⟨i, hi⟩ : ∃ i, (lookM T k).isSome = i := ⟨_, rfl⟩
  unfold FindPI at HF
  rw [hz, hi] at HF
  rw [hi]
  have HZ := Lib.hid (And.intro hz (And.intro hi hok))
  clear hz hi hok
  unfold valEI thVI at *
  go_enter Tryz.func31, Tryz.ntmps31
  go_wp2_with fail
  refine HF.out.mono ?_
  rintro e w1 ⟨rfl, b1⟩
  have h1 := bokI_below HH.out b1
  have f1 : Fr (fun _ => False) w w1 := Fr.of_below b1
  have H1 := Lib.hid (And.intro h1 f1)
  clear b1 HF h1 f1
  cases i with
  | false =>
    go_wp2_with fail
    go_ret
    refine ⟨rfl, ?_, (H1.out.2.mono fun _ _ e => e.elim).alloc _⟩
    rw [lookM_none HZ.out.2.1]
    exact bokI_fr HH.out (H1.out.2.alloc _) (fun e => e) fun e => e
  | true =>
    obtain ⟨Z, hZ⟩ : ∃ Z, Obj.cells #[.string z.name, .string (bs z.fold), .int .i64 z.thing] 120 = Z := ⟨_, rfl⟩
    obtain ⟨w2, hw2⟩ : ∃ w2, w1.alloc (Obj.cells #[.string z.name, .string (bs z.fold), .int .i64 z.thing] 120) = w2 := ⟨_, rfl⟩
    obtain ⟨E, hE⟩ : ∃ E, w1.heap.size = E := ⟨_, rfl⟩
    have f2 : Fr (fun _ => False) w w2 := by rw [← hw2]; exact H1.out.2.alloc _
    have k2 : w2.heap[E]? = some (.cells #[.string z.name, .string (bs z.fold), .int .i64 z.thing] 120 (0, 0)) := by rw [← hw2, ← hE]; exact heap_alloc_new w1 _
    have h2 := bokI_fr HH.out f2 (fun e => e) fun e => e
    have c1 := blk_cell h2.2.2.2.1 1
    have c2 := blk_cell k2 1
    have hzk : z.fold = k := by
      have h3 := h2.2.2.2.2
      obtain ⟨D, _, _, a7⟩ := h3
      have hz := HZ.out.1
      cases hl : lookM T k with
      | none => have := HZ.out.2.1; rw [hl] at this; cases this
      | some v =>
        rw [hl] at hz
        obtain rfl : v = z := hz
        exact (a7 _ (lookM_in hl)).2.1
    rw [hzk] at c2 hw2
    have H2 := Lib.hid f2
    clear f2 k2 h2 hZ Z
    have done : ∃ w', (Builtin.delete_ #[106, 9] 0 #[.map (some b), .string (bs k)]).run Tryz.prog w2.drew = .ok (.tuple #[]) w' ∧ Hid (BokI base w' t b most (delM T k) ∧ Fr (fun j => j = b) w w') := by
      have f3 : Fr (fun _ => False) w w2.drew := H2.out.drew
      have h3 := bokI_fr HH.out f3 (fun e => e) fun e => e
      obtain ⟨a1, a2, a3, a4, D, a5, a6, a7⟩ := h3
      obtain ⟨w', u1, u2, u3⟩ := a5.drop keyedB Tryz.underlying106 (keyOfB HZ.out.2.2) 0
      have hf : Fr (fun j => j = b) w2.drew w' := (Fr.refl _ _).grown u3.grown fun j e => by cases e; exact .inr rfl
      have h6 := a6.del kLB_inj (a5.tidy keyedB) k
      exact ⟨w', u1, ⟨a1, a2, a3, hf.blk a4 a3, _, by rw [← h6.size]; exact ownsB_tight u2, h6, okTIB_del a7 k⟩, (f3.mono fun _ _ e => e.elim).trans hf⟩
    obtain ⟨w', u1, hW⟩ := done
    have c3 : w2.drew.cell? ⟨t, 1, none⟩ = _ := c1
    have c4 : w2.drew.cell? ⟨E, 1, none⟩ = _ := c2
    go_upto_region 3 with fail
    (try rw [hw2])
    (try rw [hE])
    clear hw2 hE
    have mixed : (Tryz.prog).follows Departure.mixedOrders = true := by kernel_rfl
    go_region_with_o (fail)
    all_goals go_wp2_with fail
    all_goals go_ret
    all_goals
    exact ⟨rfl, hW.out.1, hW.out.2⟩
theorem bok_del_nilI (name : ByteArray) (w : World) : Calls Tryz.prog 31 #[.pointer none, .string name] w fun e w' => e = .returned (.bool false) ∧ Below w.heap.size w w' := by
  have HF := Lib.hid (bok_find_nilI name w)
  unfold valEI thVI zeroEI at *
  go_enter Tryz.func31, Tryz.ntmps31
  go_wp2_with fail
  refine HF.out.mono ?_
  rintro e w1 ⟨rfl, b1⟩
  have B1 := Lib.hid b1
  clear b1 HF
  go_wp2_with fail
  go_ret
  exact ⟨rfl, B1.out.alloc (by have := B1.out.size; omega) _⟩
end Go.Proofs.YtpbobonddocgkaaGreatDoor
end
section
/- valid.kindOf: what a byte is, where the rows of bytes lie as they are laid. -/
namespace Go.Proofs.YtpbobonddocgkaaGreatDoor
open Go.RowKit

set_option maxRecDepth 100000 in
theorem idxByte0 (s : ByteArray) (c : Int) (w : World) :
    Calls Tryz.prog 111 #[.string s, .int .u8 c] w fun e w' => e = .returned (.int .i64 (Lib.indexByte s.data.toList c.toNat.toUInt8)) ∧ w = w' := by
  go_enter Tryz.func111, Tryz.ntmps111
  go_wp2
  rw [run_callFunc_extern Tryz.func143 (by kernel_rfl) (by kernel_rfl) (by kernel_rfl) (e := Extern.BytealgIndexByte.indexByte) (by kernel_rfl), Lib.run_indexByteString]
  simp only [Result.andThen]
  rw [Oper.upon_value]
  go_wp2
  go_ret
  exact ⟨rfl, rfl⟩
theorem idxByte (s : ByteArray) (c : Int) (w : World) :
    Calls Tryz.prog 94 #[.string s, .int .u8 c] w fun e w' => e = .returned (.int .i64 (Lib.indexByte s.data.toList c.toNat.toUInt8)) ∧ w = w' := by
  go_enter Tryz.func94, Tryz.ntmps94
  go_wp2_with (go_at_call 111; refine (idxByte0 _ _ _).mono ?_; rintro e w' ⟨rfl, rfl⟩)
  go_ret
  exact ⟨rfl, rfl⟩

/-- the rows of bytes, as they are laid -/
def laidRow (i : Nat) : List UInt8 := ([[65, 66, 67, 68, 69, 70, 71, 72, 73, 74, 75, 76, 77, 78, 79, 80, 81, 82, 83, 84, 85, 86, 87, 88, 89, 90, 97, 98, 99, 100, 101, 102, 103, 104, 105, 106, 107, 108, 109, 110, 111, 112, 113, 114, 115, 116, 117, 118, 119, 120, 121, 122], [48, 49, 50, 51, 52, 53, 54, 55, 56, 57], [91, 93, 92, 95, 94, 123, 124, 125, 96], [45], [46], [58], [44], [33, 64, 42, 63], [0, 13, 10], [7], [32]] : List (List UInt8)).getD i []
def Rowed (w : World) : Prop := ∀ i, i < 11 → ∃ s : ByteArray, w.cell? ⟨0, i, none⟩ = some (.string s) ∧ s.data.toList = laidRow i

/-- what a byte is, by the first rows -/
def kAcc (b : UInt8) : Nat → Int
  | 0 => 0
  | k + 1 => if 0 ≤ Lib.indexByte (laidRow k) b then bits .or .i64 (kAcc b k) (2 ^ k) else kAcc b k

theorem kAcc_yes {b : UInt8} {k : Nat} (hk : k < 11) (h : 0 ≤ Lib.indexByte (laidRow k) b) : bits .or .i64 (kAcc b k) (wrap64 (2 ^ k)) = kAcc b (k + 1) := by
  have e : wrap64 (2 ^ k) = 2 ^ k := by
    rcases (by omega : k = 0 ∨ k = 1 ∨ k = 2 ∨ k = 3 ∨ k = 4 ∨ k = 5 ∨ k = 6 ∨ k = 7 ∨ k = 8 ∨ k = 9 ∨ k = 10) with rfl|rfl|rfl|rfl|rfl|rfl|rfl|rfl|rfl|rfl|rfl <;> decide +kernel
  rw [e, kAcc, if_pos h]
theorem kAcc_no {b : UInt8} {k : Nat} (h : Lib.indexByte (laidRow k) b < 0) : kAcc b k = kAcc b (k + 1) := by
  rw [kAcc, if_neg (by omega)]

set_option maxHeartbeats 1000000 in
theorem kind_any (b : UInt8) (w : World) (hr : Rowed w) :
    Calls Tryz.prog 73 #[.int .u8 ↑b.toNat] w fun e w' => e = .returned (.int .i64 (kAcc b 11)) ∧ w = w' := by
  go_enter Tryz.func73, Tryz.ntmps73
  go_wp2_with fail
  go_loopw [3, 4, 5] (fun v _ i wr => ∃ k : Nat, k ≤ 11 ∧ i = .int .i64 k ∧ v = .int .i64 (kAcc b k) ∧ wr = w) (fun _ _ i _ => 11 - (Go.RowKit.intOf i).toNat)
  case atStart => exact ⟨0, by omega, rfl, rfl, rfl⟩
  case round =>
    obtain ⟨k, hk, rfl, rfl, rfl⟩ := hrel
    by_cases hlt : k < 11
    · obtain ⟨s, hs, hl⟩ := hr k hlt
      go_wp2_with (go_at_call 94; refine (idxByte _ _ _).mono ?_; rintro e w' ⟨rfl, rfl⟩)
      all_goals rename_i _h0 hx
      all_goals try (rw [show ((b.toNat : Int)).toNat.toUInt8 = b from by simp] at hx)
      all_goals refine ⟨⟨k + 1, by omega, by push_cast; rfl, ?_, by simp⟩, by simp only [Go.RowKit.intOf]; omega⟩
      all_goals first | rw [kAcc_yes hlt hx] | rw [kAcc_no hx]
    · obtain rfl : k = 11 := by omega
      go_wp2_with fail
      go_ret
      exact ⟨rfl, rfl⟩
end Go.Proofs.YtpbobonddocgkaaGreatDoor
end
section
/- valid.sized, only, none, plain, and the answers' in, Letter, Digit, Sign: what each tells. -/
namespace Go.Proofs.YtpbobonddocgkaaGreatDoor
open Go.RowKit

/-- all bytes of a text, with their places, are so -/
noncomputable def allI (s : ByteArray) (p : Nat → UInt8 → Bool) : Bool := @decide (∀ i (h : i < s.size), p i s[i] = true) (Classical.propDecidable _)
theorem allI_iff {s : ByteArray} {p : Nat → UInt8 → Bool} : allI s p = true ↔ ∀ i (h : i < s.size), p i s[i] = true := by
  unfold allI; exact @decide_eq_true_iff _ (Classical.propDecidable _)
theorem allI_no {s : ByteArray} {p : Nat → UInt8 → Bool} {k : Nat} (h : k < s.size) (hp : p k s[k] = false) : false = allI s p := by
  cases e : allI s p with
  | false => rfl
  | true => rw [allI_iff.1 e k h] at hp; cases hp
theorem allI_yes {s : ByteArray} {p : Nat → UInt8 → Bool} {k : Nat} (hk : s.size ≤ k) (h : ∀ i, i < k → ∀ (hi : i < s.size), p i s[i] = true) : true = allI s p :=
  (allI_iff.2 fun i hi => h i (by omega) hi).symm
theorem all_step {s : ByteArray} {p : Nat → UInt8 → Bool} {k : Nat} (h : ∀ i, i < k → ∀ (hi : i < s.size), p i s[i] = true) (hk : k < s.size) (hp : p k s[k] = true) :
    ∀ i, i < k + 1 → ∀ (hi : i < s.size), p i s[i] = true := by
  intro i h1 h2
  by_cases e : i = k
  · subst e; exact hp
  · exact h i (by omega) h2

/-- is a byte of one of some kinds? -/
def isK (kinds : Int) (b : UInt8) : Bool := !(bits .and .i64 (kAcc b 11) kinds == 0)

set_option maxHeartbeats 1000000 in
theorem only_any (s : ByteArray) (kinds : Int) (w : World) (hs : s.size ≤ 1000000) (hr : Rowed w) :
    Calls Tryz.prog 54 #[.string s, .int .i64 kinds] w fun e w' => e = .returned (.bool (allI s fun _ b => isK kinds b)) ∧ w = w' := by
  go_enter Tryz.func54, Tryz.ntmps54
  go_wp2_with fail
  go_loopw [8] (fun i wr => ∃ k : Nat, k ≤ s.size ∧ i = .int .i64 k ∧ (∀ i, i < k → ∀ (hi : i < s.size), (fun _ b => isK kinds b) i s[i] = true) ∧ wr = w) (fun i _ => s.size - (Go.RowKit.intOf i).toNat)
  case atStart => exact ⟨0, Nat.zero_le _, rfl, fun _ h => absurd h (Nat.not_lt_zero _), rfl⟩
  case round =>
    obtain ⟨k, hk, rfl, hq, rfl⟩ := hrel
    have Hq := Lib.hid hq
    clear hq
    by_cases hlt : k < s.size
    · cases hb : (bits .and .i64 (kAcc s[k] 11) kinds == 0)
      · go_wp2_with (go_at_call 73; refine (kind_any _ _ (by assumption)).mono ?_; rintro e w' ⟨rfl, rfl⟩)
        exact ⟨⟨k + 1, by omega, by push_cast; rfl, all_step Hq.out hlt (by simp only [isK, hb]; rfl), by simp⟩, by simp only [Go.RowKit.intOf]; omega⟩
      · go_wp2_with (go_at_call 73; refine (kind_any _ _ (by assumption)).mono ?_; rintro e w' ⟨rfl, rfl⟩)
        go_ret
        exact ⟨ret_bool (allI_no hlt (by simp only [isK, hb]; rfl)), rfl⟩
    · obtain rfl : k = s.size := by omega
      go_wp2_with fail
      go_ret
      exact ⟨ret_bool (allI_yes (Nat.le_refl _) Hq.out), rfl⟩

set_option maxHeartbeats 1000000 in
theorem none_any (s : ByteArray) (kinds : Int) (w : World) (hs : s.size ≤ 1000000) (hr : Rowed w) :
    Calls Tryz.prog 53 #[.string s, .int .i64 kinds] w fun e w' => e = .returned (.bool (allI s fun _ b => !isK kinds b)) ∧ w = w' := by
  go_enter Tryz.func53, Tryz.ntmps53
  go_wp2_with fail
  go_loopw [8] (fun i wr => ∃ k : Nat, k ≤ s.size ∧ i = .int .i64 k ∧ (∀ i, i < k → ∀ (hi : i < s.size), (fun _ b => !isK kinds b) i s[i] = true) ∧ wr = w) (fun i _ => s.size - (Go.RowKit.intOf i).toNat)
  case atStart => exact ⟨0, Nat.zero_le _, rfl, fun _ h => absurd h (Nat.not_lt_zero _), rfl⟩
  case round =>
    obtain ⟨k, hk, rfl, hq, rfl⟩ := hrel
    have Hq := Lib.hid hq
    clear hq
    by_cases hlt : k < s.size
    · cases hb : (bits .and .i64 (kAcc s[k] 11) kinds == 0)
      · go_wp2_with (go_at_call 73; refine (kind_any _ _ (by assumption)).mono ?_; rintro e w' ⟨rfl, rfl⟩)
        go_ret
        exact ⟨ret_bool (allI_no hlt (p := fun _ b => !isK kinds b) (by simp only [isK, hb]; rfl)), rfl⟩
      · go_wp2_with (go_at_call 73; refine (kind_any _ _ (by assumption)).mono ?_; rintro e w' ⟨rfl, rfl⟩)
        exact ⟨⟨k + 1, by omega, by push_cast; rfl, all_step (p := fun _ b => !isK kinds b) Hq.out hlt (by simp only [isK, hb]; rfl), by simp⟩, by simp only [Go.RowKit.intOf]; omega⟩
    · obtain rfl : k = s.size := by omega
      go_wp2_with fail
      go_ret
      exact ⟨ret_bool (allI_yes (Nat.le_refl _) Hq.out), rfl⟩

/-- can a byte be seen? -/
def seen (b : UInt8) : Bool := decide (33 ≤ b.toNat ∧ b.toNat ≤ 126)


def sizedB (n : Nat) (a b : Int) : Bool := decide (a ≤ n ∧ (n : Int) ≤ b)
theorem sized_any (s : ByteArray) (a b : Int) (w : World) :
    Calls Tryz.prog 52 #[.string s, .int .i64 a, .int .i64 b] w fun e w' => e = .returned (.bool (sizedB s.size a b)) ∧ w = w' := by
  by_cases h : a ≤ s.size
  · go_enter Tryz.func52, Tryz.ntmps52
    go_wp2_with fail
    go_ret
    exact ⟨ret_bool (by unfold sizedB; rw [Bool.eq_iff_iff]; simp; try omega), rfl⟩
  · go_enter Tryz.func52, Tryz.ntmps52
    go_wp2_with fail
    go_ret
    exact ⟨ret_bool (by unfold sizedB; rw [Bool.eq_iff_iff]; simp; try omega), rfl⟩
/-- is a byte one of a row? -/
def inB (l : List UInt8) (b : UInt8) : Bool := l.contains b
theorem at_mem (s : ByteArray) (k : Nat) (h : k < s.size) : s[k] ∈ s.data.toList := by
  have : s[k] = s.data.toList[k]'(by simpa using h) := rfl
  rw [this]; exact List.getElem_mem _
theorem mem_at {s : ByteArray} {b : UInt8} (h : b ∈ s.data.toList) : ∃ k, ∃ h : k < s.size, s[k] = b := by
  obtain ⟨k, hk, e⟩ := List.mem_iff_getElem.1 h
  exact ⟨k, by simpa using hk, e⟩
theorem inB_yes {s : ByteArray} {b : UInt8} {k : Nat} (h : k < s.size) (e : s[k] = b) : true = inB s.data.toList b := by
  unfold inB; symm; rw [List.contains_iff_mem, ← e]; exact at_mem s k h
theorem inB_no {s : ByteArray} {b : UInt8} {k : Nat} (hk : s.size ≤ k) (h : ∀ i, i < k → ∀ (hi : i < s.size), s[i] ≠ b) : false = inB s.data.toList b := by
  unfold inB; symm
  rw [Bool.eq_false_iff, ne_eq, List.contains_iff_mem]
  intro hm
  obtain ⟨i, hi, e⟩ := mem_at hm
  exact h i (by omega) hi e



def letterB (b : UInt8) : Bool := decide ((65 ≤ b.toNat ∧ b.toNat ≤ 90) ∨ (97 ≤ b.toNat ∧ b.toNat ≤ 122))
def digitB (b : UInt8) : Bool := decide (48 ≤ b.toNat ∧ b.toNat ≤ 57)
def signB (b : UInt8) : Bool := decide (b.toNat = 96) || inB [91, 93, 92, 95, 94, 123, 124, 125] b


end Go.Proofs.YtpbobonddocgkaaGreatDoor
end
section
/- What the kinds of bytes are, byte by byte. -/
namespace Go.Proofs.YtpbobonddocgkaaGreatDoor
open Go.RowKit

theorem all256 {p : UInt8 → Bool} (h : ((List.range 256).all fun n => p n.toUInt8) = true) (b : UInt8) : p b = true := by
  have := List.all_eq_true.1 h b.toNat (List.mem_range.2 b.toNat_lt)
  simpa using this
theorem isK5 (b : UInt8) : isK 5 b = (letterB b || signB b) := by
  have := all256 (p := fun b => isK 5 b == (letterB b || signB b)) (by kernel_rfl) b
  simpa using this
theorem isK15 (b : UInt8) : isK 15 b = (letterB b || signB b || digitB b || decide (b.toNat = 45)) := by
  have := all256 (p := fun b => isK 15 b == (letterB b || signB b || digitB b || decide (b.toNat = 45))) (by kernel_rfl) b
  simpa using this
/-- may a byte stand in a channel? -/
def chanB (b : UInt8) : Bool := !(decide (b.toNat = 0 ∨ b.toNat = 7 ∨ b.toNat = 10 ∨ b.toNat = 13 ∨ b.toNat = 32 ∨ b.toNat = 44 ∨ b.toNat = 58))
theorem isK1888 (b : UInt8) : isK 1888 b = !chanB b := by
  have := all256 (p := fun b => isK 1888 b == !chanB b) (by kernel_rfl) b
  simpa using this
theorem isK160 (b : UInt8) : isK 160 b = inB [33, 64, 42, 63, 58] b := by
  have := all256 (p := fun b => isK 160 b == inB [33, 64, 42, 63, 58] b) (by kernel_rfl) b
  simpa using this

end Go.Proofs.YtpbobonddocgkaaGreatDoor
end
section
/- valid.Nick, Channel, User and the answers' ones: both tell the same of any text. -/
namespace Go.Proofs.YtpbobonddocgkaaGreatDoor
open Go.RowKit

noncomputable def dec (p : Prop) : Bool := @decide p (Classical.propDecidable _)
theorem dec_iff {p : Prop} : dec p = true ↔ p := by unfold dec; exact @decide_eq_true_iff _ (Classical.propDecidable _)
theorem dec_yes {p : Prop} (h : p) : true = dec p := (dec_iff.2 h).symm
theorem dec_no {p : Prop} (h : ¬ p) : false = dec p := by
  cases e : dec p with
  | false => rfl
  | true => exact absurd (dec_iff.1 e) h
theorem dec_of {b : Bool} {p : Prop} (h : b = true ↔ p) : b = dec p := by
  rw [Bool.eq_iff_iff, h, dec_iff]

theorem sized_yes (s : ByteArray) (a b : Int) (w : World) (h : a ≤ s.size ∧ (s.size : Int) ≤ b) :
    Calls Tryz.prog 52 #[.string s, .int .i64 a, .int .i64 b] w fun e w' => e = .returned (.bool true) ∧ w = w' :=
  (sized_any s a b w).mono fun _ _ hh => by rw [show sizedB s.size a b = true from decide_eq_true h] at hh; exact hh
theorem sized_no (s : ByteArray) (a b : Int) (w : World) (h : ¬ (a ≤ s.size ∧ (s.size : Int) ≤ b)) :
    Calls Tryz.prog 52 #[.string s, .int .i64 a, .int .i64 b] w fun e w' => e = .returned (.bool false) ∧ w = w' :=
  (sized_any s a b w).mono fun _ _ hh => by rw [show sizedB s.size a b = false from decide_eq_false h] at hh; exact hh

/-- may a byte stand so in a nickname? -/
def nickAt (i : Nat) (b : UInt8) : Bool := letterB b || signB b || (decide (i ≠ 0) && (digitB b || decide (b.toNat = 45)))
def NickP (s : ByteArray) : Prop := (1 ≤ s.size ∧ s.size ≤ 16) ∧ ∀ i (h : i < s.size), nickAt i s[i] = true
def ChanP (s : ByteArray) : Prop := (2 ≤ s.size ∧ s.size ≤ 50) ∧ (∃ h : 0 < s.size, s[0].toNat = 35) ∧ ∀ i (h : i < s.size), chanB s[i] = true
def UserP (s : ByteArray) : Prop := (1 ≤ s.size ∧ s.size ≤ 10) ∧ ∀ i (h : i < s.size), (seen s[i] && !inB [33, 64, 42, 63, 58] s[i]) = true

theorem extract_one (s : ByteArray) (h : 1 ≤ s.size) (p : Nat → UInt8 → Bool) : allI (s.extract 0 1) p = p 0 s[0] := by
  rw [Bool.eq_iff_iff, allI_iff]
  have hs : (s.extract 0 1).size = 1 := by simp [ByteArray.size_extract]; omega
  have e : ∀ i (hi : i < (s.extract 0 1).size), (s.extract 0 1)[i] = s[0] := by
    intro i hi
    obtain rfl : i = 0 := by omega
    simp [ByteArray.getElem_extract]
  constructor
  · intro hh; have := hh 0 (by omega); rwa [e] at this
  · intro hh i hi; rw [e]; obtain rfl : i = 0 := by omega
    exact hh

set_option maxHeartbeats 1000000 in
theorem nick_v (s : ByteArray) (w : World) (hs : s.size ≤ 1000000) (hr : Rowed w) :
    Calls Tryz.prog 29 #[.string s] w fun e w' => e = .returned (.bool (dec (NickP s))) ∧ w = w' := by
  by_cases h : 1 ≤ s.size ∧ s.size ≤ 16
  · have h1 := h.1
    go_enter Tryz.func29, Tryz.ntmps29
    go_wp2_with (first | (go_at_call 52; refine (sized_yes _ _ _ _ (by omega)).mono ?_; rintro e w' ⟨rfl, rfl⟩) | (go_at_call 54; refine (only_any _ _ _ (by first | assumption | (simp [ByteArray.size_extract]; omega)) (by assumption)).mono ?_; rintro e w' ⟨rfl, rfl⟩))
    all_goals go_ret
    all_goals rename_i hx
    · rw [extract_one s h1] at hx
      refine ⟨ret_bool (dec_of ?_), rfl⟩
      rw [allI_iff]
      constructor
      · intro hh
        refine ⟨h, fun i hi => ?_⟩
        have a := hh i hi
        rw [isK15] at a; rw [isK5] at hx
        unfold nickAt
        by_cases e : i = 0
        · subst e; rw [hx]; rfl
        · rw [decide_eq_true e, Bool.true_and, ← Bool.or_assoc]; exact a
      · intro hh i hi
        have a := hh.2 i hi
        rw [isK15]
        unfold nickAt at a
        simp only [Bool.or_eq_true, Bool.and_eq_true] at a ⊢
        rcases a with a | ⟨_, a | a⟩
        · exact .inl (.inl a)
        · exact .inl (.inr a)
        · exact .inr a
    · rw [extract_one s h1, isK5] at hx
      refine ⟨ret_bool (dec_no fun hh => hx ?_), rfl⟩
      have a := hh.2 0 (by omega)
      unfold nickAt at a
      simpa using a
  · go_enter Tryz.func29, Tryz.ntmps29
    go_wp2_with (go_at_call 52; refine (sized_no _ _ _ _ (by omega)).mono ?_; rintro e w' ⟨rfl, rfl⟩)
    go_ret
    exact ⟨ret_bool (dec_no fun hh => h hh.1), rfl⟩









end Go.Proofs.YtpbobonddocgkaaGreatDoor
end
section
/- valid.Host, Server, Key and the answers' ones: both tell the same of any text. -/
namespace Go.Proofs.YtpbobonddocgkaaGreatDoor
open Go.RowKit

theorem isK59 (b : UInt8) : isK 59 b = (letterB b || digitB b || decide (b.toNat = 46) || decide (b.toNat = 45) || decide (b.toNat = 58)) := by
  have := all256 (p := fun b => isK 59 b == (letterB b || digitB b || decide (b.toNat = 46) || decide (b.toNat = 45) || decide (b.toNat = 58))) (by kernel_rfl) b
  simpa using this
theorem isK32 (b : UInt8) : isK 32 b = decide (b.toNat = 58) := by
  have := all256 (p := fun b => isK 32 b == decide (b.toNat = 58)) (by kernel_rfl) b
  simpa using this
theorem isK16 (b : UInt8) : isK 16 b = decide (b.toNat = 46) := by
  have := all256 (p := fun b => isK 16 b == decide (b.toNat = 46)) (by kernel_rfl) b
  simpa using this
theorem isK1 (b : UInt8) : isK 1 b = letterB b := by
  have := all256 (p := fun b => isK 1 b == letterB b) (by kernel_rfl) b
  simpa using this
theorem isK64 (b : UInt8) : isK 64 b = decide (b.toNat = 44) := by
  have := all256 (p := fun b => isK 64 b == decide (b.toNat = 44)) (by kernel_rfl) b
  simpa using this

/-- may a byte stand so in a host? -/
def hostAt (i : Nat) (b : UInt8) : Bool := letterB b || digitB b || decide (b.toNat = 46) || decide (b.toNat = 45) || (decide (b.toNat = 58) && decide (i ≠ 0))
def HostP (s : ByteArray) : Prop := (1 ≤ s.size ∧ s.size ≤ 63) ∧ ∀ i (h : i < s.size), hostAt i s[i] = true
def ServP (s : ByteArray) : Prop := HostP s ∧ (∃ h : 0 < s.size, letterB s[0] = true) ∧ inB s.data.toList 46 = true ∧ inB s.data.toList 58 = false
def KeyP (s : ByteArray) : Prop := (1 ≤ s.size ∧ s.size ≤ 23) ∧ (∀ i (h : i < s.size), (seen s[i] && !decide (s[i].toNat = 44)) = true) ∧ ∃ h : 0 < s.size, s[0].toNat ≠ 58
theorem u8_eq {b : UInt8} {n : Nat} (hn : n < 256) : b.toNat = n ↔ b = n.toUInt8 := by
  constructor
  · intro h; rw [← h]; simp
  · intro h; rw [h]; simp; omega
theorem allI_noneB (s : ByteArray) (c : UInt8) : allI s (fun _ b => !decide (b.toNat = c.toNat)) = !inB s.data.toList c := by
  rw [Bool.eq_iff_iff, allI_iff]
  constructor
  · intro h
    rw [Bool.not_eq_true']
    symm
    exact inB_no (Nat.le_refl _) fun i _ hi e => by have := h i hi; rw [e] at this; simp at this
  · intro h i hi
    rw [Bool.not_eq_true'] at h
    by_cases e : s[i] = c
    · have := inB_yes hi e; rw [h] at this; cases this
    · simp; intro e2; exact e (UInt8.toNat_inj.mp e2)

set_option maxHeartbeats 1000000 in
theorem host_v (s : ByteArray) (w : World) (hs : s.size ≤ 1000000) (hr : Rowed w) :
    Calls Tryz.prog 24 #[.string s] w fun e w' => e = .returned (.bool (dec (HostP s))) ∧ w = w' := by
  by_cases h : 1 ≤ s.size ∧ s.size ≤ 63
  · have h1 := h.1
    go_enter Tryz.func24, Tryz.ntmps24
    go_wp2_with (first | (go_at_call 52; refine (sized_yes _ _ _ _ (by omega)).mono ?_; rintro e w' ⟨rfl, rfl⟩) | (go_at_call 54; refine (only_any _ _ _ (by first | assumption | (simp [ByteArray.size_extract]; omega)) (by assumption)).mono ?_; rintro e w' ⟨rfl, rfl⟩) | (go_at_call 53; refine (none_any _ _ _ (by first | assumption | (simp [ByteArray.size_extract]; omega)) (by assumption)).mono ?_; rintro e w' ⟨rfl, rfl⟩))
    all_goals go_ret
    all_goals rename_i hx
    · rw [extract_one s h1] at hx
      refine ⟨ret_bool (dec_of ?_), rfl⟩
      rw [allI_iff]
      rw [isK32] at hx
      constructor
      · intro hh
        refine ⟨h, fun i hi => ?_⟩
        have a := hh i hi
        rw [isK59] at a
        unfold hostAt
        by_cases e : i = 0
        · subst e
          simp only [Bool.or_eq_true, Bool.and_eq_true, Bool.not_eq_true', decide_eq_true_eq, decide_eq_false_iff_not] at a hx ⊢
          rcases a with a | a
          · exact .inl a
          · exact absurd a hx
        · rw [decide_eq_true e, Bool.and_true]; exact a
      · intro hh i hi
        have a := hh.2 i hi
        rw [isK59]
        unfold hostAt at a
        simp only [Bool.or_eq_true, Bool.and_eq_true] at a ⊢
        rcases a with a | ⟨a, _⟩
        · exact .inl a
        · exact .inr a
    · rw [extract_one s h1, isK32] at hx
      refine ⟨ret_bool (dec_no fun hh => hx ?_), rfl⟩
      have a := hh.2 0 (by omega)
      unfold hostAt at a
      simp only [Bool.or_eq_true, Bool.and_eq_true, decide_eq_true_eq, ne_eq, not_true_eq_false, and_false, or_false, Bool.not_eq_true', decide_eq_false_iff_not] at a ⊢
      intro e
      rcases a with ((a | a) | a) | a
      · unfold letterB at a; simp at a; omega
      · unfold digitB at a; simp at a; omega
      · omega
      · omega
  · go_enter Tryz.func24, Tryz.ntmps24
    go_wp2_with (go_at_call 52; refine (sized_no _ _ _ _ (by omega)).mono ?_; rintro e w' ⟨rfl, rfl⟩)
    go_ret
    exact ⟨ret_bool (dec_no fun hh => h hh.1), rfl⟩



set_option maxHeartbeats 2000000 in
theorem serv_v (s : ByteArray) (w : World) (hs : s.size ≤ 1000000) (hr : Rowed w) :
    Calls Tryz.prog 46 #[.string s] w fun e w' => e = .returned (.bool (dec (ServP s))) ∧ w = w' := by
  by_cases hh : HostP s
  · have h1 : 1 ≤ s.size := hh.1.1
    have hhd := dec_iff.2 hh
    have e32 : (allI s fun _ b => !isK 32 b) = !inB s.data.toList 58 := by rw [← allI_noneB s 58]; congr 1; funext _ b; rw [isK32]; rfl
    have e16 : (allI s fun _ b => !isK 16 b) = !inB s.data.toList 46 := by rw [← allI_noneB s 46]; congr 1; funext _ b; rw [isK16]; rfl
    have e1 : (allI (s.extract 0 1) fun _ b => isK 1 b) = letterB s[0] := by rw [extract_one s h1, isK1]
    obtain ⟨x, hx⟩ : ∃ x, inB s.data.toList 58 = x := ⟨_, rfl⟩
    obtain ⟨y, hy⟩ : ∃ x, inB s.data.toList 46 = x := ⟨_, rfl⟩
    obtain ⟨z, hz⟩ : ∃ x, letterB s[0] = x := ⟨_, rfl⟩
    rw [hx] at e32
    rw [hy] at e16
    rw [hz] at e1
    have hfin : (!x && y && z) = dec (ServP s) := by
      refine dec_of ?_
      unfold ServP
      rw [hx, hy]
      constructor
      · intro h
        simp only [Bool.and_eq_true, Bool.not_eq_true'] at h
        exact ⟨hh, ⟨by omega, by rw [hz]; exact h.2⟩, h.1.2, h.1.1⟩
      · rintro ⟨_, ⟨_, h2⟩, h3, h4⟩
        rw [hz] at h2
        simp [h2, h3, h4]
    have E32 := Lib.hid e32
    have E16 := Lib.hid e16
    have E1 := Lib.hid e1
    have HD := Lib.hid hhd
    have HF := Lib.hid hfin
    have hs1 : (s.extract 0 1).size ≤ 1000000 := by simp [ByteArray.size_extract]; omega
    clear e32 e16 e1 hhd hfin hx hy hz
    cases x
    · cases y
      · go_enter Tryz.func46, Tryz.ntmps46
        go_wp2_with fail
        refine (host_v _ _ hs hr).mono ?_
        rintro e w' ⟨rfl, rfl⟩
        rw [HD.out]
        go_wp2_with fail
        refine (none_any _ _ _ hs hr).mono ?_
        rintro e w' ⟨rfl, rfl⟩
        rw [E32.out]
        go_wp2_with fail
        refine (none_any _ _ _ hs hr).mono ?_
        rintro e w' ⟨rfl, rfl⟩
        rw [E16.out]
        go_wp2_with fail
        go_ret
        exact ⟨ret_bool (by rw [← HF.out]; rfl), rfl⟩
      · go_enter Tryz.func46, Tryz.ntmps46
        go_wp2_with fail
        refine (host_v _ _ hs hr).mono ?_
        rintro e w' ⟨rfl, rfl⟩
        rw [HD.out]
        go_wp2_with fail
        refine (none_any _ _ _ hs hr).mono ?_
        rintro e w' ⟨rfl, rfl⟩
        rw [E32.out]
        go_wp2_with fail
        refine (none_any _ _ _ hs hr).mono ?_
        rintro e w' ⟨rfl, rfl⟩
        rw [E16.out]
        go_wp2_with fail
        refine (only_any _ _ _ hs1 hr).mono ?_
        rintro e w' ⟨rfl, rfl⟩
        rw [E1.out]
        go_wp2_with fail
        go_ret
        exact ⟨ret_bool (by rw [← HF.out]; rfl), rfl⟩
    · go_enter Tryz.func46, Tryz.ntmps46
      go_wp2_with fail
      refine (host_v _ _ hs hr).mono ?_
      rintro e w' ⟨rfl, rfl⟩
      rw [HD.out]
      go_wp2_with fail
      refine (none_any _ _ _ hs hr).mono ?_
      rintro e w' ⟨rfl, rfl⟩
      rw [E32.out]
      go_wp2_with fail
      go_ret
      exact ⟨ret_bool (by rw [← HF.out]; rfl), rfl⟩
  · have hd : dec (HostP s) = false := (dec_no hh).symm
    have HD := Lib.hid hd
    have hfin : false = dec (ServP s) := dec_no fun h => hh h.1
    have HF := Lib.hid hfin
    clear hd hfin hh
    go_enter Tryz.func46, Tryz.ntmps46
    go_wp2_with fail
    refine (host_v _ _ hs hr).mono ?_
    rintro e w' ⟨rfl, rfl⟩
    rw [HD.out]
    go_wp2_with fail
    go_ret
    exact ⟨ret_bool HF.out, rfl⟩

end Go.Proofs.YtpbobonddocgkaaGreatDoor
end
section
/- Masks, as mathematics: what a mask means; that row by row, and by going back to the last star alone, the same is found. -/
namespace Go.Proofs.YtpbobonddocgkaaGreatDoor

/-- does a mask's byte that is no star mean a byte? -/
def mb (c b : UInt8) : Bool := c == 63 || foldB c == foldB b
/-- the ends of a text -/
def ends : List UInt8 → List (List UInt8)
  | [] => [[]]
  | b :: s => (b :: s) :: ends s
/-- does a mask mean a text? -/
def mm : List UInt8 → List UInt8 → Bool
  | [], s => s.isEmpty
  | c :: m, s => if c = 42 then (ends s).any (mm m) else match s with
    | [] => false
    | b :: t => mb c b && mm m t

theorem ends_any (p : List UInt8 → Bool) : ∀ s, (ends s).any p = true ↔ ∃ k, k ≤ s.length ∧ p (s.drop k) = true
  | [] => by simp [ends]
  | b :: s => by
    simp only [ends, List.any_cons, Bool.or_eq_true, ends_any p s, List.length_cons]
    constructor
    · rintro (h | ⟨k, hk, h⟩)
      · exact ⟨0, by omega, h⟩
      · exact ⟨k + 1, by omega, h⟩
    · rintro ⟨k, hk, h⟩
      cases k with
      | zero => exact .inl h
      | succ k => exact .inr ⟨k, by omega, h⟩
theorem mm_star (m s : List UInt8) : mm (42 :: m) s = true ↔ ∃ k, k ≤ s.length ∧ mm m (s.drop k) = true := by
  simp only [mm, if_true]; exact ends_any _ _
theorem mm_other {c : UInt8} (hc : c ≠ 42) (m s : List UInt8) : mm (c :: m) s = true ↔ ∃ b t, s = b :: t ∧ mb c b = true ∧ mm m t = true := by
  simp only [mm, if_neg hc]
  cases s with
  | nil => simp
  | cons b t =>
    simp only [Bool.and_eq_true, List.cons.injEq]
    constructor
    · intro h; exact ⟨b, t, ⟨rfl, rfl⟩, h⟩
    · rintro ⟨x, u, ⟨rfl, rfl⟩, h⟩; exact h

theorem mm_snoc_star : ∀ (m s : List UInt8), mm (m ++ [42]) s = true ↔ ∃ i, i ≤ s.length ∧ mm m (s.take i) = true
  | [], s => by
    rw [List.nil_append, mm_star]
    constructor
    · intro _; exact ⟨0, by omega, by simp [mm]⟩
    · intro _; exact ⟨s.length, by omega, by simp [mm]⟩
  | c :: m, s => by
    rw [List.cons_append]
    by_cases hc : c = 42
    · subst hc
      simp only [mm_star, mm_snoc_star m]
      constructor
      · rintro ⟨k, hk, i, hi, h⟩
        rw [List.length_drop] at hi
        refine ⟨k + i, by omega, k, by rw [List.length_take]; omega, ?_⟩
        rw [List.drop_take, Nat.add_sub_cancel_left]; exact h
      · rintro ⟨j, hj, k, hk, h⟩
        rw [List.length_take] at hk
        rw [List.drop_take] at h
        exact ⟨k, by omega, j - k, by rw [List.length_drop]; omega, h⟩
    · simp only [mm_other hc, mm_snoc_star m]
      constructor
      · rintro ⟨b, t, rfl, hb, i, hi, h⟩
        exact ⟨i + 1, by simp; omega, b, t.take i, by simp, hb, h⟩
      · rintro ⟨i, hi, b, t, e, hb, h⟩
        cases s with
        | nil => simp at e
        | cons x s =>
          cases i with
          | zero => simp at e
          | succ i =>
            simp only [List.take_succ_cons, List.cons.injEq] at e
            obtain ⟨rfl, rfl⟩ := e
            exact ⟨x, s, rfl, hb, i, by simp at hi; exact hi, h⟩

theorem mm_snoc_other {c : UInt8} (hc : c ≠ 42) : ∀ (m s : List UInt8), mm (m ++ [c]) s = true ↔ ∃ t b, s = t ++ [b] ∧ mm m t = true ∧ mb c b = true
  | [], s => by
    rw [List.nil_append, mm_other hc]
    constructor
    · rintro ⟨b, t, rfl, hb, h⟩
      have : t = [] := by simpa [mm] using h
      subst this
      exact ⟨[], b, rfl, by simp [mm], hb⟩
    · rintro ⟨t, b, rfl, h, hb⟩
      have : t = [] := by simpa [mm] using h
      subst this
      exact ⟨b, [], rfl, hb, by simp [mm]⟩
  | d :: m, s => by
    rw [List.cons_append]
    by_cases hd : d = 42
    · subst hd
      simp only [mm_star, mm_snoc_other hc m]
      constructor
      · rintro ⟨k, hk, t, b, e, h, hb⟩
        refine ⟨s.take k ++ t, b, ?_, ⟨k, ?_, ?_⟩, hb⟩
        · rw [List.append_assoc, ← e, List.take_append_drop]
        · simp; omega
        · rw [List.drop_append_of_le_length (by simp; omega)]
          rw [List.drop_of_length_le (by rw [List.length_take]; omega), List.nil_append]; exact h
      · rintro ⟨t, b, rfl, ⟨k, hk, h⟩, hb⟩
        exact ⟨k, by simp; omega, t.drop k, b, by rw [List.drop_append_of_le_length hk], h, hb⟩
    · simp only [mm_other hd, mm_snoc_other hc m]
      constructor
      · rintro ⟨x, u, rfl, hx, t, b, rfl, h, hb⟩
        exact ⟨x :: t, b, rfl, ⟨x, t, rfl, hx, h⟩, hb⟩
      · rintro ⟨t, b, rfl, ⟨x, u, rfl, hx, h⟩, hb⟩
        exact ⟨x, u ++ [b], rfl, hx, u, b, rfl, h, hb⟩

/-- row by row: which beginnings of the text do so many bytes of the mask mean? -/
def row (m s : List UInt8) (k i : Nat) : Bool := mm (m.take k) (s.take i)
theorem row_zero (m s : List UInt8) {i : Nat} (hi : i ≤ s.length) : row m s 0 i = (i == 0) := by
  unfold row
  rw [List.take_zero]
  simp only [mm]
  cases i with
  | zero => simp
  | succ i =>
    have : (s.take (i + 1)).length = i + 1 := by rw [List.length_take]; omega
    cases h : s.take (i + 1) with
    | nil => rw [h] at this; simp at this
    | cons a b => rfl
theorem row_star (m s : List UInt8) {k i : Nat} (hk : k < m.length) (hi : i ≤ s.length) (hc : m[k] = 42) : row m s (k + 1) i = (row m s k i || (decide (0 < i) && row m s (k + 1) (i - 1))) := by
  have e : m.take (k + 1) = m.take k ++ [42] := by rw [List.take_succ_eq_append_getElem hk, hc]
  rw [Bool.eq_iff_iff]
  simp only [row, e, Bool.or_eq_true, Bool.and_eq_true, decide_eq_true_eq, mm_snoc_star]
  constructor
  · rintro ⟨j, hj, h⟩
    rw [List.length_take] at hj
    rw [List.take_take, Nat.min_eq_left (by omega)] at h
    by_cases hji : j = i
    · subst hji; exact .inl h
    · exact .inr ⟨by omega, j, by rw [List.length_take]; omega, by rw [List.take_take, Nat.min_eq_left (by omega)]; exact h⟩
  · rintro (h | ⟨h0, j, hj, h⟩)
    · exact ⟨i, by rw [List.length_take]; omega, by rw [List.take_take, Nat.min_self]; exact h⟩
    · rw [List.length_take] at hj
      rw [List.take_take, Nat.min_eq_left (by omega)] at h
      exact ⟨j, by rw [List.length_take]; omega, by rw [List.take_take, Nat.min_eq_left (by omega)]; exact h⟩
theorem row_other (m s : List UInt8) {k i : Nat} (hk : k < m.length) (hi : i < s.length) (hc : m[k] ≠ 42) : row m s (k + 1) (i + 1) = (row m s k i && mb m[k] s[i]) := by
  have e : m.take (k + 1) = m.take k ++ [m[k]] := List.take_succ_eq_append_getElem hk
  have e2 : s.take (i + 1) = s.take i ++ [s[i]] := List.take_succ_eq_append_getElem hi
  rw [Bool.eq_iff_iff]
  simp only [row, e, e2, Bool.and_eq_true, mm_snoc_other hc]
  constructor
  · rintro ⟨t, b, h1, h2, h3⟩
    obtain ⟨rfl, h4⟩ := List.append_inj' h1 rfl
    simp at h4; subst h4
    exact ⟨h2, h3⟩
  · rintro ⟨h2, h3⟩
    exact ⟨_, _, rfl, h2, h3⟩
theorem row_other0 (m s : List UInt8) {k : Nat} (hk : k < m.length) (hc : m[k] ≠ 42) : row m s (k + 1) 0 = false := by
  have e : m.take (k + 1) = m.take k ++ [m[k]] := List.take_succ_eq_append_getElem hk
  rw [Bool.eq_false_iff]
  intro h
  simp only [row, e, mm_snoc_other hc] at h
  obtain ⟨t, b, h1, _⟩ := h
  simp at h1
theorem row_all (m s : List UInt8) : row m s m.length s.length = mm m s := by simp [row]

/-! going back to the last star alone -/
/-- from places on -/
def from' (m s : List UInt8) (a i : Nat) : Bool := mm (m.drop a) (s.drop i)
/-- somewhere from a place on -/
def some' (m s : List UInt8) (a i : Nat) : Prop := ∃ j, i ≤ j ∧ j ≤ s.length ∧ from' m s a j = true
theorem from_star {m s : List UInt8} {a i : Nat} (ha : a < m.length) (hc : m[a] = 42) (hi : i ≤ s.length) : from' m s a i = true ↔ some' m s (a + 1) i := by
  unfold from' some' from'
  rw [List.drop_eq_getElem_cons ha, hc, mm_star]
  constructor
  · rintro ⟨k, hk, h⟩
    rw [List.length_drop] at hk
    rw [List.drop_drop] at h
    exact ⟨i + k, by omega, by omega, h⟩
  · rintro ⟨j, h1, h2, h⟩
    refine ⟨j - i, by rw [List.length_drop]; omega, ?_⟩
    rw [List.drop_drop, show i + (j - i) = j by omega]; exact h
theorem from_step {m s : List UInt8} {a i : Nat} (ha : a < m.length) (hi : i < s.length) (hc : m[a] ≠ 42) : from' m s a i = (mb m[a] s[i] && from' m s (a + 1) (i + 1)) := by
  unfold from'
  rw [List.drop_eq_getElem_cons ha, List.drop_eq_getElem_cons hi, Bool.eq_iff_iff, mm_other hc, Bool.and_eq_true]
  constructor
  · rintro ⟨b, t, e, h1, h2⟩
    simp only [List.cons.injEq] at e
    obtain ⟨rfl, rfl⟩ := e
    exact ⟨h1, h2⟩
  · rintro ⟨h1, h2⟩
    exact ⟨_, _, rfl, h1, h2⟩
theorem from_out {m s : List UInt8} {a i : Nat} (ha : a = m.length) (hi : i < s.length) : from' m s a i = false := by
  unfold from'
  rw [List.drop_of_length_le (by omega), List.drop_eq_getElem_cons hi]
  rfl
/-- are all bytes stars? -/
def stars (l : List UInt8) : Bool := l.all fun c => c == 42
theorem from_end {m s : List UInt8} {a : Nat} : from' m s a s.length = stars (m.drop a) := by
  unfold from'
  rw [List.drop_of_length_le (Nat.le_refl _)]
  generalize m.drop a = l
  induction l with
  | nil => rfl
  | cons c l ih =>
    by_cases hc : c = 42
    · subst hc
      simp only [stars, List.all_cons] at *
      rw [← ih]
      simp [mm, ends]
    · simp [mm, hc, stars]

/-- a row of bytes that are no stars, each meaning one of the text's -/
def seg (m s : List UInt8) (a i n : Nat) : Prop := a + n ≤ m.length ∧ i + n ≤ s.length ∧ ∀ j, j < n → m.getD (a + j) 42 ≠ 42 ∧ mb (m.getD (a + j) 42) (s.getD (i + j) 0) = true
theorem seg_zero {m s : List UInt8} {a i : Nat} (ha : a ≤ m.length) (hi : i ≤ s.length) : seg m s a i 0 := ⟨ha, hi, fun j h => absurd h (Nat.not_lt_zero j)⟩
theorem getD_at (l : List UInt8) (k : Nat) (d : UInt8) (h : k < l.length) : l.getD k d = l[k] := by simp [h]
theorem seg_snoc {m s : List UInt8} {a i n : Nat} (h : seg m s a i n) (ha : a + n < m.length) (hi : i + n < s.length) (hc : m[a + n] ≠ 42) (hb : mb m[a + n] s[i + n] = true) : seg m s a i (n + 1) := by
  refine ⟨by omega, by omega, fun j hj => ?_⟩
  by_cases hjn : j = n
  · subst hjn
    rw [getD_at _ _ _ ha, getD_at _ _ _ hi]; exact ⟨hc, hb⟩
  · exact h.2.2 j (by omega)
theorem seg_from {m s : List UInt8} {a i : Nat} : ∀ {n : Nat}, seg m s a i n → from' m s a i = from' m s (a + n) (i + n)
  | 0, _ => rfl
  | n + 1, h => by
    obtain ⟨h1, h2, h3⟩ := h
    rw [seg_from (n := n) ⟨by omega, by omega, fun j hj => h3 j (by omega)⟩]
    obtain ⟨hc, hb⟩ := h3 n (by omega)
    rw [getD_at _ _ _ (by omega)] at hc hb
    rw [getD_at s _ _ (by omega)] at hb
    rw [from_step (by omega) (by omega) hc, hb]; rfl
/-- what begins with bytes that are no stars takes as many of the text -/
theorem seg_take {m s : List UInt8} {a i : Nat} : ∀ {n : Nat}, (a + n ≤ m.length) → (∀ j, j < n → m.getD (a + j) 42 ≠ 42) → i ≤ s.length → from' m s a i = true → i + n ≤ s.length ∧ from' m s (a + n) (i + n) = true
  | 0, _, _, hi, h => ⟨hi, h⟩
  | n + 1, h1, h3, hi, h => by
    obtain ⟨e1, e2⟩ := seg_take (n := n) (by omega) (fun j hj => h3 j (by omega)) hi h
    have hc := h3 n (by omega)
    rw [getD_at _ _ _ (by omega)] at hc
    by_cases hlt : i + n < s.length
    · rw [from_step (by omega) hlt hc, Bool.and_eq_true] at e2
      exact ⟨by omega, e2.2⟩
    · exfalso
      unfold from' at e2
      have f1 : s.drop (i + n) = [] := List.drop_of_length_le (by omega)
      have f2 : a + n < m.length := by omega
      rw [List.drop_eq_getElem_cons f2, f1, mm_other hc] at e2
      obtain ⟨_, _, e, _⟩ := e2
      cases e
theorem seg_star {m s : List UInt8} {a i n : Nat} (h : seg m s a i n) (ha : a + n < m.length) (hc : m[a + n] = 42) : some' m s a i ↔ some' m s (a + n + 1) (i + n) := by
  constructor
  · rintro ⟨j, h1, h2, h3⟩
    obtain ⟨e1, e2⟩ := seg_take h.1 (fun j hj => (h.2.2 j hj).1) h2 h3
    obtain ⟨j', f1, f2, f3⟩ := (from_star ha hc e1).1 e2
    exact ⟨j', by omega, f2, f3⟩
  · intro h4
    exact ⟨i, Nat.le_refl _, by have := h.2.1; omega, by rw [seg_from h]; exact (from_star ha hc h.2.1).2 h4⟩
theorem seg_miss {m s : List UInt8} {a i n : Nat} (h : seg m s a i n) (hm : from' m s (a + n) (i + n) = false) : some' m s a i ↔ some' m s a (i + 1) := by
  constructor
  · rintro ⟨j, h1, h2, h3⟩
    by_cases hji : j = i
    · subst hji
      rw [seg_from h, hm] at h3; cases h3
    · exact ⟨j, by omega, h2, h3⟩
  · rintro ⟨j, h1, h2, h3⟩
    exact ⟨j, by omega, h2, h3⟩
theorem seg_end {m s : List UInt8} {a i n : Nat} (h : seg m s a i n) (he : i + n = s.length) : some' m s a i ↔ stars (m.drop (a + n)) = true := by
  rw [← from_end (s := s), ← he]
  constructor
  · rintro ⟨j, h1, h2, h3⟩
    obtain ⟨e1, e2⟩ := seg_take h.1 (fun j hj => (h.2.2 j hj).1) h2 h3
    have : j = i := by omega
    subst this; exact e2
  · intro h4
    exact ⟨i, Nat.le_refl _, by omega, by rw [seg_from h]; exact h4⟩
end Go.Proofs.YtpbobonddocgkaaGreatDoor
end
section
/- glob.meansByte; strings.Trim with one byte. -/
namespace Go.Proofs.YtpbobonddocgkaaGreatDoor
open Go.RowKit

theorem u8_beq (a b : UInt8) : ((a.toNat : Int) == (b.toNat : Int)) = (a == b) := by
  rw [Bool.eq_iff_iff, beq_iff_eq, beq_iff_eq]
  constructor
  · intro h; exact UInt8.toNat_inj.mp (by omega)
  · intro h; rw [h]


/-- what a text is behind the bytes at its end that are one -/
def dropEnd (c : UInt8) (l : List UInt8) : List UInt8 := (l.reverse.dropWhile (· == c)).reverse
/-- are all bytes so? -/
def allC (c : UInt8) (l : List UInt8) : Bool := l.all (· == c)

def strSize : Value → Nat
  | .string s => s.size
  | _ => 0
theorem allC_at {c : UInt8} {s : ByteArray} (h : allC c s.data.toList = true) (k : Nat) (hk : k < s.size) : s[k] = c := by
  have := List.all_eq_true.1 h s[k] (by
    have e : s[k] = s.data.toList[k]'(by simpa using hk) := rfl
    rw [e]; exact List.getElem_mem _)
  simpa using this
theorem allC_head {c : UInt8} {s : ByteArray} (hk : 0 < s.size) (h : s[0] = c) : allC c (s.extract 1 s.size).data.toList = allC c s.data.toList := by
  rw [ba_extract_to]
  have e := List.drop_eq_getElem_cons (l := s.data.toList) (i := 0) (by simpa using hk)
  rw [List.drop_zero] at e
  have e0 : s.data.toList[0]'(by simpa using hk) = c := h
  rw [e0] at e
  unfold allC
  conv => rhs; rw [e]
  simp
theorem allC_last {c : UInt8} {s : ByteArray} {n : Nat} (hk : s.size = n + 1) (h : s[n]'(by omega) = c) : allC c (s.extract 0 n).data.toList = allC c s.data.toList := by
  rw [Lib.extract_data]
  have hl : s.data.toList.length = n + 1 := by simpa using hk
  have e : s.data.toList = s.data.toList.take n ++ [c] := by
    have := List.take_succ_eq_append_getElem (l := s.data.toList) (i := n) (by omega)
    rw [List.take_of_length_le (by omega)] at this
    rw [this]
    congr 2
  unfold allC
  conv => rhs; rw [e]
  simp




theorem empty_stars {r : ByteArray} (h : stars r.data.toList = true → r.size = 0) : r.toList.isEmpty = stars r.data.toList := by
  cases e : stars r.data.toList with
  | true => exact str_em (h e)
  | false =>
    refine str_ne ?_
    rcases Nat.eq_zero_or_pos r.size with h0 | h0
    · rw [str_nil h0] at e; cases e
    · exact h0

end Go.Proofs.YtpbobonddocgkaaGreatDoor
end
