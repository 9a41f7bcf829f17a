/- Texts of this proof, one behind the other. -/
import Derived.Test.YtlkeomcillencaaGreatRoomsPlayG9
import Derived.Test.YtlkeomcillencaaGreatRoomsPlayG6
import Derived.Deep.CutRange
import Derived.Shelf.RegionOpenPlain
import Derived.Deep.QuietTactic
import Derived.BigQuiet
import Derived.Laws.ResultCell
import Derived.Test.YtlkeomcillencaaGreatRoomsPlayG1
import Derived.Shelf.SlSortCmp.WholeK
import Derived.Sort.OwnSorted
import Derived.Test.YtlkeomcillencaaGreatRoomsPlayG8
import Derived.Maps.OwnIn
import Derived.Sort.LoopGhostIn
import Derived.Sort.MapsRangeIn
import Derived.OwnWalkIn
import Derived.TacticsInMore
import Derived.LoopIn
import Derived.Deep.LoopGhost
import Derived.Sort.Walk0
import Derived.Laws.Cover1
import Derived.LoopTactic
import Derived.Outline
import Derived.Sort.LotA
import Derived.Test.YtlkeomcillencaaGreatRoomsPlayG2
import Derived.Test.YtlkeomcillencaaGreatRoomsPlayG3
import Derived.Shelf.SlSortCmp.NoneTotal
import Derived.Stop.RegionWithIn
import Derived.OwnWalk
set_option linter.unusedVariables false
set_option linter.unusedSimpArgs false
section
/- Layer 2: a book of *rollcall/room.Room: New, Len, Put, find, Get, Name, Delete. -/
namespace Go.Proofs.YtlkeomcillencaaGreat
open Go Go.RowKit Go.Maps

def BNewPP (most : Int) (w : World) (e : Ending) (w' : World) : Prop := ∃ t b, e = .returned (.tuple #[.pointer (some ⟨t, 0, none⟩), .int .i64 0]) ∧ BokP w.heap.size w' t b most [] ∧ Below w.heap.size w w'
set_option maxHeartbeats 1000000 in
theorem bok_newP {most : Int} (hm : 0 ≤ most ∧ most ≤ 100000) (w : World) : Calls Tryz.prog 36 #[.int .i64 most] w (BNewPP most w) := by
  have hmm := @run_makeMap Tryz.prog
  have p1 : decide (most < 0) = false := by simp; omega
  have p2 : decide (100000 < most) = false := by simp; omega
  have p3 : ¬ most < 0 := by omega
  have p4 : ¬ 100000 < most := by omega
  go_enter Tryz.func36, Tryz.ntmps36
  go_wp2_with fail
  go_ret2
  refine ⟨_, _, rfl, ⟨by omega, Nat.le_refl _, by omega, ?_, ?_⟩, ((Below.refl _ _).alloc (Nat.le_refl _) _).alloc (by simp) _⟩
  · have := heap_alloc_new (w.alloc (Obj.map #[] 0)) (Obj.cells #[Value.int .i64 most, Value.map (some w.heap.size)] 120)
    rwa [World.size_alloc] at this
  · exact ⟨.map [], (World.ownsMap_made w _ _ _).alloc _, mapHas_empty _ _, fun p hp => by cases hp⟩
set_option maxHeartbeats 1000000 in
theorem bok_lenP {base : Nat} {w : World} {t b : Nat} {most : Int} {T : List (KeyB × Ent VP)} (h : BokP base w t b most T) : Calls Tryz.prog 55 #[.pointer (some ⟨t, 0, none⟩)] w fun e w' => e = .returned (.int .i64 T.length) ∧ w' = w := by
  obtain ⟨a1, a2, a3, a4, D, a5, a6, a7⟩ := h
  have c0 := blk_cell a4 1
  have hl := a5.len Tryz.underlying118 3
  rw [a6.size] at hl
  clear a1 a2 a3 a4 a5 a6 a7
  go_enter Tryz.func55, Tryz.ntmps55
  go_wp2_with fail
  go_ret
  exact ⟨rfl, rfl⟩
def PutPP (base t b : Nat) (most : Int) (T : List (KeyB × Ent VP)) (name : ByteArray) (v : VP) (w : World) (e : Ending) (w' : World) : Prop :=
  (((lookM T (foldL name.data.toList)).isSome = true ∨ (T.length : Int) < most) ∧ e = .returned (.int .i64 0) ∧ BokP base w' t b most (setM T (foldL name.data.toList) ⟨name, foldL name.data.toList, v⟩) ∨ ((lookM T (foldL name.data.toList)).isSome = false ∧ ¬ (T.length : Int) < most) ∧ e = .returned (.int .i64 7) ∧ BokP base w' t b most T) ∧ Fr (fun j => j = b) w w'
set_option maxHeartbeats 4000000 in
theorem bok_putP {base : Nat} {w : World} {t b : Nat} {most : Int} {T : List (KeyB × Ent VP)} (h : BokP base w t b most T) {name : ByteArray} {v : VP} (hs : name.size ≤ 1000000) (hv : OkVP v) (hl : T.length ≤ 1000000) :
    Calls Tryz.prog 47 #[.pointer (some ⟨t, 0, none⟩), .string name, thVP v] w (PutPP base t b most T name v w) := by
  obtain ⟨R, hR⟩ : ∃ R, PutPP base t b most T name v w = R := ⟨_, rfl⟩
  rw [hR]
  have HR := Lib.hid hR
  clear hR
  have HT := Lib.hid (text_any name w hs)
  have HH := Lib.hid h
  clear h
  obtain ⟨k, hk⟩ : ∃ k, foldL name.data.toList = k := ⟨_, rfl⟩
  have hok : OkKB k := by rw [← hk]; exact fold_ok name hs
  rw [hk] at HT
  have HK := Lib.hid (And.intro hk hok)
  have HV := Lib.hid (And.intro hv hs)
  clear hk hok hv hs
  obtain ⟨z, hz⟩ : ∃ z, (lookM T k).getD zeroEP = z := ⟨_, rfl⟩
  obtain ⟨i, hi⟩ : ∃ i, (lookM T k).isSome = i := ⟨_, rfl⟩
  have HZ := Lib.hid (And.intro hz hi)
  clear hz hi
  unfold thVP
  go_enter Tryz.func47, Tryz.ntmps47
  go_wp2_with fail
  refine HT.out.mono ?_
  rintro e w1 ⟨rfl, b1⟩
  have h1 := bokP_below HH.out b1
  have c1 := blk_cell h1.2.2.2.1 1
  have hlk := lookBP h1.2.2.2.2 HK.out.2
  rw [HZ.out.1, HZ.out.2] at hlk
  obtain ⟨w2, hw2⟩ : ∃ w2, w1.alloc (Obj.cells #[.string z.name, .string (bs z.fold), thVP z.thing] 134) = w2 := ⟨_, rfl⟩
  have f2 : Fr (fun _ => False) w w2 := by rw [← hw2]; exact ((Fr.of_below b1).mono fun _ _ e => e).alloc _
  have H2 := Lib.hid f2
  clear h1 b1 HT f2
  unfold kVB valEP thVP at *
  have h2 := bokP_fr HH.out H2.out (fun e => e) fun e => e
  have c0 := blk_cell h2.2.2.2.1 0
  have c2 := blk_cell h2.2.2.2.1 1
  have hln : ∀ n, (Builtin.len_ #[118] 3 #[.map (some b)]).run Tryz.prog (w2.drewN n) = .ok (.int .i64 T.length) (w2.drewN n) := fun n => by
    have h3 := bokP_fr h2 ((Fr.refl (fun _ => False) w2).drewN n) (fun e => e) fun e => e
    obtain ⟨a1, a2, a3, a4, D, a5, a6, a7⟩ := h3
    have := a5.len Tryz.underlying118 3
    rwa [a6.size] at this
  clear h2
  go_upto_region 5 with fail
  have done : ∀ n, ∃ w', (Instr.mapUpdate 118 (.map (some b)) (.string (bs k)) (.agg #[.string name, .string (bs k), .pointer (adP v)])).run Tryz.prog (w2.drewN n) = .ok () w' ∧ Hid (BokP base w' t b most (setM T k ⟨name, k, v⟩) ∧ Fr (fun j => j = b) w w') := fun n => by
    have f3 : Fr (fun _ => False) w (w2.drewN n) := H2.out.drewN n
    have h3 := bokP_fr HH.out f3 (fun e => e) fun e => e
    obtain ⟨a1, a2, a3, a4, D, a5, a6, a7⟩ := h3
    obtain ⟨w', u1, u2, u3⟩ := a5.update keyedB Tryz.underlying118 (by unfold maxLen; omega) (keyOfB HK.out.2) (readEP_val ⟨name, k, v⟩)
    have hf : Fr (fun j => j = b) (w2.drewN n) w' := (Fr.refl _ _).grown u3 fun j e => by cases e; exact .inr rfl
    have h6 := a6.put kLB_inj (a5.tidy keyedB) k (kLB_key k) ⟨name, k, v⟩
    have h7 : OkTPB (setM T k ⟨name, k, v⟩) := by
      have := okTPB_set (v := v) a7 HV.out.2 HV.out.1
      rwa [HK.out.1] at this
    exact ⟨w', u1, ⟨a1, a2, a3, hf.blk a4 a3, _, by rw [← h6.size]; exact ownsB_tight u2, h6, h7⟩, (f3.mono fun _ _ e => e.elim).trans hf⟩
  have HD := Lib.hid done
  clear done
  cases i with
  | true =>
    go_quiet (fail)
    obtain ⟨w', u1, hW⟩ := HD.out nq
    go_wp2_with fail
    rw [← HR.out]
    refine ⟨.inl ⟨.inl ?_, rfl, ?_⟩, hW.out.2⟩
    · rw [HK.out.1]; exact HZ.out.2
    · rw [HK.out.1]; exact hW.out.1
  | false =>
    by_cases hlt : (T.length : Int) < most
    · have q1 : decide (most ≤ (T.length : Int)) = false := by simp <;> omega
      have q2 : ¬ most ≤ (T.length : Int) := by omega
      go_quiet (fail)
      obtain ⟨w', u1, hW⟩ := HD.out nq
      go_wp2_with fail
      rw [← HR.out]
      refine ⟨.inl ⟨.inr hlt, rfl, ?_⟩, hW.out.2⟩
      rw [HK.out.1]; exact hW.out.1
    · have q1 : decide (most ≤ (T.length : Int)) = true := by simp <;> omega
      have q2 : most ≤ (T.length : Int) := by omega
      go_quiet (fail)
      go_wp2_with fail
      rw [← HR.out]
      refine ⟨.inr ⟨⟨?_, by omega⟩, rfl, ?_⟩, ((H2.out.mono fun _ _ e => e.elim).drewN nq)⟩
      · rw [HK.out.1]; exact HZ.out.2
      · exact bokP_fr HH.out (H2.out.drewN nq) (fun e => e) fun e => e
theorem bok_put_nilP (name : ByteArray) (v : VP) (w : World) : Calls Tryz.prog 47 #[.pointer none, .string name, thVP v] w fun e w' => e = .returned (.int .i64 1) ∧ w' = w := by
  unfold thVP
  go_enter Tryz.func47, Tryz.ntmps47
  go_wp2_with fail
  go_ret
  exact ⟨rfl, rfl⟩
theorem bok_len_nilP (w : World) : Calls Tryz.prog 55 #[.pointer none] w fun e w' => e = .returned (.int .i64 0) ∧ w' = w := by
  go_enter Tryz.func55, Tryz.ntmps55
  go_wp2_with fail
  go_ret
  exact ⟨rfl, rfl⟩
def FindPP (T : List (KeyB × Ent VP)) (k : KeyB) (w : World) (e : Ending) (w' : World) : Prop := e = .returned (.tuple #[valEP ((lookM T k).getD zeroEP), .bool (lookM T k).isSome]) ∧ Below w.heap.size w w'
theorem set3P {V : World} {E : Nat} {T : TypeId} {a b c x y u : Value} (h : V.heap[E]? = some (.cells #[a, b, c] T (0, 0))) : (((V.setCell ⟨E, 0, none⟩ x).setCell ⟨E, 1, none⟩ y).setCell ⟨E, 2, none⟩ u).heap[E]? = some (.cells #[x, y, u] T (0, 0)) := by
  have := blk_set (blk_set (blk_set h 0 x) 1 y) 2 u
  simpa using this
theorem fr3P {w1 V : World} {x y u : Value} (h : Fr (fun _ => False) w1 V) : Fr (fun _ => False) w1 (((V.setCell ⟨w1.heap.size, 0, none⟩ x).setCell ⟨w1.heap.size, 1, none⟩ y).setCell ⟨w1.heap.size, 2, none⟩ u) :=
  ((h.setNew _ (Nat.le_refl _) _).setNew _ (Nat.le_refl _) _).setNew _ (Nat.le_refl _) _
theorem res_entP {P : Program} {fn : Func} {p u : Tmp} {ty : TypeId} {tmps : Array Value} {V : World} {N : Nat} {a b c : Value} (h : fn.results = #[.cell p ty, .tmp u]) (hp : tmps.getD p undef = .pointer (some ⟨N, 0, none⟩)) (hg : (isAgg ty).run P V = .ok true V) (hz : (sizeOf ty).run P V = .ok 3 V)
    (h0 : V.cell? ⟨N, 0, none⟩ = some a) (h1 : V.cell? ⟨N, 1, none⟩ = some b) (h2 : V.cell? ⟨N, 2, none⟩ = some c) : (results fn tmps).run P V = .ok (.tuple #[.agg #[a, b, c], tmps.getD u undef]) V := by
  rw [results_cell_tmp h, hp]
  simp [asAddr, loadVar, Sem.run_bind, hg, hz, loadCells, loadCellsFrom, h0, h1, h2, Result.andThen, go_sem]
set_option maxRecDepth 100000 in
set_option maxHeartbeats 4000000 in
theorem bok_findP {base : Nat} {w : World} {t b : Nat} {most : Int} {T : List (KeyB × Ent VP)} (h : BokP base w t b most T) {name : ByteArray} (hs : name.size ≤ 1000000) :
    Calls Tryz.prog 73 #[.pointer (some ⟨t, 0, none⟩), .string name] w (FindPP T (foldL name.data.toList) w) := by
  have HT := Lib.hid (fun W => text_any name W hs)
  have HH := Lib.hid h
  clear h
  obtain ⟨k, hk⟩ : ∃ k, foldL name.data.toList = k := ⟨_, rfl⟩
  have hok : OkKB k := by rw [← hk]; exact fold_ok name hs
  rw [hk] at HT ⊢
  have HK := Lib.hid (And.intro hk hok)
  unfold FindPP
  clear hk hok
  obtain ⟨z, hz⟩ : ∃ z, (lookM T k).getD zeroEP = z := ⟨_, rfl⟩
  obtain ⟨i, hi⟩ : ∃ i, (lookM T k).isSome = i := ⟨_, rfl⟩
  have HZ := Lib.hid (And.intro hz hi)
  rw [hz, hi]
  clear hz hi
  obtain ⟨N, hN⟩ : ∃ N, w.heap.size = N := ⟨_, rfl⟩
  obtain ⟨w1, hw1⟩ : ∃ w1, w.alloc (Obj.cells #[.string ⟨#[]⟩, .string ⟨#[]⟩, .pointer none] 134) = w1 := ⟨_, rfl⟩
  have f1 : Fr (fun _ => False) w w1 := by rw [← hw1]; exact (Fr.refl _ w).alloc _
  have k1 : w1.heap[N]? = some (.cells #[.string ⟨#[]⟩, .string ⟨#[]⟩, .pointer none] 134 (0, 0)) := by rw [← hw1, ← hN]; exact heap_alloc_new w _
  have h1 := bokP_fr HH.out f1 (fun e => e) fun e => e
  obtain ⟨Z, hZ⟩ : ∃ Z, Obj.cells #[.string ⟨#[]⟩, .string ⟨#[]⟩, .pointer none] 134 = Z := ⟨_, rfl⟩
  have facts : ∀ V, Fr (fun _ => False) w1 V → V.cell? ⟨t, 1, none⟩ = some (.map (some b)) ∧ ((Instr.lookup 118 (.map (some b)) (.string (bs k)) true).run Tryz.prog V).andThen (fun a w' => Result.ok (Next.value a) w') = .ok (.value (.tuple #[.agg #[.string z.name, .string (bs z.fold), .pointer (adP z.thing)], .bool i])) V ∧ V.heap[N]? = some (.cells #[.string ⟨#[]⟩, .string ⟨#[]⟩, .pointer none] 134 (0, 0)) := fun V hV => by
    have h2 := bokP_fr h1 hV (fun e => e) fun e => e
    have hlk := lookBP h2.2.2.2.2 HK.out.2
    rw [HZ.out.1, HZ.out.2] at hlk
    unfold kVB valEP thVP at hlk
    exact ⟨blk_cell h2.2.2.2.1 1, by rw [hlk]; rfl, hV.blk k1 fun e => e⟩
  have hzN : w1.heap.size = N + 1 := by rw [← hw1, ← hN]; simp
  have HX := Lib.hid (And.intro facts (And.intro f1 (And.intro hzN hN)))
  obtain ⟨a1, a2, a3⟩ := facts w1.drew ((Fr.refl _ w1).drew)
  have fA : Fr (fun _ => False) w1 ((w1.alloc (Obj.cells #[.string ⟨#[]⟩, .string ⟨#[]⟩, .pointer none] 134)).drew) := ((Fr.refl _ w1).alloc _).drew
  obtain ⟨b1, b2, b3⟩ := facts _ fA
  have kA := heap_alloc_new w1 (Obj.cells #[.string ⟨#[]⟩, .string ⟨#[]⟩, .pointer none] 134)
  have hzD : w1.drew.heap.size = N + 1 := hzN
  have HT2 : Hid (∀ X, (X = w1.drew ∨ X = (w1.alloc (Obj.cells #[.string ⟨#[]⟩, .string ⟨#[]⟩, .pointer none] 134)).drew) → Calls Tryz.prog 40 #[.string name] X fun e v2 => e = .returned (.string (bs k)) ∧ v2.cell? ⟨t, 1, none⟩ = some (.map (some b)) ∧ (v2.alloc (Obj.cells #[.string ⟨#[]⟩, .string ⟨#[]⟩, .pointer none] 134)).cell? ⟨t, 1, none⟩ = some (.map (some b)) ∧
      ((Instr.lookup 118 (.map (some b)) (.string (bs k)) true).run Tryz.prog v2).andThen (fun a w' => Result.ok (Next.value a) w') = .ok (.value (.tuple #[.agg #[.string z.name, .string (bs z.fold), .pointer (adP z.thing)], .bool i])) v2 ∧
      ((Instr.lookup 118 (.map (some b)) (.string (bs k)) true).run Tryz.prog (v2.alloc (Obj.cells #[.string ⟨#[]⟩, .string ⟨#[]⟩, .pointer none] 134))).andThen (fun a w' => Result.ok (Next.value a) w') = .ok (.value (.tuple #[.agg #[.string z.name, .string (bs z.fold), .pointer (adP z.thing)], .bool i])) (v2.alloc (Obj.cells #[.string ⟨#[]⟩, .string ⟨#[]⟩, .pointer none] 134)) ∧
      Hid (Fr (fun _ => False) w1 v2) ∧ (X = (w1.alloc (Obj.cells #[.string ⟨#[]⟩, .string ⟨#[]⟩, .pointer none] 134)).drew → v2.cell? ⟨w1.heap.size, 0, none⟩ = some (.string ⟨#[]⟩) ∧ v2.cell? ⟨w1.heap.size, 1, none⟩ = some (.string ⟨#[]⟩) ∧ v2.cell? ⟨w1.heap.size, 2, none⟩ = some (.pointer none) ∧ v2.frozen? ⟨w1.heap.size, 0, none⟩ = false ∧ v2.frozen? ⟨w1.heap.size, 1, none⟩ = false ∧ v2.frozen? ⟨w1.heap.size, 2, none⟩ = false ∧ Hid (v2.heap[w1.heap.size]? = some (Obj.cells #[.string ⟨#[]⟩, .string ⟨#[]⟩, .pointer none] 134)))) := fun X hX => by
    have fX : Fr (fun _ => False) w1 X := by rcases hX with rfl | rfl; exact (Fr.refl _ w1).drew; exact fA
    refine (HT.out X).mono fun e v2 ⟨he, b2⟩ => ?_
    have fv := fX.trans (Fr.of_below b2)
    have q1 := facts v2 fv
    have q2 := facts _ (fv.alloc (Obj.cells #[.string ⟨#[]⟩, .string ⟨#[]⟩, .pointer none] 134))
    refine ⟨he, q1.1, q2.1, q1.2.1, q2.2.1, fv, fun hx => ?_⟩
    subst hx
    have kE := (Fr.of_below (X := fun _ => False) b2).blk kA fun e => e
    exact ⟨blk_cell kE 0, blk_cell kE 1, blk_cell kE 2, blk_free kE 0, blk_free kE 1, blk_free kE 2, kE⟩
  have oD : w1.drew = w1.drew ∨ w1.drew = (w1.alloc (Obj.cells #[.string ⟨#[]⟩, .string ⟨#[]⟩, .pointer none] 134)).drew := .inl rfl
  have HTD := Lib.hid (HT2.out w1.drew (.inl rfl))
  have HTA := Lib.hid (HT2.out ((w1.alloc (Obj.cells #[.string ⟨#[]⟩, .string ⟨#[]⟩, .pointer none] 134)).drew) (.inr rfl))
  clear oD HT HT2 hzD
  clear facts h1 k1 f1 a3 b3 kA fA hzN hZ Z
  have mixed : (Tryz.prog).follows Departure.mixedOrders = true := by kernel_rfl
  unfold valEP thVP
  go_enter Tryz.func73, Tryz.ntmps73
  go_upto_region 3 with fail
  clear hw1 hN
  go_cut [6, 7] from 8 to 22 (fun s6 s7 wx => ∃ E : Nat, s6 = .pointer (some ⟨E, 0, none⟩) ∧ s7 = .bool i ∧ Hid (N < E ∧ wx.heap[E]? = some (.cells #[.string z.name, .string (bs z.fold), .pointer (adP z.thing)] 134 (0, 0)) ∧ wx.heap[N]? = some (.cells #[.string ⟨#[]⟩, .string ⟨#[]⟩, .pointer none] 134 (0, 0)) ∧ Fr (fun _ => False) w1 wx))
  case first =>
    go_region_with_o (first | (with_reducible refine HTD.out.mono ?_; rintro e v2 ⟨rfl, g1, g4, g2, g3, HV2, hbx⟩; clear hbx) | (with_reducible refine HTA.out.mono ?_; rintro e v2 ⟨rfl, g1, g4, g2, g3, HV2, hbx⟩; simp only [true_implies, forall_const] at hbx))
    all_goals (go_wp2_with fail; go_meet; case rel => first
      | exact ⟨_, rfl, rfl, by have := HV2.out.size; have := HX.out.2.2; omega, heap_alloc_new v2 _, (HX.out.1 _ (HV2.out.alloc _)).2.2, HV2.out.alloc _⟩
      | exact ⟨_, rfl, rfl, by have := HX.out.2.2; omega, set3P hbx.2.2.2.2.2.2.out, (HX.out.1 _ (fr3P HV2.out)).2.2, fr3P HV2.out⟩)
  case rest =>
  obtain ⟨E, rfl, rfl, HC⟩ := hcut
  clear a1 a2 b1 b2 HTD HTA
  have e0 := blk_cell HC.out.2.1 0
  have e1 := blk_cell HC.out.2.1 1
  have e2 := blk_cell HC.out.2.1 2
  have n0 := blk_cell HC.out.2.2.1 0
  have n1 := blk_cell HC.out.2.2.1 1
  have n2 := blk_cell HC.out.2.2.1 2
  have d0 := blk_free HC.out.2.2.1 0
  have d1 := blk_free HC.out.2.2.1 1
  have d2 := blk_free HC.out.2.2.1 2
  go_wp2_with fail
  (try simp only [Exit.inBlock, Exit.then])
  have r3 := set3P (x := .string z.name) (y := .string (bs z.fold)) (u := .pointer (adP z.thing)) HC.out.2.2.1
  refine bodyPost_ret (res_entP rfl rfl (Tryz.isAgg134 _) (Tryz.sizeOf134 _) (blk_cell r3 0) (blk_cell r3 1) (blk_cell r3 2)) rfl ?_
  have h0 := (HX.out.2.1.trans HC.out.2.2.2).below (Nat.le_refl _) (fun _ _ e => e.elim)
  have hN := HX.out.2.2.2
  exact ⟨rfl, ((h0.setCell (by rw [hN]; exact Nat.le_refl _) _).setCell (by rw [hN]; exact Nat.le_refl _) _).setCell (by rw [hN]; exact Nat.le_refl _) _⟩
theorem bok_find_nilP (name : ByteArray) (w : World) : Calls Tryz.prog 73 #[.pointer none, .string name] w fun e w' => e = .returned (.tuple #[valEP zeroEP, .bool false]) ∧ Below w.heap.size w w' := by
  obtain ⟨N, hN⟩ : ∃ N, w.heap.size = N := ⟨_, rfl⟩
  obtain ⟨w1, hw1⟩ : ∃ w1, w.alloc (Obj.cells #[.string ⟨#[]⟩, .string ⟨#[]⟩, .pointer none] 134) = w1 := ⟨_, rfl⟩
  have b1 : Below w.heap.size w w1 := by rw [← hw1]; exact (Below.refl _ w).alloc (Nat.le_refl _) _
  have k1 : w1.heap[N]? = some (.cells #[.string ⟨#[]⟩, .string ⟨#[]⟩, .pointer none] 134 (0, 0)) := by rw [← hw1, ← hN]; exact heap_alloc_new w _
  have c0 := blk_cell k1 0
  have c1 := blk_cell k1 1
  have c2 := blk_cell k1 2
  have d0 := blk_free k1 0
  have d1 := blk_free k1 1
  have d2 := blk_free k1 2
  have H1 := Lib.hid (And.intro b1 k1)
  clear b1 k1
  unfold valEP thVP zeroEP
  go_enter Tryz.func73, Tryz.ntmps73
  go_wp2_with fail
  (try simp only [Exit.inBlock, Exit.then])
  have r3 := set3P (x := .string ⟨#[]⟩) (y := .string ⟨#[]⟩) (u := .pointer none) H1.out.2
  refine bodyPost_ret (res_entP rfl rfl (Tryz.isAgg134 _) (Tryz.sizeOf134 _) (blk_cell r3 0) (blk_cell r3 1) (blk_cell r3 2)) rfl ?_
  exact ⟨rfl, by have h0 := H1.out.1; exact ((h0.setCell (by rw [hN]; exact Nat.le_refl _) _).setCell (by rw [hN]; exact Nat.le_refl _) _).setCell (by rw [hN]; exact Nat.le_refl _) _⟩
set_option maxHeartbeats 1000000 in
theorem bok_getP {base : Nat} {w : World} {t b : Nat} {most : Int} {T : List (KeyB × Ent VP)} (h : BokP base w t b most T) {name : ByteArray} (hs : name.size ≤ 1000000) :
    Calls Tryz.prog 53 #[.pointer (some ⟨t, 0, none⟩), .string name] w fun e w' => e = .returned (.tuple #[thVP ((lookM T (foldL name.data.toList)).getD zeroEP).thing, .bool (lookM T (foldL name.data.toList)).isSome]) ∧ Below w.heap.size w w' := by
  have HF := Lib.hid (bok_findP h hs)
  clear h
  obtain ⟨z, hz⟩ : ∃ z, (lookM T (foldL name.data.toList)).getD zeroEP = z := ⟨_, rfl⟩
  obtain ⟨i, hi⟩ : ∃ i, (lookM T (foldL name.data.toList)).isSome = i := ⟨_, rfl⟩
  unfold FindPP at HF
  rw [hz, hi] at HF ⊢
  unfold valEP thVP at *
  clear hz hi
  go_enter Tryz.func53, Tryz.ntmps53
  go_wp2_with fail
  refine HF.out.mono ?_
  rintro e w1 ⟨rfl, b1⟩
  have B1 := Lib.hid b1
  clear b1 HF
  go_wp2_with fail
  go_ret2
  exact ⟨rfl, B1.out.alloc (by have := B1.out.size; omega) _⟩
theorem bok_get_nilP (name : ByteArray) (w : World) : Calls Tryz.prog 53 #[.pointer none, .string name] w fun e w' => e = .returned (.tuple #[thVP zeroEP.thing, .bool false]) ∧ Below w.heap.size w w' := by
  have HF := Lib.hid (bok_find_nilP name w)
  unfold valEP thVP zeroEP at *
  go_enter Tryz.func53, Tryz.ntmps53
  go_wp2_with fail
  refine HF.out.mono ?_
  rintro e w1 ⟨rfl, b1⟩
  have B1 := Lib.hid b1
  clear b1 HF
  go_wp2_with fail
  go_ret2
  exact ⟨rfl, B1.out.alloc (by have := B1.out.size; omega) _⟩


set_option maxRecDepth 100000 in
set_option maxHeartbeats 2000000 in
theorem bok_delP {base : Nat} {w : World} {t b : Nat} {most : Int} {T : List (KeyB × Ent VP)} (h : BokP base w t b most T) {name : ByteArray} (hs : name.size ≤ 1000000) :
    Calls Tryz.prog 42 #[.pointer (some ⟨t, 0, none⟩), .string name] w fun e w' => e = .returned (.bool (lookM T (foldL name.data.toList)).isSome) ∧ BokP base w' t b most (delM T (foldL name.data.toList)) ∧ Fr (fun j => j = b) w w' := by
  have HF := Lib.hid (bok_findP h hs)
  have HH := Lib.hid h
  clear h
  obtain ⟨k, hk⟩ : ∃ k, foldL name.data.toList = k := ⟨_, rfl⟩
  have hok : OkKB k := by rw [← hk]; exact fold_ok name hs
  rw [hk] at HF ⊢
  clear hk
  obtain ⟨z, hz⟩ : ∃ z, (lookM T k).getD zeroEP = z := ⟨_, rfl⟩
  obtain ⟨i, hi⟩ : ∃ i, (lookM T k).isSome = i := ⟨_, rfl⟩
  unfold FindPP at HF
  rw [hz, hi] at HF
  rw [hi]
  have HZ := Lib.hid (And.intro hz (And.intro hi hok))
  clear hz hi hok
  unfold valEP thVP at *
  go_enter Tryz.func42, Tryz.ntmps42
  go_wp2_with fail
  refine HF.out.mono ?_
  rintro e w1 ⟨rfl, b1⟩
  have h1 := bokP_below HH.out b1
  have f1 : Fr (fun _ => False) w w1 := Fr.of_below b1
  have H1 := Lib.hid (And.intro h1 f1)
  clear b1 HF h1 f1
  cases i with
  | false =>
    go_wp2_with fail
    go_ret
    refine ⟨rfl, ?_, (H1.out.2.mono fun _ _ e => e.elim).alloc _⟩
    rw [lookM_none HZ.out.2.1]
    exact bokP_fr HH.out (H1.out.2.alloc _) (fun e => e) fun e => e
  | true =>
    obtain ⟨Z, hZ⟩ : ∃ Z, Obj.cells #[.string z.name, .string (bs z.fold), .pointer (adP z.thing)] 134 = Z := ⟨_, rfl⟩
    obtain ⟨w2, hw2⟩ : ∃ w2, w1.alloc (Obj.cells #[.string z.name, .string (bs z.fold), .pointer (adP z.thing)] 134) = w2 := ⟨_, rfl⟩
    obtain ⟨E, hE⟩ : ∃ E, w1.heap.size = E := ⟨_, rfl⟩
    have f2 : Fr (fun _ => False) w w2 := by rw [← hw2]; exact H1.out.2.alloc _
    have k2 : w2.heap[E]? = some (.cells #[.string z.name, .string (bs z.fold), .pointer (adP z.thing)] 134 (0, 0)) := by rw [← hw2, ← hE]; exact heap_alloc_new w1 _
    have h2 := bokP_fr HH.out f2 (fun e => e) fun e => e
    have c1 := blk_cell h2.2.2.2.1 1
    have c2 := blk_cell k2 1
    have hzk : z.fold = k := by
      have h3 := h2.2.2.2.2
      obtain ⟨D, _, _, a7⟩ := h3
      have hz := HZ.out.1
      cases hl : lookM T k with
      | none => have := HZ.out.2.1; rw [hl] at this; cases this
      | some v =>
        rw [hl] at hz
        obtain rfl : v = z := hz
        exact (a7 _ (lookM_in hl)).2.1
    rw [hzk] at c2 hw2
    have H2 := Lib.hid f2
    clear f2 k2 h2 hZ Z
    have done : ∃ w', (Builtin.delete_ #[118, 9] 0 #[.map (some b), .string (bs k)]).run Tryz.prog w2.drew = .ok (.tuple #[]) w' ∧ Hid (BokP base w' t b most (delM T k) ∧ Fr (fun j => j = b) w w') := by
      have f3 : Fr (fun _ => False) w w2.drew := H2.out.drew
      have h3 := bokP_fr HH.out f3 (fun e => e) fun e => e
      obtain ⟨a1, a2, a3, a4, D, a5, a6, a7⟩ := h3
      obtain ⟨w', u1, u2, u3⟩ := a5.drop keyedB Tryz.underlying118 (keyOfB HZ.out.2.2) 0
      have hf : Fr (fun j => j = b) w2.drew w' := (Fr.refl _ _).grown u3.grown fun j e => by cases e; exact .inr rfl
      have h6 := a6.del kLB_inj (a5.tidy keyedB) k
      exact ⟨w', u1, ⟨a1, a2, a3, hf.blk a4 a3, _, by rw [← h6.size]; exact ownsB_tight u2, h6, okTPB_del a7 k⟩, (f3.mono fun _ _ e => e.elim).trans hf⟩
    obtain ⟨w', u1, hW⟩ := done
    have c3 : w2.drew.cell? ⟨t, 1, none⟩ = _ := c1
    have c4 : w2.drew.cell? ⟨E, 1, none⟩ = _ := c2
    go_upto_region 3 with fail
    (try rw [hw2])
    (try rw [hE])
    clear hw2 hE
    have mixed : (Tryz.prog).follows Departure.mixedOrders = true := by kernel_rfl
    go_region_with_o (fail)
    all_goals go_wp2_with fail
    all_goals go_ret
    all_goals
    exact ⟨rfl, hW.out.1, hW.out.2⟩
theorem bok_del_nilP (name : ByteArray) (w : World) : Calls Tryz.prog 42 #[.pointer none, .string name] w fun e w' => e = .returned (.bool false) ∧ Below w.heap.size w w' := by
  have HF := Lib.hid (bok_find_nilP name w)
  unfold valEP thVP zeroEP at *
  go_enter Tryz.func42, Tryz.ntmps42
  go_wp2_with fail
  refine HF.out.mono ?_
  rintro e w1 ⟨rfl, b1⟩
  have B1 := Lib.hid b1
  clear b1 HF
  go_wp2_with fail
  go_ret
  exact ⟨rfl, B1.out.alloc (by have := B1.out.size; omega) _⟩
end Go.Proofs.YtlkeomcillencaaGreat
end
section
/- Rows of structs of the call's own, and slices.SortFunc: the words of the sort's kit and of what is owned. -/
namespace Go.Proofs.YtlkeomcillencaaGreat
open Go Go.RowKit Go.Sort

section
variable {α : Type} [Inhabited α] (enc : α → List Value) (k : Nat)
theorem flatMap_get (hk : ∀ x, (enc x).length = k) (hk0 : 0 < k) : ∀ (xs : List α) (t : Nat), t < xs.length * k → (xs.flatMap enc)[t]? = (enc (xs.getD (t / k) default))[t % k]?
  | [], t, h => by simp at h
  | x :: r, t, h => by
    rw [List.flatMap_cons]
    by_cases ht : t < k
    · rw [List.getElem?_append_left (by rw [hk]; exact ht), Nat.div_eq_of_lt ht, Nat.mod_eq_of_lt ht]; rfl
    · rw [List.getElem?_append_right (by rw [hk]; omega), hk, flatMap_get hk hk0 r (t - k) (by rw [List.length_cons, Nat.add_mul, Nat.one_mul] at h; omega)]
      obtain ⟨u, rfl⟩ : ∃ u, t = u + k := ⟨t - k, by omega⟩
      rw [Nat.add_sub_cancel, Nat.add_div_right _ hk0, Nat.add_mod_right]; rfl
theorem flatK_list (hk : ∀ x, (enc x).length = k) (hk0 : 0 < k) (xs : List α) : (flatK enc k xs.toArray).toList = xs.flatMap enc := by
  have hl : (xs.flatMap enc).length = xs.length * k := by
    induction xs with
    | nil => simp
    | cons x r ih => rw [List.flatMap_cons, List.length_append, hk, ih, List.length_cons, Nat.add_mul, Nat.one_mul, Nat.add_comm]
  apply List.ext_getElem?
  intro t
  by_cases ht : t < xs.length * k
  · rw [flatMap_get enc k hk hk0 xs t ht]
    have h2 : t / k < xs.length := Nat.div_lt_of_lt_mul (by rwa [Nat.mul_comm])
    have h3 : t % k < (enc xs[t / k]).length := by rw [hk]; exact Nat.mod_lt _ hk0
    have e1 : xs.getD (t / k) default = xs[t / k] := by simp [List.getD, h2]
    rw [e1, List.getElem?_eq_getElem h3, Array.getElem?_toList]
    have h4 : t < (flatK enc k xs.toArray).size := by rw [size_flatK]; simpa using ht
    rw [Array.getElem?_eq_getElem h4]
    have h5 := get_flatK enc k xs.toArray t (by simpa using ht)
    rw [getElem!_pos (flatK enc k xs.toArray) t h4] at h5
    rw [h5]
    have e2 : xs.toArray[t / k]! = xs[t / k] := by simp [h2]
    rw [e2, getElem!_pos (enc xs[t / k]) (t % k) h3]
  · rw [List.getElem?_eq_none (by rw [Array.length_toList, size_flatK]; simp; omega), List.getElem?_eq_none (by omega)]
end
theorem holds_flat {w : World} {g : Nat} {cur F : Array Value} {e : TypeId} (hb : w.heap[g]? = some (.cells cur e (0, 0))) (ht : cur.toList.take F.size = F.toList) : Holds id w g 0 F := by
  intro j hj
  refine ⟨?_, by simp [World.frozen?, hb]⟩
  have h1 : (cur.toList.take F.size)[j]? = F.toList[j]? := by rw [ht]
  rw [List.getElem?_take_of_lt hj] at h1
  simp only [World.cell?, hb, Nat.zero_add]
  simp only [Option.isSome_none, Bool.false_eq_true, if_false]
  rw [← Array.getElem?_toList, h1]
  simp [hj]
theorem heap_flat {w : World} {g n : Nat} {os : Array Obj} {cur : Array Value} {e : TypeId} {fr : Nat × Nat} (F : Array Value) (hb : w.heap[g]? = some (.cells cur e fr)) :
    (grow (putRow id (Sort.ahead w n) g 0 F) os).heap[g]? = some (.cells (putCells id 0 F cur) e fr) := by
  have hg : g < w.heap.size := (Array.getElem?_eq_some_iff.1 hb).1
  rw [heap_grow_old _ _ (by simpa using hg)]
  simp [putRow, mapBlock, Sort.ahead, Array.getElem?_modify, hb, onCells]
theorem grown_flat {w : World} {g n : Nat} {os : Array Obj} (F : Array Value) : w.grownBy (grow (putRow id (Sort.ahead w n) g 0 F) os) (some g) := by
  refine ⟨rfl, rfl, rfl, by simp, fun k hk hne => ?_⟩
  rw [heap_grow_old _ _ (by simpa using hk)]
  have : g ≠ k := fun e => hne (by rw [e])
  simp [putRow, mapBlock, Sort.ahead, Array.getElem?_modify, this]
theorem take_flat (cur F : Array Value) (h : F.size ≤ cur.size) : (putCells id 0 F cur).toList.take F.size = F.toList := by
  apply List.ext_getElem?
  intro j
  by_cases hj : j < F.size
  · rw [List.getElem?_take_of_lt hj, Array.getElem?_toList]
    simp [putCells, hj, show j < cur.size by omega]
  · rw [List.getElem?_take_eq_none (by omega), List.getElem?_eq_none (by simp; omega)]
/-- slices.SortFunc at a row of structs of the call's own -/
theorem sort_row {α : Type} [Inhabited α] {P : Program} {f : Nat} {e : TypeId} (enc : α → List Value) (k : Nat) (hk : ∀ x, (enc x).length = k) (hk0 : 0 < k) (srt : List α → List α) (hsl : ∀ l, (srt l).length = l.length) (fv : Value)
    (hsort : ∀ (g cap : Nat) (d : Array α) (w : World), HoldsK enc k w g 0 d → g < w.heap.size → d.size < 4611686018427387904 → Calls P f #[.slice (some ⟨g, 0, none⟩) d.size cap, fv] w fun e w' => e = .returned (.tuple #[]) ∧ ∃ n os, w' = sortWorldK enc k w g 0 n (srt d.toList).toArray os)
    (hnone : ∀ w, Calls P f #[.slice none 0 0, fv] w fun e w' => e = .returned (.tuple #[]) ∧ w' = w)
    {base : Nat} {w : World} {v : Value} {xs : List α} (h : w.ownsRow base e k v xs.length (xs.flatMap enc)) (hl : xs.length ≤ 1000000) :
    Calls P f #[v, fv] w fun e' w' => e' = .returned (.tuple #[]) ∧ w'.ownsRow base e k v xs.length ((srt xs).flatMap enc) ∧ Fr (fun j => v.ownBlock = some j) w w' := by
  rcases h.2 with ⟨rfl, h0⟩ | ⟨g, cap, cur, rfl, hb, hg, hn, hm, hs, ht⟩
  · obtain rfl : xs = [] := List.length_eq_zero_iff.1 h0
    refine (hnone w).mono ?_
    rintro e' w' ⟨rfl, rfl⟩
    have : srt [] = [] := List.length_eq_zero_iff.1 (hsl [])
    exact ⟨rfl, by rw [this]; exact h, Fr.refl _ _⟩
  · have hF := flatK_list enc k hk hk0 xs
    have hH : HoldsK enc k w g 0 xs.toArray := by
      unfold HoldsK
      refine holds_flat hg ?_
      rw [size_flatK, hF]
      simpa using ht
    have hc := hsort g cap xs.toArray w hH (blk_lt hg) (by simp; omega)
    rw [List.size_toArray] at hc
    refine hc.mono ?_
    rintro e' w' ⟨rfl, n, os, rfl⟩
    have hF2 := flatK_list enc k hk hk0 (srt xs)
    have hsz : (flatK enc k (srt xs).toArray).size = xs.length * k := by rw [size_flatK]; simp [hsl]
    have hcur : xs.length * k ≤ cur.size := by rw [hs]; exact Nat.mul_le_mul_right k hn
    refine ⟨rfl, ⟨?_, .inr ⟨g, cap, _, rfl, hb, heap_flat _ hg, hn, hm, ?_, ?_⟩⟩, (Fr.refl _ w).grown (grown_flat _) fun j hj => by cases hj; exact .inr rfl⟩
    · rw [← hF2, Array.length_toList, hsz]
    · simp [putCells, hs]
    · have := take_flat cur (flatK enc k (srt xs).toArray) (by rw [hsz]; exact hcur)
      rw [hsz, hF2] at this
      exact this
end Go.Proofs.YtlkeomcillencaaGreat
end
section
/- Layer 2: rows of entries of a book of *rollcall/room.Room; told, as a function that tells a known row. -/
namespace Go.Proofs.YtlkeomcillencaaGreat
open Go Go.RowKit Go.Maps Go.Sort Go.Shelf Go.Lib
attribute [local go_sem] Oper.semAt_some

theorem Tryz.infoEP : (Tryz.prog.info? 134).map (fun i => (i.zero, i.size, i.bytes)) = some (some (valEP zeroEP), 3, 40) := by kernel_rfl
instance : Inhabited (Ent VP) := ⟨zeroEP⟩
def encEP (e : Ent VP) : List Value := [.string e.name, .string (bs e.fold), thVP e.thing]
def encPP (e : Ent VP) : Array Value := #[.string e.name, thVP e.thing]
/-- a row of entries of the call's own -/
def OwnEP (base : Nat) (W : World) (v : Value) (xs : List (Ent VP)) : Prop := W.ownsRow base 134 3 v xs.length (xs.flatMap encEP)
theorem ownEP_nil (base : Nat) (w : World) : OwnEP base w (.slice none 0 0) [] := World.ownsRow_nil _ _ _ _
theorem ownEP_kept {base : Nat} {w W : World} {v : Value} {xs : List (Ent VP)} (h : OwnEP base w v xs) (hs : ∀ g, v.ownBlock = some g → W.heap[g]? = w.heap[g]?) : OwnEP base W v xs := row_same h hs
theorem ownEP_snoc {base : Nat} {w : World} {v : Value} {xs : List (Ent VP)} {x : Ent VP} (h : w.ownsRow base 134 3 v (xs.length + 1) (xs.flatMap encEP ++ encEP x)) : OwnEP base w v (xs ++ [x]) := by
  unfold OwnEP; rw [List.length_append, List.flatMap_append]; simpa using h
theorem ownEP_base {W : World} {base base' : Nat} {v : Value} {xs : List (Ent VP)} (h : OwnEP base W v xs) (hb : base' ≤ base) : OwnEP base' W v xs := by
  obtain ⟨h1, h2⟩ := h
  refine ⟨h1, ?_⟩
  rcases h2 with h2 | ⟨g, cap, cur, h3, h4, h5⟩
  · exact .inl h2
  · exact .inr ⟨g, cap, cur, h3, by omega, h5⟩
def ReadsEP (w : World) (A : Option Addr) (xs : List (Ent VP)) : Prop := 0 < xs.length → ∃ g o, A = some ⟨g, o, none⟩ ∧ g < w.heap.size ∧ ∀ j (h : j < xs.length), w.cell? ⟨g, o + j * 3, none⟩ = some (.string xs[j].name) ∧ w.cell? ⟨g, o + j * 3 + 1, none⟩ = some (.string (bs xs[j].fold)) ∧ w.cell? ⟨g, o + j * 3 + 2, none⟩ = some (thVP xs[j].thing)
theorem reads_ownEP {base : Nat} {w : World} {A : Option Addr} {n c : Nat} {xs : List (Ent VP)} (h : OwnEP base w (.slice A n c) xs) : ReadsEP w A xs := fun h0 => by
  have h' := h
  rcases h.2 with ⟨h1, h2⟩ | ⟨g, cap, cur, h1, h3, h4, h5, _, h6, h7⟩
  · omega
  · injection h1 with q1 q2 q3
    subst q1
    have hadd : ∀ j, (⟨g, 0, none⟩ : Addr).add j = ⟨g, 0 + j, none⟩ := fun j => by
      unfold Addr.add
      split
      · simp_all
      · rfl
    have key : ∀ t u, (xs.flatMap encEP)[t]? = some u → w.cell? ⟨g, 0 + t, none⟩ = some u := fun t u ht => by
      have := h'.cells (g := g) rfl t u ht
      rwa [hadd] at this
    have one : ∀ j (hj : j < xs.length) i (hi : i < 3) u, (encEP xs[j])[i]? = some u → w.cell? ⟨g, 0 + j * 3 + i, none⟩ = some u := fun j hj i hi u hu => by
      rw [Nat.add_assoc]
      refine key _ _ ?_
      rw [flatMap_get encEP 3 (fun _ => rfl) (by decide) xs (j * 3 + i) (by omega), show (j * 3 + i) / 3 = j by omega, show (j * 3 + i) % 3 = i by omega]
      simpa [List.getD, hj] using hu
    exact ⟨g, 0, rfl, blk_lt h4, fun j hj => ⟨one j hj 0 (by decide) _ rfl, one j hj 1 (by decide) _ rfl, one j hj 2 (by decide) _ rfl⟩⟩
def rowYEP (B : Nat) (v : Value) : Nat → Prop := fun b => b = B ∨ v.ownBlock = some b
set_option maxRecDepth 100000 in
set_option maxHeartbeats 4000000 in
theorem told_seqP (base B : Nat) (v : Value) (xs : List (Ent VP)) (w : World) (hxs : xs.length ≤ 1000000) (hb : w.heap[B]? = some (.cells #[v] 143 (0, 0))) (hr : OwnEP base w v xs) :
    SeqF Tryz.prog 109 #[.pointer (some ⟨B, 0, none⟩)] encPP (rowYEP B v) xs w := fun l J Jx X V hs hYl hX hJ hJx hY h0 => by
  have hbV := (hs B (.inl rfl)).trans hb
  have hrV : OwnEP base V v xs := ownEP_kept hr fun g hg => hs g (.inr hg)
  obtain ⟨A, c, rfl⟩ := row_slice hr
  have c0 : V.cell? ⟨B, 0, none⟩ = some (.slice A xs.length c) := (blk_cell hbV 0).trans rfl
  have HR := Lib.hid (reads_ownEP hrV)
  have HO := Lib.hid hrV
  have HY := Lib.hid hY
  have HX := Lib.hid hX
  have HJ := Lib.hid hJ
  have h00 : Hid (∃ X1, GrowX X X1 V V ∧ Fr X V V ∧ J [] X1 V) := ⟨X, GrowX.refl fun k hk => (hX k hk).1, Fr.refl _ _, h0⟩
  clear hb hr hs hrV hbV hY hX h0 hJ hJx hYl
  refine (callsIn_wide (n := 20)).1 ?_
  refine callsIn_of_wp Tryz.func109 rfl trivial ?_ rfl
  simp only [Tryz.ntmps109, List.size_toArray, List.length_cons, List.length_nil, Nat.reduceAdd, Nat.reduceSub, Array.replicate_succ, Array.replicate_zero, List.push_toArray, List.append_toArray, List.nil_append, List.cons_append]
  gi_wp2
  gi_loopw [4, 7] (fun _ c1 wr => ∃ k : Nat, c1 = .int .i64 k ∧ k ≤ xs.length ∧ Hid (∃ X1, GrowX X X1 V wr ∧ Fr X V wr ∧ J (xs.take k) X1 wr)) (fun _ c1 _ => xs.length - (RowKit.intOf c1).toNat)
  case atStart => exact ⟨0, rfl, Nat.zero_le _, h00⟩
  case round =>
    obtain ⟨k, rfl, hk, HJ2⟩ := hrel
    clear h00
    obtain ⟨X1, hg1, hf1, hj1⟩ := HJ2.out
    by_cases hlt : k < xs.length
    · obtain ⟨g, o, rfl, hg, hcell⟩ := HR.out (by omega)
      obtain ⟨e, hx⟩ : ∃ e, xs[k] = e := ⟨_, rfl⟩
      have hgY : rowYEP B (.slice (some ⟨g, o, none⟩) xs.length c) g := by
        rcases HO.out.2 with ⟨e, _⟩ | ⟨g2, cap, cur, e, _⟩
        · cases e
        · cases e; exact .inr rfl
      have hnx : ¬ X g := fun e => (HX.out g e).2 hgY
      obtain ⟨q0, q1, q2⟩ := hcell k hlt
      rw [hx] at q0 q1 q2
      have e0 : wr.cell? ⟨g, o + k * 3, none⟩ = some (.string e.name) := (hf1.cell (p := ⟨g, o + k * 3, none⟩) hg hnx).trans q0
      have e1 : wr.cell? ⟨g, o + k * 3 + 1, none⟩ = some (.string (bs e.fold)) := (hf1.cell (p := ⟨g, o + k * 3 + 1, none⟩) hg hnx).trans q1
      have e2 : wr.cell? ⟨g, o + k * 3 + 2, none⟩ = some (thVP e.thing) := (hf1.cell (p := ⟨g, o + k * 3 + 2, none⟩) hg hnx).trans q2
      have hsp : xs.take k ++ e :: xs.drop (k + 1) = xs := by rw [← hx, ← List.drop_eq_getElem_cons hlt]; exact List.take_append_drop k xs
      have htk : xs.take (k + 1) = xs.take k ++ [e] := by rw [List.take_succ_eq_append_getElem hlt, hx]
      obtain ⟨wa, hwa⟩ : ∃ wa, wr.alloc (Obj.cells #[.string e.name, .string (bs e.fold), thVP e.thing] 134) = wa := ⟨_, rfl⟩
      have ka : wa.heap[wr.heap.size]? = some (.cells #[.string e.name, .string (bs e.fold), thVP e.thing] 134 (0, 0)) := by rw [← hwa]; exact heap_alloc_new _ _
      have c5 := blk_cell ka 0
      have c6 := blk_cell ka 2
      have fa : Fr (fun _ => False) wr wa := by rw [← hwa]; exact (Fr.refl _ wr).alloc _
      have hg2 : GrowX X X1 V wa := fun j hj => ⟨Nat.lt_of_lt_of_le (hg1 j hj).1 fa.size, (hg1 j hj).2⟩
      have hf2 : Fr X V wa := hf1.trans3 fa fun _ _ e => e.elim
      have hyy := HY.out (xs.take k) e (xs.drop (k + 1)) X1 wa hsp hg2 (HJ.out.fr hj1 (fun j hj => (hg1 j hj).1) fa fun _ e => e.elim) hf2
      obtain ⟨fn, tmps, assign, body, hy, hR⟩ := hyy
      dsimp only [encPP] at hy
      have HT := Lib.hid (And.intro htk (And.intro hsp (And.intro hg2 hf2)))
      have HW := Lib.hid hwa
      clear hx htk hsp hg hcell hg1 hf1 hj1 hgY hnx fa hg2 hf2 hwa ka q0 q1 q2
      unfold thVP at *
      gi_wp2_with (rw [HW.out])
      refine (round_wide (.inl rfl) hR).mono ?_
      rintro e W3 ⟨X2, g2, f2, (⟨rfl, hJ3⟩ | ⟨rfl, hJx3⟩)⟩
      · obtain ⟨htk, hsp, hg1, hf1⟩ := HT.out
        have hN : Hid (∃ X1, GrowX X X1 V W3 ∧ Fr X V W3 ∧ J (xs.take (k + 1)) X1 W3) := ⟨X2, hg1.trans g2 hf1.size, hf1.trans3 f2 fun k hk e => (hg1 k e).2 hk, by rw [htk]; exact hJ3⟩
        clear htk hsp hg1 hf1 g2 f2 hJ3 hR hy
        gi_wp2_with fail
        go_roundw
        case rel => exact ⟨k + 1, by go_num, by omega, hN⟩
        case measure => simp [RowKit.intOf]; omega
      · clear hR hy
        gi_wp2_with fail
        refine bodyPost_ret (results_none rfl _ _ _) rfl ?_
        obtain ⟨htk, hsp, hg1, hf1⟩ := HT.out
        exact ⟨⟨_, rfl⟩, X2, hg1.trans g2 hf1.size, hf1.trans3 f2 fun k hk e => (hg1 k e).2 hk, .inr ⟨_, xs.drop (k + 1), by simpa using hsp, hJx3⟩⟩
    · obtain rfl : k = xs.length := by omega
      rw [List.take_length] at hj1
      have HQ := Lib.hid (And.intro hg1 (And.intro hf1 hj1))
      clear hg1 hf1 hj1
      gi_wp2_with fail
      go_end0
      obtain ⟨hg1, hf1, hj1⟩ := HQ.out
      exact ⟨⟨_, rfl⟩, X1, hg1, hf1, .inl hj1⟩
/-- what tells xs: a tale, its box, the row in it -/
def TaleEP (base : Nat) (w : World) (F : Value) (xs : List (Ent VP)) : Prop := ∃ B v, base ≤ B ∧ F = .func (.func 109) #[] #[.pointer (some ⟨B, 0, none⟩)] ∧ w.heap[B]? = some (.cells #[v] 143 (0, 0)) ∧ v.ownBlock ≠ some B ∧ OwnEP base w v xs
theorem taleEP_tells {base : Nat} {w : World} {F : Value} {xs : List (Ent VP)} (h : TaleEP base w F xs) (hl : xs.length ≤ 1000000) : ∃ Y, (∀ b, Y b → base ≤ b) ∧ TellsF Tryz.prog encPP w F Y xs := by
  obtain ⟨B, v, h1, rfl, h3, h4, h5⟩ := h
  refine ⟨rowYEP B v, fun b hb => ?_, _, _, rfl, told_seqP base B v xs w hl h3 h5, fun b hb => ?_, enters_of Tryz.func109 (by kernel_rfl) rfl⟩
  · rcases hb with rfl | hb
    · exact h1
    · exact (h5.lt b hb).1
  · rcases hb with rfl | hb
    · exact blk_lt h3
    · exact (h5.lt b hb).2
theorem taleEP_fr {base : Nat} {w W : World} {F : Value} {xs : List (Ent VP)} {X : Nat → Prop} (h : TaleEP base w F xs) (hf : Fr X w W) (hx : ∀ k, base ≤ k → k < w.heap.size → ¬ X k) : TaleEP base W F xs := by
  obtain ⟨B, v, h1, h2, h3, h4, h5⟩ := h
  exact ⟨B, v, h1, h2, hf.blk h3 (hx B h1 (blk_lt h3)), h4, ownEP_kept h5 fun g hg => hf.block g (h5.lt g hg).2 (hx g (h5.lt g hg).1 (h5.lt g hg).2)⟩
/-- told, of a row that the caller owns -/
theorem told_ofP {base : Nat} {w : World} {A : Option Addr} {c : Nat} {xs : List (Ent VP)} (h : OwnEP base w (.slice A xs.length c) xs) (hb : base ≤ w.heap.size) : Calls Tryz.prog 82 #[.slice A xs.length c] w fun e w' => (∃ F, e = .returned F ∧ TaleEP base w' F xs) ∧ Fr (fun _ => False) w w' := by
  have H := Lib.hid h
  clear h
  obtain ⟨n, hn⟩ : ∃ n, xs.length = n := ⟨_, rfl⟩
  rw [hn] at H ⊢
  go_enter Tryz.func82, Tryz.ntmps82
  go_wp2_with fail
  go_ret
  have hk := heap_alloc_new w (Obj.cells #[Value.slice A n c] 143)
  have hf : Fr (fun _ => False) w (w.alloc (Obj.cells #[Value.slice A n c] 143)) := (Fr.refl _ w).alloc _
  refine ⟨⟨_, rfl, w.heap.size, _, hb, rfl, hk, fun e => ?_, ownEP_kept H.out fun g hg => hf.block g (H.out.lt g hg).2 fun e => e⟩, hf⟩
  have := (H.out.lt _ e).2; omega
end Go.Proofs.YtlkeomcillencaaGreat
end
section
/- Layer 2: maps.Values of a book of *rollcall/room.Room, as a function that tells the entries in whatever order. -/
namespace Go.Proofs.YtlkeomcillencaaGreat
open Go Go.RowKit Go.Maps Go.Sort
attribute [local go_sem] Oper.semAt_some

def encVP (p : KeyB × Ent VP) : Array Value := #[valEP p.2]
theorem keyOf_invHP {key : Value} {kl : Lit} (h : keyOf Tryz.prog 9 key = some kl) : ∃ x, key = kVB x ∧ kl = kLB x ∧ OkKB x := by
  obtain ⟨x, h1, h2, h3⟩ := Maps.keyOf_str Tryz.underlying9 h
  exact ⟨x, h1, h2, h3⟩
theorem kVB_injP {a b : KeyB} (h : kVB a = kVB b) : a = b := by
  simp only [kVB, Value.string.injEq] at h
  exact bs_inj h
theorem ranges_sameP {H : Type} {P : Program} {k : TypeId} {R : Value → Option (DataW H × List MemPlace)} {w w' : World} {b r n : Nat} {D : DataW H} {left : Lit → Bool} {cnt : Nat} (h : w.ranges P k R b r n D left cnt) (h1 : w'.heap[b]? = w.heap[b]?) (h2 : w'.heap[r]? = w.heap[r]?) : w'.ranges P k R b r n D left cnt := by
  obtain ⟨es, clock, since, seen, c0, hb, F, hs, hD, hr, rest⟩ := h
  exact ⟨es, clock, since, seen, c0, h1.trans hb, F, hs, hD, h2.trans hr, rest⟩
/-- how far a loop over the map has come -/
def WalkMP (V : World) (X : Nat → Prop) (b r : Nat) (D : DataW Unit) (T : List (KeyB × Ent VP)) (J : List (KeyB × Ent VP) → (Nat → Prop) → World → Prop) (left : Lit → Bool) (cnt : Nat) (pre : List (KeyB × Ent VP)) (wr : World) : Prop :=
  wr.ranges Tryz.prog 9 readEP b r T.length D left cnt ∧ CameM kLB T pre left ∧ ∃ X1, GrowX X X1 V wr ∧ ¬ X1 r ∧ Fr X V wr ∧ J pre X1 wr
set_option maxRecDepth 100000 in
set_option maxHeartbeats 4000000 in
theorem mapval_seqP (Bm b : Nat) (T : List (KeyB × Ent VP)) (w : World) (hb : w.heap[Bm]? = some (.cells #[.map (some b)] 118 (0, 0))) (hm : MapBP w b T) :
    SeqP Tryz.prog 129 #[.pointer (some ⟨Bm, 0, none⟩)] encVP (fun k => k = Bm ∨ k = b) T w := fun l J Jx X V hs hYl hX hJ hJx hY h0 => by
  have hbV := (hs Bm (.inl rfl)).trans hb
  obtain ⟨D, hown, hT, hok⟩ := mapBP_same hm (hs b (.inr rfl))
  have c0 : V.cell? ⟨Bm, 0, none⟩ = some (.map (some b)) := (blk_cell hbV 0).trans rfl
  have hb1 : b < V.heap.size := hown.lt
  have HJ := Lib.hid hJ
  have HY := Lib.hid hY
  have HX := Lib.hid hX
  have HT := Lib.hid (And.intro hT hok)
  have H0 := Lib.hid h0
  clear hb hm hs hbV hY hX h0 hJ hJx hYl hT hok
  refine (callsIn_wide (n := 20)).1 ?_
  refine callsIn_of_wp Tryz.func129 rfl trivial ?_ rfl
  simp only [Tryz.ntmps129, List.size_toArray, List.length_cons, List.length_nil, Nat.reduceAdd, Nat.reduceSub, Array.replicate_succ, Array.replicate_zero, List.push_toArray, List.append_toArray, List.nil_append, List.cons_append]
  gi_wp2_with (first
    | (gi_at_range; refine wpListIn_range_own _ rfl _ 118 rfl 9 134 keyedB Tryz.underlying118 _ b T.length D rfl hown ?_; intro w0 hrg0 hg0 hs0)
    | gi_in)
  try go_frame
  have h00 : Hid (∃ left cnt pre, WalkMP V X b V.heap.size D T J left cnt pre w0) := by
    have f0 : Fr (fun _ => False) V w0 := (Fr.refl _ V).grown hg0 fun j e => by cases e
    have hlt : ∀ k, X k → k < V.heap.size := fun k hk => (HX.out k hk).1
    exact ⟨_, _, [], hrg0, came_start HT.out.1 kLB_inj, X, fun k hk => ⟨Nat.lt_of_lt_of_le (hlt k hk) f0.size, fun _ => hk⟩, fun e => by have := hlt _ e; omega, f0.mono (fun _ _ e => e.elim), HJ.out.fr H0.out hlt f0 fun _ e => e.elim⟩
  clear hrg0 hg0 hs0
  gi_loopw [4] (fun _ wr => Hid (∃ left cnt pre, WalkMP V X b V.heap.size D T J left cnt pre wr)) (fun _ wr => wr.rangeLeft b V.heap.size)
  case atStart => exact h00
  case round =>
    clear h00
    obtain ⟨left, cnt, pre, hrg, hC, X1, hg1, hn1, hf1, hj1⟩ := hrel.out
    have HR := Lib.hid (And.intro hC (And.intro hg1 (And.intro hn1 (And.intro hf1 (And.intro hj1 hrg)))))
    clear hC hg1 hn1 hf1 hj1 hrel
    gi_wp2_with (first
      | (gi_at_next; refine wpListIn_next_ranges _ rfl _ rfl 9 keyedB readEP kVB valEP (fun key kl hk => by obtain ⟨x, hx, _⟩ := keyOf_invHP hk; exact ⟨x, hx⟩) (fun v y hv => by obtain ⟨c, rfl, _⟩ := readEP_inv hv; exact ⟨c, rfl⟩) b V.heap.size T.length _ _ _ rfl hrg ?_ ?_)
      | gi_in)
    · intro hc0 hl0
      have HL := Lib.hid hl0
      clear hl0 hrg
      gi_wp2_with fail
      go_end0
      obtain ⟨hC, hg1, hn1, hf1, hj1, _⟩ := HR.out
      exact ⟨⟨_, rfl⟩, X1, hg1, hf1, .inl ⟨pre, came_end hC HL.out, hj1⟩⟩
    · intro x c kl yd yp w2 cnt2 hkey hlk hv hat hrg2 hlt hg2 hs2 hen
      obtain ⟨x', ex, rfl, hx⟩ := keyOf_invHP hkey
      obtain rfl := kVB_injP ex
      obtain ⟨c', ec, ez⟩ := readEP_inv hv
      obtain rfl : c = c' := valEP_inj ec
      obtain rfl : yd = evEP c := (Prod.mk.inj ez).1
      obtain ⟨hC, hg1, hn1, hf1, hj1, hrg1⟩ := HR.out
      obtain ⟨r, hp, hC2⟩ := came_step HT.out.1 kLB_inj evEP_inj hC (kLB_key x) hlk hat
      have f2 : Fr (fun k => k = V.heap.size) wr w2 := (Fr.refl _ wr).grown hg2 fun j e => by cases e; exact .inr rfl
      have hlt1 : ∀ k, X1 k → k < wr.heap.size := fun k hk => (hg1 k hk).1
      obtain ⟨wa, hwa⟩ : ∃ wa, w2.alloc (Obj.cells #[.string c.name, .string (bs c.fold), .pointer (adP c.thing)] 134) = wa := ⟨_, rfl⟩
      have ka : wa.heap[w2.heap.size]? = some (.cells #[.string c.name, .string (bs c.fold), .pointer (adP c.thing)] 134 (0, 0)) := by rw [← hwa]; exact heap_alloc_new _ _
      have c5 := blk_cell ka 0
      have c6 := blk_cell ka 1
      have c7 := blk_cell ka 2
      have fa : Fr (fun _ => False) w2 wa := by rw [← hwa]; exact (Fr.refl _ w2).alloc _
      have f3 : Fr (fun k => k = V.heap.size) wr wa := f2.trans3 fa fun _ _ e => e.elim
      have hrg3 : wa.ranges Tryz.prog 9 readEP b V.heap.size T.length D _ cnt2 := ranges_sameP hrg2 (fa.block b (Nat.lt_of_lt_of_le hb1 (by have := hf1.size; have := f2.size; omega)) fun e => e) (fa.block _ hrg2.lt fun e => e)
      have hg2' : GrowX X X1 V wa := fun k hk => ⟨Nat.lt_of_lt_of_le (hlt1 k hk) f3.size, (hg1 k hk).2⟩
      have hf2' : Fr X V wa := hf1.trans3 f3 fun k hk e => by omega
      have hyy := HY.out pre (x, c) r X1 wa hp hg2' (HJ.out.fr hj1 hlt1 f3 fun k e => e ▸ hn1) hf2'
      obtain ⟨fn, tmps, assign, body, hy, hR⟩ := hyy
      dsimp only [encVP, valEP, thVP] at hy
      unfold kVB valEP thVP at hen
      unfold kVB valEP thVP
      have HE := Lib.hid (And.intro hC2 (And.intro hp (And.intro hg2' (And.intro hf2' (And.intro hn1 (And.intro hrg3 (And.intro hrg1 hlt)))))))
      have HW := Lib.hid hwa
      clear hs2 hC hg1 hn1 hf1 hj1 hrg1 hC2 hp hg2' hf2' f2 f3 fa ka hlt1 hrg2 hrg3 hlt hkey hlk hv hat ex ec ez hg2 hrg hwa
      gi_wp2_with (rw [HW.out])
      refine (round_wide (.inl rfl) hR).mono ?_
      rintro e W3 ⟨X2, g2, f2, (⟨rfl, hJ3⟩ | ⟨rfl, hJx3⟩)⟩
      · obtain ⟨hC2, hp, hg2', hf2', hn1, hrg2, hrg1, hlt⟩ := HE.out
        have hnb : ¬ X1 b := fun e => (HX.out b ((hg2' b e).2 hb1)).2 (.inr rfl)
        have hrg3 := ranges_sameP hrg2 (f2.block b (Nat.lt_of_lt_of_le hb1 hf2'.size) hnb) (f2.block _ hrg2.lt hn1)
        have hN : Hid (∃ left cnt pre, WalkMP V X b V.heap.size D T J left cnt pre W3) :=
          ⟨_, cnt2, pre ++ [(x, c)], hrg3, hC2, X2, hg2'.trans g2 hf2'.size, fun e => hn1 ((g2 _ e).2 hrg2.lt), hf2'.trans3 f2 fun k hk e => (hg2' k e).2 hk, hJ3⟩
        have hM : Hid (W3.rangeLeft b V.heap.size < wr.rangeLeft b V.heap.size) := by
          show _ < _
          rw [hrg3.left_eq, hrg1.left_eq]; exact hlt
        clear hC2 hp hg2' hf2' hn1 hrg2 hrg1 hlt hnb hrg3 g2 f2 hJ3 hR hy hen
        gi_wp2_with fail
        go_roundw
        case rel => exact hN
        case measure => exact hM.out
      · clear hR hy hen
        gi_wp2_with fail
        refine bodyPost_ret (results_none rfl _ _ _) rfl ?_
        obtain ⟨hC2, hp, hg2', hf2', hn1, hrg2, hrg1, hlt⟩ := HE.out
        exact ⟨⟨_, rfl⟩, X2, hg2'.trans g2 hf2'.size, hf2'.trans3 f2 fun k hk e => (hg2' k e).2 hk, .inr ⟨_, r, by simpa using hp, hJx3⟩⟩
theorem mapval_callP (m : Option Nat) (w : World) : Calls Tryz.prog 110 #[.map m] w fun e w' => e = .returned (.func (.func 129) #[] #[.pointer (some ⟨w.heap.size, 0, none⟩)]) ∧ w' = w.alloc (.cells #[.map m] 118) := by
  go_enter Tryz.func110, Tryz.ntmps110
  go_wp2_with fail
  go_ret
  exact ⟨rfl, rfl⟩
end Go.Proofs.YtlkeomcillencaaGreat
end
section
/- Layer 2: cmp.Compare at string; the order of folded names. -/
namespace Go.Proofs.YtlkeomcillencaaGreat
open Go Go.RowKit Go.Maps Go.Sort Go.Shelf

def cmpS (a b : List UInt8) : Int := if a < b then -1 else if b < a then 1 else 0
theorem nan_str (a : ByteArray) (w : World) : Calls Tryz.prog 132 #[.string a] w fun e w' => e = .returned (.bool false) ∧ w' = w := by
  go_enter Tryz.func132, Tryz.ntmps132
  go_wp2_with fail
  go_ret
  exact ⟨ret_bool (by simp), rfl⟩
theorem cmp_str (a b : List UInt8) (w : World) : Calls Tryz.prog 113 #[.string (bs a), .string (bs b)] w fun e w' => e = .returned (.int .i64 (cmpS a b)) ∧ w' = w := by
  have l1 : ∀ x y : List UInt8, Op.bytesLess (bs x).toList (bs y).toList = decide (x < y) := fun x y => by rw [ByteArray.toList_eq, ByteArray.toList_eq]; exact bytesLess_eq x y
  have l2 := beq_bs a b
  have l1a := l1 a b
  clear l1
  by_cases h : a < b
  · have e1 : cmpS a b = -1 := by unfold cmpS; rw [if_pos h]
    rw [decide_eq_true h] at l1a
    rw [e1]
    clear l2 h e1
    go_enter Tryz.func113, Tryz.ntmps113
    go_wp2_with (go_at_call 132; refine (nan_str _ _).mono ?_; rintro e w' ⟨rfl, rfl⟩)
    go_ret
    exact ⟨rfl, rfl⟩
  · rw [decide_eq_false h] at l1a
    by_cases h2 : a = b
    · have e1 : cmpS a b = 0 := by unfold cmpS; rw [if_neg h, if_neg (by rw [← h2] at h ⊢; exact h)]
      have e2 : ((bs a).toList == (bs b).toList) = true := by rw [l2, h2]; simp
      rw [e1]
      clear l2 h e1 h2
      go_enter Tryz.func113, Tryz.ntmps113
      go_wp2_with (go_at_call 132; refine (nan_str _ _).mono ?_; rintro e w' ⟨rfl, rfl⟩)
      go_ret
      exact ⟨rfl, rfl⟩
    · have h3 : b < a := by
        by_cases h3 : b < a
        · exact h3
        · exact absurd (List.le_antisymm (List.not_lt.1 h3) (List.not_lt.1 h)) h2
      have e1 : cmpS a b = 1 := by unfold cmpS; rw [if_neg h, if_pos h3]
      have e2 : ((bs a).toList == (bs b).toList) = false := by rw [l2]; simpa using h2
      rw [e1]
      clear l2 h e1 h2 h3
      go_enter Tryz.func113, Tryz.ntmps113
      go_wp2_with (go_at_call 132; refine (nan_str _ _).mono ?_; rintro e w' ⟨rfl, rfl⟩)
      go_ret
      exact ⟨rfl, rfl⟩
theorem kirrO (a : KeyB) : ¬ a < a := List.lt_irrefl a
theorem ktrO {a b c : KeyB} (h : a < b) (k : b < c) : a < c := List.lt_trans h k
theorem ktriO (a b : KeyB) : a < b ∨ a = b ∨ b < a := by
  by_cases h : a < b
  · exact .inl h
  · by_cases h2 : b < a
    · exact .inr (.inr h2)
    · exact .inr (.inl (List.le_antisymm (List.not_lt.1 h2) (List.not_lt.1 h)))
theorem cmpO_neg (a b : KeyB) : cmpS a b < 0 ↔ a < b := by
  unfold cmpS
  by_cases h : a < b
  · simp [h]
  · by_cases h2 : b < a <;> simp [h, h2]
theorem ltO (x y : KeyB) : ltOf cmpS x y = decide (x < y) := by
  unfold ltOf
  rw [decide_eq_decide]
  exact cmpO_neg x y
theorem swoO : SWO (ltOf cmpS) where
  irrefl x := by rw [ltO]; simp
  trans x y z h k := by rw [ltO] at *; simp only [decide_eq_true_eq] at *; exact ktrO h k
  ntrans x y z h k := by
    rw [ltO] at *
    simp only [decide_eq_false_iff_not] at *
    intro hz
    rcases ktriO x y with e | rfl | e
    · exact h e
    · exact k hz
    · exact k (ktrO e hz)
theorem totO (x y : KeyB) (h : ltOf cmpS x y = false) (k : ltOf cmpS y x = false) : x = y := by
  rw [ltO] at *
  simp only [decide_eq_false_iff_not] at *
  rcases ktriO x y with e | e | e
  · exact absurd e h
  · exact e
  · exact absurd e k
def sortO (l : List KeyB) : List KeyB := l.mergeSort fun x y => !ltOf cmpS y x
theorem sortO_perm (l : List KeyB) : (sortO l).Perm l := List.mergeSort_perm _ _
theorem sortO_rise {l : List KeyB} (hn : l.Nodup) : (sortO l).Pairwise fun x y => x < y := by
  have h1 : (sortO l).Pairwise fun x y => ¬ y < x := by
    refine (List.pairwise_mergeSort (le := fun x y => !ltOf cmpS y x) ?_ ?_ l).imp ?_
    · intro a b c h k
      simp only [Bool.not_eq_true'] at *
      exact swoO.ntrans _ _ _ k h
    · intro a b
      rw [ltO, ltO]
      by_cases h : b < a
      · have : ¬ a < b := fun k => kirrO _ (ktrO h k)
        simp [h, this]
      · simp [h]
    · intro a b h
      rw [ltO] at h
      simpa using h
  have h2 : (sortO l).Nodup := (sortO_perm l).nodup_iff.2 hn
  exact (h1.and h2).imp fun {a b} ⟨p, q⟩ => by
    rcases ktriO a b with e | e | e
    · exact e
    · exact absurd e q
    · exact absurd e p
end Go.Proofs.YtlkeomcillencaaGreat
end
section
/- Layer 2: rows of entries of a book of *rollcall/room.Room, sorted by folded names. -/
namespace Go.Proofs.YtlkeomcillencaaGreat
open Go Go.RowKit Go.Maps Go.Sort Go.Shelf Go.Lib
attribute [local go_sem] Oper.semAt_some

set_option maxHeartbeats 1000000 in
theorem book_cmpP (a b : Ent VP) (W : World) : Calls Tryz.prog 112 #[.agg (encEP a).toArray, .agg (encEP b).toArray] W fun e w' => e = .returned (.int .i64 (cmpS a.fold b.fold)) ∧ ∃ q os', w' = grow (W.drewN q) os' := by
  obtain ⟨a1, a2, a3⟩ := a
  obtain ⟨b1, b2, b3⟩ := b
  obtain ⟨w2, hw2⟩ : ∃ w2, (W.alloc (Obj.cells #[.string a1, .string (bs a2), .pointer (adP a3)] 134)).alloc (Obj.cells #[.string b1, .string (bs b2), .pointer (adP b3)] 134) = w2 := ⟨_, rfl⟩
  have k1 : w2.heap[W.heap.size]? = some (.cells #[.string a1, .string (bs a2), .pointer (adP a3)] 134 (0, 0)) := by rw [← hw2]; exact blk_alloc (heap_alloc_new W _) _
  have k2 : w2.heap[W.heap.size + 1]? = some (.cells #[.string b1, .string (bs b2), .pointer (adP b3)] 134 (0, 0)) := by
    rw [← hw2]
    have := heap_alloc_new (W.alloc (Obj.cells #[.string a1, .string (bs a2), .pointer (adP a3)] 134)) (Obj.cells #[.string b1, .string (bs b2), .pointer (adP b3)] 134)
    rwa [World.size_alloc] at this
  have c1 := blk_cell k1 1
  have c2 := blk_cell k2 1
  have HW := Lib.hid hw2
  have hg : w2 = grow (W.drewN 0) #[(Obj.cells #[.string a1, .string (bs a2), .pointer (adP a3)] 134), (Obj.cells #[.string b1, .string (bs b2), .pointer (adP b3)] 134)] := by
    rw [← hw2, alloc_eq_grow, alloc_eq_grow, grow_grow]; rfl
  have HG := Lib.hid hg
  clear k1 k2 hw2 hg
  unfold encEP thVP
  go_enter Tryz.func112, Tryz.ntmps112
  go_wp2_with fail
  rw [HW.out]
  refine (cmp_str a2 b2 w2).mono ?_
  rintro e w3 ⟨rfl, rfl⟩
  go_wp2_with fail
  go_ret
  exact ⟨rfl, 0, _, HG.out⟩
/-- what a folded name stands with -/
def withEP (xs : List (Ent VP)) (k : KeyB) : Ent VP := (xs.find? fun e => decide (e.fold = k)).getD ⟨⟨#[]⟩, k, none⟩
theorem withEP_fold (xs : List (Ent VP)) (k : KeyB) : (withEP xs k).fold = k := by
  unfold withEP
  cases h : xs.find? fun e => decide (e.fold = k) with
  | none => rfl
  | some e => simpa using List.find?_some h
theorem withEP_mem {xs : List (Ent VP)} (h : (xs.map (·.fold)).Nodup) {e : Ent VP} (he : e ∈ xs) : withEP xs e.fold = e := by
  unfold withEP
  induction xs with
  | nil => cases he
  | cons a r ih =>
    rw [List.map_cons, List.nodup_cons] at h
    by_cases hk : a.fold = e.fold
    · rcases List.mem_cons.1 he with rfl | he
      · simp
      · exact absurd (hk ▸ List.mem_map_of_mem he) h.1
    · rcases List.mem_cons.1 he with rfl | he
      · exact absurd rfl hk
      · rw [List.find?_cons_of_neg (by simpa using hk)]
        exact ih h.2 he
theorem withEP_map {xs : List (Ent VP)} (h : (xs.map (·.fold)).Nodup) : (xs.map (·.fold)).map (withEP xs) = xs := by
  rw [List.map_map]
  conv => rhs; rw [← List.map_id xs]
  apply List.map_congr_left
  intro e he
  exact withEP_mem h he
theorem sort_bookP {base : Nat} {W : World} {v : Value} {xs : List (Ent VP)} (h : OwnEP base W v xs) (hn : (xs.map (·.fold)).Nodup) (hl : xs.length ≤ 1000000) :
    Calls Tryz.prog 111 #[v, .func (.func 112) #[] #[]] W fun e W' => e = .returned (.tuple #[]) ∧ (∃ R, OwnEP base W' v R ∧ (R.Pairwise fun x y => x.fold < y.fold) ∧ R.Perm xs) ∧ Fr (fun j => v.ownBlock = some j) W W' := by
  have eg : ∀ args w, (callFunc 112 args).run Tryz.prog w = .ok (.enter 112 args) w := enters_of Tryz.func112 (by kernel_rfl) rfl
  have e0 : ∀ l : List KeyB, l.flatMap (fun k => encEP (withEP xs k)) = (l.map (withEP xs)).flatMap encEP := fun l => by rw [List.flatMap_map]
  have h' : W.ownsRow base 134 3 v (xs.map (·.fold)).length ((xs.map (·.fold)).flatMap fun k => encEP (withEP xs k)) := by
    rw [e0, withEP_map hn, List.length_map]; exact h
  have hc := sort_row (P := Tryz.prog) (f := 111) (e := 134) (fun k => encEP (withEP xs k)) 3 (fun _ => rfl) (by decide) sortO (fun l => (sortO_perm l).length_eq) (.func (.func 112) #[] #[])
    (fun g cap d w hH hg hd => AnyQ.slices_SortFunc_total Tryz.sortP 3 Tryz.isAgg134 Tryz.sizeOf134 (fun k => encEP (withEP xs k)) (fun _ => rfl) (fun x v hv => by simp [encEP, thVP] at hv; rcases hv with rfl | rfl | rfl <;> rfl) cmpS swoO 112 #[] g 0 cap d w eg (fun _ _ _ _ x y => by have := book_cmpP (withEP xs x) (withEP xs y); rw [withEP_fold, withEP_fold] at this; exact this _) hH hg hd totO)
    (fun w => AnyF.slices_SortFunc_none { Tryz.sortP with } none 0 _ w) h' (by rw [List.length_map]; exact hl)
  refine hc.mono ?_
  rintro e W' ⟨h1, h2, h3⟩
  refine ⟨h1, ⟨(sortO (xs.map (·.fold))).map (withEP xs), ?_, ?_, ?_⟩, h3⟩
  · rw [e0] at h2
    unfold OwnEP
    rw [List.length_map, (sortO_perm _).length_eq]
    exact h2
  · refine List.pairwise_map.2 ((sortO_rise hn).imp fun {a b} hab => ?_)
    rw [withEP_fold, withEP_fold]; exact hab
  · have := (sortO_perm (xs.map (·.fold))).map (withEP xs)
    rwa [withEP_map hn] at this
end Go.Proofs.YtlkeomcillencaaGreat
end
