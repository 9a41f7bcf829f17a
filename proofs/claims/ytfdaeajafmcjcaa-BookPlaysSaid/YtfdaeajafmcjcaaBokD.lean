/- Layer 2: a nil book's From and All; the law's same. -/
import Derived.Test.YtfdaeajafmcjcaaBokCI
import Derived.Test.YtfdaeajafmcjcaaRangeF
namespace Go.Proofs.Ytfdaeajafmcjcaa
set_option linter.unusedVariables false
set_option linter.unusedSimpArgs false
open Go Go.RowKit Go.Maps Go.Sort Go.Shelf Go.Lib
attribute [local go_sem] Oper.semAt_some

/-- a tale of R, new; what was there lies as it lay -/
def TaleR (R : List (Ent VI)) (w : World) (e : Ending) (w' : World) : Prop := (∃ F, e = .returned F ∧ TaleEI w.heap.size w' F R) ∧ Fr (fun _ => False) w w'
theorem sorted_nilI (from_ : ByteArray) (w : World) : Calls Try.prog 44 #[.pointer none, .string from_] w fun e w' => e = .returned (.slice none 0 0) ∧ Fr (fun _ => False) w w' := by
  go_enter Try.func44, Try.ntmps44
  go_wp2_with fail
  go_ret
  exact ⟨rfl, ((Fr.refl _ w).alloc _).alloc _⟩
theorem told_nilI (w : World) {B : Nat} (hB : B ≤ w.heap.size) : Calls Try.prog 43 #[.slice none 0 0] w fun e w' => (∃ F, e = .returned F ∧ TaleEI B w' F []) ∧ Fr (fun _ => False) w w' :=
  told_ofI (base := B) (A := none) (c := 0) (xs := []) (ownEI_nil _ _) hB
theorem all_nilI (w : World) : Calls Try.prog 35 #[.pointer none] w (TaleR [] w) := by
  go_enter Try.func35, Try.ntmps35
  go_wp2_with fail
  refine (sorted_nilI _ _).mono ?_
  rintro e w1 ⟨rfl, f1⟩
  have F1 := Lib.hid f1
  clear f1
  go_wp2_with fail
  refine (told_nilI w1 F1.out.size).mono ?_
  rintro e w2 ⟨⟨F, rfl, hT⟩, f2⟩
  have F2 := Lib.hid (And.intro hT f2)
  clear hT f2
  go_wp2_with fail
  go_ret
  exact ⟨⟨F, rfl, F2.out.1⟩, F1.out.trans F2.out.2⟩
theorem from_nilI (name : ByteArray) (hs : name.size ≤ 1000000) (w : World) : Calls Try.prog 34 #[.pointer none, .string name] w (TaleR [] w) := by
  have HT := Lib.hid (text_any name w hs)
  clear hs
  go_enter Try.func34, Try.ntmps34
  go_wp2_with fail
  refine HT.out.mono ?_
  rintro e w0 ⟨rfl, b0⟩
  have F0 := Lib.hid (Fr.of_below (X := fun _ => False) b0)
  clear b0 HT
  go_wp2_with fail
  refine (sorted_nilI _ _).mono ?_
  rintro e w1 ⟨rfl, f1⟩
  have F1 := Lib.hid (F0.out.trans f1)
  clear f1 F0
  go_wp2_with fail
  refine (told_nilI w1 F1.out.size).mono ?_
  rintro e w2 ⟨⟨F, rfl, hT⟩, f2⟩
  have F2 := Lib.hid (And.intro hT f2)
  clear hT f2
  go_wp2_with fail
  go_ret
  exact ⟨⟨F, rfl, F2.out.1⟩, F1.out.trans F2.out.2⟩
/-- a row of the document's entries reads as R -/
def ReadsW (w : World) (A : Option Addr) (xs : List (Ent VI)) : Prop := 0 < xs.length → ∃ g o, A = some ⟨g, o, none⟩ ∧ g < w.heap.size ∧ ∀ j (h : j < xs.length), w.cell? ⟨g, o + j * 2, none⟩ = some (.string xs[j].name) ∧ w.cell? ⟨g, o + j * 2 + 1, none⟩ = some (.int .i64 xs[j].thing)
/-- two boxes: how many came; all well so far -/
def SameB (S base : Nat) (pre : List (Ent VI)) (X : Nat → Prop) (W : World) : Prop := W.heap[S]? = some (.cells #[.int .i64 (pre.length : Int)] 3 (0, 0)) ∧ W.heap[S + 1]? = some (.cells #[.bool true] 4 (0, 0)) ∧ S + 1 < base ∧ ∀ k, X k ↔ (k = S ∨ k = S + 1)
theorem sameB_stays (S base : Nat) : Stays (SameB S base) := fun pre X V V' ⟨h1, h2, h3, h4⟩ hl hf =>
  ⟨hf.blk h1 (fun e => e ((h4 S).2 (.inl rfl))), hf.blk h2 (fun e => e ((h4 _).2 (.inr rfl))), h3, h4⟩
set_option maxRecDepth 100000 in
set_option maxHeartbeats 8000000 in
theorem same02_from {w : World} {p : Option Addr} {R : List (Ent VI)} {name : ByteArray}
    (hfrom : ∀ W, Fr (fun _ => False) w W → Calls Try.prog 34 #[.pointer p, .string name] W (TaleR R W)) (hwl : R.length ≤ 1000000) (A : Option Addr) (c : Nat) (hA : ReadsW w A R) :
    Calls Try.prog 18 #[.pointer p, .slice A R.length c, .string name, .bool false] w fun e w' => e = .returned (.bool true) ∧ Fr (fun _ => False) w w' := by
  obtain ⟨w1, hw1⟩ : ∃ w1, (((w.alloc (Obj.cells #[Value.slice A R.length c] 30)).alloc (Obj.cells #[Value.bool false] 4)).alloc (Obj.cells #[Value.int IntKind.i64 0] 3)).alloc (Obj.cells #[Value.bool true] 4) = w1 := ⟨_, rfl⟩
  have z1 : w1.heap.size = w.heap.size + 4 := by rw [← hw1]; simp
  have f1 : Fr (fun _ => False) w w1 := by rw [← hw1]; exact ((((Fr.refl _ w).alloc _).alloc _).alloc _).alloc _
  have hb0 : w1.heap[w.heap.size]? = some (.cells #[.slice A R.length c] 30 (0, 0)) := by rw [← hw1]; exact blk_alloc (blk_alloc (blk_alloc (heap_alloc_new w _) _) _) _
  have hb1 : w1.heap[w.heap.size + 1]? = some (.cells #[.bool false] 4 (0, 0)) := by rw [← hw1]; exact blk_alloc (blk_alloc (heap_alloc2_new w _ _) _) _
  have hb2 : w1.heap[w.heap.size + 2]? = some (.cells #[.int .i64 0] 3 (0, 0)) := by rw [← hw1]; refine blk_alloc ?_ _; have := heap_alloc2_new (w.alloc (Obj.cells #[Value.slice A R.length c] 30)) (Obj.cells #[Value.bool false] 4) (Obj.cells #[Value.int IntKind.i64 0] 3); rwa [World.size_alloc] at this
  have hb3 : w1.heap[w.heap.size + 3]? = some (.cells #[.bool true] 4 (0, 0)) := by
    rw [← hw1]
    have := heap_alloc2_new ((w.alloc (Obj.cells #[Value.slice A R.length c] 30)).alloc (Obj.cells #[Value.bool false] 4)) (Obj.cells #[Value.int IntKind.i64 0] 3) (Obj.cells #[Value.bool true] 4)
    rwa [World.size_alloc, World.size_alloc] at this
  have HW := Lib.hid (And.intro hw1 (hfrom w1 f1))
  have H0 := Lib.hid (And.intro f1 (And.intro hb0 (And.intro hb1 (And.intro hb2 (And.intro hb3 (And.intro z1 hA))))))
  clear hw1 hfrom hb0 hb1 hb2 hb3 z1 f1 hA
  refine (callsIn_wide (n := 20)).1 ?_
  refine callsIn_of_wp_marks Try.func18 rfl trivial ?_ rfl
  simp only [Try.ntmps18, List.size_toArray, List.length_cons, List.length_nil, Nat.reduceAdd, Nat.reduceSub, Array.replicate_succ, Array.replicate_zero, List.push_toArray, List.append_toArray, List.nil_append, List.cons_append]
  gi_wp2_with fail
  rw [HW.out.1]
  refine ⟨trivial, (calls_wide (.inl rfl) HW.out.2).mono ?_⟩
  rintro e W2 ⟨⟨F, rfl, hT⟩, hfZ⟩
  clear HW
  obtain ⟨Y, hYb, gf, lb, rfl, hseq, hYl, heg⟩ := taleEI_tells hT hwl
  have hnil : ∀ W, (binOp BinOp.eql 76 (.func (.func gf) #[] lb) Value.nilFunc).run Try.prog W = .ok (.bool false) W := fun W => by rfl
  gi_wp2_with (simp only [hnil])
  obtain ⟨f1, hb0, hb1, hb2, hb3, z1, hA⟩ := H0.out
  have hzz := hfZ.size
  have f12 : Fr (fun _ => False) w W2 := f1.trans hfZ
  have hb0 := hfZ.blk hb0 (fun e => e)
  have hb1 := hfZ.blk hb1 (fun e => e)
  have hb2 := hfZ.blk hb2 (fun e => e)
  have hb3 := hfZ.blk hb3 (fun e => e)
  have H := Lib.hid (And.intro f12 (And.intro hb0 (And.intro hb1 (And.intro z1 hA))))
  refine wpIn_rangeF (X := fun k => k = w.heap.size + 2 ∨ k = w.heap.size + 2 + 1) (Y := Y) (xs := R) (encs := encPI) (gf := gf) (lb := lb) (SameB (w.heap.size + 2) W2.heap.size) (fun _ _ _ _ => False)
    rfl hseq (fun k hk => ⟨by omega, fun e => by have := hYb k e; omega⟩) hYl (by omega) heg (fun _ => rfl)
    (sameB_stays _ _) (fun c s X1 V1 V2 h => h.elim) ⟨hb2, hb3, by omega, fun k => Iff.rfl⟩ ?round ?done (fun _ _ _ _ _ _ _ _ _ _ _ h => h.elim)
  case round =>
    rintro l pre ⟨y, yf, at_⟩ r X1 V K rb hl2 hpx hI hG2 hxl hF hlV hK
    dsimp only [encPI, thVI]
    have HK := Lib.hid hK
    have HV := Lib.hid (And.intro hpx (And.intro hI (And.intro hG2 (And.intro hxl (And.intro hF (And.intro hlV hl2))))))
    clear hK hpx hI hG2 hxl hF hlV hl2 hseq hYb hYl heg f1 f12 hb0 hb1 hb2 hb3 z1 hT hfZ H0 hA
    gi_wp2_with fail
    refine HK.out _ _ (Fr.refl _ _) fun Vb hfb hzb hsb hrb => ?_
    clear HK K
    obtain ⟨hpx, ⟨k1, k2, hSl, hX1⟩, hG2, hxl, hF, hlV, hl2⟩ := HV.out
    obtain ⟨f12, hb0, hb1, z1, hA⟩ := H.out
    have hpl : pre.length < R.length := by
      have := congrArg List.length hpx
      simp at this; omega
    have hgx : R[pre.length] = ⟨y, yf, at_⟩ := by simp [← hpx]
    obtain ⟨g, o, rfl, hg, hcell⟩ := hA (by omega)
    have hfw : Vb.heap[g]? = w.heap[g]? := (hfb.block g (by have := hF.size; omega) (by omega)).trans ((hF.block g (by omega) (by omega)).trans (f12.block g hg fun e => e))
    have e0 : Vb.cell? ⟨g, o + pre.length * 2, none⟩ = some (.string y) := by
      rw [World.cell?_of_block (w := w) (w' := Vb) (a := ⟨g, o + pre.length * 2, none⟩) hfw, (hcell _ hpl).1, hgx]
    have e1 : Vb.cell? ⟨g, o + pre.length * 2 + 1, none⟩ = some (.int .i64 at_) := by
      rw [World.cell?_of_block (w := w) (w' := Vb) (a := ⟨g, o + pre.length * 2 + 1, none⟩) hfw, (hcell _ hpl).2, hgx]
    have k1b := hfb.blk k1 (by omega : ¬ w.heap.size + 2 = l)
    have k2b := hfb.blk k2 (by omega : ¬ w.heap.size + 2 + 1 = l)
    have c0 := blk_cell (hfb.blk (hF.blk hb0 (by omega)) (by omega)) 0
    have c1 := blk_cell k1b 0
    have c2 := blk_cell k2b 0
    have d1 := blk_free k1b 0
    have d2 := blk_free k2b 0
    have n0 : ¬ ((R.length : Int) ≤ (pre.length : Int)) := by omega
    have n1 : ((pre.length : Int) < (R.length : Int)) := by omega
    have hzs : w.heap.size + 2 + 1 < Vb.heap.size := blk_lt k2b
    have HE := Lib.hid (And.intro k1b (And.intro k2b (And.intro hSl (And.intro hX1 (And.intro hG2 (And.intro hxl (And.intro hlV (And.intro hfb hrb))))))))
    have hpl2 : (pre.length : Int) ≤ 1000000 := by omega
    clear hpx k1 k2 hSl hX1 hG2 hxl hF hlV hl2 f12 hb0 hb1 z1 hA hgx hcell hfw k1b k2b hfb hrb hzb hsb
    gi_wp2_with fail
    obtain ⟨k1b, k2b, hSl, hX1, hG2, hxl, hlV, hfb, hrb⟩ := HE.out
    have hll : ¬ (l = w.heap.size + 2 ∨ l = w.heap.size + 2 + 1) := fun e => hxl ((hX1 l).2 e)
    have hf3 : Fr X1 Vb ((Vb.setCell ⟨w.heap.size + 1 + 1 + 1, 0, none⟩ (Value.bool true)).setCell ⟨w.heap.size + 1 + 1, 0, none⟩ (Value.int IntKind.i64 ((pre.length : Int) + 1))) := ((Fr.refl X1 Vb).setCell _ ((hX1 _).2 (.inr rfl)) _).setCell _ ((hX1 _).2 (.inl rfl)) _
    refine ⟨X1, fun k hk => ⟨Nat.lt_of_lt_of_le (hG2 k hk).1 (Nat.le_trans hfb.size hf3.size), fun _ => hk⟩, (hfb.mono (Y := fun k => k = l ∨ X1 k) fun k _ e => .inl e).trans3 hf3 fun k _ e => .inr e, hf3.blk hrb hxl, ?_, ?_, hSl, hX1⟩
    · rw [List.length_append]
      exact blk_set (blk_other k1b _ (by simp) _) 0 _
    · exact blk_other (blk_set k2b 0 _) _ (by simp) _
  case done =>
    rintro D X2 V hD hxD hG2 hF ⟨k1, k2, hSl, hX2⟩ hdef
    have k0 := hF.blk hb0 (by omega)
    have kr := hF.blk hb1 (by omega)
    have c0 := blk_cell k0 0
    have c1 := blk_cell k1 0
    have c2 := blk_cell k2 0
    have c3 := blk_cell kr 0
    have d3 := blk_free kr 0
    have b4 : Fr (fun _ => False) w V := f12.trans3 hF fun k hk e => by omega
    have hzs : w.heap.size + 1 < V.heap.size := blk_lt kr
    have HQ := Lib.hid (And.intro hdef (And.intro b4 (And.intro hD (And.intro kr (And.intro z1 hzz)))))
    clear k0 k1 k2 kr hSl hX2 hdef hxD hG2 hF b4 hD hseq hYb hYl heg f1 f12 hb0 hb1 hb2 hb3 z1 hT hfZ H0 hA H hzz
    gi_wp2_with fail
    obtain ⟨hdef, b4, hD, kr, z1, hzz⟩ := HQ.out
    have d5 := blk_other hdef ⟨w.heap.size + 1, 0, none⟩ (by simp; omega) (Value.bool true)
    have f5 : Fr (fun k => k = w.heap.size + 1) V (V.setCell ⟨w.heap.size + 1, 0, none⟩ (Value.bool true)) := Fr.setCell (X := fun k => k = w.heap.size + 1) (Fr.refl _ V) ⟨w.heap.size + 1, 0, none⟩ rfl _
    have kr5 := blk_set kr 0 (Value.bool true)
    refine leaves_one D _ d5 fun w' hf => ⟨_, results_box rfl _ _ (w.heap.size + 1) (.bool true) _ rfl (blk_cell (hf.blk kr5 (by omega)) 0) Try.underlying4 rfl, rfl, (b4.trans3 f5 fun k hk e => by omega).trans3 hf fun k hk e => by omega⟩
set_option maxRecDepth 100000 in
set_option maxHeartbeats 8000000 in
theorem same02_all {w : World} {p : Option Addr} {R Rf : List (Ent VI)} {name : ByteArray}
    (hfrom : ∀ W, Fr (fun _ => False) w W → Calls Try.prog 34 #[.pointer p, .string name] W (TaleR Rf W))
    (hall : ∀ W, Fr (fun _ => False) w W → Calls Try.prog 35 #[.pointer p] W (TaleR R W)) (hwl : R.length ≤ 1000000) (A : Option Addr) (c : Nat) (hA : ReadsW w A R) :
    Calls Try.prog 18 #[.pointer p, .slice A R.length c, .string name, .bool true] w fun e w' => e = .returned (.bool true) ∧ Fr (fun _ => False) w w' := by
  obtain ⟨w1, hw1⟩ : ∃ w1, (((w.alloc (Obj.cells #[Value.slice A R.length c] 30)).alloc (Obj.cells #[Value.bool false] 4)).alloc (Obj.cells #[Value.int IntKind.i64 0] 3)).alloc (Obj.cells #[Value.bool true] 4) = w1 := ⟨_, rfl⟩
  have z1 : w1.heap.size = w.heap.size + 4 := by rw [← hw1]; simp
  have f1 : Fr (fun _ => False) w w1 := by rw [← hw1]; exact ((((Fr.refl _ w).alloc _).alloc _).alloc _).alloc _
  have hb0 : w1.heap[w.heap.size]? = some (.cells #[.slice A R.length c] 30 (0, 0)) := by rw [← hw1]; exact blk_alloc (blk_alloc (blk_alloc (heap_alloc_new w _) _) _) _
  have hb1 : w1.heap[w.heap.size + 1]? = some (.cells #[.bool false] 4 (0, 0)) := by rw [← hw1]; exact blk_alloc (blk_alloc (heap_alloc2_new w _ _) _) _
  have hb2 : w1.heap[w.heap.size + 2]? = some (.cells #[.int .i64 0] 3 (0, 0)) := by rw [← hw1]; refine blk_alloc ?_ _; have := heap_alloc2_new (w.alloc (Obj.cells #[Value.slice A R.length c] 30)) (Obj.cells #[Value.bool false] 4) (Obj.cells #[Value.int IntKind.i64 0] 3); rwa [World.size_alloc] at this
  have hb3 : w1.heap[w.heap.size + 3]? = some (.cells #[.bool true] 4 (0, 0)) := by
    rw [← hw1]
    have := heap_alloc2_new ((w.alloc (Obj.cells #[Value.slice A R.length c] 30)).alloc (Obj.cells #[Value.bool false] 4)) (Obj.cells #[Value.int IntKind.i64 0] 3) (Obj.cells #[Value.bool true] 4)
    rwa [World.size_alloc, World.size_alloc] at this
  have HW := Lib.hid (And.intro hw1 (hfrom w1 f1))
  have H0 := Lib.hid (And.intro f1 (And.intro hb0 (And.intro hb1 (And.intro hb2 (And.intro hb3 (And.intro z1 hA))))))
  clear hw1 hfrom hb0 hb1 hb2 hb3 z1 f1 hA
  refine (callsIn_wide (n := 20)).1 ?_
  refine callsIn_of_wp_marks Try.func18 rfl trivial ?_ rfl
  simp only [Try.ntmps18, List.size_toArray, List.length_cons, List.length_nil, Nat.reduceAdd, Nat.reduceSub, Array.replicate_succ, Array.replicate_zero, List.push_toArray, List.append_toArray, List.nil_append, List.cons_append]
  gi_wp2_with fail
  rw [HW.out.1]
  refine ⟨trivial, (calls_wide (.inl rfl) HW.out.2).mono ?_⟩
  rintro e W1 ⟨⟨F0, rfl, hT0⟩, hf0⟩
  have HA := Lib.hid (And.intro hf0 (hall W1 (H0.out.1.trans hf0)))
  clear HW hT0 hf0 hall
  gi_wp2_with fail
  refine ⟨trivial, (calls_wide (.inl rfl) HA.out.2).mono ?_⟩
  rintro e W2 ⟨⟨F, rfl, hT⟩, hfY⟩
  have hfZ := HA.out.1.trans hfY
  have hbs := HA.out.1.size
  clear HA
  obtain ⟨Y, hYb, gf, lb, rfl, hseq, hYl, heg⟩ := taleEI_tells hT hwl
  have hnil : ∀ W, (binOp BinOp.eql 76 (.func (.func gf) #[] lb) Value.nilFunc).run Try.prog W = .ok (.bool false) W := fun W => by rfl
  gi_wp2_with (simp only [hnil])
  obtain ⟨f1, hb0, hb1, hb2, hb3, z1, hA⟩ := H0.out
  have hzz := hfZ.size
  have f12 : Fr (fun _ => False) w W2 := f1.trans hfZ
  have hb0 := hfZ.blk hb0 (fun e => e)
  have hb1 := hfZ.blk hb1 (fun e => e)
  have hb2 := hfZ.blk hb2 (fun e => e)
  have hb3 := hfZ.blk hb3 (fun e => e)
  have H := Lib.hid (And.intro f12 (And.intro hb0 (And.intro hb1 (And.intro z1 hA))))
  refine wpIn_rangeF (X := fun k => k = w.heap.size + 2 ∨ k = w.heap.size + 2 + 1) (Y := Y) (xs := R) (encs := encPI) (gf := gf) (lb := lb) (SameB (w.heap.size + 2) W2.heap.size) (fun _ _ _ _ => False)
    rfl hseq (fun k hk => ⟨by omega, fun e => by have := hYb k e; omega⟩) hYl (by omega) heg (fun _ => rfl)
    (sameB_stays _ _) (fun c s X1 V1 V2 h => h.elim) ⟨hb2, hb3, by omega, fun k => Iff.rfl⟩ ?round ?done (fun _ _ _ _ _ _ _ _ _ _ _ h => h.elim)
  case round =>
    rintro l pre ⟨y, yf, at_⟩ r X1 V K rb hl2 hpx hI hG2 hxl hF hlV hK
    dsimp only [encPI, thVI]
    have HK := Lib.hid hK
    have HV := Lib.hid (And.intro hpx (And.intro hI (And.intro hG2 (And.intro hxl (And.intro hF (And.intro hlV hl2))))))
    clear hK hpx hI hG2 hxl hF hlV hl2 hseq hYb hYl heg f1 f12 hb0 hb1 hb2 hb3 z1 hT hfZ H0 hA
    gi_wp2_with fail
    refine HK.out _ _ (Fr.refl _ _) fun Vb hfb hzb hsb hrb => ?_
    clear HK K
    obtain ⟨hpx, ⟨k1, k2, hSl, hX1⟩, hG2, hxl, hF, hlV, hl2⟩ := HV.out
    obtain ⟨f12, hb0, hb1, z1, hA⟩ := H.out
    have hpl : pre.length < R.length := by
      have := congrArg List.length hpx
      simp at this; omega
    have hgx : R[pre.length] = ⟨y, yf, at_⟩ := by simp [← hpx]
    obtain ⟨g, o, rfl, hg, hcell⟩ := hA (by omega)
    have hfw : Vb.heap[g]? = w.heap[g]? := (hfb.block g (by have := hF.size; omega) (by omega)).trans ((hF.block g (by omega) (by omega)).trans (f12.block g hg fun e => e))
    have e0 : Vb.cell? ⟨g, o + pre.length * 2, none⟩ = some (.string y) := by
      rw [World.cell?_of_block (w := w) (w' := Vb) (a := ⟨g, o + pre.length * 2, none⟩) hfw, (hcell _ hpl).1, hgx]
    have e1 : Vb.cell? ⟨g, o + pre.length * 2 + 1, none⟩ = some (.int .i64 at_) := by
      rw [World.cell?_of_block (w := w) (w' := Vb) (a := ⟨g, o + pre.length * 2 + 1, none⟩) hfw, (hcell _ hpl).2, hgx]
    have k1b := hfb.blk k1 (by omega : ¬ w.heap.size + 2 = l)
    have k2b := hfb.blk k2 (by omega : ¬ w.heap.size + 2 + 1 = l)
    have c0 := blk_cell (hfb.blk (hF.blk hb0 (by omega)) (by omega)) 0
    have c1 := blk_cell k1b 0
    have c2 := blk_cell k2b 0
    have d1 := blk_free k1b 0
    have d2 := blk_free k2b 0
    have n0 : ¬ ((R.length : Int) ≤ (pre.length : Int)) := by omega
    have n1 : ((pre.length : Int) < (R.length : Int)) := by omega
    have hzs : w.heap.size + 2 + 1 < Vb.heap.size := blk_lt k2b
    have HE := Lib.hid (And.intro k1b (And.intro k2b (And.intro hSl (And.intro hX1 (And.intro hG2 (And.intro hxl (And.intro hlV (And.intro hfb hrb))))))))
    have hpl2 : (pre.length : Int) ≤ 1000000 := by omega
    clear hpx k1 k2 hSl hX1 hG2 hxl hF hlV hl2 f12 hb0 hb1 z1 hA hgx hcell hfw k1b k2b hfb hrb hzb hsb
    gi_wp2_with fail
    obtain ⟨k1b, k2b, hSl, hX1, hG2, hxl, hlV, hfb, hrb⟩ := HE.out
    have hll : ¬ (l = w.heap.size + 2 ∨ l = w.heap.size + 2 + 1) := fun e => hxl ((hX1 l).2 e)
    have hf3 : Fr X1 Vb ((Vb.setCell ⟨w.heap.size + 1 + 1 + 1, 0, none⟩ (Value.bool true)).setCell ⟨w.heap.size + 1 + 1, 0, none⟩ (Value.int IntKind.i64 ((pre.length : Int) + 1))) := ((Fr.refl X1 Vb).setCell _ ((hX1 _).2 (.inr rfl)) _).setCell _ ((hX1 _).2 (.inl rfl)) _
    refine ⟨X1, fun k hk => ⟨Nat.lt_of_lt_of_le (hG2 k hk).1 (Nat.le_trans hfb.size hf3.size), fun _ => hk⟩, (hfb.mono (Y := fun k => k = l ∨ X1 k) fun k _ e => .inl e).trans3 hf3 fun k _ e => .inr e, hf3.blk hrb hxl, ?_, ?_, hSl, hX1⟩
    · rw [List.length_append]
      exact blk_set (blk_other k1b _ (by simp) _) 0 _
    · exact blk_other (blk_set k2b 0 _) _ (by simp) _
  case done =>
    rintro D X2 V hD hxD hG2 hF ⟨k1, k2, hSl, hX2⟩ hdef
    have k0 := hF.blk hb0 (by omega)
    have kr := hF.blk hb1 (by omega)
    have c0 := blk_cell k0 0
    have c1 := blk_cell k1 0
    have c2 := blk_cell k2 0
    have c3 := blk_cell kr 0
    have d3 := blk_free kr 0
    have b4 : Fr (fun _ => False) w V := f12.trans3 hF fun k hk e => by omega
    have hzs : w.heap.size + 1 < V.heap.size := blk_lt kr
    have HQ := Lib.hid (And.intro hdef (And.intro b4 (And.intro hD (And.intro kr (And.intro z1 hzz)))))
    clear k0 k1 k2 kr hSl hX2 hdef hxD hG2 hF b4 hD hseq hYb hYl heg f1 f12 hb0 hb1 hb2 hb3 z1 hT hfZ H0 hA H hzz
    gi_wp2_with fail
    obtain ⟨hdef, b4, hD, kr, z1, hzz⟩ := HQ.out
    have d5 := blk_other hdef ⟨w.heap.size + 1, 0, none⟩ (by simp; omega) (Value.bool true)
    have f5 : Fr (fun k => k = w.heap.size + 1) V (V.setCell ⟨w.heap.size + 1, 0, none⟩ (Value.bool true)) := Fr.setCell (X := fun k => k = w.heap.size + 1) (Fr.refl _ V) ⟨w.heap.size + 1, 0, none⟩ rfl _
    have kr5 := blk_set kr 0 (Value.bool true)
    refine leaves_one D _ d5 fun w' hf => ⟨_, results_box rfl _ _ (w.heap.size + 1) (.bool true) _ rfl (blk_cell (hf.blk kr5 (by omega)) 0) Try.underlying4 rfl, rfl, (b4.trans3 f5 fun k hk e => by omega).trans3 hf fun k hk e => by omega⟩
end Go.Proofs.Ytfdaeajafmcjcaa
