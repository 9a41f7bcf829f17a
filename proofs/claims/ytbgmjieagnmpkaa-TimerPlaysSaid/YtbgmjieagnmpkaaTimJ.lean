/- Layer 9: the law's same; awake. -/
import Derived.Test.YtbgmjieagnmpkaaTimIS
namespace Go.Proofs.Ytbgmjieagnmpkaa
set_option linter.unusedVariables false
set_option linter.unusedSimpArgs false
open Go Go.RowKit Go.Maps Go.Sort Go.Shelf Go.Lib
attribute [local go_sem] Oper.semAt_some

/-- two boxes: how many came; all well so far -/
def SameI (S base : Nat) (pre : List (KeyS × Int)) (X : Nat → Prop) (W : World) : Prop := W.heap[S]? = some (.cells #[.int .i64 (pre.length : Int)] 3 (0, 0)) ∧ W.heap[S + 1]? = some (.cells #[.bool true] 4 (0, 0)) ∧ S + 1 < base ∧ ∀ k, X k ↔ (k = S ∨ k = S + 1)
theorem sameI_stays (S base : Nat) : Stays (SameI S base) := fun pre X V V' ⟨h1, h2, h3, h4⟩ hl hf =>
  ⟨hf.blk h1 (fun e => e ((h4 S).2 (.inl rfl))), hf.blk h2 (fun e => e ((h4 _).2 (.inr rfl))), h3, h4⟩
theorem readsRS_below {w W : World} {A : Option Addr} {xs : List (KeyS × Int)} (h : ReadsRS w A xs) (hb : RowKit.Below w.heap.size w W) : ReadsRS W A xs := fun h0 => by
  obtain ⟨g, o, h1, h2, h3⟩ := h h0
  refine ⟨g, o, h1, Nat.lt_of_lt_of_le h2 hb.size, fun j hj => ?_⟩
  have e1 := World.cell?_of_block (w := w) (w' := W) (a := ⟨g, o + j * 2, none⟩) (hb.block g h2)
  have e2 := World.cell?_of_block (w := w) (w' := W) (a := ⟨g, o + j * 2 + 1, none⟩) (hb.block g h2)
  exact ⟨e1.trans (h3 j hj).1, e2.trans (h3 j hj).2⟩
set_option maxRecDepth 100000 in
set_option maxHeartbeats 8000000 in
theorem same9 {w : World} {p : Option Addr} {T want : List (KeyS × Int)} (h : ItemsAtS w p T) (hnd : (T.map (·.1)).Nodup) (hl : T.length ≤ 1000000) (now : Int) (hw : dueMS T now = want) (A : Option Addr) (c : Nat) (hA : ReadsRS w A want) :
    Calls Try.prog 21 #[.pointer p, .slice A want.length c, .int .i64 now] w fun e w' => e = .returned (.bool true) ∧ RowKit.Below w.heap.size w w' := by
  have hwl : want.length ≤ 1000000 := by rw [← hw]; exact Nat.le_trans (dueMS_len T now) hl
  obtain ⟨w1, hw1⟩ : ∃ w1, (((w.alloc (Obj.cells #[Value.slice A want.length c] 28)).alloc (Obj.cells #[Value.bool false] 4)).alloc (Obj.cells #[Value.int IntKind.i64 0] 3)).alloc (Obj.cells #[Value.bool true] 4) = w1 := ⟨_, rfl⟩
  have z1 : w1.heap.size = w.heap.size + 4 := by rw [← hw1]; simp
  have f1 : Fr (fun _ => False) w w1 := by rw [← hw1]; exact ((((Fr.refl _ w).alloc _).alloc _).alloc _).alloc _
  have hb0 : w1.heap[w.heap.size]? = some (.cells #[.slice A want.length c] 28 (0, 0)) := by rw [← hw1]; exact blk_alloc (blk_alloc (blk_alloc (heap_alloc_new w _) _) _) _
  have hb1 : w1.heap[w.heap.size + 1]? = some (.cells #[.bool false] 4 (0, 0)) := by rw [← hw1]; exact blk_alloc (blk_alloc (heap_alloc2_new w _ _) _) _
  have hb2 : w1.heap[w.heap.size + 2]? = some (.cells #[.int .i64 0] 3 (0, 0)) := by rw [← hw1]; refine blk_alloc ?_ _; have := heap_alloc2_new (w.alloc (Obj.cells #[Value.slice A want.length c] 28)) (Obj.cells #[Value.bool false] 4) (Obj.cells #[Value.int IntKind.i64 0] 3); rwa [World.size_alloc] at this
  have hb3 : w1.heap[w.heap.size + 3]? = some (.cells #[.bool true] 4 (0, 0)) := by
    rw [← hw1]
    have := heap_alloc2_new ((w.alloc (Obj.cells #[Value.slice A want.length c] 28)).alloc (Obj.cells #[Value.bool false] 4)) (Obj.cells #[Value.int IntKind.i64 0] 3) (Obj.cells #[Value.bool true] 4)
    rwa [World.size_alloc, World.size_alloc] at this
  have hdue := tim_DueS (itemsAtS_below h (f1.below (Nat.le_refl _) fun _ _ e => e.elim)) hnd hl now
  unfold DueFS at hdue
  rw [hw] at hdue
  have HW := Lib.hid (And.intro hw1 hdue)
  have H0 := Lib.hid (And.intro f1 (And.intro hb0 (And.intro hb1 (And.intro hb2 (And.intro hb3 (And.intro z1 hA))))))
  clear hw1 hdue h hnd hl hw hb0 hb1 hb2 hb3 z1 f1 hA
  refine (callsIn_wide (n := 20)).1 ?_
  refine callsIn_of_wp_marks Try.func21 rfl trivial ?_ rfl
  simp only [Try.ntmps21, List.size_toArray, List.length_cons, List.length_nil, Nat.reduceAdd, Nat.reduceSub, Array.replicate_succ, Array.replicate_zero, List.push_toArray, List.append_toArray, List.nil_append, List.cons_append]
  gi_wp2_with fail
  rw [HW.out.1]
  refine ⟨trivial, (calls_wide (.inl rfl) HW.out.2).mono ?_⟩
  rintro e W2 ⟨⟨F, rfl, hT⟩, hB2⟩
  clear HW
  obtain ⟨Y, hYb, gf, lb, rfl, hseq, hYl, heg⟩ := taleRS_tells hT hwl
  have hnil : ∀ W, (binOp BinOp.eql 89 (.func (.func gf) #[] lb) Value.nilFunc).run Try.prog W = .ok (.bool false) W := fun W => by rfl
  gi_wp2_with (simp only [hnil])
  obtain ⟨f1, hb0, hb1, hb2, hb3, z1, hA⟩ := H0.out
  have hzz := hB2.size
  have f2 : Fr (fun _ => False) w1 W2 := Fr.of_below hB2
  have f12 := f1.trans f2
  have hb0 := f2.blk hb0 fun e => e
  have hb1 := f2.blk hb1 fun e => e
  have hb2 := f2.blk hb2 fun e => e
  have hb3 := f2.blk hb3 fun e => e
  have H := Lib.hid (And.intro f12 (And.intro hb0 (And.intro hb1 (And.intro z1 hA))))
  refine wpIn_rangeF (X := fun k => k = w.heap.size + 2 ∨ k = w.heap.size + 2 + 1) (Y := Y) (xs := want) (encs := encAS) (gf := gf) (lb := lb) (SameI (w.heap.size + 2) W2.heap.size) (fun _ _ _ _ => False)
    rfl hseq (fun k hk => ⟨by omega, fun e => by have := hYb k e; omega⟩) hYl (by omega) heg (fun _ => rfl)
    (sameI_stays _ _) (fun c s X1 V1 V2 h => h.elim) ⟨hb2, hb3, by omega, fun k => Iff.rfl⟩ ?round ?done (fun _ _ _ _ _ _ _ _ _ _ _ h => h.elim)
  case round =>
    rintro l pre ⟨y, at_⟩ r X1 V K rb hl2 hpx hI hG hxl hF hlV hK
    dsimp only [encAS, kVS]
    have HK := Lib.hid hK
    have HV := Lib.hid (And.intro hpx (And.intro hI (And.intro hG (And.intro hxl (And.intro hF (And.intro hlV hl2))))))
    clear hK hpx hI hG hxl hF hlV hl2 hseq hYb hYl heg f1 f2 f12 hb0 hb1 hb2 hb3 z1 hT hB2 H0 hA
    gi_wp2_with fail
    refine HK.out _ _ (Fr.refl _ _) fun Vb hfb hzb hsb hrb => ?_
    clear HK K
    obtain ⟨hpx, ⟨k1, k2, hSl, hX1⟩, hG, hxl, hF, hlV, hl2⟩ := HV.out
    obtain ⟨f12, hb0, hb1, z1, hA⟩ := H.out
    have hpl : pre.length < want.length := by
      have := congrArg List.length hpx
      simp at this; omega
    have hgx : want[pre.length] = (y, at_) := by simp [← hpx]
    obtain ⟨g, o, rfl, hg, hcell⟩ := hA (by omega)
    have hfw : ∀ j, j < w.heap.size → Vb.heap[j]? = w.heap[j]? := fun j hj => (hfb.block j (by have := hF.size; omega) (by omega)).trans ((hF.block j (by omega) (by omega)).trans (f12.block j hj fun e => e))
    have e0 : Vb.cell? ⟨g, o + pre.length * 2, none⟩ = some (.string (bs y)) := by
      rw [World.cell?_of_block (w := w) (w' := Vb) (a := ⟨g, o + pre.length * 2, none⟩) (hfw g hg), (hcell _ hpl).1, hgx]; rfl
    have e1 : Vb.cell? ⟨g, o + pre.length * 2 + 1, none⟩ = some (.int .i64 at_) := by
      rw [World.cell?_of_block (w := w) (w' := Vb) (a := ⟨g, o + pre.length * 2 + 1, none⟩) (hfw g hg), (hcell _ hpl).2, hgx]
    have k1b := hfb.blk k1 (by omega : ¬ w.heap.size + 2 = l)
    have k2b := hfb.blk k2 (by omega : ¬ w.heap.size + 2 + 1 = l)
    have c0 := blk_cell (hfb.blk (hF.blk hb0 (by omega)) (by omega)) 0
    have c1 := blk_cell k1b 0
    have c2 := blk_cell k2b 0
    have d1 := blk_free k1b 0
    have d2 := blk_free k2b 0
    have n0 : ¬ ((want.length : Int) ≤ (pre.length : Int)) := by omega
    have n1 : ((pre.length : Int) < (want.length : Int)) := by omega
    have hzs : w.heap.size + 2 + 1 < Vb.heap.size := blk_lt k2b
    have HE := Lib.hid (And.intro k1b (And.intro k2b (And.intro hSl (And.intro hX1 (And.intro hG (And.intro hxl (And.intro hlV (And.intro hfb hrb))))))))
    have hpl2 : (pre.length : Int) ≤ 1000000 := by omega
    clear hpx k1 k2 hSl hX1 hG hxl hF hlV hl2 f12 hb0 hb1 z1 hA hgx hcell hfw k1b k2b hfb hrb hzb hsb
    gi_wp2_with fail
    obtain ⟨k1b, k2b, hSl, hX1, hG, hxl, hlV, hfb, hrb⟩ := HE.out
    have hll : ¬ (l = w.heap.size + 2 ∨ l = w.heap.size + 2 + 1) := fun e => hxl ((hX1 l).2 e)
    have hf3 : Fr X1 Vb ((Vb.setCell ⟨w.heap.size + 1 + 1 + 1, 0, none⟩ (Value.bool true)).setCell ⟨w.heap.size + 1 + 1, 0, none⟩ (Value.int IntKind.i64 ((pre.length : Int) + 1))) := ((Fr.refl X1 Vb).setCell _ ((hX1 _).2 (.inr rfl)) _).setCell _ ((hX1 _).2 (.inl rfl)) _
    refine ⟨X1, fun k hk => ⟨Nat.lt_of_lt_of_le (hG k hk).1 (Nat.le_trans hfb.size hf3.size), fun _ => hk⟩, (hfb.mono (Y := fun k => k = l ∨ X1 k) fun k _ e => .inl e).trans3 hf3 fun k _ e => .inr e, hf3.blk hrb hxl, ?_, ?_, hSl, hX1⟩
    · rw [List.length_append]
      exact blk_set (blk_other k1b _ (by simp) _) 0 _
    · exact blk_other (blk_set k2b 0 _) _ (by simp) _
  case done =>
    rintro D X2 V hD hxD hG hF ⟨k1, k2, hSl, hX2⟩ hdef
    have k0 := hF.blk hb0 (by omega)
    have kr := hF.blk hb1 (by omega)
    have c0 := blk_cell k0 0
    have c1 := blk_cell k1 0
    have c2 := blk_cell k2 0
    have c3 := blk_cell kr 0
    have d3 := blk_free kr 0
    have b4 : RowKit.Below w.heap.size w V := ((f12.mono (Y := fun k => k = w.heap.size + 2 ∨ k = w.heap.size + 2 + 1) fun _ _ e => e.elim).trans3 hF fun k _ e => e).below (Nat.le_refl _) fun k _ e => by omega
    have hzs : w.heap.size + 1 < V.heap.size := blk_lt kr
    have HQ := Lib.hid (And.intro hdef (And.intro b4 (And.intro hD (And.intro kr (And.intro z1 hzz)))))
    clear k0 k1 k2 kr hSl hX2 hdef hxD hG hF b4 hD hseq hYb hYl heg f1 f2 f12 hb0 hb1 hb2 hb3 z1 hT hB2 H0 hA H hzz
    gi_wp2_with fail
    obtain ⟨hdef, b4, hD, kr, z1, hzz⟩ := HQ.out
    have d5 := blk_other hdef ⟨w.heap.size + 1, 0, none⟩ (by simp; omega) (Value.bool true)
    have b5 := b4.setCell (p := ⟨w.heap.size + 1, 0, none⟩) (by simp) (Value.bool true)
    have kr5 := blk_set kr 0 (Value.bool true)
    refine leaves_one D _ d5 fun w' hf => ⟨_, results_box rfl _ _ (w.heap.size + 1) (.bool true) _ rfl (blk_cell (hf.blk kr5 (by omega)) 0) Try.underlying4 rfl, rfl, b5.trans (hf.below b5.size fun k _ e => by omega)⟩
theorem readsK_of {base : Nat} {w : World} {A : Option Addr} {n c : Nat} {xs : List KeyS} (h : OwnKS base w (.slice A n c) xs) : 0 < xs.length → ∃ g o, A = some ⟨g, o, none⟩ ∧ g < w.heap.size ∧ ∀ j (h : j < xs.length), w.cell? ⟨g, o + j, none⟩ = some (kVS xs[j]) := fun h0 => by
  have h' := h
  rcases h.2 with ⟨h1, h2⟩ | ⟨g, cap, cur, h1, h3, h4, h5, _, h6, h7⟩
  · omega
  · injection h1 with q1 q2 q3
    subst q1
    refine ⟨g, 0, rfl, blk_lt h4, fun j hj => ?_⟩
    have := h'.cells (g := g) rfl j (kVS xs[j]) (by simp [hj])
    have hadd : (⟨g, 0, none⟩ : Addr).add j = ⟨g, 0 + j, none⟩ := by
      unfold Addr.add
      split
      · simp_all
      · rfl
    rw [hadd] at this
    exact this
theorem awake9_due : dueMS [([98], 5), ([97], 5), ([99], 3)] 5 = [([99], 3), ([97], 5), ([98], 5)] := by
  refine rise_eqS (dueMS_rise (by decide) 5) (by decide) ?_
  refine (sortTS_perm _).trans ?_
  exact (List.reverse_perm [([99], (3 : Int)), ([97], 5), ([98], 5)])
set_option maxRecDepth 100000 in
set_option maxHeartbeats 8000000 in
theorem awake9 (w : World) : Calls Try.prog 9 #[] w fun e w' => e = .returned (.bool true) ∧ RowKit.Below w.heap.size w w' := by
  go_enter Try.func9, Try.ntmps9
  go_wp2_with fail
  refine (tim_newS w).mono ?_
  rintro e w1 ⟨t, b, rfl, h1, b1⟩
  have hz := b1.size
  have HB := Lib.hid b1
  have H1 := Lib.hid h1
  clear h1 b1
  go_wp2_with fail
  refine (tim_setS (k := [98]) (v := 5) H1.out (by unfold OkKS maxLen; decide) (by decide) (by decide)).mono ?_
  rintro e w2 ⟨rfl, h2, f2⟩
  have H2 := Lib.hid h2
  have B2 := Lib.hid (HB.out.trans (f2.below hz fun k _ e => by rw [e]; exact h2.2.1))
  clear h2 f2 H1 HB
  go_wp2_with fail
  have hz2 := B2.out.size
  refine (tim_setS (k := [97]) (v := 5) H2.out (by unfold OkKS maxLen; decide) (by decide) (by decide)).mono ?_
  rintro e w3 ⟨rfl, h3, f3⟩
  have H3 := Lib.hid h3
  have B3 := Lib.hid (B2.out.trans (f3.below hz2 fun k _ e => by rw [e]; exact h3.2.1))
  clear h3 f3 H2 B2
  go_wp2_with fail
  have hz3 := B3.out.size
  refine (tim_setS (k := [99]) (v := 3) H3.out (by unfold OkKS maxLen; decide) (by decide) (by decide)).mono ?_
  rintro e w4 ⟨rfl, h4, f4⟩
  have H4 : Hid (TabS w.heap.size w4 t b [([98], 5), ([97], 5), ([99], 3)]) := h4
  have B4 := Lib.hid (B3.out.trans (f4.below hz3 fun k _ e => by rw [e]; exact h4.2.1))
  clear h4 f4 H3 B3
  go_wp2_with fail
  have hz4 := B4.out.size
  refine (tim_takeS H4.out (by decide) 5).mono ?_
  rintro e w5 ⟨⟨v, rfl, o5⟩, h5, f5⟩
  rw [awake9_due] at o5
  obtain ⟨A, c, ev⟩ := row_slice o5
  subst ev
  obtain ⟨g, o, rfl, hg, hcell⟩ := readsK_of o5 (by decide)
  have c0 : w5.cell? ⟨g, o, none⟩ = some (.string ⟨#[99]⟩) := hcell 0 (by decide)
  have c1 : w5.cell? ⟨g, o + 1, none⟩ = some (.string ⟨#[97]⟩) := hcell 1 (by decide)
  have c2 : w5.cell? ⟨g, o + 2, none⟩ = some (.string ⟨#[98]⟩) := hcell 2 (by decide)
  have hlen := tim_lenS h5
  have hn : ([([98], 5), ([97], 5), ([99], 3)] : List (KeyS × Int)).filter (fun p => decide ((5 : Int) < p.2)) = [] := by decide
  rw [hn] at hlen
  have HL := Lib.hid hlen
  have B5 := Lib.hid (B4.out.trans (f5.below hz4 fun k _ e => by rw [e]; exact h5.2.1))
  clear o5 hg hcell hlen h5 f5 H4 B4 hn
  go_wp2_with fail
  refine HL.out.mono ?_
  rintro e w6 ⟨rfl, rfl⟩
  go_wp2_with fail
  go_ret
  exact ⟨rfl, B5.out⟩
end Go.Proofs.Ytbgmjieagnmpkaa
