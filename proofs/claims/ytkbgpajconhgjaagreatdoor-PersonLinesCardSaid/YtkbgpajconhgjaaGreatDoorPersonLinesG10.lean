/- Texts of this proof, one behind the other. -/
import Derived.Test.YtkbgpajconhgjaaGreatDoorPersonLinesG5
import Derived.Test.YtkbgpajconhgjaaGreatDoorPersonLinesG1
import Derived.Test.YtkbgpajconhgjaaGreatDoorChecked
import Derived.RangeFuncKeeps
import Derived.Outline
set_option linter.unusedVariables false
set_option linter.unusedSimpArgs false
section
/- Layer 22: the law's listed, and gather. -/
namespace Go.Proofs.YtkbgpajconhgjaaGreatDoor
open Go Go.RowKit Go.Lib
attribute [local go_sem] Oper.semAt_some

/-- the blocks of what is listed -/
def lisY (B : Nat) (A : Option Addr) (xs : List (List UInt8)) : Nat → Prop := fun b => b = B ∨ (0 < xs.length ∧ ∃ o, A = some ⟨b, o, none⟩)
set_option maxRecDepth 100000 in
set_option maxHeartbeats 4000000 in
theorem listed_seqF (B : Nat) (A : Option Addr) (c : Nat) (xs : List (List UInt8)) (w : World) (hxs : xs.length ≤ 1000000) (hb : w.heap[B]? = some (.cells #[.slice A xs.length c] 26 (0, 0))) (hr : ReadsT w A xs) :
    SeqF Tryz.prog 24 #[.pointer (some ⟨B, 0, none⟩)] encL (lisY B A xs) xs w := fun l J Jx X V hs hYl hX hJ hJx hY h0 => by
  have hbV := (hs B (.inl rfl)).trans hb
  have hBV : B < V.heap.size := blk_lt hbV
  have hrV : ReadsT V A xs := fun h1 => by
    obtain ⟨g, o, e, hg, hc⟩ := hr h1
    have hgY : lisY B A xs g := .inr ⟨h1, o, e⟩
    exact ⟨g, o, e, hYl g hgY, fun j hj => (World.cell?_of_block (w := w) (w' := V) (a := ⟨g, o + j, none⟩) (hs g hgY)).trans (hc j hj)⟩
  have HR := Lib.hid hrV
  have HB : Hid (∀ (X1 : Nat → Prop) (W : World), Fr X V W → W.cell? ⟨B, 0, none⟩ = some (.slice A xs.length c)) := Lib.hid fun X1 W hf => blk_cell (hf.blk hbV fun e => (hX B e).2 (.inl rfl)) 0
  have HY := Lib.hid hY
  have HX := Lib.hid hX
  have h00 : Hid (∃ X1, GrowX X X1 V V ∧ Fr X V V ∧ J [] X1 V) := ⟨X, GrowX.refl fun k hk => (hX k hk).1, Fr.refl _ _, h0⟩
  clear hb hr hs hrV hbV hY hX h0 hJ hJx hYl
  refine (callsIn_wide (n := 20)).1 ?_
  refine callsIn_of_wp Tryz.func24 rfl trivial ?_ rfl
  simp only [Tryz.ntmps24, List.size_toArray, List.length_cons, List.length_nil, Nat.reduceAdd, Nat.reduceSub, Array.replicate_succ, Array.replicate_zero, List.push_toArray, List.append_toArray, List.nil_append, List.cons_append]
  gi_wp2
  gi_loopw [3] (fun c1 wr => ∃ k : Nat, c1 = .int .i64 k ∧ k ≤ xs.length ∧ Hid (∃ X1, GrowX X X1 V wr ∧ Fr X V wr ∧ J (xs.take k) X1 wr)) (fun c1 _ => xs.length - (RowKit.intOf c1).toNat)
  case atStart => exact ⟨0, rfl, Nat.zero_le _, h00⟩
  case round =>
    obtain ⟨k, rfl, hk, HJ⟩ := hrel
    clear h00
    obtain ⟨X1, hg1, hf1, hj1⟩ := HJ.out
    have c0 := HB.out X1 wr hf1
    by_cases hlt : k < xs.length
    · obtain ⟨g, o, rfl, hg, hcell⟩ := HR.out (by omega)
      obtain ⟨x, hx⟩ : ∃ x, xs[k]'hlt = x := ⟨_, rfl⟩
      have hgY : lisY B (some ⟨g, o, none⟩) xs g := .inr ⟨by omega, o, rfl⟩
      have e0 : wr.cell? ⟨g, o + k, none⟩ = some (.string (bs x)) := by
        rw [hf1.cell (p := ⟨g, o + k, none⟩) hg (fun e => (HX.out g e).2 hgY), hcell k hlt, hx]
      have hsp : xs.take k ++ x :: xs.drop (k + 1) = xs := by rw [← hx, ← List.drop_eq_getElem_cons hlt]; exact List.take_append_drop k xs
      have htk : xs.take (k + 1) = xs.take k ++ [x] := by rw [List.take_succ_eq_append_getElem hlt, hx]
      have hyy := HY.out (xs.take k) x (xs.drop (k + 1)) X1 wr hsp hg1 hj1 hf1
      obtain ⟨fn, tmps, assign, body, hy, hR⟩ := hyy
      dsimp only [encL] at hy
      have HT := Lib.hid (And.intro htk (And.intro hsp (And.intro hg1 hf1)))
      clear hx htk hsp hg hcell hg1 hf1 hj1 hgY
      gi_wp2_with fail
      refine (round_wide (.inl rfl) hR).mono ?_
      rintro e W3 ⟨X2, g2, f2, (⟨rfl, hJ3⟩ | ⟨rfl, hJx3⟩)⟩
      · obtain ⟨htk, hsp, hg1, hf1⟩ := HT.out
        have hN : Hid (∃ X1, GrowX X X1 V W3 ∧ Fr X V W3 ∧ J (xs.take (k + 1)) X1 W3) := ⟨X2, hg1.trans g2 hf1.size, hf1.trans3 f2 fun k hk e => (hg1 k e).2 hk, by rw [htk]; exact hJ3⟩
        clear htk hsp hg1 hf1 g2 f2 hJ3 hR hy
        gi_wp2_with fail
        go_roundw
        case rel => exact ⟨k + 1, by go_num, by omega, hN⟩
        case measure => simp [RowKit.intOf]; omega
      · clear hR hy
        gi_wp2_with fail
        refine bodyPost_ret (results_none rfl _ _ _) rfl ?_
        obtain ⟨htk, hsp, hg1, hf1⟩ := HT.out
        exact ⟨⟨_, rfl⟩, X2, hg1.trans g2 hf1.size, hf1.trans3 f2 fun k hk e => (hg1 k e).2 hk, .inr ⟨_, xs.drop (k + 1), by simpa using hsp, hJx3⟩⟩
    · obtain rfl : k = xs.length := by omega
      rw [List.take_length] at hj1
      have HQ := Lib.hid (And.intro hg1 (And.intro hf1 hj1))
      clear hg1 hf1 hj1
      gi_wp2_with fail
      go_end0
      obtain ⟨hg1, hf1, hj1⟩ := HQ.out
      exact ⟨⟨_, rfl⟩, X1, hg1, hf1, .inl hj1⟩
theorem listed_m (A : Option Addr) (c : Nat) (xs : List (List UInt8)) (w : World) (hxs : xs.length ≤ 1000000) (hr : ReadsT w A xs) :
    Calls Tryz.prog 10 #[.slice A xs.length c] w fun e w' => ∃ lb, e = .returned (.func (.func 24) #[] lb) ∧ (∃ Y, TellsF Tryz.prog encL w' (.func (.func 24) #[] lb) Y xs) ∧ Below w.heap.size w w' := by
  have hbx := heap_alloc_new w (.cells #[.slice A xs.length c] 26)
  have hB : Below w.heap.size w (w.alloc (.cells #[.slice A xs.length c] 26)) := (Below.refl _ w).alloc (Nat.le_refl _) _
  have hr2 := readsT_below hr hB (Nat.le_refl _)
  have HS := Lib.hid (listed_seqF w.heap.size A c xs (w.alloc (.cells #[.slice A xs.length c] 26)) hxs hbx hr2)
  have HR := Lib.hid hr
  clear hr hr2 hbx hB
  go_enter Tryz.func10, Tryz.ntmps10
  go_wp2_with fail
  go_ret
  refine ⟨_, rfl, ⟨lisY w.heap.size A xs, _, _, rfl, HS.out, fun b hb => ?_, enters_of Tryz.func24 (by kernel_rfl) rfl⟩, (Below.refl _ w).alloc (Nat.le_refl _) _⟩
  rcases hb with rfl | ⟨h0, o, e⟩
  · simp
  · obtain ⟨g, o', e', hg, _⟩ := HR.out h0
    rw [e'] at e
    cases e
    rw [World.size_alloc]; omega
/-- a box with a row of texts: its blocks are X -/
def BoxT (S base : Nat) (pre : List (List UInt8)) (X : Nat → Prop) (W : World) : Prop := ∃ v, W.heap[S]? = some (.cells #[v] 26 (0, 0)) ∧ OwnT base W v pre ∧ S < base ∧ ∀ k, X k ↔ (k = S ∨ v.ownBlock = some k)
theorem boxT_stays (S base : Nat) : Stays (BoxT S base) := fun pre X V V' ⟨v, h1, h2, h3, h4⟩ hl hf =>
  ⟨v, hf.blk h1 (fun e => e ((h4 S).2 (.inl rfl))), ownT_kept h2 fun g hg => hf.block g (h2.lt g hg).2 fun e => e ((h4 g).2 (.inr hg)), h3, h4⟩
set_option maxRecDepth 100000 in
set_option maxHeartbeats 4000000 in
theorem gather_nil (w : World) : Calls Tryz.prog 19 #[.nilFunc] w fun e w' => e = .returned (.slice none 0 0) ∧ Below w.heap.size w w' := by
  have hnil : ∀ W, (binOp BinOp.eql 41 Value.nilFunc Value.nilFunc).run Tryz.prog W = .ok (.bool true) W := fun W => by rfl
  refine (callsIn_wide (n := 20)).1 ?_
  refine callsIn_of_wp_marks Tryz.func19 rfl trivial ?_ rfl
  simp only [Tryz.ntmps19, List.size_toArray, List.length_cons, List.length_nil, Nat.reduceAdd, Nat.reduceSub, Array.replicate_succ, Array.replicate_zero, List.push_toArray, List.append_toArray, List.nil_append, List.cons_append]
  gi_wp2_with (simp only [hnil])
  refine leavesF [] _ List.nodup_nil (fun _ h => by cases h) fun w' hf => ⟨.slice none 0 0, by simp [results, Tryz.results19, go_sem], rfl, ?_⟩
  exact ((Below.refl _ w).alloc (Nat.le_refl _) (.cells #[.slice none 0 0] 26)).trans ((hf.below (Nat.le_refl _) fun k _ e => by cases e).mono (by rw [World.size_alloc]; omega))
set_option maxRecDepth 100000 in
set_option maxHeartbeats 8000000 in
theorem gather_m (gf : Nat) (lb : Array Value) (Y : Nat → Prop) (xs : List (List UInt8)) (w : World) (hT : TellsF Tryz.prog encL w (.func (.func gf) #[] lb) Y xs) (hq : xs.length ≤ 100000) :
    Calls Tryz.prog 19 #[.func (.func gf) #[] lb] w fun e w' => ∃ v, e = .returned v ∧ OwnT w.heap.size w' v xs ∧ Below w.heap.size w w' := by
  obtain ⟨i0, hi, hz0, hz1, hz2⟩ := info_parts Tryz.infoT
  obtain ⟨w1, hw1⟩ : ∃ w1, w.alloc (Obj.cells #[Value.slice none 0 0] 26) = w1 := ⟨_, rfl⟩
  have z1 : w1.heap.size = w.heap.size + 1 := by rw [← hw1]; simp
  have f1 : Fr (fun _ => False) w w1 := by rw [← hw1]; exact (Fr.refl _ w).alloc _
  have hb1 : w1.heap[w.heap.size]? = some (.cells #[.slice none 0 0] 26 (0, 0)) := by rw [← hw1]; exact heap_alloc_new w _
  obtain ⟨gf2, lb2, he, hseq0, hYl0, heg⟩ := hT
  cases he
  have hseq : SeqF Tryz.prog gf lb encL Y xs w1 := hseq0.same fun b hb => f1.block b (hYl0 b hb) fun e => e
  have hYl : ∀ b, Y b → b < w.heap.size := hYl0
  have H := Lib.hid (And.intro f1 (And.intro hb1 (And.intro z1 hq)))
  have HW := Lib.hid hw1
  have hnil : ∀ W, (binOp BinOp.eql 41 (.func (.func gf) #[] lb) Value.nilFunc).run Tryz.prog W = .ok (.bool false) W := fun W => by rfl
  have HS := Lib.hid (And.intro hseq (And.intro hYl heg))
  clear f1 hb1 z1 hw1 hq hseq0 hYl0 hseq hYl heg
  refine (callsIn_wide (n := 20)).1 ?_
  refine callsIn_of_wp_marks Tryz.func19 rfl trivial ?_ rfl
  simp only [Tryz.ntmps19, List.size_toArray, List.length_cons, List.length_nil, Nat.reduceAdd, Nat.reduceSub, Array.replicate_succ, Array.replicate_zero, List.push_toArray, List.append_toArray, List.nil_append, List.cons_append]
  gi_wp2_with (simp only [hnil])
  rw [HW.out]
  obtain ⟨f1, hb1, z1, hq⟩ := H.out
  obtain ⟨hseq, hYl, heg⟩ := HS.out
  obtain ⟨base, hbase⟩ : ∃ b, w1.heap.size = b := ⟨_, rfl⟩
  refine wpIn_rangeF (X := fun k => k = w.heap.size) (Y := Y) (xs := xs) (encs := encL) (gf := gf) (lb := lb) (BoxT w.heap.size base) (fun _ _ _ _ => False)
    rfl hseq (fun k hk => ⟨by omega, fun e => by have := hYl k e; omega⟩) (fun b hb => by have := hYl b hb; omega) (by omega) heg (fun _ => rfl)
    (boxT_stays _ _) (fun c s X1 V1 V2 h => h.elim) ⟨_, hb1, ownT_nil _ _, by omega, fun k => by simp [Value.ownBlock]⟩ ?round ?done (fun _ _ _ _ _ _ _ _ _ _ _ h => h.elim)
  case round =>
    rintro l pre y r X1 V KK rb hl2 hpx hI hG hxl hF hlV hK
    dsimp only [encL]
    have HKK := Lib.hid hK
    have HV := Lib.hid (And.intro hpx (And.intro hI (And.intro hG (And.intro hxl (And.intro hF (And.intro hlV (And.intro hl2 hbase)))))))
    clear hK hpx hI hG hxl hF hlV hl2 hseq hYl heg f1 hb1 z1 hq hbase
    gi_wp2_with fail
    refine HKK.out _ _ (Fr.refl _ _) fun Vb hfb hzb hsb hrb => ?_
    clear HKK KK
    obtain ⟨hpx, ⟨vb, k3, o3, hSl, hX1⟩, hG, hxl, hF, hlV, hl2, hbase⟩ := HV.out
    obtain ⟨f1, hb1, z1, hq⟩ := H.out
    have hpl : pre.length + 1 ≤ xs.length := by
      have := congrArg List.length hpx
      simp at this; omega
    have k3b := hfb.blk k3 (by omega : ¬ w.heap.size = l)
    have o3b : OwnT base Vb vb pre := ownT_kept o3 fun g hg => hfb.block g (o3.lt g hg).2 fun e => hxl ((hX1 l).2 (.inr (e ▸ hg)))
    have c3 := blk_cell k3b 0
    have hzs : Vb.heap.size = V.heap.size := hzb
    have hbz : base ≤ Vb.heap.size := by have := hF.size; omega
    have hpl2 : pre.length ≤ 1000000 := by omega
    have hor : Vb.ownsRow base 9 1 vb pre.length (pre.map encT) := o3b
    have HO := Lib.hid hor
    have HE := Lib.hid (And.intro hX1 (And.intro hG (And.intro hxl (And.intro hfb (And.intro hrb (And.intro k3b (And.intro o3b (And.intro hzs (And.intro hlV (And.intro hSl hl2))))))))))
    clear hpx k3 o3 hSl hX1 hG hxl hF hlV hl2 f1 hb1 z1 hq k3b o3b hor hfb hzb hsb hrb hzs hpl hbase
    gi_wp2_with (first | (gi_at_builtin; refine Hid.out ?_))
    refine Lib.hid ?_
    refine wpListIn_one_t rfl _ _ 26 rfl base 9 i0 _ 1 16 Tryz.underlying26 hi hz0 hz1 hz2 rfl (by decide) _ _ _ rfl HO.out #[.string (bs y)] _ rfl rfl rfl (by intro u hu; simp at hu; subst hu; rfl) (by omega) (by decide) hbz ?_
    intro v1 W2 hown1 hfr1 htie
    obtain ⟨A1, c1', rfl⟩ := row_slice hown1
    have hn3 : ∀ k, vb.ownBlock = some k → k ≠ w.heap.size := fun k hk e => by have := (HO.out.lt k hk).1; have := HE.out.2.2.2.2.2.2.2.2.2.1; omega
    have e1 : W2.heap[w.heap.size]? = some (.cells #[vb] 26 (0, 0)) := hfr1.blk HE.out.2.2.2.2.2.1 fun e => hn3 _ e rfl
    have g1 := blk_cell e1 0
    have g2 := blk_free e1 0
    have HN := Lib.hid hn3
    clear hn3
    gi_wp2_with fail
    obtain ⟨hX1, hG, hxl, hfb, hrb, k3b, o3b, hzs, hlV, hSl, hl2⟩ := HE.out
    have hn3 := HN.out
    have hown2 : OwnT base W2 (.slice A1 (pre.length + 1) c1') (pre ++ [y]) := ownT_snoc hown1
    have hnx : (Value.slice A1 (pre.length + 1) c1').ownBlock ≠ some w.heap.size := fun e => by have := (hown2.lt _ e).1; omega
    have hfr : Fr (fun k => k = l ∨ X1 k) V (W2.setCell ⟨w.heap.size, 0, none⟩ (.slice A1 (pre.length + 1) c1')) :=
      (((hfb.mono (Y := fun k => k = l ∨ X1 k) fun k _ e => .inl e).trans3 hfr1 fun k _ e => .inr ((hX1 k).2 (.inr e)))).setCell _ (.inr ((hX1 _).2 (.inl rfl))) _
    refine ⟨fun k => k = w.heap.size ∨ (Value.slice A1 (pre.length + 1) c1').ownBlock = some k, fun k hk => ?_, hfr, ?_, .slice A1 (pre.length + 1) c1', blk_set e1 0 _, ?_, hSl, fun k => Iff.rfl⟩
    · have hz2 := hfr1.size
      have hsz : (W2.setCell ⟨w.heap.size, 0, none⟩ (.slice A1 (pre.length + 1) c1')).heap.size = W2.heap.size := by simp
      rw [hsz]
      rcases hk with rfl | hk
      · exact ⟨blk_lt e1, fun _ => (hX1 _).2 (.inl rfl)⟩
      · refine ⟨(hown2.lt k hk).2, fun hlt => ?_⟩
        rcases htie k hk with e | e
        · exact (hX1 k).2 (.inr e)
        · omega
    · have hl3 : ¬ vb.ownBlock = some l := fun e => hxl ((hX1 l).2 (.inr e))
      have z1' := H.out.2.2.1
      exact blk_other (hfr1.blk hrb hl3) _ (by simp; omega) _
    · exact ownT_kept hown2 fun g hg => heap_setCell_other W2 _ g _ fun e => by simp at e; exact hnx (e ▸ hg)
  case done =>
    rintro D X2 V hD hxD hG hF ⟨v, k3, o3, hSl, hX2⟩ hdef
    obtain ⟨A, cp, rfl⟩ := row_slice o3
    have c3 := blk_cell k3 0
    have HE := Lib.hid (And.intro o3 (And.intro hF (And.intro hdef (And.intro hxD (And.intro hX2 (And.intro hSl hD))))))
    clear k3 o3 hF hdef hxD hX2 hSl hD hG hseq hYl heg f1 hb1 z1 hq
    gi_wp2_with fail
    obtain ⟨o3, hF, hdef, hxD, hX2, hSl, hD⟩ := HE.out
    obtain ⟨f1, hb1, z1, hq⟩ := H.out
    have f4 : RowKit.Below w.heap.size w V := by
      have h5 : Fr (fun k => k = w.heap.size) w V := (f1.mono (Y := fun k => k = w.heap.size) fun _ _ e => e.elim).trans3 hF fun k _ e => e
      exact h5.below (Nat.le_refl _) fun k hk e => by omega
    refine leaves_one D _ hdef fun w' hf => ?_
    refine ⟨.slice A xs.length cp, by simp [results, Tryz.results19, go_sem], .slice A xs.length cp, rfl, ?_, f4.trans (hf.below f4.size fun k _ e => by omega)⟩
    refine ownT_base (ownT_kept o3 fun g hg => hf.block g (o3.lt g hg).2 fun e => hxD ((hX2 D).2 (.inr (e ▸ hg)))) (by omega)
end Go.Proofs.YtkbgpajconhgjaaGreatDoor
end
section
/- Layer 22: person.Seen, person.Userhost of what the law looks at first; PersonHidden. -/
namespace Go.Proofs.YtkbgpajconhgjaaGreatDoor
open Go.RowKit Go.Shelf

theorem below_two (w : World) (x y) : Below w.heap.size w ((w.alloc x).alloc y) := ((Below.refl _ w).alloc (Nat.le_refl _) x).alloc (by simp) y

theorem userhost_ann (w : World) :
    Calls Tryz.prog 14 #[.agg #[.int .i64 0, .string ⟨#[97, 110, 110]⟩, .string ⟨#[117]⟩, .string ⟨#[104]⟩, .string ⟨#[]⟩, .string ⟨#[120]⟩, .bool false, .bool false, .int .i64 0, .int .i64 0]] w fun e w' => e = .returned (.string ⟨#[97, 110, 110, 61, 45, 117, 64, 104]⟩) ∧ Below w.heap.size w w' := by
  go_enter Tryz.func14, Tryz.ntmps14
  go_wp2_with fail
  go_ret
  exact ⟨ret_str (by rfl), by first | exact Below.refl _ _ | exact (Below.refl _ _).alloc (Nat.le_refl _) _ | exact below_two _ _ _⟩

theorem awake22 (w : World) : Calls Tryz.prog 4 #[] w fun e w' => e = .returned (.bool true) ∧ Below w.heap.size w w' := by
  go_enter Tryz.func4, Tryz.ntmps4
  go_wp2_with fail
  refine (userhost_ann _).mono ?_
  rintro e w1 ⟨rfl, q1⟩
  go_wp2_with fail
  go_ret
  exact ⟨ret_bool (by decide), by first | exact q1 | exact ((Below.refl _ w).alloc (Nat.le_refl _) _).trans (q1.mono (by simp))⟩



end Go.Proofs.YtkbgpajconhgjaaGreatDoor
end
section
/- Layer 22: person.Seen, Marks, Who, Userhost and the document's answers to them, of anybody. -/
namespace Go.Proofs.YtkbgpajconhgjaaGreatDoor
open Go.RowKit Go.Shelf

/-- somebody, as a value -/
def per (id : Int) (n u h r a : ByteArray) (o d : Bool) (si sp : Int) : Value :=
  .agg #[.int .i64 id, .string n, .string u, .string h, .string r, .string a, .bool o, .bool d, .int .i64 si, .int .i64 sp]
def memb (id : Int) (op vo : Bool) : Value := .agg #[.int .i64 id, .bool op, .bool vo]
def atB : ByteArray := ⟨#[64]⟩
def plB : ByteArray := ⟨#[43]⟩
def marksB (op vo many : Bool) : ByteArray := if op then (if vo && many then ⟨#[64, 43]⟩ else ⟨#[64]⟩) else (if vo then ⟨#[43]⟩ else ⟨#[]⟩)
def hostB (n u h : ByteArray) (o e : Bool) : ByteArray := (if o then n ++ ⟨#[42]⟩ else n) ++ (if e then ⟨#[61, 43]⟩ else ⟨#[61, 45]⟩) ++ u ++ ⟨#[64]⟩ ++ h



theorem marks_any (i : Int) (op vo many : Bool) (w : World) :
    Calls Tryz.prog 15 #[memb i op vo, .bool many] w fun e w' => e = .returned (.string (marksB op vo many)) ∧ Below w.heap.size w w' := by
  unfold memb
  cases op <;> cases vo <;> cases many
  all_goals
    go_enter Tryz.func15, Tryz.ntmps15
    go_wp2_with fail
    go_ret
    exact ⟨ret_str (by rfl), by first | exact Below.refl _ _ | exact (Below.refl _ _).alloc (Nat.le_refl _) _⟩
theorem rmarks_any (i : Int) (op vo many : Bool) (w : World) :
    Calls Tryz.prog 18 #[memb i op vo, .bool many] w fun e w' => e = .returned (.string (marksB op vo many)) ∧ Below w.heap.size w w' := by
  unfold memb
  cases op <;> cases vo <;> cases many
  all_goals
    go_enter Tryz.func18, Tryz.ntmps18
    go_wp2_with fail
    go_ret
    exact ⟨ret_str (by rfl), by first | exact Below.refl _ _ | exact (Below.refl _ _).alloc (Nat.le_refl _) _⟩
theorem ba_assoc (a b c : ByteArray) : a ++ b ++ c = a ++ (b ++ c) := by
  apply ba_ext; simp
theorem userhost_any (a : Int) (n u h r y : ByteArray) (o d : Bool) (si sp : Int) (w : World) (hn : n.size ≤ 200) (hu : u.size ≤ 200) (hh : h.size ≤ 200) :
    Calls Tryz.prog 14 #[per a n u h r y o d si sp] w fun e w' => e = .returned (.string (hostB n u h o y.toList.isEmpty)) ∧ Below w.heap.size w w' := by
  unfold per
  obtain ⟨z, hz⟩ : ∃ z, y.toList.isEmpty = z := ⟨_, rfl⟩
  rw [hz]
  cases o <;> cases z
  all_goals
    go_enter Tryz.func14, Tryz.ntmps14
    go_wp2_with fail
    go_ret
    exact ⟨ret_str (by apply ba_ext; simp [hostB]), by first | exact Below.refl _ _ | exact (Below.refl _ _).alloc (Nat.le_refl _) _⟩

def whoB (n u h : ByteArray) : ByteArray := n ++ ⟨#[33]⟩ ++ u ++ ⟨#[64]⟩ ++ h

end Go.Proofs.YtkbgpajconhgjaaGreatDoor
end
