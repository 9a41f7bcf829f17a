/- Layer 16: Due, as a function that tells a known row; the law's same. -/
import Derived.Test.YtbgmjieagnmpkaaPulC
namespace Go.Proofs.Ytbgmjieagnmpkaa
set_option linter.unusedVariables false
set_option linter.unusedSimpArgs false
open Go Go.RowKit Go.Maps Go.Sort Go.Shelf Go.Lib
attribute [local go_sem] Oper.semAt_some

def encPD (p : Int × Int) : Array Value := #[.int .i64 p.1, .int .i64 p.2]
def ReadsD (w : World) (A : Option Addr) (xs : List (Int × Int)) : Prop := 0 < xs.length → ∃ g o, A = some ⟨g, o, none⟩ ∧ g < w.heap.size ∧ ∀ j (h : j < xs.length), w.cell? ⟨g, o + j * 2, none⟩ = some (.int .i64 xs[j].1) ∧ w.cell? ⟨g, o + j * 2 + 1, none⟩ = some (.int .i64 xs[j].2)
theorem reads_ownD {base : Nat} {w : World} {A : Option Addr} {n c : Nat} {xs : List (Int × Int)} (h : OwnD base w (.slice A n c) xs) : ReadsD w A xs := fun h0 => by
  have h' := h
  rcases h.2 with ⟨h1, h2⟩ | ⟨g, cap, cur, h1, h3, h4, h5, _, h6, h7⟩
  · omega
  · injection h1 with q1 q2 q3
    subst q1
    have hadd : ∀ j, (⟨g, 0, none⟩ : Addr).add j = ⟨g, 0 + j, none⟩ := fun j => by
      unfold Addr.add
      split
      · simp_all
      · rfl
    have key : ∀ t u, (xs.flatMap encD)[t]? = some u → w.cell? ⟨g, 0 + t, none⟩ = some u := fun t u ht => by
      have := h'.cells (g := g) rfl t u ht
      rwa [hadd] at this
    refine ⟨g, 0, rfl, blk_lt h4, fun j hj => ⟨key (j * 2) _ ?_, ?_⟩⟩
    · rw [flatMap_get encD 2 (fun _ => rfl) (by decide) xs (j * 2) (by omega), Nat.mul_div_cancel j (by decide), Nat.mul_mod_left]
      simp [List.getD, hj, encD]
    · have := key (j * 2 + 1) (.int .i64 xs[j].2) (by
        rw [flatMap_get encD 2 (fun _ => rfl) (by decide) xs (j * 2 + 1) (by omega), show (j * 2 + 1) / 2 = j by omega, show (j * 2 + 1) % 2 = 1 by omega]
        simp [List.getD, hj, encD])
      exact this
def rowYD (B : Nat) (v : Value) : Nat → Prop := fun b => b = B ∨ v.ownBlock = some b
set_option maxRecDepth 100000 in
set_option maxHeartbeats 4000000 in
theorem pul_seq (base B : Nat) (v : Value) (xs : List (Int × Int)) (w : World) (hxs : xs.length ≤ 1000000) (hb : w.heap[B]? = some (.cells #[v] 111 (0, 0))) (hr : OwnD base w v xs) :
    SeqF Try.prog 55 #[.pointer (some ⟨B, 0, none⟩)] encPD (rowYD B v) xs w := fun l J Jx X V hs hYl hX hJ hJx hY h0 => by
  have hbV := (hs B (.inl rfl)).trans hb
  have hrV : OwnD base V v xs := ownD_kept hr fun g hg => hs g (.inr hg)
  obtain ⟨A, c, rfl⟩ := row_slice hr
  have c0 : V.cell? ⟨B, 0, none⟩ = some (.slice A xs.length c) := (blk_cell hbV 0).trans rfl
  have HR := Lib.hid (reads_ownD hrV)
  have HO := Lib.hid hrV
  have HY := Lib.hid hY
  have HX := Lib.hid hX
  have HJ := Lib.hid hJ
  have h00 : Hid (∃ X1, GrowX X X1 V V ∧ Fr X V V ∧ J [] X1 V) := ⟨X, GrowX.refl fun k hk => (hX k hk).1, Fr.refl _ _, h0⟩
  clear hb hr hs hrV hbV hY hX h0 hJ hJx hYl
  refine (callsIn_wide (n := 20)).1 ?_
  refine callsIn_of_wp Try.func55 rfl trivial ?_ rfl
  simp only [Try.ntmps55, List.size_toArray, List.length_cons, List.length_nil, Nat.reduceAdd, Nat.reduceSub, Array.replicate_succ, Array.replicate_zero, List.push_toArray, List.append_toArray, List.nil_append, List.cons_append]
  gi_wp2
  gi_loopw [4, 7] (fun _ c1 wr => ∃ k : Nat, c1 = .int .i64 k ∧ k ≤ xs.length ∧ Hid (∃ X1, GrowX X X1 V wr ∧ Fr X V wr ∧ J (xs.take k) X1 wr)) (fun _ c1 _ => xs.length - (RowKit.intOf c1).toNat)
  case atStart => exact ⟨0, rfl, Nat.zero_le _, h00⟩
  case round =>
    obtain ⟨k, rfl, hk, HJ2⟩ := hrel
    clear h00
    obtain ⟨X1, hg1, hf1, hj1⟩ := HJ2.out
    by_cases hlt : k < xs.length
    · obtain ⟨g, o, rfl, hg, hcell⟩ := HR.out (by omega)
      obtain ⟨⟨x, at_⟩, hx⟩ : ∃ x, xs[k] = x := ⟨_, rfl⟩
      have hgY : rowYD B (.slice (some ⟨g, o, none⟩) xs.length c) g := by
        rcases HO.out.2 with ⟨e, _⟩ | ⟨g2, cap, cur, e, _⟩
        · cases e
        · cases e; exact .inr rfl
      have hnx : ¬ X g := fun e => (HX.out g e).2 hgY
      have e0 : wr.cell? ⟨g, o + k * 2, none⟩ = some (.int .i64 x) := by
        rw [hf1.cell (p := ⟨g, o + k * 2, none⟩) hg hnx, (hcell k hlt).1, hx]
      have e1 : wr.cell? ⟨g, o + k * 2 + 1, none⟩ = some (.int .i64 at_) := by
        rw [hf1.cell (p := ⟨g, o + k * 2 + 1, none⟩) hg hnx, (hcell k hlt).2, hx]
      have hsp : xs.take k ++ (x, at_) :: xs.drop (k + 1) = xs := by rw [← hx, ← List.drop_eq_getElem_cons hlt]; exact List.take_append_drop k xs
      have htk : xs.take (k + 1) = xs.take k ++ [(x, at_)] := by rw [List.take_succ_eq_append_getElem hlt, hx]
      obtain ⟨wa, hwa⟩ : ∃ wa, wr.alloc (Obj.cells #[.int .i64 x, .int .i64 at_] 115) = wa := ⟨_, rfl⟩
      have ka : wa.heap[wr.heap.size]? = some (.cells #[.int .i64 x, .int .i64 at_] 115 (0, 0)) := by rw [← hwa]; exact heap_alloc_new _ _
      have c5 := blk_cell ka 0
      have c6 := blk_cell ka 1
      have fa : Fr (fun _ => False) wr wa := by rw [← hwa]; exact (Fr.refl _ wr).alloc _
      have hg2 : GrowX X X1 V wa := fun j hj => ⟨Nat.lt_of_lt_of_le (hg1 j hj).1 fa.size, (hg1 j hj).2⟩
      have hf2 : Fr X V wa := hf1.trans3 fa fun _ _ e => e.elim
      have hyy := HY.out (xs.take k) (x, at_) (xs.drop (k + 1)) X1 wa hsp hg2 (HJ.out.fr hj1 (fun j hj => (hg1 j hj).1) fa fun _ e => e.elim) hf2
      obtain ⟨fn, tmps, assign, body, hy, hR⟩ := hyy
      dsimp only [encPD] at hy
      have HT := Lib.hid (And.intro htk (And.intro hsp (And.intro hg2 hf2)))
      have HW := Lib.hid hwa
      clear hx htk hsp hg hcell hg1 hf1 hj1 hgY hnx fa hg2 hf2 hwa ka
      gi_wp2_with (rw [HW.out])
      refine (round_wide (.inl rfl) hR).mono ?_
      rintro e W3 ⟨X2, g2, f2, (⟨rfl, hJ3⟩ | ⟨rfl, hJx3⟩)⟩
      · obtain ⟨htk, hsp, hg1, hf1⟩ := HT.out
        have hN : Hid (∃ X1, GrowX X X1 V W3 ∧ Fr X V W3 ∧ J (xs.take (k + 1)) X1 W3) := ⟨X2, hg1.trans g2 hf1.size, hf1.trans3 f2 fun k hk e => (hg1 k e).2 hk, by rw [htk]; exact hJ3⟩
        clear htk hsp hg1 hf1 g2 f2 hJ3 hR hy
        gi_wp2_with fail
        go_roundw
        case rel => exact ⟨k + 1, by go_num, by omega, hN⟩
        case measure => simp [RowKit.intOf]; omega
      · clear hR hy
        gi_wp2_with fail
        refine bodyPost_ret (results_none rfl _ _ _) rfl ?_
        obtain ⟨htk, hsp, hg1, hf1⟩ := HT.out
        exact ⟨⟨_, rfl⟩, X2, hg1.trans g2 hf1.size, hf1.trans3 f2 fun k hk e => (hg1 k e).2 hk, .inr ⟨_, xs.drop (k + 1), by simpa using hsp, hJx3⟩⟩
    · obtain rfl : k = xs.length := by omega
      rw [List.take_length] at hj1
      have HQ := Lib.hid (And.intro hg1 (And.intro hf1 hj1))
      clear hg1 hf1 hj1
      gi_wp2_with fail
      go_end0
      obtain ⟨hg1, hf1, hj1⟩ := HQ.out
      exact ⟨⟨_, rfl⟩, X1, hg1, hf1, .inl hj1⟩
/-- what tells xs: a tale, its box, the row in it -/
def TaleD (base : Nat) (w : World) (F : Value) (xs : List (Int × Int)) : Prop := ∃ B v, base ≤ B ∧ F = .func (.func 55) #[] #[.pointer (some ⟨B, 0, none⟩)] ∧ w.heap[B]? = some (.cells #[v] 111 (0, 0)) ∧ v.ownBlock ≠ some B ∧ OwnD base w v xs
theorem taleD_tells {base : Nat} {w : World} {F : Value} {xs : List (Int × Int)} (h : TaleD base w F xs) (hl : xs.length ≤ 1000000) : ∃ Y, (∀ b, Y b → base ≤ b) ∧ TellsF Try.prog encPD w F Y xs := by
  obtain ⟨B, v, h1, rfl, h3, h4, h5⟩ := h
  refine ⟨rowYD B v, fun b hb => ?_, _, _, rfl, pul_seq base B v xs w hl h3 h5, fun b hb => ?_, enters_of Try.func55 (by kernel_rfl) rfl⟩
  · rcases hb with rfl | hb
    · exact h1
    · exact (h5.lt b hb).1
  · rcases hb with rfl | hb
    · exact blk_lt h3
    · exact (h5.lt b hb).2
theorem taleD_fr {base : Nat} {w W : World} {F : Value} {xs : List (Int × Int)} {X : Nat → Prop} (h : TaleD base w F xs) (hf : Fr X w W) (hx : ∀ k, base ≤ k → k < w.heap.size → ¬ X k) : TaleD base W F xs := by
  obtain ⟨B, v, h1, h2, h3, h4, h5⟩ := h
  exact ⟨B, v, h1, h2, hf.blk h3 (hx B h1 (blk_lt h3)), h4, ownD_kept h5 fun g hg => hf.block g (h5.lt g hg).2 (hx g (h5.lt g hg).1 (h5.lt g hg).2)⟩
/-- what is due, told -/
def DueG (base : Nat) (B : PB) (pg gr rg : Int) (L Q A : Tab) (now : Int) (w : World) (e : Ending) (w' : World) : Prop :=
  (∃ F R, e = .returned F ∧ TaleD w.heap.size w' F R ∧ (R.Pairwise fun x y => x.1 < y.1) ∧ (∀ p, p ∈ R ↔ p ∈ rowsP gr now (dueMI L now) (dueMI A now) (dueMI Q now)) ∧ R.length ≤ 1000000) ∧ PulG base w' B pg gr rg L ((dueMI Q now).foldl (stepQ gr now) Q) ((dueMI Q now).foldl (stepA gr now) A) ∧ Fr B.X w w'
set_option maxHeartbeats 2000000 in
theorem pul_due {base : Nat} {w : World} {B : PB} {pg gr rg : Int} {L Q A : Tab} (h : PulG base w B pg gr rg L Q A) (hd : (∀ i v u, (i, v) ∈ L → (i, u) ∉ A) ∧ (∀ i v u, (i, v) ∈ L → (i, u) ∉ Q) ∧ (∀ i v u, (i, v) ∈ A → (i, u) ∉ Q)) {now : Int} (hn : 0 ≤ now ∧ now ≤ 100000000000) (hl : L.length ≤ 1000 ∧ Q.length ≤ 1000 ∧ A.length ≤ 1000) :
    Calls Try.prog 42 #[.pointer (some ⟨B.p, 0, none⟩), .int .i64 now] w (DueG base B pg gr rg L Q A now w) := by
  obtain ⟨w1, hw1⟩ : ∃ w1, w.alloc (Obj.cells #[Value.slice none 0 0] 111) = w1 := ⟨_, rfl⟩
  have z1 : w1.heap.size = w.heap.size + 1 := by rw [← hw1]; simp
  have f1 : Fr (fun _ => False) w w1 := by rw [← hw1]; exact (Fr.refl _ w).alloc _
  have k1 : w1.heap[w.heap.size]? = some (.cells #[.slice none 0 0] 111 (0, 0)) := by rw [← hw1]; exact heap_alloc_new w _
  have HT := Lib.hid (pul_take (h.fr f1 fun k e => e.elim) hd hn hl)
  have HW := Lib.hid hw1
  have H1 := Lib.hid (And.intro z1 (And.intro f1 (And.intro k1 h)))
  clear hw1 z1 f1 k1 h hd
  go_enter Try.func42, Try.ntmps42
  go_wp2_with fail
  rw [HW.out]
  refine HT.out.mono ?_
  rintro e w2 ⟨⟨v, R, rfl, o2, hR1, hR2, hR3⟩, g2, f2⟩
  obtain ⟨z1, f1, k1, h⟩ := H1.out
  have hlt := h.lt
  have hnX : ∀ k, w.heap.size ≤ k → ¬ B.X k := fun k hk e => by rcases e with e | e | e <;> omega
  have k2 := f2.blk k1 (hnX _ (Nat.le_refl _))
  obtain ⟨A1, c1, ev⟩ := row_slice o2
  subst ev
  have d2 := blk_free k2 0
  have c2 := blk_cell k2 0
  have HQ := Lib.hid (And.intro o2 (And.intro hR1 (And.intro hR2 (And.intro hR3 (And.intro g2 (And.intro f2 k2))))))
  clear o2 hR1 hR2 hR3 g2 f2 k2 z1 f1 k1 h
  go_wp2_with fail
  go_ret
  obtain ⟨o2, hR1, hR2, hR3, g2, f2, k2⟩ := HQ.out
  obtain ⟨z1, f1, k1, h⟩ := H1.out
  have f3 : Fr (fun k => k = w.heap.size) w2 (w2.setCell ⟨w.heap.size, 0, none⟩ (.slice A1 R.length c1)) := Fr.setCell (X := fun k => k = w.heap.size) (Fr.refl _ w2) ⟨w.heap.size, 0, none⟩ rfl _
  have hno : ∀ g, (Value.slice A1 R.length c1).ownBlock = some g → g ≠ w.heap.size := fun g hg e => by have := (o2.lt g hg).1; omega
  refine ⟨⟨_, R, rfl, ⟨w.heap.size, _, Nat.le_refl _, rfl, blk_set k2 0 _, fun e => hno _ e rfl, ?_⟩, hR1, hR2, hR3⟩, g2.fr f3 fun k e => by subst e; omega, ?_⟩
  · exact ownD_base (ownD_kept o2 fun g hg => f3.block g (o2.lt g hg).2 (hno g hg)) (by omega)
  · exact ((f1.mono (Y := B.X) fun _ _ e => e.elim).trans f2).trans3 f3 fun k hk e => by omega
set_option maxHeartbeats 2000000 in
/-- nothing is due of a nil pulse -/
theorem pul_due_nil (now : Int) (w : World) : Calls Try.prog 42 #[.pointer none, .int .i64 now] w fun e w' => (∃ F, e = .returned F ∧ TaleD w.heap.size w' F []) ∧ Fr (fun _ => False) w w' := by
  go_enter Try.func42, Try.ntmps42
  go_wp2_with fail
  go_ret
  exact ⟨⟨_, rfl, w.heap.size, .slice none 0 0, Nat.le_refl _, rfl, heap_alloc_new w _, by simp [Value.ownBlock], ownD_nil _ _⟩, (Fr.refl _ w).alloc _⟩
/-- two boxes: how many came; all well so far -/
def SameD (S base : Nat) (pre : List (Int × Int)) (X : Nat → Prop) (W : World) : Prop := W.heap[S]? = some (.cells #[.int .i64 (pre.length : Int)] 3 (0, 0)) ∧ W.heap[S + 1]? = some (.cells #[.bool true] 4 (0, 0)) ∧ S + 1 < base ∧ ∀ k, X k ↔ (k = S ∨ k = S + 1)
theorem sameD_stays (S base : Nat) : Stays (SameD S base) := fun pre X V V' ⟨h1, h2, h3, h4⟩ hl hf =>
  ⟨hf.blk h1 (fun e => e ((h4 S).2 (.inl rfl))), hf.blk h2 (fun e => e ((h4 _).2 (.inr rfl))), h3, h4⟩
/-- what is due, told, and what is left as it lay -/
def DueAny (Z : Nat → Prop) (G : World → Prop) (R : List (Int × Int)) (w : World) (e : Ending) (w' : World) : Prop := (∃ F, e = .returned F ∧ TaleD w.heap.size w' F R) ∧ G w' ∧ Fr Z w w'
set_option maxRecDepth 100000 in
set_option maxHeartbeats 8000000 in
theorem same16 {w : World} {p : Option Addr} {R : List (Int × Int)} {now : Int} (Z : Nat → Prop) (G : World → Prop) (hZ : ∀ k, Z k → k < w.heap.size) (hG : ∀ V V', G V → Fr (fun k => w.heap.size ≤ k) V V' → G V')
    (hdue : ∀ W, Fr (fun _ => False) w W → Calls Try.prog 42 #[.pointer p, .int .i64 now] W (DueAny Z G R W)) (hwl : R.length ≤ 1000000) (A : Option Addr) (c : Nat) (hA : ReadsD w A R) (hAZ : ∀ g o, 0 < R.length → A = some ⟨g, o, none⟩ → ¬ Z g) :
    Calls Try.prog 36 #[.pointer p, .slice A R.length c, .int .i64 now] w fun e w' => e = .returned (.bool true) ∧ G w' ∧ Fr Z w w' := by
  obtain ⟨w1, hw1⟩ : ∃ w1, (((w.alloc (Obj.cells #[Value.slice A R.length c] 70)).alloc (Obj.cells #[Value.bool false] 4)).alloc (Obj.cells #[Value.int IntKind.i64 0] 3)).alloc (Obj.cells #[Value.bool true] 4) = w1 := ⟨_, rfl⟩
  have z1 : w1.heap.size = w.heap.size + 4 := by rw [← hw1]; simp
  have f1 : Fr (fun _ => False) w w1 := by rw [← hw1]; exact ((((Fr.refl _ w).alloc _).alloc _).alloc _).alloc _
  have hb0 : w1.heap[w.heap.size]? = some (.cells #[.slice A R.length c] 70 (0, 0)) := by rw [← hw1]; exact blk_alloc (blk_alloc (blk_alloc (heap_alloc_new w _) _) _) _
  have hb1 : w1.heap[w.heap.size + 1]? = some (.cells #[.bool false] 4 (0, 0)) := by rw [← hw1]; exact blk_alloc (blk_alloc (heap_alloc2_new w _ _) _) _
  have hb2 : w1.heap[w.heap.size + 2]? = some (.cells #[.int .i64 0] 3 (0, 0)) := by rw [← hw1]; refine blk_alloc ?_ _; have := heap_alloc2_new (w.alloc (Obj.cells #[Value.slice A R.length c] 70)) (Obj.cells #[Value.bool false] 4) (Obj.cells #[Value.int IntKind.i64 0] 3); rwa [World.size_alloc] at this
  have hb3 : w1.heap[w.heap.size + 3]? = some (.cells #[.bool true] 4 (0, 0)) := by
    rw [← hw1]
    have := heap_alloc2_new ((w.alloc (Obj.cells #[Value.slice A R.length c] 70)).alloc (Obj.cells #[Value.bool false] 4)) (Obj.cells #[Value.int IntKind.i64 0] 3) (Obj.cells #[Value.bool true] 4)
    rwa [World.size_alloc, World.size_alloc] at this
  have HW := Lib.hid (And.intro hw1 (hdue w1 f1))
  have H0 := Lib.hid (And.intro f1 (And.intro hb0 (And.intro hb1 (And.intro hb2 (And.intro hb3 (And.intro z1 hA))))))
  have HZ := Lib.hid (And.intro hZ (And.intro hG hAZ))
  clear hw1 hdue hb0 hb1 hb2 hb3 z1 f1 hA hZ hG hAZ
  refine (callsIn_wide (n := 20)).1 ?_
  refine callsIn_of_wp_marks Try.func36 rfl trivial ?_ rfl
  simp only [Try.ntmps36, List.size_toArray, List.length_cons, List.length_nil, Nat.reduceAdd, Nat.reduceSub, Array.replicate_succ, Array.replicate_zero, List.push_toArray, List.append_toArray, List.nil_append, List.cons_append]
  gi_wp2_with fail
  rw [HW.out.1]
  refine ⟨trivial, (calls_wide (.inl rfl) HW.out.2).mono ?_⟩
  rintro e W2 ⟨⟨F, rfl, hT⟩, hGW, hfZ⟩
  clear HW
  obtain ⟨Y, hYb, gf, lb, rfl, hseq, hYl, heg⟩ := taleD_tells hT hwl
  have hnil : ∀ W, (binOp BinOp.eql 79 (.func (.func gf) #[] lb) Value.nilFunc).run Try.prog W = .ok (.bool false) W := fun W => by rfl
  gi_wp2_with (simp only [hnil])
  obtain ⟨f1, hb0, hb1, hb2, hb3, z1, hA⟩ := H0.out
  obtain ⟨hZ, hG, hAZ⟩ := HZ.out
  have hzz := hfZ.size
  have hnZ : ∀ k, w.heap.size ≤ k → ¬ Z k := fun k hk e => by have := hZ k e; omega
  have f12 : Fr Z w W2 := (f1.mono (Y := Z) fun _ _ e => e.elim).trans hfZ
  have hb0 := hfZ.blk hb0 (hnZ _ (by omega))
  have hb1 := hfZ.blk hb1 (hnZ _ (by omega))
  have hb2 := hfZ.blk hb2 (hnZ _ (by omega))
  have hb3 := hfZ.blk hb3 (hnZ _ (by omega))
  have H := Lib.hid (And.intro f12 (And.intro hb0 (And.intro hb1 (And.intro z1 (And.intro hA (And.intro hGW hZ))))))
  refine wpIn_rangeF (X := fun k => k = w.heap.size + 2 ∨ k = w.heap.size + 2 + 1) (Y := Y) (xs := R) (encs := encPD) (gf := gf) (lb := lb) (SameD (w.heap.size + 2) W2.heap.size) (fun _ _ _ _ => False)
    rfl hseq (fun k hk => ⟨by omega, fun e => by have := hYb k e; omega⟩) hYl (by omega) heg (fun _ => rfl)
    (sameD_stays _ _) (fun c s X1 V1 V2 h => h.elim) ⟨hb2, hb3, by omega, fun k => Iff.rfl⟩ ?round ?done (fun _ _ _ _ _ _ _ _ _ _ _ h => h.elim)
  case round =>
    rintro l pre ⟨y, at_⟩ r X1 V K rb hl2 hpx hI hG2 hxl hF hlV hK
    dsimp only [encPD]
    have HK := Lib.hid hK
    have HV := Lib.hid (And.intro hpx (And.intro hI (And.intro hG2 (And.intro hxl (And.intro hF (And.intro hlV hl2))))))
    clear hK hpx hI hG2 hxl hF hlV hl2 hseq hYb hYl heg f1 f12 hb0 hb1 hb2 hb3 z1 hT hfZ H0 hA hGW hZ hG hAZ hnZ
    gi_wp2_with fail
    refine HK.out _ _ (Fr.refl _ _) fun Vb hfb hzb hsb hrb => ?_
    clear HK K
    obtain ⟨hpx, ⟨k1, k2, hSl, hX1⟩, hG2, hxl, hF, hlV, hl2⟩ := HV.out
    obtain ⟨f12, hb0, hb1, z1, hA, hGW, hZ⟩ := H.out
    obtain ⟨_, hG, hAZ⟩ := HZ.out
    have hpl : pre.length < R.length := by
      have := congrArg List.length hpx
      simp at this; omega
    have hgx : R[pre.length] = (y, at_) := by simp [← hpx]
    obtain ⟨g, o, rfl, hg, hcell⟩ := hA (by omega)
    have hgZ := hAZ g o (by omega) rfl
    have hfw : Vb.heap[g]? = w.heap[g]? := (hfb.block g (by have := hF.size; omega) (by omega)).trans ((hF.block g (by omega) (by omega)).trans (f12.block g hg hgZ))
    have e0 : Vb.cell? ⟨g, o + pre.length * 2, none⟩ = some (.int .i64 y) := by
      rw [World.cell?_of_block (w := w) (w' := Vb) (a := ⟨g, o + pre.length * 2, none⟩) hfw, (hcell _ hpl).1, hgx]
    have e1 : Vb.cell? ⟨g, o + pre.length * 2 + 1, none⟩ = some (.int .i64 at_) := by
      rw [World.cell?_of_block (w := w) (w' := Vb) (a := ⟨g, o + pre.length * 2 + 1, none⟩) hfw, (hcell _ hpl).2, hgx]
    have k1b := hfb.blk k1 (by omega : ¬ w.heap.size + 2 = l)
    have k2b := hfb.blk k2 (by omega : ¬ w.heap.size + 2 + 1 = l)
    have c0 := blk_cell (hfb.blk (hF.blk hb0 (by omega)) (by omega)) 0
    have c1 := blk_cell k1b 0
    have c2 := blk_cell k2b 0
    have d1 := blk_free k1b 0
    have d2 := blk_free k2b 0
    have n0 : ¬ ((R.length : Int) ≤ (pre.length : Int)) := by omega
    have n1 : ((pre.length : Int) < (R.length : Int)) := by omega
    have hzs : w.heap.size + 2 + 1 < Vb.heap.size := blk_lt k2b
    have HE := Lib.hid (And.intro k1b (And.intro k2b (And.intro hSl (And.intro hX1 (And.intro hG2 (And.intro hxl (And.intro hlV (And.intro hfb hrb))))))))
    have hpl2 : (pre.length : Int) ≤ 1000000 := by omega
    clear hpx k1 k2 hSl hX1 hG2 hxl hF hlV hl2 f12 hb0 hb1 z1 hA hgx hcell hfw k1b k2b hfb hrb hzb hsb hGW hZ hG hAZ hgZ
    gi_wp2_with fail
    obtain ⟨k1b, k2b, hSl, hX1, hG2, hxl, hlV, hfb, hrb⟩ := HE.out
    have hll : ¬ (l = w.heap.size + 2 ∨ l = w.heap.size + 2 + 1) := fun e => hxl ((hX1 l).2 e)
    have hf3 : Fr X1 Vb ((Vb.setCell ⟨w.heap.size + 1 + 1 + 1, 0, none⟩ (Value.bool true)).setCell ⟨w.heap.size + 1 + 1, 0, none⟩ (Value.int IntKind.i64 ((pre.length : Int) + 1))) := ((Fr.refl X1 Vb).setCell _ ((hX1 _).2 (.inr rfl)) _).setCell _ ((hX1 _).2 (.inl rfl)) _
    refine ⟨X1, fun k hk => ⟨Nat.lt_of_lt_of_le (hG2 k hk).1 (Nat.le_trans hfb.size hf3.size), fun _ => hk⟩, (hfb.mono (Y := fun k => k = l ∨ X1 k) fun k _ e => .inl e).trans3 hf3 fun k _ e => .inr e, hf3.blk hrb hxl, ?_, ?_, hSl, hX1⟩
    · rw [List.length_append]
      exact blk_set (blk_other k1b _ (by simp) _) 0 _
    · exact blk_other (blk_set k2b 0 _) _ (by simp) _
  case done =>
    rintro D X2 V hD hxD hG2 hF ⟨k1, k2, hSl, hX2⟩ hdef
    have k0 := hF.blk hb0 (by omega)
    have kr := hF.blk hb1 (by omega)
    have c0 := blk_cell k0 0
    have c1 := blk_cell k1 0
    have c2 := blk_cell k2 0
    have c3 := blk_cell kr 0
    have d3 := blk_free kr 0
    have b4 : Fr Z w V := f12.trans3 hF fun k hk e => by omega
    have g4 : G V := hG _ _ hGW (hF.mono fun k _ e => by rcases e with e | e <;> (show w.heap.size ≤ k; omega))
    have hzs : w.heap.size + 1 < V.heap.size := blk_lt kr
    have HQ := Lib.hid (And.intro hdef (And.intro b4 (And.intro g4 (And.intro hD (And.intro kr (And.intro z1 (And.intro hzz hG)))))))
    clear k0 k1 k2 kr hSl hX2 hdef hxD hG2 hF b4 g4 hD hseq hYb hYl heg f1 f12 hb0 hb1 hb2 hb3 z1 hT hfZ H0 hA H hzz hGW hZ hG hAZ hnZ
    gi_wp2_with fail
    obtain ⟨hdef, b4, g4, hD, kr, z1, hzz, hG⟩ := HQ.out
    have d5 := blk_other hdef ⟨w.heap.size + 1, 0, none⟩ (by simp; omega) (Value.bool true)
    have f5 : Fr (fun k => k = w.heap.size + 1) V (V.setCell ⟨w.heap.size + 1, 0, none⟩ (Value.bool true)) := Fr.setCell (X := fun k => k = w.heap.size + 1) (Fr.refl _ V) ⟨w.heap.size + 1, 0, none⟩ rfl _
    have kr5 := blk_set kr 0 (Value.bool true)
    refine leaves_one D _ d5 fun w' hf => ⟨_, results_box rfl _ _ (w.heap.size + 1) (.bool true) _ rfl (blk_cell (hf.blk kr5 (by omega)) 0) Try.underlying4 rfl, rfl, hG _ _ (hG _ _ g4 (f5.mono fun k _ e => by show w.heap.size ≤ k; omega)) (hf.mono fun k _ e => by show w.heap.size ≤ k; omega), (b4.trans3 f5 fun k hk e => by omega).trans3 hf fun k hk e => by omega⟩
end Go.Proofs.Ytbgmjieagnmpkaa
