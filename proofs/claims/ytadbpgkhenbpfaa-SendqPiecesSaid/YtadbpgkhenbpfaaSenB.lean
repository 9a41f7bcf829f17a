/- Layer 8: Push. -/
import Derived.Test.YtadbpgkhenbpfaaSenA
import Derived.IntWalk
namespace Go.Proofs.Ytadbpgkhenbpfaa
set_option linter.unusedVariables false
set_option linter.unusedSimpArgs false
open Go Go.RowKit Go.Lib Go.Sort Go.Shelf

/-- has a line room? -/
def roomQ (s : QS) (l : List UInt8) : Bool := decide ((l.length : Int) + 2 ≤ s.most - s.ws.length)
/-- is it taken up at all? -/
def fitQ (s : QS) (l : List UInt8) : Bool := !s.over && decide (l.length ≤ 510) && textL l
def pushB (s : QS) (l : List UInt8) : Bool := fitQ s l && roomQ s l
def pushS (s : QS) (l : List UInt8) : QS := if fitQ s l then if roomQ s l then { s with ws := s.ws ++ l ++ [13, 10] } else { s with over := true } else s
def PushP (base : Nat) (w : World) (q : Nat) (ob : Option Nat) (s : QS) (l : List UInt8) (e : Ending) (w' : World) : Prop :=
  e = .returned (.bool (pushB s l)) ∧ ∃ ob', QAt base w' q ob' (pushS s l) ∧ (∀ k, ob' = some k → k < w.heap.size → ob = some k) ∧ Fr (fun k => k = q ∨ ob = some k) w w'
set_option maxRecDepth 100000 in
set_option maxHeartbeats 4000000 in
theorem q_push {base : Nat} {w : World} {q : Nat} {ob : Option Nat} {s : QS} (h : QAt base w q ob s) (hbw : base ≤ w.heap.size) (hm : 0 ≤ s.most) (hm2 : s.most ≤ 65536) (hl : s.ws.length ≤ 100000) (l : ByteArray) (hll : l.size ≤ 1000000) :
    Calls Try.prog 11 #[.pointer (some ⟨q, 0, none⟩), .string l] w (PushP base w q ob s l.data.toList) := by
  have hsz : l.data.toList.length = l.size := rfl
  obtain ⟨i0, hi, hz0, hz1, hz2⟩ := info_parts Try.infoB
  have same : ∀ w', RowKit.Below w.heap.size w w' → fitQ s l.data.toList = false → PushP base w q ob s l.data.toList (.returned (.bool false)) w' := fun w' hb hf => by
    have h1 : pushS s l.data.toList = s := by unfold pushS; rw [hf]; rfl
    have h2 : pushB s l.data.toList = false := by unfold pushB; rw [hf]; rfl
    refine ⟨by rw [h2], ob, by rw [h1]; exact q_below h hb, fun k hk _ => hk, (Fr.of_below (X := fun _ => False) hb).mono fun _ _ e => e.elim⟩
  have HS := Lib.hid same
  have HH := Lib.hid h
  obtain ⟨v, h1, ho, h3, h4⟩ := h
  obtain ⟨A, c, rfl⟩ := row_slice h3
  obtain ⟨most, ws, sent, parted, over⟩ := s
  dsimp only at hm hm2 hl h1 h3
  have c0 := blk_cell h1 0
  have c1 := blk_cell h1 1
  have c4 := blk_cell h1 4
  have f1 := blk_free h1 1
  have f4 := blk_free h1 4
  have H := Lib.hid (And.intro h1 (And.intro ho (And.intro h3 h4)))
  clear h1 ho h3 h4 same
  by_cases p1 : over = true
  · subst p1
    go_enter Try.func11, Try.ntmps11
    go_wp2
    go_ret
    exact HS.out w (Below.refl _ _) (by simp [fitQ])
  have p1 : over = false := by simpa using p1
  subst p1
  by_cases p2 : l.size ≤ 510
  case neg =>
    have p3 : (510 : Int) < (l.size : Int) := by omega
    go_enter Try.func11, Try.ntmps11
    go_wp2
    go_ret
    exact HS.out w (Below.refl _ _) (by simp [fitQ]; omega)
  have p3 : ¬ ((510 : Int) < (l.size : Int)) := by omega
  obtain ⟨b, hb⟩ : ∃ b, textL l.data.toList = b := ⟨_, rfl⟩
  have ht := text_v l w hll
  rw [hb] at ht
  have HT := Lib.hid ht
  have HB := Lib.hid hb
  clear ht hb
  cases b with
  | false =>
    go_enter Try.func11, Try.ntmps11
    go_wp2_with fail
    refine HT.out.mono ?_
    rintro e w1 ⟨rfl, b1⟩
    have B1 := Lib.hid b1
    clear b1
    go_wp2_with fail
    go_ret
    exact HS.out _ B1.out (by simp [fitQ, HB.out])
  | true =>
    have hfit : fitQ ⟨most, ws, sent, parted, false⟩ l.data.toList = true := by
      simp only [fitQ, Bool.not_false, Bool.true_and, Bool.and_eq_true, decide_eq_true_eq]
      exact ⟨by omega, HB.out⟩
    go_enter Try.func11, Try.ntmps11
    go_wp2_with fail
    refine HT.out.mono ?_
    rintro e w1 ⟨rfl, b1⟩
    obtain ⟨h1, ho, h3, h4⟩ := H.out
    have k1 := (b1.block q (blk_lt h1)).trans h1
    have o1 : OwnB base w1 (.slice A ws.length c) ws := ownB_kept h3 fun g hg => b1.block g (h3.lt g hg).2
    have d0 := blk_cell k1 0
    have d1 := blk_cell k1 1
    have g1 := blk_free k1 1
    have g4 := blk_free k1 4
    have B1 := Lib.hid (And.intro b1 (And.intro k1 o1))
    have hzw1 := b1.size
    have hw1 : IntKind.i64.wrap ((l.size : Int) + 2) = (l.size : Int) + 2 := IntWalk.i64_in _ (by omega)
    have hw2 : IntKind.i64.wrap (most - (ws.length : Int)) = most - (ws.length : Int) := IntWalk.i64_in _ (by omega)
    clear h1 ho h3 h4 b1 k1 o1 c0 c1 c4 f1 f4
    by_cases p4 : (l.size : Int) + 2 ≤ most - (ws.length : Int)
    · have p5 : ¬ (most - (ws.length : Int) < (l.size : Int) + 2) := by omega
      have hroom : roomQ ⟨most, ws, sent, parted, false⟩ l.data.toList = true := by simp only [roomQ, decide_eq_true_eq]; rw [hsz]; exact p4
      have HFR := Lib.hid (And.intro hfit hroom)
      clear hfit hroom
      go_wp2_with fail
      go_quiet (fail)
      obtain ⟨b1, k1, o1⟩ := B1.out
      rename_i nq
      have o1d : OwnB base (w1.drewN nq) (.slice A ws.length c) ws := o1
      have k1d : (w1.drewN nq).heap[q]? = some (.cells #[.int .i64 most, .slice A ws.length c, .int .i64 sent, .bool parted, .bool false] 53 (0, 0)) := k1
      have hzd : (w1.drewN nq).heap.size = w1.heap.size := rfl
      obtain ⟨w2, hw⟩ : ∃ w2, w1.drewN nq = w2 := ⟨_, rfl⟩
      have fd : Fr (fun _ => False) w1 w2 := by rw [← hw]; exact (Fr.refl _ _).drewN _
      rw [hw] at o1d k1d hzd ⊢
      have hbz : base ≤ w2.heap.size := by omega
      have d1 := blk_cell k1d 1
      have HO := Lib.hid o1d
      have HK := Lib.hid (And.intro k1d fd)
      clear hw o1d k1d fd b1 k1 o1 d0 g1 g4 hw1 hw2 hzd
      go_wp2_with (at_builtin; refine Hid.out ?_)
      refine Lib.hid ?_
      refine wpList_app_u rfl _ _ 34 9 rfl base 5 i0 _ 1 1 Try.underlying34 hi hz0 hz1 hz2 rfl _ ws.length (ws.map encB) rfl HO.out (.string l) l.size (byteCells l) rfl (Src.ofString _ Try.underlying9 l) (by omega) (by decide) hbz ?_
      intro v2 W2 o2 f2 t2
      obtain ⟨A2, c2, ev2⟩ := row_slice o2
      subst ev2
      obtain ⟨k2, fd⟩ := HK.out
      obtain ⟨h1, ho, h3, h4⟩ := H.out
      have o2' : OwnB base W2 (Value.slice A2 (ws.length + l.size) c2) (ws ++ l.data.toList) := ownB_app o2
      have hqv : (Value.slice A ws.length c).ownBlock ≠ some q := by rw [ho]; exact h4
      have k3 := f2.blk k2 hqv
      have hv2 : (Value.slice A2 (ws.length + l.size) c2).ownBlock ≠ some q := fun e => by
        rcases t2 q e with e | e
        · exact hqv e
        · have := blk_lt k2; omega
      have d3 := blk_cell k3 1
      have g3 := blk_free k3 1
      have k4 := blk_set k3 1 (Value.slice A2 (ws.length + l.size) c2)
      have d4 := blk_cell k4 1
      have g5 := blk_free k4 1
      have o4 : OwnB base (W2.setCell ⟨q, 1, none⟩ (Value.slice A2 (ws.length + l.size) c2)) (Value.slice A2 (ws.length + l.size) c2) (ws ++ l.data.toList) := ownB_kept o2' fun g hg => heap_setCell_other W2 _ g _ fun e => by cases e; exact hv2 hg
      have HO4 := Lib.hid o4
      have hz4 : (W2.setCell ⟨q, 1, none⟩ (Value.slice A2 (ws.length + l.size) c2)).heap.size = W2.heap.size := by simp
      have hz2' := f2.size
      have hb4 : base ≤ (W2.setCell ⟨q, 1, none⟩ (Value.slice A2 (ws.length + l.size) c2)).heap.size := by rw [hz4]; omega
      have hlen4 : (ws ++ l.data.toList).length ≤ 200000 := by rw [List.length_append, hsz]; omega
      have HL4 := Lib.hid (And.intro k4 (And.intro f2 (And.intro t2 (And.intro hv2 (And.intro fd (And.intro hz4 (And.intro hlen4 (And.intro hqv ho))))))))
      have hb4' := Lib.hid (And.intro hb4 hlen4)
      clear k2 fd h1 ho h3 h4 o2 o2' hqv k3 hv2 f2 t2 k4 o4 hz4 hb4 hlen4 d1 hz2'
      go_wp2_with (at_builtin; refine Hid.out ?_)
      refine Lib.hid ?_
      refine wpList_app_u rfl _ _ 34 9 rfl base 5 i0 _ 1 1 Try.underlying34 hi hz0 hz1 hz2 rfl (Value.slice A2 (ws.length + l.size) c2) (ws ++ l.data.toList).length ((ws ++ l.data.toList).map encB) (by first | rfl | simp) HO4.out (.string ⟨#[13, 10]⟩) 2 (byteCells ⟨#[13, 10]⟩) rfl (Src.ofString _ Try.underlying9 ⟨#[13, 10]⟩) (by have := hb4'.out.2; omega) (by decide) hb4'.out.1 ?_
      intro v5 W5 o5 f5 t5
      obtain ⟨A5, c5, ev5⟩ := row_slice o5
      rw [List.length_append, hsz] at ev5
      subst ev5
      obtain ⟨k4, f2, t2, hv2, fd, hz4, hlen4, hqv, ho⟩ := HL4.out
      have o5' : OwnB base W5 (Value.slice A5 (ws.length + l.size + 2) c5) (ws ++ l.data.toList ++ [13, 10]) := ownB_app (ys := [13, 10]) o5
      have k5 := f5.blk k4 hv2
      have hv5 : (Value.slice A5 (ws.length + l.size + 2) c5).ownBlock ≠ some q := fun e => by
        rcases t5 q e with e | e
        · exact hv2 e
        · have := blk_lt k4; omega
      have d5 := blk_cell k5 1
      have g5' := blk_free k5 1
      have HF := Lib.hid (And.intro k5 (And.intro o5' (And.intro f5 (And.intro t5 hv5))))
      clear k4 f2 t2 hv2 fd hz4 hlen4 hqv ho o5 o5' k5 hv5 f5 t5 d3 g3 d4 g5
      go_wp2_with fail
      go_ret
      obtain ⟨k4, f2, t2, hv2, fd, hz4, hlen4, hqv, ho⟩ := HL4.out
      obtain ⟨k5, o5, f5, t5, hv5⟩ := HF.out
      obtain ⟨b1, k1, o1⟩ := B1.out
      have hps : pushS ⟨most, ws, sent, parted, false⟩ l.data.toList = ⟨most, ws ++ l.data.toList ++ [13, 10], sent, parted, false⟩ := by unfold pushS; rw [HFR.out.1, HFR.out.2]; rfl
      have hpb : pushB ⟨most, ws, sent, parted, false⟩ l.data.toList = true := by unfold pushB; rw [HFR.out.1, HFR.out.2]; rfl
      have hfr : Fr (fun k => k = q ∨ ob = some k) w (W5.setCell ⟨q, 1, none⟩ (Value.slice A5 (ws.length + l.size + 2) c5)) := by
        have a1 : Fr (fun k => k = q ∨ ob = some k) w w2 := ((Fr.of_below (X := fun k => k = q ∨ ob = some k) b1)).trans3 fd fun _ _ e => e.elim
        have a2 := a1.trans3 f2 fun k _ e => .inr (ho ▸ e)
        have a3 := a2.setCell ⟨q, 1, none⟩ (.inl rfl) (Value.slice A2 (ws.length + l.size) c2)
        have a4 := a3.trans3 f5 fun k hk e => by
          rcases t2 k e with e2 | e2
          · exact .inr (ho ▸ e2)
          · have := fd.size; omega
        exact a4.setCell ⟨q, 1, none⟩ (.inl rfl) (Value.slice A5 (ws.length + l.size + 2) c5)
      refine ⟨by rw [hpb]; rfl, (Value.slice A5 (ws.length + l.size + 2) c5).ownBlock, ?_, fun k hk hlt => ?_, hfr⟩
      · rw [hps]
        exact ⟨(Value.slice A5 (ws.length + l.size + 2) c5), blk_set k5 1 (Value.slice A5 (ws.length + l.size + 2) c5), rfl, ownB_kept o5 fun g hg => heap_setCell_other W5 _ g _ fun e => by cases e; exact hv5 hg, hv5⟩
      · rcases t5 k hk with e | e
        · rcases t2 k e with e2 | e2
          · exact ho ▸ e2
          · have := fd.size; omega
        · have := fd.size; have := f2.size; omega
    · have p5 : most - (ws.length : Int) < (l.size : Int) + 2 := by omega
      have hroom : roomQ ⟨most, ws, sent, parted, false⟩ l.data.toList = false := by simp only [roomQ, decide_eq_false_iff_not]; rw [hsz]; exact p4
      have HFR := Lib.hid (And.intro hfit hroom)
      clear hfit hroom
      go_wp2_with fail
      go_quiet (fail)
      clear hw1 hw2
      have d4 := blk_cell B1.out.2.1 4
      go_wp2_with fail
      go_ret
      obtain ⟨b1, k1, o1⟩ := B1.out
      obtain ⟨h1, ho, h3, h4⟩ := H.out
      rename_i nq
      have hps : pushS ⟨most, ws, sent, parted, false⟩ l.data.toList = ⟨most, ws, sent, parted, true⟩ := by unfold pushS; rw [HFR.out.1, HFR.out.2]; rfl
      have hpb : pushB ⟨most, ws, sent, parted, false⟩ l.data.toList = false := by unfold pushB; rw [HFR.out.1, HFR.out.2]; rfl
      have k1d : (w1.drewN nq).heap[q]? = some (.cells #[.int .i64 most, .slice A ws.length c, .int .i64 sent, .bool parted, .bool false] 53 (0, 0)) := k1
      have o1d : OwnB base (w1.drewN nq) (.slice A ws.length c) ws := o1
      refine ⟨by rw [hpb]; rfl, ob, ?_, fun k hk _ => hk, (((Fr.of_below (X := fun k => k = q ∨ ob = some k) b1)).drewN nq).setCell ⟨q, 4, none⟩ (.inl rfl) _⟩
      rw [hps]
      exact ⟨_, blk_set k1d 4 _, ho, ownB_kept o1d fun g hg => heap_setCell_other _ _ g _ fun e => by cases e; exact h4 (ho ▸ hg), h4⟩
end Go.Proofs.Ytadbpgkhenbpfaa
