/- Texts of this proof, one behind the other. -/
import Derived.Test.YtadbpgkhenbpfaaSendqPlaysG3
import Derived.IntWalk
import Derived.Deep.OwnRows
import Derived.Laws.CopyOwn
import Derived.Laws.CopyRow
import Derived.Test.YtadbpgkhenbpfaaSendqPlaysG1
import Derived.Test.YtadbpgkhenbpfaaSendqPlaysG2
import Derived.Lib.Hide
import Derived.Test.YtadbpgkhenbpfaaChecked
import Derived.Sort.LoopGhostIn
import Derived.Stop.RegionWithIn
import Derived.LoopIn
import Derived.Deep.LoopGhost
section
/- Layer 8: Push. -/
namespace Go.Proofs.Ytadbpgkhenbpfaa
set_option linter.unusedVariables false
set_option linter.unusedSimpArgs false
open Go Go.RowKit Go.Lib Go.Sort Go.Shelf

/-- has a line room? -/
def roomQ (s : QS) (l : List UInt8) : Bool := decide ((l.length : Int) + 2 ≤ s.most - s.ws.length)
/-- is it taken up at all? -/
def fitQ (s : QS) (l : List UInt8) : Bool := !s.over && decide (l.length ≤ 510) && textL l
def pushB (s : QS) (l : List UInt8) : Bool := fitQ s l && roomQ s l
def pushS (s : QS) (l : List UInt8) : QS := if fitQ s l then if roomQ s l then { s with ws := s.ws ++ l ++ [13, 10] } else { s with over := true } else s
def PushP (base : Nat) (w : World) (q : Nat) (ob : Option Nat) (s : QS) (l : List UInt8) (e : Ending) (w' : World) : Prop :=
  e = .returned (.bool (pushB s l)) ∧ ∃ ob', QAt base w' q ob' (pushS s l) ∧ (∀ k, ob' = some k → k < w.heap.size → ob = some k) ∧ Fr (fun k => k = q ∨ ob = some k) w w'
set_option maxRecDepth 100000 in
set_option maxHeartbeats 4000000 in
theorem q_push {base : Nat} {w : World} {q : Nat} {ob : Option Nat} {s : QS} (h : QAt base w q ob s) (hbw : base ≤ w.heap.size) (hm : 0 ≤ s.most) (hm2 : s.most ≤ 65536) (hl : s.ws.length ≤ 100000) (l : ByteArray) (hll : l.size ≤ 1000000) :
    Calls Try.prog 11 #[.pointer (some ⟨q, 0, none⟩), .string l] w (PushP base w q ob s l.data.toList) := by
  have hsz : l.data.toList.length = l.size := rfl
  obtain ⟨i0, hi, hz0, hz1, hz2⟩ := info_parts Try.infoB
  have same : ∀ w', RowKit.Below w.heap.size w w' → fitQ s l.data.toList = false → PushP base w q ob s l.data.toList (.returned (.bool false)) w' := fun w' hb hf => by
    have h1 : pushS s l.data.toList = s := by unfold pushS; rw [hf]; rfl
    have h2 : pushB s l.data.toList = false := by unfold pushB; rw [hf]; rfl
    refine ⟨by rw [h2], ob, by rw [h1]; exact q_below h hb, fun k hk _ => hk, (Fr.of_below (X := fun _ => False) hb).mono fun _ _ e => e.elim⟩
  have HS := Lib.hid same
  have HH := Lib.hid h
  obtain ⟨v, h1, ho, h3, h4⟩ := h
  obtain ⟨A, c, rfl⟩ := row_slice h3
  obtain ⟨most, ws, sent, parted, over⟩ := s
  dsimp only at hm hm2 hl h1 h3
  have c0 := blk_cell h1 0
  have c1 := blk_cell h1 1
  have c4 := blk_cell h1 4
  have f1 := blk_free h1 1
  have f4 := blk_free h1 4
  have H := Lib.hid (And.intro h1 (And.intro ho (And.intro h3 h4)))
  clear h1 ho h3 h4 same
  by_cases p1 : over = true
  · subst p1
    go_enter Try.func11, Try.ntmps11
    go_wp2
    go_ret
    exact HS.out w (Below.refl _ _) (by simp [fitQ])
  have p1 : over = false := by simpa using p1
  subst p1
  by_cases p2 : l.size ≤ 510
  case neg =>
    have p3 : (510 : Int) < (l.size : Int) := by omega
    go_enter Try.func11, Try.ntmps11
    go_wp2
    go_ret
    exact HS.out w (Below.refl _ _) (by simp [fitQ]; omega)
  have p3 : ¬ ((510 : Int) < (l.size : Int)) := by omega
  obtain ⟨b, hb⟩ : ∃ b, textL l.data.toList = b := ⟨_, rfl⟩
  have ht := text_v l w hll
  rw [hb] at ht
  have HT := Lib.hid ht
  have HB := Lib.hid hb
  clear ht hb
  cases b with
  | false =>
    go_enter Try.func11, Try.ntmps11
    go_wp2_with fail
    refine HT.out.mono ?_
    rintro e w1 ⟨rfl, b1⟩
    have B1 := Lib.hid b1
    clear b1
    go_wp2_with fail
    go_ret
    exact HS.out _ B1.out (by simp [fitQ, HB.out])
  | true =>
    have hfit : fitQ ⟨most, ws, sent, parted, false⟩ l.data.toList = true := by
      simp only [fitQ, Bool.not_false, Bool.true_and, Bool.and_eq_true, decide_eq_true_eq]
      exact ⟨by omega, HB.out⟩
    go_enter Try.func11, Try.ntmps11
    go_wp2_with fail
    refine HT.out.mono ?_
    rintro e w1 ⟨rfl, b1⟩
    obtain ⟨h1, ho, h3, h4⟩ := H.out
    have k1 := (b1.block q (blk_lt h1)).trans h1
    have o1 : OwnB base w1 (.slice A ws.length c) ws := ownB_kept h3 fun g hg => b1.block g (h3.lt g hg).2
    have d0 := blk_cell k1 0
    have d1 := blk_cell k1 1
    have g1 := blk_free k1 1
    have g4 := blk_free k1 4
    have B1 := Lib.hid (And.intro b1 (And.intro k1 o1))
    have hzw1 := b1.size
    have hw1 : IntKind.i64.wrap ((l.size : Int) + 2) = (l.size : Int) + 2 := IntWalk.i64_in _ (by omega)
    have hw2 : IntKind.i64.wrap (most - (ws.length : Int)) = most - (ws.length : Int) := IntWalk.i64_in _ (by omega)
    clear h1 ho h3 h4 b1 k1 o1 c0 c1 c4 f1 f4
    by_cases p4 : (l.size : Int) + 2 ≤ most - (ws.length : Int)
    · have p5 : ¬ (most - (ws.length : Int) < (l.size : Int) + 2) := by omega
      have hroom : roomQ ⟨most, ws, sent, parted, false⟩ l.data.toList = true := by simp only [roomQ, decide_eq_true_eq]; rw [hsz]; exact p4
      have HFR := Lib.hid (And.intro hfit hroom)
      clear hfit hroom
      go_wp2_with fail
      go_quiet (fail)
      obtain ⟨b1, k1, o1⟩ := B1.out
      rename_i nq
      have o1d : OwnB base (w1.drewN nq) (.slice A ws.length c) ws := o1
      have k1d : (w1.drewN nq).heap[q]? = some (.cells #[.int .i64 most, .slice A ws.length c, .int .i64 sent, .bool parted, .bool false] 53 (0, 0)) := k1
      have hzd : (w1.drewN nq).heap.size = w1.heap.size := rfl
      obtain ⟨w2, hw⟩ : ∃ w2, w1.drewN nq = w2 := ⟨_, rfl⟩
      have fd : Fr (fun _ => False) w1 w2 := by rw [← hw]; exact (Fr.refl _ _).drewN _
      rw [hw] at o1d k1d hzd ⊢
      have hbz : base ≤ w2.heap.size := by omega
      have d1 := blk_cell k1d 1
      have HO := Lib.hid o1d
      have HK := Lib.hid (And.intro k1d fd)
      clear hw o1d k1d fd b1 k1 o1 d0 g1 g4 hw1 hw2 hzd
      go_wp2_with (at_builtin; refine Hid.out ?_)
      refine Lib.hid ?_
      refine wpList_app_u rfl _ _ 34 9 rfl base 5 i0 _ 1 1 Try.underlying34 hi hz0 hz1 hz2 rfl _ ws.length (ws.map encB) rfl HO.out (.string l) l.size (byteCells l) rfl (Src.ofString _ Try.underlying9 l) (by omega) (by decide) hbz ?_
      intro v2 W2 o2 f2 t2
      obtain ⟨A2, c2, ev2⟩ := row_slice o2
      subst ev2
      obtain ⟨k2, fd⟩ := HK.out
      obtain ⟨h1, ho, h3, h4⟩ := H.out
      have o2' : OwnB base W2 (Value.slice A2 (ws.length + l.size) c2) (ws ++ l.data.toList) := ownB_app o2
      have hqv : (Value.slice A ws.length c).ownBlock ≠ some q := by rw [ho]; exact h4
      have k3 := f2.blk k2 hqv
      have hv2 : (Value.slice A2 (ws.length + l.size) c2).ownBlock ≠ some q := fun e => by
        rcases t2 q e with e | e
        · exact hqv e
        · have := blk_lt k2; omega
      have d3 := blk_cell k3 1
      have g3 := blk_free k3 1
      have k4 := blk_set k3 1 (Value.slice A2 (ws.length + l.size) c2)
      have d4 := blk_cell k4 1
      have g5 := blk_free k4 1
      have o4 : OwnB base (W2.setCell ⟨q, 1, none⟩ (Value.slice A2 (ws.length + l.size) c2)) (Value.slice A2 (ws.length + l.size) c2) (ws ++ l.data.toList) := ownB_kept o2' fun g hg => heap_setCell_other W2 _ g _ fun e => by cases e; exact hv2 hg
      have HO4 := Lib.hid o4
      have hz4 : (W2.setCell ⟨q, 1, none⟩ (Value.slice A2 (ws.length + l.size) c2)).heap.size = W2.heap.size := by simp
      have hz2' := f2.size
      have hb4 : base ≤ (W2.setCell ⟨q, 1, none⟩ (Value.slice A2 (ws.length + l.size) c2)).heap.size := by rw [hz4]; omega
      have hlen4 : (ws ++ l.data.toList).length ≤ 200000 := by rw [List.length_append, hsz]; omega
      have HL4 := Lib.hid (And.intro k4 (And.intro f2 (And.intro t2 (And.intro hv2 (And.intro fd (And.intro hz4 (And.intro hlen4 (And.intro hqv ho))))))))
      have hb4' := Lib.hid (And.intro hb4 hlen4)
      clear k2 fd h1 ho h3 h4 o2 o2' hqv k3 hv2 f2 t2 k4 o4 hz4 hb4 hlen4 d1 hz2'
      go_wp2_with (at_builtin; refine Hid.out ?_)
      refine Lib.hid ?_
      refine wpList_app_u rfl _ _ 34 9 rfl base 5 i0 _ 1 1 Try.underlying34 hi hz0 hz1 hz2 rfl (Value.slice A2 (ws.length + l.size) c2) (ws ++ l.data.toList).length ((ws ++ l.data.toList).map encB) (by first | rfl | simp) HO4.out (.string ⟨#[13, 10]⟩) 2 (byteCells ⟨#[13, 10]⟩) rfl (Src.ofString _ Try.underlying9 ⟨#[13, 10]⟩) (by have := hb4'.out.2; omega) (by decide) hb4'.out.1 ?_
      intro v5 W5 o5 f5 t5
      obtain ⟨A5, c5, ev5⟩ := row_slice o5
      rw [List.length_append, hsz] at ev5
      subst ev5
      obtain ⟨k4, f2, t2, hv2, fd, hz4, hlen4, hqv, ho⟩ := HL4.out
      have o5' : OwnB base W5 (Value.slice A5 (ws.length + l.size + 2) c5) (ws ++ l.data.toList ++ [13, 10]) := ownB_app (ys := [13, 10]) o5
      have k5 := f5.blk k4 hv2
      have hv5 : (Value.slice A5 (ws.length + l.size + 2) c5).ownBlock ≠ some q := fun e => by
        rcases t5 q e with e | e
        · exact hv2 e
        · have := blk_lt k4; omega
      have d5 := blk_cell k5 1
      have g5' := blk_free k5 1
      have HF := Lib.hid (And.intro k5 (And.intro o5' (And.intro f5 (And.intro t5 hv5))))
      clear k4 f2 t2 hv2 fd hz4 hlen4 hqv ho o5 o5' k5 hv5 f5 t5 d3 g3 d4 g5
      go_wp2_with fail
      go_ret
      obtain ⟨k4, f2, t2, hv2, fd, hz4, hlen4, hqv, ho⟩ := HL4.out
      obtain ⟨k5, o5, f5, t5, hv5⟩ := HF.out
      obtain ⟨b1, k1, o1⟩ := B1.out
      have hps : pushS ⟨most, ws, sent, parted, false⟩ l.data.toList = ⟨most, ws ++ l.data.toList ++ [13, 10], sent, parted, false⟩ := by unfold pushS; rw [HFR.out.1, HFR.out.2]; rfl
      have hpb : pushB ⟨most, ws, sent, parted, false⟩ l.data.toList = true := by unfold pushB; rw [HFR.out.1, HFR.out.2]; rfl
      have hfr : Fr (fun k => k = q ∨ ob = some k) w (W5.setCell ⟨q, 1, none⟩ (Value.slice A5 (ws.length + l.size + 2) c5)) := by
        have a1 : Fr (fun k => k = q ∨ ob = some k) w w2 := ((Fr.of_below (X := fun k => k = q ∨ ob = some k) b1)).trans3 fd fun _ _ e => e.elim
        have a2 := a1.trans3 f2 fun k _ e => .inr (ho ▸ e)
        have a3 := a2.setCell ⟨q, 1, none⟩ (.inl rfl) (Value.slice A2 (ws.length + l.size) c2)
        have a4 := a3.trans3 f5 fun k hk e => by
          rcases t2 k e with e2 | e2
          · exact .inr (ho ▸ e2)
          · have := fd.size; omega
        exact a4.setCell ⟨q, 1, none⟩ (.inl rfl) (Value.slice A5 (ws.length + l.size + 2) c5)
      refine ⟨by rw [hpb]; rfl, (Value.slice A5 (ws.length + l.size + 2) c5).ownBlock, ?_, fun k hk hlt => ?_, hfr⟩
      · rw [hps]
        exact ⟨(Value.slice A5 (ws.length + l.size + 2) c5), blk_set k5 1 (Value.slice A5 (ws.length + l.size + 2) c5), rfl, ownB_kept o5 fun g hg => heap_setCell_other W5 _ g _ fun e => by cases e; exact hv5 hg, hv5⟩
      · rcases t5 k hk with e | e
        · rcases t2 k e with e2 | e2
          · exact ho ▸ e2
          · have := fd.size; omega
        · have := fd.size; have := f2.size; omega
    · have p5 : most - (ws.length : Int) < (l.size : Int) + 2 := by omega
      have hroom : roomQ ⟨most, ws, sent, parted, false⟩ l.data.toList = false := by simp only [roomQ, decide_eq_false_iff_not]; rw [hsz]; exact p4
      have HFR := Lib.hid (And.intro hfit hroom)
      clear hfit hroom
      go_wp2_with fail
      go_quiet (fail)
      clear hw1 hw2
      have d4 := blk_cell B1.out.2.1 4
      go_wp2_with fail
      go_ret
      obtain ⟨b1, k1, o1⟩ := B1.out
      obtain ⟨h1, ho, h3, h4⟩ := H.out
      rename_i nq
      have hps : pushS ⟨most, ws, sent, parted, false⟩ l.data.toList = ⟨most, ws, sent, parted, true⟩ := by unfold pushS; rw [HFR.out.1, HFR.out.2]; rfl
      have hpb : pushB ⟨most, ws, sent, parted, false⟩ l.data.toList = false := by unfold pushB; rw [HFR.out.1, HFR.out.2]; rfl
      have k1d : (w1.drewN nq).heap[q]? = some (.cells #[.int .i64 most, .slice A ws.length c, .int .i64 sent, .bool parted, .bool false] 53 (0, 0)) := k1
      have o1d : OwnB base (w1.drewN nq) (.slice A ws.length c) ws := o1
      refine ⟨by rw [hpb]; rfl, ob, ?_, fun k hk _ => hk, (((Fr.of_below (X := fun k => k = q ∨ ob = some k) b1)).drewN nq).setCell ⟨q, 4, none⟩ (.inl rfl) _⟩
      rw [hps]
      exact ⟨_, blk_set k1d 4 _, ho, ownB_kept o1d fun g hg => heap_setCell_other _ _ g _ fun e => by cases e; exact h4 (ho ▸ hg), h4⟩
end Go.Proofs.Ytadbpgkhenbpfaa
end
section
/- Layer 8: Drain. -/
namespace Go.Proofs.Ytadbpgkhenbpfaa
set_option linter.unusedVariables false
set_option linter.unusedSimpArgs false
open Go Go.RowKit Go.Lib Go.Sort Go.Shelf

/-- how many bytes go -/
def goesQ (s : QS) (n : Int) : Nat := (max 0 (min n (s.ws.length : Int))).toNat
def drainS (s : QS) (n : Int) : QS := if goesQ s n = 0 then s else { s with ws := s.ws.drop (goesQ s n), sent := s.sent + (goesQ s n : Int), parted := decide (s.ws[goesQ s n - 1]? ≠ some 10) }
def DrainP (base : Nat) (w : World) (q : Nat) (ob : Option Nat) (s : QS) (n : Int) (e : Ending) (w' : World) : Prop :=
  (∃ v', e = .returned v' ∧ OwnB w.heap.size w' v' (s.ws.take (goesQ s n))) ∧ QAt base w' q ob (drainS s n) ∧ Fr (fun k => k = q ∨ ob = some k) w w'
theorem goes_le (s : QS) (n : Int) : goesQ s n ≤ s.ws.length := by unfold goesQ; omega
theorem one_byte (xs : List UInt8) : ∀ u ∈ xs.map encB, u.oneCell' = true := fun u hu => by
  obtain ⟨_, _, rfl⟩ := List.mem_map.1 hu
  rfl
theorem last_byte (y : UInt8) : ((y.toNat : Int) != (((⟨#[13, 10]⟩ : ByteArray)[1]).toNat : Int)) = decide (some y ≠ some 10) := by
  have h : (((⟨#[13, 10]⟩ : ByteArray)[1]).toNat : Int) = 10 := by decide
  rw [h, Bool.eq_iff_iff]
  simp only [bne_iff_ne, ne_eq, Option.some.injEq, decide_not, Bool.not_eq_true', decide_eq_false_iff_not]
  constructor
  · intro e e2
    subst e2
    exact e rfl
  · intro e e2
    exact e (UInt8.toNat_inj.1 (by simpa using (by omega : y.toNat = 10)))
set_option maxRecDepth 100000 in
set_option maxHeartbeats 4000000 in
theorem q_drain {base : Nat} {w : World} {q : Nat} {ob : Option Nat} {s : QS} (h : QAt base w q ob s) (hl : s.ws.length ≤ 1000000) (hs0 : 0 ≤ s.sent) (hs1 : s.sent ≤ 1000000000000) (n : Int) :
    Calls Try.prog 9 #[.pointer (some ⟨q, 0, none⟩), .int .i64 n] w (DrainP base w q ob s n) := by
  have hge := goes_le s n
  have hgo : max 0 (min n (s.ws.length : Int)) = (goesQ s n : Int) := by unfold goesQ; omega
  obtain ⟨k, hk⟩ : ∃ k, goesQ s n = k := ⟨_, rfl⟩
  rw [hk] at hge hgo
  have HK := Lib.hid hk
  have HL := Lib.hid (q_len h)
  have HH := Lib.hid h
  clear hk h
  by_cases h0 : k = 0
  · subst h0
    go_enter Try.func9, Try.ntmps9
    go_wp2_with fail
    refine HL.out.mono ?_
    rintro e w' ⟨rfl, rfl⟩
    go_wp2
    go_ret
    have h1 : drainS s n = s := by unfold drainS; rw [HK.out]; rfl
    refine ⟨⟨_, rfl, ?_⟩, by rw [h1]; exact HH.out, Fr.refl _ _⟩
    rw [HK.out]; exact ownB_nil _ _
  · obtain ⟨v, h1, ho, h3, h4⟩ := HH.out
    obtain ⟨A, c, rfl⟩ := row_slice h3
    obtain ⟨i0, hi, hz0, hz1, hz2⟩ := info_parts Try.infoB
    obtain ⟨most, ws, sent, parted, over⟩ := s
    dsimp only at hl hs0 hs1 hge hgo h1 h3
    have hk0 : ((k : Int) == 0) = false := by simpa using h0
    have H := Lib.hid (And.intro h1 (And.intro ho (And.intro h3 h4)))
    clear h1 ho h3 h4
    go_enter Try.func9, Try.ntmps9
    go_wp2_with fail
    refine HL.out.mono ?_
    rintro e w' ⟨rfl, rfl⟩
    go_wp2_with (at_make; refine Hid.out ?_)
    refine Lib.hid ?_
    refine wpList_make_row _ rfl _ _ 34 rfl 5 i0 (.int .u8 0) Try.underlying34 hi hz0 hz1 rfl .i64 .i64 k rfl rfl (by rw [hz2]; omega) (by omega) ?_
    obtain ⟨h1, ho, h3, h4⟩ := H.out
    obtain ⟨cur, hcur⟩ : ∃ cur, madeCells #[Value.int IntKind.u8 0] k = cur := ⟨_, rfl⟩
    have hcz : cur.size = k := by rw [← hcur, size_madeCells]
    rw [hcur]
    obtain ⟨W1, hW1⟩ : ∃ W1, w'.alloc (.cells cur 5) = W1 := ⟨_, rfl⟩
    have f1 : Fr (fun _ => False) w' W1 := by rw [← hW1]; exact (Fr.refl _ _).alloc _
    have kn : W1.heap[w'.heap.size]? = some (.cells cur 5 (0, 0)) := by rw [← hW1]; exact heap_alloc_new _ _
    have hz1' : W1.heap.size = w'.heap.size + 1 := by rw [← hW1]; simp
    have k1 := f1.blk h1 fun e => e
    have o1 : OwnB base W1 (.slice A ws.length c) ws := ownB_kept h3 fun g hg => f1.block g (h3.lt g hg).2 fun e => e
    rw [hW1]
    have c1 := blk_cell k1 1
    have H1 := Lib.hid (And.intro f1 (And.intro kn (And.intro hz1' (And.intro k1 (And.intro o1 hcz)))))
    clear h1 ho h3 h4 hcur hW1 f1 kn hz1' k1 o1 hcz
    have hws : ¬ ws = [] := fun e => by subst e; simp at hge; omega
    have hA : ∃ g, A = some ⟨g, 0, none⟩ := by
      rcases H1.out.2.2.2.2.1.2 with ⟨e, e2⟩ | ⟨g, cap, cur, e, _⟩
      · exact absurd (List.length_eq_zero_iff.1 e2) hws
      · cases e; exact ⟨g, rfl⟩
    obtain ⟨g, rfl⟩ := hA
    obtain ⟨f1, kn, hz1', k1, o1, hcz⟩ := H1.out
    have hcsl : ((ws.take k).map encB).length = k := by rw [List.length_map, List.length_take]; omega
    have hcp := run_copy_row (P := Try.prog) W1 34 34 3 5 w'.heap.size 0 k k ⟨g, 0, none⟩ ws.length c cur 5 ((ws.take k).map encB) Try.underlying34 (by rw [hi]; simp [hz1]) kn
      (by rw [hcsl]; exact (Nat.min_eq_right hge).symm) (fun j u hu => by
        rw [List.getElem?_map, Option.map_eq_some_iff] at hu
        obtain ⟨y, hy, rfl⟩ := hu
        obtain ⟨hj, rfl⟩ := List.getElem?_eq_some_iff.1 hy
        rw [List.length_take] at hj
        rw [add_at, Nat.zero_add, List.getElem_take]
        exact ownB_cell o1 (by omega)) (by rw [hcsl]; omega) (one_byte _)
    rw [hcsl] at hcp
    obtain ⟨cells, hcells⟩ : ∃ cells : Array Value, (cur.toList.take 0 ++ (ws.take k).map encB ++ cur.toList.drop (0 + k)).toArray = cells := ⟨_, rfl⟩
    rw [hcells] at hcp
    obtain ⟨W2, hW2⟩ : ∃ W2, W1.setRow w'.heap.size cells = W2 := ⟨_, rfl⟩
    rw [hW2] at hcp
    have hcl2 : cells.toList = (ws.take k).map encB := by
      rw [← hcells]
      have : cur.toList.drop (0 + k) = [] := List.drop_of_length_le (by rw [Array.length_toList]; omega)
      rw [this]; simp
    have hcs2 : cells.size = k := by rw [← Array.length_toList, hcl2, hcsl]
    have kn2 : W2.heap[w'.heap.size]? = some (.cells cells 5 (0, 0)) := by rw [← hW2]; exact setRow_heap W1 _ _ _ _ _ kn
    have f2 : Fr (fun j => j = w'.heap.size) W1 W2 := by
      rw [← hW2]
      exact ⟨rfl, rfl, rfl, by simp, fun j _ hj => setRow_other W1 _ j _ fun e => hj (by omega)⟩
    have hql := blk_lt (H.out.1)
    have k2 := f2.blk k1 (by omega)
    have o2 : OwnB base W2 (.slice (some ⟨g, 0, none⟩) ws.length c) ws := ownB_kept o1 fun j hj => f2.block j (o1.lt j hj).2 fun e => by have := ((H.out.2.2.1).lt j hj).2; omega
    have ev : OwnB w'.heap.size W2 (.slice (some ⟨w'.heap.size, 0, none⟩) k k) (ws.take k) :=
      ⟨by simp, .inr ⟨w'.heap.size, k, cells, by rw [List.length_take, Nat.min_eq_left hge], Nat.le_refl _, kn2, by rw [List.length_take]; omega, by unfold maxLen; omega, by rw [hcs2]; omega, by rw [List.length_take, Nat.mul_one, Nat.min_eq_left hge, hcl2, List.take_of_length_le (by rw [hcsl]; exact Nat.le_refl _)]⟩⟩
    have d1 := blk_cell k2 1
    have hD := deleteB o2 hl k hge (by omega)
    have HD := Lib.hid hD
    have H2 := Lib.hid (And.intro f1 (And.intro f2 (And.intro k2 (And.intro o2 (And.intro ev (And.intro hz1' hql))))))
    clear hcsl hcells hW2 hcl2 hcs2 kn2 f2 k2 o2 ev hD f1 kn hz1' k1 o1 hcz hql hws
    go_wp2_with fail
    refine HD.out.mono ?_
    rintro e W3 ⟨⟨v3, rfl, o3, t3⟩, f3⟩
    obtain ⟨f1, f2, k2, o2, ev, hz1', hql⟩ := H2.out
    obtain ⟨h1, ho, h3, h4⟩ := H.out
    obtain ⟨ds, hds⟩ : ∃ ds, ws.drop k = ds := ⟨_, rfl⟩
    rw [hds] at o3
    obtain ⟨A3, c3, ev3⟩ := row_slice o3
    subst ev3
    have hgl := (h3.lt g rfl).2
    have hgq : g ≠ q := fun e => h4 (ho ▸ (by rw [e]; rfl))
    have hnv : ∀ j, vB (.slice (some ⟨g, 0, none⟩) ws.length c) j → j = g := fun j hj => by cases hj; rfl
    have k3 := f3.blk k2 fun e => hgq (hnv q e).symm
    have ev3 : OwnB w'.heap.size W3 (.slice (some ⟨w'.heap.size, 0, none⟩) k k) (ws.take k) := ownB_kept ev fun j hj => f3.block j (ev.lt j hj).2 fun e => by have := hnv j e; have := (ev.lt j hj).1; omega
    have hvq : (Value.slice A3 ds.length c3).ownBlock ≠ some q := by rw [t3]; exact fun e => hgq (by cases e; rfl)
    have k4 := blk_set k3 1 (.slice A3 ds.length c3)
    have k5 := blk_set k4 2 (.int .i64 (sent + k))
    have o4 : OwnB base ((W3.setCell ⟨q, 1, none⟩ (.slice A3 ds.length c3)).setCell ⟨q, 2, none⟩ (.int .i64 (sent + k))) (.slice A3 ds.length c3) ds :=
      ownB_kept o3 fun j hj => (heap_setCell_other _ _ j _ fun e => by cases e; exact hvq hj).trans (heap_setCell_other _ _ j _ fun e => by cases e; exact hvq hj)
    have ev5 : OwnB w'.heap.size ((W3.setCell ⟨q, 1, none⟩ (.slice A3 ds.length c3)).setCell ⟨q, 2, none⟩ (.int .i64 (sent + k))) (.slice (some ⟨w'.heap.size, 0, none⟩) k k) (ws.take k) :=
      ownB_kept ev3 fun j hj => (heap_setCell_other _ _ j _ fun e => by have := (ev3.lt j hj).1; have e2 : j = q := e; omega).trans (heap_setCell_other _ _ j _ fun e => by have := (ev3.lt j hj).1; have e2 : j = q := e; omega)
    have f5 : Fr (fun j => j = q ∨ ob = some j) w' ((W3.setCell ⟨q, 1, none⟩ (.slice A3 ds.length c3)).setCell ⟨q, 2, none⟩ (.int .i64 (sent + k))) := by
      have a1 : Fr (fun j => j = q ∨ ob = some j) w' W1 := f1.mono fun _ _ e => e.elim
      have a2 := a1.trans3 f2 fun j hj e => by omega
      have a3 := a2.trans3 f3 fun j hj e => .inr (by rw [← ho, hnv j e]; rfl)
      exact (a3.setCell ⟨q, 1, none⟩ (.inl rfl) _).setCell ⟨q, 2, none⟩ (.inl rfl) _
    have d1 := blk_cell k3 1
    have g1 := blk_free k3 1
    have d2 := blk_cell k3 2
    have g2 := blk_free k3 2
    have H5 := Lib.hid (And.intro k5 (And.intro o4 (And.intro ev5 (And.intro f5 (And.intro hds (And.intro hvq (And.intro t3 hgq)))))))
    clear f1 f2 k2 o2 ev hz1' hql h1 ho h3 h4 hds o3 t3 f3 hgq hnv k3 ev3 hvq k4 k5 o4 ev5 f5 hcp hgl
    go_wp2_with fail
    obtain ⟨k5, o4, ev5, f5, hds, hvq, t3, hgq⟩ := H5.out
    obtain ⟨W5, hW5⟩ : ∃ W5, (W3.setCell ⟨q, 1, none⟩ (.slice A3 ds.length c3)).setCell ⟨q, 2, none⟩ (.int .i64 (sent + k)) = W5 := ⟨_, rfl⟩
    rw [hW5] at k5 o4 ev5 f5 ⊢
    have hkt : k - 1 < (ws.take k).length := by rw [List.length_take]; omega
    have e0 := ownB_cell ev5 hkt
    obtain ⟨y, hy⟩ : ∃ y, (ws.take k)[k - 1] = y := ⟨_, rfl⟩
    have hyw : ws[k - 1]? = some y := by rw [← hy, List.getElem_take, List.getElem?_eq_getElem]
    rw [hy] at e0
    unfold encB at e0
    have e3 := blk_cell k5 3
    have g3 := blk_free k5 3
    obtain ⟨d, hd⟩ : ∃ d, ((y.toNat : Int) != 10) = d := ⟨_, rfl⟩
    have hw1 : IntKind.i64.wrap ((k : Int) - 1) = (k : Int) - 1 := IntWalk.i64_in _ (by omega)
    have hw2 : 0 ≤ (k : Int) - 1 := by omega
    have hw3 : ((k : Int) - 1).toNat = k - 1 := by omega
    have hw4 : (k : Int) - 1 < (k : Int) := by omega
    have hw5 : k - 1 < k := by omega
    have H6 := Lib.hid (And.intro k5 (And.intro o4 (And.intro ev5 (And.intro f5 (And.intro hds (And.intro hvq (And.intro t3 hyw)))))))
    clear k5 o4 ev5 f5 hds hvq t3 hgq hW5 hkt hy hyw d1 g1 d2 g2
    go_region
    clear hw1 hw2 hw3 hw4 hw5 hd e0 e3 g3
    go_wp2_with fail
    go_ret
    obtain ⟨k5, o4, ev5, f5, hds, hvq, t3, hyw⟩ := H6.out
    have hval : ((y.toNat : Int) != (((⟨#[13, 10]⟩ : ByteArray)[1]).toNat : Int)) = decide (ws[k - 1]? ≠ some 10) := by rw [hyw]; exact last_byte y
    have h1 : drainS ⟨most, ws, sent, parted, over⟩ n = ⟨most, ds, sent + k, decide (ws[k - 1]? ≠ some 10), over⟩ := by
      unfold drainS; rw [HK.out, if_neg h0]; simp only [hds]
    rw [hval]
    obtain ⟨d2, hd2⟩ : ∃ d2, decide (ws[k - 1]? ≠ some 10) = d2 := ⟨_, rfl⟩
    rw [hd2] at h1 ⊢
    have hne : ∀ j, (Value.slice (some ⟨w'.heap.size, 0, none⟩) k k).ownBlock = some j → j ≠ q := fun j hj e => by
      have := (ev5.lt j hj).1
      have := blk_lt H.out.1
      omega
    obtain ⟨h1', ho, h3, h4⟩ := H.out
    refine ⟨⟨_, rfl, ?_⟩, ?_, (f5.setCell ⟨q, 3, none⟩ (.inl rfl) _).drew⟩
    · rw [HK.out]
      exact ownB_kept ev5 fun j hj => heap_setCell_other _ _ j _ (hne j hj)
    · rw [h1]
      exact ⟨_, blk_drew (blk_set k5 3 _), t3.trans ho, ownB_kept o4 fun j hj => heap_setCell_other _ _ j _ fun e => by have e2 : j = q := e; exact hvq (e2 ▸ hj), h4⟩
end Go.Proofs.Ytadbpgkhenbpfaa
end
section
/- A range over a function that writes blocks Z of its own between the rounds: as RangeF. -/
namespace Go.Proofs.Ytadbpgkhenbpfaa
open Go Go.RowKit

/-- what a function that ranges is worth, if it tells the row xs out of blocks Y -/
def SeqZ {α : Type} (P : Program) (g : Nat) (lb : Array Value) (encs : α → Array Value) (Y Z : Nat → Prop) (xs : List α) (w : World) : Prop :=
  ∀ (l : Nat) (J Jx : List α → (Nat → Prop) → World → Prop) (X : Nat → Prop) (V : World), SameX (fun b => Y b ∨ Z b) w V → (∀ b, Y b ∨ Z b → b < V.heap.size) → (∀ k, X k → k < V.heap.size ∧ ¬ (Y k ∨ Z k)) → Stays J → Stays Jx →
    (∀ pre x r X1 V1, pre ++ x :: r = xs → GrowX X X1 V V1 → J pre X1 V1 → Fr (fun k => X k ∨ Z k) V V1 →
      YieldAt Fence.wide 0 P l (encs x) V1 fun e V' => ∃ X2, GrowX X1 X2 V1 V' ∧ Fr X1 V1 V' ∧ ((e = .returned (.bool true) ∧ J (pre ++ [x]) X2 V') ∨ (e = .returned (.bool false) ∧ Jx (pre ++ [x]) X2 V'))) →
    J [] X V → Calls P g (#[.func (.yield l) #[] #[]] ++ lb) V fun e V' => (∃ v, e = .returned v) ∧ ∃ X2, GrowX X X2 V V' ∧ Fr (fun k => X k ∨ Z k) V V' ∧ (J xs X2 V' ∨ ∃ pre r, pre ++ r = xs ∧ Jx pre X2 V')
/-- the rounds, of whatever loop: what the function that ranges makes of them -/
theorem range_coreZ {P : Program} {n : Nat} {α : Type} {ps : Array Tmp} {assign body : Code} {fn : Nat} {tmps : Array Value} {d gf l : Nat} {lb : Array Value} {Y Z X E : Nat → Prop} {encs : α → Array Value} {xs : List α} {w V1 : World}
    (I : List α → (Nat → Prop) → World → Prop) (Ix : Code → List α → (Nat → Prop) → World → Prop)
    (hseq : SeqZ P gf lb encs Y Z xs w) (hX : ∀ k, X k → k < w.heap.size ∧ ¬ (Y k ∨ Z k)) (hY : ∀ b, Y b ∨ Z b → b < w.heap.size) (hps : ∀ x, (encs x).size = ps.size) (hI : Stays I) (hIx : ∀ c, Stays (Ix c)) (h0 : I [] X w)
    (hw : Fr (fun _ => False) w V1) (hl : w.heap.size ≤ l) (hE : ∀ k, E k → w.heap.size ≤ k ∧ k < V1.heap.size ∧ k ≠ l) (hr : V1.heap[l]? = some (.loop (recF fn tmps ps assign body d .ready none)))
    (hround : ∀ pre x r X1 V (K : Act → World → Prop) rb, pre ++ x :: r = xs → I pre X1 V → GrowX X X1 w V → (∀ k, X1 k → k ≠ l ∧ ¬ E k) → Fr (fun k => X k ∨ Z k) w V → l < V.heap.size →
      (∀ a1 Va, Fr (fun _ => False) V Va → (∀ Vb, Fr (fun k => k = l) V Vb → Vb.heap.size = Va.heap.size → (∀ k, k ≠ l → Vb.heap[k]? = Va.heap[k]?) → Vb.heap[l]? = some (.loop rb) → body.wpIn (Fence.wide.inRound l) n P (EndF l rb X1 I Ix (pre ++ [x]) V) a1 Vb) → K a1 Va) →
      assign.wpIn (Fence.wide.inRound l) n P (Exit.then K fun _ _ _ => False) { tmps := (ps.zip (encs x)).foldl (fun t (p, v) => t.setIfInBounds p v) tmps, defers := [] } V) :
    Calls P gf (#[.func (.yield l) #[] #[]] ++ lb) V1 fun e V2 => (∃ v, e = .returned v) ∧ ∃ X2, GrowX X X2 w V2 ∧ (∀ k, X2 k → k ≠ l ∧ ¬ E k) ∧ Fr (fun k => X k ∨ Z k) w V2 ∧ (∀ k, E k → V2.heap[k]? = V1.heap[k]?) ∧ l < V2.heap.size ∧
      ((I xs X2 V2 ∧ V2.heap[l]? = some (.loop (recF fn tmps ps assign body d .ready none))) ∨ ∃ pre r c, pre ++ r = xs ∧ Ix c pre X2 V2 ∧ V2.heap[l]? = some (.loop (recF fn tmps ps assign body d .done (some c)))) := by
  have hlV := blk_lt hr
  have key : ∀ (Q : List α → (Nat → Prop) → World → Prop) (o : Obj), Stays Q → Stays (fun pre X' V => ∃ X1, (∀ k, X' k ↔ (X1 k ∨ k = l ∨ E k)) ∧ Q pre X1 V ∧ V.heap[l]? = some o ∧ (∀ k, E k → V.heap[k]? = V1.heap[k]?) ∧ (∀ k, X1 k → k ≠ l ∧ ¬ E k)) := fun Q o hQ s X' V V' ⟨X1, h1, h2, h3, h4, h5⟩ hlt hf =>
    ⟨X1, h1, hQ s X1 V V' h2 (fun k hk => hlt k ((h1 k).2 (.inl hk))) (hf.mono fun k _ hn e => hn ((h1 k).2 (.inl e))), (hf.block l (blk_lt h3) (fun e => e ((h1 l).2 (.inr (.inl rfl))))).trans h3,
      fun k hk => (hf.block k (hlt k ((h1 k).2 (.inr (.inr hk)))) (fun e => e ((h1 k).2 (.inr (.inr hk))))).trans (h4 k hk), h5⟩
  have thru : ∀ {V2 : World}, Fr (fun k => (X k ∨ k = l ∨ E k) ∨ Z k) V1 V2 → Fr (fun k => X k ∨ Z k) w V2 := fun hf => (hw.mono fun _ _ h => h.elim).trans3 hf fun k hk e => by
    rcases e with (e | rfl | e) | e
    · exact .inl e
    · omega
    · have := (hE k e).1; omega
    · exact .inr e
  have grow : ∀ {X' X1 : Nat → Prop} {V2 : World}, (∀ k, X' k ↔ (X1 k ∨ k = l ∨ E k)) → GrowX (fun k => X k ∨ k = l ∨ E k) X' V1 V2 → GrowX X X1 w V2 := fun h1 hg k hk => by
    have h2 := hg k ((h1 k).2 (.inl hk))
    refine ⟨h2.1, fun hlt => ?_⟩
    rcases h2.2 (Nat.lt_of_lt_of_le hlt hw.size) with e | rfl | e
    · exact e
    · omega
    · have := (hE k e).1; omega
  refine (hseq l (fun pre X' V => ∃ X1, (∀ k, X' k ↔ (X1 k ∨ k = l ∨ E k)) ∧ I pre X1 V ∧ V.heap[l]? = some (.loop (recF fn tmps ps assign body d .ready none)) ∧ (∀ k, E k → V.heap[k]? = V1.heap[k]?) ∧ (∀ k, X1 k → k ≠ l ∧ ¬ E k))
    (fun pre X' V => ∃ c, ∃ X1, (∀ k, X' k ↔ (X1 k ∨ k = l ∨ E k)) ∧ Ix c pre X1 V ∧ V.heap[l]? = some (.loop (recF fn tmps ps assign body d .done (some c))) ∧ (∀ k, E k → V.heap[k]? = V1.heap[k]?) ∧ (∀ k, X1 k → k ≠ l ∧ ¬ E k))
    (fun k => X k ∨ k = l ∨ E k) V1 (fun b hb => hw.block b (hY b hb) fun e => e) (fun b hb => Nat.lt_of_lt_of_le (hY b hb) hw.size) ?hX (key I _ hI) (fun s X' V V' ⟨c, h⟩ h1 h2 => ⟨c, key (Ix c) _ (hIx c) s X' V V' h h1 h2⟩) ?round
    ⟨X, fun k => Iff.rfl, hI [] X w V1 h0 (fun k hk => (hX k hk).1) (hw.mono fun _ _ h => h.elim), hr, fun _ _ => rfl, fun k hk => ⟨by have := (hX k hk).1; omega, fun e => by have := (hX k hk).1; have := (hE k e).1; omega⟩⟩).mono ?behind
  case hX =>
    rintro k (e | rfl | e)
    · exact ⟨Nat.lt_of_lt_of_le (hX k e).1 hw.size, (hX k e).2⟩
    · exact ⟨hlV, fun e => by have := hY _ e; omega⟩
    · exact ⟨(hE k e).2.1, fun e2 => by have := hY _ e2; have := (hE k e).1; omega⟩
  case behind =>
    rintro e V2 ⟨hv, X', hg, hf, (⟨X1, h1, h2, h3, h4, h5⟩ | ⟨pre, r, hpr, c, X1, h1, h2, h3, h4, h5⟩)⟩
    · exact ⟨hv, X1, grow h1 hg, h5, thru hf, h4, blk_lt h3, .inl ⟨h2, h3⟩⟩
    · exact ⟨hv, X1, grow h1 hg, h5, thru hf, h4, blk_lt h3, .inr ⟨pre, r, c, hpr, h2, h3⟩⟩
  case round =>
    rintro pre x r X' V hpx hgx ⟨X1, h1, h2, h3, h4, h5⟩ hfx
    have hy := run_yield (P := P) (args := encs x) h3 (by exact hps x)
    have hlv := blk_lt h3
    have hV1 := hfx.size
    obtain ⟨rb, hrb⟩ : ∃ rb : Loop, { recF fn tmps ps assign body d .ready none with state := .busy } = rb := ⟨_, rfl⟩
    refine ⟨fn, _, assign, body, hy, round_wide (n := n) (.inl rfl) (roundIn_of_wpIn (F := Fence.wide) trivial (hround pre x r X1 V _ rb hpx h2 (grow h1 hgx) h5 (thru hfx) hlv fun a1 Va hfa hbody => ⟨_, run_beginRound (hfa.blk h3 fun h => h) rfl, ?_⟩))⟩
    rw [hrb]
    have hla : l < Va.heap.size := Nat.lt_of_lt_of_le hlv hfa.size
    refine wpIn_mono (hbody (Va.putObj l (.loop rb)) (Fr.putObj (X := fun k => k = l) (hfa.mono fun _ _ h => h.elim) l rfl _) (putObj_size _ _ _) (fun k hk => World.putObj_heap_other hk) (World.putObj_heap_same hla)) ?_
    have fin : ∀ (Q : List α → (Nat → Prop) → World → Prop), Stays Q → ∀ {X2 : Nat → Prop} {V3 : World} (o : Obj), GrowX X1 X2 V V3 → Fr (fun k => k = l ∨ X1 k) V V3 → Q (pre ++ [x]) X2 V3 →
        GrowX X' (fun k => X2 k ∨ k = l ∨ E k) V (V3.putObj l o) ∧ Fr X' V (V3.putObj l o) ∧ ∃ X1', (∀ k, (X2 k ∨ k = l ∨ E k) ↔ (X1' k ∨ k = l ∨ E k)) ∧ Q (pre ++ [x]) X1' (V3.putObj l o) ∧ (V3.putObj l o).heap[l]? = some o ∧ (∀ k, E k → (V3.putObj l o).heap[k]? = V1.heap[k]?) ∧ (∀ k, X1' k → k ≠ l ∧ ¬ E k) := fun Q hQ X2 V3 o g2 f2 q2 => by
      have hl3 : l < V3.heap.size := Nat.lt_of_lt_of_le hlv f2.size
      have hEV : ∀ k, E k → k < V.heap.size := fun k hk => Nat.lt_of_lt_of_le (hE k hk).2.1 hV1
      have x2 : ∀ k, X2 k → k ≠ l ∧ ¬ E k := fun k hk => ⟨fun e => by subst e; exact (h5 _ ((g2 _ hk).2 hlv)).1 rfl, fun e => (h5 _ ((g2 _ hk).2 (hEV k e))).2 e⟩
      refine ⟨fun k hk => ?_, (f2.putObj l (.inl rfl) o).mono fun k _ e => ?_, X2, fun k => Iff.rfl, hQ _ X2 V3 _ q2 (fun k hk => (g2 k hk).1) ((Fr.refl _ V3).putObj l (fun e => (x2 l e).1 rfl) o), World.putObj_heap_same hl3, fun k hk => ?_, x2⟩
      · rw [putObj_size]
        rcases hk with hk | rfl | hk
        · exact ⟨(g2 k hk).1, fun hlt => (h1 k).2 (.inl ((g2 k hk).2 hlt))⟩
        · exact ⟨hl3, fun _ => (h1 _).2 (.inr (.inl rfl))⟩
        · exact ⟨Nat.lt_of_lt_of_le (hEV k hk) f2.size, fun _ => (h1 _).2 (.inr (.inr hk))⟩
      · rcases e with rfl | e
        · exact (h1 _).2 (.inr (.inl rfl))
        · exact (h1 _).2 (.inl e)
      · refine (World.putObj_heap_other (hE k hk).2.2).trans ((f2.block k (hEV k hk) ?_).trans (h4 k hk))
        rintro (e | e)
        · exact (hE k hk).2.2 e
        · exact (h5 k e).2 hk
    rintro e a3 V3 hp
    cases e with
    | normal =>
      obtain ⟨X2, g2, f2, r2, i2⟩ := hp
      have hend := run_endRound (P := P) none r2
      rw [← hrb] at hend
      obtain ⟨q1, q2, q3⟩ := fin I hI _ g2 f2 i2
      exact ⟨_, _, hend, _, q1, q2, .inl ⟨rfl, q3⟩⟩
    | ret =>
      obtain ⟨X2, g2, f2, r2, i2⟩ := hp
      have hend := run_endRound (P := P) (some .ret) r2
      rw [← hrb] at hend
      obtain ⟨q1, q2, q3⟩ := fin _ (hIx .ret) _ g2 f2 i2
      exact ⟨_, _, hend, _, q1, q2, .inr ⟨rfl, _, q3⟩⟩
    | exit id =>
      obtain ⟨X2, g2, f2, r2, i2⟩ := hp
      have hend := run_endRound (P := P) (some (.exit id)) r2
      rw [← hrb] at hend
      obtain ⟨q1, q2, q3⟩ := fin _ (hIx (.exit id)) _ g2 f2 i2
      exact ⟨_, _, hend, _, q1, q2, .inr ⟨rfl, _, q3⟩⟩
    | goto t =>
      obtain ⟨X2, g2, f2, r2, i2⟩ := hp
      have hend := run_endRound (P := P) (some (.goto t)) r2
      rw [← hrb] at hend
      obtain ⟨q1, q2, q3⟩ := fin _ (hIx (.goto t)) _ g2 f2 i2
      exact ⟨_, _, hend, _, q1, q2, .inr ⟨rfl, _, q3⟩⟩
    | panic ch => exact hp.elim
    | outgrown => exact hp.elim
/-- an outermost loop -/
theorem wpIn_rangeZ {n : Nat} {P : Program} {w : World} {α : Type} {a : Act} {Q : Exit → Act → World → Prop} {g : Operand} {assign body : Code} {ps : Array Tmp} {gf : Nat} {lb : Array Value}
    {X Y Z : Nat → Prop} {encs : α → Array Value} {xs : List α} (I : List α → (Nat → Prop) → World → Prop) (Ix : Code → List α → (Nat → Prop) → World → Prop)
    (hg : a.eval g = .func (.func gf) #[] lb) (hseq : SeqZ P gf lb encs Y Z xs w) (hX : ∀ k, X k → k < w.heap.size ∧ ¬ (Y k ∨ Z k)) (hY : ∀ b, Y b ∨ Z b → b < w.heap.size) (h1 : 1 ≤ n)
    (eg : ∀ args v, (callFunc gf args).run P v = .ok (.enter gf args) v) (hps : ∀ x, (encs x).size = ps.size) (hI : Stays I) (hIx : ∀ c, Stays (Ix c)) (h0 : I [] X w)
    (hround : ∀ l pre x r X1 V (K : Act → World → Prop) rb, w.heap.size ≤ l → pre ++ x :: r = xs → I pre X1 V → GrowX X X1 w V → ¬ X1 l → Fr (fun k => X k ∨ Z k) w V → l < V.heap.size →
      (∀ a1 Va, Fr (fun _ => False) V Va → (∀ Vb, Fr (fun k => k = l) V Vb → Vb.heap.size = Va.heap.size → (∀ k, k ≠ l → Vb.heap[k]? = Va.heap[k]?) → Vb.heap[l]? = some (.loop rb) → body.wpIn (Fence.wide.inRound l) (n - 1 - 1) P (EndF l rb X1 I Ix (pre ++ [x]) V) a1 Vb) → K a1 Va) →
      assign.wpIn (Fence.wide.inRound l) (n - 1 - 1) P (Exit.then K fun _ _ _ => False) { tmps := (ps.zip (encs x)).foldl (fun t (p, v) => t.setIfInBounds p v) a.tmps, defers := [] } V)
    (hdone : ∀ D X2 V, w.heap.size ≤ D → ¬ X2 D → GrowX X X2 w V → Fr (fun k => X k ∨ Z k) w V → I xs X2 V → V.heap[D]? = some (.deferred (some [])) → Q .normal { a with defers := { target := .collected D, args := #[] } :: a.defers } V)
    (hstop : ∀ D c pre r X2 V, w.heap.size ≤ D → pre ++ r = xs → ¬ X2 D → GrowX X X2 w V → Fr (fun k => X k ∨ Z k) w V → Ix c pre X2 V → V.heap[D]? = some (.deferred (some [])) → c.wpIn Fence.wide n P Q { a with defers := { target := .collected D, args := #[] } :: a.defers } V) :
    (Code.rangeFunc g ps assign body).wpIn Fence.wide n P Q a w := by
  refine wpIn_rangeFunc fun fn hfn => ?_
  obtain ⟨V1, hV1⟩ : ∃ V1, (w.alloc (.deferred (some []))).alloc (.loop (recF fn a.tmps ps assign body w.heap.size .ready none)) = V1 := ⟨_, rfl⟩
  have hz : V1.heap.size = w.heap.size + 2 := by rw [← hV1]; simp
  have hr : V1.heap[w.heap.size + 1]? = some (.loop (recF fn a.tmps ps assign body w.heap.size .ready none)) := by
    subst hV1
    have h := World.alloc_heap_new (w.alloc (.deferred (some []))) (.loop (recF fn a.tmps ps assign body w.heap.size .ready none))
    rwa [World.size_alloc] at h
  have hd : V1.heap[w.heap.size]? = some (.deferred (some [])) := by
    subst hV1
    exact (Below.heap_alloc _ _ _ (by simp)).trans (World.alloc_heap_new w _)
  have hw : Fr (fun _ => False) w V1 := by subst hV1; exact ((Fr.refl _ w).alloc _).alloc _
  refine ⟨w.heap.size + 1, [{ target := .collected w.heap.size, args := #[] }], V1, { target := .fn (.func gf) lb, args := #[.func (.yield (w.heap.size + 1)) #[] #[]] }, V1, gf, #[.func (.yield (w.heap.size + 1)) #[] #[]] ++ lb, V1, ?_, ?_, ?_, ?_, fun _ => h1, ?_⟩
  · rw [← hV1]; exact run_enterLoop_outer _ _ _ _ _
  · simp only [resolve, hg]; simp [go_sem]
  · intro f' _; trivial
  · simp [invoke, go_sem, eg]
  refine (calls_wide (.inl rfl) (range_coreZ (n := n - 1 - 1) (E := fun k => k = w.heap.size) I Ix hseq hX hY hps hI hIx h0 hw (by omega) (fun k hk => by subst hk; omega) hr
    (fun pre x r X1 V K rb h1 h2 h3 h4 h5 h6 h7 => hround (w.heap.size + 1) pre x r X1 V K rb (by omega) h1 h2 h3 (fun e => (h4 _ e).1 rfl) h5 h6 h7))).mono ?_
  rintro e V2 ⟨⟨v, rfl⟩, X2, g2, x2, f2, e2, l2, h⟩
  have hD : ∀ o, (V2.putObj (w.heap.size + 1) o).heap[w.heap.size]? = some (.deferred (some [])) := fun o => (World.putObj_heap_other (by omega)).trans ((e2 _ rfl).trans hd)
  have hput : ∀ o, Fr (fun k => X k ∨ Z k) w (V2.putObj (w.heap.size + 1) o) := fun o => f2.trans3 ((Fr.refl (fun k => k = w.heap.size + 1) V2).putObj _ rfl o) fun k hk e => by omega
  have hst : ∀ o, Fr (fun k => ¬ X2 k) V2 (V2.putObj (w.heap.size + 1) o) := fun o => (Fr.refl _ V2).putObj _ (fun e => (x2 _ e).1 rfl) o
  have hgr : ∀ o, GrowX X X2 w (V2.putObj (w.heap.size + 1) o) := fun o k hk => by rw [putObj_size]; exact g2 k hk
  rcases h with ⟨hi, hr2⟩ | ⟨pre, r, c, hpr, hi, hr2⟩
  · exact ⟨none, _, run_endLoop (P := P) hr2 (by simp [recF]), hdone _ X2 _ (Nat.le_refl _) (fun e => (x2 _ e).2 rfl) (hgr _) (hput _) (hI _ X2 V2 _ hi (fun k hk => (g2 k hk).1) (hst _)) (hD _)⟩
  · exact ⟨some c, _, run_endLoop (P := P) hr2 (by simp [recF]), hstop _ c pre r X2 _ (Nat.le_refl _) hpr (fun e => (x2 _ e).2 rfl) (hgr _) (hput _) (hIx c _ X2 V2 _ hi (fun k hk => (g2 k hk).1) (hst _)) (hD _)⟩
/-- a loop within a round -/
theorem wpIn_rangeZN {n : Nat} {P : Program} {w : World} {α : Type} {a : Act} {Q : Exit → Act → World → Prop} {g : Operand} {assign body : Code} {ps : Array Tmp} {gf : Nat} {lb : Array Value} {l0 : Nat} {r0 : Loop}
    {X Y Z : Nat → Prop} {encs : α → Array Value} {xs : List α} (I : List α → (Nat → Prop) → World → Prop) (Ix : Code → List α → (Nat → Prop) → World → Prop) (hl0 : w.heap[l0]? = some (.loop r0))
    (hg : a.eval g = .func (.func gf) #[] lb) (hseq : SeqZ P gf lb encs Y Z xs w) (hX : ∀ k, X k → k < w.heap.size ∧ ¬ (Y k ∨ Z k)) (hY : ∀ b, Y b ∨ Z b → b < w.heap.size) (h1 : 1 ≤ n)
    (eg : ∀ args v, (callFunc gf args).run P v = .ok (.enter gf args) v) (hps : ∀ x, (encs x).size = ps.size) (hI : Stays I) (hIx : ∀ c, Stays (Ix c)) (h0 : I [] X w)
    (hround : ∀ l pre x r X1 V (K : Act → World → Prop) rb, w.heap.size ≤ l → pre ++ x :: r = xs → I pre X1 V → GrowX X X1 w V → ¬ X1 l → Fr (fun k => X k ∨ Z k) w V → l < V.heap.size →
      (∀ a1 Va, Fr (fun _ => False) V Va → (∀ Vb, Fr (fun k => k = l) V Vb → Vb.heap.size = Va.heap.size → (∀ k, k ≠ l → Vb.heap[k]? = Va.heap[k]?) → Vb.heap[l]? = some (.loop rb) → body.wpIn (Fence.wide.inRound l) (n - 1 - 1) P (EndF l rb X1 I Ix (pre ++ [x]) V) a1 Vb) → K a1 Va) →
      assign.wpIn (Fence.wide.inRound l) (n - 1 - 1) P (Exit.then K fun _ _ _ => False) { tmps := (ps.zip (encs x)).foldl (fun t (p, v) => t.setIfInBounds p v) a.tmps, defers := [] } V)
    (hdone : ∀ X2 V, GrowX X X2 w V → Fr (fun k => X k ∨ Z k) w V → I xs X2 V → Q .normal a V)
    (hstop : ∀ c pre r X2 V, pre ++ r = xs → GrowX X X2 w V → Fr (fun k => X k ∨ Z k) w V → Ix c pre X2 V → c.wpIn (Fence.wide.inRound l0) n P Q a V) :
    (Code.rangeFunc g ps assign body).wpIn (Fence.wide.inRound l0) n P Q a w := by
  refine wpIn_rangeFunc fun fn hfn => ?_
  obtain ⟨V1, hV1⟩ : ∃ V1, w.alloc (.loop (recF fn a.tmps ps assign body r0.defers .ready none)) = V1 := ⟨_, rfl⟩
  have hz : V1.heap.size = w.heap.size + 1 := by rw [← hV1]; simp
  have hr : V1.heap[w.heap.size]? = some (.loop (recF fn a.tmps ps assign body r0.defers .ready none)) := by subst hV1; exact World.alloc_heap_new w _
  have hw : Fr (fun _ => False) w V1 := by subst hV1; exact (Fr.refl _ w).alloc _
  refine ⟨w.heap.size, [], V1, { target := .fn (.func gf) lb, args := #[.func (.yield w.heap.size) #[] #[]] }, V1, gf, #[.func (.yield w.heap.size) #[] #[]] ++ lb, V1, ?_, ?_, ?_, ?_, fun _ => h1, ?_⟩
  · rw [← hV1]; exact run_enterLoop_inner hl0 _ _ _ _ _
  · simp only [resolve, hg]; simp [go_sem]
  · intro f' _; trivial
  · simp [invoke, go_sem, eg]
  refine (calls_wide (.inr ⟨l0, rfl⟩) (range_coreZ (n := n - 1 - 1) (E := fun _ => False) I Ix hseq hX hY hps hI hIx h0 hw (Nat.le_refl _) (fun k hk => hk.elim) hr
    (fun pre x r X1 V K rb h1 h2 h3 h4 h5 h6 h7 => hround w.heap.size pre x r X1 V K rb (Nat.le_refl _) h1 h2 h3 (fun e => (h4 _ e).1 rfl) h5 h6 h7))).mono ?_
  rintro e V2 ⟨⟨v, rfl⟩, X2, g2, x2, f2, e2, l2, h⟩
  have hput : ∀ o, Fr (fun k => X k ∨ Z k) w (V2.putObj w.heap.size o) := fun o => f2.trans3 ((Fr.refl (fun k => k = w.heap.size) V2).putObj _ rfl o) fun k hk e => by omega
  have hst : ∀ o, Fr (fun k => ¬ X2 k) V2 (V2.putObj w.heap.size o) := fun o => (Fr.refl _ V2).putObj _ (fun e => (x2 _ e).1 rfl) o
  have hgr : ∀ o, GrowX X X2 w (V2.putObj w.heap.size o) := fun o k hk => by rw [putObj_size]; exact g2 k hk
  rcases h with ⟨hi, hr2⟩ | ⟨pre, r, c, hpr, hi, hr2⟩
  · exact ⟨none, _, run_endLoop (P := P) hr2 (by simp [recF]), hdone X2 _ (hgr _) (hput _) (hI _ X2 V2 _ hi (fun k hk => (g2 k hk).1) (hst _))⟩
  · exact ⟨some c, _, run_endLoop (P := P) hr2 (by simp [recF]), hstop c pre r X2 _ hpr (hgr _) (hput _) (hIx c _ X2 V2 _ hi (fun k hk => (g2 k hk).1) (hst _))⟩
end Go.Proofs.Ytadbpgkhenbpfaa
end
section
/- A function value that tells a row; it tells it still where its blocks lie as they lay. -/
namespace Go.Proofs.Ytadbpgkhenbpfaa
open Go Go.RowKit

/-- what tells xs out of blocks Y -/
def TellsF {α : Type} (P : Program) (encs : α → Array Value) (w : World) (F : Value) (Y : Nat → Prop) (xs : List α) : Prop :=
  ∃ gf lb, F = .func (.func gf) #[] lb ∧ SeqF P gf lb encs Y xs w ∧ (∀ b, Y b → b < w.heap.size) ∧ (∀ args v, (callFunc gf args).run P v = .ok (.enter gf args) v)
theorem SeqF.same {α : Type} {P : Program} {g : Nat} {lb : Array Value} {encs : α → Array Value} {Y : Nat → Prop} {xs : List α} {w W : World} (h : SeqF P g lb encs Y xs w) (hs : SameX Y w W) : SeqF P g lb encs Y xs W :=
  fun l J Jx X V h1 => h l J Jx X V (hs.trans h1)
theorem TellsF.fr {α : Type} {P : Program} {encs : α → Array Value} {X Y : Nat → Prop} {w W : World} {F : Value} {xs : List α} (h : TellsF P encs w F Y xs) (hf : Fr X w W) (hX : ∀ b, Y b → ¬ X b) : TellsF P encs W F Y xs := by
  obtain ⟨gf, lb, h1, h2, h3, h4⟩ := h
  exact ⟨gf, lb, h1, h2.same fun b hb => hf.block b (h3 b hb) (hX b hb), fun b hb => Nat.lt_of_lt_of_le (h3 b hb) hf.size, h4⟩
theorem TellsF.below {α : Type} {P : Program} {encs : α → Array Value} {Y : Nat → Prop} {w W : World} {F : Value} {xs : List α} (h : TellsF P encs w F Y xs) (hb : RowKit.Below w.heap.size w W) : TellsF P encs W F Y xs :=
  h.fr (Fr.of_below (X := fun _ => False) hb) fun _ _ e => e
/-- J of blocks X hangs on a frame that leaves them -/
theorem Stays.fr {β : Type} {J : β → (Nat → Prop) → World → Prop} (h : Stays J) {s : β} {X Z : Nat → Prop} {V V' : World} (hj : J s X V) (hl : ∀ k, X k → k < V.heap.size) (hf : Fr Z V V') (hz : ∀ k, Z k → ¬ X k) : J s X V' :=
  h s X V V' hj hl (hf.mono fun k _ e => hz k e)
theorem stays_and {β : Type} {J K : β → (Nat → Prop) → World → Prop} (h1 : Stays J) (h2 : Stays K) : Stays fun s X V => J s X V ∧ K s X V := fun s X V V' h hl hf => ⟨h1 s X V V' h.1 hl hf, h2 s X V V' h.2 hl hf⟩
theorem stays_pure {β : Type} (p : β → Prop) : Stays fun s (_ : Nat → Prop) (_ : World) => p s := fun _ _ _ _ h _ _ => h
/-- the marks of outermost loops are taken up at the function's end -/
def markF (D : Nat) : Deferred := { target := .collected D, args := #[] }
theorem leavesF {F : Fence} {n : Nat} {P : Program} {fn : Func} {tmps : Array Value} {R : Ending → World → Prop} : ∀ (Ds : List Nat) (w : World), Ds.Nodup → (∀ D ∈ Ds, w.heap[D]? = some (.deferred (some []))) →
    (∀ w', Fr (fun k => k ∈ Ds) w w' → ∃ v, (results fn tmps).run P w' = .ok v w' ∧ R (.returned v) w') → LeavesInM F n P fn tmps R (Ds.map markF) .returning w
  | [], w, _, _, h => h w (Fr.refl _ _)
  | D :: Ds, w, hn, hd, h => by
    rw [List.nodup_cons] at hn
    have h0 := hd D (by simp)
    refine ⟨by simp, .inl ⟨_, _, rfl, run_takeDeferred h0, ?_⟩⟩
    refine leavesF Ds _ hn.2 (fun D2 h2 => (World.putObj_heap_other fun e => hn.1 (by cases e; exact h2)).trans (hd D2 (by simp [h2]))) fun w' hf => h w' ?_
    have h1 : Fr (fun k => k ∈ D :: Ds) w (w.putObj D (.deferred none)) := ⟨rfl, rfl, rfl, by simp [World.putObj], fun k _ hk => World.putObj_heap_other fun e => hk (by simp [e])⟩
    exact h1.trans3 hf fun k _ hk => by simp [hk]
theorem leaves_one {F : Fence} {n : Nat} {P : Program} {fn : Func} {tmps : Array Value} {R : Ending → World → Prop} (D : Nat) (w : World) (hd : w.heap[D]? = some (.deferred (some [])))
    (h : ∀ w', Fr (fun k => k = D) w w' → ∃ v, (results fn tmps).run P w' = .ok v w' ∧ R (.returned v) w') : LeavesInM F n P fn tmps R [{ target := .collected D, args := #[] }] .returning w :=
  leavesF [D] w (by simp) (fun D2 h2 => by rw [List.mem_singleton] at h2; subst h2; exact hd) fun w' hf => h w' (hf.mono fun k _ e => by simpa using e)
end Go.Proofs.Ytadbpgkhenbpfaa
end
section
/- Rows of texts of the call's own; slices.Values at texts. -/
namespace Go.Proofs.Ytadbpgkhenbpfaa
set_option linter.unusedVariables false
set_option linter.unusedSimpArgs false
open Go Go.RowKit Go.Lib
attribute [local go_sem] Oper.semAt_some

/-- a text in a cell, as it is told -/
def encT (x : List UInt8) : Value := .string (bs x)
def encL (x : List UInt8) : Array Value := #[.string (bs x)]
def OwnT (base : Nat) (W : World) (v : Value) (xs : List (List UInt8)) : Prop := W.ownsRow base 9 1 v xs.length (xs.map encT)
theorem Try.infoT : (Try.prog.info? 9).map (fun i => (i.zero, i.size, i.bytes)) = some (some (.string ByteArray.empty), 1, 16) := by kernel_rfl
theorem ownT_kept {base : Nat} {w W : World} {v : Value} {xs : List (List UInt8)} (h : OwnT base w v xs) (hs : ∀ g, v.ownBlock = some g → W.heap[g]? = w.heap[g]?) : OwnT base W v xs := row_same h hs
theorem ownT_nil (base : Nat) (w : World) : OwnT base w (.slice none 0 0) [] := World.ownsRow_nil _ _ _ _
theorem ownT_base {W : World} {base base' : Nat} {v : Value} {xs : List (List UInt8)} (h : OwnT base W v xs) (hb : base' ≤ base) : OwnT base' W v xs := by
  obtain ⟨h1, h2⟩ := h
  refine ⟨h1, ?_⟩
  rcases h2 with h2 | ⟨g, cap, cur, h3, h4, h5⟩
  · exact .inl h2
  · exact .inr ⟨g, cap, cur, h3, by omega, h5⟩
theorem ownT_snoc {base : Nat} {w : World} {v : Value} {xs : List (List UInt8)} {x : List UInt8} (h : w.ownsRow base 9 1 v (xs.length + 1) (xs.map encT ++ [encT x])) : OwnT base w v (xs ++ [x]) := by
  unfold OwnT; rw [List.length_append, List.map_append]; exact h
/-- texts as they are read -/
def ReadsT (w : World) (A : Option Addr) (xs : List (List UInt8)) : Prop := 0 < xs.length → ∃ g o, A = some ⟨g, o, none⟩ ∧ g < w.heap.size ∧ ∀ j (h : j < xs.length), w.cell? ⟨g, o + j, none⟩ = some (.string (bs xs[j]))
theorem reads_ownT {base : Nat} {w : World} {A : Option Addr} {n c : Nat} {xs : List (List UInt8)} (h : OwnT base w (.slice A n c) xs) : ReadsT w A xs := fun h0 => by
  have h' := h
  rcases h.2 with ⟨h1, h2⟩ | ⟨g, cap, cur, h1, h3, h4, h5, _, h6, h7⟩
  · omega
  · injection h1 with q1 q2 q3
    subst q1
    refine ⟨g, 0, rfl, blk_lt h4, fun j hj => ?_⟩
    have := h'.cells (g := g) rfl j (encT xs[j]) (by simp [hj])
    have hadd : (⟨g, 0, none⟩ : Addr).add j = ⟨g, 0 + j, none⟩ := by
      unfold Addr.add
      split
      · simp_all
      · rfl
    rw [hadd] at this
    exact this
theorem ReadsT.below {w W : World} {A : Option Addr} {xs : List (List UInt8)} (h : ReadsT w A xs) {n : Nat} (hb : Below n w W) (hn : w.heap.size ≤ n := by exact Nat.le_refl _) : ReadsT W A xs := fun h0 => by
  obtain ⟨g, o, rfl, hg, h1⟩ := h h0
  exact ⟨g, o, rfl, Nat.lt_of_lt_of_le hg hb.size, fun j hj => (World.cell?_of_block (w := w) (w' := W) (a := ⟨g, o + j, none⟩) (hb.block g (by omega))).trans (h1 j hj)⟩
/-- the blocks of a tale -/
def rowYT (B : Nat) (v : Value) : Nat → Prop := fun b => b = B ∨ v.ownBlock = some b
set_option maxRecDepth 100000 in
set_option maxHeartbeats 4000000 in
theorem values_seqT (base B : Nat) (v : Value) (xs : List (List UInt8)) (w : World) (hxs : xs.length ≤ 1000000) (hb : w.heap[B]? = some (.cells #[v] 31 (0, 0))) (hr : OwnT base w v xs) :
    SeqF Try.prog 29 #[.pointer (some ⟨B, 0, none⟩)] encL (rowYT B v) xs w := fun l J Jx X V hs hYl hX hJ hJx hY h0 => by
  have hbV := (hs B (.inl rfl)).trans hb
  have hrV : OwnT base V v xs := ownT_kept hr fun g hg => hs g (.inr hg)
  obtain ⟨A, c, rfl⟩ := row_slice hr
  have c0 : V.cell? ⟨B, 0, none⟩ = some (.slice A xs.length c) := (blk_cell hbV 0).trans rfl
  have HR := Lib.hid (reads_ownT hrV)
  have HO := Lib.hid hrV
  have HY := Lib.hid hY
  have HX := Lib.hid hX
  have h00 : Hid (∃ X1, GrowX X X1 V V ∧ Fr X V V ∧ J [] X1 V) := ⟨X, GrowX.refl fun k hk => (hX k hk).1, Fr.refl _ _, h0⟩
  clear hb hr hs hrV hbV hY hX h0 hJ hJx hYl
  refine (callsIn_wide (n := 20)).1 ?_
  refine callsIn_of_wp Try.func29 rfl trivial ?_ rfl
  simp only [Try.ntmps29, List.size_toArray, List.length_cons, List.length_nil, Nat.reduceAdd, Nat.reduceSub, Array.replicate_succ, Array.replicate_zero, List.push_toArray, List.append_toArray, List.nil_append, List.cons_append]
  gi_wp2
  gi_loopw [7] (fun c1 wr => ∃ k : Nat, c1 = .int .i64 k ∧ k ≤ xs.length ∧ Hid (∃ X1, GrowX X X1 V wr ∧ Fr X V wr ∧ J (xs.take k) X1 wr)) (fun c1 _ => xs.length - (Go.RowKit.intOf c1).toNat)
  case atStart => exact ⟨0, rfl, Nat.zero_le _, h00⟩
  case round =>
    obtain ⟨k, rfl, hk, HJ⟩ := hrel
    clear h00
    obtain ⟨X1, hg1, hf1, hj1⟩ := HJ.out
    by_cases hlt : k < xs.length
    · obtain ⟨g, o, rfl, hg, hcell⟩ := HR.out (by omega)
      obtain ⟨x, hx⟩ : ∃ x, xs[k] = x := ⟨_, rfl⟩
      have hgY : rowYT B (.slice (some ⟨g, o, none⟩) xs.length c) g := by
        rcases HO.out.2 with ⟨e, _⟩ | ⟨g2, cap, cur, e, _⟩
        · cases e
        · cases e; exact .inr rfl
      have e0 : wr.cell? ⟨g, o + k, none⟩ = some (.string (bs x)) := by
        rw [hf1.cell (p := ⟨g, o + k, none⟩) hg (fun e => (HX.out g e).2 hgY), hcell k hlt, hx]
      have hsp : xs.take k ++ x :: xs.drop (k + 1) = xs := by rw [← hx, ← List.drop_eq_getElem_cons hlt]; exact List.take_append_drop k xs
      have htk : xs.take (k + 1) = xs.take k ++ [x] := by rw [List.take_succ_eq_append_getElem hlt, hx]
      have hyy := HY.out (xs.take k) x (xs.drop (k + 1)) X1 wr hsp hg1 hj1 hf1
      obtain ⟨fn, tmps, assign, body, hy, hR⟩ := hyy
      dsimp only [encL] at hy
      have HT := Lib.hid (And.intro htk (And.intro hsp (And.intro hg1 hf1)))
      clear hx htk hsp hg hcell hg1 hf1 hj1 hgY
      gi_wp2_with fail
      refine (round_wide (.inl rfl) hR).mono ?_
      rintro e W3 ⟨X2, g2, f2, (⟨rfl, hJ3⟩ | ⟨rfl, hJx3⟩)⟩
      · obtain ⟨htk, hsp, hg1, hf1⟩ := HT.out
        have hN : Hid (∃ X1, GrowX X X1 V W3 ∧ Fr X V W3 ∧ J (xs.take (k + 1)) X1 W3) := ⟨X2, hg1.trans g2 hf1.size, hf1.trans3 f2 fun k hk e => (hg1 k e).2 hk, by rw [htk]; exact hJ3⟩
        clear htk hsp hg1 hf1 g2 f2 hJ3 hR hy
        gi_wp2_with fail
        go_roundw
        case rel => exact ⟨k + 1, by go_num, by omega, hN⟩
        case measure => simp [Go.RowKit.intOf]; omega
      · clear hR hy
        gi_wp2_with fail
        refine bodyPost_ret (results_none rfl _ _ _) rfl ?_
        obtain ⟨htk, hsp, hg1, hf1⟩ := HT.out
        exact ⟨⟨_, rfl⟩, X2, hg1.trans g2 hf1.size, hf1.trans3 f2 fun k hk e => (hg1 k e).2 hk, .inr ⟨_, xs.drop (k + 1), by simpa using hsp, hJx3⟩⟩
    · obtain rfl : k = xs.length := by omega
      rw [List.take_length] at hj1
      have HQ := Lib.hid (And.intro hg1 (And.intro hf1 hj1))
      clear hg1 hf1 hj1
      gi_wp2_with fail
      go_end0
      obtain ⟨hg1, hf1, hj1⟩ := HQ.out
      exact ⟨⟨_, rfl⟩, X1, hg1, hf1, .inl hj1⟩
/-- what tells xs: a tale, its box, the value in it -/
def TaleT (base : Nat) (w : World) (F : Value) (xs : List (List UInt8)) : Prop := ∃ B v, base ≤ B ∧ F = .func (.func 29) #[] #[.pointer (some ⟨B, 0, none⟩)] ∧ w.heap[B]? = some (.cells #[v] 31 (0, 0)) ∧ v.ownBlock ≠ some B ∧ OwnT base w v xs
def ValsT (v : Value) (w : World) (e : Ending) (w' : World) : Prop :=
  e = .returned (.func (.func 29) #[] #[.pointer (some ⟨w.heap.size, 0, none⟩)]) ∧ w'.heap[w.heap.size]? = some (.cells #[v] 31 (0, 0)) ∧ Below w.heap.size w w'
theorem values_callsT (A : Option Addr) (l c : Nat) (w : World) : Calls Try.prog 24 #[.slice A l c] w (ValsT (.slice A l c) w) := by
  go_enter Try.func24, Try.ntmps24
  go_wp2_with fail
  go_ret
  exact ⟨rfl, heap_alloc_new _ _, (Below.refl _ _).alloc (Nat.le_refl _) _⟩
theorem tale_ofT {base : Nat} {xs : List (List UInt8)} {w w1 : World} {v : Value} {e : Ending} (hb : base ≤ w.heap.size) (h1 : OwnT base w v xs) (h3 : ValsT v w e w1) : ∃ F, e = .returned F ∧ TaleT base w1 F xs ∧ Below w.heap.size w w1 := by
  obtain ⟨rfl, h4, h5⟩ := h3
  refine ⟨_, rfl, ⟨w.heap.size, v, hb, rfl, h4, fun e => ?_, ownT_kept h1 fun g hg => h5.block g (h1.lt g hg).2⟩, h5⟩
  have := (h1.lt _ e).2; omega
theorem tellsT_tale {base : Nat} {w : World} {F : Value} {xs : List (List UInt8)} (h : TaleT base w F xs) (hl : xs.length ≤ 1000000) : ∃ Y, (∀ b, Y b → base ≤ b) ∧ TellsF Try.prog encL w F Y xs := by
  obtain ⟨B, v, h1, rfl, h3, h4, h5⟩ := h
  refine ⟨rowYT B v, fun b hb => ?_, _, _, rfl, values_seqT base B v xs w hl h3 h5, fun b hb => ?_, enters_of Try.func29 (by kernel_rfl) rfl⟩
  · rcases hb with rfl | hb
    · exact h1
    · exact (h5.lt b hb).1
  · rcases hb with rfl | hb
    · exact blk_lt h3
    · exact (h5.lt b hb).2
end Go.Proofs.Ytadbpgkhenbpfaa
end
