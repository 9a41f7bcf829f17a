/- Texts of this proof, one behind the other. -/
import Derived.Test.YtpbobonddocgkaaGreatDoorCoreOnceG12
import Derived.IntWalk
import Derived.Deep.OwnRows
import Derived.Laws.CopyOwn
import Derived.Laws.CopyRow
import Derived.Test.YtpbobonddocgkaaGreatDoorCoreOnceG8
import Derived.Test.YtpbobonddocgkaaGreatDoorCoreOnceG10
import Derived.Test.YtpbobonddocgkaaGreatDoorCoreOnceG11
import Derived.Test.YtpbobonddocgkaaGreatDoorCoreOnceG9
import Derived.Test.YtpbobonddocgkaaGreatDoorCoreOnceG2
import Derived.Laws.ResultCell
import Derived.Test.YtpbobonddocgkaaGreatDoorCoreOnceG1
import Derived.Lib.Replace
import Derived.Lib.CountLaws
import Derived.Lib.IndexBytes
import Derived.Lib.IndexLaws
set_option linter.unusedVariables false
set_option linter.unusedSimpArgs false
section
/- Layer 8: Push. -/
namespace Go.Proofs.YtpbobonddocgkaaGreatDoor
open Go Go.RowKit Go.Lib Go.Sort Go.Shelf

/-- has a line room? -/
def roomQ (s : QS) (l : List UInt8) : Bool := decide ((l.length : Int) + 2 ≤ s.most - s.ws.length)
/-- is it taken up at all? -/
def fitQ (s : QS) (l : List UInt8) : Bool := !s.over && decide (l.length ≤ 510) && textL l
def pushB (s : QS) (l : List UInt8) : Bool := fitQ s l && roomQ s l
def pushS (s : QS) (l : List UInt8) : QS := if fitQ s l then if roomQ s l then { s with ws := s.ws ++ l ++ [13, 10] } else { s with over := true } else s
def PushP (base : Nat) (w : World) (q : Nat) (ob : Option Nat) (s : QS) (l : List UInt8) (e : Ending) (w' : World) : Prop :=
  e = .returned (.bool (pushB s l)) ∧ ∃ ob', QAt base w' q ob' (pushS s l) ∧ (∀ k, ob' = some k → k < w.heap.size → ob = some k) ∧ Fr (fun k => k = q ∨ ob = some k) w w'
set_option maxRecDepth 100000 in
set_option maxHeartbeats 4000000 in
theorem q_push {base : Nat} {w : World} {q : Nat} {ob : Option Nat} {s : QS} (h : QAt base w q ob s) (hbw : base ≤ w.heap.size) (hm : 0 ≤ s.most) (hm2 : s.most ≤ 65536) (hl : s.ws.length ≤ 100000) (l : ByteArray) (hll : l.size ≤ 1000000) :
    Calls Tryz.prog 45 #[.pointer (some ⟨q, 0, none⟩), .string l] w (PushP base w q ob s l.data.toList) := by
  have hsz : l.data.toList.length = l.size := rfl
  obtain ⟨i0, hi, hz0, hz1, hz2⟩ := info_parts Tryz.infoB
  have same : ∀ w', RowKit.Below w.heap.size w w' → fitQ s l.data.toList = false → PushP base w q ob s l.data.toList (.returned (.bool false)) w' := fun w' hb hf => by
    have h1 : pushS s l.data.toList = s := by unfold pushS; rw [hf]; rfl
    have h2 : pushB s l.data.toList = false := by unfold pushB; rw [hf]; rfl
    refine ⟨by rw [h2], ob, by rw [h1]; exact q_below h hb, fun k hk _ => hk, (Fr.of_below (X := fun _ => False) hb).mono fun _ _ e => e.elim⟩
  have HS := Lib.hid same
  have HH := Lib.hid h
  obtain ⟨v, h1, ho, h3, h4⟩ := h
  obtain ⟨A, c, rfl⟩ := row_slice h3
  obtain ⟨most, ws, sent, parted, over⟩ := s
  dsimp only at hm hm2 hl h1 h3
  have c0 := blk_cell h1 0
  have c1 := blk_cell h1 1
  have c4 := blk_cell h1 4
  have f1 := blk_free h1 1
  have f4 := blk_free h1 4
  have H := Lib.hid (And.intro h1 (And.intro ho (And.intro h3 h4)))
  clear h1 ho h3 h4 same
  by_cases p1 : over = true
  · subst p1
    go_enter Tryz.func45, Tryz.ntmps45
    go_wp2
    go_ret
    exact HS.out w (Below.refl _ _) (by simp [fitQ])
  have p1 : over = false := by simpa using p1
  subst p1
  by_cases p2 : l.size ≤ 510
  case neg =>
    have p3 : (510 : Int) < (l.size : Int) := by omega
    go_enter Tryz.func45, Tryz.ntmps45
    go_wp2
    go_ret
    exact HS.out w (Below.refl _ _) (by simp [fitQ]; omega)
  have p3 : ¬ ((510 : Int) < (l.size : Int)) := by omega
  obtain ⟨b, hb⟩ : ∃ b, textL l.data.toList = b := ⟨_, rfl⟩
  have ht := text_v l w hll
  rw [hb] at ht
  have HT := Lib.hid ht
  have HB := Lib.hid hb
  clear ht hb
  cases b with
  | false =>
    go_enter Tryz.func45, Tryz.ntmps45
    go_wp2_with fail
    refine HT.out.mono ?_
    rintro e w1 ⟨rfl, b1⟩
    have B1 := Lib.hid b1
    clear b1
    go_wp2_with fail
    go_ret
    exact HS.out _ B1.out (by simp [fitQ, HB.out])
  | true =>
    have hfit : fitQ ⟨most, ws, sent, parted, false⟩ l.data.toList = true := by
      simp only [fitQ, Bool.not_false, Bool.true_and, Bool.and_eq_true, decide_eq_true_eq]
      exact ⟨by omega, HB.out⟩
    go_enter Tryz.func45, Tryz.ntmps45
    go_wp2_with fail
    refine HT.out.mono ?_
    rintro e w1 ⟨rfl, b1⟩
    obtain ⟨h1, ho, h3, h4⟩ := H.out
    have k1 := (b1.block q (blk_lt h1)).trans h1
    have o1 : OwnB base w1 (.slice A ws.length c) ws := ownB_kept h3 fun g hg => b1.block g (h3.lt g hg).2
    have d0 := blk_cell k1 0
    have d1 := blk_cell k1 1
    have g1 := blk_free k1 1
    have g4 := blk_free k1 4
    have B1 := Lib.hid (And.intro b1 (And.intro k1 o1))
    have hzw1 := b1.size
    have hw1 : IntKind.i64.wrap ((l.size : Int) + 2) = (l.size : Int) + 2 := IntWalk.i64_in _ (by omega)
    have hw2 : IntKind.i64.wrap (most - (ws.length : Int)) = most - (ws.length : Int) := IntWalk.i64_in _ (by omega)
    clear h1 ho h3 h4 b1 k1 o1 c0 c1 c4 f1 f4
    by_cases p4 : (l.size : Int) + 2 ≤ most - (ws.length : Int)
    · have p5 : ¬ (most - (ws.length : Int) < (l.size : Int) + 2) := by omega
      have hroom : roomQ ⟨most, ws, sent, parted, false⟩ l.data.toList = true := by simp only [roomQ, decide_eq_true_eq]; rw [hsz]; exact p4
      have HFR := Lib.hid (And.intro hfit hroom)
      clear hfit hroom
      go_wp2_with fail
      go_quiet (fail)
      obtain ⟨b1, k1, o1⟩ := B1.out
      rename_i nq
      have o1d : OwnB base (w1.drewN nq) (.slice A ws.length c) ws := o1
      have k1d : (w1.drewN nq).heap[q]? = some (.cells #[.int .i64 most, .slice A ws.length c, .int .i64 sent, .bool parted, .bool false] 116 (0, 0)) := k1
      have hzd : (w1.drewN nq).heap.size = w1.heap.size := rfl
      obtain ⟨w2, hw⟩ : ∃ w2, w1.drewN nq = w2 := ⟨_, rfl⟩
      have fd : Fr (fun _ => False) w1 w2 := by rw [← hw]; exact (Fr.refl _ _).drewN _
      rw [hw] at o1d k1d hzd ⊢
      have hbz : base ≤ w2.heap.size := by omega
      have d1 := blk_cell k1d 1
      have HO := Lib.hid o1d
      have HK := Lib.hid (And.intro k1d fd)
      clear hw o1d k1d fd b1 k1 o1 d0 g1 g4 hw1 hw2 hzd
      go_wp2_with (at_builtin; refine Hid.out ?_)
      refine Lib.hid ?_
      refine wpList_app_u rfl _ _ 22 9 rfl base 5 i0 _ 1 1 Tryz.underlying22 hi hz0 hz1 hz2 rfl _ ws.length (ws.map encB) rfl HO.out (.string l) l.size (byteCells l) rfl (Src.ofString _ Tryz.underlying9 l) (by omega) (by decide) hbz ?_
      intro v2 W2 o2 f2 t2
      obtain ⟨A2, c2, ev2⟩ := row_slice o2
      subst ev2
      obtain ⟨k2, fd⟩ := HK.out
      obtain ⟨h1, ho, h3, h4⟩ := H.out
      have o2' : OwnB base W2 (Value.slice A2 (ws.length + l.size) c2) (ws ++ l.data.toList) := ownB_app o2
      have hqv : (Value.slice A ws.length c).ownBlock ≠ some q := by rw [ho]; exact h4
      have k3 := f2.blk k2 hqv
      have hv2 : (Value.slice A2 (ws.length + l.size) c2).ownBlock ≠ some q := fun e => by
        rcases t2 q e with e | e
        · exact hqv e
        · have := blk_lt k2; omega
      have d3 := blk_cell k3 1
      have g3 := blk_free k3 1
      have k4 := blk_set k3 1 (Value.slice A2 (ws.length + l.size) c2)
      have d4 := blk_cell k4 1
      have g5 := blk_free k4 1
      have o4 : OwnB base (W2.setCell ⟨q, 1, none⟩ (Value.slice A2 (ws.length + l.size) c2)) (Value.slice A2 (ws.length + l.size) c2) (ws ++ l.data.toList) := ownB_kept o2' fun g hg => heap_setCell_other W2 _ g _ fun e => by cases e; exact hv2 hg
      have HO4 := Lib.hid o4
      have hz4 : (W2.setCell ⟨q, 1, none⟩ (Value.slice A2 (ws.length + l.size) c2)).heap.size = W2.heap.size := by simp
      have hz2' := f2.size
      have hb4 : base ≤ (W2.setCell ⟨q, 1, none⟩ (Value.slice A2 (ws.length + l.size) c2)).heap.size := by rw [hz4]; omega
      have hlen4 : (ws ++ l.data.toList).length ≤ 200000 := by rw [List.length_append, hsz]; omega
      have HL4 := Lib.hid (And.intro k4 (And.intro f2 (And.intro t2 (And.intro hv2 (And.intro fd (And.intro hz4 (And.intro hlen4 (And.intro hqv ho))))))))
      have hb4' := Lib.hid (And.intro hb4 hlen4)
      clear k2 fd h1 ho h3 h4 o2 o2' hqv k3 hv2 f2 t2 k4 o4 hz4 hb4 hlen4 d1 hz2'
      go_wp2_with (at_builtin; refine Hid.out ?_)
      refine Lib.hid ?_
      refine wpList_app_u rfl _ _ 22 9 rfl base 5 i0 _ 1 1 Tryz.underlying22 hi hz0 hz1 hz2 rfl (Value.slice A2 (ws.length + l.size) c2) (ws ++ l.data.toList).length ((ws ++ l.data.toList).map encB) (by first | rfl | simp) HO4.out (.string ⟨#[13, 10]⟩) 2 (byteCells ⟨#[13, 10]⟩) rfl (Src.ofString _ Tryz.underlying9 ⟨#[13, 10]⟩) (by have := hb4'.out.2; omega) (by decide) hb4'.out.1 ?_
      intro v5 W5 o5 f5 t5
      obtain ⟨A5, c5, ev5⟩ := row_slice o5
      rw [List.length_append, hsz] at ev5
      subst ev5
      obtain ⟨k4, f2, t2, hv2, fd, hz4, hlen4, hqv, ho⟩ := HL4.out
      have o5' : OwnB base W5 (Value.slice A5 (ws.length + l.size + 2) c5) (ws ++ l.data.toList ++ [13, 10]) := ownB_app (ys := [13, 10]) o5
      have k5 := f5.blk k4 hv2
      have hv5 : (Value.slice A5 (ws.length + l.size + 2) c5).ownBlock ≠ some q := fun e => by
        rcases t5 q e with e | e
        · exact hv2 e
        · have := blk_lt k4; omega
      have d5 := blk_cell k5 1
      have g5' := blk_free k5 1
      have HF := Lib.hid (And.intro k5 (And.intro o5' (And.intro f5 (And.intro t5 hv5))))
      clear k4 f2 t2 hv2 fd hz4 hlen4 hqv ho o5 o5' k5 hv5 f5 t5 d3 g3 d4 g5
      go_wp2_with fail
      go_ret
      obtain ⟨k4, f2, t2, hv2, fd, hz4, hlen4, hqv, ho⟩ := HL4.out
      obtain ⟨k5, o5, f5, t5, hv5⟩ := HF.out
      obtain ⟨b1, k1, o1⟩ := B1.out
      have hps : pushS ⟨most, ws, sent, parted, false⟩ l.data.toList = ⟨most, ws ++ l.data.toList ++ [13, 10], sent, parted, false⟩ := by unfold pushS; rw [HFR.out.1, HFR.out.2]; rfl
      have hpb : pushB ⟨most, ws, sent, parted, false⟩ l.data.toList = true := by unfold pushB; rw [HFR.out.1, HFR.out.2]; rfl
      have hfr : Fr (fun k => k = q ∨ ob = some k) w (W5.setCell ⟨q, 1, none⟩ (Value.slice A5 (ws.length + l.size + 2) c5)) := by
        have a1 : Fr (fun k => k = q ∨ ob = some k) w w2 := ((Fr.of_below (X := fun k => k = q ∨ ob = some k) b1)).trans3 fd fun _ _ e => e.elim
        have a2 := a1.trans3 f2 fun k _ e => .inr (ho ▸ e)
        have a3 := a2.setCell ⟨q, 1, none⟩ (.inl rfl) (Value.slice A2 (ws.length + l.size) c2)
        have a4 := a3.trans3 f5 fun k hk e => by
          rcases t2 k e with e2 | e2
          · exact .inr (ho ▸ e2)
          · have := fd.size; omega
        exact a4.setCell ⟨q, 1, none⟩ (.inl rfl) (Value.slice A5 (ws.length + l.size + 2) c5)
      refine ⟨by rw [hpb]; rfl, (Value.slice A5 (ws.length + l.size + 2) c5).ownBlock, ?_, fun k hk hlt => ?_, hfr⟩
      · rw [hps]
        exact ⟨(Value.slice A5 (ws.length + l.size + 2) c5), blk_set k5 1 (Value.slice A5 (ws.length + l.size + 2) c5), rfl, ownB_kept o5 fun g hg => heap_setCell_other W5 _ g _ fun e => by cases e; exact hv5 hg, hv5⟩
      · rcases t5 k hk with e | e
        · rcases t2 k e with e2 | e2
          · exact ho ▸ e2
          · have := fd.size; omega
        · have := fd.size; have := f2.size; omega
    · have p5 : most - (ws.length : Int) < (l.size : Int) + 2 := by omega
      have hroom : roomQ ⟨most, ws, sent, parted, false⟩ l.data.toList = false := by simp only [roomQ, decide_eq_false_iff_not]; rw [hsz]; exact p4
      have HFR := Lib.hid (And.intro hfit hroom)
      clear hfit hroom
      go_wp2_with fail
      go_quiet (fail)
      clear hw1 hw2
      have d4 := blk_cell B1.out.2.1 4
      go_wp2_with fail
      go_ret
      obtain ⟨b1, k1, o1⟩ := B1.out
      obtain ⟨h1, ho, h3, h4⟩ := H.out
      rename_i nq
      have hps : pushS ⟨most, ws, sent, parted, false⟩ l.data.toList = ⟨most, ws, sent, parted, true⟩ := by unfold pushS; rw [HFR.out.1, HFR.out.2]; rfl
      have hpb : pushB ⟨most, ws, sent, parted, false⟩ l.data.toList = false := by unfold pushB; rw [HFR.out.1, HFR.out.2]; rfl
      have k1d : (w1.drewN nq).heap[q]? = some (.cells #[.int .i64 most, .slice A ws.length c, .int .i64 sent, .bool parted, .bool false] 116 (0, 0)) := k1
      have o1d : OwnB base (w1.drewN nq) (.slice A ws.length c) ws := o1
      refine ⟨by rw [hpb]; rfl, ob, ?_, fun k hk _ => hk, (((Fr.of_below (X := fun k => k = q ∨ ob = some k) b1)).drewN nq).setCell ⟨q, 4, none⟩ (.inl rfl) _⟩
      rw [hps]
      exact ⟨_, blk_set k1d 4 _, ho, ownB_kept o1d fun g hg => heap_setCell_other _ _ g _ fun e => by cases e; exact h4 (ho ▸ hg), h4⟩
end Go.Proofs.YtpbobonddocgkaaGreatDoor
end
section
/- Layer 8: Drain. -/
namespace Go.Proofs.YtpbobonddocgkaaGreatDoor
open Go Go.RowKit Go.Lib Go.Sort Go.Shelf

/-- how many bytes go -/
def goesQ (s : QS) (n : Int) : Nat := (max 0 (min n (s.ws.length : Int))).toNat
def drainS (s : QS) (n : Int) : QS := if goesQ s n = 0 then s else { s with ws := s.ws.drop (goesQ s n), sent := s.sent + (goesQ s n : Int), parted := decide (s.ws[goesQ s n - 1]? ≠ some 10) }
def DrainP (base : Nat) (w : World) (q : Nat) (ob : Option Nat) (s : QS) (n : Int) (e : Ending) (w' : World) : Prop :=
  (∃ v', e = .returned v' ∧ OwnB w.heap.size w' v' (s.ws.take (goesQ s n))) ∧ QAt base w' q ob (drainS s n) ∧ Fr (fun k => k = q ∨ ob = some k) w w'
theorem goes_le (s : QS) (n : Int) : goesQ s n ≤ s.ws.length := by unfold goesQ; omega
theorem one_byte (xs : List UInt8) : ∀ u ∈ xs.map encB, u.oneCell' = true := fun u hu => by
  obtain ⟨_, _, rfl⟩ := List.mem_map.1 hu
  rfl
theorem last_byte (y : UInt8) : ((y.toNat : Int) != (((⟨#[13, 10]⟩ : ByteArray)[1]).toNat : Int)) = decide (some y ≠ some 10) := by
  have h : (((⟨#[13, 10]⟩ : ByteArray)[1]).toNat : Int) = 10 := by decide
  rw [h, Bool.eq_iff_iff]
  simp only [bne_iff_ne, ne_eq, Option.some.injEq, decide_not, Bool.not_eq_true', decide_eq_false_iff_not]
  constructor
  · intro e e2
    subst e2
    exact e rfl
  · intro e e2
    exact e (UInt8.toNat_inj.1 (by simpa using (by omega : y.toNat = 10)))
set_option maxRecDepth 100000 in
set_option maxHeartbeats 4000000 in
theorem q_drain {base : Nat} {w : World} {q : Nat} {ob : Option Nat} {s : QS} (h : QAt base w q ob s) (hl : s.ws.length ≤ 1000000) (hs0 : 0 ≤ s.sent) (hs1 : s.sent ≤ 1000000000000) (n : Int) :
    Calls Tryz.prog 43 #[.pointer (some ⟨q, 0, none⟩), .int .i64 n] w (DrainP base w q ob s n) := by
  have hge := goes_le s n
  have hgo : max 0 (min n (s.ws.length : Int)) = (goesQ s n : Int) := by unfold goesQ; omega
  obtain ⟨k, hk⟩ : ∃ k, goesQ s n = k := ⟨_, rfl⟩
  rw [hk] at hge hgo
  have HK := Lib.hid hk
  have HL := Lib.hid (q_len h)
  have HH := Lib.hid h
  clear hk h
  by_cases h0 : k = 0
  · subst h0
    go_enter Tryz.func43, Tryz.ntmps43
    go_wp2_with fail
    refine HL.out.mono ?_
    rintro e w' ⟨rfl, rfl⟩
    go_wp2
    go_ret
    have h1 : drainS s n = s := by unfold drainS; rw [HK.out]; rfl
    refine ⟨⟨_, rfl, ?_⟩, by rw [h1]; exact HH.out, Fr.refl _ _⟩
    rw [HK.out]; exact ownB_nil _ _
  · obtain ⟨v, h1, ho, h3, h4⟩ := HH.out
    obtain ⟨A, c, rfl⟩ := row_slice h3
    obtain ⟨i0, hi, hz0, hz1, hz2⟩ := info_parts Tryz.infoB
    obtain ⟨most, ws, sent, parted, over⟩ := s
    dsimp only at hl hs0 hs1 hge hgo h1 h3
    have hk0 : ((k : Int) == 0) = false := by simpa using h0
    have H := Lib.hid (And.intro h1 (And.intro ho (And.intro h3 h4)))
    clear h1 ho h3 h4
    go_enter Tryz.func43, Tryz.ntmps43
    go_wp2_with fail
    refine HL.out.mono ?_
    rintro e w' ⟨rfl, rfl⟩
    go_wp2_with (at_make; refine Hid.out ?_)
    refine Lib.hid ?_
    refine wpList_make_row _ rfl _ _ 22 rfl 5 i0 (.int .u8 0) Tryz.underlying22 hi hz0 hz1 rfl .i64 .i64 k rfl rfl (by rw [hz2]; omega) (by omega) ?_
    obtain ⟨h1, ho, h3, h4⟩ := H.out
    obtain ⟨cur, hcur⟩ : ∃ cur, madeCells #[Value.int IntKind.u8 0] k = cur := ⟨_, rfl⟩
    have hcz : cur.size = k := by rw [← hcur, size_madeCells]
    rw [hcur]
    obtain ⟨W1, hW1⟩ : ∃ W1, w'.alloc (.cells cur 5) = W1 := ⟨_, rfl⟩
    have f1 : Fr (fun _ => False) w' W1 := by rw [← hW1]; exact (Fr.refl _ _).alloc _
    have kn : W1.heap[w'.heap.size]? = some (.cells cur 5 (0, 0)) := by rw [← hW1]; exact heap_alloc_new _ _
    have hz1' : W1.heap.size = w'.heap.size + 1 := by rw [← hW1]; simp
    have k1 := f1.blk h1 fun e => e
    have o1 : OwnB base W1 (.slice A ws.length c) ws := ownB_kept h3 fun g hg => f1.block g (h3.lt g hg).2 fun e => e
    rw [hW1]
    have c1 := blk_cell k1 1
    have H1 := Lib.hid (And.intro f1 (And.intro kn (And.intro hz1' (And.intro k1 (And.intro o1 hcz)))))
    clear h1 ho h3 h4 hcur hW1 f1 kn hz1' k1 o1 hcz
    have hws : ¬ ws = [] := fun e => by subst e; simp at hge; omega
    have hA : ∃ g, A = some ⟨g, 0, none⟩ := by
      rcases H1.out.2.2.2.2.1.2 with ⟨e, e2⟩ | ⟨g, cap, cur, e, _⟩
      · exact absurd (List.length_eq_zero_iff.1 e2) hws
      · cases e; exact ⟨g, rfl⟩
    obtain ⟨g, rfl⟩ := hA
    obtain ⟨f1, kn, hz1', k1, o1, hcz⟩ := H1.out
    have hcsl : ((ws.take k).map encB).length = k := by rw [List.length_map, List.length_take]; omega
    have hcp := run_copy_row (P := Tryz.prog) W1 22 22 3 5 w'.heap.size 0 k k ⟨g, 0, none⟩ ws.length c cur 5 ((ws.take k).map encB) Tryz.underlying22 (by rw [hi]; simp [hz1]) kn
      (by rw [hcsl]; exact (Nat.min_eq_right hge).symm) (fun j u hu => by
        rw [List.getElem?_map, Option.map_eq_some_iff] at hu
        obtain ⟨y, hy, rfl⟩ := hu
        obtain ⟨hj, rfl⟩ := List.getElem?_eq_some_iff.1 hy
        rw [List.length_take] at hj
        rw [add_at, Nat.zero_add, List.getElem_take]
        exact ownB_cell o1 (by omega)) (by rw [hcsl]; omega) (one_byte _)
    rw [hcsl] at hcp
    obtain ⟨cells, hcells⟩ : ∃ cells : Array Value, (cur.toList.take 0 ++ (ws.take k).map encB ++ cur.toList.drop (0 + k)).toArray = cells := ⟨_, rfl⟩
    rw [hcells] at hcp
    obtain ⟨W2, hW2⟩ : ∃ W2, W1.setRow w'.heap.size cells = W2 := ⟨_, rfl⟩
    rw [hW2] at hcp
    have hcl2 : cells.toList = (ws.take k).map encB := by
      rw [← hcells]
      have : cur.toList.drop (0 + k) = [] := List.drop_of_length_le (by rw [Array.length_toList]; omega)
      rw [this]; simp
    have hcs2 : cells.size = k := by rw [← Array.length_toList, hcl2, hcsl]
    have kn2 : W2.heap[w'.heap.size]? = some (.cells cells 5 (0, 0)) := by rw [← hW2]; exact setRow_heap W1 _ _ _ _ _ kn
    have f2 : Fr (fun j => j = w'.heap.size) W1 W2 := by
      rw [← hW2]
      exact ⟨rfl, rfl, rfl, by simp, fun j _ hj => setRow_other W1 _ j _ fun e => hj (by omega)⟩
    have hql := blk_lt (H.out.1)
    have k2 := f2.blk k1 (by omega)
    have o2 : OwnB base W2 (.slice (some ⟨g, 0, none⟩) ws.length c) ws := ownB_kept o1 fun j hj => f2.block j (o1.lt j hj).2 fun e => by have := ((H.out.2.2.1).lt j hj).2; omega
    have ev : OwnB w'.heap.size W2 (.slice (some ⟨w'.heap.size, 0, none⟩) k k) (ws.take k) :=
      ⟨by simp, .inr ⟨w'.heap.size, k, cells, by rw [List.length_take, Nat.min_eq_left hge], Nat.le_refl _, kn2, by rw [List.length_take]; omega, by unfold maxLen; omega, by rw [hcs2]; omega, by rw [List.length_take, Nat.mul_one, Nat.min_eq_left hge, hcl2, List.take_of_length_le (by rw [hcsl]; exact Nat.le_refl _)]⟩⟩
    have d1 := blk_cell k2 1
    have hD := deleteB o2 hl k hge (by omega)
    have HD := Lib.hid hD
    have H2 := Lib.hid (And.intro f1 (And.intro f2 (And.intro k2 (And.intro o2 (And.intro ev (And.intro hz1' hql))))))
    clear hcsl hcells hW2 hcl2 hcs2 kn2 f2 k2 o2 ev hD f1 kn hz1' k1 o1 hcz hql hws
    go_wp2_with fail
    refine HD.out.mono ?_
    rintro e W3 ⟨⟨v3, rfl, o3, t3⟩, f3⟩
    obtain ⟨f1, f2, k2, o2, ev, hz1', hql⟩ := H2.out
    obtain ⟨h1, ho, h3, h4⟩ := H.out
    obtain ⟨ds, hds⟩ : ∃ ds, ws.drop k = ds := ⟨_, rfl⟩
    rw [hds] at o3
    obtain ⟨A3, c3, ev3⟩ := row_slice o3
    subst ev3
    have hgl := (h3.lt g rfl).2
    have hgq : g ≠ q := fun e => h4 (ho ▸ (by rw [e]; rfl))
    have hnv : ∀ j, vBq (.slice (some ⟨g, 0, none⟩) ws.length c) j → j = g := fun j hj => by cases hj; rfl
    have k3 := f3.blk k2 fun e => hgq (hnv q e).symm
    have ev3 : OwnB w'.heap.size W3 (.slice (some ⟨w'.heap.size, 0, none⟩) k k) (ws.take k) := ownB_kept ev fun j hj => f3.block j (ev.lt j hj).2 fun e => by have := hnv j e; have := (ev.lt j hj).1; omega
    have hvq : (Value.slice A3 ds.length c3).ownBlock ≠ some q := by rw [t3]; exact fun e => hgq (by cases e; rfl)
    have k4 := blk_set k3 1 (.slice A3 ds.length c3)
    have k5 := blk_set k4 2 (.int .i64 (sent + k))
    have o4 : OwnB base ((W3.setCell ⟨q, 1, none⟩ (.slice A3 ds.length c3)).setCell ⟨q, 2, none⟩ (.int .i64 (sent + k))) (.slice A3 ds.length c3) ds :=
      ownB_kept o3 fun j hj => (heap_setCell_other _ _ j _ fun e => by cases e; exact hvq hj).trans (heap_setCell_other _ _ j _ fun e => by cases e; exact hvq hj)
    have ev5 : OwnB w'.heap.size ((W3.setCell ⟨q, 1, none⟩ (.slice A3 ds.length c3)).setCell ⟨q, 2, none⟩ (.int .i64 (sent + k))) (.slice (some ⟨w'.heap.size, 0, none⟩) k k) (ws.take k) :=
      ownB_kept ev3 fun j hj => (heap_setCell_other _ _ j _ fun e => by have := (ev3.lt j hj).1; have e2 : j = q := e; omega).trans (heap_setCell_other _ _ j _ fun e => by have := (ev3.lt j hj).1; have e2 : j = q := e; omega)
    have f5 : Fr (fun j => j = q ∨ ob = some j) w' ((W3.setCell ⟨q, 1, none⟩ (.slice A3 ds.length c3)).setCell ⟨q, 2, none⟩ (.int .i64 (sent + k))) := by
      have a1 : Fr (fun j => j = q ∨ ob = some j) w' W1 := f1.mono fun _ _ e => e.elim
      have a2 := a1.trans3 f2 fun j hj e => by omega
      have a3 := a2.trans3 f3 fun j hj e => .inr (by rw [← ho, hnv j e]; rfl)
      exact (a3.setCell ⟨q, 1, none⟩ (.inl rfl) _).setCell ⟨q, 2, none⟩ (.inl rfl) _
    have d1 := blk_cell k3 1
    have g1 := blk_free k3 1
    have d2 := blk_cell k3 2
    have g2 := blk_free k3 2
    have H5 := Lib.hid (And.intro k5 (And.intro o4 (And.intro ev5 (And.intro f5 (And.intro hds (And.intro hvq (And.intro t3 hgq)))))))
    clear f1 f2 k2 o2 ev hz1' hql h1 ho h3 h4 hds o3 t3 f3 hgq hnv k3 ev3 hvq k4 k5 o4 ev5 f5 hcp hgl
    go_wp2_with fail
    obtain ⟨k5, o4, ev5, f5, hds, hvq, t3, hgq⟩ := H5.out
    obtain ⟨W5, hW5⟩ : ∃ W5, (W3.setCell ⟨q, 1, none⟩ (.slice A3 ds.length c3)).setCell ⟨q, 2, none⟩ (.int .i64 (sent + k)) = W5 := ⟨_, rfl⟩
    rw [hW5] at k5 o4 ev5 f5 ⊢
    have hkt : k - 1 < (ws.take k).length := by rw [List.length_take]; omega
    have e0 := ownB_cell ev5 hkt
    obtain ⟨y, hy⟩ : ∃ y, (ws.take k)[k - 1] = y := ⟨_, rfl⟩
    have hyw : ws[k - 1]? = some y := by rw [← hy, List.getElem_take, List.getElem?_eq_getElem]
    rw [hy] at e0
    unfold encB at e0
    have e3 := blk_cell k5 3
    have g3 := blk_free k5 3
    obtain ⟨d, hd⟩ : ∃ d, ((y.toNat : Int) != 10) = d := ⟨_, rfl⟩
    have hw1 : IntKind.i64.wrap ((k : Int) - 1) = (k : Int) - 1 := IntWalk.i64_in _ (by omega)
    have hw2 : 0 ≤ (k : Int) - 1 := by omega
    have hw3 : ((k : Int) - 1).toNat = k - 1 := by omega
    have hw4 : (k : Int) - 1 < (k : Int) := by omega
    have hw5 : k - 1 < k := by omega
    have H6 := Lib.hid (And.intro k5 (And.intro o4 (And.intro ev5 (And.intro f5 (And.intro hds (And.intro hvq (And.intro t3 hyw)))))))
    clear k5 o4 ev5 f5 hds hvq t3 hgq hW5 hkt hy hyw d1 g1 d2 g2
    go_region
    clear hw1 hw2 hw3 hw4 hw5 hd e0 e3 g3
    go_wp2_with fail
    go_ret
    obtain ⟨k5, o4, ev5, f5, hds, hvq, t3, hyw⟩ := H6.out
    have hval : ((y.toNat : Int) != (((⟨#[13, 10]⟩ : ByteArray)[1]).toNat : Int)) = decide (ws[k - 1]? ≠ some 10) := by rw [hyw]; exact last_byte y
    have h1 : drainS ⟨most, ws, sent, parted, over⟩ n = ⟨most, ds, sent + k, decide (ws[k - 1]? ≠ some 10), over⟩ := by
      unfold drainS; rw [HK.out, if_neg h0]; simp only [hds]
    rw [hval]
    obtain ⟨d2, hd2⟩ : ∃ d2, decide (ws[k - 1]? ≠ some 10) = d2 := ⟨_, rfl⟩
    rw [hd2] at h1 ⊢
    have hne : ∀ j, (Value.slice (some ⟨w'.heap.size, 0, none⟩) k k).ownBlock = some j → j ≠ q := fun j hj e => by
      have := (ev5.lt j hj).1
      have := blk_lt H.out.1
      omega
    obtain ⟨h1', ho, h3, h4⟩ := H.out
    refine ⟨⟨_, rfl, ?_⟩, ?_, (f5.setCell ⟨q, 3, none⟩ (.inl rfl) _).drew⟩
    · rw [HK.out]
      exact ownB_kept ev5 fun j hj => heap_setCell_other _ _ j _ (hne j hj)
    · rw [h1]
      exact ⟨_, blk_drew (blk_set k5 3 _), t3.trans ho, ownB_kept o4 fun j hj => heap_setCell_other _ _ j _ fun e => by have e2 : j = q := e; exact hvq (e2 ▸ hj), h4⟩
end Go.Proofs.YtpbobonddocgkaaGreatDoor
end
section
/- Layer 23: a server as it lies: connections, who holds what, lists, a pulse; each part apart from all others (blocks are coloured). -/
namespace Go.Proofs.YtpbobonddocgkaaGreatDoor
open Go Go.RowKit Go.Maps Go.Lib

abbrev CTag := Nat × Int
abbrev ctag0 : CTag := (0, 0)
/-- a live connection -/
structure CE where
  B : Nat
  q : Nat
  f : Nat
  ob : Option Nat
  nick : List UInt8
  user : List UInt8
  done : Bool
  s : QS
def hostL : List UInt8 := [104]
def nameL : List UInt8 := [105, 114, 99, 46, 120]
def connC (e : CE) : Array Value := #[.string (bs hostL), .bool true, .int .i64 0, .bool false, .string ⟨#[]⟩, .string (bs e.nick), .string (bs e.user), .string ⟨#[]⟩, .bool e.done, .string ⟨#[]⟩, .bool false, .bool false, .int .i64 0, .int .i64 0, .pointer (some ⟨e.q, 0, none⟩), .pointer (some ⟨e.f, 0, none⟩)]
def connO (e : CE) : Obj := .cells (connC e) 72 (0, 0)
/-- what of a server never moves, and its lists -/
structure CoG where
  c : Nat
  m : Nat
  ht : Nat
  hb : Nat
  rm : Value
  mo : Nat
  wa : Nat
  pa : Value
  PB : PB
  YM : Nat → Prop
  YW : Nat → Prop
  U : List WEnt
  n0 : Int
  n1 : Int
  n2 : Int
  n3 : Int
  n4 : Int
  n5 : Int
  n6 : Int
  n7 : Int
  n8 : Int
  n9 : Int
  n10 : Int
def coreC (G : CoG) : Array Value := #[.string (bs nameL), .string ⟨#[]⟩, .string ⟨#[]⟩, .string ⟨#[]⟩, .int .i64 G.n0, .int .i64 G.n1, .int .i64 G.n2, .int .i64 G.n3, .int .i64 G.n4, .int .i64 G.n5, .int .i64 G.n6, .int .i64 G.n7, .int .i64 G.n8, .int .i64 G.n9, .int .i64 G.n10,
  .int .i64 0, .map (some G.m), .pointer (some ⟨G.ht, 0, none⟩), G.rm, .pointer (some ⟨G.mo, 0, none⟩), .pointer (some ⟨G.wa, 0, none⟩), G.pa, .pointer (some ⟨G.PB.p, 0, none⟩), .slice none 0 0]
def coreO (G : CoG) : Obj := .cells (coreC G) 55 (0, 0)
def PB.all (B : PB) (k : Nat) : Prop := k = B.p ∨ k = B.l ∨ k = B.lb ∨ k = B.q ∨ k = B.qb ∨ k = B.a ∨ k = B.ab
structure CoAt (base : Nat) (G : CoG) (C : Nat → CTag) (K : List (Int × CE)) (T : List (KeyB × Ent VI)) (n : Nat) (W : World) : Prop where
  self : W.heap[G.c]? = some (coreO G)
  mp : OwnMIS W G.m (K.map fun p => (p.1, p.2.B))
  hol : BokI base W G.ht G.hb G.n0 T
  mon : WisAt base W G.mo G.YM G.n6 G.U
  wat : WisAt base W G.wa G.YW G.n5 []
  pul : ∃ L Q A, PulG base W G.PB G.n8 G.n9 G.n10 L Q A ∧ L.length ≤ n ∧ Q.length ≤ n
  conn : ∀ p ∈ K, W.heap[p.2.B]? = some (connO p.2)
  queue : ∀ p ∈ K, QAt base W p.2.q p.2.ob p.2.s
  cc : C G.c = (1, 0)
  cm : C G.m = (2, 0)
  ch : C G.ht = (3, 0) ∧ C G.hb = (3, 0)
  cM : ∀ j, G.YM j → C j = (4, 0)
  cW : ∀ j, G.YW j → C j = (5, 0)
  cP : ∀ j, G.PB.all j → C j = (6, 0)
  cB : ∀ p ∈ K, C p.2.B = (7, p.1)
  cQ : ∀ p ∈ K, C p.2.q = (8, p.1) ∧ ∀ k, p.2.ob = some k → C k = (8, p.1)
  cN : ∀ k, W.heap.size ≤ k → C k = ctag0
  cL : ∀ k, k < base → C k = ctag0
/-- from one world and its colours to a later one -/
def OntoC (C C1 : Nat → CTag) (w w1 : World) : Prop := (∀ k, k < w.heap.size → C1 k = C k) ∧ Fr (fun k => C k ≠ ctag0) w w1
theorem OntoC.refl (C : Nat → CTag) (w : World) : OntoC C C w w := ⟨fun _ _ => rfl, Fr.refl _ _⟩
theorem OntoC.trans {C C1 C2 : Nat → CTag} {w w1 w2 : World} (h : OntoC C C1 w w1) (k : OntoC C1 C2 w1 w2) : OntoC C C2 w w2 :=
  ⟨fun j hj => (k.1 j (Nat.lt_of_lt_of_le hj h.2.size)).trans (h.1 j hj), h.2.trans3 k.2 fun j hj e => by rwa [h.1 j hj] at e⟩
theorem OntoC.of_below (C : Nat → CTag) {w w1 : World} (h : RowKit.Below w.heap.size w w1) : OntoC C C w w1 := ⟨fun _ _ => rfl, Fr.of_below h⟩
/-- colours of the blocks that a call made -/
def paintC (C : Nat → CTag) (n m : Nat) (g : CTag) : Nat → CTag := fun k => if k < n then C k else if k < m then g else ctag0
theorem paintC_old {C : Nat → CTag} {n m : Nat} {g : CTag} {k : Nat} (h : k < n) : paintC C n m g k = C k := if_pos h
theorem paintC_new {C : Nat → CTag} {n m : Nat} {g : CTag} {k : Nat} (h : n ≤ k) (h2 : k < m) : paintC C n m g k = g := by unfold paintC; rw [if_neg (by omega), if_pos h2]
theorem paintC_far {C : Nat → CTag} {n m : Nat} {g : CTag} {k : Nat} (h : n ≤ k) (h2 : m ≤ k) : paintC C n m g k = ctag0 := by unfold paintC; rw [if_neg (by omega), if_neg (by omega)]
/-- what a step gives -/
def CoTo (base : Nat) (G : CoG) (C : Nat → CTag) (K : List (Int × CE)) (T : List (KeyB × Ent VI)) (n : Nat) (w w1 : World) : Prop := ∃ C1, CoAt base G C1 K T n w1 ∧ OntoC C C1 w w1
/-- a connection turned -/
def updM (K : List (Int × CE)) (id : Int) (e : CE) : List (Int × CE) := K.map fun p => if p.1 = id then (id, e) else p
theorem PB.all_lt {base : Nat} {W : World} {B : PB} {pg gr rg : Int} {L Q A : Tab} (h : PulG base W B pg gr rg L Q A) {k : Nat} (hk : B.all k) : base ≤ k ∧ k < W.heap.size := by
  have hl := h.lt
  have h1 := h.bp
  have h2 := h.tl.1
  have h3 := h.tl.2.1
  have h4 := h.tq.1
  have h5 := h.tq.2.1
  have h6 := h.ta.1
  have h7 := h.ta.2.1
  rcases hk with rfl | rfl | rfl | rfl | rfl | rfl | rfl <;> omega
section
variable {base : Nat} {w w' : World} {G : CoG} {C : Nat → CTag} {K : List (Int × CE)} {T : List (KeyB × Ent VI)} {n : Nat}
theorem CoAt.keys (h : CoAt base G C K T n w) : (K.map (·.1)).Nodup := by
  have := ownMIS_nodup h.mp
  rwa [List.map_map] at this
theorem CoAt.okK (h : CoAt base G C K T n w) {p : Int × CE} (hp : p ∈ K) : OkKIS p.1 := h.mp.2 (p.1, p.2.B) (List.mem_map.2 ⟨p, hp, rfl⟩)
theorem CoAt.lt (h : CoAt base G C K T n w) {k : Nat} (hk : C k ≠ ctag0) : base ≤ k ∧ k < w.heap.size :=
  ⟨Nat.le_of_not_lt fun e => hk (h.cL k e), Nat.lt_of_not_le fun e => hk (h.cN k e)⟩
theorem CoAt.base_le (h : CoAt base G C K T n w) : base ≤ w.heap.size := by have := h.hol.1; have := (bokI_lt h.hol).1; omega
theorem QAt.lt {base : Nat} {W : World} {q : Nat} {ob : Option Nat} {s : QS} (h : QAt base W q ob s) : q < W.heap.size ∧ ∀ k, ob = some k → k < W.heap.size := ⟨q_lt h, fun k hk => (q_blocks h k hk).2⟩
/-- what is uncoloured turned -/
theorem CoAt.fr (h : CoAt base G C K T n w) {Z : Nat → Prop} (hf : Fr Z w w') (hz : ∀ k, C k ≠ ctag0 → ¬ Z k) : CoAt base G C K T n w' := by
  have nz : ∀ {k : Nat} {g : CTag}, C k = g → g ≠ ctag0 → ¬ Z k := fun e hg => hz _ (by rw [e]; exact hg)
  obtain ⟨L, Q, A, h1, h2, h3⟩ := h.pul
  refine ⟨hf.blk h.self (nz h.cc (by simp)), ownMIS_same h.mp (hf.block _ (ownMIS_lt h.mp) (nz h.cm (by simp))), bokI_fr h.hol hf (nz h.ch.1 (by simp)) (nz h.ch.2 (by simp)), h.mon.fr hf fun j hj => nz (h.cM j hj) (by simp), h.wat.fr hf fun j hj => nz (h.cW j hj) (by simp),
    ⟨L, Q, A, h1.fr hf fun k hk => ?_, h2, h3⟩, fun p hp => hf.blk (h.conn p hp) (nz (h.cB p hp) (by simp)), fun p hp => q_fr (h.queue p hp) hf (nz (h.cQ p hp).1 (by simp)) fun k hk => nz ((h.cQ p hp).2 k hk) (by simp),
    h.cc, h.cm, h.ch, h.cM, h.cW, h.cP, h.cB, h.cQ, fun k hk => h.cN k (Nat.le_trans hf.size hk), h.cL⟩
  have nP : ∀ j, G.PB.all j → k ≠ j := fun j hj e => nz (h.cP j hj) (by simp) (e ▸ hk)
  exact ⟨nP _ (.inl rfl), nP _ (.inr (.inl rfl)), nP _ (.inr (.inr (.inl rfl))), nP _ (.inr (.inr (.inr (.inl rfl)))), nP _ (.inr (.inr (.inr (.inr (.inl rfl))))), nP _ (.inr (.inr (.inr (.inr (.inr (.inl rfl)))))), nP _ (.inr (.inr (.inr (.inr (.inr (.inr rfl))))))⟩
theorem CoAt.below (h : CoAt base G C K T n w) (hb : RowKit.Below w.heap.size w w') : CoAt base G C K T n w' := h.fr (Fr.of_below (X := fun _ => False) hb) fun _ _ e => e
theorem CoAt.to (h : CoAt base G C K T n w) (hb : RowKit.Below w.heap.size w w') : CoTo base G C K T n w w' := ⟨C, h.below hb, OntoC.of_below C hb⟩
theorem CoTo.then {w1 w2 : World} (h : CoTo base G C K T n w w1) (hb : RowKit.Below w1.heap.size w1 w2) : CoTo base G C K T n w w2 := by
  obtain ⟨C1, h1, h2⟩ := h
  exact ⟨C1, h1.below hb, h2.trans (OntoC.of_below C1 hb)⟩
theorem CoTo.trans {C1 : Nat → CTag} {K2 : List (Int × CE)} {T2 : List (KeyB × Ent VI)} {n2 : Nat} {G2 : CoG} {w1 w2 : World} (ho : OntoC C C1 w w1) (h : CoTo base G2 C1 K2 T2 n2 w1 w2) : CoTo base G2 C K2 T2 n2 w w2 := by
  obtain ⟨C2, h1, h2⟩ := h
  exact ⟨C2, h1, ho.trans h2⟩
/-- all that is written lies above the base -/
theorem CoAt.up (h : CoAt base G C K T n w) {C1 : Nat → CTag} {w1 : World} (ho : OntoC C C1 w w1) : RowKit.Below base w w1 := ho.2.below h.base_le fun k _ e => (h.lt e).1
/-- a part turned that has a colour of its own: all the rest lies as it lay -/
theorem CoAt.rest (h : CoAt base G C K T n w) {g : CTag} {Z : Nat → Prop} (hf : Fr Z w w') (hz : ∀ k, k < w.heap.size → Z k → C k = g) (hg : g ≠ ctag0) :
    (g ≠ (1, 0) → w'.heap[G.c]? = some (coreO G)) ∧ (g ≠ (2, 0) → OwnMIS w' G.m (K.map fun p => (p.1, p.2.B))) ∧ (g ≠ (3, 0) → BokI base w' G.ht G.hb G.n0 T) ∧ (g ≠ (4, 0) → WisAt base w' G.mo G.YM G.n6 G.U) ∧ (g ≠ (5, 0) → WisAt base w' G.wa G.YW G.n5 []) ∧
    (g ≠ (6, 0) → ∃ L Q A, PulG base w' G.PB G.n8 G.n9 G.n10 L Q A ∧ L.length ≤ n ∧ Q.length ≤ n) ∧ (∀ p ∈ K, g ≠ (7, p.1) → w'.heap[p.2.B]? = some (connO p.2)) ∧ (∀ p ∈ K, g ≠ (8, p.1) → QAt base w' p.2.q p.2.ob p.2.s) ∧ Fr (fun k => C k ≠ ctag0) w w' := by
  have nz : ∀ {k : Nat} {g1 : CTag}, k < w.heap.size → C k = g1 → g ≠ g1 → ¬ Z k := fun hk e hg1 hx => hg1 ((hz _ hk hx).symm.trans e)
  have hlt : ∀ {k : Nat} {g1 : CTag}, C k = g1 → g1 ≠ ctag0 → k < w.heap.size := fun e h1 => (h.lt (by rw [e]; exact h1)).2
  have nz2 : ∀ {k : Nat} {g1 : CTag}, C k = g1 → g1 ≠ ctag0 → g ≠ g1 → ¬ Z k := fun e h1 hg1 => nz (hlt e h1) e hg1
  obtain ⟨L, Q, A, h1, h2, h3⟩ := h.pul
  refine ⟨fun e => hf.blk h.self (nz2 h.cc (by simp) e), fun e => ownMIS_same h.mp (hf.block _ (ownMIS_lt h.mp) (nz2 h.cm (by simp) e)), fun e => bokI_fr h.hol hf (nz2 h.ch.1 (by simp) e) (nz2 h.ch.2 (by simp) e), fun e => h.mon.fr hf fun j hj => nz2 (h.cM j hj) (by simp) e, fun e => h.wat.fr hf fun j hj => nz2 (h.cW j hj) (by simp) e,
    fun e => ⟨L, Q, A, ?_, h2, h3⟩, fun p hp e => hf.blk (h.conn p hp) (nz2 (h.cB p hp) (by simp) e), fun p hp e => q_fr (h.queue p hp) hf (nz2 (h.cQ p hp).1 (by simp) e) fun k hk => nz2 ((h.cQ p hp).2 k hk) (by simp) e,
    hf.mono fun k hk e => by rw [hz k hk e]; exact hg⟩
  have f2 : Fr (fun k => Z k ∧ k < w.heap.size) w w' := ⟨hf.os, hf.tape, hf.output, hf.size, fun k hk hx => hf.block k hk fun e2 => hx ⟨e2, hk⟩⟩
  refine h1.fr f2 fun k hk => ?_
  have nP : ∀ j, G.PB.all j → k ≠ j := fun j hj e2 => nz2 (h.cP j hj) (by simp) e (e2 ▸ hk.1)
  exact ⟨nP _ (.inl rfl), nP _ (.inr (.inl rfl)), nP _ (.inr (.inr (.inl rfl))), nP _ (.inr (.inr (.inr (.inl rfl)))), nP _ (.inr (.inr (.inr (.inr (.inl rfl))))), nP _ (.inr (.inr (.inr (.inr (.inr (.inl rfl)))))), nP _ (.inr (.inr (.inr (.inr (.inr (.inr rfl))))))⟩
/-- the same colours, once new blocks have theirs -/
theorem CoAt.colours (h : CoAt base G C K T n w) {C1 : Nat → CTag} (hc : ∀ k, k < w.heap.size → C1 k = C k) :
    C1 G.c = (1, 0) ∧ C1 G.m = (2, 0) ∧ (C1 G.ht = (3, 0) ∧ C1 G.hb = (3, 0)) ∧ (∀ j, G.YM j → C1 j = (4, 0)) ∧ (∀ j, G.YW j → C1 j = (5, 0)) ∧ (∀ j, G.PB.all j → C1 j = (6, 0)) ∧ (∀ p ∈ K, C1 p.2.B = (7, p.1)) ∧ (∀ p ∈ K, C1 p.2.q = (8, p.1) ∧ ∀ k, p.2.ob = some k → C1 k = (8, p.1)) ∧ ∀ k, k < base → C1 k = ctag0 := by
  have up : ∀ {k : Nat} {g1 : CTag}, C k = g1 → g1 ≠ ctag0 → C1 k = g1 := fun e h1 => (hc _ (h.lt (by rw [e]; exact h1)).2).trans e
  exact ⟨up h.cc (by simp), up h.cm (by simp), ⟨up h.ch.1 (by simp), up h.ch.2 (by simp)⟩, fun j hj => up (h.cM j hj) (by simp), fun j hj => up (h.cW j hj) (by simp), fun j hj => up (h.cP j hj) (by simp), fun p hp => up (h.cB p hp) (by simp), fun p hp => ⟨up (h.cQ p hp).1 (by simp), fun k hk => up ((h.cQ p hp).2 k hk) (by simp)⟩,
    fun k hk => (hc k (Nat.lt_of_lt_of_le hk h.base_le)).trans (h.cL k hk)⟩
/-- the book turned -/
theorem CoAt.holTo (h : CoAt base G C K T n w) {T' : List (KeyB × Ent VI)} (hb : BokI base w' G.ht G.hb G.n0 T') (hf : Fr (fun j => j = G.hb) w w') : CoTo base G C K T' n w w' := by
  obtain ⟨r1, r2, r3, r4, r5, r6, r7, r8, r10⟩ := h.rest (g := (3, 0)) hf (fun k _ e => by rw [e]; exact h.ch.2) (by simp)
  exact ⟨C, ⟨r1 (by simp), r2 (by simp), hb, r4 (by simp), r5 (by simp), r6 (by simp), fun p hp => r7 p hp (by simp), fun p hp => r8 p hp (by simp), h.cc, h.cm, h.ch, h.cM, h.cW, h.cP, h.cB, h.cQ, fun k hk => h.cN k (Nat.le_trans hf.size hk), h.cL⟩, fun _ _ => rfl, r10⟩
/-- the pulse turned -/
theorem CoAt.pulTo (h : CoAt base G C K T n w) {n' : Nat} {L Q A : Tab} (hb : PulG base w' G.PB G.n8 G.n9 G.n10 L Q A) (h2 : L.length ≤ n') (h3 : Q.length ≤ n') (hf : Fr G.PB.X w w') : CoTo base G C K T n' w w' := by
  obtain ⟨r1, r2, r3, r4, r5, r6, r7, r8, r10⟩ := h.rest (g := (6, 0)) hf (fun k _ e => h.cP k (by rcases e with e | e | e <;> simp [PB.all, e])) (by simp)
  exact ⟨C, ⟨r1 (by simp), r2 (by simp), r3 (by simp), r4 (by simp), r5 (by simp), ⟨L, Q, A, hb, h2, h3⟩, fun p hp => r7 p hp (by simp), fun p hp => r8 p hp (by simp), h.cc, h.cm, h.ch, h.cM, h.cW, h.cP, h.cB, h.cQ, fun k hk => h.cN k (Nat.le_trans hf.size hk), h.cL⟩, fun _ _ => rfl, r10⟩
/-- the MONITOR lists turned -/
theorem CoAt.monTo (h : CoAt base G C K T n w) {Y' : Nat → Prop} {U' : List WEnt} (hb : WisAt base w' G.mo Y' G.n6 U') (hy : ∀ j, Y' j → G.YM j ∨ w.heap.size ≤ j) (hf : Fr G.YM w w') : CoTo base { G with YM := Y', U := U' } C K T n w w' := by
  obtain ⟨r1, r2, r3, r4, r5, r6, r7, r8, r10⟩ := h.rest (g := (4, 0)) hf (fun k _ e => h.cM k e) (by simp)
  obtain ⟨d1, d2, d3, d4, d5, d6, d7, d8, d9⟩ := h.colours (C1 := paintC C w.heap.size w'.heap.size (4, 0)) fun k hk => paintC_old hk
  refine ⟨_, ⟨r1 (by simp), r2 (by simp), r3 (by simp), hb, r5 (by simp), r6 (by simp), fun p hp => r7 p hp (by simp), fun p hp => r8 p hp (by simp), d1, d2, d3, fun j hj => ?_, d5, d6, d7, d8, fun k hk => paintC_far (Nat.le_trans hf.size hk) hk, d9⟩, fun k hk => paintC_old hk, r10⟩
  rcases hy j hj with e | e
  · exact d4 j e
  · exact paintC_new e (hb.lt hj).2
theorem updM_keys (K : List (Int × CE)) (id : Int) (e : CE) : (updM K id e).map (·.1) = K.map (·.1) := by
  unfold updM
  rw [List.map_map]
  apply List.map_congr_left
  intro p _
  by_cases h : p.1 = id
  · simp [h]
  · simp [h]
theorem mem_updM {K : List (Int × CE)} {id : Int} {e : CE} {p : Int × CE} (h : p ∈ updM K id e) : (p ∈ K ∧ p.1 ≠ id) ∨ p = (id, e) := by
  unfold updM at h
  obtain ⟨q, hq, rfl⟩ := List.mem_map.1 h
  by_cases c : q.1 = id
  · simp [c]
  · simp [c, hq]
theorem updM_blocks {K : List (Int × CE)} (hn : (K.map (·.1)).Nodup) {id : Int} {e e' : CE} (hl : lookM K id = some e) (hB : e'.B = e.B) : (updM K id e').map (fun p => (p.1, p.2.B)) = K.map fun p => (p.1, p.2.B) := by
  unfold updM
  rw [List.map_map]
  apply List.map_congr_left
  intro p hp
  by_cases c : p.1 = id
  · have : lookM K p.1 = some p.2 := mem_lookM hn hp
    rw [c, hl] at this
    have h2 : e = p.2 := by simpa using this
    simp [c, hB, h2]
  · simp [c]
theorem look_updM {K : List (Int × CE)} {id : Int} {e e' : CE} (hl : lookM K id = some e) (j : Int) : lookM (updM K id e') j = if j = id then some e' else lookM K j := by
  unfold updM
  induction K with
  | nil => simp [lookM] at hl
  | cons a r ih =>
    by_cases c : a.1 = id
    · by_cases d : j = id
      · simp [lookM, c, d]
      · have hne : ¬ id = j := fun e1 => d e1.symm
        have hne2 : ¬ a.1 = j := by rw [c]; exact hne
        have key : ∀ (l : List (Int × CE)), (l.map fun p => if p.1 = id then (id, e') else p).find? (fun p => decide (p.1 = j)) = l.find? fun p => decide (p.1 = j) := by
          intro l
          induction l with
          | nil => rfl
          | cons b t ih2 =>
            rw [List.map_cons, List.find?_cons, List.find?_cons, ih2]
            by_cases c2 : b.1 = id
            · have : ¬ b.1 = j := by rw [c2]; exact hne
              simp [c2, hne]
            · simp [c2]
        simp only [lookM, if_neg d]
        rw [key]
    · have hl2 : lookM r id = some e := by
        unfold lookM at hl ⊢
        rw [List.find?_cons_of_neg (by simpa using c)] at hl
        exact hl
      have := ih hl2
      unfold lookM at this ⊢
      rw [List.map_cons, if_neg c, List.find?_cons, List.find?_cons]
      by_cases d : a.1 = j
      · have : ¬ j = id := by rw [← d]; exact c
        simp [d, this]
      · simp only [d, decide_false]
        exact this
/-- a connection's queue turned -/
theorem CoAt.qTo (h : CoAt base G C K T n w) {id : Int} {e : CE} (hl : lookM K id = some e) {ob' : Option Nat} {s' : QS} (hq : QAt base w' e.q ob' s') (ho : ∀ k, ob' = some k → k < w.heap.size → e.ob = some k) (hf : Fr (fun k => k = e.q ∨ e.ob = some k) w w') :
    CoTo base G C (updM K id { e with ob := ob', s := s' }) T n w w' := by
  have hm := lookM_memP hl
  obtain ⟨r1, r2, r3, r4, r5, r6, r7, r8, r10⟩ := h.rest (g := (8, id)) hf (fun k _ e1 => by
    rcases e1 with e1 | e1
    · rw [e1]; exact (h.cQ _ hm).1
    · exact (h.cQ _ hm).2 k e1) (by simp)
  obtain ⟨d1, d2, d3, d4, d5, d6, d7, d8, d9⟩ := h.colours (C1 := paintC C w.heap.size w'.heap.size (8, id)) fun k hk => paintC_old hk
  refine ⟨_, ⟨r1 (by simp), by rw [updM_blocks h.keys hl (e' := { e with ob := ob', s := s' }) rfl]; exact r2 (by simp), r3 (by simp), r4 (by simp), r5 (by simp), r6 (by simp), fun p hp => ?_, fun p hp => ?_, d1, d2, d3, d4, d5, d6, fun p hp => ?_, fun p hp => ?_, fun k hk => paintC_far (Nat.le_trans hf.size hk) hk, d9⟩, fun k hk => paintC_old hk, r10⟩
  · rcases mem_updM hp with ⟨a, b⟩ | rfl
    · exact r7 p a (by simp)
    · exact r7 (id, e) hm (by simp)
  · rcases mem_updM hp with ⟨a, b⟩ | rfl
    · exact r8 p a (by simp; exact fun e2 => b e2.symm)
    · exact hq
  · rcases mem_updM hp with ⟨a, b⟩ | rfl
    · exact d7 p a
    · exact d7 (id, e) hm
  · rcases mem_updM hp with ⟨a, b⟩ | rfl
    · exact d8 p a
    · refine ⟨(d8 (id, e) hm).1, fun k hk => ?_⟩
      by_cases c : k < w.heap.size
      · exact (d8 (id, e) hm).2 k (ho k hk c)
      · exact paintC_new (by omega) (hq.lt.2 k hk)
/-- a connection's own cells turned -/
theorem CoAt.connTo (h : CoAt base G C K T n w) {id : Int} {e e' : CE} (hl : lookM K id = some e) (h1 : e'.B = e.B) (h2 : e'.q = e.q) (h3 : e'.ob = e.ob) (h4 : e'.s = e.s) (hb : w'.heap[e.B]? = some (connO e')) (hf : Fr (fun k => k = e.B) w w') :
    CoTo base G C (updM K id e') T n w w' := by
  have hm := lookM_memP hl
  obtain ⟨r1, r2, r3, r4, r5, r6, r7, r8, r10⟩ := h.rest (g := (7, id)) hf (fun k _ e1 => by rw [e1]; exact h.cB _ hm) (by simp)
  refine ⟨C, ⟨r1 (by simp), by rw [updM_blocks h.keys hl h1]; exact r2 (by simp), r3 (by simp), r4 (by simp), r5 (by simp), r6 (by simp), fun p hp => ?_, fun p hp => ?_, h.cc, h.cm, h.ch, h.cM, h.cW, h.cP, fun p hp => ?_, fun p hp => ?_, fun k hk => h.cN k (Nat.le_trans hf.size hk), h.cL⟩, fun _ _ => rfl, r10⟩
  · rcases mem_updM hp with ⟨a, b⟩ | rfl
    · exact r7 p a (by simp; exact fun e2 => b e2.symm)
    · show w'.heap[e'.B]? = _; rw [h1]; exact hb
  · rcases mem_updM hp with ⟨a, b⟩ | rfl
    · exact r8 p a (by simp)
    · show QAt _ _ e'.q e'.ob e'.s; rw [h2, h3, h4]; exact r8 _ hm (by simp)
  · rcases mem_updM hp with ⟨a, b⟩ | rfl
    · exact h.cB p a
    · show C e'.B = _; rw [h1]; exact h.cB _ hm
  · rcases mem_updM hp with ⟨a, b⟩ | rfl
    · exact h.cQ p a
    · show C e'.q = _ ∧ ∀ k, e'.ob = some k → _; rw [h2, h3]; exact h.cQ _ hm
/-- a connection came: its queue and its framer were made first, then it was put into the map -/
theorem CoAt.newTo (h : CoAt base G C K T n w) {id : Int} {e : CE} (hl : lookM K id = none) (hB : w.heap.size ≤ e.B ∧ e.B < w'.heap.size) (hq0 : w.heap.size ≤ e.q) (hqB : e.q ≠ e.B) (hob : e.ob = none) (hb : w'.heap[e.B]? = some (connO e)) (hq : QAt base w' e.q e.ob e.s)
    (hm : OwnMIS w' G.m (setM (K.map fun p => (p.1, p.2.B)) id e.B)) (hf : Fr (fun k => k = G.m) w w') : CoTo base G C (K ++ [(id, e)]) T n w w' := by
  obtain ⟨r1, r2, r3, r4, r5, r6, r7, r8, r10⟩ := h.rest (g := (2, 0)) hf (fun k _ e1 => by rw [e1]; exact h.cm) (by simp)
  have hnK : ∀ p ∈ K, p.1 ≠ id := fun p hp e1 => by
    have := mem_lookM h.keys hp
    rw [e1, hl] at this; cases this
  have hmap : setM (K.map fun p => (p.1, p.2.B)) id e.B = (K ++ [(id, e)]).map fun p => (p.1, p.2.B) := by
    unfold setM
    rw [List.map_append, List.filter_eq_self.2 fun p hp => ?_]
    · rfl
    · obtain ⟨q, hq, rfl⟩ := List.mem_map.1 hp
      simpa using hnK q hq
  obtain ⟨C1, hC1⟩ : ∃ C1 : Nat → CTag, C1 = fun k => if k < w.heap.size then C k else if k = e.B then (7, id) else if k < w'.heap.size then (8, id) else ctag0 := ⟨_, rfl⟩
  have hold : ∀ k, k < w.heap.size → C1 k = C k := fun k hk => by rw [hC1]; exact if_pos hk
  have hlq := hq.lt
  obtain ⟨d1, d2, d3, d4, d5, d6, d7, d8, d9⟩ := h.colours hold
  refine ⟨C1, ⟨r1 (by simp), by rw [← hmap]; exact hm, r3 (by simp), r4 (by simp), r5 (by simp), r6 (by simp), fun p hp => ?_, fun p hp => ?_, d1, d2, d3, d4, d5, d6, fun p hp => ?_, fun p hp => ?_, fun k hk => ?_, d9⟩, hold, r10⟩
  · rcases List.mem_append.1 hp with a | a
    · exact r7 p a (by simp)
    · obtain rfl := List.mem_singleton.1 a; exact hb
  · rcases List.mem_append.1 hp with a | a
    · exact r8 p a (by simp)
    · obtain rfl := List.mem_singleton.1 a; exact hq
  · rcases List.mem_append.1 hp with a | a
    · exact d7 p a
    · obtain rfl := List.mem_singleton.1 a
      show C1 e.B = _
      rw [hC1]; simp only; rw [if_neg (by omega)]; simp
  · rcases List.mem_append.1 hp with a | a
    · exact d8 p a
    · obtain rfl := List.mem_singleton.1 a
      refine ⟨?_, fun k hk => by rw [show e.ob = none from hob] at hk; cases hk⟩
      show C1 e.q = _
      rw [hC1]; simp only; rw [if_neg (by omega), if_neg hqB, if_pos hlq.1]
  · have hs := hf.size
    rw [hC1]; simp only; rw [if_neg (by omega), if_neg (by omega), if_neg (by omega)]
end
end Go.Proofs.YtpbobonddocgkaaGreatDoor
end
section
/- Drawn regions: two writing operations may come up. A box of seven cells. -/
namespace Go.Proofs.YtpbobonddocgkaaGreatDoor
open Go Go.RowKit

theorem wpAnyH_two {P : Program} {md : Region.Mode} {ops : Array Oper} {Q : Exit → Act → World → Prop} {S : World → Prop} {i j : Nat} {o o2 : Oper} {fuel : Nat} {listed : Array Bool} {a : Act} {w : World} (hr : Region.ready md ops listed = [i, j]) (ho : ops[i]? = some o) (ho2 : ops[j]? = some o2)
    (hw : Region.wanted o (yielded ops a.tmps) = true) (hw2 : Region.wanted o2 (yielded ops a.tmps) = true)
    (h : ∀ K' : Act → World → Prop, Shut (∀ a w, S w → (S w → wpAnyH P md ops Q S fuel (listed.setIfInBounds i true) a w) → K' a w) → Oper.wp P o a w K' Q)
    (h2 : ∀ K' : Act → World → Prop, Shut (∀ a w, S w → (S w → wpAnyH P md ops Q S fuel (listed.setIfInBounds j true) a w) → K' a w) → Oper.wp P o2 a w K' Q) : wpAnyH P md ops Q S (fuel + 1) listed a w :=
  wpAnyH_ready hr (by simp) (AllReadyH.cons ho (fun K hK => by rw [if_pos hw]; exact h K hK) (AllReadyH.cons ho2 (fun K hK => by rw [if_pos hw2]; exact h2 K hK) AllReadyH.nil))
section
variable {W a : World} {B : Nat} {T : TypeId} {X : Nat → Prop} {c0 c1 c2 c3 c4 c5 c6 v0 v1 v2 v3 v4 v5 v6 : Value}
theorem set7 (h : W.heap[B]? = some (.cells #[c0, c1, c2, c3, c4, c5, c6] T (0, 0))) : (((((((W.setCell ⟨B, 0, none⟩ v0).setCell ⟨B, 1, none⟩ v1).setCell ⟨B, 2, none⟩ v2).setCell ⟨B, 3, none⟩ v3).setCell ⟨B, 4, none⟩ v4).setCell ⟨B, 5, none⟩ v5).setCell ⟨B, 6, none⟩ v6).heap[B]? = some (.cells #[v0, v1, v2, v3, v4, v5, v6] T (0, 0)) := by
  have := blk_set (blk_set (blk_set (blk_set (blk_set (blk_set (blk_set h 0 v0) 1 v1) 2 v2) 3 v3) 4 v4) 5 v5) 6 v6
  simpa using this
theorem set7_fr (h : Fr X a W) (hB : X B) : Fr X a (((((((W.setCell ⟨B, 0, none⟩ v0).setCell ⟨B, 1, none⟩ v1).setCell ⟨B, 2, none⟩ v2).setCell ⟨B, 3, none⟩ v3).setCell ⟨B, 4, none⟩ v4).setCell ⟨B, 5, none⟩ v5).setCell ⟨B, 6, none⟩ v6) :=
  Fr.setCell (Fr.setCell (Fr.setCell (Fr.setCell (Fr.setCell (Fr.setCell (Fr.setCell h ⟨B, 0, none⟩ hB v0) ⟨B, 1, none⟩ hB v1) ⟨B, 2, none⟩ hB v2) ⟨B, 3, none⟩ hB v3) ⟨B, 4, none⟩ hB v4) ⟨B, 5, none⟩ hB v5) ⟨B, 6, none⟩ hB v6
theorem set7_oth {k : Nat} {o : Obj} (h : W.heap[k]? = some o) (hk : k ≠ B) : (((((((W.setCell ⟨B, 0, none⟩ v0).setCell ⟨B, 1, none⟩ v1).setCell ⟨B, 2, none⟩ v2).setCell ⟨B, 3, none⟩ v3).setCell ⟨B, 4, none⟩ v4).setCell ⟨B, 5, none⟩ v5).setCell ⟨B, 6, none⟩ v6).heap[k]? = some o :=
  (set7_fr (X := fun k => k = B) (Fr.refl _ W) rfl).blk h hk
theorem res_seven {P : Program} {fn : Func} {p u : Tmp} {ty : TypeId} {tmps : Array Value} {V : World} {N : Nat} (h : fn.results = #[.cell p ty, .tmp u]) (hp : tmps.getD p undef = .pointer (some ⟨N, 0, none⟩)) (hg : (isAgg ty).run P V = .ok true V) (hz : (sizeOf ty).run P V = .ok 7 V)
    (h0 : V.heap[N]? = some (.cells #[c0, c1, c2, c3, c4, c5, c6] T (0, 0))) : (results fn tmps).run P V = .ok (.tuple #[.agg #[c0, c1, c2, c3, c4, c5, c6], tmps.getD u undef]) V := by
  have k := fun j => blk_cell h0 j
  rw [results_cell_tmp h, hp]
  have k0 := k 0; have k1 := k 1; have k2 := k 2; have k3 := k 3; have k4 := k 4; have k5 := k 5; have k6 := k 6
  simp [asAddr, loadVar, Sem.run_bind, hg, hz, loadCells, loadCellsFrom, k0, k1, k2, k3, k4, k5, k6, Result.andThen, go_sem]
end
end Go.Proofs.YtpbobonddocgkaaGreatDoor
end
section
/- Layer 23: what a server tells: there, live, Live, There, Sign, Holder, Monitor. -/
namespace Go.Proofs.YtpbobonddocgkaaGreatDoor
open Go Go.RowKit Go.Maps Go.Lib

theorem look_blocks (K : List (Int × CE)) (id : Int) : lookM (K.map fun p => (p.1, p.2.B)) id = (lookM K id).map (·.B) := by
  induction K with
  | nil => rfl
  | cons a r ih =>
    unfold lookM at ih ⊢
    rw [List.map_cons, List.find?_cons, List.find?_cons]
    by_cases c : a.1 = id
    · simp [c]
    · simp only [c, decide_false]
      exact ih
theorem mlookC {w : World} {b : Nat} {S : List (Int × Nat)} (h : OwnMIS w b S) {k : Int} (hk : OkKIS k) : (Instr.lookup 45 (.map (some b)) (.int .i64 k) false).run Tryz.prog w = .ok (.pointer ((lookM S k).map fun s => ⟨s, 0, none⟩)) w := by
  obtain ⟨⟨D, a5, a6⟩, a7⟩ := h
  have hz : (zeroValue 66).run Tryz.prog w = .ok (.pointer none) w := by kernel_rfl
  have hko := keyOfIS hk
  unfold kVIS at hko
  obtain ⟨v, ps, h1, h2⟩ := a5.lookup keyedIS Tryz.underlying45 hz (zd := .lit (.int .i64 (-1))) (zp := []) rfl hko
  rw [h1]
  rw [a6.look kLIS_inj] at h2
  cases hl : lookM S k with
  | none =>
    rw [hl] at h2
    rcases ptrE_inv h2 with ⟨rfl, _⟩ | ⟨s, _, e⟩
    · rfl
    · omega
  | some s =>
    rw [hl] at h2
    rcases ptrE_inv h2 with ⟨_, e⟩ | ⟨s2, rfl, e⟩
    · omega
    · obtain rfl : s = s2 := by omega
      rfl
theorem mputC {w : World} {b : Nat} {S : List (Int × Nat)} (h : OwnMIS w b S) {k : Int} (hk : OkKIS k) (s : Nat) (hl : S.length ≤ 1000000) :
    ∃ w', (Instr.mapUpdate 45 (.map (some b)) (.int .i64 k) (.pointer (some ⟨s, 0, none⟩))).run Tryz.prog w = .ok () w' ∧ OwnMIS w' b (setM S k s) ∧ Fr (fun j => j = b) w w' := by
  obtain ⟨⟨D, a5, a6⟩, a7⟩ := h
  have hko := keyOfIS hk
  unfold kVIS at hko
  obtain ⟨w', h1, h2, h3⟩ := a5.update keyedIS Tryz.underlying45 (by unfold maxLen; omega) hko (val := .pointer (some ⟨s, 0, none⟩)) (d := vP s) (ps := []) rfl
  have h6 := a6.put kLIS_inj (a5.tidy keyedIS) k (kLIS_key k) s
  refine ⟨w', h1, ⟨⟨_, by rw [← h6.size]; exact owns_tightP h2, h6⟩, fun p hp => ?_⟩, (Fr.refl _ w).grown h3 fun j e => by cases e; exact .inr rfl⟩
  rcases mem_setM.1 hp with ⟨hp, _⟩ | rfl
  · exact a7 p hp
  · exact hk
section
variable {base : Nat} {w w' : World} {G : CoG} {C : Nat → CTag} {K : List (Int × CE)} {T : List (KeyB × Ent VI)} {n : Nat}
theorem CoAt.cell (h : CoAt base G C K T n w) (j : Nat) : w.cell? ⟨G.c, j, none⟩ = (coreC G)[j]? := blk_cell (show w.heap[G.c]? = some (.cells (coreC G) _ (0, 0)) from h.self) j
theorem CoAt.cellC (h : CoAt base G C K T n w) {id : Int} {e : CE} (hl : lookM K id = some e) (j : Nat) : w.cell? ⟨e.B, j, none⟩ = (connC e)[j]? := blk_cell (show w.heap[e.B]? = some (.cells (connC e) _ (0, 0)) from h.conn _ (lookM_memP hl)) j
theorem CoAt.freeC (h : CoAt base G C K T n w) {id : Int} {e : CE} (hl : lookM K id = some e) (j : Nat) : w.frozen? ⟨e.B, j, none⟩ = false := blk_free (show w.heap[e.B]? = some (.cells (connC e) _ (0, 0)) from h.conn _ (lookM_memP hl)) j
theorem CoAt.mlook (h : CoAt base G C K T n w) {id : Int} (hid : OkKIS id) : (Instr.lookup 45 (.map (some G.m)) (.int .i64 id) false).run Tryz.prog w = .ok (.pointer ((lookM K id).map fun e => ⟨e.B, 0, none⟩)) w := by
  have := mlookC h.mp hid
  rw [look_blocks, Option.map_map] at this
  exact this
set_option maxRecDepth 100000 in
set_option maxHeartbeats 2000000 in
theorem there_any (h : CoAt base G C K T n w) {id : Int} (hid : OkKIS id) : Calls Tryz.prog 41 #[.pointer (some ⟨G.c, 0, none⟩), .int .i64 id] w fun e w' => e = .returned (.pointer ((lookM K id).map fun e => ⟨e.B, 0, none⟩)) ∧ w' = w := by
  have c16 : w.cell? ⟨G.c, 16, none⟩ = some (.map (some G.m)) := h.cell 16
  have hm := h.mlook hid
  clear h
  go_enter Tryz.func41, Tryz.ntmps41
  go_wp2_with fail
  go_ret
  exact ⟨rfl, rfl⟩
set_option maxRecDepth 100000 in
set_option maxHeartbeats 2000000 in
theorem live_none (h : CoAt base G C K T n w) {id : Int} (hid : OkKIS id) (hl : lookM K id = none) : Calls Tryz.prog 28 #[.pointer (some ⟨G.c, 0, none⟩), .int .i64 id] w fun e w' => e = .returned (.pointer none) ∧ w' = w := by
  have HT := Lib.hid (there_any h hid)
  rw [hl] at HT
  clear h
  go_enter Tryz.func28, Tryz.ntmps28
  go_wp2_with fail
  refine HT.out.mono ?_
  rintro e w1 ⟨rfl, rfl⟩
  go_wp2_with fail
  go_ret
  exact ⟨rfl, rfl⟩
set_option maxRecDepth 100000 in
set_option maxHeartbeats 2000000 in
theorem live_some (h : CoAt base G C K T n w) {id : Int} {e : CE} (hl : lookM K id = some e) : Calls Tryz.prog 28 #[.pointer (some ⟨G.c, 0, none⟩), .int .i64 id] w fun r w' => r = .returned (.pointer (some ⟨e.B, 0, none⟩)) ∧ w' = w := by
  have HT := Lib.hid (there_any h (h.okK (lookM_memP hl)))
  have c1 : w.cell? ⟨e.B, 1, none⟩ = some (.bool true) := h.cellC hl 1
  rw [hl] at HT
  clear h hl
  go_enter Tryz.func28, Tryz.ntmps28
  go_wp2_with fail
  refine HT.out.mono ?_
  rintro r w1 ⟨rfl, rfl⟩
  go_wp2_with fail
  go_ret
  exact ⟨rfl, rfl⟩
set_option maxRecDepth 100000 in
set_option maxHeartbeats 2000000 in
theorem there_none (h : CoAt base G C K T n w) {id : Int} (hid : OkKIS id) (hl : lookM K id = none) : Calls Tryz.prog 23 #[.pointer (some ⟨G.c, 0, none⟩), .int .i64 id] w fun e w' => e = .returned (.bool false) ∧ w' = w := by
  have HT := Lib.hid (there_any h hid)
  rw [hl] at HT
  clear h
  go_enter Tryz.func23, Tryz.ntmps23
  go_wp2_with fail
  refine HT.out.mono ?_
  rintro e w1 ⟨rfl, rfl⟩
  go_wp2_with fail
  go_ret
  exact ⟨rfl, rfl⟩
set_option maxRecDepth 100000 in
set_option maxHeartbeats 2000000 in
theorem live_yes (h : CoAt base G C K T n w) {id : Int} {e : CE} (hl : lookM K id = some e) : Calls Tryz.prog 16 #[.pointer (some ⟨G.c, 0, none⟩), .int .i64 id] w fun r w' => r = .returned (.bool true) ∧ w' = w := by
  have HT := Lib.hid (live_some h hl)
  clear h hl
  go_enter Tryz.func16, Tryz.ntmps16
  go_wp2_with fail
  refine HT.out.mono ?_
  rintro r w1 ⟨rfl, rfl⟩
  go_wp2_with fail
  go_ret
  exact ⟨rfl, rfl⟩
set_option maxRecDepth 100000 in
set_option maxHeartbeats 2000000 in
theorem monitor_of (h : CoAt base G C K T n w) : Calls Tryz.prog 11 #[.pointer (some ⟨G.c, 0, none⟩)] w fun r w' => r = .returned (.pointer (some ⟨G.mo, 0, none⟩)) ∧ w' = w := by
  have c19 : w.cell? ⟨G.c, 19, none⟩ = some (.pointer (some ⟨G.mo, 0, none⟩)) := h.cell 19
  clear h
  go_enter Tryz.func11, Tryz.ntmps11
  go_wp2_with fail
  go_ret
  exact ⟨rfl, rfl⟩
set_option maxRecDepth 100000 in
set_option maxHeartbeats 2000000 in
theorem holder_any (h : CoAt base G C K T n w) {nm : List UInt8} (hn : nm.length ≤ 1000) : Calls Tryz.prog 13 #[.pointer (some ⟨G.c, 0, none⟩), .string (bs nm)] w fun r w' => r = .returned (.tuple #[.int .i64 ((lookM T (foldL nm)).getD zeroEI).thing, .bool (lookM T (foldL nm)).isSome]) ∧ Below w.heap.size w w' := by
  have c17 : w.cell? ⟨G.c, 17, none⟩ = some (.pointer (some ⟨G.ht, 0, none⟩)) := h.cell 17
  have HG := Lib.hid (bok_getI h.hol (name := bs nm) (by simp; omega))
  simp only [thVI] at HG
  clear h
  go_enter Tryz.func13, Tryz.ntmps13
  go_wp2_with fail
  refine HG.out.mono ?_
  rintro e w1 ⟨rfl, b1⟩
  have B1 := Lib.hid b1
  clear b1
  go_wp2_with fail
  go_ret2
  exact ⟨rfl, B1.out⟩
theorem res_sevenS {P : Program} {fn : Func} {p : Tmp} {ty : TypeId} {tmps : Array Value} {V : World} {N : Nat} {T : TypeId} {c0 c1 c2 c3 c4 c5 c6 : Value} (h : fn.results = #[.cell p ty]) (hp : tmps.getD p undef = .pointer (some ⟨N, 0, none⟩)) (hg : (isAgg ty).run P V = .ok true V) (hz : (sizeOf ty).run P V = .ok 7 V)
    (h0 : V.heap[N]? = some (.cells #[c0, c1, c2, c3, c4, c5, c6] T (0, 0))) : (results fn tmps).run P V = .ok (.agg #[c0, c1, c2, c3, c4, c5, c6]) V := by
  have k := fun j => blk_cell h0 j
  have hp' : tmps[p]?.getD undef = .pointer (some ⟨N, 0, none⟩) := by simpa using hp
  have k0 := k 0; have k1 := k 1; have k2 := k 2; have k3 := k 3; have k4 := k 4; have k5 := k 5; have k6 := k 6
  simp [results, h, hp', asAddr, loadVar, Sem.run_bind, hg, hz, loadCells, loadCellsFrom, k0, k1, k2, k3, k4, k5, k6, Result.andThen, go_sem]
/-- a sign -/
def signV (nick user : List UInt8) (done : Bool) : Value := .agg #[.int .i64 0, .bool false, .string ⟨#[]⟩, .string (bs nick), .string (bs user), .string ⟨#[]⟩, .bool done]
set_option maxRecDepth 100000 in
set_option maxHeartbeats 4000000 in
theorem sign_some (h : CoAt base G C K T n w) {id : Int} {e : CE} (hl : lookM K id = some e) : Calls Tryz.prog 79 #[.pointer (some ⟨G.c, 0, none⟩), .int .i64 id] w fun r w' => r = .returned (signV e.nick e.user e.done) ∧ Below w.heap.size w w' := by
  obtain ⟨N, hN⟩ : ∃ N, w.heap.size = N := ⟨_, rfl⟩
  obtain ⟨w1, hw1⟩ : ∃ w1, w.alloc (Obj.cells #[Value.int IntKind.i64 0, Value.bool false, Value.string { data := #[] }, Value.string { data := #[] }, Value.string { data := #[] }, Value.string { data := #[] }, Value.bool false] 34) = w1 := ⟨_, rfl⟩
  have f1 : Fr (fun _ => False) w w1 := by rw [← hw1]; exact (Fr.refl _ w).alloc _
  have k1 : w1.heap[N]? = some (.cells #[Value.int IntKind.i64 0, Value.bool false, Value.string { data := #[] }, Value.string { data := #[] }, Value.string { data := #[] }, Value.string { data := #[] }, Value.bool false] 34 (0, 0)) := by rw [← hw1, ← hN]; exact heap_alloc_new w _
  have h1 := h.fr f1 fun _ _ e => e
  have HT := Lib.hid (live_some h1 hl)
  have c2 : w1.cell? ⟨e.B, 2, none⟩ = some (.int .i64 0) := h1.cellC hl 2
  have c3 : w1.cell? ⟨e.B, 3, none⟩ = some (.bool false) := h1.cellC hl 3
  have c4 : w1.cell? ⟨e.B, 4, none⟩ = some (.string ⟨#[]⟩) := h1.cellC hl 4
  have c5 : w1.cell? ⟨e.B, 5, none⟩ = some (.string (bs e.nick)) := h1.cellC hl 5
  have c6 : w1.cell? ⟨e.B, 6, none⟩ = some (.string (bs e.user)) := h1.cellC hl 6
  have c7 : w1.cell? ⟨e.B, 7, none⟩ = some (.string ⟨#[]⟩) := h1.cellC hl 7
  have c8 : w1.cell? ⟨e.B, 8, none⟩ = some (.bool e.done) := h1.cellC hl 8
  have d0 := blk_cell k1 0
  have d1 := blk_cell k1 1
  have d2 := blk_cell k1 2
  have d3 := blk_cell k1 3
  have d4 := blk_cell k1 4
  have d5 := blk_cell k1 5
  have d6 := blk_cell k1 6
  have g0 := blk_free k1 0
  have g1 := blk_free k1 1
  have g2 := blk_free k1 2
  have g3 := blk_free k1 3
  have g4 := blk_free k1 4
  have g5 := blk_free k1 5
  have g6 := blk_free k1 6
  have HW := Lib.hid (And.intro hN (And.intro hw1 (And.intro f1 k1)))
  clear h hl h1 hN hw1 f1 k1
  unfold signV
  go_enter Tryz.func79, Tryz.ntmps79
  go_wp2_with fail
  rw [HW.out.2.1]
  rw [HW.out.1]
  refine HT.out.mono ?_
  rintro r w2 ⟨rfl, rfl⟩
  go_wp2_with fail
  refine bodyPost_ret (res_sevenS rfl rfl (Tryz.isAgg34 _) (Tryz.sizeOf34 _) (set7 HW.out.2.2.2)) rfl ⟨rfl, (set7_fr (X := fun k => k = N) (HW.out.2.2.1.mono fun _ _ e => e.elim) rfl).below (Nat.le_refl _) fun k _ e => by have := HW.out.1; omega⟩
end
end Go.Proofs.YtpbobonddocgkaaGreatDoor
end
section
/- Layer 14: mathematics: a line of a command and parameters. -/
namespace Go.Proofs.YtpbobonddocgkaaGreatDoor
open Go Go.RowKit Go.Lib

/-- a byte that no line has -/
def brk14 (b : UInt8) : Bool := b == 0 || b == 10 || b == 13
/-- a - for each blank -/
def dashL (l : List UInt8) : List UInt8 := l.map fun b => if b = 32 then 45 else b
theorem dash_none {l : List UInt8} (h : ∀ b ∈ l, b ≠ 32) : dashL l = l := by
  unfold dashL
  conv => rhs; rw [← List.map_id l]
  refine List.map_congr_left fun b hb => ?_
  rw [if_neg (h b hb)]; rfl
theorem ix_split (s : List UInt8) : (Lib.index s [32] = -1 ∧ ∀ b ∈ s, b ≠ 32) ∨ ∃ i : Nat, Lib.index s [32] = i ∧ i < s.length ∧ s = s.take i ++ 32 :: s.drop (i + 1) ∧ ∀ b ∈ s.take i, b ≠ 32 := by
  rw [Lib.index_one]
  by_cases h : Lib.indexByte s 32 = -1
  · refine .inl ⟨h, fun b hb e => ?_⟩
    obtain ⟨k, hk⟩ := List.getElem?_of_mem hb
    rw [e] at hk
    exact Lib.indexByte_none h k hk
  · have hge := Lib.indexByte_ge s 32
    obtain ⟨i, hi⟩ : ∃ i : Nat, Lib.indexByte s 32 = i := ⟨(Lib.indexByte s 32).toNat, by omega⟩
    obtain ⟨h1, h2⟩ := Lib.indexByte_some hi
    have hl : i < s.length := (List.getElem?_eq_some_iff.1 h1).1
    have h4 : s[i] = 32 := (List.getElem?_eq_some_iff.1 h1).2
    refine .inr ⟨i, hi, hl, ?_, fun b hb e => ?_⟩
    · rw [← h4, ← List.drop_eq_getElem_cons hl, List.take_append_drop]
    · obtain ⟨k, hk⟩ := List.getElem?_of_mem hb
      rw [List.getElem?_take] at hk
      split at hk
      · rw [e] at hk; exact h2 k ‹_› hk
      · cases hk
theorem replaceK_dash : ∀ (k : Nat) (s : List UInt8), Lib.count s [32] ≤ k → Lib.replaceK [32] [45] k s = dashL s
  | 0, s, h => by
    rcases ix_split s with ⟨h1, h2⟩ | ⟨i, h1, _⟩
    · rw [dash_none h2]; rfl
    · have := Lib.count_hit (by decide) h1; omega
  | k + 1, s, h => by
    rcases ix_split s with ⟨h1, h2⟩ | ⟨i, h1, hl, h2, h3⟩
    · rw [dash_none h2]
      show (if Lib.index s [32] == -1 then s else _) = s
      rw [h1]; rfl
    · have hc := Lib.count_hit (by decide) h1
      rw [Lib.replaceK_hit _ _ _ _ _ h1, replaceK_dash k _ (by simp only [List.length_cons, List.length_nil] at hc ⊢; omega)]
      conv => rhs; rw [h2]
      unfold dashL
      rw [List.map_append, List.map_cons]
      have := dash_none h3
      unfold dashL at this
      rw [this]
      simp
theorem replace_dash (s : List UInt8) : Lib.replaceAll s [32] [45] = dashL s := by
  unfold Lib.replaceAll Lib.replace
  rw [if_neg (by decide)]
  refine replaceK_dash _ _ ?_
  unfold Lib.replaceNum
  rw [if_pos (.inl (by decide))]
  exact Nat.le_refl _
/-- a parameter that isn't the last one, out of a cleaned text -/
def midU : List UInt8 → List UInt8
  | [] => [42]
  | b :: r => if b = 58 then 45 :: r else b :: r
def midL (l : List UInt8) : List UInt8 := midU (dashL l)
/-- a parameter that can only be read with a colon ahead -/
def needC (l : List UInt8) : Bool := decide (l = []) || decide (l.head? = some 58) || decide (32 ∈ l)
/-- what is written of the parameters -/
def tailL : List (List UInt8) → List UInt8
  | [] => []
  | [p] => 32 :: ((if needC p then [58] else []) ++ p)
  | p :: q :: r => 32 :: (p ++ tailL (q :: r))
def headL (prefix_ : List UInt8) : List UInt8 := if prefix_ = [] then [] else 58 :: (prefix_ ++ [32])
def writeL (prefix_ name : List UInt8) (ps : List (List UInt8)) : List UInt8 := headL prefix_ ++ name ++ tailL ps
/-- the parameters of a line, out of cleaned ones -/
def parsL : List (List UInt8) → List (List UInt8)
  | [] => []
  | [p] => [p]
  | p :: q :: r => midL p :: parsL (q :: r)
end Go.Proofs.YtpbobonddocgkaaGreatDoor
end
