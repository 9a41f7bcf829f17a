/- Layer 8: a queue apart from other blocks; two queues, apart. -/
import Derived.Test.YtadbpgkhenbpfaaSenH
namespace Go.Proofs.Ytadbpgkhenbpfaa
set_option linter.unusedVariables false
set_option linter.unusedSimpArgs false
open Go Go.RowKit Go.Lib Go.Sort Go.Shelf

/-- a queue that has none of the blocks Z -/
def QX (base : Nat) (W : World) (q : Nat) (s : QS) (Z : Nat → Prop) : Prop := base ≤ q ∧ ∃ ob, QAt base W q ob s ∧ ¬ Z q ∧ ∀ k, ob = some k → ¬ Z k
theorem qx_is {base : Nat} {W : World} {q : Nat} {s : QS} {Z : Nat → Prop} (h : QX base W q s Z) : QIs base W q s := by
  obtain ⟨h0, ob, h1, _⟩ := h; exact ⟨h0, ob, h1⟩
theorem qx_push {base : Nat} {w : World} {q : Nat} {s : QS} {Z : Nat → Prop} (h : QX base w q s Z) (hZ : ∀ k, Z k → k < w.heap.size) (hbw : base ≤ w.heap.size) (hm : 0 ≤ s.most) (hm2 : s.most ≤ 65536) (hl : s.ws.length ≤ 100000) (l : ByteArray) (hll : l.size ≤ 1000000) {b : Bool} {s' : QS} (hb : pushB s l.data.toList = b) (hs : pushS s l.data.toList = s') :
    Calls Try.prog 11 #[.pointer (some ⟨q, 0, none⟩), .string l] w fun e w' => e = .returned (.bool b) ∧ QX base w' q s' Z ∧ Fr (fun k => ¬ Z k) w w' ∧ RowKit.Below base w w' := by
  obtain ⟨h0, ob, h1, h2, h3⟩ := h
  have hbl := q_blocks h1
  refine (q_push h1 hbw hm hm2 hl l hll).mono ?_
  rintro e w' ⟨rfl, ob', g2, g3, g4⟩
  refine ⟨by rw [hb], ⟨h0, ob', hs ▸ g2, h2, fun k hk hz => h3 k (g3 k hk (hZ k hz)) hz⟩, g4.mono fun k _ e => ?_, g4.below hbw fun k _ e => by rcases e with rfl | e; exact h0; exact (hbl k e).1⟩
  rcases e with rfl | e
  · exact h2
  · exact h3 k e
theorem qx_drain {base : Nat} {w : World} {q : Nat} {s : QS} {Z : Nat → Prop} (h : QX base w q s Z) (hZ : ∀ k, Z k → k < w.heap.size) (hbw : base ≤ w.heap.size) (hl : s.ws.length ≤ 1000000) (hs0 : 0 ≤ s.sent) (hs1 : s.sent ≤ 1000000000000) (n : Int) {ds : List UInt8} {s' : QS} (hd : s.ws.take (goesQ s n) = ds) (hs : drainS s n = s') :
    Calls Try.prog 9 #[.pointer (some ⟨q, 0, none⟩), .int .i64 n] w fun e w' => (∃ v', e = .returned v' ∧ OwnB w.heap.size w' v' ds) ∧ QX base w' q s' Z ∧ Fr (fun k => ¬ Z k) w w' ∧ RowKit.Below base w w' := by
  obtain ⟨h0, ob, h1, h2, h3⟩ := h
  have hbl := q_blocks h1
  refine (q_drain h1 hl hs0 hs1 n).mono ?_
  rintro e w' ⟨⟨v', rfl, g2⟩, g3, g4⟩
  refine ⟨⟨v', rfl, hd ▸ g2⟩, ⟨h0, ob, hs ▸ g3, h2, h3⟩, g4.mono fun k _ e => ?_, g4.below hbw fun k _ e => by rcases e with rfl | e; exact h0; exact (hbl k e).1⟩
  rcases e with rfl | e
  · exact h2
  · exact h3 k e
/-- two queues, apart -/
def TwoQ (base : Nat) (W : World) (p q : Nat) (s t : QS) : Prop := base ≤ p ∧ base ≤ q ∧ ∃ oa ob, QAt base W p oa s ∧ QAt base W q ob t ∧ p ≠ q ∧ oa ≠ some q ∧ ob ≠ some p ∧ ∀ k, oa = some k → ob ≠ some k
theorem two_swap {base : Nat} {W : World} {p q : Nat} {s t : QS} (h : TwoQ base W p q s t) : TwoQ base W q p t s := by
  obtain ⟨h0, h1, oa, ob, h2, h3, h4, h5, h6, h7⟩ := h
  exact ⟨h1, h0, ob, oa, h3, h2, fun e => h4 e.symm, h6, h5, fun k hk e => h7 k e hk⟩
theorem two_left {base : Nat} {W : World} {p q : Nat} {s t : QS} (h : TwoQ base W p q s t) : QIs base W p s := by
  obtain ⟨h0, h1, oa, ob, h2, _⟩ := h; exact ⟨h0, oa, h2⟩
theorem two_below {base : Nat} {W W' : World} {p q : Nat} {s t : QS} (h : TwoQ base W p q s t) (hb : RowKit.Below W.heap.size W W') : TwoQ base W' p q s t := by
  obtain ⟨h0, h1, oa, ob, h2, h3, h4⟩ := h
  exact ⟨h0, h1, oa, ob, q_below h2 hb, q_below h3 hb, h4⟩
/-- what is done to the left one leaves the right one -/
theorem two_step {base : Nat} {w w' : World} {p q : Nat} {s t s' : QS} {ob : Option Nat} (h1 : base ≤ q) (h3 : QAt base w q ob t) (hx : QX base w' p s' (fun k => k = q ∨ ob = some k)) (hf : Fr (fun k => ¬ (k = q ∨ ob = some k)) w w') (h6 : ob ≠ some p) : TwoQ base w' p q s' t := by
  obtain ⟨h0, oa, g1, g2, g3⟩ := hx
  exact ⟨h0, h1, oa, ob, g1, q_fr h3 hf (fun e => e (.inl rfl)) (fun k hk e => e (.inr hk)), fun e => g2 (.inl e), fun e => g3 q e (.inl rfl), h6, fun k hk e => g3 k hk (.inr e)⟩
theorem two_zlt {base : Nat} {w : World} {q : Nat} {t : QS} {ob : Option Nat} (h3 : QAt base w q ob t) : ∀ k, (k = q ∨ ob = some k) → k < w.heap.size := by
  rintro k (rfl | e)
  · exact q_lt h3
  · exact (q_blocks h3 k e).2
theorem two_push {base : Nat} {w : World} {p q : Nat} {s t : QS} (h : TwoQ base w p q s t) (hbw : base ≤ w.heap.size) (hm : 0 ≤ s.most) (hm2 : s.most ≤ 65536) (hl : s.ws.length ≤ 100000) (l : ByteArray) (hll : l.size ≤ 1000000) {b : Bool} {s' : QS} (hb : pushB s l.data.toList = b) (hs : pushS s l.data.toList = s') :
    Calls Try.prog 11 #[.pointer (some ⟨p, 0, none⟩), .string l] w fun e w' => e = .returned (.bool b) ∧ TwoQ base w' p q s' t ∧ RowKit.Below base w w' := by
  obtain ⟨h0, h1, oa, ob, h2, h3, h4, h5, h6, h7⟩ := h
  have hx : QX base w p s (fun k => k = q ∨ ob = some k) := ⟨h0, oa, h2, fun e => by rcases e with e | e; exact h4 e; exact h6 e, fun k hk e => by rcases e with e | e; exact h5 (e ▸ hk); exact h7 k hk e⟩
  refine (qx_push hx (two_zlt h3) hbw hm hm2 hl l hll hb hs).mono ?_
  rintro e w' ⟨rfl, g1, g2, g3⟩
  exact ⟨rfl, two_step h1 h3 g1 g2 h6 (s := s), g3⟩
theorem two_drain {base : Nat} {w : World} {p q : Nat} {s t : QS} (h : TwoQ base w p q s t) (hbw : base ≤ w.heap.size) (hl : s.ws.length ≤ 1000000) (hs0 : 0 ≤ s.sent) (hs1 : s.sent ≤ 1000000000000) (n : Int) {ds : List UInt8} {s' : QS} (hd : s.ws.take (goesQ s n) = ds) (hs : drainS s n = s') :
    Calls Try.prog 9 #[.pointer (some ⟨p, 0, none⟩), .int .i64 n] w fun e w' => (∃ v', e = .returned v' ∧ OwnB w.heap.size w' v' ds) ∧ TwoQ base w' p q s' t ∧ RowKit.Below base w w' := by
  obtain ⟨h0, h1, oa, ob, h2, h3, h4, h5, h6, h7⟩ := h
  have hx : QX base w p s (fun k => k = q ∨ ob = some k) := ⟨h0, oa, h2, fun e => by rcases e with e | e; exact h4 e; exact h6 e, fun k hk e => by rcases e with e | e; exact h5 (e ▸ hk); exact h7 k hk e⟩
  refine (qx_drain hx (two_zlt h3) hbw hl hs0 hs1 n hd hs).mono ?_
  rintro e w' ⟨g0, g1, g2, g3⟩
  exact ⟨g0, two_step h1 h3 g1 g2 h6 (s := s), g3⟩
theorem two_new {w w1 : World} {p q : Nat} {s t : QS} {base : Nat} (hp : QIs base w p s) (hq : QIs w.heap.size w1 q t) (hb : RowKit.Below w.heap.size w w1) (hbw : base ≤ w.heap.size) : TwoQ base w1 p q s t := by
  obtain ⟨h0, oa, h1⟩ := hp
  obtain ⟨g0, ob, g1⟩ := hq
  have l1 := q_lt h1
  have l2 := q_blocks h1
  have l3 := q_blocks g1
  exact ⟨h0, Nat.le_trans hbw g0, oa, ob, q_below h1 hb, q_base g1 hbw, by omega, fun e => by have := (l2 q e).2; omega, fun e => by have := (l3 p e).1; omega, fun k hk e => by have := (l2 k hk).2; have := (l3 k e).1; omega⟩
end Go.Proofs.Ytadbpgkhenbpfaa
