/- Layer 8: SendqPieces. -/
import Derived.Test.YtadbpgkhenbpfaaSenJ
import Derived.Test.YtadbpgkhenbpfaaDecW
import Derived.Test.YtadbpgkhenbpfaaDecS
import Derived.Shelf.RegionOpenPlain
import Derived.Test.YtadbpgkhenbpfaaReg
namespace Go.Proofs.Ytadbpgkhenbpfaa
set_option linter.unusedVariables false
set_option linter.unusedSimpArgs false
open Go Go.RowKit Go.Lib Go.Sort Go.Shelf

/-- two queues, apart, by their blocks -/
def TwoE (base : Nat) (W : World) (p q : Nat) (oa ob : Option Nat) (s t : QS) : Prop := base ≤ p ∧ base ≤ q ∧ QAt base W p oa s ∧ QAt base W q ob t ∧ p ≠ q ∧ oa ≠ some q ∧ ob ≠ some p ∧ ∀ k, oa = some k → ob ≠ some k
theorem twoE_of {base : Nat} {W : World} {p q : Nat} {s t : QS} (h : TwoQ base W p q s t) : ∃ oa ob, TwoE base W p q oa ob s t := by
  obtain ⟨h0, h1, oa, ob, h2⟩ := h
  exact ⟨oa, ob, h0, h1, h2⟩
theorem twoE_swap {base : Nat} {W : World} {p q : Nat} {oa ob : Option Nat} {s t : QS} (h : TwoE base W p q oa ob s t) : TwoE base W q p ob oa t s := by
  obtain ⟨h0, h1, h2, h3, h4, h5, h6, h7⟩ := h
  exact ⟨h1, h0, h3, h2, fun e => h4 e.symm, h6, h5, fun k hk e => h7 k e hk⟩
theorem twoE_below {base : Nat} {W W' : World} {p q : Nat} {oa ob : Option Nat} {s t : QS} (h : TwoE base W p q oa ob s t) (hb : RowKit.Below W.heap.size W W') : TwoE base W' p q oa ob s t := by
  obtain ⟨h0, h1, h2, h3, h4⟩ := h
  exact ⟨h0, h1, q_below h2 hb, q_below h3 hb, h4⟩
theorem twoE_left {base : Nat} {W : World} {p q : Nat} {oa ob : Option Nat} {s t : QS} (h : TwoE base W p q oa ob s t) : QIs base W p s := ⟨h.1, oa, h.2.2.1⟩
theorem twoE_right {base : Nat} {W : World} {p q : Nat} {oa ob : Option Nat} {s t : QS} (h : TwoE base W p q oa ob s t) : QIs base W q t := ⟨h.2.1, ob, h.2.2.2.1⟩
/-- all blocks of both lie ahead of S -/
def TwoLt (p q : Nat) (oa ob : Option Nat) (S : Nat) : Prop := p < S ∧ q < S ∧ (∀ k, oa = some k → k < S) ∧ ∀ k, ob = some k → k < S
theorem twoE_lt {base : Nat} {W : World} {p q : Nat} {oa ob : Option Nat} {s t : QS} (h : TwoE base W p q oa ob s t) : TwoLt p q oa ob W.heap.size :=
  ⟨q_lt h.2.2.1, q_lt h.2.2.2.1, fun k hk => (q_blocks h.2.2.1 k hk).2, fun k hk => (q_blocks h.2.2.2.1 k hk).2⟩
/-- what Drain leaves: what it hands back, the queues, and whatever lies behind S -/
def DrainE (base : Nat) (p q : Nat) (oa ob : Option Nat) (s' t : QS) (ds : List UInt8) (w : World) (e : Ending) (w' : World) : Prop :=
  (∃ v', e = .returned v' ∧ OwnB w.heap.size w' v' ds) ∧ TwoE base w' p q oa ob s' t ∧ Fr (fun k => k = p ∨ oa = some k) w w' ∧ RowKit.Below base w w'
theorem twoE_drain {base : Nat} {w : World} {p q : Nat} {oa ob : Option Nat} {s t : QS} (h : TwoE base w p q oa ob s t) (hbw : base ≤ w.heap.size) (hl : s.ws.length ≤ 1000000) (hs0 : 0 ≤ s.sent) (hs1 : s.sent ≤ 1000000000000) (n : Int) {ds : List UInt8} {s' : QS} (hd : s.ws.take (goesQ s n) = ds) (hs : drainS s n = s') :
    Calls Try.prog 9 #[.pointer (some ⟨p, 0, none⟩), .int .i64 n] w (DrainE base p q oa ob s' t ds w) := by
  obtain ⟨h0, h1, h2, h3, h4, h5, h6, h7⟩ := h
  have hbl := q_blocks h2
  refine (q_drain h2 hl hs0 hs1 n).mono ?_
  rintro e w' ⟨⟨v', rfl, g2⟩, g3, g4⟩
  refine ⟨⟨v', rfl, hd ▸ g2⟩, ⟨h0, h1, hs ▸ g3, q_fr h3 g4 (fun e => by rcases e with e | e; exact h4 e.symm; exact h5 e) (fun k hk e => by rcases e with rfl | e; exact h6 hk; exact h7 k e hk), h4, h5, h6, h7⟩, g4, g4.below hbw fun k _ e => by rcases e with rfl | e; exact h0; exact (hbl k e).1⟩
theorem ownB_far {B S : Nat} {p : Nat} {oa : Option Nat} {w w' : World} {v : Value} {xs : List UInt8} (h : OwnB B w v xs) (hS : S ≤ B) (hp : p < S) (ho : ∀ k, oa = some k → k < S) (hf : Fr (fun k => k = p ∨ oa = some k) w w') : OwnB B w' v xs :=
  ownB_kept h fun g hg => hf.block g (h.lt g hg).2 fun e => by
    have := (h.lt g hg).1
    rcases e with e | e
    · omega
    · have := ho g e; omega
/-- texts, as they lie -/
def TextsQ (w : World) (A : Option Addr) (l : List ztxT) : Prop := 0 < l.length → ∃ g o, A = some ⟨g, o, none⟩ ∧ g < w.heap.size ∧ ∀ i (h : i < l.length) j u, (ztxL l[i])[j]? = some u → w.cell? ⟨g, o + i * 1 + j, none⟩ = some u
theorem textsQ_at {w : World} {A : Option Addr} {l : List ztxT} (h : TextsQ w A l) {k : Nat} (hk : k < l.length) : ∃ (g o : Nat), A = some ⟨g, o, none⟩ ∧ ∀ W, RowKit.Below w.heap.size w W → W.cell? ⟨g, o + k, none⟩ = some (.string l[k]) := by
  obtain ⟨g, o, rfl, hg, ha⟩ := h (by omega)
  have hak := ha k hk 0 _ rfl
  rw [Nat.mul_one, Nat.add_zero] at hak
  exact ⟨g, o, rfl, fun W hb => (World.cell?_of_block (w := w) (w' := W) (a := ⟨g, o + k, none⟩) (hb.block g hg)).trans hak⟩
def BytesQ (w : World) (A : Option Addr) (l : List zbyT) : Prop := (∀ x ∈ l, zbyG x) ∧ (0 < l.length → ∃ g o, A = some ⟨g, o, none⟩ ∧ g < w.heap.size ∧ ∀ i (h : i < l.length) j u, (zbyL l[i])[j]? = some u → w.cell? ⟨g, o + i * 1 + j, none⟩ = some u)
theorem bytesQ_at {w : World} {A : Option Addr} {l : List zbyT} (h : BytesQ w A l) {k : Nat} (hk : k < l.length) : ∃ (g o : Nat), A = some ⟨g, o, none⟩ ∧ 0 ≤ l[k] ∧ l[k] ≤ 255 ∧ ∀ W, RowKit.Below w.heap.size w W → W.cell? ⟨g, o + k, none⟩ = some (.int .u8 l[k]) := by
  obtain ⟨g, o, rfl, hg, ha⟩ := h.2 (by omega)
  have hak := ha k hk 0 _ rfl
  have hz := h.1 l[k] (List.getElem_mem hk)
  simp only [zbyG, Lit.wf, IntKind.has, Bool.and_eq_true, decide_eq_true_eq] at hz
  rw [Nat.mul_one, Nat.add_zero] at hak
  exact ⟨g, o, rfl, hz.1, hz.2, fun W hb => (World.cell?_of_block (w := w) (w' := W) (a := ⟨g, o + k, none⟩) (hb.block g hg)).trans hak⟩
theorem below_drewN {B : Nat} {w W : World} (h : RowKit.Below B w W) : ∀ n, RowKit.Below B w (W.drewN n)
  | 0 => h
  | n + 1 => ⟨h.os, h.tape, h.output, h.size, h.block⟩
theorem drewB (w : World) : RowKit.Below w.heap.size w w.drew := (Below.refl _ _).drew
/-- both alike, from the first loop -/
def PiecesG (w : World) (p q k : Nat) (s : QS) (W : World) : Prop := RowKit.Below w.heap.size w W ∧ TwoQ w.heap.size W p q s s ∧ s.most = 65536 ∧ s.sent = 0 ∧ s.ws.length ≤ 202 * k
/-- what went of the right one -/
def PiecesH (w : World) (p q : Nat) (oa ob : Option Nat) (s : QS) (n : Nat) (W : World) : Prop := RowKit.Below w.heap.size w W ∧ ∃ t : QS, TwoE w.heap.size W p q oa ob s t ∧ n ≤ s.ws.length ∧ t.ws = s.ws.drop n ∧ t.sent = n
set_option maxRecDepth 100000 in
set_option maxHeartbeats 16000000 in
theorem sendqPieces_main (A : Option Addr) (l : List ztxT) (cc : Nat) (B : Option Addr) (ps : List zbyT) (cb : Nat) (w : World) (hl : l.length ≤ 30) (hp : ps.length ≤ 30) (hA : TextsQ w A l) (hB : BytesQ w B ps) :
    Calls Try.prog 6 #[.slice A l.length cc, .slice B ps.length cb] w fun e w' => e = .returned (.bool true) ∧ RowKit.Below w.heap.size w w' := by
  have HA := Lib.hid (And.intro hA hB)
  clear hA hB
  have mixed : (Try.prog).follows Departure.mixedOrders = true := by kernel_rfl
  go_enter Try.func6, Try.ntmps6
  go_wp2_with fail
  refine (awake8 w).mono ?_
  rintro e w1 ⟨rfl, b1⟩
  have z1 := b1.size
  have B1 := Lib.hid b1
  clear b1
  go_wp2_with fail
  refine (qi_new 65536 (by decide) (by decide) w1).mono ?_
  rintro e w2 ⟨⟨p, rfl, p2⟩, b2⟩
  have H2 := Lib.hid (And.intro (qi_base p2 z1) (B1.out.trans (b2.mono z1)))
  have z2 := b2.size
  clear p2 b2
  go_wp2_with fail
  refine (qi_new 65536 (by decide) (by decide) w2).mono ?_
  rintro e w3 ⟨⟨q, rfl, q3⟩, b3⟩
  have H0 : Hid (PiecesG w p q 0 ⟨65536, [], 0, false, false⟩ w3) := ⟨H2.out.2.trans (b3.mono (by omega)), two_new H2.out.1 q3 b3 (by omega), rfl, rfl, Nat.le_refl _⟩
  clear q3 b3
  go_wp2_with fail
  go_loopw [9] (fun i wr => ∃ (k : Nat) (s : QS), i = .int .i64 k ∧ k ≤ l.length ∧ Hid (PiecesG w p q k s wr)) (fun i _ => l.length - (RowKit.intOf i).toNat)
  case atStart => exact ⟨0, _, rfl, Nat.zero_le _, H0⟩
  case round =>
    obtain ⟨k, s, rfl, hk, HQ⟩ := hrel
    clear H0
    by_cases hlt : k < l.length
    · obtain ⟨g, o, rfl, hat⟩ := textsQ_at HA.out.1 hlt
      have a1 := hat wr HQ.out.1
      obtain ⟨S, hS⟩ : ∃ S, l[k] = S := ⟨_, rfl⟩
      rw [hS] at a1
      have p0 : (k : Int) < (l.length : Int) := by omega
      by_cases h2 : S.size ≤ 200
      · obtain ⟨hb, ht, hm, hse, hw⟩ := HQ.out
        have hd : decide ((200 : Int) < (S.size : Int)) = false := by simp; omega
        have p2 : ¬ ((200 : Int) < (S.size : Int)) := by omega
        have hzb := hb.size
        obtain ⟨b, hpb⟩ : ∃ b, pushB s S.data.toList = b := ⟨_, rfl⟩
        obtain ⟨s2, hs2⟩ : ∃ s2, pushS s S.data.toList = s2 := ⟨_, rfl⟩
        have hwl : s.ws.length ≤ 6060 := by omega
        have hpush1 : ∀ W, RowKit.Below wr.heap.size wr W → Calls Try.prog 11 #[.pointer (some ⟨p, 0, none⟩), .string S] W fun e w' => e = .returned (.bool b) ∧ TwoQ w.heap.size w' p q s2 s ∧ RowKit.Below w.heap.size w w' ∧ w'.cell? ⟨g, o + k, none⟩ = some (.string S) := fun W hW =>
          (two_push (two_below ht hW) (by have := hW.size; omega) (by omega) (by omega) (by omega) S (by omega) hpb hs2).mono fun e w' ⟨g1, g2, g3⟩ => ⟨g1, g2, (hb.trans (hW.mono hzb)).trans g3, by rw [hat w' ((hb.trans (hW.mono hzb)).trans g3), hS]⟩
        have hpush2 : ∀ W0 W, TwoQ w.heap.size W0 p q s2 s → RowKit.Below w.heap.size w W0 → RowKit.Below W0.heap.size W0 W → Calls Try.prog 11 #[.pointer (some ⟨q, 0, none⟩), .string S] W fun e w' => e = .returned (.bool b) ∧ TwoQ w.heap.size w' p q s2 s2 ∧ RowKit.Below w.heap.size w w' ∧ w'.cell? ⟨g, o + k, none⟩ = some (.string S) := fun W0 W h0 h1 hW =>
          (two_push (two_swap (two_below h0 hW)) (by have := hW.size; have := h1.size; omega) (by omega) (by omega) (by omega) S (by omega) hpb hs2).mono fun e w' ⟨g1, g2, g3⟩ => ⟨g1, two_swap g2, (h1.trans (hW.mono h1.size)).trans g3, by rw [hat w' ((h1.trans (hW.mono h1.size)).trans g3), hS]⟩
        have e1 : s2.ws.length ≤ 202 * (k + 1) := by
          rw [← hs2, push_ws]
          split
          · rw [List.length_append, List.length_append]
            have : S.data.toList.length = S.size := rfl
            simp; omega
          · omega
        have e2 : s2.most = 65536 := by rw [← hs2, push_most, hm]
        have e3 : s2.sent = 0 := by rw [← hs2, push_sent, hse]
        have HE := Lib.hid (And.intro e1 (And.intro e2 e3))
        have HP1 := Lib.hid hpush1
        have HP2 := Lib.hid hpush2
        clear hat hS hb ht hm hse hw hpb hs2 hpush1 hpush2 e1 e2 e3
        go_wp2_with fail
        refine wp_region_held_drew (S := fun V => V.cell? ⟨g, o + k, none⟩ = some (.string S)) (by kernel_rfl) (by exact a1) (fun hHeld => ?_)
        clear a1
        refine wpAnyH_read (i := 0) (oi := { dst := some 44, op := Go.Op.move (Go.Operand.tmp 0), type := 31, pos := "law.go:160", after := #[], guard := none }) ?_ rfl (by kernel_rfl) (by kernel_rfl) (by kernel_rfl) (fun _ _ _ h => h) (by rfl) (by assumption) ?_ ?_
        rotate_left
        · (intro w0 hS0; go_simp <;> (try with_reducible rfl))
        try simp only [Act.put, List.setIfInBounds_toArray, List.set_cons_zero, List.set_cons_succ]
        refine wpAnyH_read (i := 1) (oi := { dst := some 45, op := Go.Op.move (Go.Operand.tmp 9), type := 3, pos := "law.go:160", after := #[], guard := none }) ?_ rfl (by kernel_rfl) (by kernel_rfl) (by kernel_rfl) (fun _ _ _ h => h) (by rfl) (by assumption) ?_ ?_
        rotate_left
        · (intro w0 hS0; go_simp <;> (try with_reducible rfl))
        try simp only [Act.put, List.setIfInBounds_toArray, List.set_cons_zero, List.set_cons_succ]
        refine wpAnyH_read (i := 2) (oi := { dst := some 46, op := Go.Op.indexAddr 31 (Go.Operand.tmp 44) (Go.Operand.tmp 45), type := 0, pos := "law.go:160", after := #[{ on := 0, ground := Go.Ground.data }, { on := 1, ground := Go.Ground.data }], guard := none }) ?_ rfl (by kernel_rfl) (by kernel_rfl) (by kernel_rfl) (fun _ _ _ h => h) (by rfl) (by assumption) ?_ ?_
        rotate_left
        · (intro w0 hS0; go_simp <;> (try with_reducible rfl))
        try simp only [Act.put, List.setIfInBounds_toArray, List.set_cons_zero, List.set_cons_succ]
        refine wpAnyH_read (i := 3) (oi := { dst := some 47, op := Go.Op.load 9 (Go.Operand.tmp 46), type := 9, pos := "law.go:160", after := #[{ on := 2, ground := Go.Ground.data }], guard := none }) ?_ rfl (by kernel_rfl) (by kernel_rfl) (by kernel_rfl) (fun _ _ _ h => h) (by rfl) (by assumption) ?_ ?_
        rotate_left
        · (intro w0 hS0; (try dsimp only at hS0); go_simp <;> (try with_reducible rfl))
        try simp only [Act.put, List.setIfInBounds_toArray, List.set_cons_zero, List.set_cons_succ]
        refine wpAnyH_read (i := 4) (oi := { dst := some 48, op := Go.Op.call { callee := Go.Callee.builtin Go.Builtin.len, args := #[Go.Operand.tmp 47], argTypes := #[9] }, type := 3, pos := "law.go:160", after := #[{ on := 3, ground := Go.Ground.data }], guard := none }) ?_ rfl (by kernel_rfl) (by kernel_rfl) (by kernel_rfl) (fun _ _ _ h => h) (by rfl) (by assumption) ?_ ?_
        rotate_left
        · (intro w0 hS0; go_simp <;> (try with_reducible rfl))
        try simp only [Act.put, List.setIfInBounds_toArray, List.set_cons_zero, List.set_cons_succ]
        refine wpAnyH_read (i := 5) (oi := { dst := some 49, op := Go.Op.binOp Go.BinOp.gtr 3 (Go.Operand.tmp 48) (Go.Operand.const (Go.Value.int Go.IntKind.i64 200)) 3, type := 4, pos := "law.go:160", after := #[{ on := 4, ground := Go.Ground.data }], guard := none }) ?_ rfl (by kernel_rfl) (by kernel_rfl) (by kernel_rfl) (fun _ _ _ h => h) (by rfl) (by assumption) ?_ ?_
        rotate_left
        · (intro w0 hS0; go_simp <;> (try with_reducible rfl))
        try simp only [Act.put, List.setIfInBounds_toArray, List.set_cons_zero, List.set_cons_succ]
        refine wpAnyH_read (i := 6) (oi := { dst := some 50, op := Go.Op.move (Go.Operand.tmp 49), type := 4, pos := "law.go:160", after := #[{ on := 5, ground := Go.Ground.data }], guard := none }) ?_ rfl (by kernel_rfl) (by kernel_rfl) (by kernel_rfl) (fun _ _ _ h => h) (by rfl) (by assumption) ?_ ?_
        rotate_left
        · (intro w0 hS0; go_simp <;> (try with_reducible rfl))
        try simp only [Act.put, List.setIfInBounds_toArray, List.set_cons_zero, List.set_cons_succ]
        refine wpAnyH_read (i := 7) (oi := { dst := some 51, op := Go.Op.move (Go.Operand.tmp 5), type := 26, pos := "law.go:160", after := #[{ on := 6, ground := Go.Ground.guard }], guard := some (6, false) }) ?_ rfl (by kernel_rfl) (by kernel_rfl) (by kernel_rfl) (fun _ _ _ h => h) (by rfl) (by assumption) ?_ ?_
        rotate_left
        · (intro w0 hS0; go_simp <;> (try with_reducible rfl))
        try simp only [Act.put, List.setIfInBounds_toArray, List.set_cons_zero, List.set_cons_succ]
        refine wpAnyH_read (i := 8) (oi := { dst := some 52, op := Go.Op.move (Go.Operand.tmp 0), type := 31, pos := "law.go:160", after := #[{ on := 6, ground := Go.Ground.guard }], guard := some (6, false) }) ?_ rfl (by kernel_rfl) (by kernel_rfl) (by kernel_rfl) (fun _ _ _ h => h) (by rfl) (by assumption) ?_ ?_
        rotate_left
        · (intro w0 hS0; go_simp <;> (try with_reducible rfl))
        try simp only [Act.put, List.setIfInBounds_toArray, List.set_cons_zero, List.set_cons_succ]
        refine wpAnyH_read (i := 9) (oi := { dst := some 53, op := Go.Op.move (Go.Operand.tmp 9), type := 3, pos := "law.go:160", after := #[{ on := 6, ground := Go.Ground.guard }], guard := some (6, false) }) ?_ rfl (by kernel_rfl) (by kernel_rfl) (by kernel_rfl) (fun _ _ _ h => h) (by rfl) (by assumption) ?_ ?_
        rotate_left
        · (intro w0 hS0; go_simp <;> (try with_reducible rfl))
        try simp only [Act.put, List.setIfInBounds_toArray, List.set_cons_zero, List.set_cons_succ]
        refine wpAnyH_read (i := 10) (oi := { dst := some 54, op := Go.Op.indexAddr 31 (Go.Operand.tmp 52) (Go.Operand.tmp 53), type := 0, pos := "law.go:160", after := #[{ on := 8, ground := Go.Ground.data }, { on := 9, ground := Go.Ground.data }, { on := 6, ground := Go.Ground.guard }], guard := some (6, false) }) ?_ rfl (by kernel_rfl) (by kernel_rfl) (by kernel_rfl) (fun _ _ _ h => h) (by rfl) (by assumption) ?_ ?_
        rotate_left
        · (intro w0 hS0; go_simp <;> (try with_reducible rfl))
        try simp only [Act.put, List.setIfInBounds_toArray, List.set_cons_zero, List.set_cons_succ]
        refine wpAnyH_read (i := 13) (oi := { dst := some 57, op := Go.Op.move (Go.Operand.tmp 7), type := 26, pos := "law.go:160", after := #[{ on := 6, ground := Go.Ground.guard }], guard := some (6, false) }) ?_ rfl (by kernel_rfl) (by kernel_rfl) (by kernel_rfl) (fun _ _ _ h => h) (by rfl) (by assumption) ?_ ?_
        rotate_left
        · (intro w0 hS0; go_simp <;> (try with_reducible rfl))
        try simp only [Act.put, List.setIfInBounds_toArray, List.set_cons_zero, List.set_cons_succ]
        refine wpAnyH_read (i := 14) (oi := { dst := some 58, op := Go.Op.move (Go.Operand.tmp 0), type := 31, pos := "law.go:160", after := #[{ on := 6, ground := Go.Ground.guard }], guard := some (6, false) }) ?_ rfl (by kernel_rfl) (by kernel_rfl) (by kernel_rfl) (fun _ _ _ h => h) (by rfl) (by assumption) ?_ ?_
        rotate_left
        · (intro w0 hS0; go_simp <;> (try with_reducible rfl))
        try simp only [Act.put, List.setIfInBounds_toArray, List.set_cons_zero, List.set_cons_succ]
        refine wpAnyH_read (i := 15) (oi := { dst := some 59, op := Go.Op.move (Go.Operand.tmp 9), type := 3, pos := "law.go:160", after := #[{ on := 6, ground := Go.Ground.guard }], guard := some (6, false) }) ?_ rfl (by kernel_rfl) (by kernel_rfl) (by kernel_rfl) (fun _ _ _ h => h) (by rfl) (by assumption) ?_ ?_
        rotate_left
        · (intro w0 hS0; go_simp <;> (try with_reducible rfl))
        try simp only [Act.put, List.setIfInBounds_toArray, List.set_cons_zero, List.set_cons_succ]
        refine wpAnyH_read (i := 16) (oi := { dst := some 60, op := Go.Op.indexAddr 31 (Go.Operand.tmp 58) (Go.Operand.tmp 59), type := 0, pos := "law.go:160", after := #[{ on := 14, ground := Go.Ground.data }, { on := 15, ground := Go.Ground.data }, { on := 6, ground := Go.Ground.guard }], guard := some (6, false) }) ?_ rfl (by kernel_rfl) (by kernel_rfl) (by kernel_rfl) (fun _ _ _ h => h) (by rfl) (by assumption) ?_ ?_
        rotate_left
        · (intro w0 hS0; go_simp <;> (try with_reducible rfl))
        try simp only [Act.put, List.setIfInBounds_toArray, List.set_cons_zero, List.set_cons_succ]
        refine wpAnyH_read (i := 11) (oi := { dst := some 55, op := Go.Op.load 9 (Go.Operand.tmp 54), type := 9, pos := "law.go:160", after := #[{ on := 10, ground := Go.Ground.data }, { on := 6, ground := Go.Ground.guard }], guard := some (6, false) }) ?_ rfl (by kernel_rfl) (by kernel_rfl) (by kernel_rfl) (fun _ _ _ h => h) (by rfl) (by assumption) ?_ ?_
        rotate_left
        · (intro w0 hS0; (try dsimp only at hS0); go_simp <;> (try with_reducible rfl))
        try simp only [Act.put, List.setIfInBounds_toArray, List.set_cons_zero, List.set_cons_succ]
        refine wpAnyH_read (i := 17) (oi := { dst := some 61, op := Go.Op.load 9 (Go.Operand.tmp 60), type := 9, pos := "law.go:160", after := #[{ on := 16, ground := Go.Ground.data }, { on := 6, ground := Go.Ground.guard }], guard := some (6, false) }) ?_ rfl (by kernel_rfl) (by kernel_rfl) (by kernel_rfl) (fun _ _ _ h => h) (by rfl) (by assumption) ?_ ?_
        rotate_left
        · (intro w0 hS0; (try dsimp only at hS0); go_simp <;> (try with_reducible rfl))
        try simp only [Act.put, List.setIfInBounds_toArray, List.set_cons_zero, List.set_cons_succ]
        refine wpAnyH_one (i := 12) (o := { dst := some 56, op := Go.Op.call { callee := Go.Callee.value (Go.Operand.func 11), args := #[Go.Operand.tmp 51, Go.Operand.tmp 55], argTypes := #[26, 9] }, type := 4, pos := "law.go:160", after := #[{ on := 7, ground := Go.Ground.data }, { on := 11, ground := Go.Ground.data }, { on := 6, ground := Go.Ground.chain }, { on := 6, ground := Go.Ground.guard }], guard := some (6, false) }) (by kernel_rfl) rfl (by rfl) (fun K hK => ?_)
        go_simp
        refine (HP1.out _ (by first | exact Below.refl _ _ | exact drewB _)).mono ?_
        rintro e w4 ⟨rfl, t4, b4, c4⟩
        have T4 := Lib.hid t4
        have B4 := Lib.hid b4
        clear t4 b4
        go_wp2_with fail
        refine hK.out _ _ ?_ (fun hHeld => ?_)
        · exact c4
        clear hK K
        try simp only [Act.put, List.setIfInBounds_toArray, List.set_cons_zero, List.set_cons_succ]
        clear c4
        refine wpAnyH_one (i := 18) (o := { dst := some 62, op := Go.Op.call { callee := Go.Callee.value (Go.Operand.func 11), args := #[Go.Operand.tmp 57, Go.Operand.tmp 61], argTypes := #[26, 9] }, type := 4, pos := "law.go:160", after := #[{ on := 13, ground := Go.Ground.data }, { on := 17, ground := Go.Ground.data }, { on := 12, ground := Go.Ground.chain }, { on := 6, ground := Go.Ground.guard }], guard := some (6, false) }) (by kernel_rfl) rfl (by rfl) (fun K hK => ?_)
        go_simp
        refine (HP2.out _ _ T4.out B4.out (by first | exact Below.refl _ _ | exact drewB _)).mono ?_
        rintro e w5 ⟨rfl, t5, b5, c5⟩
        have T5 := Lib.hid t5
        have B5 := Lib.hid b5
        clear t5 b5
        go_wp2_with fail
        refine hK.out _ _ ?_ (fun hHeld => ?_)
        · exact c5
        clear hK K
        try simp only [Act.put, List.setIfInBounds_toArray, List.set_cons_zero, List.set_cons_succ]
        clear c5
        refine wpAnyH_read (i := 19) (oi := { dst := some 63, op := Go.Op.binOp Go.BinOp.neq 4 (Go.Operand.tmp 56) (Go.Operand.tmp 62) 4, type := 4, pos := "law.go:160", after := #[{ on := 12, ground := Go.Ground.data }, { on := 18, ground := Go.Ground.data }, { on := 6, ground := Go.Ground.guard }], guard := some (6, false) }) ?_ rfl (by kernel_rfl) (by kernel_rfl) (by kernel_rfl) (fun _ _ _ h => h) (by rfl) (by assumption) ?_ ?_
        rotate_left
        · (intro w0 hS0; go_simp <;> (try with_reducible rfl))
        try simp only [Act.put, List.setIfInBounds_toArray, List.set_cons_zero, List.set_cons_succ]
        refine wpAnyH_read (i := 20) (oi := { dst := some 64, op := Go.Op.pick (Go.Operand.tmp 50) (Go.Operand.const (Go.Value.bool true)) (Go.Operand.tmp 63), type := 4, pos := "law.go:160", after := #[{ on := 6, ground := Go.Ground.data }, { on := 19, ground := Go.Ground.data }], guard := none }) ?_ rfl (by kernel_rfl) (by kernel_rfl) (by kernel_rfl) (fun _ _ _ h => h) (by rfl) (by assumption) ?_ ?_
        rotate_left
        · (intro w0 hS0; go_simp <;> (try with_reducible rfl))
        try simp only [Act.put, List.setIfInBounds_toArray, List.set_cons_zero, List.set_cons_succ]
        refine wpAnyH_done (by kernel_rfl) ?_ _
        all_goals
          clear HP1 HP2
          go_wp2_with fail
          go_roundw
          case rel => exact ⟨k + 1, s2, by go_num, by omega, by first | exact B5.out | exact B5.out.drew, by first | exact T5.out | exact two_below T5.out (drewB _), HE.out.2.1, HE.out.2.2, HE.out.1⟩
          case measure => simp [RowKit.intOf]; omega
      · have hd : decide ((200 : Int) < (S.size : Int)) = true := by simp; omega
        have p2 : (200 : Int) < (S.size : Int) := by omega
        clear hat hS
        go_wp2_with fail
        go_quiet (fail)
        go_wp2_with fail
        go_ret
        exact ⟨rfl, below_drewN HQ.out.1 _⟩
    · obtain rfl : k = l.length := by omega
      have p1 : ¬ ((l.length : Int) < (l.length : Int)) := by omega
      obtain ⟨hb, ht, hm, hse, hw⟩ := HQ.out
      obtain ⟨oa, ob, hE⟩ := twoE_of ht
      have hwl : s.ws.length ≤ 6060 := by omega
      have H1 : Hid ((⟨#[]⟩ : ByteArray).data.toList = s.ws.take 0 ∧ PiecesH w p q oa ob s 0 wr) := ⟨rfl, hb, s, hE, Nat.zero_le _, rfl, hse⟩
      have HSE := Lib.hid hse
      clear hb ht hm hse hw hE HQ
      go_wp2_with fail
      go_loopw [10, 11, 12] (fun nv gv i wr => ∃ (j n : Nat) (gt : ByteArray), i = .int .i64 j ∧ nv = .int .i64 n ∧ gv = .string gt ∧ j ≤ ps.length ∧ gt.size ≤ 6060 ∧ n ≤ 6060 ∧ Hid (gt.data.toList = s.ws.take n ∧ PiecesH w p q oa ob s n wr)) (fun _ _ i _ => ps.length - (RowKit.intOf i).toNat)
      case atStart => exact ⟨0, 0, ⟨#[]⟩, rfl, rfl, rfl, Nat.zero_le _, by decide, by decide, H1⟩
      case round =>
        obtain ⟨j, n, gt, rfl, rfl, rfl, hj, hgs, hn, HR⟩ := hrel
        clear H1
        obtain ⟨hgt, hb, t, hE, hnl, htw, hts⟩ := HR.out
        by_cases hjl : j < ps.length
        · obtain ⟨g, o, rfl, hx0, hx1, hat⟩ := bytesQ_at HA.out.2 hjl
          have a1 := hat wr hb
          obtain ⟨x, hx⟩ : ∃ x : Int, ps[j] = x := ⟨_, rfl⟩
          rw [hx] at a1 hx0 hx1
          have hx2 : (0 : Int) ≤ x := hx0
          have hx3 : x ≤ (255 : Int) := hx1
          obtain ⟨m, hmm⟩ : ∃ m, goesQ t x = m := ⟨_, rfl⟩
          obtain ⟨t2, ht2⟩ : ∃ t2, drainS t x = t2 := ⟨_, rfl⟩
          obtain ⟨ds, hds⟩ : ∃ ds, t.ws.take (goesQ t x) = ds := ⟨_, rfl⟩
          have hge := goes_le t x
          rw [hmm] at hge
          have htl : t.ws.length = s.ws.length - n := by rw [htw, List.length_drop]
          have hdl : ds.length = m := by rw [← hds, hmm, List.length_take, Nat.min_eq_left hge]
          have hD : Calls Try.prog 9 #[.pointer (some ⟨q, 0, none⟩), .int .i64 x] wr fun e w' => ∃ A c, e = .returned (.slice A ds.length c) ∧ (convert 34 9 (.slice A ds.length c)).run Try.prog w' = .ok (.string (bs ds)) w' ∧ Hid (TwoE w.heap.size w' p q oa ob s t2 ∧ RowKit.Below w.heap.size w w') :=
            (twoE_drain (twoE_swap hE) hb.size (by omega) (by rw [hts]; omega) (by rw [hts]; omega) x hds ht2).mono fun e w' ⟨⟨v', g0, g1⟩, g2, g3, g4⟩ => by
              obtain ⟨A, c, ev⟩ := row_slice g1
              subst ev
              exact ⟨A, c, g0, conv_ownB g1, twoE_swap g2, hb.trans g4⟩
          have HD := Lib.hid hD
          have e1 : s.ws.take (n + m) = s.ws.take n ++ ds := by rw [List.take_add, ← hds, hmm, htw]
          have e2 : t2.ws = s.ws.drop (n + m) := by rw [← ht2, drain_ws, hmm, htw, List.drop_drop]
          have e3 : t2.sent = (n + m : Nat) := by rw [← ht2, drain_sent, hts, hmm]; omega
          have hnm : n + m ≤ s.ws.length := by omega
          have p0 : (j : Int) < (ps.length : Int) := by omega
          have hbd : (bs ds).size ≤ 6060 := by rw [bs_size]; omega
          have HE := Lib.hid (And.intro hgt (And.intro hb (And.intro e1 (And.intro e2 (And.intro e3 (And.intro hnm (And.intro hdl hnl)))))))
          have hdb : ds.length ≤ 6060 := by omega
          have hwx : wrap64 x = x := IntWalk.wrap64_in x ⟨by omega, by omega⟩
          clear hD hgt hb hE htw hts hat hx hmm ht2 hds hge htl hdl e1 e2 e3
          go_wp2_with fail
          refine HD.out.mono ?_
          rintro e w4 ⟨A4, c4, rfl, hcv, H4⟩
          clear a1
          go_wp2_with fail
          go_roundw
          case rel =>
            obtain ⟨hgt, hb, e1, e2, e3, hnm, hdl, hnl⟩ := HE.out
            refine ⟨j + 1, n + m, gt ++ bs ds, by go_num, by rw [hdl]; go_num, rfl, by omega, ?_, by omega, ?_, H4.out.2, t2, H4.out.1, hnm, e2, e3⟩
            · have h1 : gt.size = n := by
                have h2 := congrArg List.length hgt
                rw [List.length_take, Nat.min_eq_left (by omega)] at h2
                exact h2
              rw [ByteArray.size_append, bs_size]; omega
            · rw [ba_app, hgt, e1]; rfl
          case measure => simp [RowKit.intOf]; omega
        · obtain rfl : j = ps.length := by omega
          have p1 : ¬ ((ps.length : Int) < (ps.length : Int)) := by omega
          obtain ⟨T, hT⟩ : ∃ T, s.ws.take n = T := ⟨_, rfl⟩
          obtain ⟨R, hR⟩ : ∃ R, s.ws.drop n = R := ⟨_, rfl⟩
          rw [hT] at hgt
          obtain rfl : gt = bs T := ba_ext hgt
          have hTl : T.length ≤ 6060 := by rw [← hT, List.length_take]; omega
          have hRl : R.length ≤ 6060 := by rw [← hR, List.length_drop]; omega
          have hg1 : goesQ s (n : Int) = n := by unfold goesQ; omega
          obtain ⟨s1, hs1⟩ : ∃ s1, drainS s (n : Int) = s1 := ⟨_, rfl⟩
          have w1' : s1.ws = R := by rw [← hs1, drain_ws, hg1, hR]
          have c1' : s1.sent = n := by rw [← hs1, drain_sent, HSE.out, hg1]; omega
          have htw2 : t.ws = R := htw.trans hR
          have hsz := hb.size
          have hD1 : Calls Try.prog 9 #[.pointer (some ⟨p, 0, none⟩), .int .i64 n] wr.drew fun e w' => ∃ A c, e = .returned (.slice A T.length c) ∧ (convert 34 9 (.slice A T.length c)).run Try.prog w' = .ok (.string (bs T)) w' ∧ TwoE w.heap.size w' p q oa ob s1 t ∧ RowKit.Below w.heap.size w w' :=
            (twoE_drain (twoE_below hE (drewB _)) hsz (by omega) (by rw [HSE.out]; decide) (by rw [HSE.out]; decide) (n : Int) (ds := T) (by rw [hg1]; exact hT) hs1).mono fun e w' ⟨⟨v', g0, g1⟩, g2, g3, g4⟩ => by
              obtain ⟨A, c, ev⟩ := row_slice g1
              subst ev
              exact ⟨A, c, g0, conv_ownB g1, g2, hb.drew.trans g4⟩
          have hLp : ∀ W, TwoE w.heap.size W p q oa ob s1 t → Calls Try.prog 14 #[.pointer (some ⟨p, 0, none⟩)] W fun e w' => e = .returned (.int .i64 R.length) ∧ w' = W := fun W hW => w1' ▸ qi_len (twoE_left hW)
          have hLq : ∀ W, TwoE w.heap.size W p q oa ob s1 t → Calls Try.prog 14 #[.pointer (some ⟨q, 0, none⟩)] W fun e w' => e = .returned (.int .i64 R.length) ∧ w' = W := fun W hW => htw2 ▸ qi_len (twoE_right hW)
          have hSp : ∀ W, TwoE w.heap.size W p q oa ob s1 t → Calls Try.prog 16 #[.pointer (some ⟨p, 0, none⟩)] W fun e w' => e = .returned (.int .i64 n) ∧ w' = W := fun W hW => c1' ▸ qi_sent (twoE_left hW)
          have hSq : ∀ W, TwoE w.heap.size W p q oa ob s1 t → Calls Try.prog 16 #[.pointer (some ⟨q, 0, none⟩)] W fun e w' => e = .returned (.int .i64 n) ∧ w' = W := fun W hW => hts ▸ qi_sent (twoE_right hW)
          have hD3 : ∀ W, TwoE w.heap.size W p q oa ob s1 t → RowKit.Below w.heap.size w W → Calls Try.prog 9 #[.pointer (some ⟨p, 0, none⟩), .int .i64 1048576] W fun e w' => ∃ A c s2, e = .returned (.slice A R.length c) ∧ OwnB W.heap.size w' (.slice A R.length c) R ∧ TwoE w.heap.size w' p q oa ob s2 t ∧ RowKit.Below w.heap.size w w' ∧ TwoLt p q oa ob W.heap.size := fun W hW hbW =>
            (twoE_drain hW hbW.size (by rw [w1']; omega) (by rw [c1']; omega) (by rw [c1']; omega) 1048576 (ds := R) (by rw [take_all s1 1048576 (by rw [w1']; omega), w1']) rfl).mono fun e w' ⟨⟨v', g0, g1⟩, g2, g3, g4⟩ => by
              obtain ⟨A, c, ev⟩ := row_slice g1
              subst ev
              exact ⟨A, c, _, g0, g1, g2, hbW.trans g4, twoE_lt hW⟩
          have hD4 : ∀ W s2, TwoE w.heap.size W p q oa ob s2 t → RowKit.Below w.heap.size w W → Calls Try.prog 9 #[.pointer (some ⟨q, 0, none⟩), .int .i64 1048576] W fun e w' => ∃ A c, e = .returned (.slice A R.length c) ∧ OwnB W.heap.size w' (.slice A R.length c) R ∧ Fr (fun k => k = q ∨ ob = some k) W w' ∧ RowKit.Below w.heap.size w w' := fun W s2 hW hbW =>
            (twoE_drain (twoE_swap hW) hbW.size (by rw [htw2]; omega) (by rw [hts]; omega) (by rw [hts]; omega) 1048576 (ds := R) (by rw [take_all t 1048576 (by rw [htw2]; omega), htw2]) rfl).mono fun e w' ⟨⟨v', g0, g1⟩, g2, g3, g4⟩ => by
              obtain ⟨A, c, ev⟩ := row_slice g1
              subst ev
              exact ⟨A, c, g0, g1, g3, hbW.trans g4⟩
          have HD1 := Lib.hid hD1
          have HLp := Lib.hid hLp
          have HLq := Lib.hid hLq
          have HSp := Lib.hid hSp
          have HSq := Lib.hid hSq
          have HD3 := Lib.hid hD3
          have HD4 := Lib.hid hD4
          clear hgt hb hE hnl htw hts hT hR hg1 hs1 w1' c1' htw2 hsz hD1 hLp hLq hSp hSq hD3 hD4
          go_wp2_with fail
          refine wp_region_held_drew (S := fun _ => True) (by kernel_rfl) trivial (fun hHeld => ?_)
          refine wpAnyH_read (i := 0) (oi := { dst := some 92, op := Go.Op.move (Go.Operand.tmp 5), type := 26, pos := "law.go:170", after := #[], guard := none }) ?_ rfl (by kernel_rfl) (by kernel_rfl) (by kernel_rfl) (fun _ _ _ h => h) (by rfl) (by assumption) ?_ ?_
          rotate_left
          · (intro w0 hS0; go_simp <;> (try with_reducible rfl))
          try simp only [Act.put, List.setIfInBounds_toArray, List.set_cons_zero, List.set_cons_succ]
          refine wpAnyH_read (i := 1) (oi := { dst := some 93, op := Go.Op.move (Go.Operand.tmp 10), type := 3, pos := "law.go:170", after := #[], guard := none }) ?_ rfl (by kernel_rfl) (by kernel_rfl) (by kernel_rfl) (fun _ _ _ h => h) (by rfl) (by assumption) ?_ ?_
          rotate_left
          · (intro w0 hS0; go_simp <;> (try with_reducible rfl))
          try simp only [Act.put, List.setIfInBounds_toArray, List.set_cons_zero, List.set_cons_succ]
          refine wpAnyH_read (i := 4) (oi := { dst := some 96, op := Go.Op.move (Go.Operand.tmp 11), type := 9, pos := "law.go:170", after := #[], guard := none }) ?_ rfl (by kernel_rfl) (by kernel_rfl) (by kernel_rfl) (fun _ _ _ h => h) (by rfl) (by assumption) ?_ ?_
          rotate_left
          · (intro w0 hS0; go_simp <;> (try with_reducible rfl))
          try simp only [Act.put, List.setIfInBounds_toArray, List.set_cons_zero, List.set_cons_succ]
          refine wpAnyH_one (i := 2) (o := { dst := some 94, op := Go.Op.call { callee := Go.Callee.value (Go.Operand.func 9), args := #[Go.Operand.tmp 92, Go.Operand.tmp 93], argTypes := #[26, 3] }, type := 34, pos := "law.go:170", after := #[{ on := 0, ground := Go.Ground.data }, { on := 1, ground := Go.Ground.data }], guard := none }) (by kernel_rfl) rfl (by rfl) (fun K hK => ?_)
          go_simp
          refine HD1.out.mono ?_
          rintro e w4 ⟨A4, c4, rfl, cv4, t4, b4⟩
          have T4 := Lib.hid t4
          have B4 := Lib.hid b4
          clear t4 b4
          go_wp2_with fail
          refine hK.out _ _ ?_ (fun hHeld => ?_)
          · (first | assumption | trivial)
          clear hK K
          try simp only [Act.put, List.setIfInBounds_toArray, List.set_cons_zero, List.set_cons_succ]
          refine wpAnyH_one (i := 3) (o := { dst := some 95, op := Go.Op.convert 34 9 (Go.Operand.tmp 94), type := 9, pos := "law.go:170", after := #[{ on := 2, ground := Go.Ground.data }], guard := none }) (by kernel_rfl) rfl (by rfl) (fun K hK => ?_)
          go_simp
          refine hK.out _ _ ?_ (fun hHeld => ?_)
          · (first | assumption | trivial)
          clear hK K
          try simp only [Act.put, List.setIfInBounds_toArray, List.set_cons_zero, List.set_cons_succ]
          clear cv4
          refine wpAnyH_read (i := 5) (oi := { dst := some 97, op := Go.Op.binOp Go.BinOp.eql 9 (Go.Operand.tmp 95) (Go.Operand.tmp 96) 9, type := 4, pos := "law.go:170", after := #[{ on := 3, ground := Go.Ground.data }, { on := 4, ground := Go.Ground.data }], guard := none }) ?_ rfl (by kernel_rfl) (by kernel_rfl) (by kernel_rfl) (fun _ _ _ h => h) (by rfl) (by assumption) ?_ ?_
          rotate_left
          · (intro w0 hS0; go_simp <;> (try with_reducible rfl))
          try simp only [Act.put, List.setIfInBounds_toArray, List.set_cons_zero, List.set_cons_succ]
          refine wpAnyH_read (i := 6) (oi := { dst := some 98, op := Go.Op.move (Go.Operand.tmp 97), type := 4, pos := "law.go:170", after := #[{ on := 5, ground := Go.Ground.data }, { on := 2, ground := Go.Ground.chain }], guard := none }) ?_ rfl (by kernel_rfl) (by kernel_rfl) (by kernel_rfl) (fun _ _ _ h => h) (by rfl) (by assumption) ?_ ?_
          rotate_left
          · (intro w0 hS0; go_simp <;> (try with_reducible rfl))
          try simp only [Act.put, List.setIfInBounds_toArray, List.set_cons_zero, List.set_cons_succ]
          refine wpAnyH_read (i := 7) (oi := { dst := some 99, op := Go.Op.move (Go.Operand.tmp 5), type := 26, pos := "law.go:170", after := #[{ on := 6, ground := Go.Ground.guard }], guard := some (6, true) }) ?_ rfl (by kernel_rfl) (by kernel_rfl) (by kernel_rfl) (fun _ _ _ h => h) (by rfl) (by assumption) ?_ ?_
          rotate_left
          · (intro w0 hS0; go_simp <;> (try with_reducible rfl))
          try simp only [Act.put, List.setIfInBounds_toArray, List.set_cons_zero, List.set_cons_succ]
          refine wpAnyH_read (i := 9) (oi := { dst := some 101, op := Go.Op.move (Go.Operand.tmp 7), type := 26, pos := "law.go:170", after := #[{ on := 6, ground := Go.Ground.guard }], guard := some (6, true) }) ?_ rfl (by kernel_rfl) (by kernel_rfl) (by kernel_rfl) (fun _ _ _ h => h) (by rfl) (by assumption) ?_ ?_
          rotate_left
          · (intro w0 hS0; go_simp <;> (try with_reducible rfl))
          try simp only [Act.put, List.setIfInBounds_toArray, List.set_cons_zero, List.set_cons_succ]
          refine wpAnyH_one (i := 8) (o := { dst := some 100, op := Go.Op.call { callee := Go.Callee.value (Go.Operand.func 14), args := #[Go.Operand.tmp 99], argTypes := #[26] }, type := 3, pos := "law.go:170", after := #[{ on := 7, ground := Go.Ground.data }, { on := 6, ground := Go.Ground.chain }, { on := 6, ground := Go.Ground.guard }], guard := some (6, true) }) (by kernel_rfl) rfl (by rfl) (fun K hK => ?_)
          go_simp
          refine (HLp.out _ T4.out).mono ?_
          rintro e w9 ⟨rfl, rfl⟩
          go_wp2_with fail
          refine hK.out _ _ ?_ (fun hHeld => ?_)
          · (first | assumption | trivial)
          clear hK K
          try simp only [Act.put, List.setIfInBounds_toArray, List.set_cons_zero, List.set_cons_succ]
          refine wpAnyH_one (i := 10) (o := { dst := some 102, op := Go.Op.call { callee := Go.Callee.value (Go.Operand.func 14), args := #[Go.Operand.tmp 101], argTypes := #[26] }, type := 3, pos := "law.go:170", after := #[{ on := 9, ground := Go.Ground.data }, { on := 8, ground := Go.Ground.chain }, { on := 6, ground := Go.Ground.guard }], guard := some (6, true) }) (by kernel_rfl) rfl (by rfl) (fun K hK => ?_)
          go_simp
          refine (HLq.out _ T4.out).mono ?_
          rintro e w9 ⟨rfl, rfl⟩
          go_wp2_with fail
          refine hK.out _ _ ?_ (fun hHeld => ?_)
          · (first | assumption | trivial)
          clear hK K
          try simp only [Act.put, List.setIfInBounds_toArray, List.set_cons_zero, List.set_cons_succ]
          refine wpAnyH_read (i := 11) (oi := { dst := some 103, op := Go.Op.binOp Go.BinOp.eql 3 (Go.Operand.tmp 100) (Go.Operand.tmp 102) 3, type := 4, pos := "law.go:170", after := #[{ on := 8, ground := Go.Ground.data }, { on := 10, ground := Go.Ground.data }, { on := 6, ground := Go.Ground.guard }], guard := some (6, true) }) ?_ rfl (by kernel_rfl) (by kernel_rfl) (by kernel_rfl) (fun _ _ _ h => h) (by rfl) (by assumption) ?_ ?_
          rotate_left
          · (intro w0 hS0; go_simp <;> (try with_reducible rfl))
          try simp only [Act.put, List.setIfInBounds_toArray, List.set_cons_zero, List.set_cons_succ]
          refine wpAnyH_read (i := 12) (oi := { dst := some 104, op := Go.Op.pick (Go.Operand.tmp 98) (Go.Operand.tmp 103) (Go.Operand.const (Go.Value.bool false)), type := 4, pos := "law.go:170", after := #[{ on := 6, ground := Go.Ground.data }, { on := 11, ground := Go.Ground.data }], guard := none }) ?_ rfl (by kernel_rfl) (by kernel_rfl) (by kernel_rfl) (fun _ _ _ h => h) (by rfl) (by assumption) ?_ ?_
          rotate_left
          · (intro w0 hS0; go_simp <;> (try with_reducible rfl))
          try simp only [Act.put, List.setIfInBounds_toArray, List.set_cons_zero, List.set_cons_succ]
          refine wpAnyH_read (i := 13) (oi := { dst := some 105, op := Go.Op.move (Go.Operand.tmp 104), type := 4, pos := "law.go:170", after := #[{ on := 12, ground := Go.Ground.data }, { on := 10, ground := Go.Ground.chain }], guard := none }) ?_ rfl (by kernel_rfl) (by kernel_rfl) (by kernel_rfl) (fun _ _ _ h => h) (by rfl) (by assumption) ?_ ?_
          rotate_left
          · (intro w0 hS0; go_simp <;> (try with_reducible rfl))
          try simp only [Act.put, List.setIfInBounds_toArray, List.set_cons_zero, List.set_cons_succ]
          refine wpAnyH_read (i := 14) (oi := { dst := some 106, op := Go.Op.move (Go.Operand.tmp 5), type := 26, pos := "law.go:170", after := #[{ on := 13, ground := Go.Ground.guard }], guard := some (13, true) }) ?_ rfl (by kernel_rfl) (by kernel_rfl) (by kernel_rfl) (fun _ _ _ h => h) (by rfl) (by assumption) ?_ ?_
          rotate_left
          · (intro w0 hS0; go_simp <;> (try with_reducible rfl))
          try simp only [Act.put, List.setIfInBounds_toArray, List.set_cons_zero, List.set_cons_succ]
          refine wpAnyH_read (i := 16) (oi := { dst := some 108, op := Go.Op.move (Go.Operand.tmp 7), type := 26, pos := "law.go:170", after := #[{ on := 13, ground := Go.Ground.guard }], guard := some (13, true) }) ?_ rfl (by kernel_rfl) (by kernel_rfl) (by kernel_rfl) (fun _ _ _ h => h) (by rfl) (by assumption) ?_ ?_
          rotate_left
          · (intro w0 hS0; go_simp <;> (try with_reducible rfl))
          try simp only [Act.put, List.setIfInBounds_toArray, List.set_cons_zero, List.set_cons_succ]
          refine wpAnyH_one (i := 15) (o := { dst := some 107, op := Go.Op.call { callee := Go.Callee.value (Go.Operand.func 16), args := #[Go.Operand.tmp 106], argTypes := #[26] }, type := 3, pos := "law.go:170", after := #[{ on := 14, ground := Go.Ground.data }, { on := 13, ground := Go.Ground.chain }, { on := 13, ground := Go.Ground.guard }], guard := some (13, true) }) (by kernel_rfl) rfl (by rfl) (fun K hK => ?_)
          go_simp
          refine (HSp.out _ T4.out).mono ?_
          rintro e w9 ⟨rfl, rfl⟩
          go_wp2_with fail
          refine hK.out _ _ ?_ (fun hHeld => ?_)
          · (first | assumption | trivial)
          clear hK K
          try simp only [Act.put, List.setIfInBounds_toArray, List.set_cons_zero, List.set_cons_succ]
          refine wpAnyH_one (i := 17) (o := { dst := some 109, op := Go.Op.call { callee := Go.Callee.value (Go.Operand.func 16), args := #[Go.Operand.tmp 108], argTypes := #[26] }, type := 3, pos := "law.go:170", after := #[{ on := 16, ground := Go.Ground.data }, { on := 15, ground := Go.Ground.chain }, { on := 13, ground := Go.Ground.guard }], guard := some (13, true) }) (by kernel_rfl) rfl (by rfl) (fun K hK => ?_)
          go_simp
          refine (HSq.out _ T4.out).mono ?_
          rintro e w9 ⟨rfl, rfl⟩
          go_wp2_with fail
          refine hK.out _ _ ?_ (fun hHeld => ?_)
          · (first | assumption | trivial)
          clear hK K
          try simp only [Act.put, List.setIfInBounds_toArray, List.set_cons_zero, List.set_cons_succ]
          refine wpAnyH_read (i := 18) (oi := { dst := some 110, op := Go.Op.binOp Go.BinOp.eql 3 (Go.Operand.tmp 107) (Go.Operand.tmp 109) 3, type := 4, pos := "law.go:170", after := #[{ on := 15, ground := Go.Ground.data }, { on := 17, ground := Go.Ground.data }, { on := 13, ground := Go.Ground.guard }], guard := some (13, true) }) ?_ rfl (by kernel_rfl) (by kernel_rfl) (by kernel_rfl) (fun _ _ _ h => h) (by rfl) (by assumption) ?_ ?_
          rotate_left
          · (intro w0 hS0; go_simp <;> (try with_reducible rfl))
          try simp only [Act.put, List.setIfInBounds_toArray, List.set_cons_zero, List.set_cons_succ]
          refine wpAnyH_read (i := 19) (oi := { dst := some 111, op := Go.Op.pick (Go.Operand.tmp 105) (Go.Operand.tmp 110) (Go.Operand.const (Go.Value.bool false)), type := 4, pos := "law.go:170", after := #[{ on := 13, ground := Go.Ground.data }, { on := 18, ground := Go.Ground.data }], guard := none }) ?_ rfl (by kernel_rfl) (by kernel_rfl) (by kernel_rfl) (fun _ _ _ h => h) (by rfl) (by assumption) ?_ ?_
          rotate_left
          · (intro w0 hS0; go_simp <;> (try with_reducible rfl))
          try simp only [Act.put, List.setIfInBounds_toArray, List.set_cons_zero, List.set_cons_succ]
          refine wpAnyH_read (i := 20) (oi := { dst := some 112, op := Go.Op.move (Go.Operand.tmp 111), type := 4, pos := "law.go:170", after := #[{ on := 19, ground := Go.Ground.data }, { on := 17, ground := Go.Ground.chain }], guard := none }) ?_ rfl (by kernel_rfl) (by kernel_rfl) (by kernel_rfl) (fun _ _ _ h => h) (by rfl) (by assumption) ?_ ?_
          rotate_left
          · (intro w0 hS0; go_simp <;> (try with_reducible rfl))
          try simp only [Act.put, List.setIfInBounds_toArray, List.set_cons_zero, List.set_cons_succ]
          refine wpAnyH_read (i := 21) (oi := { dst := some 113, op := Go.Op.move (Go.Operand.tmp 5), type := 26, pos := "law.go:170", after := #[{ on := 20, ground := Go.Ground.guard }], guard := some (20, true) }) ?_ rfl (by kernel_rfl) (by kernel_rfl) (by kernel_rfl) (fun _ _ _ h => h) (by rfl) (by assumption) ?_ ?_
          rotate_left
          · (intro w0 hS0; go_simp <;> (try with_reducible rfl))
          try simp only [Act.put, List.setIfInBounds_toArray, List.set_cons_zero, List.set_cons_succ]
          refine wpAnyH_read (i := 24) (oi := { dst := some 116, op := Go.Op.move (Go.Operand.tmp 7), type := 26, pos := "law.go:170", after := #[{ on := 20, ground := Go.Ground.guard }], guard := some (20, true) }) ?_ rfl (by kernel_rfl) (by kernel_rfl) (by kernel_rfl) (fun _ _ _ h => h) (by rfl) (by assumption) ?_ ?_
          rotate_left
          · (intro w0 hS0; go_simp <;> (try with_reducible rfl))
          try simp only [Act.put, List.setIfInBounds_toArray, List.set_cons_zero, List.set_cons_succ]
          refine wpAnyH_one (i := 22) (o := { dst := some 114, op := Go.Op.call { callee := Go.Callee.value (Go.Operand.func 9), args := #[Go.Operand.tmp 113, Go.Operand.const (Go.Value.int Go.IntKind.i64 1048576)], argTypes := #[26, 3] }, type := 34, pos := "law.go:170", after := #[{ on := 21, ground := Go.Ground.data }, { on := 20, ground := Go.Ground.chain }, { on := 20, ground := Go.Ground.guard }], guard := some (20, true) }) (by kernel_rfl) rfl (by rfl) (fun K hK => ?_)
          go_simp
          refine (HD3.out _ T4.out B4.out).mono ?_
          rintro e w5 ⟨A5, c5, s5, rfl, o5, t5, b5, l5⟩
          have cv5 := conv_ownB o5
          have O5 := Lib.hid (And.intro o5 l5)
          have T5 := Lib.hid t5
          have B5 := Lib.hid b5
          clear o5 t5 b5 l5
          go_wp2_with fail
          refine hK.out _ _ ?_ (fun hHeld => ?_)
          · (first | assumption | trivial)
          clear hK K
          try simp only [Act.put, List.setIfInBounds_toArray, List.set_cons_zero, List.set_cons_succ]
          refine wpAnyH_more (T := fun V => (convert 34 9 (.slice A5 R.length c5)).run Try.prog V = .ok (.string (bs R)) V) (fun _ _ => trivial) _ _ _ _ ?_
          clear hHeld
          have hHeld : (fun V => (convert 34 9 (.slice A5 R.length c5)).run Try.prog V = .ok (.string (bs R)) V) w5 := cv5
          refine wpAnyH_read (i := 23) (oi := { dst := some 115, op := Go.Op.convert 34 9 (Go.Operand.tmp 114), type := 9, pos := "law.go:170", after := #[{ on := 22, ground := Go.Ground.data }, { on := 20, ground := Go.Ground.guard }], guard := some (20, true) }) ?_ rfl (by kernel_rfl) (by kernel_rfl) (by kernel_rfl) (fun _ _ _ h => h) (by rfl) (by assumption) ?_ ?_
          rotate_left
          · (intro w0 hS0; (try dsimp only at hS0); go_simp <;> (try with_reducible rfl))
          try simp only [Act.put, List.setIfInBounds_toArray, List.set_cons_zero, List.set_cons_succ]
          refine wpAnyH_one (i := 25) (o := { dst := some 117, op := Go.Op.call { callee := Go.Callee.value (Go.Operand.func 9), args := #[Go.Operand.tmp 116, Go.Operand.const (Go.Value.int Go.IntKind.i64 1048576)], argTypes := #[26, 3] }, type := 34, pos := "law.go:170", after := #[{ on := 24, ground := Go.Ground.data }, { on := 22, ground := Go.Ground.chain }, { on := 20, ground := Go.Ground.guard }], guard := some (20, true) }) (by kernel_rfl) rfl (by rfl) (fun K hK => ?_)
          go_simp
          refine (HD4.out _ _ T5.out B5.out).mono ?_
          rintro e w6 ⟨A6, c6, rfl, o6, f6, b6⟩
          have cv6 := conv_ownB o6
          have cv7 := conv_ownB (ownB_far O5.out.1 (Nat.le_refl _) O5.out.2.2.1 O5.out.2.2.2.2 f6)
          have B6 := Lib.hid b6
          clear o6 f6 b6
          go_wp2_with fail
          refine hK.out _ _ ?_ (fun hHeld => ?_)
          · exact cv7
          clear hK K
          try simp only [Act.put, List.setIfInBounds_toArray, List.set_cons_zero, List.set_cons_succ]
          refine wpAnyH_one (i := 26) (o := { dst := some 118, op := Go.Op.convert 34 9 (Go.Operand.tmp 117), type := 9, pos := "law.go:170", after := #[{ on := 25, ground := Go.Ground.data }, { on := 20, ground := Go.Ground.guard }], guard := some (20, true) }) (by kernel_rfl) rfl (by rfl) (fun K hK => ?_)
          go_simp
          refine hK.out _ _ ?_ (fun hHeld => ?_)
          · (first | assumption | trivial)
          clear hK K
          try simp only [Act.put, List.setIfInBounds_toArray, List.set_cons_zero, List.set_cons_succ]
          refine wpAnyH_read (i := 27) (oi := { dst := some 119, op := Go.Op.binOp Go.BinOp.eql 9 (Go.Operand.tmp 115) (Go.Operand.tmp 118) 9, type := 4, pos := "law.go:170", after := #[{ on := 23, ground := Go.Ground.data }, { on := 26, ground := Go.Ground.data }, { on := 20, ground := Go.Ground.guard }], guard := some (20, true) }) ?_ rfl (by kernel_rfl) (by kernel_rfl) (by kernel_rfl) (fun _ _ _ h => h) (by rfl) (by assumption) ?_ ?_
          rotate_left
          · (intro w0 hS0; go_simp <;> (try with_reducible rfl))
          try simp only [Act.put, List.setIfInBounds_toArray, List.set_cons_zero, List.set_cons_succ]
          refine wpAnyH_read (i := 28) (oi := { dst := some 120, op := Go.Op.pick (Go.Operand.tmp 112) (Go.Operand.tmp 119) (Go.Operand.const (Go.Value.bool false)), type := 4, pos := "law.go:170", after := #[{ on := 20, ground := Go.Ground.data }, { on := 27, ground := Go.Ground.data }], guard := none }) ?_ rfl (by kernel_rfl) (by kernel_rfl) (by kernel_rfl) (fun _ _ _ h => h) (by rfl) (by assumption) ?_ ?_
          rotate_left
          · (intro w0 hS0; go_simp <;> (try with_reducible rfl))
          try simp only [Act.put, List.setIfInBounds_toArray, List.set_cons_zero, List.set_cons_succ]
          refine wpAnyH_read (i := 29) (oi := { dst := some 4, op := Go.Op.assign (Go.Operand.tmp 120), type := 4, pos := "law.go:170", after := #[{ on := 28, ground := Go.Ground.data }, { on := 25, ground := Go.Ground.chain }, { on := 0, ground := Go.Ground.phase }, { on := 1, ground := Go.Ground.phase }, { on := 2, ground := Go.Ground.phase }, { on := 3, ground := Go.Ground.phase }, { on := 4, ground := Go.Ground.phase }, { on := 5, ground := Go.Ground.phase }, { on := 6, ground := Go.Ground.phase }, { on := 7, ground := Go.Ground.phase }, { on := 8, ground := Go.Ground.phase }, { on := 9, ground := Go.Ground.phase }, { on := 10, ground := Go.Ground.phase }, { on := 11, ground := Go.Ground.phase }, { on := 12, ground := Go.Ground.phase }, { on := 13, ground := Go.Ground.phase }, { on := 14, ground := Go.Ground.phase }, { on := 15, ground := Go.Ground.phase }, { on := 16, ground := Go.Ground.phase }, { on := 17, ground := Go.Ground.phase }, { on := 18, ground := Go.Ground.phase }, { on := 19, ground := Go.Ground.phase }, { on := 20, ground := Go.Ground.phase }, { on := 21, ground := Go.Ground.phase }, { on := 22, ground := Go.Ground.phase }, { on := 23, ground := Go.Ground.phase }, { on := 24, ground := Go.Ground.phase }, { on := 25, ground := Go.Ground.phase }, { on := 26, ground := Go.Ground.phase }, { on := 27, ground := Go.Ground.phase }, { on := 28, ground := Go.Ground.phase }], guard := none }) ?_ rfl (by kernel_rfl) (by kernel_rfl) (by kernel_rfl) (fun _ _ _ h => h) (by rfl) (by assumption) ?_ ?_
          rotate_left
          · (intro w0 hS0; go_simp <;> (try with_reducible rfl))
          try simp only [Act.put, List.setIfInBounds_toArray, List.set_cons_zero, List.set_cons_succ]
          refine wpAnyH_done (by kernel_rfl) ?_ _
          all_goals
            clear HD1 HLp HLq HSp HSq HD3 HD4
            go_wp2_with fail
            go_ret
            exact ⟨by simp, B6.out⟩
set_option maxRecDepth 100000 in
set_option maxHeartbeats 16000000 in
theorem sendqPieces_walk (A : Option Addr) (l : List ztxT) (cc : Nat) (B : Option Addr) (ps : List zbyT) (cb : Nat) (w : World) (hA : TextsQ w A l) (hB : BytesQ w B ps) :
    Calls Try.prog 6 #[.slice A l.length cc, .slice B ps.length cb] w fun e w' => e = .returned (.bool true) ∧ RowKit.Below w.heap.size w w' := by
  by_cases h1 : l.length ≤ 30
  · by_cases h2 : ps.length ≤ 30
    · exact sendqPieces_main A l cc B ps cb w h1 h2 hA hB
    · clear hA hB
      have p1 : ¬ ((30 : Int) < (l.length : Int)) := by omega
      have p2 : (30 : Int) < (ps.length : Int) := by omega
      have d1 : decide ((30 : Int) < (l.length : Int)) = false := by simp; omega
      have d2 : decide ((30 : Int) < (ps.length : Int)) = true := by simp; omega
      go_enter Try.func6, Try.ntmps6
      go_wp2_with fail
      refine (awake8 w).mono ?_
      rintro e w1 ⟨rfl, b1⟩
      have B1 := Lib.hid b1
      clear b1
      go_wp2_with fail
      go_ret
      exact ⟨rfl, B1.out⟩
  · clear hA hB
    have p1 : (30 : Int) < (l.length : Int) := by omega
    have d1 : decide ((30 : Int) < (l.length : Int)) = true := by simp; omega
    go_enter Try.func6, Try.ntmps6
    go_wp2_with fail
    refine (awake8 w).mono ?_
    rintro e w1 ⟨rfl, b1⟩
    have B1 := Lib.hid b1
    clear b1
    go_wp2_with fail
    go_ret
    exact ⟨rfl, B1.out⟩
end Go.Proofs.Ytadbpgkhenbpfaa
