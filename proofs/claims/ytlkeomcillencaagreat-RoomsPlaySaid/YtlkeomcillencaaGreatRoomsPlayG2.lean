/- Texts of this proof, one behind the other. -/
import Derived.Test.YtlkeomcillencaaGreatRoomsPlayG1
import Derived.Deep.AppendSrc
import Derived.Laws.AppendOwn
import Derived.OwnWalkIn
import Derived.OwnWalk
import Derived.Below
import Derived.Laws.OwnMore
import Derived.Laws.BytesArg
import Derived.RangeFuncNested
import Derived.RangeFuncBound
import Derived.RangeFuncCalls
import Derived.RangeFuncLeaves
import Derived.RangeFuncBox
import Derived.Shelf.Abstract
import Derived.Shelf.RegionOpen
import Derived.WalkKit
import Derived.TacticsInMore
import Derived.LoopNIn
import Derived.LoopIn
import Derived.Maps.AppendAt
import Derived.Scope
set_option linter.unusedVariables false
set_option linter.unusedSimpArgs false
section
/- A range over a function, in words of what is owned: the body says which blocks X it holds; the function that ranges leaves those alone, and may keep blocks of its own between the rounds. Outermost and within a round; the loop's variables may be boxed. -/
namespace Go.Proofs.YtlkeomcillencaaGreat
open Go Go.RowKit

/-- X' are blocks of X, and new ones -/
def GrowX (X X' : Nat → Prop) (V V' : World) : Prop := ∀ k, X' k → k < V'.heap.size ∧ (k < V.heap.size → X k)
/-- J hangs on blocks of X alone -/
def Stays {β : Type} (J : β → (Nat → Prop) → World → Prop) : Prop := ∀ s X V V', J s X V → (∀ k, X k → k < V.heap.size) → Fr (fun k => ¬ X k) V V' → J s X V'
/-- what a function that ranges is worth, if it tells the row xs out of blocks Y -/
def SeqF {α : Type} (P : Program) (g : Nat) (lb : Array Value) (encs : α → Array Value) (Y : Nat → Prop) (xs : List α) (w : World) : Prop :=
  ∀ (l : Nat) (J Jx : List α → (Nat → Prop) → World → Prop) (X : Nat → Prop) (V : World), SameX Y w V → (∀ b, Y b → b < V.heap.size) → (∀ k, X k → k < V.heap.size ∧ ¬ Y k) → Stays J → Stays Jx →
    (∀ pre x r X1 V1, pre ++ x :: r = xs → GrowX X X1 V V1 → J pre X1 V1 → Fr X V V1 →
      YieldAt Fence.wide 0 P l (encs x) V1 fun e V' => ∃ X2, GrowX X1 X2 V1 V' ∧ Fr X1 V1 V' ∧ ((e = .returned (.bool true) ∧ J (pre ++ [x]) X2 V') ∨ (e = .returned (.bool false) ∧ Jx (pre ++ [x]) X2 V'))) →
    J [] X V → Calls P g (#[.func (.yield l) #[] #[]] ++ lb) V fun e V' => (∃ v, e = .returned v) ∧ ∃ X2, GrowX X X2 V V' ∧ Fr X V V' ∧ (J xs X2 V' ∨ ∃ pre r, pre ++ r = xs ∧ Jx pre X2 V')
section
variable {P : Program} {n m : Nat}
/-- within the wide fence it is all one how deep, and in what round -/
theorem round_wide {F : Fence} (hF : F = Fence.wide ∨ ∃ l, F = Fence.wide.inRound l) {l f : Nat} {tmps : Array Value} {assign body : Code} {w : World} {R : Ending → World → Prop} (h : RoundIn Fence.wide n P l f tmps assign body w R) : RoundIn F m P l f tmps assign body w R := by
  rcases hF with rfl | ⟨l0, rfl⟩
  · exact ⟨trivial, fun c cs _ => h.2 c cs (room_wide _)⟩
  · exact ⟨trivial, fun c cs _ => h.2 c cs (room_wide _)⟩
theorem yield_wide {F : Fence} (hF : F = Fence.wide ∨ ∃ l, F = Fence.wide.inRound l) {l : Nat} {args : Array Value} {w : World} {R : Ending → World → Prop} (h : YieldAt Fence.wide n P l args w R) : YieldAt F m P l args w R := by
  obtain ⟨fn, tmps, assign, body, h1, h2⟩ := h
  exact ⟨fn, tmps, assign, body, h1, round_wide hF h2⟩
theorem calls_wide {F : Fence} (hF : F = Fence.wide ∨ ∃ l, F = Fence.wide.inRound l) {f : Nat} {args : Array Value} {w : World} {R : Ending → World → Prop} (h : Calls P f args w R) : CallsIn F n P f args w R := by
  rcases hF with rfl | ⟨l0, rfl⟩
  · exact (callsIn_wide (n := n)).2 h
  · exact (callsIn_wide (n := n)).2 h
end
theorem Fr.putObj {X : Nat → Prop} {a w : World} (h : Fr X a w) (l : Nat) (hl : X l) (o : Obj) : Fr X a (w.putObj l o) := h.grown (grownBy_putObj' w l o) fun k e => by cases e; exact .inr hl
theorem GrowX.refl {X : Nat → Prop} {V : World} (h : ∀ k, X k → k < V.heap.size) : GrowX X X V V := fun k hk => ⟨h k hk, fun _ => hk⟩
theorem GrowX.trans {X X1 X2 : Nat → Prop} {A B C : World} (h : GrowX X X1 A B) (k : GrowX X1 X2 B C) (hs : A.heap.size ≤ B.heap.size) : GrowX X X2 A C := fun b hb => ⟨(k b hb).1, fun hl => (h b ((k b hb).2 (by omega))).2 hl⟩

theorem Fr.trans3 {X Y : Nat → Prop} {a b c : World} (h : Fr X a b) (k : Fr Y b c) (hx : ∀ k, k < a.heap.size → Y k → X k) : Fr X a c :=
  ⟨k.os.trans h.os, k.tape.trans h.tape, k.output.trans h.output, Nat.le_trans h.size k.size, fun i hi hn => (k.block i (Nat.lt_of_lt_of_le hi h.size) fun e => hn (hx i hi e)).trans (h.block i hi hn)⟩
theorem putObj_size (w : World) (l : Nat) (o : Obj) : (w.putObj l o).heap.size = w.heap.size := by simp [World.putObj]
/-- how a round of the body ends -/
def EndF {α : Type} (l : Nat) (rb : Loop) (X1 : Nat → Prop) (I : List α → (Nat → Prop) → World → Prop) (Ix : Code → List α → (Nat → Prop) → World → Prop) (xs : List α) (V : World) : Exit → Act → World → Prop
  | .normal, _, V' => ∃ X2, GrowX X1 X2 V V' ∧ Fr (fun k => k = l ∨ X1 k) V V' ∧ V'.heap[l]? = some (.loop rb) ∧ I xs X2 V'
  | .ret, _, V' => ∃ X2, GrowX X1 X2 V V' ∧ Fr (fun k => k = l ∨ X1 k) V V' ∧ V'.heap[l]? = some (.loop rb) ∧ Ix .ret xs X2 V'
  | .exit id, _, V' => ∃ X2, GrowX X1 X2 V V' ∧ Fr (fun k => k = l ∨ X1 k) V V' ∧ V'.heap[l]? = some (.loop rb) ∧ Ix (.exit id) xs X2 V'
  | .goto t, _, V' => ∃ X2, GrowX X1 X2 V V' ∧ Fr (fun k => k = l ∨ X1 k) V V' ∧ V'.heap[l]? = some (.loop rb) ∧ Ix (.goto t) xs X2 V'
  | .panic _, _, _ => False
  | .outgrown, _, _ => False
/-- the record of a loop -/
def recF (fn : Nat) (tmps : Array Value) (ps : Array Tmp) (assign body : Code) (d : Nat) (st : LoopState) (pe : Option Code) : Loop := { state := st, pending := pe, fn := fn, tmps := tmps, params := ps, assign := assign, body := body, defers := d }
/-- the rounds, of whatever loop: what the function that ranges makes of them -/
theorem range_core {P : Program} {n : Nat} {α : Type} {ps : Array Tmp} {assign body : Code} {fn : Nat} {tmps : Array Value} {d gf l : Nat} {lb : Array Value} {Y X E : Nat → Prop} {encs : α → Array Value} {xs : List α} {w V1 : World}
    (I : List α → (Nat → Prop) → World → Prop) (Ix : Code → List α → (Nat → Prop) → World → Prop)
    (hseq : SeqF P gf lb encs Y xs w) (hX : ∀ k, X k → k < w.heap.size ∧ ¬ Y k) (hY : ∀ b, Y b → b < w.heap.size) (hps : ∀ x, (encs x).size = ps.size) (hI : Stays I) (hIx : ∀ c, Stays (Ix c)) (h0 : I [] X w)
    (hw : Fr (fun _ => False) w V1) (hl : w.heap.size ≤ l) (hE : ∀ k, E k → w.heap.size ≤ k ∧ k < V1.heap.size ∧ k ≠ l) (hr : V1.heap[l]? = some (.loop (recF fn tmps ps assign body d .ready none)))
    (hround : ∀ pre x r X1 V (K : Act → World → Prop) rb, pre ++ x :: r = xs → I pre X1 V → GrowX X X1 w V → (∀ k, X1 k → k ≠ l ∧ ¬ E k) → Fr X w V → l < V.heap.size →
      (∀ a1 Va, Fr (fun _ => False) V Va → (∀ Vb, Fr (fun k => k = l) V Vb → Vb.heap.size = Va.heap.size → (∀ k, k ≠ l → Vb.heap[k]? = Va.heap[k]?) → Vb.heap[l]? = some (.loop rb) → body.wpIn (Fence.wide.inRound l) n P (EndF l rb X1 I Ix (pre ++ [x]) V) a1 Vb) → K a1 Va) →
      assign.wpIn (Fence.wide.inRound l) n P (Exit.then K fun _ _ _ => False) { tmps := (ps.zip (encs x)).foldl (fun t (p, v) => t.setIfInBounds p v) tmps, defers := [] } V) :
    Calls P gf (#[.func (.yield l) #[] #[]] ++ lb) V1 fun e V2 => (∃ v, e = .returned v) ∧ ∃ X2, GrowX X X2 w V2 ∧ (∀ k, X2 k → k ≠ l ∧ ¬ E k) ∧ Fr X w V2 ∧ (∀ k, E k → V2.heap[k]? = V1.heap[k]?) ∧ l < V2.heap.size ∧
      ((I xs X2 V2 ∧ V2.heap[l]? = some (.loop (recF fn tmps ps assign body d .ready none))) ∨ ∃ pre r c, pre ++ r = xs ∧ Ix c pre X2 V2 ∧ V2.heap[l]? = some (.loop (recF fn tmps ps assign body d .done (some c)))) := by
  have hlV := blk_lt hr
  have key : ∀ (Q : List α → (Nat → Prop) → World → Prop) (o : Obj), Stays Q → Stays (fun pre X' V => ∃ X1, (∀ k, X' k ↔ (X1 k ∨ k = l ∨ E k)) ∧ Q pre X1 V ∧ V.heap[l]? = some o ∧ (∀ k, E k → V.heap[k]? = V1.heap[k]?) ∧ (∀ k, X1 k → k ≠ l ∧ ¬ E k)) := fun Q o hQ s X' V V' ⟨X1, h1, h2, h3, h4, h5⟩ hlt hf =>
    ⟨X1, h1, hQ s X1 V V' h2 (fun k hk => hlt k ((h1 k).2 (.inl hk))) (hf.mono fun k _ hn e => hn ((h1 k).2 (.inl e))), (hf.block l (blk_lt h3) (fun e => e ((h1 l).2 (.inr (.inl rfl))))).trans h3,
      fun k hk => (hf.block k (hlt k ((h1 k).2 (.inr (.inr hk)))) (fun e => e ((h1 k).2 (.inr (.inr hk))))).trans (h4 k hk), h5⟩
  have thru : ∀ {V2 : World}, Fr (fun k => X k ∨ k = l ∨ E k) V1 V2 → Fr X w V2 := fun hf => (hw.mono fun _ _ h => h.elim).trans3 hf fun k hk e => by
    rcases e with e | rfl | e
    · exact e
    · omega
    · have := (hE k e).1; omega
  have grow : ∀ {X' X1 : Nat → Prop} {V2 : World}, (∀ k, X' k ↔ (X1 k ∨ k = l ∨ E k)) → GrowX (fun k => X k ∨ k = l ∨ E k) X' V1 V2 → GrowX X X1 w V2 := fun h1 hg k hk => by
    have h2 := hg k ((h1 k).2 (.inl hk))
    refine ⟨h2.1, fun hlt => ?_⟩
    rcases h2.2 (Nat.lt_of_lt_of_le hlt hw.size) with e | rfl | e
    · exact e
    · omega
    · have := (hE k e).1; omega
  refine (hseq l (fun pre X' V => ∃ X1, (∀ k, X' k ↔ (X1 k ∨ k = l ∨ E k)) ∧ I pre X1 V ∧ V.heap[l]? = some (.loop (recF fn tmps ps assign body d .ready none)) ∧ (∀ k, E k → V.heap[k]? = V1.heap[k]?) ∧ (∀ k, X1 k → k ≠ l ∧ ¬ E k))
    (fun pre X' V => ∃ c, ∃ X1, (∀ k, X' k ↔ (X1 k ∨ k = l ∨ E k)) ∧ Ix c pre X1 V ∧ V.heap[l]? = some (.loop (recF fn tmps ps assign body d .done (some c))) ∧ (∀ k, E k → V.heap[k]? = V1.heap[k]?) ∧ (∀ k, X1 k → k ≠ l ∧ ¬ E k))
    (fun k => X k ∨ k = l ∨ E k) V1 (fun b hb => hw.block b (hY b hb) fun e => e) (fun b hb => Nat.lt_of_lt_of_le (hY b hb) hw.size) ?hX (key I _ hI) (fun s X' V V' ⟨c, h⟩ h1 h2 => ⟨c, key (Ix c) _ (hIx c) s X' V V' h h1 h2⟩) ?round
    ⟨X, fun k => Iff.rfl, hI [] X w V1 h0 (fun k hk => (hX k hk).1) (hw.mono fun _ _ h => h.elim), hr, fun _ _ => rfl, fun k hk => ⟨by have := (hX k hk).1; omega, fun e => by have := (hX k hk).1; have := (hE k e).1; omega⟩⟩).mono ?behind
  case hX =>
    rintro k (e | rfl | e)
    · exact ⟨Nat.lt_of_lt_of_le (hX k e).1 hw.size, (hX k e).2⟩
    · exact ⟨hlV, fun e => by have := hY _ e; omega⟩
    · exact ⟨(hE k e).2.1, fun e2 => by have := hY _ e2; have := (hE k e).1; omega⟩
  case behind =>
    rintro e V2 ⟨hv, X', hg, hf, (⟨X1, h1, h2, h3, h4, h5⟩ | ⟨pre, r, hpr, c, X1, h1, h2, h3, h4, h5⟩)⟩
    · exact ⟨hv, X1, grow h1 hg, h5, thru hf, h4, blk_lt h3, .inl ⟨h2, h3⟩⟩
    · exact ⟨hv, X1, grow h1 hg, h5, thru hf, h4, blk_lt h3, .inr ⟨pre, r, c, hpr, h2, h3⟩⟩
  case round =>
    rintro pre x r X' V hpx hgx ⟨X1, h1, h2, h3, h4, h5⟩ hfx
    have hy := run_yield (P := P) (args := encs x) h3 (by exact hps x)
    have hlv := blk_lt h3
    have hV1 := hfx.size
    obtain ⟨rb, hrb⟩ : ∃ rb : Loop, { recF fn tmps ps assign body d .ready none with state := .busy } = rb := ⟨_, rfl⟩
    refine ⟨fn, _, assign, body, hy, round_wide (n := n) (.inl rfl) (roundIn_of_wpIn (F := Fence.wide) trivial (hround pre x r X1 V _ rb hpx h2 (grow h1 hgx) h5 (thru hfx) hlv fun a1 Va hfa hbody => ⟨_, run_beginRound (hfa.blk h3 fun h => h) rfl, ?_⟩))⟩
    rw [hrb]
    have hla : l < Va.heap.size := Nat.lt_of_lt_of_le hlv hfa.size
    refine wpIn_mono (hbody (Va.putObj l (.loop rb)) (Fr.putObj (X := fun k => k = l) (hfa.mono fun _ _ h => h.elim) l rfl _) (putObj_size _ _ _) (fun k hk => World.putObj_heap_other hk) (World.putObj_heap_same hla)) ?_
    have fin : ∀ (Q : List α → (Nat → Prop) → World → Prop), Stays Q → ∀ {X2 : Nat → Prop} {V3 : World} (o : Obj), GrowX X1 X2 V V3 → Fr (fun k => k = l ∨ X1 k) V V3 → Q (pre ++ [x]) X2 V3 →
        GrowX X' (fun k => X2 k ∨ k = l ∨ E k) V (V3.putObj l o) ∧ Fr X' V (V3.putObj l o) ∧ ∃ X1', (∀ k, (X2 k ∨ k = l ∨ E k) ↔ (X1' k ∨ k = l ∨ E k)) ∧ Q (pre ++ [x]) X1' (V3.putObj l o) ∧ (V3.putObj l o).heap[l]? = some o ∧ (∀ k, E k → (V3.putObj l o).heap[k]? = V1.heap[k]?) ∧ (∀ k, X1' k → k ≠ l ∧ ¬ E k) := fun Q hQ X2 V3 o g2 f2 q2 => by
      have hl3 : l < V3.heap.size := Nat.lt_of_lt_of_le hlv f2.size
      have hEV : ∀ k, E k → k < V.heap.size := fun k hk => Nat.lt_of_lt_of_le (hE k hk).2.1 hV1
      have x2 : ∀ k, X2 k → k ≠ l ∧ ¬ E k := fun k hk => ⟨fun e => by subst e; exact (h5 _ ((g2 _ hk).2 hlv)).1 rfl, fun e => (h5 _ ((g2 _ hk).2 (hEV k e))).2 e⟩
      refine ⟨fun k hk => ?_, (f2.putObj l (.inl rfl) o).mono fun k _ e => ?_, X2, fun k => Iff.rfl, hQ _ X2 V3 _ q2 (fun k hk => (g2 k hk).1) ((Fr.refl _ V3).putObj l (fun e => (x2 l e).1 rfl) o), World.putObj_heap_same hl3, fun k hk => ?_, x2⟩
      · rw [putObj_size]
        rcases hk with hk | rfl | hk
        · exact ⟨(g2 k hk).1, fun hlt => (h1 k).2 (.inl ((g2 k hk).2 hlt))⟩
        · exact ⟨hl3, fun _ => (h1 _).2 (.inr (.inl rfl))⟩
        · exact ⟨Nat.lt_of_lt_of_le (hEV k hk) f2.size, fun _ => (h1 _).2 (.inr (.inr hk))⟩
      · rcases e with rfl | e
        · exact (h1 _).2 (.inr (.inl rfl))
        · exact (h1 _).2 (.inl e)
      · refine (World.putObj_heap_other (hE k hk).2.2).trans ((f2.block k (hEV k hk) ?_).trans (h4 k hk))
        rintro (e | e)
        · exact (hE k hk).2.2 e
        · exact (h5 k e).2 hk
    rintro e a3 V3 hp
    cases e with
    | normal =>
      obtain ⟨X2, g2, f2, r2, i2⟩ := hp
      have hend := run_endRound (P := P) none r2
      rw [← hrb] at hend
      obtain ⟨q1, q2, q3⟩ := fin I hI _ g2 f2 i2
      exact ⟨_, _, hend, _, q1, q2, .inl ⟨rfl, q3⟩⟩
    | ret =>
      obtain ⟨X2, g2, f2, r2, i2⟩ := hp
      have hend := run_endRound (P := P) (some .ret) r2
      rw [← hrb] at hend
      obtain ⟨q1, q2, q3⟩ := fin _ (hIx .ret) _ g2 f2 i2
      exact ⟨_, _, hend, _, q1, q2, .inr ⟨rfl, _, q3⟩⟩
    | exit id =>
      obtain ⟨X2, g2, f2, r2, i2⟩ := hp
      have hend := run_endRound (P := P) (some (.exit id)) r2
      rw [← hrb] at hend
      obtain ⟨q1, q2, q3⟩ := fin _ (hIx (.exit id)) _ g2 f2 i2
      exact ⟨_, _, hend, _, q1, q2, .inr ⟨rfl, _, q3⟩⟩
    | goto t =>
      obtain ⟨X2, g2, f2, r2, i2⟩ := hp
      have hend := run_endRound (P := P) (some (.goto t)) r2
      rw [← hrb] at hend
      obtain ⟨q1, q2, q3⟩ := fin _ (hIx (.goto t)) _ g2 f2 i2
      exact ⟨_, _, hend, _, q1, q2, .inr ⟨rfl, _, q3⟩⟩
    | panic ch => exact hp.elim
    | outgrown => exact hp.elim
/-- an outermost loop -/
theorem wpIn_rangeF {n : Nat} {P : Program} {w : World} {α : Type} {a : Act} {Q : Exit → Act → World → Prop} {g : Operand} {assign body : Code} {ps : Array Tmp} {gf : Nat} {lb : Array Value}
    {X Y : Nat → Prop} {encs : α → Array Value} {xs : List α} (I : List α → (Nat → Prop) → World → Prop) (Ix : Code → List α → (Nat → Prop) → World → Prop)
    (hg : a.eval g = .func (.func gf) #[] lb) (hseq : SeqF P gf lb encs Y xs w) (hX : ∀ k, X k → k < w.heap.size ∧ ¬ Y k) (hY : ∀ b, Y b → b < w.heap.size) (h1 : 1 ≤ n)
    (eg : ∀ args v, (callFunc gf args).run P v = .ok (.enter gf args) v) (hps : ∀ x, (encs x).size = ps.size) (hI : Stays I) (hIx : ∀ c, Stays (Ix c)) (h0 : I [] X w)
    (hround : ∀ l pre x r X1 V (K : Act → World → Prop) rb, w.heap.size ≤ l → pre ++ x :: r = xs → I pre X1 V → GrowX X X1 w V → ¬ X1 l → Fr X w V → l < V.heap.size →
      (∀ a1 Va, Fr (fun _ => False) V Va → (∀ Vb, Fr (fun k => k = l) V Vb → Vb.heap.size = Va.heap.size → (∀ k, k ≠ l → Vb.heap[k]? = Va.heap[k]?) → Vb.heap[l]? = some (.loop rb) → body.wpIn (Fence.wide.inRound l) (n - 1 - 1) P (EndF l rb X1 I Ix (pre ++ [x]) V) a1 Vb) → K a1 Va) →
      assign.wpIn (Fence.wide.inRound l) (n - 1 - 1) P (Exit.then K fun _ _ _ => False) { tmps := (ps.zip (encs x)).foldl (fun t (p, v) => t.setIfInBounds p v) a.tmps, defers := [] } V)
    (hdone : ∀ D X2 V, w.heap.size ≤ D → ¬ X2 D → GrowX X X2 w V → Fr X w V → I xs X2 V → V.heap[D]? = some (.deferred (some [])) → Q .normal { a with defers := { target := .collected D, args := #[] } :: a.defers } V)
    (hstop : ∀ D c pre r X2 V, w.heap.size ≤ D → pre ++ r = xs → ¬ X2 D → GrowX X X2 w V → Fr X w V → Ix c pre X2 V → V.heap[D]? = some (.deferred (some [])) → c.wpIn Fence.wide n P Q { a with defers := { target := .collected D, args := #[] } :: a.defers } V) :
    (Code.rangeFunc g ps assign body).wpIn Fence.wide n P Q a w := by
  refine wpIn_rangeFunc fun fn hfn => ?_
  obtain ⟨V1, hV1⟩ : ∃ V1, (w.alloc (.deferred (some []))).alloc (.loop (recF fn a.tmps ps assign body w.heap.size .ready none)) = V1 := ⟨_, rfl⟩
  have hz : V1.heap.size = w.heap.size + 2 := by rw [← hV1]; simp
  have hr : V1.heap[w.heap.size + 1]? = some (.loop (recF fn a.tmps ps assign body w.heap.size .ready none)) := by
    subst hV1
    have h := World.alloc_heap_new (w.alloc (.deferred (some []))) (.loop (recF fn a.tmps ps assign body w.heap.size .ready none))
    rwa [World.size_alloc] at h
  have hd : V1.heap[w.heap.size]? = some (.deferred (some [])) := by
    subst hV1
    exact (Below.heap_alloc _ _ _ (by simp)).trans (World.alloc_heap_new w _)
  have hw : Fr (fun _ => False) w V1 := by subst hV1; exact ((Fr.refl _ w).alloc _).alloc _
  refine ⟨w.heap.size + 1, [{ target := .collected w.heap.size, args := #[] }], V1, { target := .fn (.func gf) lb, args := #[.func (.yield (w.heap.size + 1)) #[] #[]] }, V1, gf, #[.func (.yield (w.heap.size + 1)) #[] #[]] ++ lb, V1, ?_, ?_, ?_, ?_, fun _ => h1, ?_⟩
  · rw [← hV1]; exact run_enterLoop_outer _ _ _ _ _
  · simp only [resolve, hg]; simp [go_sem]
  · intro f' _; trivial
  · simp [invoke, go_sem, eg]
  refine (calls_wide (.inl rfl) (range_core (n := n - 1 - 1) (E := fun k => k = w.heap.size) I Ix hseq hX hY hps hI hIx h0 hw (by omega) (fun k hk => by subst hk; omega) hr
    (fun pre x r X1 V K rb h1 h2 h3 h4 h5 h6 h7 => hround (w.heap.size + 1) pre x r X1 V K rb (by omega) h1 h2 h3 (fun e => (h4 _ e).1 rfl) h5 h6 h7))).mono ?_
  rintro e V2 ⟨⟨v, rfl⟩, X2, g2, x2, f2, e2, l2, h⟩
  have hD : ∀ o, (V2.putObj (w.heap.size + 1) o).heap[w.heap.size]? = some (.deferred (some [])) := fun o => (World.putObj_heap_other (by omega)).trans ((e2 _ rfl).trans hd)
  have hput : ∀ o, Fr X w (V2.putObj (w.heap.size + 1) o) := fun o => f2.trans3 ((Fr.refl (fun k => k = w.heap.size + 1) V2).putObj _ rfl o) fun k hk e => by omega
  have hst : ∀ o, Fr (fun k => ¬ X2 k) V2 (V2.putObj (w.heap.size + 1) o) := fun o => (Fr.refl _ V2).putObj _ (fun e => (x2 _ e).1 rfl) o
  have hgr : ∀ o, GrowX X X2 w (V2.putObj (w.heap.size + 1) o) := fun o k hk => by rw [putObj_size]; exact g2 k hk
  rcases h with ⟨hi, hr2⟩ | ⟨pre, r, c, hpr, hi, hr2⟩
  · exact ⟨none, _, run_endLoop (P := P) hr2 (by simp [recF]), hdone _ X2 _ (Nat.le_refl _) (fun e => (x2 _ e).2 rfl) (hgr _) (hput _) (hI _ X2 V2 _ hi (fun k hk => (g2 k hk).1) (hst _)) (hD _)⟩
  · exact ⟨some c, _, run_endLoop (P := P) hr2 (by simp [recF]), hstop _ c pre r X2 _ (Nat.le_refl _) hpr (fun e => (x2 _ e).2 rfl) (hgr _) (hput _) (hIx c _ X2 V2 _ hi (fun k hk => (g2 k hk).1) (hst _)) (hD _)⟩
/-- a loop within a round -/
theorem wpIn_rangeFN {n : Nat} {P : Program} {w : World} {α : Type} {a : Act} {Q : Exit → Act → World → Prop} {g : Operand} {assign body : Code} {ps : Array Tmp} {gf : Nat} {lb : Array Value} {l0 : Nat} {r0 : Loop}
    {X Y : Nat → Prop} {encs : α → Array Value} {xs : List α} (I : List α → (Nat → Prop) → World → Prop) (Ix : Code → List α → (Nat → Prop) → World → Prop) (hl0 : w.heap[l0]? = some (.loop r0))
    (hg : a.eval g = .func (.func gf) #[] lb) (hseq : SeqF P gf lb encs Y xs w) (hX : ∀ k, X k → k < w.heap.size ∧ ¬ Y k) (hY : ∀ b, Y b → b < w.heap.size) (h1 : 1 ≤ n)
    (eg : ∀ args v, (callFunc gf args).run P v = .ok (.enter gf args) v) (hps : ∀ x, (encs x).size = ps.size) (hI : Stays I) (hIx : ∀ c, Stays (Ix c)) (h0 : I [] X w)
    (hround : ∀ l pre x r X1 V (K : Act → World → Prop) rb, w.heap.size ≤ l → pre ++ x :: r = xs → I pre X1 V → GrowX X X1 w V → ¬ X1 l → Fr X w V → l < V.heap.size →
      (∀ a1 Va, Fr (fun _ => False) V Va → (∀ Vb, Fr (fun k => k = l) V Vb → Vb.heap.size = Va.heap.size → (∀ k, k ≠ l → Vb.heap[k]? = Va.heap[k]?) → Vb.heap[l]? = some (.loop rb) → body.wpIn (Fence.wide.inRound l) (n - 1 - 1) P (EndF l rb X1 I Ix (pre ++ [x]) V) a1 Vb) → K a1 Va) →
      assign.wpIn (Fence.wide.inRound l) (n - 1 - 1) P (Exit.then K fun _ _ _ => False) { tmps := (ps.zip (encs x)).foldl (fun t (p, v) => t.setIfInBounds p v) a.tmps, defers := [] } V)
    (hdone : ∀ X2 V, GrowX X X2 w V → Fr X w V → I xs X2 V → Q .normal a V)
    (hstop : ∀ c pre r X2 V, pre ++ r = xs → GrowX X X2 w V → Fr X w V → Ix c pre X2 V → c.wpIn (Fence.wide.inRound l0) n P Q a V) :
    (Code.rangeFunc g ps assign body).wpIn (Fence.wide.inRound l0) n P Q a w := by
  refine wpIn_rangeFunc fun fn hfn => ?_
  obtain ⟨V1, hV1⟩ : ∃ V1, w.alloc (.loop (recF fn a.tmps ps assign body r0.defers .ready none)) = V1 := ⟨_, rfl⟩
  have hz : V1.heap.size = w.heap.size + 1 := by rw [← hV1]; simp
  have hr : V1.heap[w.heap.size]? = some (.loop (recF fn a.tmps ps assign body r0.defers .ready none)) := by subst hV1; exact World.alloc_heap_new w _
  have hw : Fr (fun _ => False) w V1 := by subst hV1; exact (Fr.refl _ w).alloc _
  refine ⟨w.heap.size, [], V1, { target := .fn (.func gf) lb, args := #[.func (.yield w.heap.size) #[] #[]] }, V1, gf, #[.func (.yield w.heap.size) #[] #[]] ++ lb, V1, ?_, ?_, ?_, ?_, fun _ => h1, ?_⟩
  · rw [← hV1]; exact run_enterLoop_inner hl0 _ _ _ _ _
  · simp only [resolve, hg]; simp [go_sem]
  · intro f' _; trivial
  · simp [invoke, go_sem, eg]
  refine (calls_wide (.inr ⟨l0, rfl⟩) (range_core (n := n - 1 - 1) (E := fun _ => False) I Ix hseq hX hY hps hI hIx h0 hw (Nat.le_refl _) (fun k hk => hk.elim) hr
    (fun pre x r X1 V K rb h1 h2 h3 h4 h5 h6 h7 => hround w.heap.size pre x r X1 V K rb (Nat.le_refl _) h1 h2 h3 (fun e => (h4 _ e).1 rfl) h5 h6 h7))).mono ?_
  rintro e V2 ⟨⟨v, rfl⟩, X2, g2, x2, f2, e2, l2, h⟩
  have hput : ∀ o, Fr X w (V2.putObj w.heap.size o) := fun o => f2.trans3 ((Fr.refl (fun k => k = w.heap.size) V2).putObj _ rfl o) fun k hk e => by omega
  have hst : ∀ o, Fr (fun k => ¬ X2 k) V2 (V2.putObj w.heap.size o) := fun o => (Fr.refl _ V2).putObj _ (fun e => (x2 _ e).1 rfl) o
  have hgr : ∀ o, GrowX X X2 w (V2.putObj w.heap.size o) := fun o k hk => by rw [putObj_size]; exact g2 k hk
  rcases h with ⟨hi, hr2⟩ | ⟨pre, r, c, hpr, hi, hr2⟩
  · exact ⟨none, _, run_endLoop (P := P) hr2 (by simp [recF]), hdone X2 _ (hgr _) (hput _) (hI _ X2 V2 _ hi (fun k hk => (g2 k hk).1) (hst _))⟩
  · exact ⟨some c, _, run_endLoop (P := P) hr2 (by simp [recF]), hstop c pre r X2 _ hpr (hgr _) (hput _) (hIx c _ X2 V2 _ hi (fun k hk => (g2 k hk).1) (hst _))⟩
end Go.Proofs.YtlkeomcillencaaGreat
end
section
/- A function value that tells a row; it tells it still where its blocks lie as they lay. -/
namespace Go.Proofs.YtlkeomcillencaaGreat
open Go Go.RowKit

/-- what tells xs out of blocks Y -/
def TellsF {α : Type} (P : Program) (encs : α → Array Value) (w : World) (F : Value) (Y : Nat → Prop) (xs : List α) : Prop :=
  ∃ gf lb, F = .func (.func gf) #[] lb ∧ SeqF P gf lb encs Y xs w ∧ (∀ b, Y b → b < w.heap.size) ∧ (∀ args v, (callFunc gf args).run P v = .ok (.enter gf args) v)
theorem SeqF.same {α : Type} {P : Program} {g : Nat} {lb : Array Value} {encs : α → Array Value} {Y : Nat → Prop} {xs : List α} {w W : World} (h : SeqF P g lb encs Y xs w) (hs : SameX Y w W) : SeqF P g lb encs Y xs W :=
  fun l J Jx X V h1 => h l J Jx X V (hs.trans h1)
theorem TellsF.fr {α : Type} {P : Program} {encs : α → Array Value} {X Y : Nat → Prop} {w W : World} {F : Value} {xs : List α} (h : TellsF P encs w F Y xs) (hf : Fr X w W) (hX : ∀ b, Y b → ¬ X b) : TellsF P encs W F Y xs := by
  obtain ⟨gf, lb, h1, h2, h3, h4⟩ := h
  exact ⟨gf, lb, h1, h2.same fun b hb => hf.block b (h3 b hb) (hX b hb), fun b hb => Nat.lt_of_lt_of_le (h3 b hb) hf.size, h4⟩
theorem TellsF.below {α : Type} {P : Program} {encs : α → Array Value} {Y : Nat → Prop} {w W : World} {F : Value} {xs : List α} (h : TellsF P encs w F Y xs) (hb : RowKit.Below w.heap.size w W) : TellsF P encs W F Y xs :=
  h.fr (Fr.of_below (X := fun _ => False) hb) fun _ _ e => e
/-- J of blocks X hangs on a frame that leaves them -/
theorem Stays.fr {β : Type} {J : β → (Nat → Prop) → World → Prop} (h : Stays J) {s : β} {X Z : Nat → Prop} {V V' : World} (hj : J s X V) (hl : ∀ k, X k → k < V.heap.size) (hf : Fr Z V V') (hz : ∀ k, Z k → ¬ X k) : J s X V' :=
  h s X V V' hj hl (hf.mono fun k _ e => hz k e)
theorem stays_and {β : Type} {J K : β → (Nat → Prop) → World → Prop} (h1 : Stays J) (h2 : Stays K) : Stays fun s X V => J s X V ∧ K s X V := fun s X V V' h hl hf => ⟨h1 s X V V' h.1 hl hf, h2 s X V V' h.2 hl hf⟩
theorem stays_pure {β : Type} (p : β → Prop) : Stays fun s (_ : Nat → Prop) (_ : World) => p s := fun _ _ _ _ h _ _ => h
/-- the marks of outermost loops are taken up at the function's end -/
def markF (D : Nat) : Deferred := { target := .collected D, args := #[] }
theorem leavesF {F : Fence} {n : Nat} {P : Program} {fn : Func} {tmps : Array Value} {R : Ending → World → Prop} : ∀ (Ds : List Nat) (w : World), Ds.Nodup → (∀ D ∈ Ds, w.heap[D]? = some (.deferred (some []))) →
    (∀ w', Fr (fun k => k ∈ Ds) w w' → ∃ v, (results fn tmps).run P w' = .ok v w' ∧ R (.returned v) w') → LeavesInM F n P fn tmps R (Ds.map markF) .returning w
  | [], w, _, _, h => h w (Fr.refl _ _)
  | D :: Ds, w, hn, hd, h => by
    rw [List.nodup_cons] at hn
    have h0 := hd D (by simp)
    refine ⟨by simp, .inl ⟨_, _, rfl, run_takeDeferred h0, ?_⟩⟩
    refine leavesF Ds _ hn.2 (fun D2 h2 => (World.putObj_heap_other fun e => hn.1 (by cases e; exact h2)).trans (hd D2 (by simp [h2]))) fun w' hf => h w' ?_
    have h1 : Fr (fun k => k ∈ D :: Ds) w (w.putObj D (.deferred none)) := ⟨rfl, rfl, rfl, by simp [World.putObj], fun k _ hk => World.putObj_heap_other fun e => hk (by simp [e])⟩
    exact h1.trans3 hf fun k _ hk => by simp [hk]
theorem leaves_one {F : Fence} {n : Nat} {P : Program} {fn : Func} {tmps : Array Value} {R : Ending → World → Prop} (D : Nat) (w : World) (hd : w.heap[D]? = some (.deferred (some [])))
    (h : ∀ w', Fr (fun k => k = D) w w' → ∃ v, (results fn tmps).run P w' = .ok v w' ∧ R (.returned v) w') : LeavesInM F n P fn tmps R [{ target := .collected D, args := #[] }] .returning w :=
  leavesF [D] w (by simp) (fun D2 h2 => by rw [List.mem_singleton] at h2; subst h2; exact hd) fun w' hf => h w' (hf.mono fun k _ e => by simpa using e)
end Go.Proofs.YtlkeomcillencaaGreat
end
section
/- append onto a slice of the call's own, from whatever source: a text's bytes too. -/
namespace Go.Proofs.YtlkeomcillencaaGreat
open Go Go.RowKit

section
variable {P : Program} (w : World)

theorem run_room_src (t tx ty e : TypeId) (i : TypeInfo) (ht : P.underlying t = some (.slice e)) (hi : P.info? e = some i)
    (g sLen sCap : Nat) (cur : Array Value) (hg : w.heap[g]? = some (.cells cur e (0, 0))) (x : Value) (m : Nat) (news : List Value) (hs : Src P i.size tx x m news w)
    (hroom : sLen + m ≤ sCap) (hfit : sLen * i.size + news.length ≤ cur.size) :
    (Builtin.append_ #[t, tx] ty #[.slice (some ⟨g, 0, none⟩) sLen sCap, x]).run P w =
      .ok (.slice (some ⟨g, 0, none⟩) (sLen + m) sCap) (w.setRow g (cur.toList.take (sLen * i.size) ++ news ++ cur.toList.drop (sLen * i.size + news.length)).toArray) := by
  have hst := run_storeCells_at P g (sLen * i.size) e news 0 cur w hg (by simpa using hfit) hs.one
  simp only [Nat.add_zero] at hst
  rcases hs.kind with ⟨e', hk⟩ | hk <;> simp [Builtin.append_, run_underlying ht, run_underlying hk, sizeOf, typeInfo, hi, hs.len, hroom, hs.cells, Addr.add_lit, hst]

theorem run_app_src (base : Nat) (t tx ty e : TypeId) (i : TypeInfo) (z : Value) (size bytes : Nat) (ht : P.underlying t = some (.slice e)) (hi : P.info? e = some i) (hz : i.zero = some z)
    (hsize : i.size = size) (hby : i.bytes = bytes) (hzs : z.cells.size = size) (g cap n : Nat) (xs : List Value)
    (hown : w.ownsRow base e size (.slice (some ⟨g, 0, none⟩) n cap) n xs) (x : Value) (m : Nat) (news : List Value) (hs : Src P size tx x m news w)
    (h63 : n + m ≤ maxLen) (hbytes : (n + m) * bytes ≤ 140737488355328) (hbase : base ≤ w.heap.size) :
    ∃ g' cap' w', (Builtin.append_ #[t, tx] ty #[.slice (some ⟨g, 0, none⟩) n cap, x]).run P w = .ok (.slice (some ⟨g', 0, none⟩) (n + m) cap') w' ∧
      w'.ownsRow base e size (.slice (some ⟨g', 0, none⟩) (n + m) cap') (n + m) (xs ++ news) ∧ w.grownBy w' (some g) := by
  subst hsize
  subst hby
  have hsmall : n + m ≤ 9223372036854775807 := by simp only [maxLen] at h63; omega
  have hlen : (xs ++ news).length = (n + m) * i.size := by rw [List.length_append, hown.1, hs.newsLen, Nat.add_mul]
  have hown' := hown
  rcases hown.2 with ⟨h, _⟩ | ⟨g0, cap0, cur, h, hbg, hg, hnc, hcm, hcs, htake⟩
  · cases h
  · simp only [Value.slice.injEq, Option.some.injEq, Addr.mk.injEq, true_and, and_true] at h
    obtain ⟨rfl, rfl⟩ := h
    by_cases hroom : n + m ≤ cap
    · have hfit : n * i.size + news.length ≤ cur.size := by rw [hs.newsLen, hcs, ← Nat.add_mul]; exact Nat.mul_le_mul_right _ hroom
      have hr := run_room_src (P := P) w t tx ty e i ht hi g n cap cur hg x m news hs hroom hfit
      refine ⟨_, _, _, hr, ⟨hlen, .inr ⟨g, cap, _, rfl, hbg, setRow_heap w g cur _ e _ hg, hroom, hcm, ?_, ?_⟩⟩, ⟨rfl, rfl, rfl, by simp, fun k _ hk => setRow_other w g k _ (fun e => hk (by rw [e]))⟩⟩
      · simp only [List.size_toArray, List.length_append, List.length_take, List.length_drop, Array.length_toList]
        omega
      · rw [htake, ← hlen]
        exact List.take_left
    · have holds : ∀ j u, xs[j]? = some u → w.cell? ((⟨g, 0, none⟩ : Addr).add j) = some u := hown'.cells (g := g) rfl
      have hold := run_firstCells_some (P := P) w.drew i.size n ⟨g, 0, none⟩ n cap xs hown'.1 (by simpa using holds)
      have hr := run_append_grow_src (P := P) w t tx ty e i z ht hi hz (some ⟨g, 0, none⟩) n cap xs hold x m news hs (by omega) (by omega) (growslice_fits (by omega) hbytes)
      refine ⟨_, _, _, hr, ⟨hlen, .inr ⟨w.heap.size, _, _, rfl, hbase, heap_alloc_new w.drew _, grownCap_ge w (n + m) cap e, grownCap_le_maxLen w (n + m) cap e h63, ?_, ?_⟩⟩, ⟨rfl, rfl, rfl, by simp, fun k hk _ => heap_alloc_old w.drew _ hk⟩⟩
      · simp only [Array.size_append, List.size_toArray, size_zeroCells, hzs, hlen, ← Nat.add_mul]
        have := grownCap_ge w (n + m) cap e
        congr 1
        omega
      · simp only [Array.toList_append]
        rw [← hlen]
        exact List.take_left
end

theorem wpListIn_app_src {F : Fence} {n : Nat} {P : Program} (w : World) {ops : Array Oper} {rest : List Oper} {o : Oper} {a : Act} {Q : Exit → Act → World → Prop}
    (hg : o.guard = none) (s x : Operand) (t tx : TypeId) (hop : o.op = Op.call { callee := Callee.builtin Builtin.append, args := #[s, x], argTypes := #[t, tx] })
    (base : Nat) (e : TypeId) (i : TypeInfo) (z : Value) (size bytes : Nat) (h1 : P.underlying t = some (.slice e)) (h2 : P.info? e = some i) (h3 : i.zero = some z) (h4 : i.size = size) (h5 : i.bytes = bytes) (h6 : z.cells.size = size)
    (g cap k : Nat) (xs : List Value) (hs : a.eval s = .slice (some ⟨g, 0, none⟩) k cap) (hown : w.ownsRow base e size (.slice (some ⟨g, 0, none⟩) k cap) k xs) (v : Value) (m : Nat) (news : List Value) (hx : a.eval x = v) (hsrc : Src P size tx v m news w)
    (b1 : k + m ≤ maxLen) (b2 : (k + m) * bytes ≤ 140737488355328) (b3 : base ≤ w.heap.size)
    (hK : ∀ g' cap' w', w'.ownsRow base e size (.slice (some ⟨g', 0, none⟩) (k + m) cap') (k + m) (xs ++ news) → w.grownBy w' (some g) → wpListIn F n P ops Q rest (a.put o.dst (.slice (some ⟨g', 0, none⟩) (k + m) cap')) w') :
    wpListIn F n P ops Q (o :: rest) a w := by
  refine wpListIn_plain hg fun K hK' => ?_
  obtain ⟨g', cap', w', hrun, r1, r2⟩ := run_app_src (P := P) w base t tx o.type e i z size bytes h1 h2 h3 h4 h5 h6 g cap k xs hown v m news hsrc b1 b2 b3
  unfold Oper.wpIn
  refine ⟨?_, ?_⟩
  · simp [Oper.about, hop, resolve, Target.leads, Sem.run_pure]
  · rw [Oper.semAt_plain F _ _ (by rw [hop]; intro c hc'; cases hc')]
    simp [execOp, hop, resolve, invoke, builtin, hs, hx, hrun, Result.andThen]
    exact hK' _ _ (hK g' cap' w' r1 r2)

theorem wp_app_src {P : Program} (w : World) {o : Oper} {a : Act} {K : Act → World → Prop} {Q : Exit → Act → World → Prop} (s x : Operand) (t tx : TypeId)
    (ho : o.op = .call { callee := .builtin .append, args := #[s, x], argTypes := #[t, tx] })
    (base : Nat) (e : TypeId) (i : TypeInfo) (z : Value) (size bytes : Nat) (h1 : P.underlying t = some (.slice e)) (h2 : P.info? e = some i) (h3 : i.zero = some z) (h4 : i.size = size) (h5 : i.bytes = bytes) (h6 : z.cells.size = size)
    (g cap k : Nat) (xs : List Value) (hs : a.eval s = .slice (some ⟨g, 0, none⟩) k cap) (hown : w.ownsRow base e size (.slice (some ⟨g, 0, none⟩) k cap) k xs) (v : Value) (m : Nat) (news : List Value) (hx : a.eval x = v) (hsrc : Src P size tx v m news w)
    (b1 : k + m ≤ maxLen) (b2 : (k + m) * bytes ≤ 140737488355328) (b3 : base ≤ w.heap.size)
    (h : ∀ g' cap' w', w'.ownsRow base e size (.slice (some ⟨g', 0, none⟩) (k + m) cap') (k + m) (xs ++ news) → w.grownBy w' (some g) → K (a.put o.dst (.slice (some ⟨g', 0, none⟩) (k + m) cap')) w') : o.wp P a w K Q := by
  obtain ⟨g', cap', w', hr, r1, r2⟩ := run_app_src (P := P) w base t tx o.type e i z size bytes h1 h2 h3 h4 h5 h6 g cap k xs hown v m news hsrc b1 b2 b3
  unfold Oper.wp execOp
  simp only [ho, resolve, invoke, builtin, Sem.run_bind, Sem.run_pure, Result.andThen_ok, List.map_toArray, List.map_cons, List.map_nil, hs, hx, hr]
  exact h g' cap' w' r1 r2

theorem wpList_app_src {P : Program} (w : World) {ops : Array Oper} {rest : List Oper} {o : Oper} {a : Act} {Q : Exit → Act → World → Prop} (hgd : o.guard = none) (s x : Operand) (t tx : TypeId)
    (ho : o.op = .call { callee := .builtin .append, args := #[s, x], argTypes := #[t, tx] })
    (base : Nat) (e : TypeId) (i : TypeInfo) (z : Value) (size bytes : Nat) (h1 : P.underlying t = some (.slice e)) (h2 : P.info? e = some i) (h3 : i.zero = some z) (h4 : i.size = size) (h5 : i.bytes = bytes) (h6 : z.cells.size = size)
    (g cap k : Nat) (xs : List Value) (hs : a.eval s = .slice (some ⟨g, 0, none⟩) k cap) (hown : w.ownsRow base e size (.slice (some ⟨g, 0, none⟩) k cap) k xs) (v : Value) (m : Nat) (news : List Value) (hx : a.eval x = v) (hsrc : Src P size tx v m news w)
    (b1 : k + m ≤ maxLen) (b2 : (k + m) * bytes ≤ 140737488355328) (b3 : base ≤ w.heap.size)
    (h : ∀ g' cap' w', w'.ownsRow base e size (.slice (some ⟨g', 0, none⟩) (k + m) cap') (k + m) (xs ++ news) → w.grownBy w' (some g) → wpList P ops Q rest (a.put o.dst (.slice (some ⟨g', 0, none⟩) (k + m) cap')) w') : wpList P ops Q (o :: rest) a w :=
  wpList_plain hgd fun _ hK => wp_app_src w s x t tx ho base e i z size bytes h1 h2 h3 h4 h5 h6 g cap k xs hs hown v m news hx hsrc b1 b2 b3 fun g' cap' w' r1 r2 => hK _ _ (h g' cap' w' r1 r2)
end Go.Proofs.YtlkeomcillencaaGreat
end
section
/- A slice of the call's own: one element more; rows of booleans; a store into a row. -/
namespace Go.Proofs.YtlkeomcillencaaGreat
open Go Go.RowKit

theorem cells_new (W : World) (cs : Array Value) (e : TypeId) : ∀ j u, cs.toList[j]? = some u → (W.alloc (.cells cs e)).cell? ((⟨W.heap.size, 0, none⟩ : Addr).add j) = some u := by
  intro j u hu
  have hadd : (⟨W.heap.size, 0, none⟩ : Addr).add j = ⟨W.heap.size, j, none⟩ := by unfold Addr.add; split <;> simp_all
  rw [hadd, cell_of_row _ W.heap.size j cs e (0, 0) (heap_alloc_new W _)]
  simpa using hu

/-- 'out = append(out, x)': x lies in the newest block. -/
theorem wpList_app_one {P : Program} {W w0 : World} {ops : Array Oper} {rest : List Oper} {o : Oper} {a : Act} {Q : Exit → Act → World → Prop} (hgd : o.guard = none) (s x : Operand) (t : TypeId)
    (ho : o.op = .call { callee := .builtin .append, args := #[s, x], argTypes := #[t, t] })
    (base : Nat) (e : TypeId) (i : TypeInfo) (z : Value) (size bytes : Nat) (ht : P.underlying t = some (.slice e)) (hi : P.info? e = some i) (hz : i.zero = some z)
    (hsize : i.size = size) (hby : i.bytes = bytes) (hzs : z.cells.size = size) (hsz : 0 < size)
    (v : Value) (n : Nat) (xs : List Value) (hs : a.eval s = v) (hown : W.ownsRow base e size v n xs)
    (cs : Array Value) (hx : a.eval x = .slice (some ⟨W.heap.size, 0, none⟩) 1 1) (hl : cs.size = size) (h1 : ∀ u ∈ cs.toList, u.oneCell' = true)
    (hn : n ≤ 1000000000) (hbs : bytes ≤ 1000) (hB : Below base w0 W) (hbase : base ≤ W.heap.size)
    (h : ∀ v' w', w'.ownsRow base e size v' (n + 1) (xs ++ cs.toList) → Below base w0 w' → base ≤ w'.heap.size → wpList P ops Q rest (a.put o.dst v') w') : wpList P ops Q (o :: rest) a (W.alloc (.cells cs e)) := by
  have hnb : (n + 1) * bytes ≤ 140737488355328 := Nat.le_trans (Nat.mul_le_mul (show n + 1 ≤ 1000000001 by omega) hbs) (by decide)
  refine wpList_append_own _ hgd s x t ho base e i z size bytes ht hi hz hsize hby hzs hsz v n xs hs (hown.alloc _) ⟨W.heap.size, 0, none⟩ 1 1 cs.toList hx (by simpa using hl) (cells_new W cs e) h1 (by unfold maxLen; omega) hnb (by simp; omega) ?_
  intro v' w' hown' hgrow _
  have hsz' := hgrow.size
  rw [World.size_alloc] at hsz'
  refine h v' w' hown' ((hB.alloc hbase _).grown hgrow (by simp; omega) fun k hk => (hown.lt k hk).1) (by omega)

theorem wpList_app_oneN {P : Program} {W w0 : World} {ops : Array Oper} {rest : List Oper} {o : Oper} {a : Act} {Q : Exit → Act → World → Prop} (hgd : o.guard = none) (s x : Operand) (t : TypeId)
    (ho : o.op = .call { callee := .builtin .append, args := #[s, x], argTypes := #[t, t] })
    (base : Nat) (e : TypeId) (i : TypeInfo) (z : Value) (size bytes : Nat) (ht : P.underlying t = some (.slice e)) (hi : P.info? e = some i) (hz : i.zero = some z)
    (hsize : i.size = size) (hby : i.bytes = bytes) (hzs : z.cells.size = size) (hsz : 0 < size)
    (v : Value) (n : Nat) (xs : List Value) (hs : a.eval s = v) (hown : W.ownsRow base e size v n xs)
    (cs : Array Value) (N : Nat) (hx : a.eval x = .slice (some ⟨N, 0, none⟩) 1 1) (hN : W.heap.size = N) (hl : cs.size = size) (h1 : ∀ u ∈ cs.toList, u.oneCell' = true)
    (hn : n ≤ 1000000000) (hbs : bytes ≤ 1000) (hB : Below base w0 W) (hbase : base ≤ W.heap.size)
    (h : ∀ v' w', w'.ownsRow base e size v' (n + 1) (xs ++ cs.toList) → Below base w0 w' → base ≤ w'.heap.size → wpList P ops Q rest (a.put o.dst v') w') : wpList P ops Q (o :: rest) a (W.alloc (.cells cs e)) := by
  subst hN
  exact wpList_app_one hgd s x t ho base e i z size bytes ht hi hz hsize hby hzs hsz v n xs hs hown cs hx hl h1 hn hbs hB hbase h

/-- the same, as a step of a region whose order is drawn -/
theorem step_app_oneN {P : Program} {W w0 : World} {ys : Nat → Option Bool} {o : Oper} {a : Act} {K : Act → World → Prop} {Q : Exit → Act → World → Prop} {E : Prop} (hgd : o.guard = none) (s x : Operand) (t : TypeId)
    (ho : o.op = .call { callee := .builtin .append, args := #[s, x], argTypes := #[t, t] })
    (base : Nat) (e : TypeId) (i : TypeInfo) (z : Value) (size bytes : Nat) (ht : P.underlying t = some (.slice e)) (hi : P.info? e = some i) (hz : i.zero = some z)
    (hsize : i.size = size) (hby : i.bytes = bytes) (hzs : z.cells.size = size) (hsz : 0 < size)
    (v : Value) (n : Nat) (xs : List Value) (hs : a.eval s = v) (hown : W.ownsRow base e size v n xs)
    (cs : Array Value) (N : Nat) (hx : a.eval x = .slice (some ⟨N, 0, none⟩) 1 1) (hN : W.heap.size = N) (hl : cs.size = size) (h1 : ∀ u ∈ cs.toList, u.oneCell' = true)
    (hn : n ≤ 1000000000) (hbs : bytes ≤ 1000) (hB : Below base w0 W) (hbase : base ≤ W.heap.size)
    (h : ∀ v' w', w'.ownsRow base e size v' (n + 1) (xs ++ cs.toList) → Below base w0 w' → base ≤ w'.heap.size → K (a.put o.dst v') w') : if Region.wanted o ys = true then Oper.wp P o a (W.alloc (.cells cs e)) K Q else E := by
  subst hN
  rw [if_pos (by simp [Region.wanted, hgd])]
  have hnb : (n + 1) * bytes ≤ 140737488355328 := Nat.le_trans (Nat.mul_le_mul (show n + 1 ≤ 1000000001 by omega) hbs) (by decide)
  refine wp_append_own _ s x t ho base e i z size bytes ht hi hz hsize hby hzs hsz v n xs hs (hown.alloc _) ⟨W.heap.size, 0, none⟩ 1 1 cs.toList hx (by simpa using hl) (cells_new W cs e) h1 (by unfold maxLen; omega) hnb (by simp; omega) ?_
  intro v' w' hown' hgrow _
  have hsz' := hgrow.size
  rw [World.size_alloc] at hsz'
  exact h v' w' hown' ((hB.alloc hbase _).grown hgrow (by simp; omega) fun k hk => (hown.lt k hk).1) (by omega)

/-- 'string(out)', out a slice of bytes of the call's own -/
theorem conv_owned {P : Program} (W : World) (src dst e : TypeId) (base : Nat) (v : Value) (l : List UInt8) (hs : P.underlying src = some (.slice e)) (he : P.underlying e = some (.int .u8)) (hd : P.underlying dst = some .string)
    (h : W.ownsRow base e 1 v l.length (l.map fun b => Value.int .u8 b.toNat)) :
    (convert src dst v).run P W = .ok (.string (bs l)) W := by
  rcases h.2 with ⟨rfl, hn⟩ | ⟨g, cap, cur, rfl, hrest⟩
  · have hl : l = [] := List.length_eq_zero_iff.1 hn
    subst hl
    exact run_convert_bytes_nil W src e hs he 0 0 dst hd
  · exact run_convert_bytes_back W src dst e ⟨g, 0, none⟩ cap l hs he hd fun j hj => h.cells (g := g) rfl j _ (by simp [hj])

/-- booleans as cells -/
def bl (f : Nat → Bool) (n : Nat) : List Value := (List.range n).map fun i => .bool (f i)
theorem bl_len (f : Nat → Bool) (n : Nat) : (bl f n).length = n := by simp [bl]
theorem bl_get (f : Nat → Bool) {n j : Nat} (h : j < n) : (bl f n)[j]? = some (.bool (f j)) := by simp [bl, h]
theorem bl_set (f g : Nat → Bool) {n j : Nat} (b : Bool) (hj : f j = b) (h : ∀ i, i < n → i ≠ j → f i = g i) : (bl g n).set j (.bool b) = bl f n := by
  apply List.ext_getElem?
  intro i
  rw [List.getElem?_set]
  by_cases e : j = i
  · subst e
    rw [if_pos rfl]
    by_cases hl : j < n
    · rw [bl_get f hl, hj]; simp [bl_len, hl]
    · rw [if_neg (by rw [bl_len]; exact hl), List.getElem?_eq_none (by rw [bl_len]; omega)]
  · rw [if_neg e]
    by_cases hl : i < n
    · rw [bl_get f hl, bl_get g hl, h i hl (fun h => e h.symm)]
    · rw [List.getElem?_eq_none (by rw [bl_len]; omega), List.getElem?_eq_none (by rw [bl_len]; omega)]
theorem bl_false (n : Nat) : (madeCells #[.bool false] n).toList = bl (fun _ => false) n := by
  rw [toList_madeCells_one]
  apply List.ext_getElem?
  intro i
  by_cases h : i < n
  · rw [bl_get _ h]; simp [h]
  · simp [bl, h]
end Go.Proofs.YtlkeomcillencaaGreat
end
section
/- One element more, told as what the call leaves as it lay: in a plain walk, in a fence, in a region whose order is drawn. -/
namespace Go.Proofs.YtlkeomcillencaaGreat
open Go Go.RowKit

theorem wpList_app_fr {P : Program} {W : World} {ops : Array Oper} {rest : List Oper} {o : Oper} {a : Act} {Q : Exit → Act → World → Prop} (hgd : o.guard = none) (s x : Operand) (t : TypeId)
    (ho : o.op = .call { callee := .builtin .append, args := #[s, x], argTypes := #[t, t] })
    (base : Nat) (e : TypeId) (i : TypeInfo) (z : Value) (size bytes : Nat) (ht : P.underlying t = some (.slice e)) (hi : P.info? e = some i) (hz : i.zero = some z)
    (hsize : i.size = size) (hby : i.bytes = bytes) (hzs : z.cells.size = size) (hsz : 0 < size)
    (v : Value) (n : Nat) (xs : List Value) (hs : a.eval s = v) (hown : W.ownsRow base e size v n xs)
    (cs : Array Value) (N : Nat) (hx : a.eval x = .slice (some ⟨N, 0, none⟩) 1 1) (hN : W.heap.size = N) (hl : cs.size = size) (h1 : ∀ u ∈ cs.toList, u.oneCell' = true)
    (hn : n ≤ 1000000000) (hbs : bytes ≤ 1000) (hbase : base ≤ W.heap.size)
    (h : ∀ v' w', w'.ownsRow base e size v' (n + 1) (xs ++ cs.toList) → Fr (fun k => v.ownBlock = some k) W w' → wpList P ops Q rest (a.put o.dst v') w') :
    wpList P ops Q (o :: rest) a (W.alloc (.cells cs e)) := by
  subst hN
  have hnb : (n + 1) * bytes ≤ 140737488355328 := Nat.le_trans (Nat.mul_le_mul (show n + 1 ≤ 1000000001 by omega) hbs) (by decide)
  refine wpList_append_own _ hgd s x t ho base e i z size bytes ht hi hz hsize hby hzs hsz v n xs hs (hown.alloc _) ⟨W.heap.size, 0, none⟩ 1 1 cs.toList hx (by simpa using hl) (cells_new W cs e) h1 (by unfold maxLen; omega) hnb (by simp; omega) ?_
  intro v' w' hown' hgrow _
  exact h v' w' hown' (((Fr.refl _ W).alloc _).grown hgrow fun k hk => .inr hk)
theorem wpListIn_app_fr {P : Program} {W : World} {F : Fence} {fn : Nat} {ops : Array Oper} {rest : List Oper} {o : Oper} {a : Act} {Q : Exit → Act → World → Prop} (hgd : o.guard = none) (s x : Operand) (t : TypeId)
    (ho : o.op = .call { callee := .builtin .append, args := #[s, x], argTypes := #[t, t] })
    (base : Nat) (e : TypeId) (i : TypeInfo) (z : Value) (size bytes : Nat) (ht : P.underlying t = some (.slice e)) (hi : P.info? e = some i) (hz : i.zero = some z)
    (hsize : i.size = size) (hby : i.bytes = bytes) (hzs : z.cells.size = size) (hsz : 0 < size)
    (v : Value) (n : Nat) (xs : List Value) (hs : a.eval s = v) (hown : W.ownsRow base e size v n xs)
    (cs : Array Value) (N : Nat) (hx : a.eval x = .slice (some ⟨N, 0, none⟩) 1 1) (hN : W.heap.size = N) (hl : cs.size = size) (h1 : ∀ u ∈ cs.toList, u.oneCell' = true)
    (hn : n ≤ 1000000000) (hbs : bytes ≤ 1000) (hbase : base ≤ W.heap.size)
    (h : ∀ v' w', w'.ownsRow base e size v' (n + 1) (xs ++ cs.toList) → Fr (fun k => v.ownBlock = some k) W w' → wpListIn F fn P ops Q rest (a.put o.dst v') w') :
    wpListIn F fn P ops Q (o :: rest) a (W.alloc (.cells cs e)) := by
  subst hN
  have hnb : (n + 1) * bytes ≤ 140737488355328 := Nat.le_trans (Nat.mul_le_mul (show n + 1 ≤ 1000000001 by omega) hbs) (by decide)
  refine wpListIn_append_own _ hgd s x t ho base e i z size bytes ht hi hz hsize hby hzs hsz v n xs hs (hown.alloc _) ⟨W.heap.size, 0, none⟩ 1 1 cs.toList hx (by simpa using hl) (cells_new W cs e) h1 (by unfold maxLen; omega) hnb (by simp; omega) ?_
  intro v' w' hown' hgrow _
  exact h v' w' hown' (((Fr.refl _ W).alloc _).grown hgrow fun k hk => .inr hk)
theorem step_app_fr {P : Program} {W : World} {ys : Nat → Option Bool} {K : Act → World → Prop} {E : Prop} {o : Oper} {a : Act} {Q : Exit → Act → World → Prop} (hgd : o.guard = none) (s x : Operand) (t : TypeId)
    (ho : o.op = .call { callee := .builtin .append, args := #[s, x], argTypes := #[t, t] })
    (base : Nat) (e : TypeId) (i : TypeInfo) (z : Value) (size bytes : Nat) (ht : P.underlying t = some (.slice e)) (hi : P.info? e = some i) (hz : i.zero = some z)
    (hsize : i.size = size) (hby : i.bytes = bytes) (hzs : z.cells.size = size) (hsz : 0 < size)
    (v : Value) (n : Nat) (xs : List Value) (hs : a.eval s = v) (hown : W.ownsRow base e size v n xs)
    (cs : Array Value) (N : Nat) (hx : a.eval x = .slice (some ⟨N, 0, none⟩) 1 1) (hN : W.heap.size = N) (hl : cs.size = size) (h1 : ∀ u ∈ cs.toList, u.oneCell' = true)
    (hn : n ≤ 1000000000) (hbs : bytes ≤ 1000) (hbase : base ≤ W.heap.size)
    (h : ∀ v' w', w'.ownsRow base e size v' (n + 1) (xs ++ cs.toList) → Fr (fun k => v.ownBlock = some k) W w' → K (a.put o.dst v') w') :
    if Region.wanted o ys = true then Oper.wp P o a (W.alloc (.cells cs e)) K Q else E := by
  subst hN
  have hnb : (n + 1) * bytes ≤ 140737488355328 := Nat.le_trans (Nat.mul_le_mul (show n + 1 ≤ 1000000001 by omega) hbs) (by decide)
  rw [if_pos (by simp [Region.wanted, hgd])]
  refine wp_append_own _ s x t ho base e i z size bytes ht hi hz hsize hby hzs hsz v n xs hs (hown.alloc _) ⟨W.heap.size, 0, none⟩ 1 1 cs.toList hx (by simpa using hl) (cells_new W cs e) h1 (by unfold maxLen; omega) hnb (by simp; omega) ?_
  intro v' w' hown' hgrow _
  exact h v' w' hown' (((Fr.refl _ W).alloc _).grown hgrow fun k hk => .inr hk)
/-- a slice in its box, one element more -/
theorem fr_own {W W' : World} {base : Nat} {e : TypeId} {size : Nat} {v : Value} {n : Nat} {xs : List Value} (hown : W.ownsRow base e size v n xs) (h : Fr (fun k => v.ownBlock = some k) W W') {B : Nat} (hB : B < base) (hBl : B < W.heap.size) : W'.heap[B]? = W.heap[B]? :=
  h.block B hBl fun e => by have := (hown.lt B e).1; omega
theorem own_cells {W : World} {base : Nat} {e : TypeId} {size : Nat} {v : Value} {n : Nat} {xs : List Value} (hown : W.ownsRow base e size v n xs) (k : Nat) (hk : v.ownBlock = some k) : ∃ o, W.heap[k]? = some o ∧ o.isCells = true := by
  rcases hown.2 with ⟨rfl, _⟩ | ⟨g, cap, cur, rfl, _, h3, _⟩
  · cases hk
  · cases hk; exact ⟨_, h3, rfl⟩
end Go.Proofs.YtlkeomcillencaaGreat
end
section
/- append, with the word that the block of what comes is that of the slice, or a new one. -/
namespace Go.Proofs.YtlkeomcillencaaGreat
open Go Go.RowKit

theorem run_append_tie {P : Program} (w : World) (base : Nat) (t ty e : TypeId) (i : TypeInfo) (z : Value) (size bytes : Nat) (ht : P.underlying t = some (.slice e)) (hi : P.info? e = some i) (hz : i.zero = some z)
    (hsize : i.size = size) (hby : i.bytes = bytes) (v : Value) (n : Nat) (xs : List Value) (hown : w.ownsRow base e size v n xs)
    (a : Addr) (m c : Nat) (news : List Value) (hl : news.length = m * size) (hnews : ∀ j u, news[j]? = some u → w.cell? (a.add j) = some u) (h1 : ∀ u ∈ news, u.oneCell' = true)
    (h63 : n + m ≤ maxLen) (hbytes : (n + m) * bytes ≤ 140737488355328) {v' : Value} {w' : World} (hr' : (Builtin.append_ #[t, t] ty #[v, .slice (some a) m c]).run P w = .ok v' w') :
    ∀ k, v'.ownBlock = some k → v.ownBlock = some k ∨ w.heap.size ≤ k := by
  subst hsize
  subst hby
  have hsmall : n + m ≤ 9223372036854775807 := by simp only [maxLen] at h63; omega
  rcases hown.2 with ⟨rfl, rfl⟩ | ⟨g, cap, cur, rfl, hbg, hg, hnc, hcm, hcs, htake⟩
  · have hx : xs = [] := List.eq_nil_of_length_eq_zero (by simpa using hown.1)
    subst hx
    by_cases hm : m = 0
    · subst hm
      have hr : (Builtin.append_ #[t, t] ty #[.slice none 0 0, .slice (some a) 0 c]).run P w = .ok (.slice none 0 0) w := by
        simp [Builtin.append_, run_underlying ht, sizeOf, typeInfo, hi, Builtin.lenOf, Builtin.firstCells, loadCells, loadCellsFrom]
      rw [hr] at hr'
      cases hr'
      intro k hk; cases hk
    · have hr := run_append_nil (P := P) w t ty e i z ht hi hz a m c news hl hnews (by omega) (by omega) (by have hb := hbytes; simp only [Nat.zero_add] at hb; omega)
      rw [hr] at hr'
      cases hr'
      intro k hk; cases hk; exact .inr (Nat.le_refl _)
  · by_cases hroom : n + m ≤ cap
    · have hfit : n * i.size + news.length ≤ cur.size := by rw [hl, hcs, ← Nat.add_mul]; exact Nat.mul_le_mul_right _ hroom
      have hr := run_append_room (P := P) w t ty e i ht hi g n cap cur hg a m c news hl hnews h1 hroom hfit
      rw [hr] at hr'
      cases hr'
      intro k hk; exact .inl hk
    · have holds : ∀ j u, xs[j]? = some u → w.cell? ((⟨g, 0, none⟩ : Addr).add j) = some u := hown.cells (g := g) rfl
      have hr := run_append_grow (P := P) w t ty e i z ht hi hz ⟨g, 0, none⟩ n cap xs hown.1 holds a m c news hl hnews (by omega) (by omega) (growslice_fits (by omega) hbytes)
      rw [hr] at hr'
      cases hr'
      intro k hk; cases hk; exact .inr (Nat.le_refl _)

section
variable {P : Program} {W : World} {ops : Array Oper} {rest : List Oper} {o : Oper} {a : Act} {Q : Exit → Act → World → Prop}
/-- any slice behind a slice of the call's own -/
theorem wpList_app_t (hgd : o.guard = none) (s x : Operand) (t : TypeId)
    (ho : o.op = .call { callee := .builtin .append, args := #[s, x], argTypes := #[t, t] })
    (base : Nat) (e : TypeId) (i : TypeInfo) (z : Value) (size bytes : Nat) (ht : P.underlying t = some (.slice e)) (hi : P.info? e = some i) (hz : i.zero = some z)
    (hsize : i.size = size) (hby : i.bytes = bytes) (hzs : z.cells.size = size) (hsz : 0 < size)
    (v : Value) (n : Nat) (xs : List Value) (hs : a.eval s = v) (hown : W.ownsRow base e size v n xs)
    (ad : Addr) (m c : Nat) (news : List Value) (hx : a.eval x = .slice (some ad) m c) (hl : news.length = m * size) (hnews : ∀ j u, news[j]? = some u → W.cell? (ad.add j) = some u) (h1 : ∀ u ∈ news, u.oneCell' = true)
    (hn : n + m ≤ 1000000000) (hbs : bytes ≤ 1000) (hbase : base ≤ W.heap.size)
    (h : ∀ v' w', w'.ownsRow base e size v' (n + m) (xs ++ news) → Fr (fun k => v.ownBlock = some k) W w' → (∀ k, v'.ownBlock = some k → v.ownBlock = some k ∨ W.heap.size ≤ k) → wpList P ops Q rest (a.put o.dst v') w') :
    wpList P ops Q (o :: rest) a W := by
  have hnb : (n + m) * bytes ≤ 140737488355328 := Nat.le_trans (Nat.mul_le_mul hn hbs) (by decide)
  have h63 : n + m ≤ maxLen := by unfold maxLen; omega
  refine wpList_plain hgd fun _ hK => ?_
  obtain ⟨v', w', hr, h2, h3, h4⟩ := run_append_own (P := P) W base t o.type e i z size bytes ht hi hz hsize hby hzs hsz v n xs hown ad m c news hl hnews h1 h63 hnb hbase
  have htie := run_append_tie W base t o.type e i z size bytes ht hi hz hsize hby v n xs hown ad m c news hl hnews h1 h63 hnb hr
  unfold Oper.wp execOp
  simp only [ho, resolve, invoke, builtin, Sem.run_bind, Sem.run_pure, Result.andThen_ok, List.map_toArray, List.map_cons, List.map_nil, hs, hx, hr]
  exact hK _ _ (h v' w' h2 ((Fr.refl _ W).grown h3 fun k hk => .inr hk) htie)
theorem wpListIn_app_t {F : Fence} {fn : Nat} (hgd : o.guard = none) (s x : Operand) (t : TypeId)
    (ho : o.op = .call { callee := .builtin .append, args := #[s, x], argTypes := #[t, t] })
    (base : Nat) (e : TypeId) (i : TypeInfo) (z : Value) (size bytes : Nat) (ht : P.underlying t = some (.slice e)) (hi : P.info? e = some i) (hz : i.zero = some z)
    (hsize : i.size = size) (hby : i.bytes = bytes) (hzs : z.cells.size = size) (hsz : 0 < size)
    (v : Value) (n : Nat) (xs : List Value) (hs : a.eval s = v) (hown : W.ownsRow base e size v n xs)
    (ad : Addr) (m c : Nat) (news : List Value) (hx : a.eval x = .slice (some ad) m c) (hl : news.length = m * size) (hnews : ∀ j u, news[j]? = some u → W.cell? (ad.add j) = some u) (h1 : ∀ u ∈ news, u.oneCell' = true)
    (hn : n + m ≤ 1000000000) (hbs : bytes ≤ 1000) (hbase : base ≤ W.heap.size)
    (h : ∀ v' w', w'.ownsRow base e size v' (n + m) (xs ++ news) → Fr (fun k => v.ownBlock = some k) W w' → (∀ k, v'.ownBlock = some k → v.ownBlock = some k ∨ W.heap.size ≤ k) → wpListIn F fn P ops Q rest (a.put o.dst v') w') :
    wpListIn F fn P ops Q (o :: rest) a W := by
  have hnb : (n + m) * bytes ≤ 140737488355328 := Nat.le_trans (Nat.mul_le_mul hn hbs) (by decide)
  have h63 : n + m ≤ maxLen := by unfold maxLen; omega
  refine wpListIn_plain hgd fun K hK' => ?_
  obtain ⟨v', w', hr, h2, h3, h4⟩ := run_append_own (P := P) W base t o.type e i z size bytes ht hi hz hsize hby hzs hsz v n xs hown ad m c news hl hnews h1 h63 hnb hbase
  have htie := run_append_tie W base t o.type e i z size bytes ht hi hz hsize hby v n xs hown ad m c news hl hnews h1 h63 hnb hr
  unfold Oper.wpIn
  refine ⟨?_, ?_⟩
  · simp [Oper.about, ho, resolve, Target.leads, Sem.run_pure]
  · rw [Oper.semAt_plain F _ _ (by rw [ho]; intro c hc'; cases hc')]
    simp [execOp, ho, resolve, invoke, builtin, hs, hx, hr, Result.andThen]
    exact hK' _ _ (h v' w' h2 ((Fr.refl _ W).grown h3 fun k hk => .inr hk) htie)
/-- one element more, that lies in the newest block -/
theorem wpList_one_t (hgd : o.guard = none) (s x : Operand) (t : TypeId)
    (ho : o.op = .call { callee := .builtin .append, args := #[s, x], argTypes := #[t, t] })
    (base : Nat) (e : TypeId) (i : TypeInfo) (z : Value) (size bytes : Nat) (ht : P.underlying t = some (.slice e)) (hi : P.info? e = some i) (hz : i.zero = some z)
    (hsize : i.size = size) (hby : i.bytes = bytes) (hzs : z.cells.size = size) (hsz : 0 < size)
    (v : Value) (n : Nat) (xs : List Value) (hs : a.eval s = v) (hown : W.ownsRow base e size v n xs)
    (cs : Array Value) (N : Nat) (hx : a.eval x = .slice (some ⟨N, 0, none⟩) 1 1) (hN : W.heap.size = N) (hl : cs.size = size) (h1 : ∀ u ∈ cs.toList, u.oneCell' = true)
    (hn : n ≤ 900000000) (hbs : bytes ≤ 1000) (hbase : base ≤ W.heap.size)
    (h : ∀ v' w', w'.ownsRow base e size v' (n + 1) (xs ++ cs.toList) → Fr (fun k => v.ownBlock = some k) W w' → (∀ k, v'.ownBlock = some k → v.ownBlock = some k ∨ W.heap.size ≤ k) → wpList P ops Q rest (a.put o.dst v') w') :
    wpList P ops Q (o :: rest) a (W.alloc (.cells cs e)) := by
  subst hN
  refine wpList_app_t hgd s x t ho base e i z size bytes ht hi hz hsize hby hzs hsz v n xs hs (hown.alloc _) ⟨W.heap.size, 0, none⟩ 1 1 cs.toList hx (by simpa using hl) (cells_new W cs e) h1 (by omega) hbs (by simp; omega) fun v' w' h2 h3 h4 => ?_
  exact h v' w' h2 (((Fr.refl _ W).alloc _).trans3 h3 fun k _ e => e) fun k hk => (h4 k hk).imp id fun e => by simp at e; omega
theorem wpListIn_one_t {F : Fence} {fn : Nat} (hgd : o.guard = none) (s x : Operand) (t : TypeId)
    (ho : o.op = .call { callee := .builtin .append, args := #[s, x], argTypes := #[t, t] })
    (base : Nat) (e : TypeId) (i : TypeInfo) (z : Value) (size bytes : Nat) (ht : P.underlying t = some (.slice e)) (hi : P.info? e = some i) (hz : i.zero = some z)
    (hsize : i.size = size) (hby : i.bytes = bytes) (hzs : z.cells.size = size) (hsz : 0 < size)
    (v : Value) (n : Nat) (xs : List Value) (hs : a.eval s = v) (hown : W.ownsRow base e size v n xs)
    (cs : Array Value) (N : Nat) (hx : a.eval x = .slice (some ⟨N, 0, none⟩) 1 1) (hN : W.heap.size = N) (hl : cs.size = size) (h1 : ∀ u ∈ cs.toList, u.oneCell' = true)
    (hn : n ≤ 900000000) (hbs : bytes ≤ 1000) (hbase : base ≤ W.heap.size)
    (h : ∀ v' w', w'.ownsRow base e size v' (n + 1) (xs ++ cs.toList) → Fr (fun k => v.ownBlock = some k) W w' → (∀ k, v'.ownBlock = some k → v.ownBlock = some k ∨ W.heap.size ≤ k) → wpListIn F fn P ops Q rest (a.put o.dst v') w') :
    wpListIn F fn P ops Q (o :: rest) a (W.alloc (.cells cs e)) := by
  subst hN
  refine wpListIn_app_t hgd s x t ho base e i z size bytes ht hi hz hsize hby hzs hsz v n xs hs (hown.alloc _) ⟨W.heap.size, 0, none⟩ 1 1 cs.toList hx (by simpa using hl) (cells_new W cs e) h1 (by omega) hbs (by simp; omega) fun v' w' h2 h3 h4 => ?_
  exact h v' w' h2 (((Fr.refl _ W).alloc _).trans3 h3 fun k _ e => e) fun k hk => (h4 k hk).imp id fun e => by simp at e; omega
end
end Go.Proofs.YtlkeomcillencaaGreat
end
section
/- append onto a slice of the call's own, nil or not, from whatever source (a text, a slice, nil), with the word of whose block it is. -/
namespace Go.Proofs.YtlkeomcillencaaGreat
open Go Go.RowKit

theorem run_app_any {P : Program} (w : World) (base : Nat) (t tx ty e : TypeId) (i : TypeInfo) (z : Value) (size bytes : Nat) (ht : P.underlying t = some (.slice e)) (hi : P.info? e = some i) (hz : i.zero = some z)
    (hsize : i.size = size) (hby : i.bytes = bytes) (hzs : z.cells.size = size) (v : Value) (n : Nat) (xs : List Value)
    (hown : w.ownsRow base e size v n xs) (x : Value) (m : Nat) (news : List Value) (hs : Src P size tx x m news w)
    (h63 : n + m ≤ maxLen) (hbytes : (n + m) * bytes ≤ 140737488355328) (hbase : base ≤ w.heap.size) :
    ∃ v' w', (Builtin.append_ #[t, tx] ty #[v, x]).run P w = .ok v' w' ∧ w'.ownsRow base e size v' (n + m) (xs ++ news) ∧ Fr (fun k => v.ownBlock = some k) w w' ∧ (∀ k, v'.ownBlock = some k → v.ownBlock = some k ∨ w.heap.size ≤ k) := by
  subst hsize
  subst hby
  have hsmall : n + m ≤ 9223372036854775807 := by simp only [maxLen] at h63; omega
  have hlen : (xs ++ news).length = (n + m) * i.size := by rw [List.length_append, hown.1, hs.newsLen, Nat.add_mul]
  have hown' := hown
  have fresh : ∀ (old : Nat) (olds : List Value), olds = xs → ∀ X, Fr X w (w.drew.alloc (.cells ((olds ++ news).toArray ++ Builtin.zeroCells z.cells (grownCap w (n + m) old e - (n + m))) e)) ∧
      (w.drew.alloc (.cells ((olds ++ news).toArray ++ Builtin.zeroCells z.cells (grownCap w (n + m) old e - (n + m))) e)).ownsRow base e i.size (.slice (some ⟨w.heap.size, 0, none⟩) (n + m) (grownCap w (n + m) old e)) (n + m) (xs ++ news) := by
    rintro old olds rfl X
    refine ⟨((Fr.refl _ w).drew).alloc _, ⟨hlen, .inr ⟨w.heap.size, _, _, rfl, hbase, heap_alloc_new w.drew _, grownCap_ge w (n + m) old e, grownCap_le_maxLen w (n + m) old e h63, ?_, ?_⟩⟩⟩
    · simp only [Array.size_append, List.size_toArray, size_zeroCells, hzs, hlen, ← Nat.add_mul]
      have := grownCap_ge w (n + m) old e
      congr 1
      omega
    · simp only [Array.toList_append]
      rw [← hlen]
      exact List.take_left
  rcases hown.2 with ⟨rfl, rfl⟩ | ⟨g, cap, cur, rfl, hbg, hg, hnc, hcm, hcs, htake⟩
  · have hx : xs = [] := List.eq_nil_of_length_eq_zero (by simpa using hown.1)
    subst hx
    by_cases hm : m = 0
    · subst hm
      have hn0 : news = [] := List.eq_nil_of_length_eq_zero (by simpa using hs.newsLen)
      subst hn0
      have hr : (Builtin.append_ #[t, tx] ty #[.slice none 0 0, x]).run P w = .ok (.slice none 0 0) w := by
        have hl0 : ∀ w' : World, (Builtin.lenOf (.slice none 0 0)).run P w' = .ok 0 w' := fun _ => rfl
        rcases hs.kind with ⟨e', hk⟩ | hk <;> simp [Builtin.append_, run_underlying ht, run_underlying hk, sizeOf, typeInfo, hi, hl0, hs.len, hs.cells]
      exact ⟨_, _, hr, by simpa using hown', Fr.refl _ _, (fun k hk => .inl hk)⟩
    · have hr := run_append_grow_src (P := P) w t tx ty e i z ht hi hz none 0 0 [] (run_firstCells_none w.drew i.size 0 0 0) x m news hs (by omega) (by omega) (growslice_fits (by omega) hbytes)
      obtain ⟨f1, f2⟩ := fresh 0 [] rfl (fun k => (Value.slice none 0 0).ownBlock = some k)
      exact ⟨_, _, hr, f2, f1, fun k hk => by cases hk; exact .inr (Nat.le_refl _)⟩
  · by_cases hroom : n + m ≤ cap
    · have hfit : n * i.size + news.length ≤ cur.size := by rw [hs.newsLen, hcs, ← Nat.add_mul]; exact Nat.mul_le_mul_right _ hroom
      have hr := run_room_src (P := P) w t tx ty e i ht hi g n cap cur hg x m news hs hroom hfit
      refine ⟨_, _, hr, ⟨hlen, .inr ⟨g, cap, _, rfl, hbg, setRow_heap w g cur _ e _ hg, hroom, hcm, ?_, ?_⟩⟩, ⟨rfl, rfl, rfl, by simp, fun k _ hk => setRow_other w g k _ (fun e => hk (by simp [Value.ownBlock, e]))⟩, fun k hk => .inl hk⟩
      · simp only [List.size_toArray, List.length_append, List.length_take, List.length_drop, Array.length_toList]
        omega
      · rw [htake, ← hlen]
        exact List.take_left
    · have holds : ∀ j u, xs[j]? = some u → w.cell? ((⟨g, 0, none⟩ : Addr).add j) = some u := hown'.cells (g := g) rfl
      have hold := run_firstCells_some (P := P) w.drew i.size n ⟨g, 0, none⟩ n cap xs hown'.1 (by simpa using holds)
      have hr := run_append_grow_src (P := P) w t tx ty e i z ht hi hz (some ⟨g, 0, none⟩) n cap xs hold x m news hs (by omega) (by omega) (growslice_fits (by omega) hbytes)
      obtain ⟨f1, f2⟩ := fresh cap xs rfl (fun k => (Value.slice (some ⟨g, 0, none⟩) n cap).ownBlock = some k)
      exact ⟨_, _, hr, f2, f1, fun k hk => by cases hk; exact .inr (Nat.le_refl _)⟩
section
variable {P : Program} {w : World} {ops : Array Oper} {rest : List Oper} {o : Oper} {a : Act} {Q : Exit → Act → World → Prop}
theorem wpList_app_u (hgd : o.guard = none) (s x : Operand) (t tx : TypeId)
    (ho : o.op = .call { callee := .builtin .append, args := #[s, x], argTypes := #[t, tx] })
    (base : Nat) (e : TypeId) (i : TypeInfo) (z : Value) (size bytes : Nat) (h1 : P.underlying t = some (.slice e)) (h2 : P.info? e = some i) (h3 : i.zero = some z) (h4 : i.size = size) (h5 : i.bytes = bytes) (h6 : z.cells.size = size)
    (v : Value) (n : Nat) (xs : List Value) (hs : a.eval s = v) (hown : w.ownsRow base e size v n xs) (u : Value) (m : Nat) (news : List Value) (hx : a.eval x = u) (hsrc : Src P size tx u m news w)
    (b1 : n + m ≤ 1000000000) (b2 : bytes ≤ 1000) (b3 : base ≤ w.heap.size)
    (h : ∀ v' w', w'.ownsRow base e size v' (n + m) (xs ++ news) → Fr (fun k => v.ownBlock = some k) w w' → (∀ k, v'.ownBlock = some k → v.ownBlock = some k ∨ w.heap.size ≤ k) → wpList P ops Q rest (a.put o.dst v') w') : wpList P ops Q (o :: rest) a w := by
  refine wpList_plain hgd fun _ hK => ?_
  obtain ⟨v', w', hr, r1, r2, r3⟩ := run_app_any (P := P) w base t tx o.type e i z size bytes h1 h2 h3 h4 h5 h6 v n xs hown u m news hsrc (by unfold maxLen; omega) (Nat.le_trans (Nat.mul_le_mul b1 b2) (by decide)) b3
  unfold Oper.wp execOp
  simp only [ho, resolve, invoke, builtin, Sem.run_bind, Sem.run_pure, Result.andThen_ok, List.map_toArray, List.map_cons, List.map_nil, hs, hx, hr]
  exact hK _ _ (h v' w' r1 r2 r3)
theorem wpListIn_app_u {F : Fence} {fn : Nat} (hgd : o.guard = none) (s x : Operand) (t tx : TypeId)
    (ho : o.op = .call { callee := .builtin .append, args := #[s, x], argTypes := #[t, tx] })
    (base : Nat) (e : TypeId) (i : TypeInfo) (z : Value) (size bytes : Nat) (h1 : P.underlying t = some (.slice e)) (h2 : P.info? e = some i) (h3 : i.zero = some z) (h4 : i.size = size) (h5 : i.bytes = bytes) (h6 : z.cells.size = size)
    (v : Value) (n : Nat) (xs : List Value) (hs : a.eval s = v) (hown : w.ownsRow base e size v n xs) (u : Value) (m : Nat) (news : List Value) (hx : a.eval x = u) (hsrc : Src P size tx u m news w)
    (b1 : n + m ≤ 1000000000) (b2 : bytes ≤ 1000) (b3 : base ≤ w.heap.size)
    (h : ∀ v' w', w'.ownsRow base e size v' (n + m) (xs ++ news) → Fr (fun k => v.ownBlock = some k) w w' → (∀ k, v'.ownBlock = some k → v.ownBlock = some k ∨ w.heap.size ≤ k) → wpListIn F fn P ops Q rest (a.put o.dst v') w') : wpListIn F fn P ops Q (o :: rest) a w := by
  refine wpListIn_plain hgd fun K hK' => ?_
  obtain ⟨v', w', hr, r1, r2, r3⟩ := run_app_any (P := P) w base t tx o.type e i z size bytes h1 h2 h3 h4 h5 h6 v n xs hown u m news hsrc (by unfold maxLen; omega) (Nat.le_trans (Nat.mul_le_mul b1 b2) (by decide)) b3
  unfold Oper.wpIn
  refine ⟨?_, ?_⟩
  · simp [Oper.about, ho, resolve, Target.leads, Sem.run_pure]
  · rw [Oper.semAt_plain F _ _ (by rw [ho]; intro c hc'; cases hc')]
    simp [execOp, ho, resolve, invoke, builtin, hs, hx, hr, Result.andThen]
    exact hK' _ _ (h v' w' r1 r2 r3)
end
end Go.Proofs.YtlkeomcillencaaGreat
end
section
/- A labelled body inside a fence: the scope is gone through straight. -/
namespace Go.Proofs.YtlkeomcillencaaGreat
open Go.RowKit Go.Shelf

theorem stepR_scope {P : Program} {b : Frame} {a : Act} {k : List Item} {cs : List Frame} {w : World} {c : Code} :
    step P (lone (b.atR a (.code (.scope c) :: k)) cs w) = .next (lone (b.atR a (.code c :: .inScope c :: k)) cs w) :=
  step_lone_go (by simp [stepG, stepG.exec, Frame.atR])
theorem stepR_inScope {P : Program} {b : Frame} {a : Act} {k : List Item} {cs : List Frame} {w : World} {c : Code} :
    step P (lone (b.atR a (.inScope c :: k)) cs w) = .next (lone (b.atR a k) cs w) :=
  step_lone_go (by simp [stepG, stepG.exec, Frame.atR])

theorem wpIn_scope {F : Fence} {n : Nat} {P : Program} {Q : Exit → Act → World → Prop} {a : Act} {w : World} {c : Code}
    (h : c.wpIn F n P (Exit.noGoto Q) a w) : (Code.scope c).wpIn F n P Q a w := by
  intro b k cs hro hb hr
  have h0 : (lone (b.atR a (.code (.scope c) :: k)) cs w).fenced P F := fenced_calm hb hr rfl
  obtain ⟨e, a₁, w₁, hq, harr⟩ := h b (.inScope c :: k) cs hro hb hr
  cases e with
  | normal => exact ⟨.normal, a₁, w₁, hq, .head h0 stepR_scope (StepsIn.trans harr (.one (fenced_calm hb hr rfl) stepR_inScope))⟩
  | exit id =>
    have hx : exitTo id (.inScope c :: k) = exitTo id k := by simp [exitTo]
    exact ⟨.exit id, a₁, w₁, hq, fun k' hk => .head h0 stepR_scope (harr.1 k' (by rw [hx]; exact hk)),
      fun hr' hk => let ⟨k₁, h1, h2⟩ := harr.2 hr' (by rw [hx]; exact hk); ⟨k₁, h1, .head h0 stepR_scope h2⟩⟩
  | goto l => exact hq.elim
  | ret => exact ⟨_, a₁, w₁, hq, .of_steps (.one h0 stepR_scope) harr⟩
  | panic ch => exact ⟨_, a₁, w₁, hq, .of_steps (.one h0 stepR_scope) harr⟩
  | outgrown => exact ⟨_, a₁, w₁, hq, .of_steps (.one h0 stepR_scope) harr⟩
theorem noGoto_normal (Q : Exit → Act → World → Prop) (a : Act) (w : World) : Exit.noGoto Q .normal a w = Q .normal a w := rfl
theorem noGoto_ret' (Q : Exit → Act → World → Prop) (a : Act) (w : World) : Exit.noGoto Q .ret a w = Q .ret a w := rfl
end Go.Proofs.YtlkeomcillencaaGreat
end
