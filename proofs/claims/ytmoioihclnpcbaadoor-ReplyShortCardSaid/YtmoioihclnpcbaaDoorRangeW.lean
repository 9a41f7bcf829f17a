/- A range over a function that keeps what it has come to in variables of its own: blocks X lie ahead of the loop; the function that ranges writes them between the rounds; the body leaves them alone. -/
import Derived.RangeFuncNested
import Derived.RangeFuncBound
import Derived.RangeFuncCalls
import Derived.RangeFuncLeaves
import Derived.Test.YtmoioihclnpcbaaDoorBase
namespace Go.Proofs.YtmoioihclnpcbaaDoor
open Go Go.RowKit

/-- J holds on where the heap grows, a block of X is written, or a walk beyond B goes on -/
def AbX {β : Type} (X : Nat → Prop) (B : Nat) (J : β → World → Prop) : Prop :=
  ∀ s V V' row, J s V → V.grownBy V' row → (∀ r, row = some r → X r ∨ (B ≤ r ∧ ∃ o : Obj, V.heap[r]? = some o ∧ o.isWalk = true)) → J s V'
/-- no block of X was written -/
def SameX (X : Nat → Prop) (V V' : World) : Prop := ∀ b, X b → V'.heap[b]? = V.heap[b]?
theorem SameX.trans {X : Nat → Prop} {A B C : World} (h : SameX X A B) (k : SameX X B C) : SameX X A C := fun b hb => (k b hb).trans (h b hb)
theorem SameX.cell {X : Nat → Prop} {V V' : World} (h : SameX X V V') {b o : Nat} (hb : X b) : V'.cell? ⟨b, o, none⟩ = V.cell? ⟨b, o, none⟩ := World.cell?_of_block (w := V) (a := ⟨b, o, none⟩) (h b hb)
theorem SameX.frozen {X : Nat → Prop} {V V' : World} (h : SameX X V V') {b o : Nat} (hb : X b) : V'.frozen? ⟨b, o, none⟩ = V.frozen? ⟨b, o, none⟩ := World.frozen?_of_block (w := V) (a := ⟨b, o, none⟩) (h b hb)

/-- what a function that ranges is worth: whatever J the rounds carry on -/
def SeqW {α : Type} (F : Fence) (n : Nat) (P : Program) (g : Nat) (lb : Array Value) (encs : α → Array Value) (X : Nat → Prop) (S Sp : List α → Prop) (N : Nat) (w : World) : Prop :=
  ∀ (l : Nat) (J Jx : List α → World → Prop) (V : World), Below w.heap.size w V → AbX X V.heap.size J → AbX X V.heap.size Jx →
    (∀ pre x V1, J pre V1 → pre.length < N → YieldAt F (n - 1) P l (encs x) V1 fun e V' => (e = .returned (.bool true) ∧ J (pre ++ [x]) V' ∧ SameX X V1 V') ∨ (e = .returned (.bool false) ∧ Jx (pre ++ [x]) V')) →
    J [] V → CallsIn F n P g (#[.func (.yield l) #[] #[]] ++ lb) V fun e V' => (∃ v, e = .returned v) ∧ ((∃ xs, S xs ∧ J xs V') ∨ ∃ pre, Sp pre ∧ Jx pre V')

/-- the two blocks of the loop's book -/
def Bk (l D : Nat) (r : Loop) (V : World) : Prop := V.heap[l]? = some (.loop r) ∧ V.heap[D]? = some (.deferred (some []))
section
variable {l D : Nat} {r : Loop} {V V' : World}
theorem Bk.lt (h : Bk l D r V) : l < V.heap.size ∧ D < V.heap.size := ⟨(Array.getElem?_eq_some_iff.1 h.1).1, (Array.getElem?_eq_some_iff.1 h.2).1⟩
theorem Bk.grown (h : Bk l D r V) {row : Option Nat} (hg : V.grownBy V' row) (h1 : some l ≠ row) (h2 : some D ≠ row) : Bk l D r V' :=
  ⟨(hg.block l h.lt.1 h1).trans h.1, (hg.block D h.lt.2 h2).trans h.2⟩
theorem Bk.put (h : Bk l D r V) (hne : D ≠ l) (r' : Loop) : Bk l D r' (V.putObj l (.loop r')) :=
  ⟨World.putObj_heap_same h.lt.1, (World.putObj_heap_other hne).trans h.2⟩
theorem Bk.keeps (h : Bk l D r V) {B : Nat} (hk : KeepsFrom B V V') (h1 : B ≤ l) (h2 : B ≤ D) : Bk l D r V' :=
  ⟨hk.same _ _ h1 h.1 rfl, hk.same _ _ h2 h.2 rfl⟩
end
/-- how a round of the body ends -/
def EndW {α : Type} (B : Nat) (X : Nat → Prop) (I : List α → World → Prop) (Ix : Code → List α → World → Prop) (xs : List α) (V : World) : Exit → Act → World → Prop
  | .normal, _, V' => KeepsFrom B V V' ∧ SameX X V V' ∧ I xs V'
  | .ret, _, V' => KeepsFrom B V V' ∧ Ix .ret xs V'
  | .exit id, _, V' => KeepsFrom B V V' ∧ Ix (.exit id) xs V'
  | .goto t, _, V' => KeepsFrom B V V' ∧ Ix (.goto t) xs V'
  | .panic _, _, _ => False
  | .outgrown, _, _ => False
/-- a block of X may be written: I says nothing of it -/
def Lets {β : Type} (X : Nat → Prop) (I : β → World → Prop) : Prop := ∀ s V V' b, X b → I s V → V.grownBy V' (some b) → I s V'

theorem wpIn_rangeW {F : Fence} {n : Nat} {P : Program} {w : World} {α : Type} {a : Act} {Q : Exit → Act → World → Prop} {g : Operand} {assign body : Code} {ps : Array Tmp} {gf : Nat} {lb : Array Value}
    {X : Nat → Prop} {encs : α → Array Value} {S Sp : List α → Prop} {N : Nat} {w0 : World} (I : List α → World → Prop) (Ix : Code → List α → World → Prop) (a₁ : α → Act)
    (hg : a.eval g = .func (.func gf) #[] lb) (hseq : SeqW F (n - 1) P gf lb encs X S Sp N w0) (hb0 : Below w0.heap.size w0 w) (hX : ∀ b, X b → b < w.heap.size) (hro : F.round = none) (h1 : 1 ≤ n) (hFg : F.fn gf)
    (eg : ∀ args v, (callFunc gf args).run P v = .ok (.enter gf args) v) (hps : ∀ x, (encs x).size = ps.size)
    (hI : OwnFrom w.heap.size I) (hIX : Lets X I) (hIx : ∀ c, OwnFrom w.heap.size (Ix c)) (hIxX : ∀ c, Lets X (Ix c)) (h0 : I [] w)
    (hassign : ∀ l x V (K : Act → World → Prop), K (a₁ x) V → assign.wpIn (F.inRound l) (n - 1 - 1) P (Exit.then K fun _ _ _ => False) { tmps := (ps.zip (encs x)).foldl (fun t (p, v) => t.setIfInBounds p v) a.tmps, defers := [] } V)
    (hbody : ∀ l pre x V, I pre V → pre.length < N → body.wpIn (F.inRound l) (n - 1 - 1) P (EndW w.heap.size X I Ix (pre ++ [x]) V) (a₁ x) V)
    (hdone : ∀ D xs V, w.heap.size ≤ D → S xs → I xs V → V.heap[D]? = some (.deferred (some [])) → Q .normal { a with defers := { target := .collected D, args := #[] } :: a.defers } V)
    (hstop : ∀ D c pre V, w.heap.size ≤ D → Sp pre → Ix c pre V → V.heap[D]? = some (.deferred (some [])) → c.wpIn F n P Q { a with defers := { target := .collected D, args := #[] } :: a.defers } V) :
    (Code.rangeFunc g ps assign body).wpIn F n P Q a w := by
  refine wpIn_rangeFunc fun fn hfn => ?_
  rw [hro]
  obtain ⟨R, hR⟩ : ∃ R : LoopState → Option Code → Loop, ∀ st pe, R st pe = { state := st, pending := pe, fn := fn, tmps := a.tmps, params := ps, assign := assign, body := body, defers := w.heap.size } := ⟨_, fun _ _ => rfl⟩
  obtain ⟨V1, hV1⟩ : ∃ V1, (w.alloc (.deferred (some []))).alloc (.loop (R .ready none)) = V1 := ⟨_, rfl⟩
  have hz : V1.heap.size = w.heap.size + 2 := by rw [← hV1]; simp
  have bk : Bk (w.heap.size + 1) w.heap.size (R .ready none) V1 := by
    subst hV1
    refine ⟨?_, (Below.heap_alloc _ _ _ (by simp)).trans (World.alloc_heap_new w _)⟩
    have h := World.alloc_heap_new (w.alloc (.deferred (some []))) (.loop (R .ready none))
    rwa [World.size_alloc] at h
  have i1 : I [] V1 := by subst hV1; exact hI.alloc _ (hI.alloc _ h0)
  have bel : Below w0.heap.size w0 V1 := by subst hV1; exact (hb0.alloc hb0.size _).alloc (by rw [World.size_alloc]; have := hb0.size; omega) _
  have hput : ∀ {s : List α} {V : World} {r : Loop} (r' : Loop), I s V → Bk (w.heap.size + 1) w.heap.size r V → I s (V.putObj (w.heap.size + 1) (.loop r')) := fun r' hi hb => hI.putObj _ hi (by omega) hb.1 rfl
  have hputx : ∀ {c : Code} {s : List α} {V : World} {r : Loop} (r' : Loop), Ix c s V → Bk (w.heap.size + 1) w.heap.size r V → Ix c s (V.putObj (w.heap.size + 1) (.loop r')) := fun {c} _ _ _ r' hi hb => (hIx c).putObj _ hi (by omega) hb.1 rfl
  have sput : ∀ (V : World) (r' : Loop), SameX X V (V.putObj (w.heap.size + 1) (.loop r')) := fun V r' b hb => World.putObj_heap_other (by have := hX b hb; omega)
  have abook : ∀ {V V' : World} {row : Option Nat} {r : Loop}, Bk (w.heap.size + 1) w.heap.size r V → V.grownBy V' row → (∀ r, row = some r → X r ∨ (V1.heap.size ≤ r ∧ ∃ o : Obj, V.heap[r]? = some o ∧ o.isWalk = true)) → Bk (w.heap.size + 1) w.heap.size r V' := fun hb hgr hrow => by
    refine hb.grown hgr (fun e => ?_) (fun e => ?_)
    · rcases hrow _ e.symm with h | h
      · have := hX _ h; omega
      · omega
    · rcases hrow _ e.symm with h | h
      · have := hX _ h; omega
      · omega
  have own : ∀ {J : List α → World → Prop}, OwnFrom w.heap.size J → Lets X J → ∀ {s : List α} {V V' : World} {row : Option Nat}, J s V → V.grownBy V' row → (∀ r, row = some r → X r ∨ (V1.heap.size ≤ r ∧ ∃ o : Obj, V.heap[r]? = some o ∧ o.isWalk = true)) → J s V' := fun hJ hL s V V' row hj hgr hrow => by
    cases row with
    | none => exact hJ s V V' none hj hgr (fun _ e => by cases e)
    | some r =>
      rcases hrow r rfl with h | ⟨h, o, ho, hw⟩
      · exact hL s V V' r h hj hgr
      · exact hJ s V V' (some r) hj hgr (fun _ e => by cases e; exact ⟨by omega, o, ho, Obj.not_cells_of_walk hw⟩)
  refine ⟨w.heap.size + 1, [{ target := .collected w.heap.size, args := #[] }], V1, { target := .fn (.func gf) lb, args := #[.func (.yield (w.heap.size + 1)) #[] #[]] }, V1, gf, #[.func (.yield (w.heap.size + 1)) #[] #[]] ++ lb, V1, ?_, ?_, ?_, ?_, fun _ => h1, ?_⟩
  · rw [← hV1, hR]; exact run_enterLoop_outer _ _ _ _ _
  · simp only [resolve, hg]; simp [go_sem]
  · intro f' hf'; simp [Target.leads] at hf'; subst hf'; exact hFg
  · simp [invoke, go_sem, eg]
  refine (hseq (w.heap.size + 1) (fun pre V => I pre V ∧ Bk (w.heap.size + 1) w.heap.size (R .ready none) V) (fun pre V => ∃ c, Ix c pre V ∧ Bk (w.heap.size + 1) w.heap.size (R .done (some c)) V) V1 bel
    (fun s V V' row hj hgr hrow => ⟨own hI hIX hj.1 hgr hrow, abook hj.2 hgr hrow⟩)
    (fun s V V' row hj hgr hrow => hj.elim fun c hc => ⟨c, own (hIx c) (hIxX c) hc.1 hgr hrow, abook hc.2 hgr hrow⟩) ?round ⟨i1, bk⟩).mono ?behind
  case behind =>
    rintro e V2 ⟨⟨v, rfl⟩, (⟨xs, hS, hi, hb⟩ | ⟨pre, hSp, c, hi, hb⟩)⟩
    · have hend := run_endLoop (P := P) hb.1 (by rw [hR]; simp)
      rw [hR] at hend
      exact ⟨none, _, hend, hdone _ xs _ (Nat.le_refl _) hS (hput _ hi hb) (hb.put (by omega) _).2⟩
    · have hend := run_endLoop (P := P) hb.1 (by rw [hR]; simp)
      rw [hR] at hend
      exact ⟨some c, _, hend, hstop _ c pre _ (Nat.le_refl _) hSp (hputx _ hi hb) (hb.put (by omega) _).2⟩
  case round =>
    rintro pre x V ⟨hi, hb⟩ hlen
    have hy := run_yield (P := P) (args := encs x) hb.1 (by rw [hR]; exact hps x)
    rw [hR] at hy
    refine ⟨fn, _, assign, body, hy, roundIn_of_wpIn hfn (hassign _ x V _ ⟨_, run_beginRound hb.1 (by rw [hR]), ?_⟩)⟩
    have hb2 := hb.put (by omega) { R .ready none with state := .busy }
    refine wpIn_mono (hbody _ pre x _ (hput _ hi hb) hlen) ?_
    -- behind the body: the record is turned, whatever the way
    have turn : ∀ (j : Option Code) {V3 : World}, KeepsFrom w.heap.size (V.putObj (w.heap.size + 1) (.loop { R .ready none with state := .busy })) V3 →
        ∃ st, st = (if j.isNone then LoopState.ready else .done) ∧ (Instr.endRound (w.heap.size + 1) j).run P V3 = .ok (.bool j.isNone) (V3.putObj (w.heap.size + 1) (.loop (R st j))) ∧ Bk (w.heap.size + 1) w.heap.size { R .ready none with state := .busy } V3 ∧
          Bk (w.heap.size + 1) w.heap.size (R st j) (V3.putObj (w.heap.size + 1) (.loop (R st j))) := fun j V3 hk => by
      have hb3 := hb2.keeps hk (by omega) (Nat.le_refl _)
      have hend := run_endRound (P := P) j hb3.1
      refine ⟨_, rfl, ?_, hb3, hb3.put (by omega) _⟩
      rw [hend, hR, hR]
    rintro e a3 V3 hp
    cases e with
    | normal =>
      obtain ⟨hk, hs, hi3⟩ := hp
      obtain ⟨st, rfl, hr, hb3, hb4⟩ := turn none hk
      exact ⟨_, _, hr, .inl ⟨rfl, ⟨hput _ hi3 hb3, hb4⟩, ((sput V _).trans hs).trans (sput V3 _)⟩⟩
    | ret =>
      obtain ⟨st, rfl, hr, hb3, hb4⟩ := turn (some .ret) hp.1
      exact ⟨_, _, hr, .inr ⟨rfl, _, hputx _ hp.2 hb3, hb4⟩⟩
    | exit id =>
      obtain ⟨st, rfl, hr, hb3, hb4⟩ := turn (some (.exit id)) hp.1
      exact ⟨_, _, hr, .inr ⟨rfl, _, hputx _ hp.2 hb3, hb4⟩⟩
    | goto t =>
      obtain ⟨st, rfl, hr, hb3, hb4⟩ := turn (some (.goto t)) hp.1
      exact ⟨_, _, hr, .inr ⟨rfl, _, hputx _ hp.2 hb3, hb4⟩⟩
    | panic ch => exact hp.elim
    | outgrown => exact hp.elim
end Go.Proofs.YtmoioihclnpcbaaDoor
