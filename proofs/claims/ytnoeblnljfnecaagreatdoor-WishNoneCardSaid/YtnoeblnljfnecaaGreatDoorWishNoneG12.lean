/- Texts of this proof, one behind the other. -/
import Derived.Test.YtnoeblnljfnecaaGreatDoorWishNoneG3
import Derived.Test.YtnoeblnljfnecaaGreatDoorWishNoneG11
import Derived.Test.YtnoeblnljfnecaaGreatDoorWishNoneG4
import Derived.Test.YtnoeblnljfnecaaGreatDoorWishNoneG8
import Derived.Test.YtnoeblnljfnecaaGreatDoorWishNoneG1
import Derived.Deep.RegionWith
section
/- A range over a function that writes blocks Z of its own between the rounds: as RangeF. -/
namespace Go.Proofs.YtnoeblnljfnecaaGreatDoor
open Go Go.RowKit

/-- what a function that ranges is worth, if it tells the row xs out of blocks Y -/
def SeqZ {α : Type} (P : Program) (g : Nat) (lb : Array Value) (encs : α → Array Value) (Y Z : Nat → Prop) (xs : List α) (w : World) : Prop :=
  ∀ (l : Nat) (J Jx : List α → (Nat → Prop) → World → Prop) (X : Nat → Prop) (V : World), SameX (fun b => Y b ∨ Z b) w V → (∀ b, Y b ∨ Z b → b < V.heap.size) → (∀ k, X k → k < V.heap.size ∧ ¬ (Y k ∨ Z k)) → Stays J → Stays Jx →
    (∀ pre x r X1 V1, pre ++ x :: r = xs → GrowX X X1 V V1 → J pre X1 V1 → Fr (fun k => X k ∨ Z k) V V1 →
      YieldAt Fence.wide 0 P l (encs x) V1 fun e V' => ∃ X2, GrowX X1 X2 V1 V' ∧ Fr X1 V1 V' ∧ ((e = .returned (.bool true) ∧ J (pre ++ [x]) X2 V') ∨ (e = .returned (.bool false) ∧ Jx (pre ++ [x]) X2 V'))) →
    J [] X V → Calls P g (#[.func (.yield l) #[] #[]] ++ lb) V fun e V' => (∃ v, e = .returned v) ∧ ∃ X2, GrowX X X2 V V' ∧ Fr (fun k => X k ∨ Z k) V V' ∧ (J xs X2 V' ∨ ∃ pre r, pre ++ r = xs ∧ Jx pre X2 V')
/-- the rounds, of whatever loop: what the function that ranges makes of them -/
theorem range_coreZ {P : Program} {n : Nat} {α : Type} {ps : Array Tmp} {assign body : Code} {fn : Nat} {tmps : Array Value} {d gf l : Nat} {lb : Array Value} {Y Z X E : Nat → Prop} {encs : α → Array Value} {xs : List α} {w V1 : World}
    (I : List α → (Nat → Prop) → World → Prop) (Ix : Code → List α → (Nat → Prop) → World → Prop)
    (hseq : SeqZ P gf lb encs Y Z xs w) (hX : ∀ k, X k → k < w.heap.size ∧ ¬ (Y k ∨ Z k)) (hY : ∀ b, Y b ∨ Z b → b < w.heap.size) (hps : ∀ x, (encs x).size = ps.size) (hI : Stays I) (hIx : ∀ c, Stays (Ix c)) (h0 : I [] X w)
    (hw : Fr (fun _ => False) w V1) (hl : w.heap.size ≤ l) (hE : ∀ k, E k → w.heap.size ≤ k ∧ k < V1.heap.size ∧ k ≠ l) (hr : V1.heap[l]? = some (.loop (recF fn tmps ps assign body d .ready none)))
    (hround : ∀ pre x r X1 V (K : Act → World → Prop) rb, pre ++ x :: r = xs → I pre X1 V → GrowX X X1 w V → (∀ k, X1 k → k ≠ l ∧ ¬ E k) → Fr (fun k => X k ∨ Z k) w V → l < V.heap.size →
      (∀ a1 Va, Fr (fun _ => False) V Va → (∀ Vb, Fr (fun k => k = l) V Vb → Vb.heap.size = Va.heap.size → (∀ k, k ≠ l → Vb.heap[k]? = Va.heap[k]?) → Vb.heap[l]? = some (.loop rb) → body.wpIn (Fence.wide.inRound l) n P (EndF l rb X1 I Ix (pre ++ [x]) V) a1 Vb) → K a1 Va) →
      assign.wpIn (Fence.wide.inRound l) n P (Exit.then K fun _ _ _ => False) { tmps := (ps.zip (encs x)).foldl (fun t (p, v) => t.setIfInBounds p v) tmps, defers := [] } V) :
    Calls P gf (#[.func (.yield l) #[] #[]] ++ lb) V1 fun e V2 => (∃ v, e = .returned v) ∧ ∃ X2, GrowX X X2 w V2 ∧ (∀ k, X2 k → k ≠ l ∧ ¬ E k) ∧ Fr (fun k => X k ∨ Z k) w V2 ∧ (∀ k, E k → V2.heap[k]? = V1.heap[k]?) ∧ l < V2.heap.size ∧
      ((I xs X2 V2 ∧ V2.heap[l]? = some (.loop (recF fn tmps ps assign body d .ready none))) ∨ ∃ pre r c, pre ++ r = xs ∧ Ix c pre X2 V2 ∧ V2.heap[l]? = some (.loop (recF fn tmps ps assign body d .done (some c)))) := by
  have hlV := blk_lt hr
  have key : ∀ (Q : List α → (Nat → Prop) → World → Prop) (o : Obj), Stays Q → Stays (fun pre X' V => ∃ X1, (∀ k, X' k ↔ (X1 k ∨ k = l ∨ E k)) ∧ Q pre X1 V ∧ V.heap[l]? = some o ∧ (∀ k, E k → V.heap[k]? = V1.heap[k]?) ∧ (∀ k, X1 k → k ≠ l ∧ ¬ E k)) := fun Q o hQ s X' V V' ⟨X1, h1, h2, h3, h4, h5⟩ hlt hf =>
    ⟨X1, h1, hQ s X1 V V' h2 (fun k hk => hlt k ((h1 k).2 (.inl hk))) (hf.mono fun k _ hn e => hn ((h1 k).2 (.inl e))), (hf.block l (blk_lt h3) (fun e => e ((h1 l).2 (.inr (.inl rfl))))).trans h3,
      fun k hk => (hf.block k (hlt k ((h1 k).2 (.inr (.inr hk)))) (fun e => e ((h1 k).2 (.inr (.inr hk))))).trans (h4 k hk), h5⟩
  have thru : ∀ {V2 : World}, Fr (fun k => (X k ∨ k = l ∨ E k) ∨ Z k) V1 V2 → Fr (fun k => X k ∨ Z k) w V2 := fun hf => (hw.mono fun _ _ h => h.elim).trans3 hf fun k hk e => by
    rcases e with (e | rfl | e) | e
    · exact .inl e
    · omega
    · have := (hE k e).1; omega
    · exact .inr e
  have grow : ∀ {X' X1 : Nat → Prop} {V2 : World}, (∀ k, X' k ↔ (X1 k ∨ k = l ∨ E k)) → GrowX (fun k => X k ∨ k = l ∨ E k) X' V1 V2 → GrowX X X1 w V2 := fun h1 hg k hk => by
    have h2 := hg k ((h1 k).2 (.inl hk))
    refine ⟨h2.1, fun hlt => ?_⟩
    rcases h2.2 (Nat.lt_of_lt_of_le hlt hw.size) with e | rfl | e
    · exact e
    · omega
    · have := (hE k e).1; omega
  refine (hseq l (fun pre X' V => ∃ X1, (∀ k, X' k ↔ (X1 k ∨ k = l ∨ E k)) ∧ I pre X1 V ∧ V.heap[l]? = some (.loop (recF fn tmps ps assign body d .ready none)) ∧ (∀ k, E k → V.heap[k]? = V1.heap[k]?) ∧ (∀ k, X1 k → k ≠ l ∧ ¬ E k))
    (fun pre X' V => ∃ c, ∃ X1, (∀ k, X' k ↔ (X1 k ∨ k = l ∨ E k)) ∧ Ix c pre X1 V ∧ V.heap[l]? = some (.loop (recF fn tmps ps assign body d .done (some c))) ∧ (∀ k, E k → V.heap[k]? = V1.heap[k]?) ∧ (∀ k, X1 k → k ≠ l ∧ ¬ E k))
    (fun k => X k ∨ k = l ∨ E k) V1 (fun b hb => hw.block b (hY b hb) fun e => e) (fun b hb => Nat.lt_of_lt_of_le (hY b hb) hw.size) ?hX (key I _ hI) (fun s X' V V' ⟨c, h⟩ h1 h2 => ⟨c, key (Ix c) _ (hIx c) s X' V V' h h1 h2⟩) ?round
    ⟨X, fun k => Iff.rfl, hI [] X w V1 h0 (fun k hk => (hX k hk).1) (hw.mono fun _ _ h => h.elim), hr, fun _ _ => rfl, fun k hk => ⟨by have := (hX k hk).1; omega, fun e => by have := (hX k hk).1; have := (hE k e).1; omega⟩⟩).mono ?behind
  case hX =>
    rintro k (e | rfl | e)
    · exact ⟨Nat.lt_of_lt_of_le (hX k e).1 hw.size, (hX k e).2⟩
    · exact ⟨hlV, fun e => by have := hY _ e; omega⟩
    · exact ⟨(hE k e).2.1, fun e2 => by have := hY _ e2; have := (hE k e).1; omega⟩
  case behind =>
    rintro e V2 ⟨hv, X', hg, hf, (⟨X1, h1, h2, h3, h4, h5⟩ | ⟨pre, r, hpr, c, X1, h1, h2, h3, h4, h5⟩)⟩
    · exact ⟨hv, X1, grow h1 hg, h5, thru hf, h4, blk_lt h3, .inl ⟨h2, h3⟩⟩
    · exact ⟨hv, X1, grow h1 hg, h5, thru hf, h4, blk_lt h3, .inr ⟨pre, r, c, hpr, h2, h3⟩⟩
  case round =>
    rintro pre x r X' V hpx hgx ⟨X1, h1, h2, h3, h4, h5⟩ hfx
    have hy := run_yield (P := P) (args := encs x) h3 (by exact hps x)
    have hlv := blk_lt h3
    have hV1 := hfx.size
    obtain ⟨rb, hrb⟩ : ∃ rb : Loop, { recF fn tmps ps assign body d .ready none with state := .busy } = rb := ⟨_, rfl⟩
    refine ⟨fn, _, assign, body, hy, round_wide (n := n) (.inl rfl) (roundIn_of_wpIn (F := Fence.wide) trivial (hround pre x r X1 V _ rb hpx h2 (grow h1 hgx) h5 (thru hfx) hlv fun a1 Va hfa hbody => ⟨_, run_beginRound (hfa.blk h3 fun h => h) rfl, ?_⟩))⟩
    rw [hrb]
    have hla : l < Va.heap.size := Nat.lt_of_lt_of_le hlv hfa.size
    refine wpIn_mono (hbody (Va.putObj l (.loop rb)) (Fr.putObj (X := fun k => k = l) (hfa.mono fun _ _ h => h.elim) l rfl _) (putObj_size _ _ _) (fun k hk => World.putObj_heap_other hk) (World.putObj_heap_same hla)) ?_
    have fin : ∀ (Q : List α → (Nat → Prop) → World → Prop), Stays Q → ∀ {X2 : Nat → Prop} {V3 : World} (o : Obj), GrowX X1 X2 V V3 → Fr (fun k => k = l ∨ X1 k) V V3 → Q (pre ++ [x]) X2 V3 →
        GrowX X' (fun k => X2 k ∨ k = l ∨ E k) V (V3.putObj l o) ∧ Fr X' V (V3.putObj l o) ∧ ∃ X1', (∀ k, (X2 k ∨ k = l ∨ E k) ↔ (X1' k ∨ k = l ∨ E k)) ∧ Q (pre ++ [x]) X1' (V3.putObj l o) ∧ (V3.putObj l o).heap[l]? = some o ∧ (∀ k, E k → (V3.putObj l o).heap[k]? = V1.heap[k]?) ∧ (∀ k, X1' k → k ≠ l ∧ ¬ E k) := fun Q hQ X2 V3 o g2 f2 q2 => by
      have hl3 : l < V3.heap.size := Nat.lt_of_lt_of_le hlv f2.size
      have hEV : ∀ k, E k → k < V.heap.size := fun k hk => Nat.lt_of_lt_of_le (hE k hk).2.1 hV1
      have x2 : ∀ k, X2 k → k ≠ l ∧ ¬ E k := fun k hk => ⟨fun e => by subst e; exact (h5 _ ((g2 _ hk).2 hlv)).1 rfl, fun e => (h5 _ ((g2 _ hk).2 (hEV k e))).2 e⟩
      refine ⟨fun k hk => ?_, (f2.putObj l (.inl rfl) o).mono fun k _ e => ?_, X2, fun k => Iff.rfl, hQ _ X2 V3 _ q2 (fun k hk => (g2 k hk).1) ((Fr.refl _ V3).putObj l (fun e => (x2 l e).1 rfl) o), World.putObj_heap_same hl3, fun k hk => ?_, x2⟩
      · rw [putObj_size]
        rcases hk with hk | rfl | hk
        · exact ⟨(g2 k hk).1, fun hlt => (h1 k).2 (.inl ((g2 k hk).2 hlt))⟩
        · exact ⟨hl3, fun _ => (h1 _).2 (.inr (.inl rfl))⟩
        · exact ⟨Nat.lt_of_lt_of_le (hEV k hk) f2.size, fun _ => (h1 _).2 (.inr (.inr hk))⟩
      · rcases e with rfl | e
        · exact (h1 _).2 (.inr (.inl rfl))
        · exact (h1 _).2 (.inl e)
      · refine (World.putObj_heap_other (hE k hk).2.2).trans ((f2.block k (hEV k hk) ?_).trans (h4 k hk))
        rintro (e | e)
        · exact (hE k hk).2.2 e
        · exact (h5 k e).2 hk
    rintro e a3 V3 hp
    cases e with
    | normal =>
      obtain ⟨X2, g2, f2, r2, i2⟩ := hp
      have hend := run_endRound (P := P) none r2
      rw [← hrb] at hend
      obtain ⟨q1, q2, q3⟩ := fin I hI _ g2 f2 i2
      exact ⟨_, _, hend, _, q1, q2, .inl ⟨rfl, q3⟩⟩
    | ret =>
      obtain ⟨X2, g2, f2, r2, i2⟩ := hp
      have hend := run_endRound (P := P) (some .ret) r2
      rw [← hrb] at hend
      obtain ⟨q1, q2, q3⟩ := fin _ (hIx .ret) _ g2 f2 i2
      exact ⟨_, _, hend, _, q1, q2, .inr ⟨rfl, _, q3⟩⟩
    | exit id =>
      obtain ⟨X2, g2, f2, r2, i2⟩ := hp
      have hend := run_endRound (P := P) (some (.exit id)) r2
      rw [← hrb] at hend
      obtain ⟨q1, q2, q3⟩ := fin _ (hIx (.exit id)) _ g2 f2 i2
      exact ⟨_, _, hend, _, q1, q2, .inr ⟨rfl, _, q3⟩⟩
    | goto t =>
      obtain ⟨X2, g2, f2, r2, i2⟩ := hp
      have hend := run_endRound (P := P) (some (.goto t)) r2
      rw [← hrb] at hend
      obtain ⟨q1, q2, q3⟩ := fin _ (hIx (.goto t)) _ g2 f2 i2
      exact ⟨_, _, hend, _, q1, q2, .inr ⟨rfl, _, q3⟩⟩
    | panic ch => exact hp.elim
    | outgrown => exact hp.elim
/-- an outermost loop -/
theorem wpIn_rangeZ {n : Nat} {P : Program} {w : World} {α : Type} {a : Act} {Q : Exit → Act → World → Prop} {g : Operand} {assign body : Code} {ps : Array Tmp} {gf : Nat} {lb : Array Value}
    {X Y Z : Nat → Prop} {encs : α → Array Value} {xs : List α} (I : List α → (Nat → Prop) → World → Prop) (Ix : Code → List α → (Nat → Prop) → World → Prop)
    (hg : a.eval g = .func (.func gf) #[] lb) (hseq : SeqZ P gf lb encs Y Z xs w) (hX : ∀ k, X k → k < w.heap.size ∧ ¬ (Y k ∨ Z k)) (hY : ∀ b, Y b ∨ Z b → b < w.heap.size) (h1 : 1 ≤ n)
    (eg : ∀ args v, (callFunc gf args).run P v = .ok (.enter gf args) v) (hps : ∀ x, (encs x).size = ps.size) (hI : Stays I) (hIx : ∀ c, Stays (Ix c)) (h0 : I [] X w)
    (hround : ∀ l pre x r X1 V (K : Act → World → Prop) rb, w.heap.size ≤ l → pre ++ x :: r = xs → I pre X1 V → GrowX X X1 w V → ¬ X1 l → Fr (fun k => X k ∨ Z k) w V → l < V.heap.size →
      (∀ a1 Va, Fr (fun _ => False) V Va → (∀ Vb, Fr (fun k => k = l) V Vb → Vb.heap.size = Va.heap.size → (∀ k, k ≠ l → Vb.heap[k]? = Va.heap[k]?) → Vb.heap[l]? = some (.loop rb) → body.wpIn (Fence.wide.inRound l) (n - 1 - 1) P (EndF l rb X1 I Ix (pre ++ [x]) V) a1 Vb) → K a1 Va) →
      assign.wpIn (Fence.wide.inRound l) (n - 1 - 1) P (Exit.then K fun _ _ _ => False) { tmps := (ps.zip (encs x)).foldl (fun t (p, v) => t.setIfInBounds p v) a.tmps, defers := [] } V)
    (hdone : ∀ D X2 V, w.heap.size ≤ D → ¬ X2 D → GrowX X X2 w V → Fr (fun k => X k ∨ Z k) w V → I xs X2 V → V.heap[D]? = some (.deferred (some [])) → Q .normal { a with defers := { target := .collected D, args := #[] } :: a.defers } V)
    (hstop : ∀ D c pre r X2 V, w.heap.size ≤ D → pre ++ r = xs → ¬ X2 D → GrowX X X2 w V → Fr (fun k => X k ∨ Z k) w V → Ix c pre X2 V → V.heap[D]? = some (.deferred (some [])) → c.wpIn Fence.wide n P Q { a with defers := { target := .collected D, args := #[] } :: a.defers } V) :
    (Code.rangeFunc g ps assign body).wpIn Fence.wide n P Q a w := by
  refine wpIn_rangeFunc fun fn hfn => ?_
  obtain ⟨V1, hV1⟩ : ∃ V1, (w.alloc (.deferred (some []))).alloc (.loop (recF fn a.tmps ps assign body w.heap.size .ready none)) = V1 := ⟨_, rfl⟩
  have hz : V1.heap.size = w.heap.size + 2 := by rw [← hV1]; simp
  have hr : V1.heap[w.heap.size + 1]? = some (.loop (recF fn a.tmps ps assign body w.heap.size .ready none)) := by
    subst hV1
    have h := World.alloc_heap_new (w.alloc (.deferred (some []))) (.loop (recF fn a.tmps ps assign body w.heap.size .ready none))
    rwa [World.size_alloc] at h
  have hd : V1.heap[w.heap.size]? = some (.deferred (some [])) := by
    subst hV1
    exact (Below.heap_alloc _ _ _ (by simp)).trans (World.alloc_heap_new w _)
  have hw : Fr (fun _ => False) w V1 := by subst hV1; exact ((Fr.refl _ w).alloc _).alloc _
  refine ⟨w.heap.size + 1, [{ target := .collected w.heap.size, args := #[] }], V1, { target := .fn (.func gf) lb, args := #[.func (.yield (w.heap.size + 1)) #[] #[]] }, V1, gf, #[.func (.yield (w.heap.size + 1)) #[] #[]] ++ lb, V1, ?_, ?_, ?_, ?_, fun _ => h1, ?_⟩
  · rw [← hV1]; exact run_enterLoop_outer _ _ _ _ _
  · simp only [resolve, hg]; simp [go_sem]
  · intro f' _; trivial
  · simp [invoke, go_sem, eg]
  refine (calls_wide (.inl rfl) (range_coreZ (n := n - 1 - 1) (E := fun k => k = w.heap.size) I Ix hseq hX hY hps hI hIx h0 hw (by omega) (fun k hk => by subst hk; omega) hr
    (fun pre x r X1 V K rb h1 h2 h3 h4 h5 h6 h7 => hround (w.heap.size + 1) pre x r X1 V K rb (by omega) h1 h2 h3 (fun e => (h4 _ e).1 rfl) h5 h6 h7))).mono ?_
  rintro e V2 ⟨⟨v, rfl⟩, X2, g2, x2, f2, e2, l2, h⟩
  have hD : ∀ o, (V2.putObj (w.heap.size + 1) o).heap[w.heap.size]? = some (.deferred (some [])) := fun o => (World.putObj_heap_other (by omega)).trans ((e2 _ rfl).trans hd)
  have hput : ∀ o, Fr (fun k => X k ∨ Z k) w (V2.putObj (w.heap.size + 1) o) := fun o => f2.trans3 ((Fr.refl (fun k => k = w.heap.size + 1) V2).putObj _ rfl o) fun k hk e => by omega
  have hst : ∀ o, Fr (fun k => ¬ X2 k) V2 (V2.putObj (w.heap.size + 1) o) := fun o => (Fr.refl _ V2).putObj _ (fun e => (x2 _ e).1 rfl) o
  have hgr : ∀ o, GrowX X X2 w (V2.putObj (w.heap.size + 1) o) := fun o k hk => by rw [putObj_size]; exact g2 k hk
  rcases h with ⟨hi, hr2⟩ | ⟨pre, r, c, hpr, hi, hr2⟩
  · exact ⟨none, _, run_endLoop (P := P) hr2 (by simp [recF]), hdone _ X2 _ (Nat.le_refl _) (fun e => (x2 _ e).2 rfl) (hgr _) (hput _) (hI _ X2 V2 _ hi (fun k hk => (g2 k hk).1) (hst _)) (hD _)⟩
  · exact ⟨some c, _, run_endLoop (P := P) hr2 (by simp [recF]), hstop _ c pre r X2 _ (Nat.le_refl _) hpr (fun e => (x2 _ e).2 rfl) (hgr _) (hput _) (hIx c _ X2 V2 _ hi (fun k hk => (g2 k hk).1) (hst _)) (hD _)⟩
/-- a loop within a round -/
theorem wpIn_rangeZN {n : Nat} {P : Program} {w : World} {α : Type} {a : Act} {Q : Exit → Act → World → Prop} {g : Operand} {assign body : Code} {ps : Array Tmp} {gf : Nat} {lb : Array Value} {l0 : Nat} {r0 : Loop}
    {X Y Z : Nat → Prop} {encs : α → Array Value} {xs : List α} (I : List α → (Nat → Prop) → World → Prop) (Ix : Code → List α → (Nat → Prop) → World → Prop) (hl0 : w.heap[l0]? = some (.loop r0))
    (hg : a.eval g = .func (.func gf) #[] lb) (hseq : SeqZ P gf lb encs Y Z xs w) (hX : ∀ k, X k → k < w.heap.size ∧ ¬ (Y k ∨ Z k)) (hY : ∀ b, Y b ∨ Z b → b < w.heap.size) (h1 : 1 ≤ n)
    (eg : ∀ args v, (callFunc gf args).run P v = .ok (.enter gf args) v) (hps : ∀ x, (encs x).size = ps.size) (hI : Stays I) (hIx : ∀ c, Stays (Ix c)) (h0 : I [] X w)
    (hround : ∀ l pre x r X1 V (K : Act → World → Prop) rb, w.heap.size ≤ l → pre ++ x :: r = xs → I pre X1 V → GrowX X X1 w V → ¬ X1 l → Fr (fun k => X k ∨ Z k) w V → l < V.heap.size →
      (∀ a1 Va, Fr (fun _ => False) V Va → (∀ Vb, Fr (fun k => k = l) V Vb → Vb.heap.size = Va.heap.size → (∀ k, k ≠ l → Vb.heap[k]? = Va.heap[k]?) → Vb.heap[l]? = some (.loop rb) → body.wpIn (Fence.wide.inRound l) (n - 1 - 1) P (EndF l rb X1 I Ix (pre ++ [x]) V) a1 Vb) → K a1 Va) →
      assign.wpIn (Fence.wide.inRound l) (n - 1 - 1) P (Exit.then K fun _ _ _ => False) { tmps := (ps.zip (encs x)).foldl (fun t (p, v) => t.setIfInBounds p v) a.tmps, defers := [] } V)
    (hdone : ∀ X2 V, GrowX X X2 w V → Fr (fun k => X k ∨ Z k) w V → I xs X2 V → Q .normal a V)
    (hstop : ∀ c pre r X2 V, pre ++ r = xs → GrowX X X2 w V → Fr (fun k => X k ∨ Z k) w V → Ix c pre X2 V → c.wpIn (Fence.wide.inRound l0) n P Q a V) :
    (Code.rangeFunc g ps assign body).wpIn (Fence.wide.inRound l0) n P Q a w := by
  refine wpIn_rangeFunc fun fn hfn => ?_
  obtain ⟨V1, hV1⟩ : ∃ V1, w.alloc (.loop (recF fn a.tmps ps assign body r0.defers .ready none)) = V1 := ⟨_, rfl⟩
  have hz : V1.heap.size = w.heap.size + 1 := by rw [← hV1]; simp
  have hr : V1.heap[w.heap.size]? = some (.loop (recF fn a.tmps ps assign body r0.defers .ready none)) := by subst hV1; exact World.alloc_heap_new w _
  have hw : Fr (fun _ => False) w V1 := by subst hV1; exact (Fr.refl _ w).alloc _
  refine ⟨w.heap.size, [], V1, { target := .fn (.func gf) lb, args := #[.func (.yield w.heap.size) #[] #[]] }, V1, gf, #[.func (.yield w.heap.size) #[] #[]] ++ lb, V1, ?_, ?_, ?_, ?_, fun _ => h1, ?_⟩
  · rw [← hV1]; exact run_enterLoop_inner hl0 _ _ _ _ _
  · simp only [resolve, hg]; simp [go_sem]
  · intro f' _; trivial
  · simp [invoke, go_sem, eg]
  refine (calls_wide (.inr ⟨l0, rfl⟩) (range_coreZ (n := n - 1 - 1) (E := fun _ => False) I Ix hseq hX hY hps hI hIx h0 hw (Nat.le_refl _) (fun k hk => hk.elim) hr
    (fun pre x r X1 V K rb h1 h2 h3 h4 h5 h6 h7 => hround w.heap.size pre x r X1 V K rb (Nat.le_refl _) h1 h2 h3 (fun e => (h4 _ e).1 rfl) h5 h6 h7))).mono ?_
  rintro e V2 ⟨⟨v, rfl⟩, X2, g2, x2, f2, e2, l2, h⟩
  have hput : ∀ o, Fr (fun k => X k ∨ Z k) w (V2.putObj w.heap.size o) := fun o => f2.trans3 ((Fr.refl (fun k => k = w.heap.size) V2).putObj _ rfl o) fun k hk e => by omega
  have hst : ∀ o, Fr (fun k => ¬ X2 k) V2 (V2.putObj w.heap.size o) := fun o => (Fr.refl _ V2).putObj _ (fun e => (x2 _ e).1 rfl) o
  have hgr : ∀ o, GrowX X X2 w (V2.putObj w.heap.size o) := fun o k hk => by rw [putObj_size]; exact g2 k hk
  rcases h with ⟨hi, hr2⟩ | ⟨pre, r, c, hpr, hi, hr2⟩
  · exact ⟨none, _, run_endLoop (P := P) hr2 (by simp [recF]), hdone X2 _ (hgr _) (hput _) (hI _ X2 V2 _ hi (fun k hk => (g2 k hk).1) (hst _))⟩
  · exact ⟨some c, _, run_endLoop (P := P) hr2 (by simp [recF]), hstop c pre r X2 _ hpr (hgr _) (hput _) (hIx c _ X2 V2 _ hi (fun k hk => (g2 k hk).1) (hst _))⟩
end Go.Proofs.YtnoeblnljfnecaaGreatDoor
end
section
/- strings.SplitSeq at one byte, as a function that ranges and writes a box of its own. -/
namespace Go.Proofs.YtnoeblnljfnecaaGreatDoor
set_option linter.unusedVariables false
set_option linter.unusedSimpArgs false
open Go Go.RowKit Go.Shelf Go.Lib
attribute [local go_sem] Oper.semAt_some

/-- the pieces between bytes c -/
def splitC (c : UInt8) : List UInt8 → List (List UInt8)
  | [] => [[]]
  | b :: r => if b = c then [] :: splitC c r else match splitC c r with
    | [] => [[b]]
    | p :: ps => (b :: p) :: ps
theorem splitC_ne (c : UInt8) : ∀ l, splitC c l ≠ []
  | [] => by simp [splitC]
  | b :: r => by
    unfold splitC
    split
    · simp
    · split <;> simp
theorem splitC_len (c : UInt8) : ∀ l, (splitC c l).length ≤ l.length + 1
  | [] => by simp [splitC]
  | b :: r => by
    have h := splitC_len c r
    unfold splitC
    split
    · simp; omega
    · split
      · simp
      · rename_i p ps hp
        rw [hp] at h
        simp at h ⊢
        omega
theorem splitC_none (c : UInt8) : ∀ p : List UInt8, c ∉ p → splitC c p = [p]
  | [], _ => rfl
  | b :: r, h => by
    have h1 : ¬ b = c := fun e => h (by rw [e]; exact List.mem_cons_self)
    unfold splitC
    rw [if_neg h1, splitC_none c r (fun e => h (List.mem_cons_of_mem _ e))]
theorem splitC_cut (c : UInt8) : ∀ (p q : List UInt8), c ∉ p → splitC c (p ++ c :: q) = p :: splitC c q
  | [], q, _ => by simp [splitC]
  | b :: r, q, h => by
    have h1 : ¬ b = c := fun e => h (by rw [e]; exact List.mem_cons_self)
    rw [List.cons_append]
    conv => lhs; unfold splitC
    rw [if_neg h1, splitC_cut c r q (fun e => h (List.mem_cons_of_mem _ e))]
theorem splitC_no (c : UInt8) (R : ByteArray) (h : Lib.indexByte R.data.toList c = -1) : splitC c R.data.toList = [R.data.toList] :=
  splitC_none c _ (fun hm => by
    obtain ⟨k, hk⟩ := List.getElem?_of_mem hm
    exact Lib.indexByte_none h k hk)
theorem splitC_at (c : UInt8) (R : ByteArray) (o : Nat) (h : Lib.indexByte R.data.toList c = o) : o < R.size ∧ splitC c R.data.toList = (R.extract 0 o).data.toList :: splitC c (R.extract (o + 1) R.size).data.toList := by
  obtain ⟨h1, h2⟩ := Lib.indexByte_some h
  have ho : o < R.data.toList.length := (List.getElem?_eq_some_iff.1 h1).1
  have e : R.data.toList = R.data.toList.take o ++ c :: R.data.toList.drop (o + 1) := by
    have h3 := List.drop_eq_getElem_cons ho
    have h4 : R.data.toList[o] = c := (List.getElem?_eq_some_iff.1 h1).2
    rw [h4] at h3
    rw [← h3, List.take_append_drop]
  have hn : c ∉ R.data.toList.take o := fun hm => by
    obtain ⟨k, hk⟩ := List.getElem?_of_mem hm
    rw [List.getElem?_take] at hk
    split at hk
    · exact h2 k ‹_› hk
    · cases hk
  refine ⟨by simpa using ho, ?_⟩
  have e1 : (R.extract 0 o).data.toList = R.data.toList.take o := by simp
  have e2 : (R.extract (o + 1) R.size).data.toList = R.data.toList.drop (o + 1) := by
    simp [List.take_of_length_le]
  rw [e1, e2]
  conv => lhs; rw [e]
  exact splitC_cut c _ _ hn
/-- the call: three boxes -/
theorem splitc_any (s : ByteArray) (c : UInt8) (w : World) :
    Calls Tryz.prog 58 #[.string s, .string ⟨#[c]⟩] w fun e w' => e = .returned (.func (.func 88) #[] #[.pointer (some ⟨w.heap.size + 1, 0, none⟩), .pointer (some ⟨w.heap.size, 0, none⟩), .pointer (some ⟨w.heap.size + 1 + 1, 0, none⟩)]) ∧
      w' = ((w.alloc (.cells #[.string s] 9)).alloc (.cells #[.string ⟨#[c]⟩] 9)).alloc (.cells #[.int .i64 0] 3) := by
  have h : Calls Tryz.prog 73 #[.string s, .string ⟨#[c]⟩, .int .i64 0] w fun e w' => e = .returned (.func (.func 88) #[] #[.pointer (some ⟨w.heap.size + 1, 0, none⟩), .pointer (some ⟨w.heap.size, 0, none⟩), .pointer (some ⟨w.heap.size + 1 + 1, 0, none⟩)]) ∧
      w' = ((w.alloc (.cells #[.string s] 9)).alloc (.cells #[.string ⟨#[c]⟩] 9)).alloc (.cells #[.int .i64 0] 3) := by
    go_enter Tryz.func73, Tryz.ntmps73
    go_wp2_with fail
    go_ret
    exact ⟨rfl, rfl⟩
  go_enter Tryz.func58, Tryz.ntmps58
  go_wp2_with fail
  refine h.mono ?_
  rintro e w' ⟨rfl, rfl⟩
  go_wp2_with fail
  go_ret
  exact ⟨rfl, rfl⟩
def SplB (B : Nat) (c : UInt8) (R : ByteArray) (W : World) : Prop := W.heap[B]? = some (.cells #[.string R] 9 (0, 0)) ∧ W.heap[B + 1]? = some (.cells #[.string ⟨#[c]⟩] 9 (0, 0)) ∧ W.heap[B + 1 + 1]? = some (.cells #[.int .i64 0] 3 (0, 0))
set_option maxRecDepth 100000 in
set_option maxHeartbeats 8000000 in
theorem split_seqZ (B : Nat) (c : UInt8) (s : ByteArray) (w : World) (hs : s.size ≤ 1000000) (hb : SplB B c s w) :
    SeqZ Tryz.prog 88 #[.pointer (some ⟨B + 1, 0, none⟩), .pointer (some ⟨B, 0, none⟩), .pointer (some ⟨B + 1 + 1, 0, none⟩)] encL (fun b => b = B + 1 ∨ b = B + 1 + 1) (fun b => b = B) (splitC c s.data.toList) w := fun l J Jx X V hsm hYl hX hJ hJx hY h0 => by
  have kB := (hsm B (.inr rfl)).trans hb.1
  have k1 := (hsm (B + 1) (.inl (.inl rfl))).trans hb.2.1
  have k2 := (hsm (B + 1 + 1) (.inl (.inr rfl))).trans hb.2.2
  have hXB : ¬ X B ∧ ¬ X (B + 1) ∧ ¬ X (B + 1 + 1) := ⟨fun e => (hX _ e).2 (.inr rfl), fun e => (hX _ e).2 (.inl (.inl rfl)), fun e => (hX _ e).2 (.inl (.inr rfl))⟩
  have H := Lib.hid (And.intro hX (And.intro hJ (And.intro hJx (And.intro hY hXB))))
  have hBV := blk_lt k2
  have e1 := blk_cell k1 0
  have hfix : ∀ W, Fr (fun k => X k ∨ k = B) V W → W.heap[B + 1]? = some (.cells #[.string ⟨#[c]⟩] 9 (0, 0)) ∧ W.heap[B + 1 + 1]? = some (.cells #[.int .i64 0] 3 (0, 0)) := fun W hf => ⟨hf.blk k1 fun e => e.elim hXB.2.1 (by omega), hf.blk k2 fun e => e.elim hXB.2.2 (by omega)⟩
  have HFX := Lib.hid hfix
  have h00 : Hid (∃ X1 pre, GrowX X X1 V V ∧ Fr (fun k => X k ∨ k = B) V V ∧ J pre X1 V ∧ pre ++ splitC c s.data.toList = splitC c s.data.toList ∧ V.heap[B]? = some (.cells #[.string s] 9 (0, 0))) :=
    ⟨X, [], GrowX.refl fun k hk => (hX k hk).1, Fr.refl _ _, h0, rfl, kB⟩
  clear hb hsm hYl hX hJ hJx hY h0 kB k1 k2 hXB hfix
  refine (callsIn_wide (n := 20)).1 ?_
  refine callsIn_of_wp Tryz.func88 rfl trivial ?_ rfl
  simp only [Tryz.ntmps88, List.size_toArray, List.length_cons, List.length_nil, Nat.reduceAdd, Nat.reduceSub, Array.replicate_succ, Array.replicate_zero, List.push_toArray, List.append_toArray, List.nil_append, List.cons_append]
  gi_wp2_with fail
  gi_loopg [29] s.size (fun r _ wr => ∃ R : ByteArray, r = R.size ∧ R.size ≤ s.size ∧ Hid (∃ X1 pre, GrowX X X1 V wr ∧ Fr (fun k => X k ∨ k = B) V wr ∧ J pre X1 wr ∧ pre ++ splitC c R.data.toList = splitC c s.data.toList ∧ wr.heap[B]? = some (.cells #[.string R] 9 (0, 0))))
  case atStart => exact ⟨s, rfl, Nat.le_refl _, h00⟩
  case round =>
    clear h00 e1
    obtain ⟨R, hr, hRs, HR⟩ := hrel
    have HG := Lib.hid hr
    clear hr
    obtain ⟨X1, pre, g1, f1, j1, hsp, kB⟩ := HR.out
    obtain ⟨kk1, kk2⟩ := HFX.out _ f1
    have c0 := blk_cell kB 0
    have z0 := blk_free kB 0
    have c1 := blk_cell kk1 0
    have c2 := blk_cell kk2 0
    have HR1 := Lib.hid (And.intro g1 (And.intro f1 (And.intro j1 (And.intro hsp kB))))
    clear g1 f1 j1 hsp kB HR kk1 kk2
    have hR : R.size ≤ 1000000 := by omega
    have hix := fun W => ix1 R c W hR
    have hge := Lib.indexByte_ge R.data.toList c
    by_cases hno : Lib.indexByte R.data.toList c = -1
    · rw [hno] at hix
      have HIX := Lib.hid hix
      have HNO := Lib.hid (splitC_no c R hno)
      clear hno hge hix
      obtain ⟨hX, hJ, hJx, hY, hXB⟩ := H.out
      obtain ⟨g1, f1, j1, hsp, kB⟩ := HR1.out
      have hsp4 : pre ++ R.data.toList :: [] = splitC c s.data.toList := by rw [← hsp, HNO.out]
      obtain ⟨fn, tmps, assign, body, hy, hRd⟩ := hY pre R.data.toList [] X1 wr hsp4 g1 j1 f1
      simp only [encL, bs_of] at hy
      have HP := Lib.hid (And.intro g1 (And.intro f1 (And.intro hsp4 hJx)))
      clear hX hJ hJx hY hXB g1 f1 j1 hsp kB hsp4
      gi_wp2_with fail
      refine ⟨trivial, (calls_wide (.inl rfl) (HIX.out _)).mono ?_⟩
      rintro e w' ⟨rfl, rfl⟩
      gi_wp2_with fail
      refine (round_wide (.inl rfl) hRd).mono ?_
      rintro e W5 ⟨X2, g2, f2, (⟨rfl, hJ3⟩ | ⟨rfl, hJx3⟩)⟩
      · obtain ⟨g4, f4, hsp4, hJx⟩ := HP.out
        have HN : Hid (∃ X2, GrowX X X2 V W5 ∧ Fr (fun k => X k ∨ k = B) V W5 ∧ J (splitC c s.data.toList) X2 W5) :=
          ⟨X2, g4.trans g2 f4.size, f4.trans3 f2 fun k hk e => .inl ((g4 k e).2 hk), by rw [← hsp4]; exact hJ3⟩
        clear g4 f4 hsp4 hJx g2 f2 hJ3 hRd hy
        gi_wp2_with fail
        go_end0
        obtain ⟨X3, a1, a2, a3⟩ := HN.out
        exact ⟨⟨_, rfl⟩, X3, a1, a2, .inl a3⟩
      · obtain ⟨g4, f4, hsp4, hJx⟩ := HP.out
        have HN : Hid (∃ X2, GrowX X X2 V W5 ∧ Fr (fun k => X k ∨ k = B) V W5 ∧ ∃ pre r, pre ++ r = splitC c s.data.toList ∧ Jx pre X2 W5) :=
          ⟨X2, g4.trans g2 f4.size, f4.trans3 f2 fun k hk e => .inl ((g4 k e).2 hk), _, [], by rw [List.append_nil]; exact hsp4, hJx3⟩
        clear g4 f4 hsp4 hJx g2 f2 hJx3 hRd hy
        gi_wp2_with fail
        go_end0
        obtain ⟨X3, a1, a2, a3⟩ := HN.out
        exact ⟨⟨_, rfl⟩, X3, a1, a2, .inr a3⟩
    · obtain ⟨o, ho⟩ : ∃ o : Nat, Lib.indexByte R.data.toList c = o := ⟨(Lib.indexByte R.data.toList c).toNat, by omega⟩
      obtain ⟨hoR, hso⟩ := splitC_at c R o ho
      rw [ho] at hix
      have HIX := Lib.hid hix
      have hrs : (R.extract (o + 1) R.size).size = R.size - (o + 1) := by simp
      have HRS := Lib.hid hrs
      have hp0 : ¬ ((o : Int) < 0) := by omega
      have hp1 : (o : Int) ≤ (R.size : Int) := by omega
      have hp2 : (o : Int) + 1 ≤ (R.size : Int) := by omega
      obtain ⟨hX, hJ, hJx, hY, hXB⟩ := H.out
      obtain ⟨g1, f1, j1, hsp, kB⟩ := HR1.out
      have hsp4 : pre ++ (R.extract 0 o).data.toList :: splitC c (R.extract (o + 1) R.size).data.toList = splitC c s.data.toList := by rw [← hsp, hso]
      obtain ⟨fn, tmps, assign, body, hy, hRd⟩ := hY pre (R.extract 0 o).data.toList _ X1 wr hsp4 g1 j1 f1
      simp only [encL, bs_of] at hy
      have hX1B : ¬ X1 B := fun e => hXB.1 ((g1 B e).2 (by omega))
      have hsep : ∀ W, Fr X1 wr W → W.heap[B]? = some (.cells #[.string R] 9 (0, 0)) ∧ W.heap[B + 1]? = some (.cells #[.string ⟨#[c]⟩] 9 (0, 0)) := fun W hf => by
        obtain ⟨kk1, kk2⟩ := HFX.out _ f1
        exact ⟨hf.blk kB hX1B, hf.blk kk1 fun e => hXB.2.1 ((g1 _ e).2 (by omega))⟩
      have HP := Lib.hid (And.intro g1 (And.intro f1 (And.intro hsp4 (And.intro hJ (And.intro hJx (And.intro hX1B hsep))))))
      clear hX hJ hJx hY hXB g1 f1 j1 hsp kB hsp4 hno hge ho hrs hso hix hX1B hsep
      gi_wp2_with fail
      refine ⟨trivial, (calls_wide (.inl rfl) (HIX.out _)).mono ?_⟩
      rintro e w' ⟨rfl, rfl⟩
      gi_wp2_with fail
      refine (round_wide (.inl rfl) hRd).mono ?_
      rintro e W5 ⟨X2, g2, f2, (⟨rfl, hJ3⟩ | ⟨rfl, hJx3⟩)⟩
      · obtain ⟨g4, f4, hsp4, hJ, hJx, hX1B, hsep⟩ := HP.out
        obtain ⟨m0, m1⟩ := hsep W5 f2
        have d0 := blk_cell m0 0
        have d1 := blk_cell m1 0
        have y0 := blk_free m0 0
        obtain ⟨W6, hW6⟩ : ∃ W6, W5.setCell ⟨B, 0, none⟩ (.string (R.extract (o + 1) R.size)) = W6 := ⟨_, rfl⟩
        have fB : Fr (fun k => k = B) W5 W6 := by rw [← hW6]; exact Fr.setCell (X := fun k => k = B) (Fr.refl _ _) ⟨B, 0, none⟩ rfl _
        have zB : W6.heap.size = W5.heap.size := by rw [← hW6]; simp
        have hX2B : ¬ X2 B := fun e => hX1B ((g2 B e).2 (by have := f4.size; omega))
        have HN : Hid (∃ X1 pre, GrowX X X1 V W6 ∧ Fr (fun k => X k ∨ k = B) V W6 ∧ J pre X1 W6 ∧ pre ++ splitC c (R.extract (o + 1) R.size).data.toList = splitC c s.data.toList ∧ W6.heap[B]? = some (.cells #[.string (R.extract (o + 1) R.size)] 9 (0, 0))) :=
          ⟨X2, _, fun k hk => ⟨by rw [zB]; exact ((g4.trans g2 f4.size) k hk).1, ((g4.trans g2 f4.size) k hk).2⟩, (f4.trans3 f2 fun k hk e => .inl ((g4 k e).2 hk)).trans3 fB fun k _ e => .inr e, hJ.fr hJ3 (fun k hk => (g2 k hk).1) fB fun k e h => hX2B (e ▸ h), by rw [List.append_assoc]; exact hsp4, by rw [← hW6]; exact blk_set m0 0 _⟩
        rw [← hW6] at HN
        clear g4 f4 hsp4 hJ hJx hX1B hsep g2 f2 hJ3 hRd hy m0 m1 hW6 fB zB hX2B c0 c1 z0
        gi_wp2_with fail
        gi_roundg (R.extract (o + 1) R.size).size
        case measure => rw [HG.out, HRS.out]; omega
        case rel => exact ⟨_, rfl, by rw [HRS.out]; omega, HN⟩
      · obtain ⟨g4, f4, hsp4, hJ, hJx, hX1B, hsep⟩ := HP.out
        have HN : Hid (∃ X2, GrowX X X2 V W5 ∧ Fr (fun k => X k ∨ k = B) V W5 ∧ ∃ pre r, pre ++ r = splitC c s.data.toList ∧ Jx pre X2 W5) :=
          ⟨X2, g4.trans g2 f4.size, f4.trans3 f2 fun k hk e => .inl ((g4 k e).2 hk), _, splitC c (R.extract (o + 1) R.size).data.toList, by rw [List.append_assoc]; exact hsp4, hJx3⟩
        clear g4 f4 hsp4 hJ hJx hX1B hsep g2 f2 hJx3 hRd hy
        gi_wp2_with fail
        refine bodyPost_ret (results_none rfl _ _ _) rfl ?_
        obtain ⟨X3, a1, a2, a3⟩ := HN.out
        exact ⟨⟨_, rfl⟩, X3, a1, a2, .inr a3⟩
end Go.Proofs.YtnoeblnljfnecaaGreatDoor
end
section
/- Layer 21: mathematics: letters, nicknames between commas, what WATCH asks for. -/
namespace Go.Proofs.YtnoeblnljfnecaaGreatDoor
set_option linter.unusedVariables false
set_option linter.unusedSimpArgs false
open Go Go.RowKit

def letV (l : List UInt8) : UInt8 := if l = [67] then 67 else if l = [99] then 67 else if l = [76] then 76 else if l = [108] then 76 else if l = [83] then 83 else if l = [115] then 83 else 0
noncomputable def nickB (l : List UInt8) : Bool := dec (NickP (bs l))
noncomputable def nicksV (l : List UInt8) : List (List UInt8) := (splitC 44 l).filter nickB
theorem nickB_nil : nickB [] = false := (dec_no fun h => absurd h.1.1 (by decide)).symm
theorem splitC_mem_len (c : UInt8) : ∀ (l : List UInt8), ∀ p ∈ splitC c l, p.length ≤ l.length
  | [], p, hp => by simp [splitC] at hp; simp [hp]
  | b :: r, p, hp => by
    have ih := splitC_mem_len c r
    unfold splitC at hp
    split at hp
    · rw [List.mem_cons] at hp
      rcases hp with rfl | hp
      · simp
      · have := ih p hp; simp; omega
    · split at hp
      · simp at hp; subst hp; simp
      · rename_i q qs hq
        rw [List.mem_cons] at hp
        rcases hp with rfl | hp
        · have := ih q (by rw [hq]; exact List.mem_cons_self); simp; omega
        · have := ih p (by rw [hq]; exact List.mem_cons_of_mem _ hp); simp; omega
abbrev WishV := UInt8 × List UInt8
noncomputable def wishV (l : List UInt8) : Option WishV := if letV l ≠ 0 then some (letV l, []) else match l with
  | [] => none
  | c :: r => if (c = 43 ∨ c = 45) ∧ nickB r = true then some (c, r) else none
noncomputable def watchV (ps : List (List UInt8)) : List WishV := ps.filterMap wishV
noncomputable def watchA (ps : List (List UInt8)) : List WishV := if ps = [] then [(76, [])] else watchV ps
theorem watchV_snoc (ps : List (List UInt8)) (p : List UInt8) : watchV (ps ++ [p]) = watchV ps ++ (wishV p).toList := by
  unfold watchV
  rw [List.filterMap_append]
  cases h : wishV p <;> simp [h]
theorem watchV_len (ps : List (List UInt8)) : (watchV ps).length ≤ ps.length := List.length_filterMap_le _ _
theorem letV_long {l : List UInt8} (h : l.length ≠ 1) : letV l = 0 := by
  have : ∀ x : UInt8, l ≠ [x] := fun x e => h (by rw [e]; rfl)
  unfold letV
  simp [this]
def opM (ps : List (List UInt8)) : UInt8 := match ps with
  | [] => 0
  | p :: _ => if p = [43] then 43 else if p = [45] then 45 else letV p
noncomputable def namesM (ps : List (List UInt8)) : List (List UInt8) := match ps with
  | p :: q :: _ => if p = [43] ∨ p = [45] then nicksV q else []
  | _ => []
end Go.Proofs.YtnoeblnljfnecaaGreatDoor
end
section
/- Layer 21: letter, both. -/
namespace Go.Proofs.YtnoeblnljfnecaaGreatDoor
set_option linter.unusedVariables false
set_option linter.unusedSimpArgs false
open Go Go.RowKit

theorem let_cases (s : ByteArray) : s = ⟨#[67]⟩ ∨ s = ⟨#[99]⟩ ∨ s = ⟨#[76]⟩ ∨ s = ⟨#[108]⟩ ∨ s = ⟨#[83]⟩ ∨ s = ⟨#[115]⟩ ∨
    (letV s.data.toList = 0 ∧ ∀ x : UInt8, x ∈ ([67, 99, 76, 108, 83, 115] : List UInt8) → (s.toList == [x]) = false ∧ ([x] == s.toList) = false ∧ s ≠ ⟨#[x]⟩) := by
  by_cases h1 : s = ⟨#[67]⟩
  · exact .inl h1
  by_cases h2 : s = ⟨#[99]⟩
  · exact .inr (.inl h2)
  by_cases h3 : s = ⟨#[76]⟩
  · exact .inr (.inr (.inl h3))
  by_cases h4 : s = ⟨#[108]⟩
  · exact .inr (.inr (.inr (.inl h4)))
  by_cases h5 : s = ⟨#[83]⟩
  · exact .inr (.inr (.inr (.inr (.inl h5))))
  by_cases h6 : s = ⟨#[115]⟩
  · exact .inr (.inr (.inr (.inr (.inr (.inl h6)))))
  have key : ∀ x : UInt8, s ≠ ⟨#[x]⟩ → s.data.toList ≠ [x] := fun x h e => h (ba_ext (by rw [e]))
  refine .inr (.inr (.inr (.inr (.inr (.inr ⟨?_, fun x hx => ?_⟩)))))
  · unfold letV
    rw [if_neg (key _ h1), if_neg (key _ h2), if_neg (key _ h3), if_neg (key _ h4), if_neg (key _ h5), if_neg (key _ h6)]
  · have hne : s ≠ ⟨#[x]⟩ := by
      simp only [List.mem_cons, List.not_mem_nil, or_false] at hx
      rcases hx with rfl | rfl | rfl | rfl | rfl | rfl <;> assumption
    have := key x hne
    rw [ByteArray.toList_eq]
    exact ⟨by simpa using this, by simpa using fun e => this e.symm, hne⟩
set_option maxHeartbeats 4000000 in
theorem letter_w (s : ByteArray) (w : World) : Calls Tryz.prog 43 #[.string s] w fun e w' => e = .returned (.int .u8 (letV s.data.toList).toNat) ∧ w = w' := by
  rcases let_cases s with rfl | rfl | rfl | rfl | rfl | rfl | ⟨h0, h⟩
  iterate 6
    · go_enter Tryz.func43, Tryz.ntmps43
      go_wp2_with fail
      go_ret
      exact ⟨rfl, rfl⟩
  · have q1 := (h 67 (by simp)).1
    have q2 := (h 99 (by simp)).1
    have q3 := (h 76 (by simp)).1
    have q4 := (h 108 (by simp)).1
    have q5 := (h 83 (by simp)).1
    have q6 := (h 115 (by simp)).1
    rw [h0]
    clear h h0
    go_enter Tryz.func43, Tryz.ntmps43
    go_wp2_with fail
    go_ret
    exact ⟨rfl, rfl⟩
end Go.Proofs.YtnoeblnljfnecaaGreatDoor
end
section
/- ValidNames, walked. -/
namespace Go.Proofs.YtnoeblnljfnecaaGreatDoor
open Go.RowKit

theorem nickP_ab : NickP ⟨#[97, 45, 98]⟩ := by
  refine ⟨by decide, fun i hi => ?_⟩
  have hi' : i < 3 := hi
  rcases (by omega : i = 0 ∨ i = 1 ∨ i = 2) with rfl | rfl | rfl <;> rfl
theorem nickP_da : ¬ NickP ⟨#[45, 97]⟩ := fun h => by
  have := h.2 0 (by decide)
  rw [show nickAt 0 (⟨#[45, 97]⟩ : ByteArray)[0] = false from by kernel_rfl] at this; cases this
theorem nickP_1a : ¬ NickP ⟨#[49, 97]⟩ := fun h => by
  have := h.2 0 (by decide)
  rw [show nickAt 0 (⟨#[49, 97]⟩ : ByteArray)[0] = false from by kernel_rfl] at this; cases this
theorem chanP_a : ChanP ⟨#[35, 97]⟩ := by
  refine ⟨by decide, ⟨by decide, by kernel_rfl⟩, fun i hi => ?_⟩
  have hi' : i < 2 := hi
  rcases (by omega : i = 0 ∨ i = 1) with rfl | rfl <;> rfl
theorem chanP_h : ¬ ChanP ⟨#[35]⟩ := fun h => by
  have := h.1.1; revert this; decide



end Go.Proofs.YtnoeblnljfnecaaGreatDoor
end
section
/- ValidAlike, walked. -/
namespace Go.Proofs.YtnoeblnljfnecaaGreatDoor
open Go.RowKit

theorem Rowed.below {w w' : World} {B : Nat} (h : Rowed w) (hB : w.heap.size ≤ B) (hb : Below B w w') : Rowed w' := by
  intro i hi
  obtain ⟨s, h1, h2⟩ := h i hi
  refine ⟨s, ?_, h2⟩
  rw [← h1]
  exact hb.cell (Nat.lt_of_lt_of_le (World.block_lt_of_cell? _ _ h1) hB)



theorem nickAt_fold0 (b : UInt8) : (decide (b = 126) || (nickAt 0 b == nickAt 0 (foldB b))) = true := all256 (p := fun b => decide (b = 126) || (nickAt 0 b == nickAt 0 (foldB b))) (by kernel_rfl) b
theorem nickAt_fold1 (b : UInt8) : (decide (b = 126) || (nickAt 1 b == nickAt 1 (foldB b))) = true := all256 (p := fun b => decide (b = 126) || (nickAt 1 b == nickAt 1 (foldB b))) (by kernel_rfl) b
theorem nickAt_fold (i : Nat) {b : UInt8} (h : b ≠ 126) : nickAt i b = nickAt i (foldB b) := by
  by_cases e : i = 0
  · subst e; have := nickAt_fold0 b; simpa [h] using this
  · have := nickAt_fold1 b
    have e1 : ∀ b, nickAt i b = nickAt 1 b := fun b => by unfold nickAt; rw [decide_eq_true e]; rfl
    rw [e1 b, e1 (foldB b)]; simpa [h] using this
theorem nick_tilde {s : ByteArray} (h : NickP s) : inB s.data.toList 126 = false := by
  symm
  refine inB_no (Nat.le_refl _) fun i _ hi e => ?_
  have := h.2 i hi
  rw [e] at this
  unfold nickAt at this
  rw [show letterB 126 = false from rfl, show signB 126 = false from rfl, show digitB 126 = false from rfl, show decide ((126 : UInt8).toNat = 45) = false from rfl] at this
  simp at this
theorem nick_fold {a b : ByteArray} (h : foldL a.data.toList = foldL b.data.toList) (ha : inB a.data.toList 126 = false) (hb : inB b.data.toList 126 = false) (hn : NickP a) : NickP b := by
  have hl : a.size = b.size := by
    have := congrArg List.length h
    simpa using this
  have no : ∀ {s : ByteArray}, inB s.data.toList 126 = false → ∀ i (hi : i < s.size), s[i] ≠ 126 := by
    intro s hs i hi e
    have := inB_yes hi e
    rw [hs] at this; cases this
  refine ⟨by rw [← hl]; exact hn.1, fun i hi => ?_⟩
  have hi' : i < a.size := by omega
  have := hn.2 i hi'
  rw [nickAt_fold i (no ha i hi')] at this
  rw [nickAt_fold i (no hb i hi)]
  have e : foldB a[i] = foldB b[i] := by
    have h0 : (foldL a.data.toList)[i]? = (foldL b.data.toList)[i]? := by rw [h]
    unfold foldL at h0
    rw [List.getElem?_map, List.getElem?_map, List.getElem?_eq_getElem (by simpa using hi'), List.getElem?_eq_getElem (by simpa using hi)] at h0
    exact Option.some.inj h0
  rw [← e]; exact this
theorem nick_chan {s : ByteArray} (h : NickP s) : ¬ ChanP s := by
  rintro ⟨_, ⟨h0, e⟩, _⟩
  have := h.2 0 h0
  have e' : s[0] = 35 := UInt8.toNat_inj.mp e
  rw [e'] at this
  revert this; decide

end Go.Proofs.YtnoeblnljfnecaaGreatDoor
end
section
/- Layer 21: what one parameter of WATCH asks for. -/
namespace Go.Proofs.YtnoeblnljfnecaaGreatDoor
set_option linter.unusedVariables false
set_option linter.unusedSimpArgs false
open Go Go.RowKit Go.Lib

theorem res_two {P : Program} {fn : Func} {p : Tmp} {ty : TypeId} {tmps : Array Value} {V : World} {N : Nat} {a b : Value} (h : fn.results = #[.cell p ty]) (hp : tmps.getD p undef = .pointer (some ⟨N, 0, none⟩)) (hg : (isAgg ty).run P V = .ok true V) (hz : (sizeOf ty).run P V = .ok 2 V)
    (h0 : V.cell? ⟨N, 0, none⟩ = some a) (h1 : V.cell? ⟨N, 1, none⟩ = some b) : (results fn tmps).run P V = .ok (.agg #[a, b]) V := by
  have hp' : tmps[p]?.getD undef = .pointer (some ⟨N, 0, none⟩) := by simpa using hp
  simp [results, h, hp', asAddr, loadVar, Sem.run_bind, hg, hz, loadCells, loadCellsFrom, h0, h1, Result.andThen, go_sem]
def wishR (o : Option WishV) : Value := match o with
  | none => .agg #[.int .u8 0, .string ⟨#[]⟩]
  | some (c, l) => .agg #[.int .u8 c.toNat, .string (bs l)]
theorem u8_ne {c : UInt8} {n : Nat} (hn : n < 256) (h : c ≠ UInt8.ofNat n) : ((c.toNat : Int) == (n : Int)) = false := by
  rw [beq_eq_false_iff_ne]
  intro e
  apply h
  have : c.toNat = n := by omega
  rw [← this]
  simp
theorem tail_bs (s : ByteArray) : bs s.data.toList.tail = s.extract 1 s.size := ba_ext (by
  rw [bs_toList, ba_extract_to]
  cases s.data.toList <;> rfl)
theorem head_bs (s : ByteArray) (h : 0 < s.size) : s.data.toList = s[0] :: s.data.toList.tail := by
  cases hl : s.data.toList with
  | nil => have : s.data.toList.length = s.size := rfl; rw [hl] at this; simp at this; omega
  | cons a r =>
    have : s[0] = s.data.toList[0]'(by rw [hl]; simp) := rfl
    rw [this]
    simp [hl]
set_option maxRecDepth 100000 in
set_option maxHeartbeats 8000000 in
theorem wish_v (s : ByteArray) (w : World) (hs : s.size ≤ 1000000) (hR : Rowed w) :
    Calls Tryz.prog 44 #[.string s] w fun e w' => e = .returned (wishR (wishV s.data.toList)) ∧ Below w.heap.size w w' := by
  have mixed : (Tryz.prog).follows Departure.mixedOrders = true := by kernel_rfl
  have hlet := letter_w s
  obtain ⟨c, hc⟩ : ∃ c, letV s.data.toList = c := ⟨_, rfl⟩
  rw [hc] at hlet
  have hnew := heap_alloc_new w (.cells #[.int .u8 0, .string ⟨#[]⟩] 58)
  obtain ⟨w1, hw1⟩ : ∃ w1, w.alloc (.cells #[.int .u8 0, .string ⟨#[]⟩] 58) = w1 := ⟨_, rfl⟩
  rw [hw1] at hnew
  have b1 : Below w.heap.size w w1 := by rw [← hw1]; exact (Below.refl _ _).alloc (Nat.le_refl _) _
  have HR := Lib.hid (hR.below (Nat.le_refl _) b1)
  have HB := Lib.hid (And.intro b1 hnew)
  have d0 := blk_cell hnew 0
  have d1 := blk_cell hnew 1
  have g0 := blk_free hnew 0
  have g1 := blk_free hnew 1
  have HW := Lib.hid hw1
  have HLT := Lib.hid hlet
  clear hR hw1 b1 hnew hlet
  by_cases h0 : c = 0
  · subst h0
    have hc0 : ((0 : UInt8).toNat : Int) = 0 := rfl
    by_cases hz : 0 < s.size
    · have hh := head_bs s hz
      obtain ⟨x, hx⟩ : ∃ x, s[0] = x := ⟨_, rfl⟩
      rw [hx] at hh
      have hsz1 : (s.extract 1 s.size).size ≤ 1000000 := by simp; omega
      have HN := Lib.hid (nick_v (s.extract 1 s.size) w1 hsz1 HR.out)
      obtain ⟨nb, hnb⟩ : ∃ nb, dec (NickP (s.extract 1 s.size)) = nb := ⟨_, rfl⟩
      rw [hnb] at HN
      have hse := str_ne hz
      have hse2 : (!s.toList.isEmpty) = true := by rw [hse]; rfl
      have hbs := tail_bs s
      have hv : wishV s.data.toList = if (x = 43 ∨ x = 45) ∧ nb = true then some (x, s.data.toList.tail) else none := by
        unfold wishV
        rw [hc, if_neg (by decide)]
        rw [hh]
        dsimp only
        unfold nickB
        rw [List.tail_cons, hbs, hnb]
      have HV := Lib.hid (And.intro hv hbs)
      clear hv hh hbs hnb hc
      by_cases hm : x = 43 ∨ x = 45
      · rcases hm with hm | hm
        · subst hm
          cases nb with
          | true =>
            have hv2 : wishV s.data.toList = some (43, s.data.toList.tail) := by rw [HV.out.1, if_pos ⟨.inl rfl, rfl⟩]
            have HV2 := Lib.hid (And.intro hv2 HV.out.2)
            clear hv2
            go_enter Tryz.func44, Tryz.ntmps44
            go_wp2_with fail
            rw [HW.out]
            refine (HLT.out _).mono ?_
            rintro e w' ⟨rfl, rfl⟩
            go_wp2_with fail
            refine HN.out.mono ?_
            rintro e w' ⟨rfl, rfl⟩
            go_wp2_with fail
            go_region_with (fail)
            all_goals go_wp2_with fail
            all_goals
              obtain ⟨b1, hnew⟩ := HB.out
              obtain ⟨hv, hbs⟩ := HV2.out
              rw [hv]
              have hk := blk_set (blk_set (blk_drew hnew) 0 (.int .u8 43)) 1 (.string (s.extract 1 s.size))
              refine bodyPost_ret (v := .agg #[.int .u8 43, .string (s.extract 1 s.size)]) (res_two rfl rfl (by kernel_rfl) (by kernel_rfl) (blk_cell hk 0) (blk_cell hk 1)) rfl ⟨by rw [← hbs]; rfl, ?_⟩
              exact (b1.drew.setCell (Nat.le_refl _) _).setCell (Nat.le_refl _) _
          | false =>
            have hv2 : wishV s.data.toList = none := by rw [HV.out.1, if_neg (by simp)]
            have HV2 := Lib.hid hv2
            clear hv2
            go_enter Tryz.func44, Tryz.ntmps44
            go_wp2_with fail
            rw [HW.out]
            refine (HLT.out _).mono ?_
            rintro e w' ⟨rfl, rfl⟩
            go_wp2_with fail
            refine HN.out.mono ?_
            rintro e w' ⟨rfl, rfl⟩
            go_wp2_with fail
            obtain ⟨b1, hnew⟩ := HB.out
            rw [HV2.out]
            refine bodyPost_ret (v := .agg #[.int .u8 0, .string ⟨#[]⟩]) (res_two rfl rfl (by kernel_rfl) (by kernel_rfl) (by first | exact blk_cell hnew 0 | exact blk_cell (blk_set (blk_set hnew 0 (.int .u8 0)) 1 (.string ⟨#[]⟩)) 0) (by first | exact blk_cell hnew 1 | exact blk_cell (blk_set (blk_set hnew 0 (.int .u8 0)) 1 (.string ⟨#[]⟩)) 1)) rfl ⟨rfl, ?_⟩
            first | exact b1 | exact (b1.setCell (Nat.le_refl _) _).setCell (Nat.le_refl _) _
        · subst hm
          cases nb with
          | true =>
            have hv2 : wishV s.data.toList = some (45, s.data.toList.tail) := by rw [HV.out.1, if_pos ⟨.inr rfl, rfl⟩]
            have HV2 := Lib.hid (And.intro hv2 HV.out.2)
            clear hv2
            go_enter Tryz.func44, Tryz.ntmps44
            go_wp2_with fail
            rw [HW.out]
            refine (HLT.out _).mono ?_
            rintro e w' ⟨rfl, rfl⟩
            go_wp2_with fail
            refine HN.out.mono ?_
            rintro e w' ⟨rfl, rfl⟩
            go_wp2_with fail
            go_region_with (fail)
            all_goals go_wp2_with fail
            all_goals
              obtain ⟨b1, hnew⟩ := HB.out
              obtain ⟨hv, hbs⟩ := HV2.out
              rw [hv]
              have hk := blk_set (blk_set (blk_drew hnew) 0 (.int .u8 45)) 1 (.string (s.extract 1 s.size))
              refine bodyPost_ret (v := .agg #[.int .u8 45, .string (s.extract 1 s.size)]) (res_two rfl rfl (by kernel_rfl) (by kernel_rfl) (blk_cell hk 0) (blk_cell hk 1)) rfl ⟨by rw [← hbs]; rfl, ?_⟩
              exact (b1.drew.setCell (Nat.le_refl _) _).setCell (Nat.le_refl _) _
          | false =>
            have hv2 : wishV s.data.toList = none := by rw [HV.out.1, if_neg (by simp)]
            have HV2 := Lib.hid hv2
            clear hv2
            go_enter Tryz.func44, Tryz.ntmps44
            go_wp2_with fail
            rw [HW.out]
            refine (HLT.out _).mono ?_
            rintro e w' ⟨rfl, rfl⟩
            go_wp2_with fail
            refine HN.out.mono ?_
            rintro e w' ⟨rfl, rfl⟩
            go_wp2_with fail
            obtain ⟨b1, hnew⟩ := HB.out
            rw [HV2.out]
            refine bodyPost_ret (v := .agg #[.int .u8 0, .string ⟨#[]⟩]) (res_two rfl rfl (by kernel_rfl) (by kernel_rfl) (by first | exact blk_cell hnew 0 | exact blk_cell (blk_set (blk_set hnew 0 (.int .u8 0)) 1 (.string ⟨#[]⟩)) 0) (by first | exact blk_cell hnew 1 | exact blk_cell (blk_set (blk_set hnew 0 (.int .u8 0)) 1 (.string ⟨#[]⟩)) 1)) rfl ⟨rfl, ?_⟩
            first | exact b1 | exact (b1.setCell (Nat.le_refl _) _).setCell (Nat.le_refl _) _
      · have q1 : ((x.toNat : Int) == 43) = false := u8_ne (c := x) (n := 43) (by omega) (fun e => hm (.inl e))
        have q2 : ((x.toNat : Int) == 45) = false := u8_ne (c := x) (n := 45) (by omega) (fun e => hm (.inr e))
        have hv2 : wishV s.data.toList = none := by rw [HV.out.1, if_neg (fun e => hm e.1)]
        have HV2 := Lib.hid hv2
        clear hm hv2
        go_enter Tryz.func44, Tryz.ntmps44
        go_wp2_with fail
        rw [HW.out]
        refine (HLT.out _).mono ?_
        rintro e w' ⟨rfl, rfl⟩
        go_wp2_with fail
        obtain ⟨b1, hnew⟩ := HB.out
        rw [HV2.out]
        refine bodyPost_ret (v := .agg #[.int .u8 0, .string ⟨#[]⟩]) (res_two rfl rfl (by kernel_rfl) (by kernel_rfl) (by first | exact blk_cell hnew 0 | exact blk_cell (blk_set (blk_set hnew 0 (.int .u8 0)) 1 (.string ⟨#[]⟩)) 0) (by first | exact blk_cell hnew 1 | exact blk_cell (blk_set (blk_set hnew 0 (.int .u8 0)) 1 (.string ⟨#[]⟩)) 1)) rfl ⟨rfl, ?_⟩
        first | exact b1 | exact (b1.setCell (Nat.le_refl _) _).setCell (Nat.le_refl _) _
    · have hs0 : s = ⟨#[]⟩ := ba_ext (by
        have : s.data.toList.length = s.size := rfl
        have h2 : s.data.toList = [] := List.length_eq_zero_iff.1 (by omega)
        rw [h2])
      subst hs0
      clear hc
      go_enter Tryz.func44, Tryz.ntmps44
      go_wp2_with fail
      rw [HW.out]
      refine (HLT.out _).mono ?_
      rintro e w' ⟨rfl, rfl⟩
      go_wp2_with fail
      obtain ⟨b1, hnew⟩ := HB.out
      rw [show wishV (⟨#[]⟩ : ByteArray).data.toList = none by unfold wishV; rw [if_neg (by decide)]]
      refine bodyPost_ret (v := .agg #[.int .u8 0, .string ⟨#[]⟩]) (res_two rfl rfl (by kernel_rfl) (by kernel_rfl) (by first | exact blk_cell hnew 0 | exact blk_cell (blk_set (blk_set hnew 0 (.int .u8 0)) 1 (.string ⟨#[]⟩)) 0) (by first | exact blk_cell hnew 1 | exact blk_cell (blk_set (blk_set hnew 0 (.int .u8 0)) 1 (.string ⟨#[]⟩)) 1)) rfl ⟨rfl, ?_⟩
      first | exact b1 | exact (b1.setCell (Nat.le_refl _) _).setCell (Nat.le_refl _) _
  · have q1 : ((c.toNat : Int) == 0) = false := u8_ne (n := 0) (by omega) h0
    have hv : wishV s.data.toList = some (c, []) := by unfold wishV; rw [hc, if_pos h0]
    have HV := Lib.hid hv
    clear hv h0 hc
    go_enter Tryz.func44, Tryz.ntmps44
    go_wp2_with fail
    rw [HW.out]
    refine (HLT.out _).mono ?_
    rintro e w' ⟨rfl, rfl⟩
    go_wp2_with fail
    obtain ⟨b1, hnew⟩ := HB.out
    have hk := blk_set (blk_set hnew 0 (.int .u8 c.toNat)) 1 (.string ⟨#[]⟩)
    rw [HV.out]
    refine bodyPost_ret (v := .agg #[.int .u8 c.toNat, .string ⟨#[]⟩]) (res_two rfl rfl (by kernel_rfl) (by kernel_rfl) (blk_cell hk 0) (blk_cell hk 1)) rfl ⟨rfl, ?_⟩
    exact (b1.setCell (Nat.le_refl _) _).setCell (Nat.le_refl _) _
end Go.Proofs.YtnoeblnljfnecaaGreatDoor
end
section
/- A box with a row of texts of the call's own. -/
namespace Go.Proofs.YtnoeblnljfnecaaGreatDoor
open Go Go.RowKit

/-- box S holds the row; its blocks are X -/
def BoxB (S base : Nat) (xs : List (List UInt8)) (X : Nat → Prop) (W : World) : Prop := ∃ v, W.heap[S]? = some (.cells #[v] 38 (0, 0)) ∧ OwnT base W v xs ∧ S < base ∧ ∀ k, X k ↔ (k = S ∨ v.ownBlock = some k)
theorem boxB_stays (S base : Nat) (xs : List (List UInt8)) : ∀ X V V', BoxB S base xs X V → (∀ k, X k → k < V.heap.size) → Fr (fun k => ¬ X k) V V' → BoxB S base xs X V' := fun X V V' ⟨v, h1, h2, h3, h4⟩ hl hf =>
  ⟨v, hf.blk h1 (fun e => e ((h4 S).2 (.inl rfl))), ownT_kept h2 fun g hg => hf.block g (h2.lt g hg).2 fun e => e ((h4 g).2 (.inr hg)), h3, h4⟩
/-- a text is put behind the row: what the round leaves -/
theorem boxB_put {S base l : Nat} {rb : Loop} {xs : List (List UInt8)} {x : List UInt8} {X1 : Nat → Prop} {V Vb W2 : World} {vb v1 : Value} (hG : ∀ k, X1 k → k < V.heap.size) (hX1 : ∀ k, X1 k ↔ (k = S ∨ vb.ownBlock = some k)) (hxl : ¬ X1 l) (hfb : Fr (fun k => k = l) V Vb) (hrb : Vb.heap[l]? = some (.loop rb)) (k3b : Vb.heap[S]? = some (.cells #[vb] 38 (0, 0))) (o3b : OwnT base Vb vb xs) (hzs : V.heap.size ≤ Vb.heap.size) (hSl : S < base)
    (hown1 : W2.ownsRow base 9 1 v1 (xs.length + 1) (xs.map encT ++ [encT x])) (hfr1 : Fr (fun k => vb.ownBlock = some k) Vb W2) (htie : ∀ k, v1.ownBlock = some k → vb.ownBlock = some k ∨ Vb.heap.size ≤ k) :
    ∃ X2, GrowX X1 X2 V (W2.setCell ⟨S, 0, none⟩ v1) ∧ Fr (fun k => k = l ∨ X1 k) V (W2.setCell ⟨S, 0, none⟩ v1) ∧ (W2.setCell ⟨S, 0, none⟩ v1).heap[l]? = some (.loop rb) ∧ BoxB S base (xs ++ [x]) X2 (W2.setCell ⟨S, 0, none⟩ v1) := by
  have hn3 : ∀ k, vb.ownBlock = some k → k ≠ S := fun k hk e => by have := (o3b.lt k hk).1; omega
  have e1 : W2.heap[S]? = some (.cells #[vb] 38 (0, 0)) := hfr1.blk k3b fun e => hn3 _ e rfl
  have hown2 : OwnT base W2 v1 (xs ++ [x]) := ownT_snoc hown1
  have hnx : v1.ownBlock ≠ some S := fun e => by have := (hown2.lt _ e).1; omega
  have hlS : l ≠ S := fun e => hxl ((hX1 l).2 (.inl e))
  have hl3 : ¬ vb.ownBlock = some l := fun e => hxl ((hX1 l).2 (.inr e))
  have hsz : (W2.setCell ⟨S, 0, none⟩ v1).heap.size = W2.heap.size := by simp
  refine ⟨fun k => k = S ∨ v1.ownBlock = some k, fun k hk => ?_, (((hfb.mono (Y := fun k => k = l ∨ X1 k) fun k _ e => .inl e).trans3 hfr1 fun k _ e => .inr ((hX1 k).2 (.inr e)))).setCell _ (.inr ((hX1 _).2 (.inl rfl))) _, blk_other (hfr1.blk hrb hl3) _ (by simpa using hlS) _, v1, blk_set e1 0 _, ?_, hSl, fun k => Iff.rfl⟩
  · rw [hsz]
    rcases hk with rfl | hk
    · exact ⟨blk_lt e1, fun _ => (hX1 _).2 (.inl rfl)⟩
    · refine ⟨(hown2.lt k hk).2, fun hlt => ?_⟩
      rcases htie k hk with e | e
      · exact (hX1 k).2 (.inr e)
      · omega
  · exact ownT_kept hown2 fun g hg => heap_setCell_other W2 _ g _ fun e => by simp at e; exact hnx (e ▸ hg)
/-- nothing is put -/
theorem boxB_skip {S base l : Nat} {rb : Loop} {xs : List (List UInt8)} {X1 : Nat → Prop} {V Vb : World} {vb : Value} (hG : ∀ k, X1 k → k < V.heap.size) (hX1 : ∀ k, X1 k ↔ (k = S ∨ vb.ownBlock = some k)) (hfb : Fr (fun k => k = l) V Vb) (hrb : Vb.heap[l]? = some (.loop rb)) (k3b : Vb.heap[S]? = some (.cells #[vb] 38 (0, 0))) (o3b : OwnT base Vb vb xs) (hSl : S < base) :
    ∃ X2, GrowX X1 X2 V Vb ∧ Fr (fun k => k = l ∨ X1 k) V Vb ∧ Vb.heap[l]? = some (.loop rb) ∧ BoxB S base xs X2 Vb :=
  ⟨X1, fun k hk => ⟨Nat.lt_of_lt_of_le (hG k hk) hfb.size, fun _ => hk⟩, hfb.mono (Y := fun k => k = l ∨ X1 k) fun k _ e => .inl e, hrb, vb, k3b, o3b, hSl, hX1⟩
end Go.Proofs.YtnoeblnljfnecaaGreatDoor
end
section
/- Layer 21: the nicknames between commas. -/
namespace Go.Proofs.YtnoeblnljfnecaaGreatDoor
set_option linter.unusedVariables false
set_option linter.unusedSimpArgs false
open Go Go.RowKit Go.Lib Go.Shelf
attribute [local go_sem] Oper.semAt_some

/-- a row of texts of the call's own is returned -/
def RowR (xs : List (List UInt8)) (w : World) (e : Ending) (w' : World) : Prop := (∃ A c, e = .returned (.slice A xs.length c) ∧ OwnT w.heap.size w' (.slice A xs.length c) xs) ∧ RowKit.Below w.heap.size w w'
theorem Rowed.same {w w' : World} (h : Rowed w) (hs : w'.heap[(0 : Nat)]? = w.heap[(0 : Nat)]?) : Rowed w' := fun i hi => by
  obtain ⟨s, h1, h2⟩ := h i hi
  exact ⟨s, (World.cell?_of_block (w := w) (w' := w') (a := ⟨_, i, none⟩) hs).trans h1, h2⟩
theorem Rowed.lt {w : World} (h : Rowed w) : 0 < w.heap.size := by
  obtain ⟨s, h1, _⟩ := h 0 (by decide)
  unfold World.cell? at h1
  cases hb : w.heap[(0 : Nat)]? with
  | none => simp [hb] at h1
  | some o => exact (Array.getElem?_eq_some_iff.1 hb).1
set_option maxRecDepth 100000 in
set_option maxHeartbeats 8000000 in
theorem nicks_v (s : ByteArray) (w : World) (hs : s.size ≤ 1000) (hR : Rowed w) : Calls Tryz.prog 42 #[.string s] w (RowR (nicksV s.data.toList) w) := by
  obtain ⟨i0, hi, hz0, hz1, hz2⟩ := info_parts Tryz.infoT
  refine (callsIn_wide (n := 20)).1 ?_
  refine callsIn_of_wp_marks Tryz.func42 rfl trivial ?_ rfl
  simp only [Tryz.ntmps42, List.size_toArray, List.length_cons, List.length_nil, Nat.reduceAdd, Nat.reduceSub, Array.replicate_succ, Array.replicate_zero, List.push_toArray, List.append_toArray, List.nil_append, List.cons_append]
  gi_wp2_with fail
  refine wpIn_scope ?_
  gi_wp2_with fail
  refine wpIn_label ?_
  gi_wp2_with fail
  refine ⟨trivial, (calls_wide (.inl rfl) (splitc_any s 44 _)).mono ?_⟩
  rintro e w2 ⟨rfl, hw2⟩
  obtain ⟨S, hS⟩ : ∃ S, w.heap.size = S := ⟨_, rfl⟩
  rw [World.size_alloc, hS]
  have kS : w2.heap[S]? = some (.cells #[.slice none 0 0] 38 (0, 0)) := by rw [hw2, ← hS]; exact blk_alloc (blk_alloc (blk_alloc (heap_alloc_new w _) _) _) _
  have kB : SplB (S + 1) 44 s w2 := by
    rw [hw2]
    obtain ⟨u, hu⟩ : ∃ u, w.alloc (.cells #[.slice none 0 0] 38) = u := ⟨_, rfl⟩
    have hz : u.heap.size = S + 1 := by rw [← hu, ← hS]; simp
    rw [hu, ← hz]
    refine ⟨blk_alloc (blk_alloc (heap_alloc_new u _) _) _, blk_alloc (heap_alloc2_new u _ _) _, ?_⟩
    have := heap_alloc2_new (u.alloc (.cells #[.string s] 9)) (.cells #[.string ⟨#[44]⟩] 9) (.cells #[.int .i64 0] 3)
    rwa [World.size_alloc] at this
  have f2 : Fr (fun _ => False) w w2 := by rw [hw2]; exact ((((Fr.refl _ w).alloc _).alloc _).alloc _).alloc _
  have z2 : w2.heap.size = S + 4 := by rw [hw2, ← hS]; simp
  have hR2 := hR.same (f2.block _ hR.lt fun e => e)
  have hRl := hR.lt
  rw [hS] at hRl
  have H := Lib.hid (And.intro kS (And.intro kB (And.intro f2 (And.intro z2 (And.intro hR2 (And.intro hRl hS))))))
  have hlen : (splitC 44 s.data.toList).length ≤ 1001 := Nat.le_trans (splitC_len 44 _) (by have : s.data.toList.length = s.size := rfl; omega)
  have hpl : ∀ p ∈ splitC 44 s.data.toList, p.length ≤ 1000 := fun p hp => Nat.le_trans (splitC_mem_len 44 _ p hp) hs
  have HL := Lib.hid (And.intro hlen hpl)
  clear hw2 kS kB f2 z2 hR2 hRl hS hR hlen hpl
  gi_wp2_with fail
  obtain ⟨kS, kB, f2, z2, hR2, hRl, hS⟩ := H.out
  refine wpIn_rangeZ (X := fun k => k = S) (Y := fun b => b = S + 1 + 1 ∨ b = S + 1 + 1 + 1) (Z := fun b => b = S + 1) (xs := splitC 44 s.data.toList) (encs := encL) (gf := 88) (lb := #[.pointer (some ⟨S + 1 + 1, 0, none⟩), .pointer (some ⟨S + 1, 0, none⟩), .pointer (some ⟨S + 1 + 1 + 1, 0, none⟩)]) (fun pre X W => BoxB S w2.heap.size (pre.filter nickB) X W) (fun _ _ _ _ => False)
    rfl (split_seqZ (S + 1) 44 s w2 (by omega) kB) (fun k hk => ⟨by omega, fun e => by omega⟩) (fun b hb => by omega) (by omega) (enters_of Tryz.func88 (by kernel_rfl) rfl) (fun _ => rfl)
    (fun s => boxB_stays _ _ _) (fun c s X1 V1 V2 h => h.elim) ⟨_, kS, ownT_nil _ _, by omega, fun k => by simp [Value.ownBlock]⟩ ?round ?done (fun _ _ _ _ _ _ _ _ _ _ _ h => h.elim)
  case round =>
    rintro l pre x r X1 V K rb hl2 hpx hI hG hxl hF hlV hK
    dsimp only [encL]
    have HK := Lib.hid hK
    have HV := Lib.hid (And.intro hpx (And.intro hI (And.intro hG (And.intro hxl (And.intro hF (And.intro hlV hl2))))))
    clear hK hpx hI hG hxl hF hlV hl2 f2 kS kB z2 hR2 hRl hS
    gi_wp2_with fail
    refine HK.out _ _ (Fr.refl _ _) fun Vb hfb hzb hsb hrb => ?_
    clear HK K
    obtain ⟨hpx, ⟨vb, k3, o3, hSl, hX1⟩, hG, hxl, hF, hlV, hl2⟩ := HV.out
    obtain ⟨kS, kB, f2, z2, hR2, hRl, hS⟩ := H.out
    have hmem : x ∈ splitC 44 s.data.toList := by rw [← hpx]; exact List.mem_append_right _ List.mem_cons_self
    have hxs := HL.out.2 x hmem
    have hpl : (pre.filter nickB).length ≤ 1001 := by
      have h1 := List.length_filter_le nickB pre
      have h2 := congrArg List.length hpx
      rw [List.length_append] at h2
      have := HL.out.1
      omega
    have k3b := hfb.blk k3 (fun e => hxl ((hX1 l).2 (.inl e.symm)))
    have o3b : OwnT w2.heap.size Vb vb (pre.filter nickB) := ownT_kept o3 fun g hg => hfb.block g (o3.lt g hg).2 fun e => hxl ((hX1 l).2 (.inr (e ▸ hg)))
    have c3 := blk_cell k3b 0
    have hzs : Vb.heap.size = V.heap.size := hzb
    have hbz : w2.heap.size ≤ Vb.heap.size := by omega
    have hRb : Rowed Vb := hR2.same ((hfb.block _ (by have := hF.size; omega) (by omega)).trans (hF.block _ (by omega) (by omega)))
    have hnk := nick_v (bs x) Vb (by rw [bs_size]; omega) hRb
    obtain ⟨b, hb⟩ : ∃ b, nickB x = b := ⟨_, rfl⟩
    rw [show dec (NickP (bs x)) = b from hb] at hnk
    have HN := Lib.hid hnk
    have HE := Lib.hid (And.intro hX1 (And.intro hG (And.intro hxl (And.intro hfb (And.intro hrb (And.intro k3b (And.intro o3b (And.intro hzs (And.intro hlV (And.intro hSl (And.intro hl2 hb)))))))))))
    clear hpx k3 o3 hSl hX1 hG hxl hF hlV hl2 f2 kS kB z2 hR2 hRl hS k3b o3b hfb hzb hsb hrb hzs hRb hnk hmem hxs hb
    gi_wp2_with fail
    refine ⟨trivial, (calls_wide (.inr ⟨l, rfl⟩) HN.out).mono ?_⟩
    rintro e W5 ⟨rfl, rfl⟩
    cases b with
    | false =>
      gi_wp2_with fail
      obtain ⟨hX1, hG, hxl, hfb, hrb, k3b, o3b, hzs, hlV, hSl, hl2, hb⟩ := HE.out
      obtain ⟨X2, a1, a2, a3, a4⟩ := boxB_skip (fun k hk => (hG k hk).1) hX1 hfb hrb k3b o3b hSl
      refine ⟨X2, a1, a2, a3, ?_⟩
      dsimp only
      rw [List.filter_append, List.filter_cons_of_neg (by rw [hb]; decide), List.filter_nil, List.append_nil]
      exact a4
    | true =>
      have hor : Vb.ownsRow w2.heap.size 9 1 vb (pre.filter nickB).length ((pre.filter nickB).map encT) := HE.out.2.2.2.2.2.2.1
      have HO := Lib.hid hor
      clear hor
      gi_wp2_with (gi_at_builtin; refine Hid.out ?_)
      refine Lib.hid ?_
      refine wpListIn_one_t rfl _ _ 38 rfl w2.heap.size 9 i0 _ 1 16 Tryz.underlying38 hi hz0 hz1 hz2 rfl (by decide) _ _ _ rfl HO.out #[.string (bs x)] _ rfl rfl rfl (by intro u hu; simp at hu; subst hu; rfl) (by omega) (by decide) hbz ?_
      intro v1 W2 hown1 hfr1 htie
      obtain ⟨A1, c1', rfl⟩ := row_slice hown1
      have hn3 : ∀ k, vb.ownBlock = some k → k ≠ S := fun k hk e => by have := (HO.out.lt k hk).1; have := HE.out.2.2.2.2.2.2.2.2.2.1; omega
      have e1 : W2.heap[S]? = some (.cells #[vb] 38 (0, 0)) := hfr1.blk HE.out.2.2.2.2.2.1 fun e => hn3 _ e rfl
      have g1 := blk_cell e1 0
      have g2 := blk_free e1 0
      clear hn3
      gi_wp2_with fail
      obtain ⟨hX1, hG, hxl, hfb, hrb, k3b, o3b, hzs, hlV, hSl, hl2, hb⟩ := HE.out
      obtain ⟨X2, a1, a2, a3, a4⟩ := boxB_put (fun k hk => (hG k hk).1) hX1 hxl hfb hrb k3b o3b (by omega) hSl hown1 hfr1 htie
      refine ⟨X2, a1, a2, a3, ?_⟩
      dsimp only
      rw [List.filter_append, List.filter_cons_of_pos (by rw [hb]), List.filter_nil]
      exact a4
  case done =>
    rintro D X2 V hD hxD hG hF ⟨u, k3, o3, hSl, hX2⟩ hdef
    obtain ⟨A, cp, rfl⟩ := row_slice o3
    have c3 := blk_cell k3 0
    have hbV : RowKit.Below w.heap.size w V := ((f2.mono (Y := fun k => S ≤ k) fun _ _ e => e.elim).trans3 hF fun k _ e => by omega).below (Nat.le_refl _) fun k hk e => absurd (show S ≤ k from e) (by omega)
    have HE := Lib.hid (And.intro hbV (And.intro hdef (And.intro o3 (And.intro z2 (And.intro hxD hX2)))))
    obtain ⟨n3, hn3⟩ : ∃ n3, (List.filter nickB (splitC 44 s.data.toList)).length = n3 := ⟨_, rfl⟩
    rw [hn3] at c3
    have HN3 := Lib.hid hn3
    clear k3 o3 hF hdef hxD hX2 hSl hG f2 kS kB z2 hR2 hRl hbV hn3
    gi_wp2_with fail
    rw [noGoto_ret']
    obtain ⟨hbV, hdef, o3, z2, hxD, hX2⟩ := HE.out
    refine leaves_one D _ hdef fun w' hf => ⟨_, results_tmp rfl _ _ _, ⟨A, cp, ?_, ?_⟩, hbV.trans (hf.below hbV.size fun k hk e => by omega)⟩
    · unfold nicksV
      rw [HN3.out]
      rfl
    · exact ownT_base (ownT_kept o3 fun g hg => hf.block g (o3.lt g hg).2 fun e => hxD ((hX2 D).2 (.inr (e ▸ hg)))) (by omega)
end Go.Proofs.YtnoeblnljfnecaaGreatDoor
end
