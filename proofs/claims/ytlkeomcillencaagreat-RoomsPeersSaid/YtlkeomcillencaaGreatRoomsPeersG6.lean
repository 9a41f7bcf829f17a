/- Texts of this proof, one behind the other. -/
import Derived.Test.YtlkeomcillencaaGreatRoomsPeersG1
import Derived.Deep.RegionHeld3
import Derived.Test.YtlkeomcillencaaGreatRoomsPeersG5
import Derived.Sort.LoopGhostIn
import Derived.Test.YtlkeomcillencaaGreatRoomsPeersG3
import Derived.Test.YtlkeomcillencaaGreatRoomsPeersG2
import Derived.Test.YtlkeomcillencaaGreatRoomsPeersG4
import Derived.Lib.Hide
import Derived.Test.YtlkeomcillencaaGreatChecked
import Derived.Stop.RegionWithIn
import Derived.LoopIn
import Derived.Deep.LoopGhost
import Derived.Shelf.Spec.SearchS
set_option linter.unusedVariables false
set_option linter.unusedSimpArgs false
section
/- A range over a function that tells a row xs, one by one: the body is told that what comes is the next of the row. Blocks Y: what the function that ranges reads and the body leaves alone; blocks X among them: what it writes between the rounds. -/
namespace Go.Proofs.YtlkeomcillencaaGreat
open Go Go.RowKit

/-- a region that does not panic, where what is owed at a panic hangs on the frame -/
theorem wpIn_noPanic {F : Fence} {n : Nat} {P : Program} {Q : Exit → Act → World → Prop} {a : Act} {w : World} {id : Nat} {ops : Array Oper} {b : Bool} (h : (Code.region id ops b).wpIn F n P (NoPanic Q) a w) : (Code.region id ops b).wpIn F n P Q a w :=
  wpIn_mono h fun e _ _ hq => by
    cases e with
    | panic ch => exact hq.elim
    | _ => exact hq
/-- what a function that ranges is worth, if it tells the row xs -/
def SeqT {α : Type} (F : Fence) (n : Nat) (P : Program) (g : Nat) (lb : Array Value) (encs : α → Array Value) (X Y : Nat → Prop) (xs : List α) (w : World) : Prop :=
  ∀ (l : Nat) (J Jx : List α → World → Prop) (V : World), Below w.heap.size w V → AbX X V.heap.size J → AbX X V.heap.size Jx →
    (∀ pre x r V1, pre ++ x :: r = xs → J pre V1 → YieldAt F (n - 1) P l (encs x) V1 fun e V' => (e = .returned (.bool true) ∧ J (pre ++ [x]) V' ∧ SameX Y V1 V') ∨ (e = .returned (.bool false) ∧ Jx (pre ++ [x]) V')) →
    J [] V → CallsIn F n P g (#[.func (.yield l) #[] #[]] ++ lb) V fun e V' => (∃ v, e = .returned v) ∧ (J xs V' ∨ ∃ pre r, pre ++ r = xs ∧ Jx pre V')
/-- how a round of the body ends -/
def EndT {α : Type} (B : Nat) (Y : Nat → Prop) (I : List α → World → Prop) (Ix : Code → List α → World → Prop) (xs : List α) (V : World) : Exit → Act → World → Prop
  | .normal, _, V' => KeepsFrom B V V' ∧ SameX Y V V' ∧ I xs V'
  | .ret, _, V' => KeepsFrom B V V' ∧ Ix .ret xs V'
  | .exit id, _, V' => KeepsFrom B V V' ∧ Ix (.exit id) xs V'
  | .goto t, _, V' => KeepsFrom B V V' ∧ Ix (.goto t) xs V'
  | .panic _, _, _ => False
  | .outgrown, _, _ => False

theorem wpIn_rangeT {F : Fence} {n : Nat} {P : Program} {w : World} {α : Type} {a : Act} {Q : Exit → Act → World → Prop} {g : Operand} {assign body : Code} {ps : Array Tmp} {gf : Nat} {lb : Array Value}
    {X Y : Nat → Prop} {encs : α → Array Value} {xs : List α} {w0 : World} (I : List α → World → Prop) (Ix : Code → List α → World → Prop)
    (hg : a.eval g = .func (.func gf) #[] lb) (hseq : SeqT F (n - 1) P gf lb encs X Y xs w0) (hb0 : Below w0.heap.size w0 w) (hX : ∀ b, X b → b < w.heap.size) (hY : ∀ b, Y b → b < w.heap.size) (hro : F.round = none) (h1 : 1 ≤ n) (hFg : F.fn gf)
    (eg : ∀ args v, (callFunc gf args).run P v = .ok (.enter gf args) v) (hps : ∀ x, (encs x).size = ps.size)
    (hI : OwnFrom w.heap.size I) (hIX : Lets X I) (hIx : ∀ c, OwnFrom w.heap.size (Ix c)) (hIxX : ∀ c, Lets X (Ix c)) (h0 : I [] w)
    (hround : ∀ l pre x r V0 V (K : Act → World → Prop), w.heap.size ≤ l → (∃ r, V.heap[l]? = some (.loop r)) → pre ++ x :: r = xs → I pre V → (∀ a1, body.wpIn (F.inRound l) (n - 1 - 1) P (EndT w.heap.size Y I Ix (pre ++ [x]) V) a1 V → K a1 V0) →
      assign.wpIn (F.inRound l) (n - 1 - 1) P (Exit.then K fun _ _ _ => False) { tmps := (ps.zip (encs x)).foldl (fun t (p, v) => t.setIfInBounds p v) a.tmps, defers := [] } V0)
    (hdone : ∀ D V, w.heap.size ≤ D → I xs V → V.heap[D]? = some (.deferred (some [])) → Q .normal { a with defers := { target := .collected D, args := #[] } :: a.defers } V)
    (hstop : ∀ D c pre r V, w.heap.size ≤ D → pre ++ r = xs → Ix c pre V → V.heap[D]? = some (.deferred (some [])) → c.wpIn F n P Q { a with defers := { target := .collected D, args := #[] } :: a.defers } V) :
    (Code.rangeFunc g ps assign body).wpIn F n P Q a w := by
  refine wpIn_rangeFunc fun fn hfn => ?_
  rw [hro]
  obtain ⟨R, hR⟩ : ∃ R : LoopState → Option Code → Loop, ∀ st pe, R st pe = { state := st, pending := pe, fn := fn, tmps := a.tmps, params := ps, assign := assign, body := body, defers := w.heap.size } := ⟨_, fun _ _ => rfl⟩
  obtain ⟨V1, hV1⟩ : ∃ V1, (w.alloc (.deferred (some []))).alloc (.loop (R .ready none)) = V1 := ⟨_, rfl⟩
  have hz : V1.heap.size = w.heap.size + 2 := by rw [← hV1]; simp
  have bk : Bk (w.heap.size + 1) w.heap.size (R .ready none) V1 := by
    subst hV1
    refine ⟨?_, (Below.heap_alloc _ _ _ (by simp)).trans (World.alloc_heap_new w _)⟩
    have h := World.alloc_heap_new (w.alloc (.deferred (some []))) (.loop (R .ready none))
    rwa [World.size_alloc] at h
  have i1 : I [] V1 := by subst hV1; exact hI.alloc _ (hI.alloc _ h0)
  have bel : Below w0.heap.size w0 V1 := by subst hV1; exact (hb0.alloc hb0.size _).alloc (by rw [World.size_alloc]; have := hb0.size; omega) _
  have hput : ∀ {s : List α} {V : World} {r : Loop} (r' : Loop), I s V → Bk (w.heap.size + 1) w.heap.size r V → I s (V.putObj (w.heap.size + 1) (.loop r')) := fun r' hi hb => hI.putObj _ hi (by omega) hb.1 rfl
  have hputx : ∀ {c : Code} {s : List α} {V : World} {r : Loop} (r' : Loop), Ix c s V → Bk (w.heap.size + 1) w.heap.size r V → Ix c s (V.putObj (w.heap.size + 1) (.loop r')) := fun {c} _ _ _ r' hi hb => (hIx c).putObj _ hi (by omega) hb.1 rfl
  have sput : ∀ (V : World) (r' : Loop), SameX Y V (V.putObj (w.heap.size + 1) (.loop r')) := fun V r' b hb => World.putObj_heap_other (by have := hY b hb; omega)
  have abook : ∀ {V V' : World} {row : Option Nat} {r : Loop}, Bk (w.heap.size + 1) w.heap.size r V → V.grownBy V' row → (∀ r, row = some r → X r ∨ (V1.heap.size ≤ r ∧ ∃ o : Obj, V.heap[r]? = some o ∧ o.isWalk = true)) → Bk (w.heap.size + 1) w.heap.size r V' := fun hb hgr hrow => by
    refine hb.grown hgr (fun e => ?_) (fun e => ?_)
    · rcases hrow _ e.symm with h | h
      · have := hX _ h; omega
      · omega
    · rcases hrow _ e.symm with h | h
      · have := hX _ h; omega
      · omega
  have own : ∀ {J : List α → World → Prop}, OwnFrom w.heap.size J → Lets X J → ∀ {s : List α} {V V' : World} {row : Option Nat}, J s V → V.grownBy V' row → (∀ r, row = some r → X r ∨ (V1.heap.size ≤ r ∧ ∃ o : Obj, V.heap[r]? = some o ∧ o.isWalk = true)) → J s V' := fun hJ hL s V V' row hj hgr hrow => by
    cases row with
    | none => exact hJ s V V' none hj hgr (fun _ e => by cases e)
    | some r =>
      rcases hrow r rfl with h | ⟨h, o, ho, hw⟩
      · exact hL s V V' r h hj hgr
      · exact hJ s V V' (some r) hj hgr (fun _ e => by cases e; exact ⟨by omega, o, ho, Obj.not_cells_of_walk hw⟩)
  refine ⟨w.heap.size + 1, [{ target := .collected w.heap.size, args := #[] }], V1, { target := .fn (.func gf) lb, args := #[.func (.yield (w.heap.size + 1)) #[] #[]] }, V1, gf, #[.func (.yield (w.heap.size + 1)) #[] #[]] ++ lb, V1, ?_, ?_, ?_, ?_, fun _ => h1, ?_⟩
  · rw [← hV1, hR]; exact run_enterLoop_outer _ _ _ _ _
  · simp only [resolve, hg]; simp [go_sem]
  · intro f' hf'; simp [Target.leads] at hf'; subst hf'; exact hFg
  · simp [invoke, go_sem, eg]
  refine (hseq (w.heap.size + 1) (fun pre V => I pre V ∧ Bk (w.heap.size + 1) w.heap.size (R .ready none) V) (fun pre V => ∃ c, Ix c pre V ∧ Bk (w.heap.size + 1) w.heap.size (R .done (some c)) V) V1 bel
    (fun s V V' row hj hgr hrow => ⟨own hI hIX hj.1 hgr hrow, abook hj.2 hgr hrow⟩)
    (fun s V V' row hj hgr hrow => hj.elim fun c hc => ⟨c, own (hIx c) (hIxX c) hc.1 hgr hrow, abook hc.2 hgr hrow⟩) ?round ⟨i1, bk⟩).mono ?behind
  case behind =>
    rintro e V2 ⟨⟨v, rfl⟩, (⟨hi, hb⟩ | ⟨pre, r, hSp, c, hi, hb⟩)⟩
    · have hend := run_endLoop (P := P) hb.1 (by rw [hR]; simp)
      rw [hR] at hend
      exact ⟨none, _, hend, hdone _ _ (Nat.le_refl _) (hput _ hi hb) (hb.put (by omega) _).2⟩
    · have hend := run_endLoop (P := P) hb.1 (by rw [hR]; simp)
      rw [hR] at hend
      exact ⟨some c, _, hend, hstop _ c pre r _ (Nat.le_refl _) hSp (hputx _ hi hb) (hb.put (by omega) _).2⟩
  case round =>
    rintro pre x r V hpx ⟨hi, hb⟩
    have hy := run_yield (P := P) (args := encs x) hb.1 (by rw [hR]; exact hps x)
    rw [hR] at hy
    have hb2 := hb.put (by omega) { R .ready none with state := .busy }
    refine ⟨fn, _, assign, body, hy, roundIn_of_wpIn hfn (hround (w.heap.size + 1) pre x r V _ _ (by omega) ⟨_, hb2.1⟩ hpx (hput _ hi hb) fun a1 hbody => ⟨_, run_beginRound hb.1 (by rw [hR]), ?_⟩)⟩
    refine wpIn_mono hbody ?_
    -- behind the body: the record is turned, whatever the way
    have turn : ∀ (j : Option Code) {V3 : World}, KeepsFrom w.heap.size (V.putObj (w.heap.size + 1) (.loop { R .ready none with state := .busy })) V3 →
        ∃ st, st = (if j.isNone then LoopState.ready else .done) ∧ (Instr.endRound (w.heap.size + 1) j).run P V3 = .ok (.bool j.isNone) (V3.putObj (w.heap.size + 1) (.loop (R st j))) ∧ Bk (w.heap.size + 1) w.heap.size { R .ready none with state := .busy } V3 ∧
          Bk (w.heap.size + 1) w.heap.size (R st j) (V3.putObj (w.heap.size + 1) (.loop (R st j))) := fun j V3 hk => by
      have hb3 := hb2.keeps hk (by omega) (Nat.le_refl _)
      have hend := run_endRound (P := P) j hb3.1
      refine ⟨_, rfl, ?_, hb3, hb3.put (by omega) _⟩
      rw [hend, hR, hR]
    rintro e a3 V3 hp
    cases e with
    | normal =>
      obtain ⟨hk, hs, hi3⟩ := hp
      obtain ⟨st, rfl, hr, hb3, hb4⟩ := turn none hk
      exact ⟨_, _, hr, .inl ⟨rfl, ⟨hput _ hi3 hb3, hb4⟩, ((sput V _).trans hs).trans (sput V3 _)⟩⟩
    | ret =>
      obtain ⟨st, rfl, hr, hb3, hb4⟩ := turn (some .ret) hp.1
      exact ⟨_, _, hr, .inr ⟨rfl, _, hputx _ hp.2 hb3, hb4⟩⟩
    | exit id =>
      obtain ⟨st, rfl, hr, hb3, hb4⟩ := turn (some (.exit id)) hp.1
      exact ⟨_, _, hr, .inr ⟨rfl, _, hputx _ hp.2 hb3, hb4⟩⟩
    | goto t =>
      obtain ⟨st, rfl, hr, hb3, hb4⟩ := turn (some (.goto t)) hp.1
      exact ⟨_, _, hr, .inr ⟨rfl, _, hputx _ hp.2 hb3, hb4⟩⟩
    | panic ch => exact hp.elim
    | outgrown => exact hp.elim
end Go.Proofs.YtlkeomcillencaaGreat
end
section
/- Layer 10: what tells a row of numbers, as a function that ranges: slices.Values; All. -/
namespace Go.Proofs.YtlkeomcillencaaGreat
open Go Go.RowKit Go.Lib Go.Sort Go.Shelf

def encI (x : Int) : Array Value := #[.int .i64 x]
/-- the blocks of a tale -/
def rowY (B : Nat) (v : Value) : Nat → Prop := fun b => b = B ∨ v.ownBlock = some b
set_option maxRecDepth 100000 in
set_option maxHeartbeats 4000000 in
theorem values_tells (n : Nat) (hn : 2 ≤ n) (base B : Nat) (v : Value) (xs : List Int) (w : World) (hxs : xs.length ≤ 1000000) (hb : w.heap[B]? = some (.cells #[v] 56 (0, 0))) (hr : OwnI base w v xs) :
    SeqT Fence.wide n Tryz.prog 116 #[.pointer (some ⟨B, 0, none⟩)] encI (fun _ => False) (rowY B v) xs w := fun l J Jx V hV hJ hJx hY h0 => by
  have hbV := (hV.block B (blk_lt hb)).trans hb
  have c0 : V.cell? ⟨B, 0, none⟩ = some v := (blk_cell hbV 0).trans rfl
  have hrV : OwnI base V v xs := own_kept hr fun g hg => hV.block g (hr.lt g hg).2
  obtain ⟨A, c, rfl⟩ := row_slice hr
  have HR := Lib.hid hrV
  have HB := Lib.hid hbV
  have HY := Lib.hid hY
  have HJ := Lib.hid hJ
  have HJx := Lib.hid hJx
  clear hb hr hV hrV hbV hY hJ hJx
  refine callsIn_of_wp Tryz.func116 rfl trivial ?_ rfl
  simp only [Tryz.ntmps116, List.size_toArray, List.length_cons, List.length_nil, Nat.reduceAdd, Nat.reduceSub, Array.replicate_succ, Array.replicate_zero, List.push_toArray, List.append_toArray, List.nil_append, List.cons_append]
  gi_wp2
  gi_loopw [7] (fun c1 wr => ∃ k : Nat, c1 = .int .i64 k ∧ k ≤ xs.length ∧ Hid (SameX (rowY B (.slice A xs.length c)) V wr) ∧ Hid (J (xs.take k) wr)) (fun c1 _ => xs.length - (Go.RowKit.intOf c1).toNat)
  case atStart => exact ⟨0, rfl, Nat.zero_le _, fun _ _ => rfl, h0⟩
  case round =>
    obtain ⟨k, rfl, hk, HS, HJk⟩ := hrel
    by_cases hlt : k < xs.length
    · obtain ⟨g, cap, cur, hAs, hg2, ht⟩ : ∃ g cap cur, Value.slice A xs.length c = .slice (some ⟨g, 0, none⟩) xs.length cap ∧ V.heap[g]? = some (.cells cur 3 (0, 0)) ∧ cur.toList.take xs.length = xs.map (Value.int .i64) := by
        rcases HR.out.2 with ⟨h1, h2⟩ | ⟨g, cap, cur, h1, _, h3, _, _, _, h6⟩
        · omega
        · rw [Nat.mul_one] at h6; exact ⟨g, cap, cur, h1, h3, h6⟩
      cases hAs
      obtain ⟨x, hx⟩ : ∃ x, xs[k] = x := ⟨_, rfl⟩
      have e0 : wr.cell? ⟨g, k, none⟩ = some (.int .i64 x) := by
        rw [HS.out.cell (b := g) (o := k) (.inr rfl), blk_cell hg2, own_get (base := 0) (w := V) (cap := 0) hg2 ht k hlt, hx]
      have hsp : xs.take k ++ x :: xs.drop (k + 1) = xs := by rw [← hx, ← List.drop_eq_getElem_cons hlt]; exact List.take_append_drop k xs
      have htk : xs.take (k + 1) = xs.take k ++ [x] := by rw [List.take_succ_eq_append_getElem hlt, hx]
      have HT := Lib.hid htk
      have HSP := Lib.hid hsp
      have hyy := HY.out (xs.take k) x (xs.drop (k + 1)) wr hsp HJk.out
      obtain ⟨fn, tmps, assign, body, hy, hR⟩ := hyy
      dsimp only [encI] at hy
      clear hx htk hsp hg2 ht
      gi_wp2_with fail
      refine ⟨fun _ => by omega, hR.mono ?_⟩
      rintro e W3 (⟨rfl, hJ3, hK3⟩ | ⟨rfl, hJx3⟩)
      · have hS3 : Hid (SameX (rowY B (.slice (some ⟨g, 0, none⟩) xs.length c)) V W3) := HS.out.trans hK3
        rw [← HT.out] at hJ3
        have HJ3 := Lib.hid hJ3
        clear hJ3 hK3 hR hy
        gi_wp2_with fail
        go_roundw
        case rel => exact ⟨k + 1, by go_num, by omega, hS3, HJ3⟩
        case measure => simp [Go.RowKit.intOf]; omega
      · clear hR hy
        gi_wp2_with fail
        refine bodyPost_ret (results_none rfl _ _ _) rfl ?_
        exact ⟨⟨_, rfl⟩, .inr ⟨_, xs.drop (k + 1), by simpa using HSP.out, hJx3⟩⟩
    · obtain rfl : k = xs.length := by omega
      gi_wp2_with fail
      go_end0
      have hj := HJk.out
      rw [List.take_length] at hj
      exact ⟨⟨_, rfl⟩, .inl hj⟩

/-- a tale of numbers, handed back -/
def ValsP (v : Value) (w : World) (e : Ending) (w' : World) : Prop :=
  e = .returned (.func (.func 116) #[] #[.pointer (some ⟨w.heap.size, 0, none⟩)]) ∧ w'.heap[w.heap.size]? = some (.cells #[v] 56 (0, 0)) ∧ Below w.heap.size w w'
theorem values_calls (A : Option Addr) (l c : Nat) (w : World) : Calls Tryz.prog 86 #[.slice A l c] w (ValsP (.slice A l c) w) := by
  go_enter Tryz.func86, Tryz.ntmps86
  go_wp2_with fail
  go_ret
  exact ⟨rfl, heap_alloc_new _ _, (Below.refl _ _).alloc (Nat.le_refl _) _⟩
/-- what tells xs: a tale, its box, the value in it -/
def TaleAt (base : Nat) (w : World) (F : Value) (xs : List Int) : Prop := ∃ B v, base ≤ B ∧ F = .func (.func 116) #[] #[.pointer (some ⟨B, 0, none⟩)] ∧ w.heap[B]? = some (.cells #[v] 56 (0, 0)) ∧ v.ownBlock ≠ some B ∧ OwnI base w v xs
theorem tale_below {base : Nat} {w W : World} {F : Value} {xs : List Int} (h : TaleAt base w F xs) {n : Nat} (hb : Below n w W) (hn : w.heap.size ≤ n) : TaleAt base W F xs := by
  obtain ⟨B, v, h0, h1, h2, h3, h4⟩ := h
  exact ⟨B, v, h0, h1, (hb.block _ (Nat.lt_of_lt_of_le (blk_lt h2) hn)).trans h2, h3, own_kept h4 fun g hg => hb.block g (Nat.lt_of_lt_of_le (h4.lt g hg).2 hn)⟩
def AllP (xs : List Int) (w : World) (e : Ending) (w' : World) : Prop := (∃ F, e = .returned F ∧ TaleAt w.heap.size w' F xs) ∧ Below w.heap.size w w'
theorem all_of {xs : List Int} {w w1 w2 : World} {v : Value} {e : Ending} (h1 : OwnI w.heap.size w1 v xs) (h2 : Below w.heap.size w w1) (h3 : ValsP v w1 e w2) : AllP xs w e w2 := by
  obtain ⟨rfl, a, b⟩ := h3
  refine ⟨⟨_, rfl, _, v, h2.size, rfl, a, fun e => ?_, own_kept h1 fun g hg => b.block g (h1.lt g hg).2⟩, h2.trans (b.mono h2.size)⟩
  have := (h1.lt _ e).2
  omega
theorem own_nil (base : Nat) (w : World) : OwnI base w (.slice none 0 0) [] := World.ownsRow_nil _ _ _ _
theorem set_all_nil (w : World) : Calls Tryz.prog 88 #[.pointer none] w (AllP [] w) := by
  have h1 := set_list_nil w
  have h2 := values_calls none 0 0 w
  go_enter Tryz.func88, Tryz.ntmps88
  go_wp2_with fail
  refine h1.mono ?_
  rintro e w1 ⟨rfl, rfl⟩
  go_wp2_with fail
  refine h2.mono ?_
  intro e w2 h
  have hx := all_of (own_nil _ _) (Below.refl _ _) h
  obtain ⟨⟨F, rfl, h4⟩, h5⟩ := hx
  have H := Lib.hid (And.intro h4 h5)
  clear h h4 h5
  go_wp2_with fail
  go_ret
  exact ⟨⟨_, rfl, H.out.1⟩, H.out.2⟩
theorem set_all {base : Nat} {w : World} {s : Nat} {ob : Option Nat} {xs : List Int} (h : SetAt base w s ob xs) (hl : xs.length ≤ 1000000) :
    Calls Tryz.prog 88 #[.pointer (some ⟨s, 0, none⟩)] w (AllP xs w) := by
  have H := Lib.hid (set_list h hl)
  clear h
  go_enter Tryz.func88, Tryz.ntmps88
  go_wp2_with fail
  refine H.out.mono ?_
  rintro e w1 ⟨⟨v', rfl, h1⟩, h2⟩
  obtain ⟨A', c', rfl⟩ := row_slice h1
  have HV := values_calls A' xs.length c' w1
  have HH := Lib.hid (And.intro h1 h2)
  clear h1 h2
  go_wp2_with fail
  refine HV.mono ?_
  intro e w2 h
  obtain ⟨⟨F, rfl, h4⟩, h5⟩ := all_of HH.out.1 HH.out.2 h
  have H2 := Lib.hid (And.intro h4 h5)
  clear h h4 h5
  go_wp2_with fail
  go_ret
  exact ⟨⟨_, rfl, H2.out.1⟩, H2.out.2⟩
end Go.Proofs.YtlkeomcillencaaGreat
end
section
/- Layer 10: what the law is told: a row of numbers out of any function that tells it. -/
namespace Go.Proofs.YtlkeomcillencaaGreat
open Go Go.RowKit Go.Lib Go.Sort Go.Shelf
attribute [local go_sem] Oper.semAt_some

theorem Tryz.infoI : (Tryz.prog.info? 3).map (fun i => (i.zero, i.size, i.bytes)) = some (some (.int .i64 0), 1, 8) := by kernel_rfl
/-- what tells xs, whatever function it is -/
def Tells (w : World) (F : Value) (xs : List Int) : Prop := ∃ gf lb Y, F = .func (.func gf) #[] lb ∧ (∀ n, 10 ≤ n → SeqT Fence.wide n Tryz.prog gf lb encI (fun _ => False) Y xs w) ∧ (∀ b, Y b → b < w.heap.size) ∧ (∀ args v, (callFunc gf args).run Tryz.prog v = .ok (.enter gf args) v)
theorem tells_below {w W : World} {F : Value} {xs : List Int} (h : Tells w F xs) (hb : Below w.heap.size w W) : Tells W F xs := by
  obtain ⟨gf, lb, Y, h1, h2, h3, h4⟩ := h
  exact ⟨gf, lb, Y, h1, fun n hn l J Jx V hV => h2 n hn l J Jx V (hb.trans (hV.mono hb.size)), fun b hb2 => Nat.lt_of_lt_of_le (h3 b hb2) hb.size, h4⟩
theorem tells_tale {base : Nat} {w : World} {F : Value} {xs : List Int} (h : TaleAt base w F xs) (hl : xs.length ≤ 1000000) : Tells w F xs := by
  obtain ⟨B, v, h0, h1, h2, h3, h4⟩ := h
  refine ⟨_, _, rowY B v, h1, fun n hn => values_tells n (by omega) base B v xs w hl h2 h4, fun b hb => ?_, enters_of Tryz.func116 (by kernel_rfl) rfl⟩
  rcases hb with rfl | hb
  · exact blk_lt h2
  · exact (h4.lt b hb).2

/-- a slice in its box, and its row -/
def BoxI (B : Nat) (base : Nat) (W : World) (l : List Int) : Prop := ∃ v, W.heap[B]? = some (.cells #[v] 56 (0, 0)) ∧ OwnI base W v l
theorem boxI_own (B base : Nat) {β : Type} (f : β → List Int) : Own (fun s W => BoxI B base W (f s)) := fun s X Y row hs hg hrow => by
  obtain ⟨v, h1, h2⟩ := hs
  refine ⟨v, (hg.block B (blk_lt h1) (fun e => ?_)).trans h1, own_kept h2 fun g hg2 => hg.block g (h2.lt g hg2).2 fun e => ?_⟩
  · obtain ⟨o, ho, hc⟩ := hrow B e.symm; rw [h1] at ho; cases ho; cases hc
  · obtain ⟨o, ho, hc⟩ := hrow g e.symm
    obtain ⟨o2, ho2, hc2⟩ := own_cells h2 g hg2
    rw [ho] at ho2; cases ho2; rw [hc] at hc2; cases hc2
theorem results_box2 {P : Program} {fn : Func} {p q : Tmp} {ty ty2 : TypeId} (h : fn.results = #[.cell p ty, .cell q ty2]) (tmps : Array Value) (w : World) (g g2 : Nat) (v u : Value) (d d2 : TypeDesc) (hp : tmps.getD p undef = .pointer (some ⟨g, 0, none⟩)) (hc : w.cell? ⟨g, 0, none⟩ = some v)
    (hp2 : tmps.getD q undef = .pointer (some ⟨g2, 0, none⟩)) (hc2 : w.cell? ⟨g2, 0, none⟩ = some u)
    (hu : P.underlying ty = some d) (hd : (match d with | .struct _ | .array _ _ => true | _ => false) = false) (hu2 : P.underlying ty2 = some d2) (hd2 : (match d2 with | .struct _ | .array _ _ => true | _ => false) = false) : (results fn tmps).run P w = .ok (.tuple #[v, u]) w := by
  have hp' : tmps[p]?.getD undef = .pointer (some ⟨g, 0, none⟩) := by simpa using hp
  have hp2' : tmps[q]?.getD undef = .pointer (some ⟨g2, 0, none⟩) := by simpa using hp2
  have hagg : (isAgg ty).run P w = .ok false w := by
    unfold isAgg
    rw [Sem.run_bind, run_underlying hu w]
    cases d <;> simp_all
  have hagg2 : (isAgg ty2).run P w = .ok false w := by
    unfold isAgg
    rw [Sem.run_bind, run_underlying hu2 w]
    cases d2 <;> simp_all
  simp [results, h, hp', hp2', asAddr, loadVar, Sem.run_bind, hagg, hagg2, go_sem, hc, hc2]

theorem row_base' {W : World} {base base' : Nat} {v : Value} {xs : List Int} (h : OwnI base W v xs) (hb : base' ≤ base) : OwnI base' W v xs := by
  obtain ⟨h1, h2⟩ := h
  refine ⟨h1, ?_⟩
  rcases h2 with h2 | ⟨g, cap, cur, rfl, h3, h4⟩
  · exact .inl h2
  · exact .inr ⟨g, cap, cur, rfl, by omega, h4⟩
def ToldP (xs : List Int) (w : World) (e : Ending) (w' : World) : Prop := (∃ v', e = .returned (.tuple #[v', .bool true]) ∧ OwnI w.heap.size w' v' xs) ∧ Below w.heap.size w w'
end Go.Proofs.YtlkeomcillencaaGreat
end
section
/- Layer 10: gather: what some functions tell, each thing once, rising. -/
namespace Go.Proofs.YtlkeomcillencaaGreat
open Go Go.RowKit Go.Lib Go.Sort Go.Shelf
attribute [local go_sem] Oper.semAt_some

/-- a mark that a range over a function leaves -/
def mark (D : Nat) : Deferred := { target := .collected D, args := #[] }
/-- a function leaves through its marks -/
theorem leaves_marks {F : Fence} {n : Nat} {P : Program} {fn : Func} {tmps : Array Value} {R : Ending → World → Prop} : ∀ (Ds : List Nat) (w : World), Ds.Nodup → (∀ D ∈ Ds, w.heap[D]? = some (.deferred (some []))) →
    (∀ w', Fr (fun k => k ∈ Ds) w w' → ∃ v, (results fn tmps).run P w' = .ok v w' ∧ R (.returned v) w') → LeavesInM F n P fn tmps R (Ds.map mark) .returning w
  | [], w, _, _, h => h w (Fr.refl _ _)
  | D :: Ds, w, hn, hd, h => by
    rw [List.nodup_cons] at hn
    have h0 := hd D (by simp)
    refine ⟨by simp, .inl ⟨_, _, rfl, run_takeDeferred h0, ?_⟩⟩
    refine leaves_marks Ds _ hn.2 (fun D2 h2 => (World.putObj_heap_other fun e => hn.1 (by cases e; exact h2)).trans (hd D2 (by simp [h2]))) fun w' hf => h w' ?_
    have h1 : Fr (fun k => k ∈ D :: Ds) w (w.putObj D (.deferred none)) := ⟨rfl, rfl, rfl, by simp [World.putObj], fun k _ hk => World.putObj_heap_other fun e => hk (by simp [e])⟩
    exact h1.trans2 hf fun k _ hk => by simp [hk]

theorem marks_own {β : Type} (B : Nat) (Ds : List Nat) : OwnFrom B (fun (_ : β) V => ∀ D ∈ Ds, D < B ∧ V.heap[D]? = some (.deferred (some []))) := fun s V V' row h hg hrow D hD => by
  obtain ⟨a, b⟩ := h D hD
  exact ⟨a, (hg.block D (blk_lt b) (fun e => by have := (hrow D e.symm).1; omega)).trans b⟩
def GatG (w : World) (tl : List (List Int)) (Ds : List Nat) (k : Nat) (W : World) : Prop :=
  Ds.Nodup ∧ (∀ D ∈ Ds, w.heap.size < D ∧ W.heap[D]? = some (.deferred (some []))) ∧ BoxI w.heap.size (w.heap.size + 1) W ((tl.take k).flatten) ∧ Below w.heap.size w W
set_option maxRecDepth 100000 in
set_option maxHeartbeats 4000000 in
theorem gather_of {w : World} (A : Option Addr) (tl : List (List Int)) (c : Nat) (hn : tl.length ≤ 1000) (hl : tl.flatten.length ≤ 1000000)
    (hc : 0 < tl.length → ∃ g o, A = some ⟨g, o, none⟩ ∧ g < w.heap.size ∧ ∀ j (h : j < tl.length), ∃ F, w.cell? ⟨g, o + j, none⟩ = some F ∧ Tells w F tl[j]) (ss : List Int) (hss : (tl.flatten.mergeSort fun x y => decide (x ≤ y)) = ss) :
    Calls Tryz.prog 85 #[.slice A tl.length c] w (ListP (compact ss) w) := by
  have hsl : ss.length ≤ 1000000 := by rw [← hss, List.length_mergeSort]; exact hl
  have HSS := Lib.hid hss
  clear hss
  obtain ⟨i0, hi, hz0, hz1, hz2⟩ := info_parts Tryz.infoI
  refine (callsIn_wide (n := 30)).1 ?_
  refine callsIn_of_wp_marks Tryz.func85 rfl trivial ?_ rfl
  simp only [Tryz.ntmps85, List.size_toArray, List.length_cons, List.length_nil, Nat.reduceAdd, Nat.reduceSub, Array.replicate_succ, Array.replicate_zero, List.push_toArray, List.append_toArray, List.nil_append, List.cons_append]
  gi_wp2_with fail
  have hb0 : (w.alloc (Obj.cells #[Value.slice none 0 0] 56)).heap[w.heap.size]? = some (.cells #[.slice none 0 0] 56 (0, 0)) := heap_alloc_new w _
  have G0 : GatG w tl [] 0 (w.alloc (Obj.cells #[Value.slice none 0 0] 56)) := ⟨List.nodup_nil, (fun _ h => by cases h), ⟨_, hb0, own_nil _ _⟩, (Below.refl _ w).alloc (Nat.le_refl _) _⟩
  have HC := Lib.hid hc
  clear hb0 hc
  refine wpIn_loop_ghost_k (fun n a W => ∃ (k : Nat) (Ds : List Nat) (u5 u10 u11 u12 u13 u19 : Value), n = tl.length - k ∧ k ≤ tl.length ∧ a = { tmps := #[Value.slice A tl.length c, undef, Value.slice none 0 0, Value.pointer (some { block := w.heap.size, off := 0 }), undef, u5, undef, Value.slice A tl.length c, Value.int IntKind.i64 tl.length, Value.int IntKind.i64 k, u10, u11, u12, u13, undef, undef, undef, undef, undef, u19, undef, undef, undef, undef], defers := Ds.map mark } ∧ Hid (GatG w tl Ds k W)) tl.length ⟨0, [], _, _, _, _, _, _, rfl, Nat.zero_le _, rfl, G0⟩ ?_
  clear G0
  rintro gk a W ⟨k, Ds, u5, u10, u11, u12, u13, u19, hgk, hk, rfl, HG⟩ J K hJ hK
  by_cases hlt : k < tl.length
  · obtain ⟨g, o, rfl, hg, hcell⟩ := HC.out (by omega)
    obtain ⟨F, hF, hT⟩ := hcell k hlt
    obtain ⟨gf, lb, Y, rfl, hseq, hY, heg⟩ := hT
    obtain ⟨d1, d2, ⟨vb, d3, d4⟩, d5⟩ := HG.out
    have e0 : W.cell? ⟨g, o + k, none⟩ = some (.func (.func gf) #[] lb) := (World.cell?_of_block (w := w) (w' := W) (a := ⟨g, o + k, none⟩) (d5.block g hg)).trans hF
    have HSq := Lib.hid hseq
    have HEg := Lib.hid heg
    have HJ := Lib.hid hJ
    have HK := Lib.hid hK
    have hWz := d5.size
    clear d1 d2 d3 d4 d5 hcell hF hseq heg hJ hK
    gi_wp2_with fail
    obtain ⟨d1, d2, ⟨vb, d3, d4⟩, d5⟩ := HG.out
    have hfl : ((tl.take k).flatten).length + (tl[k]).length ≤ tl.flatten.length := by
      have h1 := congrArg (fun l => (List.flatten l).length) (List.take_append_drop (k + 1) tl)
      simp only [List.flatten_append, List.length_append, List.take_succ_eq_append_getElem hlt, List.flatten_cons, List.flatten_nil, List.append_nil] at h1
      omega
    have htk : (tl.take (k + 1)).flatten = (tl.take k).flatten ++ tl[k] := by rw [List.take_succ_eq_append_getElem hlt, List.flatten_append, List.flatten_cons, List.flatten_nil, List.append_nil]
    obtain ⟨xs, hxs⟩ : ∃ xs, tl[k] = xs := ⟨_, rfl⟩
    obtain ⟨ys, hys⟩ : ∃ ys, (tl.take k).flatten = ys := ⟨_, rfl⟩
    have HSq' := HSq.out
    rw [hxs] at HSq' hfl htk
    rw [hys] at d4 hfl htk
    have hYl : ∀ b, Y b → b < W.heap.size := fun b hb => by have := hY b hb; omega
    refine wpIn_rangeT (X := fun _ => False) (Y := Y) (xs := xs) (encs := encI) (w0 := w) (gf := gf) (lb := lb)
      (fun pre V => (BoxI w.heap.size (w.heap.size + 1) V (ys ++ pre) ∧ (∀ D ∈ Ds, D < W.heap.size ∧ V.heap[D]? = some (.deferred (some [])))) ∧ Below w.heap.size w V) (fun _ _ _ => False)
      rfl (HSq' _ (by omega)) d5 (fun _ h => h.elim) hYl rfl (by omega) trivial HEg.out (fun _ => rfl)
      (OwnFrom.and (OwnFrom.and ((boxI_own _ _ (fun pre => ys ++ pre)).from _) (marks_own _ _)) (ownFrom_below (Nat.le_refl _) d5.size)) (fun _ _ _ _ h => h.elim) (fun _ _ _ _ _ h _ _ => h) (fun _ _ _ _ _ h => h.elim)
      ⟨⟨⟨_, d3, by rw [List.append_nil]; exact d4⟩, fun D hD => ⟨blk_lt (d2 D hD).2, (d2 D hD).2⟩⟩, d5⟩ ?round ?done (fun _ _ _ _ _ _ _ h _ => h.elim)
    case round =>
      rintro l pre x r V0 V K2 hl2 ⟨rl, hrl⟩ hpx ⟨⟨⟨vb, h3, h4⟩, h6⟩, h5⟩ hK
      dsimp only [encI]
      have HK2 := Lib.hid hK
      clear hK
      gi_wp2
      refine HK2.out _ ?_
      clear HK2 K2
      have c3 := blk_cell h3 0
      have f3 := blk_free h3 0
      have hpl : pre.length + 1 ≤ xs.length := by
        have := congrArg List.length hpx
        simp at this; omega
      have hVz := h5.size
      have hVw : W.heap.size ≤ V.heap.size := by have := blk_lt hrl; omega
      have hsz := blk_lt d3
      have hyl : (ys ++ pre).length = ys.length + pre.length := List.length_append
      obtain ⟨zs, hzs⟩ : ∃ zs, ys ++ pre = zs := ⟨_, rfl⟩
      rw [hzs] at h4 hyl
      have hzl : zs.length ≤ 1000000 := by omega
      clear hyl
      have hor : V.ownsRow (w.heap.size + 1) 3 1 vb zs.length (zs.map (Value.int .i64)) := h4
      have HZ := Lib.hid hzs
      clear hzs
      have HO := Lib.hid hor
      have H := Lib.hid (And.intro h3 (And.intro h4 (And.intro h5 (And.intro h6 hrl))))
      clear h3 h4 h5 h6 hrl hor d1 d2 d3 d4 d5 hpx HSq' htk hxs hys
      gi_wp2_with (first | (gi_at_builtin; refine Hid.out ?_))
      refine Lib.hid ?_
      refine wpListIn_app_fr rfl _ _ 56 rfl (w.heap.size + 1) 3 i0 _ 1 8 Tryz.underlying56 hi hz0 hz1 hz2 rfl (by decide) _ _ _ rfl HO.out #[.int .i64 x] _ rfl rfl rfl (by intro u hu; simp at hu; subst hu; rfl) (by omega) (by decide) (by omega) ?_
      intro v1 W2 hown1 hfr1
      obtain ⟨A1, c1', rfl⟩ := row_slice hown1
      have e1 : W2.heap[w.heap.size]? = some (.cells #[vb] 56 (0, 0)) := (fr_own HO.out hfr1 (by omega) (by omega : w.heap.size < V.heap.size)).trans H.out.1
      have g1 := blk_cell e1 0
      have g2 := blk_free e1 0
      gi_wp2_with fail
      obtain ⟨h3, h4, h5, h6, hrl⟩ := H.out
      have hfr : Fr (fun k => vb.ownBlock = some k ∨ k = w.heap.size) V (W2.setCell ⟨w.heap.size, 0, none⟩ (.slice A1 (zs.length + 1) c1')) := (hfr1.mono fun _ _ h => .inl h).setCell _ (.inr rfl) _
      have hno : ∀ c, c < w.heap.size → ¬ (vb.ownBlock = some c ∨ c = w.heap.size) := by
        rintro c hc (e | e)
        · have := (h4.lt _ e).1; omega
        · omega
      refine ⟨hfr.keeps ?_ _, ?_, ⟨⟨.slice A1 (zs.length + 1) c1', ?_, ?_⟩, ?_⟩, h5.trans (hfr.below h5.size ?_)⟩
      · rintro k hk (e | rfl)
        · exact own_cells h4 k e
        · exact ⟨_, h3, rfl⟩
      · intro c hc
        have := hY c hc
        exact hfr.block c (by omega) (hno c (by omega))
      · have := blk_set e1 0 (.slice A1 (zs.length + 1) c1'); exact this
      · have hown2 : OwnI (w.heap.size + 1) W2 (.slice A1 (zs.length + 1) c1') (ys ++ (pre ++ [x])) := by
          rw [← List.append_assoc, HZ.out]; unfold OwnI; rw [List.length_append, List.map_append]; exact hown1
        exact own_kept hown2 fun g hg => heap_setCell_other W2 _ g _ (by have := (hown2.lt g hg).1; simp; omega)
      · intro D hD
        refine ⟨(h6 D hD).1, hfr.blk (h6 D hD).2 ?_⟩
        rintro (e | e)
        · obtain ⟨o2, a1, a2⟩ := own_cells h4 D e
          rw [(h6 D hD).2] at a1; cases a1; cases a2
        · subst e
          have := (h6 _ hD).2
          rw [h3] at this; cases this
      · rintro k hk (e | rfl)
        · have := (h4.lt k e).1; omega
        · omega
    case done =>
      rintro D V hD ⟨⟨⟨vb, h3, h4⟩, h6⟩, h5⟩ hdef
      have hG : GatG w tl (D :: Ds) (k + 1) V := by
        refine ⟨List.nodup_cons.2 ⟨fun e => by have := (h6 D e).1; omega, d1⟩, ?_, ⟨vb, h3, by rw [htk]; exact h4⟩, h5⟩
        intro E hE
        rcases List.mem_cons.1 hE with rfl | hE
        · exact ⟨by have := blk_lt d3; omega, hdef⟩
        · exact ⟨(d2 E hE).1, (h6 E hE).2⟩
      have HG2 := Lib.hid hG
      clear hG h3 h4 h5 h6 hdef d1 d2 d3 d4 d5 HSq' htk hxs hys hYl
      gi_wp2_with fail
      exact HK.out _ _ (Handed.intro (tl.length - (k + 1)) (by omega) (HJ.out _ _ _ ⟨k + 1, D :: Ds, _, _, _, _, _, _, rfl, by omega, rfl, HG2⟩))
  · obtain rfl : k = tl.length := by omega
    have htk : (tl.take tl.length).flatten = tl.flatten := by rw [List.take_length]
    obtain ⟨d1, d2, ⟨vb, d3, d4⟩, d5⟩ := HG.out
    rw [htk] at d4
    have c0 := blk_cell d3 0
    have hso := sort_own d4 (by omega)
    have hbz := blk_lt d3
    have hWz := d5.size
    rw [HSS.out] at hso
    have HS := Lib.hid hso
    have H := Lib.hid (And.intro d1 (And.intro d2 (And.intro d3 (And.intro d4 d5))))
    clear hJ d1 d2 d3 d4 d5 hso htk
    gi_wp2_with fail
    refine ⟨trivial, ((callsIn_wide (n := 29)).2 HS.out).mono ?_⟩
    rintro e W1 ⟨rfl, o1, f1⟩
    have hnv : ¬ vB vb w.heap.size := fun e => by have := (H.out.2.2.2.1.lt _ e).1; omega
    have b1 := f1.blk H.out.2.2.1 hnv
    have c1 := blk_cell b1 0
    have hco := compact_own o1 hsl
    have HO := Lib.hid hco
    have H1 := Lib.hid (And.intro o1 (And.intro f1 b1))
    clear o1 f1 b1 hco hnv
    gi_wp2_with fail
    refine ⟨trivial, ((callsIn_wide (n := 29)).2 HO.out).mono ?_⟩
    rintro e W2 ⟨⟨v', rfl, o2⟩, f2⟩
    have H2 := Lib.hid (And.intro o2 f2)
    clear o2 f2
    gi_wp2_with fail
    obtain ⟨d1, d2, d3, d4, d5⟩ := H.out
    obtain ⟨o1, f1, b1⟩ := H1.out
    obtain ⟨o2, f2⟩ := H2.out
    have m1 : ∀ D ∈ Ds, W1.heap[D]? = some (.deferred (some [])) := fun D hD => f1.blk (d2 D hD).2 fun e => by
      obtain ⟨o, a, b⟩ := own_cells d4 D e
      rw [(d2 D hD).2] at a; cases a; cases b
    have m2 : ∀ D ∈ Ds, W2.heap[D]? = some (.deferred (some [])) := fun D hD => f2.blk (m1 D hD) fun e => by
      obtain ⟨o, a, b⟩ := own_cells o1 D e
      rw [m1 D hD] at a; cases a; cases b
    refine leaves_marks Ds W2 d1 m2 fun w' hf => ⟨_, results_tmp rfl _ _ _, ⟨v', rfl, ?_⟩, ?_⟩
    · refine own_kept (row_base' o2 (by omega)) fun g hg => hf.block g (o2.lt g hg).2 fun e => ?_
      obtain ⟨o, a, b⟩ := own_cells o2 g hg
      rw [m2 g e] at a; cases a; cases b
    · refine d5.trans ((f1.below d5.size fun k _ e => ?_).trans ((f2.below (Nat.le_trans d5.size f1.size) fun k _ e => ?_).trans (hf.below (Nat.le_trans d5.size (Nat.le_trans f1.size f2.size)) fun k _ e => ?_)))
      · have := (d4.lt k e).1; omega
      · have := (o1.lt k e).1; omega
      · have := (d2 k e).1; omega
end Go.Proofs.YtlkeomcillencaaGreat
end
section
/- Layer 10: Of: a set of what a slice holds, whosever it is. -/
namespace Go.Proofs.YtlkeomcillencaaGreat
open Go Go.RowKit Go.Lib Go.Sort Go.Shelf

/-- what a slice reads -/
def ReadsI (w : World) (A : Option Addr) (xs : List Int) : Prop := 0 < xs.length → ∃ g o, A = some ⟨g, o, none⟩ ∧ g < w.heap.size ∧ ∀ j (h : j < xs.length), w.cell? ⟨g, o + j, none⟩ = some (.int .i64 xs[j])
theorem ReadsI.below {w W : World} {A : Option Addr} {xs : List Int} (h : ReadsI w A xs) {n : Nat} (hb : Below n w W) (hn : w.heap.size ≤ n := by exact Nat.le_refl _) : ReadsI W A xs := fun h0 => by
  obtain ⟨g, o, h1, h2, h3⟩ := h h0
  exact ⟨g, o, h1, Nat.lt_of_lt_of_le h2 hb.size, fun j hj => (World.cell?_of_block (w := w) (w' := W) (a := ⟨g, o + j, none⟩) (hb.block g (Nat.lt_of_lt_of_le h2 hn))).trans (h3 j hj)⟩
def anyY (B : Nat) (A : Option Addr) (n : Nat) : Nat → Prop := fun b => b = B ∨ (0 < n ∧ ∃ p, A = some p ∧ p.block = b)
set_option maxRecDepth 100000 in
set_option maxHeartbeats 4000000 in
theorem values_tells_any (n : Nat) (hn : 2 ≤ n) (B : Nat) (A : Option Addr) (c : Nat) (xs : List Int) (w : World) (hxs : xs.length ≤ 1000000) (hb : w.heap[B]? = some (.cells #[.slice A xs.length c] 56 (0, 0))) (hr : ReadsI w A xs) :
    SeqT Fence.wide n Tryz.prog 116 #[.pointer (some ⟨B, 0, none⟩)] encI (fun _ => False) (anyY B A xs.length) xs w := fun l J Jx V hV hJ hJx hY h0 => by
  have hbV := (hV.block B (blk_lt hb)).trans hb
  have c0 : V.cell? ⟨B, 0, none⟩ = some (.slice A xs.length c) := (blk_cell hbV 0).trans rfl
  have hrV : ReadsI V A xs := hr.below hV
  have HR := Lib.hid hrV
  have HB := Lib.hid hbV
  have HY := Lib.hid hY
  have HJ := Lib.hid hJ
  have HJx := Lib.hid hJx
  clear hb hr hV hrV hbV hY hJ hJx
  refine callsIn_of_wp Tryz.func116 rfl trivial ?_ rfl
  simp only [Tryz.ntmps116, List.size_toArray, List.length_cons, List.length_nil, Nat.reduceAdd, Nat.reduceSub, Array.replicate_succ, Array.replicate_zero, List.push_toArray, List.append_toArray, List.nil_append, List.cons_append]
  gi_wp2
  gi_loopw [7] (fun c1 wr => ∃ k : Nat, c1 = .int .i64 k ∧ k ≤ xs.length ∧ Hid (SameX (anyY B A xs.length) V wr) ∧ Hid (J (xs.take k) wr)) (fun c1 _ => xs.length - (Go.RowKit.intOf c1).toNat)
  case atStart => exact ⟨0, rfl, Nat.zero_le _, fun _ _ => rfl, h0⟩
  case round =>
    obtain ⟨k, rfl, hk, HS, HJk⟩ := hrel
    by_cases hlt : k < xs.length
    · obtain ⟨g, o, rfl, hg, hcell⟩ := HR.out (by omega)
      obtain ⟨x, hx⟩ : ∃ x, xs[k] = x := ⟨_, rfl⟩
      have e0 : wr.cell? ⟨g, o + k, none⟩ = some (.int .i64 x) := by
        rw [HS.out.cell (b := g) (o := o + k) (.inr ⟨by omega, _, rfl, rfl⟩), hcell k hlt, hx]
      have hsp : xs.take k ++ x :: xs.drop (k + 1) = xs := by rw [← hx, ← List.drop_eq_getElem_cons hlt]; exact List.take_append_drop k xs
      have htk : xs.take (k + 1) = xs.take k ++ [x] := by rw [List.take_succ_eq_append_getElem hlt, hx]
      have HT := Lib.hid htk
      have HSP := Lib.hid hsp
      have hyy := HY.out (xs.take k) x (xs.drop (k + 1)) wr hsp HJk.out
      obtain ⟨fn, tmps, assign, body, hy, hR⟩ := hyy
      dsimp only [encI] at hy
      clear hx htk hsp hg hcell
      gi_wp2_with fail
      refine ⟨fun _ => by omega, hR.mono ?_⟩
      rintro e W3 (⟨rfl, hJ3, hK3⟩ | ⟨rfl, hJx3⟩)
      · have hS3 : Hid (SameX (anyY B (some ⟨g, o, none⟩) xs.length) V W3) := HS.out.trans hK3
        rw [← HT.out] at hJ3
        have HJ3 := Lib.hid hJ3
        clear hJ3 hK3 hR hy
        gi_wp2_with fail
        go_roundw
        case rel => exact ⟨k + 1, by go_num, by omega, hS3, HJ3⟩
        case measure => simp [Go.RowKit.intOf]; omega
      · clear hR hy
        gi_wp2_with fail
        refine bodyPost_ret (results_none rfl _ _ _) rfl ?_
        exact ⟨⟨_, rfl⟩, .inr ⟨_, xs.drop (k + 1), by simpa using HSP.out, hJx3⟩⟩
    · obtain rfl : k = xs.length := by omega
      gi_wp2_with fail
      go_end0
      have hj := HJk.out
      rw [List.take_length] at hj
      exact ⟨⟨_, rfl⟩, .inl hj⟩


theorem tells_any {w : World} {B : Nat} {A : Option Addr} {xs : List Int} {c : Nat} (hl : xs.length ≤ 1000000) (hb : w.heap[B]? = some (.cells #[.slice A xs.length c] 56 (0, 0))) (hr : ReadsI w A xs) :
    Tells w (.func (.func 116) #[] #[.pointer (some ⟨B, 0, none⟩)]) xs := by
  refine ⟨_, _, anyY B A xs.length, rfl, fun n hn => values_tells_any n (by omega) B A c xs w hl hb hr, fun b hb2 => ?_, enters_of Tryz.func116 (by kernel_rfl) rfl⟩
  rcases hb2 with rfl | ⟨h0, p, h1, rfl⟩
  · exact blk_lt hb
  · obtain ⟨g, o, h2, h3, _⟩ := hr h0
    rw [h2] at h1; cases h1; exact h3
/-- numbers, each once, rising -/
def normI (xs : List Int) : List Int := compact (xs.mergeSort fun x y => decide (x ≤ y))
/-- a new set -/
def OfP (zs : List Int) (w : World) (e : Ending) (w' : World) : Prop := (∃ s ob, e = .returned (.pointer (some ⟨s, 0, none⟩)) ∧ SetAt w.heap.size w' s ob zs ∧ w.heap.size ≤ s) ∧ Below w.heap.size w w'
set_option maxHeartbeats 4000000 in
theorem set_of {w : World} (A : Option Addr) (xs : List Int) (c : Nat) (hl : xs.length ≤ 1000000) (hr : ReadsI w A xs) (hup : (normI xs).Pairwise (· < ·)) :
    Calls Tryz.prog 59 #[.slice A xs.length c] w (OfP (normI xs) w) := by
  have HV := Lib.hid (values_calls A xs.length c w)
  have HR := Lib.hid hr
  have HU := Lib.hid hup
  clear hr hup
  go_enter Tryz.func59, Tryz.ntmps59
  go_wp2_with fail
  refine HV.out.mono ?_
  rintro e w1 ⟨rfl, h1, h2⟩
  obtain ⟨W2, hW2⟩ : ∃ W2, w1.alloc (Obj.cells #[Value.func (.func 116) #[] #[.pointer (some ⟨w.heap.size, 0, none⟩)]] 60) = W2 := ⟨_, rfl⟩
  have hb2 : Below w1.heap.size w1 W2 := by rw [← hW2]; exact (Below.refl _ _).alloc (Nat.le_refl _) _
  have hT : Tells W2 (.func (.func 116) #[] #[.pointer (some ⟨w.heap.size, 0, none⟩)]) xs := tells_below (tells_any hl h1 (HR.out.below h2)) hb2
  have hcc : W2.cell? ⟨w1.heap.size, 0, none⟩ = some (Value.func (.func 116) #[] #[.pointer (some ⟨w.heap.size, 0, none⟩)]) := by rw [← hW2]; exact blk_cell (heap_alloc_new w1 _) 0
  have hz2 : w1.heap.size < W2.heap.size := by rw [← hW2, World.size_alloc]; omega
  have hz1 := h2.size
  have HG := Lib.hid (gather_of (w := W2) (some ⟨w1.heap.size, 0, none⟩) [xs] 1 (by simp) (by simpa using hl) (fun _ => ⟨_, _, rfl, hz2, fun j hj => by
    obtain rfl : j = 0 := by simp at hj; omega
    exact ⟨_, hcc, hT⟩⟩) _ rfl)
  have hB : Below w.heap.size w W2 := h2.trans (hb2.mono hz1)
  have H2 := Lib.hid hB
  have HW := Lib.hid hW2
  clear hb2 hT hcc h1 h2 hB hW2
  go_wp2_with fail
  rw [HW.out]
  refine HG.out.mono ?_
  rintro e w3 ⟨⟨v', rfl, h3⟩, h4⟩
  obtain ⟨A', c', rfl⟩ := row_slice h3
  have H3 := Lib.hid (And.intro h3 h4)
  clear h3 h4
  go_wp2_with fail
  go_ret
  obtain ⟨h3, h4⟩ := H3.out
  have hB := H2.out
  have hz := hB.size
  have hb3 : Below w3.heap.size w3 (w3.alloc (Obj.cells #[Value.slice A' (compact (List.mergeSort [xs].flatten fun x y => decide (x ≤ y))).length c'] 149)) := (Below.refl _ _).alloc (Nat.le_refl _) _
  have e0 : [xs].flatten = xs := by simp
  rw [e0] at h3 hb3
  refine ⟨⟨w3.heap.size, _, rfl, ⟨⟨_, heap_alloc_new w3 _, rfl, row_base' (own_kept h3 fun g hg => hb3.block g (h3.lt g hg).2) hz⟩, fun e => ?_, HU.out⟩, ?_⟩, hB.trans ((h4.mono hz).trans (hb3.mono (Nat.le_trans hz h4.size)))⟩
  · have := (h3.lt _ e).2; omega
  · have := h4.size; omega
end Go.Proofs.YtlkeomcillencaaGreat
end
section
/- Rows of texts of the call's own; slices.Values at texts. -/
namespace Go.Proofs.YtlkeomcillencaaGreat
open Go Go.RowKit Go.Lib
attribute [local go_sem] Oper.semAt_some

/-- a text in a cell, as it is told -/
def encT (x : List UInt8) : Value := .string (bs x)
def encL (x : List UInt8) : Array Value := #[.string (bs x)]
def OwnT (base : Nat) (W : World) (v : Value) (xs : List (List UInt8)) : Prop := W.ownsRow base 9 1 v xs.length (xs.map encT)
theorem Tryz.infoT : (Tryz.prog.info? 9).map (fun i => (i.zero, i.size, i.bytes)) = some (some (.string ByteArray.empty), 1, 16) := by kernel_rfl
theorem ownT_kept {base : Nat} {w W : World} {v : Value} {xs : List (List UInt8)} (h : OwnT base w v xs) (hs : ∀ g, v.ownBlock = some g → W.heap[g]? = w.heap[g]?) : OwnT base W v xs := row_same h hs
theorem ownT_nil (base : Nat) (w : World) : OwnT base w (.slice none 0 0) [] := World.ownsRow_nil _ _ _ _
theorem ownT_base {W : World} {base base' : Nat} {v : Value} {xs : List (List UInt8)} (h : OwnT base W v xs) (hb : base' ≤ base) : OwnT base' W v xs := by
  obtain ⟨h1, h2⟩ := h
  refine ⟨h1, ?_⟩
  rcases h2 with h2 | ⟨g, cap, cur, h3, h4, h5⟩
  · exact .inl h2
  · exact .inr ⟨g, cap, cur, h3, by omega, h5⟩
theorem ownT_snoc {base : Nat} {w : World} {v : Value} {xs : List (List UInt8)} {x : List UInt8} (h : w.ownsRow base 9 1 v (xs.length + 1) (xs.map encT ++ [encT x])) : OwnT base w v (xs ++ [x]) := by
  unfold OwnT; rw [List.length_append, List.map_append]; exact h
/-- texts as they are read -/
def ReadsT (w : World) (A : Option Addr) (xs : List (List UInt8)) : Prop := 0 < xs.length → ∃ g o, A = some ⟨g, o, none⟩ ∧ g < w.heap.size ∧ ∀ j (h : j < xs.length), w.cell? ⟨g, o + j, none⟩ = some (.string (bs xs[j]))
theorem reads_ownT {base : Nat} {w : World} {A : Option Addr} {n c : Nat} {xs : List (List UInt8)} (h : OwnT base w (.slice A n c) xs) : ReadsT w A xs := fun h0 => by
  have h' := h
  rcases h.2 with ⟨h1, h2⟩ | ⟨g, cap, cur, h1, h3, h4, h5, _, h6, h7⟩
  · omega
  · injection h1 with q1 q2 q3
    subst q1
    refine ⟨g, 0, rfl, blk_lt h4, fun j hj => ?_⟩
    have := h'.cells (g := g) rfl j (encT xs[j]) (by simp [hj])
    have hadd : (⟨g, 0, none⟩ : Addr).add j = ⟨g, 0 + j, none⟩ := by
      unfold Addr.add
      split
      · simp_all
      · rfl
    rw [hadd] at this
    exact this
theorem ReadsT.below {w W : World} {A : Option Addr} {xs : List (List UInt8)} (h : ReadsT w A xs) {n : Nat} (hb : Below n w W) (hn : w.heap.size ≤ n := by exact Nat.le_refl _) : ReadsT W A xs := fun h0 => by
  obtain ⟨g, o, rfl, hg, h1⟩ := h h0
  exact ⟨g, o, rfl, Nat.lt_of_lt_of_le hg hb.size, fun j hj => (World.cell?_of_block (w := w) (w' := W) (a := ⟨g, o + j, none⟩) (hb.block g (by omega))).trans (h1 j hj)⟩
/-- the blocks of a tale -/
def rowYT (B : Nat) (v : Value) : Nat → Prop := fun b => b = B ∨ v.ownBlock = some b
set_option maxRecDepth 100000 in
set_option maxHeartbeats 4000000 in
theorem values_seqT (base B : Nat) (v : Value) (xs : List (List UInt8)) (w : World) (hxs : xs.length ≤ 1000000) (hb : w.heap[B]? = some (.cells #[v] 68 (0, 0))) (hr : OwnT base w v xs) :
    SeqF Tryz.prog 121 #[.pointer (some ⟨B, 0, none⟩)] encL (rowYT B v) xs w := fun l J Jx X V hs hYl hX hJ hJx hY h0 => by
  have hbV := (hs B (.inl rfl)).trans hb
  have hrV : OwnT base V v xs := ownT_kept hr fun g hg => hs g (.inr hg)
  obtain ⟨A, c, rfl⟩ := row_slice hr
  have c0 : V.cell? ⟨B, 0, none⟩ = some (.slice A xs.length c) := (blk_cell hbV 0).trans rfl
  have HR := Lib.hid (reads_ownT hrV)
  have HO := Lib.hid hrV
  have HY := Lib.hid hY
  have HX := Lib.hid hX
  have h00 : Hid (∃ X1, GrowX X X1 V V ∧ Fr X V V ∧ J [] X1 V) := ⟨X, GrowX.refl fun k hk => (hX k hk).1, Fr.refl _ _, h0⟩
  clear hb hr hs hrV hbV hY hX h0 hJ hJx hYl
  refine (callsIn_wide (n := 20)).1 ?_
  refine callsIn_of_wp Tryz.func121 rfl trivial ?_ rfl
  simp only [Tryz.ntmps121, List.size_toArray, List.length_cons, List.length_nil, Nat.reduceAdd, Nat.reduceSub, Array.replicate_succ, Array.replicate_zero, List.push_toArray, List.append_toArray, List.nil_append, List.cons_append]
  gi_wp2
  gi_loopw [7] (fun c1 wr => ∃ k : Nat, c1 = .int .i64 k ∧ k ≤ xs.length ∧ Hid (∃ X1, GrowX X X1 V wr ∧ Fr X V wr ∧ J (xs.take k) X1 wr)) (fun c1 _ => xs.length - (Go.RowKit.intOf c1).toNat)
  case atStart => exact ⟨0, rfl, Nat.zero_le _, h00⟩
  case round =>
    obtain ⟨k, rfl, hk, HJ⟩ := hrel
    clear h00
    obtain ⟨X1, hg1, hf1, hj1⟩ := HJ.out
    by_cases hlt : k < xs.length
    · obtain ⟨g, o, rfl, hg, hcell⟩ := HR.out (by omega)
      obtain ⟨x, hx⟩ : ∃ x, xs[k] = x := ⟨_, rfl⟩
      have hgY : rowYT B (.slice (some ⟨g, o, none⟩) xs.length c) g := by
        rcases HO.out.2 with ⟨e, _⟩ | ⟨g2, cap, cur, e, _⟩
        · cases e
        · cases e; exact .inr rfl
      have e0 : wr.cell? ⟨g, o + k, none⟩ = some (.string (bs x)) := by
        rw [hf1.cell (p := ⟨g, o + k, none⟩) hg (fun e => (HX.out g e).2 hgY), hcell k hlt, hx]
      have hsp : xs.take k ++ x :: xs.drop (k + 1) = xs := by rw [← hx, ← List.drop_eq_getElem_cons hlt]; exact List.take_append_drop k xs
      have htk : xs.take (k + 1) = xs.take k ++ [x] := by rw [List.take_succ_eq_append_getElem hlt, hx]
      have hyy := HY.out (xs.take k) x (xs.drop (k + 1)) X1 wr hsp hg1 hj1 hf1
      obtain ⟨fn, tmps, assign, body, hy, hR⟩ := hyy
      dsimp only [encL] at hy
      have HT := Lib.hid (And.intro htk (And.intro hsp (And.intro hg1 hf1)))
      clear hx htk hsp hg hcell hg1 hf1 hj1 hgY
      gi_wp2_with fail
      refine (round_wide (.inl rfl) hR).mono ?_
      rintro e W3 ⟨X2, g2, f2, (⟨rfl, hJ3⟩ | ⟨rfl, hJx3⟩)⟩
      · obtain ⟨htk, hsp, hg1, hf1⟩ := HT.out
        have hN : Hid (∃ X1, GrowX X X1 V W3 ∧ Fr X V W3 ∧ J (xs.take (k + 1)) X1 W3) := ⟨X2, hg1.trans g2 hf1.size, hf1.trans3 f2 fun k hk e => (hg1 k e).2 hk, by rw [htk]; exact hJ3⟩
        clear htk hsp hg1 hf1 g2 f2 hJ3 hR hy
        gi_wp2_with fail
        go_roundw
        case rel => exact ⟨k + 1, by go_num, by omega, hN⟩
        case measure => simp [Go.RowKit.intOf]; omega
      · clear hR hy
        gi_wp2_with fail
        refine bodyPost_ret (results_none rfl _ _ _) rfl ?_
        obtain ⟨htk, hsp, hg1, hf1⟩ := HT.out
        exact ⟨⟨_, rfl⟩, X2, hg1.trans g2 hf1.size, hf1.trans3 f2 fun k hk e => (hg1 k e).2 hk, .inr ⟨_, xs.drop (k + 1), by simpa using hsp, hJx3⟩⟩
    · obtain rfl : k = xs.length := by omega
      rw [List.take_length] at hj1
      have HQ := Lib.hid (And.intro hg1 (And.intro hf1 hj1))
      clear hg1 hf1 hj1
      gi_wp2_with fail
      go_end0
      obtain ⟨hg1, hf1, hj1⟩ := HQ.out
      exact ⟨⟨_, rfl⟩, X1, hg1, hf1, .inl hj1⟩
/-- what tells xs: a tale, its box, the value in it -/
def TaleT (base : Nat) (w : World) (F : Value) (xs : List (List UInt8)) : Prop := ∃ B v, base ≤ B ∧ F = .func (.func 121) #[] #[.pointer (some ⟨B, 0, none⟩)] ∧ w.heap[B]? = some (.cells #[v] 68 (0, 0)) ∧ v.ownBlock ≠ some B ∧ OwnT base w v xs
def ValsT (v : Value) (w : World) (e : Ending) (w' : World) : Prop :=
  e = .returned (.func (.func 121) #[] #[.pointer (some ⟨w.heap.size, 0, none⟩)]) ∧ w'.heap[w.heap.size]? = some (.cells #[v] 68 (0, 0)) ∧ Below w.heap.size w w'
theorem values_callsT (A : Option Addr) (l c : Nat) (w : World) : Calls Tryz.prog 100 #[.slice A l c] w (ValsT (.slice A l c) w) := by
  go_enter Tryz.func100, Tryz.ntmps100
  go_wp2_with fail
  go_ret
  exact ⟨rfl, heap_alloc_new _ _, (Below.refl _ _).alloc (Nat.le_refl _) _⟩
theorem tale_ofT -- of 100
    {base : Nat} {xs : List (List UInt8)} {w w1 : World} {v : Value} {e : Ending} (hb : base ≤ w.heap.size) (h1 : OwnT base w v xs) (h3 : ValsT v w e w1) : ∃ F, e = .returned F ∧ TaleT base w1 F xs ∧ Below w.heap.size w w1 := by
  obtain ⟨rfl, h4, h5⟩ := h3
  refine ⟨_, rfl, ⟨w.heap.size, v, hb, rfl, h4, fun e => ?_, ownT_kept h1 fun g hg => h5.block g (h1.lt g hg).2⟩, h5⟩
  have := (h1.lt _ e).2; omega
theorem tellsT_tale {base : Nat} {w : World} {F : Value} {xs : List (List UInt8)} (h : TaleT base w F xs) (hl : xs.length ≤ 1000000) : ∃ Y, (∀ b, Y b → base ≤ b) ∧ TellsF Tryz.prog encL w F Y xs := by
  obtain ⟨B, v, h1, rfl, h3, h4, h5⟩ := h
  refine ⟨rowYT B v, fun b hb => ?_, _, _, rfl, values_seqT base B v xs w hl h3 h5, fun b hb => ?_, enters_of Tryz.func121 (by kernel_rfl) rfl⟩
  · rcases hb with rfl | hb
    · exact h1
    · exact (h5.lt b hb).1
  · rcases hb with rfl | hb
    · exact blk_lt h3
    · exact (h5.lt b hb).2
end Go.Proofs.YtlkeomcillencaaGreat
end
section
/- Sets of texts: the library's functions at rows of texts of the call's own: BinarySearch, Clone, Delete; Sort and CompactFunc of none. -/
namespace Go.Proofs.YtlkeomcillencaaGreat
open Go Go.RowKit Go.Lib Go.Sort Go.Shelf

theorem tirr (a : List UInt8) : ¬ a < a := List.lt_irrefl a
theorem ttr {a b c : List UInt8} (h : a < b) (k : b < c) : a < c := List.lt_trans h k
theorem ttri (a b : List UInt8) : a < b ∨ a = b ∨ b < a := by
  by_cases h : a < b
  · exact .inl h
  · by_cases h2 : b < a
    · exact .inr (.inr h2)
    · exact .inr (.inl (List.le_antisymm (List.not_lt.1 h2) (List.not_lt.1 h)))
theorem tless (x y : List UInt8) : Op.bytesLess (bs x).toList (bs y).toList = decide (x < y) := by rw [ByteArray.toList_eq, ByteArray.toList_eq]; exact bytesLess_eq x y
/-- below which place the lesser ones stand -/
theorem count_split : ∀ {xs : List (List UInt8)}, xs.Pairwise (· < ·) → ∀ (x : List UInt8) (t : Nat) (h : t < xs.length), xs[t] < x ↔ t < xs.countP (· < x)
  | [], _, _, _, h => by simp at h
  | a :: xs, hp, x, t, h => by
    rw [List.pairwise_cons] at hp
    by_cases c : a < x
    · rw [List.countP_cons_of_pos (by simpa using c)]
      cases t with
      | zero => simp [c]
      | succ t =>
        rw [List.getElem_cons_succ, count_split hp.2 x t (by simpa using h)]
        omega
    · have hz : (a :: xs).countP (· < x) = 0 := by
        rw [List.countP_eq_zero]
        intro y hy
        rcases List.mem_cons.1 hy with rfl | hy
        · simpa using c
        · have := hp.1 y hy
          simp only [decide_eq_true_eq]
          exact fun e => c (ttr this e)
      rw [hz]
      refine ⟨fun e => ?_, fun e => by omega⟩
      exfalso
      cases t with
      | zero => exact c e
      | succ t =>
        rw [List.getElem_cons_succ] at e
        exact c (ttr (hp.1 _ (List.getElem_mem _)) e)
theorem count_mem {xs : List (List UInt8)} (hp : xs.Pairwise (· < ·)) (x : List UInt8) : (∃ h : xs.countP (· < x) < xs.length, xs[xs.countP (· < x)] = x) ↔ x ∈ xs := by
  constructor
  · rintro ⟨h, e⟩; rw [← e]; exact List.getElem_mem h
  · intro hm
    obtain ⟨t, ht, e⟩ := List.getElem_of_mem hm
    have h1 : ¬ t < xs.countP (· < x) := fun c => by
      have := (count_split hp x t ht).2 c
      rw [e] at this; exact tirr _ this
    have h2 : ∀ u (hu : u < xs.length), u < t → u < xs.countP (· < x) := fun u hu hut => (count_split hp x u hu).1 (by
      rw [← e]
      exact List.pairwise_iff_getElem.1 hp u t hu ht hut)
    have h3 : xs.countP (· < x) = t := by
      rcases Nat.lt_or_ge (xs.countP (· < x)) t with c | c
      · have := h2 (xs.countP (· < x)) (by omega) c; omega
      · omega
    rw [h3] at *
    exact ⟨ht, by simpa [h3] using e⟩
theorem ownT_cell {base : Nat} {w : World} {A : Option Addr} {n c : Nat} {xs : List (List UInt8)} (h : OwnT base w (.slice A n c) xs) (hx : 0 < xs.length) : ∃ g cap cur, A = some ⟨g, 0, none⟩ ∧ n = xs.length ∧ c = cap ∧ base ≤ g ∧ w.heap[g]? = some (.cells cur 9 (0, 0)) ∧ xs.length ≤ cap ∧ cap ≤ maxLen ∧ cur.size = cap ∧ cur.toList.take xs.length = xs.map encT ∧ ∀ j (hj : j < xs.length), w.cell? ⟨g, j, none⟩ = some (encT xs[j]) := by
  rcases h.2 with ⟨hv, h0⟩ | ⟨g, cap, cur, hv, hb, hg, hn, hm, hs, ht⟩
  · omega
  · injection hv with q1 q2 q3
    rw [Nat.mul_one] at ht hs
    refine ⟨g, cap, cur, q1, q2, q3, hb, hg, hn, hm, hs, ht, fun j hj => ?_⟩
    have h1 : (cur.toList.take xs.length)[j]? = (xs.map encT)[j]? := by rw [ht]
    rw [List.getElem?_take_of_lt hj, Array.getElem?_toList] at h1
    rw [blk_cell hg j, h1]; simp [hj]
theorem bsearch_ownS {base : Nat} {w : World} {v : Value} {xs : List (List UInt8)} (h : OwnT base w v xs) (hl : xs.length ≤ 1000000) (hs : xs.Pairwise (· < ·)) (x : List UInt8) :
    Calls Tryz.prog 118 #[v, encT x] w fun e w' => e = .returned (.tuple #[.int .i64 (xs.countP (· < x) : Nat), .bool (xs.contains x)]) ∧ ∃ q, w' = w.drewN q := by
  rcases Nat.eq_zero_or_pos xs.length with h0 | h0
  · obtain rfl : xs = [] := List.length_eq_zero_iff.1 h0
    obtain ⟨A, c, rfl⟩ := row_slice h
    refine (Any2.slices_BinarySearch_string_empty Tryz.laysNm226 A c (bs x) w).mono ?_
    rintro e w' ⟨rfl, rfl⟩
    exact ⟨rfl, 0, rfl⟩
  · obtain ⟨A, c, rfl⟩ := row_slice h
    obtain ⟨g, cap, cur, rfl, _, rfl, hb, hg, hn, hm, hcs, ht, hc⟩ := ownT_cell h h0
    have key := Any2.slices_BinarySearch_string Tryz.laysNm226 g 0 xs.length c (fun t => if h : t < xs.length then bs xs[t] else bs x) (bs x) w (by omega) (fun j hj => by
      rw [Nat.zero_add, dif_pos hj]; exact hc j hj)
    have hk : bsGo (fun t => Op.bytesLess ((if h : t < xs.length then bs xs[t] else bs x)).toList (bs x).toList) xs.length 0 xs.length = xs.countP (· < x) := by
      refine bsGo_spec _ _ (fun t ht => ?_) (fun t ht => ?_) _ _ _ (by omega) (Nat.zero_le _) List.countP_le_length
      · have hlt : t < xs.length := Nat.lt_of_lt_of_le ht List.countP_le_length
        show Op.bytesLess ((if h : t < xs.length then bs xs[t] else bs x)).toList (bs x).toList = true
        rw [dif_pos hlt, tless]
        exact decide_eq_true ((count_split hs x t hlt).2 ht)
      · show Op.bytesLess ((if h : t < xs.length then bs xs[t] else bs x)).toList (bs x).toList = false
        by_cases hlt : t < xs.length
        · rw [dif_pos hlt, tless]
          exact decide_eq_false fun e => by have := (count_split hs x t hlt).1 e; omega
        · rw [dif_neg hlt, tless]
          exact decide_eq_false (tirr x)
    rw [hk] at key
    refine key.mono ?_
    rintro e w' ⟨rfl, q, rfl⟩
    refine ⟨congrArg (fun b => Ending.returned (.tuple #[.int .i64 (xs.countP (· < x) : Nat), .bool b])) ?_, q, rfl⟩
    rw [Bool.eq_iff_iff, decide_eq_true_eq, List.contains_iff_mem, ← count_mem hs x]
    constructor
    · rintro ⟨h1, h2⟩
      rw [dif_pos h1] at h2
      exact ⟨h1, by have := congrArg (fun b : ByteArray => b.data.toList) h2; simpa using this⟩
    · rintro ⟨h1, h2⟩
      exact ⟨h1, by rw [dif_pos h1, h2]⟩
theorem clone_ownS {base : Nat} {w : World} {v : Value} {xs : List (List UInt8)} (h : OwnT base w v xs) (hl : xs.length ≤ 1000000) :
    Calls Tryz.prog 122 #[v] w fun e w' => (∃ v', e = .returned v' ∧ OwnT w.heap.size w' v' xs) ∧ Below w.heap.size w w' := by
  rcases h.2 with ⟨rfl, h0⟩ | ⟨g, cap, cur, rfl, hb, hg, hn, hm, hcs, ht⟩
  · obtain rfl : xs = [] := List.length_eq_zero_iff.1 h0
    refine (Tryz.slices_Clone_string_nil 0 0 w).mono ?_
    rintro e w' ⟨rfl, rfl⟩
    exact ⟨⟨_, rfl, ownT_nil _ _⟩, Below.refl _ _⟩
  · rw [Nat.mul_one] at ht
    refine (Tryz.slices_Clone_string g 0 xs.length cap (xs.map bs) w (by simp) (by omega) (fun j hj => by
      have hj2 : j < xs.length := by simpa using hj
      have h1 : (cur.toList.take xs.length)[j]? = (xs.map encT)[j]? := by rw [ht]
      rw [List.getElem?_take_of_lt hj2, Array.getElem?_toList] at h1
      rw [Nat.zero_add, blk_cell hg j, h1]
      simp [List.getD, hj2, encT])).mono ?_
    rintro e w' ⟨v', rfl, hr, _, hbl⟩
    refine ⟨⟨v', rfl, ?_⟩, hbl⟩
    have e1 : ((xs.map bs).take xs.length).map Value.string = xs.map encT := by
      rw [List.take_of_length_le (by simp), List.map_map]; rfl
    rw [e1] at hr
    exact hr
theorem take_of_getS {cur : Array Value} {ys : List (List UInt8)} (hs : ys.length ≤ cur.size) (h : ∀ j (hj : j < ys.length), cur[j]? = some (encT ys[j])) : cur.toList.take ys.length = ys.map encT := by
  apply List.ext_getElem?
  intro j
  by_cases hj : j < ys.length
  · rw [List.getElem?_take_of_lt hj, Array.getElem?_toList, h j hj]; simp [hj]
  · rw [List.getElem?_take_eq_none (by omega), List.getElem?_eq_none (by simp; omega)]
theorem delete_ownS {base : Nat} {w : World} {v : Value} {xs : List (List UInt8)} (h : OwnT base w v xs) (hl : xs.length ≤ 1000000) (i : Nat) (hi : i < xs.length) :
    Calls Tryz.prog 120 #[v, .int .i64 i, .int .i64 (i + 1 : Nat)] w fun e w' => (∃ v', e = .returned v' ∧ OwnT base w' v' (xs.take i ++ xs.drop (i + 1)) ∧ Tie w v v') ∧ Fr (vB v) w w' := by
  obtain ⟨A, c, rfl⟩ := row_slice h
  obtain ⟨g, cap, cur, rfl, _, rfl, hb, hg, hn, hm, hcs, ht, hc⟩ := ownT_cell h (by omega)
  have hq := Tryz.slices_Delete_string_cells g 0 xs.length c i (i + 1) (fun t => bs (xs.getD t [])) w hn (by unfold maxLen at hm; omega) (by omega) (by omega) (fun j hj => by
    rw [Nat.zero_add, hc j hj]; simp [List.getD, hj, encT]) (fun j hj => blk_free hg _)
  refine hq.mono ?_
  rintro e w' ⟨rfl, q, rfl⟩
  have hst : Lib.strsOf (fun t => bs (xs.getD t [])) xs.length = xs := by
    refine List.ext_getElem (by simp [Lib.strsOf]) fun j h1 h2 => ?_
    simp [Lib.strsOf, h2]
  rw [hst]
  have hlen : (xs.take i ++ xs.drop (i + 1)).length = xs.length - 1 := by simp; omega
  obtain ⟨cur', h1, h2, h3⟩ := heap_setCells (b := g) ((xs.take i ++ xs.drop (i + 1) ++ List.replicate (i + 1 - i) []).map encStr) 0 (w.drewN q) cur hg
  refine ⟨⟨_, rfl, ⟨by simp, .inr ⟨g, c, cur', ?_, hb, h1, by omega, hm, by omega, ?_⟩⟩, tie_same rfl⟩, fr_setCells (X := vB (.slice (some ⟨g, 0, none⟩) xs.length c)) (.inl (by rfl)) _ _ _ ((Fr.refl _ w).drewN q)⟩
  · rw [hlen, show xs.length - (i + 1 - i) = xs.length - 1 by omega]
  · rw [Nat.mul_one]
    refine take_of_getS (by omega) fun j hj => ?_
    rw [h3 j, if_pos ⟨by omega, by simp at hj ⊢; omega, by omega⟩, Nat.sub_zero, List.getElem?_map, List.getElem?_append_left hj, List.getElem?_eq_getElem hj]
    rfl
theorem own_getS {base : Nat} {w : World} {g cap : Nat} {xs : List (List UInt8)} {cur : Array Value} {T : TypeId} (hg : w.heap[g]? = some (.cells cur T (0, 0))) (ht : cur.toList.take xs.length = xs.map encT) (j : Nat) (hj : j < xs.length) : cur[j]? = some (encT xs[j]) := by
  have h1 : (cur.toList.take xs.length)[j]? = (xs.map encT)[j]? := by rw [ht]
  rw [List.getElem?_take_of_lt hj, Array.getElem?_toList] at h1
  rw [h1]; simp [hj]
theorem string_cells (xs : List (List UInt8)) : ∀ u ∈ xs.map encT, u.oneCell' = true := by
  intro u hu
  obtain ⟨x, _, rfl⟩ := List.mem_map.1 hu
  rfl
end Go.Proofs.YtlkeomcillencaaGreat
end
