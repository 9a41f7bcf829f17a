/- Texts of this proof, one behind the other. -/
import Derived.Test.YteiiaocohpbanaaGreatPairBothG9
import Derived.Test.YteiiaocohpbanaaGreatChecked
import Derived.Test.YteiiaocohpbanaaGreatPairBothG4
import Derived.RangeFuncKeeps
import Derived.Outline
import Derived.Deep.QuietTactic
import Derived.BigQuiet
import Derived.Laws.StructEq
import Derived.ChangeKeysEq
import Derived.Test.YteiiaocohpbanaaGreatPairBothG3
import Derived.Sort.QuietThIn
import Derived.Sort.QuietTacIn
import Derived.StillTail
import Derived.TacticsIn
import Derived.RangeFuncWrites
import Derived.RangeFuncBox
import Derived.Sort.CutIn
import Derived.Stop.RegionWithIn
section
/- Layer 11: PairPlays: what is given, great; both relations, apart. -/
namespace Go.Proofs.YteiiaocohpbanaaGreat
set_option linter.unusedVariables false
set_option linter.unusedSimpArgs false
open Go Go.RowKit Go.Maps Go.Sort Go.Shelf Go.Lib

/-- the acts, as they lie -/
def ActPR (w : World) (A : Option Addr) (l : List zprT) : Prop := (∀ x ∈ l, zprG x) ∧ (0 < l.length → ∃ g o, A = some ⟨g, o, none⟩ ∧ g < w.heap.size ∧ ∀ i (h : i < l.length) j u, (zprL l[i])[j]? = some u → w.cell? ⟨g, o + i * 3 + j, none⟩ = some u)
theorem actPR_at {w : World} {A : Option Addr} {l : List zprT} (h : ActPR w A l) (h0 : 0 < l.length) : ∃ (g o : Nat), A = some ⟨g, o, none⟩ ∧ ∀ W, RowKit.Below w.heap.size w W → ∀ k (hk : k < l.length), W.cell? ⟨g, o + k * 3, none⟩ = some (.int .i64 l[k].1) ∧ W.cell? ⟨g, o + k * 3 + 1, none⟩ = some (.int .i64 l[k].2.1) ∧ W.cell? ⟨g, o + k * 3 + 2, none⟩ = some (.string l[k].2.2) := by
  obtain ⟨g, o, hA, hg, hc⟩ := h.2 h0
  refine ⟨g, o, hA, fun W hb k hk => ?_⟩
  have hblk : W.heap[g]? = w.heap[g]? := hb.block g hg
  have h1 := hc k hk 0 _ rfl
  have h2 := hc k hk 1 _ rfl
  have h3 := hc k hk 2 _ rfl
  exact ⟨(World.cell?_of_block (w := w) (w' := W) (a := ⟨g, o + k * 3, none⟩) hblk).trans h1, (World.cell?_of_block (w := w) (w' := W) (a := ⟨g, o + k * 3 + 1, none⟩) hblk).trans h2, (World.cell?_of_block (w := w) (w' := W) (a := ⟨g, o + k * 3 + 2, none⟩) hblk).trans h3⟩
/-- more than is looked at -/
def greatPR (l : List zprT) : Bool := decide (40 < l.length) || l.any fun x => decide (20 < x.2.2.size)
set_option maxRecDepth 100000 in
set_option maxHeartbeats 8000000 in
theorem great11 {w : World} {A : Option Addr} {l : List zprT} {c : Nat} (h : ActPR w A l) (W : World) (hW : RowKit.Below w.heap.size w W) :
    Calls Tryz.prog 7 #[.slice A l.length c] W fun e w' => e = .returned (.bool (greatPR l)) ∧ w' = W := by
  by_cases h40 : l.length ≤ 40
  · have e0 : greatPR l = l.any fun x => decide (20 < x.2.2.size) := by unfold greatPR; rw [decide_eq_false (by omega)]; rfl
    have q0 : decide ((40 : Int) < (l.length : Int)) = false := by simp; omega
    have p0 : ¬ ((40 : Int) < (l.length : Int)) := by omega
    have HQ := Lib.hid (And.intro h e0)
    clear h e0
    go_enter Tryz.func7, Tryz.ntmps7
    go_wp2_with fail
    go_loopw [3] (fun i wr => ∃ j : Nat, i = .int .i64 j ∧ j ≤ l.length ∧ wr = W ∧ ∀ q (hq : q < l.length), q < j → l[q].2.2.size ≤ 20) (fun i _ => l.length - (RowKit.intOf i).toNat)
    case atStart => exact ⟨0, rfl, Nat.zero_le _, rfl, fun q _ hq => by omega⟩
    case round =>
      obtain ⟨j, rfl, hj, rfl, hno⟩ := hrel
      by_cases hlt : j < l.length
      · obtain ⟨g, o, rfl, hat⟩ := actPR_at HQ.out.1 (by omega)
        obtain ⟨c1, c2, c3⟩ := hat _ hW j hlt
        obtain ⟨s, hs⟩ : ∃ s, l[j].2.2 = s := ⟨_, rfl⟩
        rw [hs] at c3
        have HS := Lib.hid hs
        have HN := Lib.hid hno
        clear hat c1 c2 hs hno
        by_cases h20 : s.size ≤ 20
        · have q2 : decide ((20 : Int) < (s.size : Int)) = false := by simp; omega
          have p2 : ¬ ((20 : Int) < (s.size : Int)) := by omega
          go_wp2_with fail
          go_roundw
          case rel =>
            refine ⟨j + 1, by go_num, by omega, trivial, fun q hq hq2 => ?_⟩
            by_cases e : q = j
            · subst e; rw [HS.out]; exact h20
            · exact HN.out q hq (by omega)
          case measure => simp [RowKit.intOf]; omega
        · have p2 : (20 : Int) < (s.size : Int) := by omega
          go_wp2_with fail
          go_ret
          refine ⟨?_, rfl⟩
          have e0 : greatPR l = true := HQ.out.2.trans (List.any_eq_true.2 ⟨l[j], List.getElem_mem hlt, by rw [HS.out]; simpa using h20⟩)
          rw [e0]
          rfl
      · obtain rfl : j = l.length := by omega
        have p1 : ¬ ((l.length : Int) < (l.length : Int)) := by omega
        have HN := Lib.hid hno
        clear hno
        go_wp2_with fail
        go_ret
        refine ⟨?_, rfl⟩
        have e0 : greatPR l = false := HQ.out.2.trans (List.any_eq_false.2 fun x hx => by
          obtain ⟨q, hq, rfl⟩ := List.mem_iff_getElem.1 hx
          have := HN.out q hq hq
          simp; omega)
        rw [e0]
        rfl
  · have e0 : greatPR l = true := by unfold greatPR; rw [decide_eq_true (by omega)]; rfl
    have p0 : (40 : Int) < (l.length : Int) := by omega
    rw [e0]
    clear h
    go_enter Tryz.func7, Tryz.ntmps7
    go_wp2_with fail
    go_ret
    exact ⟨rfl, rfl⟩
theorem keep_less (L : List PairT) (a : Int) (b : List UInt8) : keepL L a b false = lessLIS L a b := by
  unfold keepL lessLIS
  refine List.filter_congr fun p _ => ?_
  rw [Bool.eq_iff_iff]
  simp only [Bool.not_false, Bool.true_and, Bool.or_eq_true, decide_eq_true_eq, ne_eq, Prod.ext_iff]
  by_cases h1 : p.1 = a <;> simp [h1]
theorem keep_all (L : List PairT) (a : Int) (b : List UInt8) : keepL L a b true = L.filter fun p => decide (p.1 ≠ a) := by
  unfold keepL
  refine List.filter_congr fun p _ => ?_
  simp
theorem filter_two {α : Type} (p : α → Bool) : ∀ L : List α, L.length = (L.filter p).length + (L.filter fun x => !p x).length
  | [] => rfl
  | x :: r => by
    have := filter_two p r
    by_cases h : p x = true
    · rw [List.filter_cons_of_pos h, List.filter_cons_of_neg (by simp [h])]; simp only [List.length_cons]; omega
    · rw [List.filter_cons_of_neg h, List.filter_cons_of_pos (by simp [h])]; simp only [List.length_cons]; omega
theorem drop_count {L : List PairT} (hn : L.Nodup) {a : Int} {D : List (List UInt8)} (h : OfIs L a D) : L.length = D.length + (L.filter fun p => decide (p.1 ≠ a)).length := by
  rw [filter_two (fun p : PairT => decide (p.1 = a)) L]
  have e1 : (L.filter fun p => !decide (p.1 = a)) = L.filter fun p => decide (p.1 ≠ a) := List.filter_congr fun p _ => by simp
  rw [e1]
  have e2 : (L.filter fun p => decide (p.1 = a)).length = D.length := by
    refine Nat.le_antisymm ?_ ?_
    · have := nodup_len (A := L.filter fun p => decide (p.1 = a)) (B := D.map fun b => (a, b)) (hn.sublist List.filter_sublist) fun p hp => by
        obtain ⟨h1, h2⟩ := List.mem_filter.1 hp
        rw [decide_eq_true_eq] at h2
        exact List.mem_map.2 ⟨p.2, (h.mem _).2 (by rw [← h2]; exact h1), by rw [← h2]⟩
      simpa using this
    · have := nodup_len (A := D.map fun b => (a, b)) (B := L.filter fun p => decide (p.1 = a)) (List.Pairwise.map _ (fun _ _ h e => h (Prod.mk.inj e).2) (up_nodupS h.up)) fun p hp => by
        obtain ⟨b, hb, rfl⟩ := List.mem_map.1 hp
        exact List.mem_filter.2 ⟨(h.mem b).1 hb, by simp⟩
      simpa using this
  omega
/-- the document's relation: its blocks are Z -/
def RefZ (W : World) (x : Nat) (Z : Nat → Prop) (most : Int) (U : List PairT) : Prop := ∃ A c, W.heap[x]? = some (.cells #[.int .i64 most, .slice A U.length c] 32 (0, 0)) ∧ OwnPR 0 W (.slice A U.length c) U ∧ (Value.slice A U.length c).ownBlock ≠ some x ∧ ∀ j, Z j ↔ (j = x ∨ (Value.slice A U.length c).ownBlock = some j)
theorem RefZ.pr {W : World} {x : Nat} {Z : Nat → Prop} {most : Int} {U : List PairT} (h : RefZ W x Z most U) : RefPR 0 W x most U := by
  obtain ⟨A, c, h1, h2, h3, _⟩ := h
  exact ⟨Nat.zero_le _, A, c, h1, h2, h3⟩
theorem RefZ.lt {W : World} {x : Nat} {Z : Nat → Prop} {most : Int} {U : List PairT} (h : RefZ W x Z most U) {j : Nat} (hj : Z j) : j < W.heap.size := by
  obtain ⟨A, c, h1, h2, h3, h4⟩ := h
  rcases (h4 j).1 hj with rfl | e
  · exact blk_lt h1
  · exact (h2.lt j e).2
theorem RefZ.own {W : World} {x : Nat} {Z : Nat → Prop} {most : Int} {U : List PairT} (h : RefZ W x Z most U) : Z x := by
  obtain ⟨A, c, h1, h2, h3, h4⟩ := h
  exact (h4 x).2 (.inl rfl)
theorem RefZ.fr {W W' : World} {x : Nat} {Z X : Nat → Prop} {most : Int} {U : List PairT} (h : RefZ W x Z most U) (hf : Fr X W W') (hx : ∀ j, Z j → ¬ X j) : RefZ W' x Z most U := by
  obtain ⟨A, c, h1, h2, h3, h4⟩ := h
  exact ⟨A, c, hf.blk h1 (hx x ((h4 x).2 (.inl rfl))), ownPR_kept h2 fun g hg => hf.block g (h2.lt g hg).2 (hx g ((h4 g).2 (.inr hg))), h3, h4⟩
theorem readsI_frP {W W' : World} {A : Option Addr} {xs : List Int} (h : ReadsI W A xs) (hf : Fr (fun _ => False) W W') : ReadsI W' A xs := fun h0 => by
  obtain ⟨g, o, e, hg, hc⟩ := h h0
  exact ⟨g, o, e, Nat.lt_of_lt_of_le hg hf.size, fun j hj => (hf.cell (p := ⟨g, o + j, none⟩) hg fun e => e).trans (hc j hj)⟩
/-- the relation t holds L, the document's x holds U -/
structure PlayR (w : World) (t : Nat) (X : Nat → Prop) (most : Int) (L : List PairT) (x : Nat) (Z : Nat → Prop) (U : List PairT) (W : World) : Prop where
  below : RowKit.Below w.heap.size w W
  rel : RelAtIS w.heap.size W t X most L
  ref : RefZ W x Z most U
  ap : ∀ j, X j → ¬ Z j
  xw : w.heap.size ≤ x
  ok : ∀ p ∈ L, OkKSI p.2
section
variable {w W W1 : World} {t x : Nat} {X X' Z : Nat → Prop} {most : Int} {L L' U : List PairT}
theorem PlayR.rest (h : PlayR w t X most L x Z U W) (hf : Fr (fun _ => False) W W1) : PlayR w t X most L x Z U W1 where
  below := h.below.trans (hf.below h.below.size fun _ _ e => e.elim)
  rel := h.rel.fr hf fun _ _ e => e
  ref := h.ref.fr hf fun _ _ e => e
  ap := h.ap
  xw := h.xw
  ok := h.ok
theorem PlayR.relStep (h : PlayR w t X most L x Z U W) (hr : RelAtIS w.heap.size W1 t X' most L') (hx : ∀ j, X' j → X j ∨ W.heap.size ≤ j) (hf : Fr X W W1) (hok : ∀ p ∈ L', OkKSI p.2) : PlayR w t X' most L' x Z U W1 where
  below := h.below.trans (hf.below h.below.size fun j _ e => (h.rel.lt e).1)
  rel := hr
  ref := h.ref.fr hf fun j hj e => h.ap j e hj
  ap := fun j hj hz => by
    rcases hx j hj with e | e
    · exact h.ap j e hz
    · have := h.ref.lt hz; omega
  xw := h.xw
  ok := hok
theorem PlayR.refStep {U' : List PairT} (h : PlayR w t X most L x Z U W) (hn : RefN W.heap.size W1 x most U') (hf : Fr (fun j => j = x) W W1) : ∃ Z', PlayR w t X most L x Z' U' W1 := by
  obtain ⟨A, c, h1, h2, h3⟩ := hn
  refine ⟨fun j => j = x ∨ (Value.slice A U'.length c).ownBlock = some j, ⟨h.below.trans (hf.below h.below.size fun j _ e => by rw [e]; exact h.xw), h.rel.fr hf fun j hj e => h.ap j hj (e ▸ h.ref.own), ⟨A, c, h1, row_baseP h2 (Nat.zero_le _), h3, fun j => Iff.rfl⟩, fun j hj hz => ?_, h.xw, h.ok⟩⟩
  rcases hz with rfl | e
  · exact h.ap _ hj h.ref.own
  · have := (h2.lt j e).1
    have := (h.rel.lt hj).2
    omega
end
/-- behind the program's Add: the document's Add does the same -/
theorem add_sync {w W : World} {t x : Nat} {X' Z : Nat → Prop} {most : Int} {L L' : List PairT} {a : Int} {b : List UInt8} {c : Int} {D : List (List UInt8)} (h : PlayR w t X' most L' x Z L W) (hl : L.length ≤ 900000) (hD : OfIs L a D) (hDl : D.length ≤ 1000000)
    (hq : L' = L ∧ (c = 6 ∧ (a, b) ∈ L ∨ c = 7 ∧ (a, b) ∉ L ∧ (∀ xs : List (List UInt8), xs.Pairwise (· < ·) → (∀ x, x ∈ xs ↔ (a, x) ∈ L) → most ≤ xs.length)) ∨
      L' = L ++ [(a, b)] ∧ c = 0 ∧ (a, b) ∉ L ∧ (∀ xs : List (List UInt8), xs.Pairwise (· < ·) → (∀ x, x ∈ xs ↔ (a, x) ∈ L) → (xs.length : Int) < most)) :
    Calls Tryz.prog 13 #[.pointer (some ⟨x, 0, none⟩), .int .i64 a, .string (bs b)] W fun e W' => e = .returned (.int .i64 c) ∧ (∃ Z', PlayR w t X' most L' x Z' L' W') ∧ Fr (fun j => j = x) W W' :=
  (ref_addP h.ref.pr (Nat.zero_le _) hl hD hDl).mono fun e W' hA => by
    rcases hA with ⟨h1, rfl, h2⟩ | ⟨h1, h2, rfl, h3⟩ | ⟨h1, h2, rfl, h3, h4⟩
    · rcases hq with ⟨rfl, ⟨rfl, _⟩ | ⟨_, h4, _⟩⟩ | ⟨_, _, h4, _⟩
      · exact ⟨rfl, ⟨Z, h.rest h2⟩, h2.mono fun _ _ e => e.elim⟩
      · exact absurd h1 h4
      · exact absurd h1 h4
    · rcases hq with ⟨rfl, ⟨_, h4⟩ | ⟨rfl, h4, _⟩⟩ | ⟨_, _, h4, h5⟩
      · exact absurd h4 h1
      · exact ⟨rfl, ⟨Z, h.rest h3⟩, h3.mono fun _ _ e => e.elim⟩
      · have := h5 D hD.up hD.mem; omega
    · rcases hq with ⟨rfl, ⟨_, h5⟩ | ⟨_, _, h5⟩⟩ | ⟨rfl, rfl, _, _⟩
      · exact absurd h5 h1
      · have := h5 D hD.up hD.mem; omega
      · exact ⟨rfl, h.refStep h3 h4, h4⟩
/-- the document's Keep takes them away too -/
theorem keep_sync {w W : World} {t x : Nat} {X' Z : Nat → Prop} {most : Int} {L L' : List PairT} {a : Int} {b : List UInt8} (all : Bool) (h : PlayR w t X' most L' x Z L W) (hl : L.length ≤ 900000) (hk : keepL L a b all = L') :
    Calls Tryz.prog 10 #[.pointer (some ⟨x, 0, none⟩), .int .i64 a, .string (bs b), .bool all] W fun e W' => e = .returned (.int .i64 ((L.length : Int) - L'.length)) ∧ (∃ Z', PlayR w t X' most L' x Z' L' W') ∧ Fr (fun j => j = x) W W' :=
  (ref_keep h.ref.pr (Nat.zero_le _) hl a b all).mono fun e W' ⟨h1, h2, h3⟩ => by
    rw [hk] at h1 h2
    exact ⟨h1, h.refStep h2 h3, h3⟩
end Go.Proofs.YteiiaocohpbanaaGreat
end
section
/- Layer 18: modes.Seq, the letters of a row, as a function that ranges; Takes on both sides. -/
namespace Go.Proofs.YteiiaocohpbanaaGreat
set_option linter.unusedVariables false
set_option linter.unusedSimpArgs false
open Go.RowKit Go.Shelf
attribute [local go_sem] Oper.semAt_some

/-- a letter, and whether it is on -/
abbrev Letter := UInt8 × Bool
abbrev encLet (x : Letter) : Array Value := #[.int .u8 x.1.toNat, .bool x.2]
/-- the letters of a row, from a sign on -/
def seqL (on : Bool) : List UInt8 → List Letter
  | [] => []
  | c :: r => if c = 43 then seqL true r else if c = 45 then seqL false r else (c, on) :: seqL on r
theorem seqL_len (on : Bool) (l : List UInt8) : (seqL on l).length ≤ l.length := by
  induction l generalizing on with
  | nil => simp [seqL]
  | cons c r ih =>
    unfold seqL
    split
    · have := ih true; simp; omega
    · split
      · have := ih false; simp; omega
      · have := ih on; simp; omega
theorem seqL_at (on : Bool) (s : ByteArray) (k : Nat) (h : k < s.size) : seqL on (s.data.toList.drop k) = if s[k] = 43 then seqL true (s.data.toList.drop (k + 1)) else if s[k] = 45 then seqL false (s.data.toList.drop (k + 1)) else (s[k], on) :: seqL on (s.data.toList.drop (k + 1)) := by
  rw [List.drop_eq_getElem_cons (by simpa using h)]
  rfl





/-- block B lies as it lay -/
def KeptAt (B : Nat) (W1 W' : World) : Prop := W'.heap[B]? = W1.heap[B]?
theorem KeptAt.cell {B : Nat} {W1 W' : World} (h : KeptAt B W1 W') : W'.cell? ⟨B, 0, none⟩ = W1.cell? ⟨B, 0, none⟩ := World.cell?_of_block (w := W1) h

end Go.Proofs.YteiiaocohpbanaaGreat
end
section
/- Layer 18: changes as data; Lists, the answers' Takes and Same. -/
namespace Go.Proofs.YteiiaocohpbanaaGreat
set_option linter.unusedVariables false
set_option linter.unusedSimpArgs false
open Go.RowKit

/-- does a letter take an argument? -/
def takesB (c : UInt8) (on : Bool) : Bool := c == 111 || c == 118 || c == 98 || c == 107 || (c == 108 && on)



/-- a change: on, its letter, its argument -/
abbrev Chg := Bool × UInt8 × ByteArray
def chV (x : Chg) : Value := .agg #[.bool x.1, .int .u8 x.2.1.toNat, .string x.2.2]
def listsB (x : Chg) : Bool := x.2.1 == 98 && x.2.2.toList.isEmpty





def eqB (x y : Chg) : Bool := x.1 == y.1 && (x.2.1 == y.2.1 && x.2.2.toList == y.2.2.toList)
theorem eqB_iff {x y : Chg} : eqB x y = true ↔ x = y := by
  obtain ⟨a, b, c⟩ := x
  obtain ⟨a', b', c'⟩ := y
  unfold eqB
  simp only [Bool.and_eq_true, beq_iff_eq, Prod.mk.injEq]
  rw [ByteArray.toList_eq, ByteArray.toList_eq]
  constructor
  · rintro ⟨h1, h2, h3⟩; exact ⟨h1, h2, ba_ext h3⟩
  · rintro ⟨h1, h2, h3⟩; exact ⟨h1, h2, by rw [h3]⟩

def ReadsC (W : World) (v : Value) (l : List Chg) : Prop :=
  (v = .slice none 0 0 ∧ l = []) ∨ ∃ g off cap, v = .slice (some ⟨g, off, none⟩) l.length cap ∧ ∀ i (h : i < l.length), W.cell? ⟨g, off + i * 3, none⟩ = some (.bool l[i].1) ∧ W.cell? ⟨g, off + i * 3 + 1, none⟩ = some (.int .u8 l[i].2.1.toNat) ∧ W.cell? ⟨g, off + i * 3 + 2, none⟩ = some (.string l[i].2.2)

end Go.Proofs.YteiiaocohpbanaaGreat
end
section
/- Layer 18: the answers' Parse. -/
namespace Go.Proofs.YteiiaocohpbanaaGreat
set_option linter.unusedVariables false
set_option linter.unusedSimpArgs false
open Go.RowKit

/-- one letter more: the changes, the next argument, how many took one -/
abbrev PSt := List Chg × Nat × Nat
def noArg : ByteArray := ⟨#[]⟩
def stepP (ps : List ByteArray) (st : PSt) (x : Letter) : PSt :=
  if takesB x.1 x.2 = true then
    if st.2.2 = 4 then st
    else if h : st.2.1 < ps.length then (st.1 ++ [(x.2, x.1, ps[st.2.1])], st.2.1 + 1, st.2.2 + 1)
    else if x.1 = 98 then (st.1 ++ [(x.2, x.1, noArg)], st.2.1, st.2.2 + 1)
    else st
  else (st.1 ++ [(x.2, x.1, noArg)], st.2.1, st.2.2)
theorem stepP_no {ps : List ByteArray} {out : List Chg} {a n : Nat} {c : UInt8} {o : Bool} (h : takesB c o = false) : stepP ps (out, a, n) (c, o) = (out ++ [(o, c, noArg)], a, n) := by simp [stepP, h]
theorem stepP_full {ps : List ByteArray} {out : List Chg} {a : Nat} {c : UInt8} {o : Bool} (h : takesB c o = true) : stepP ps (out, a, 4) (c, o) = (out, a, 4) := by simp [stepP, h]
theorem stepP_arg {ps : List ByteArray} {out : List Chg} {a n : Nat} {c : UInt8} {o : Bool} (h : takesB c o = true) (hn : n ≠ 4) (ha : a < ps.length) : stepP ps (out, a, n) (c, o) = (out ++ [(o, c, ps[a])], a + 1, n + 1) := by simp [stepP, h, hn, ha]
theorem stepP_list {ps : List ByteArray} {out : List Chg} {a n : Nat} {o : Bool} (h : takesB 98 o = true) (hn : n ≠ 4) (ha : ¬ a < ps.length) : stepP ps (out, a, n) (98, o) = (out ++ [(o, 98, noArg)], a, n + 1) := by simp [stepP, h, hn, ha]
theorem stepP_drop {ps : List ByteArray} {out : List Chg} {a n : Nat} {c : UInt8} {o : Bool} (h : takesB c o = true) (hn : n ≠ 4) (ha : ¬ a < ps.length) (hc : c ≠ 98) : stepP ps (out, a, n) (c, o) = (out, a, n) := by simp [stepP, h, hn, ha, hc]
def parseM (ps : List ByteArray) : List Chg := if h : 0 < ps.length then ((seqL true ps[0].data.toList).foldl (stepP ps) ([], 1, 0)).1 else []
/-- changes as cells -/
def chL (l : List Chg) : List Value := l.flatMap fun x => [.bool x.1, .int .u8 x.2.1.toNat, .string x.2.2]
theorem chL_snoc (l : List Chg) (x : Chg) : chL (l ++ [x]) = chL l ++ [.bool x.1, .int .u8 x.2.1.toNat, .string x.2.2] := by simp [chL]



end Go.Proofs.YteiiaocohpbanaaGreat
end
section
/- A region that draws its order, anywhere, a loop's round over a function too: what only reads, in whatever order; then what must come last, in its order. -/
namespace Go.Proofs.YteiiaocohpbanaaGreat
open Go

section
variable {F : Fence} {n : Nat} {P : Program} {ops : Array Oper} {md : Region.Mode} {C : World → Prop}

/-- no operation puts a call off -/
def noDefer (ops : Array Oper) : Bool := ops.all fun o => match o.op with | .defer _ => false | _ => true
theorem noDefer_spec (h : noDefer ops = true) {i : Nat} {o : Oper} (ho : ops[i]? = some o) : ∀ c, o.op ≠ .defer c := by
  intro c hc
  have := Array.all_eq_true.1 h i (Array.getElem?_eq_some_iff.1 ho).1
  rw [(Array.getElem?_eq_some_iff.1 ho).2, hc] at this
  cases this

theorem quiet_wpIn {o : Oper} {a : Act} {K : Act → Prop} {K' : Act → World → Prop} {Q' : Exit → Act → World → Prop} {w : World} (hd : ∀ c, o.op ≠ .defer c) (hw : C w) (h : ∀ a w', C w' → K a → K' a w')
    (ha : o.askedIn F P a C) (hh : o.quietIn F n P a C K) : o.wpIn F n P a w K' Q' := by
  obtain ⟨v, h1, h2⟩ := hh
  have h3 := h1 w hw
  unfold Oper.quietAtIn at h3
  refine ⟨ha w hw, ?_⟩
  rw [Oper.semAt_eq _ _ _ hd]
  generalize (execOp a.eval o).run P w = r at h3 ⊢
  match r, h3 with
  | .ok (.value u) w', h3 =>
    obtain ⟨rfl, rfl⟩ := h3
    exact h _ _ hw h2
  | .ok .skip w', h3 =>
    obtain ⟨rfl, rfl⟩ := h3
    exact h _ _ hw h2
  | .ok (.enter f args) w', h3 =>
    obtain ⟨rfl, hdep, hc⟩ := h3
    exact ⟨hdep, hc.mono fun e w'' hx => by obtain ⟨rfl, hw''⟩ := hx; exact h _ _ hw'' h2⟩

theorem quiet_wpOpIn {i : Nat} {a : Act} {K : Act → Prop} {K' : Act → World → Prop} {Q' : Exit → Act → World → Prop} {w : World} (hnd : noDefer ops = true) (hC : C w) (h : ∀ a w', C w' → K a → K' a w')
    (hh : qOpIn F n P ops C i K a) : wpOpIn F n P ops Q' i K' a w := by
  unfold qOpIn at hh
  unfold wpOpIn
  cases ho : ops[i]? with
  | none => simp only [ho] at hh ⊢; exact h _ _ hC hh
  | some o =>
    simp only [ho] at hh ⊢
    obtain ⟨ha, hh⟩ := hh
    by_cases hw : Region.wanted o (yielded ops a.tmps) = true
    · simp only [hw, if_true] at hh ⊢
      exact quiet_wpIn (noDefer_spec hnd ho) hC h ha hh
    · simp only [hw] at hh ⊢
      exact ⟨ha w hC, h _ _ hC hh⟩

/-- the head of a region: so many operations, whatever comes up, each below m -/
def headQ (F : Fence) (n : Nat) (P : Program) (md : Region.Mode) (ops : Array Oper) (C : World → Prop) (m : Nat) (L : Array Bool → Act → Prop) : Nat → Array Bool → Act → Prop
  | 0, listed, a => L listed a
  | f + 1, listed, a =>
    Region.ready md ops listed ≠ [] ∧ ∀ i ∈ Region.ready md ops listed, i < m ∧ qOpIn F n P ops C i (headQ F n P md ops C m L f (listed.setIfInBounds i true)) a

theorem wpAnyIn_of_headQ {m g : Nat} {L : Array Bool → Act → Prop} {Q' : Exit → Act → World → Prop} (hnd : noDefer ops = true) (hL : ∀ listed a w, C w → L listed a → wpAnyIn F n P md ops Q' g listed a w) :
    ∀ (f : Nat) (listed : Array Bool) (a : Act) (w : World), C w → headQ F n P md ops C m L f listed a → wpAnyIn F n P md ops Q' (f + g) listed a w
  | 0, listed, a, w, hw, h => by rw [Nat.zero_add]; exact hL _ _ _ hw h
  | f + 1, listed, a, w, hw, h => by
    rw [show f + 1 + g = (f + g) + 1 by omega]
    exact ⟨fun h0 => absurd h0 h.1, fun i hi => quiet_wpOpIn hnd hw (fun a' w' hw' h' => wpAnyIn_of_headQ hnd hL f _ a' w' hw' h') (h.2 i hi).2⟩

theorem headQ_first {m i : Nat} {oi : Oper} {v : Value} {L : Array Bool → Act → Prop} (hi : ops[i]? = some oi) (hsel : ∀ (j : Nat) (o : Oper) cs b, ops[j]? = some o → o.op ≠ .select cs b)
    (hs : Region.sinkB md ops m = true) (hc : Region.chainB md ops m = true) (hn : m < ops.size) (hin : i < m)
    (hdone : ∀ listed a, L listed a → ∀ j ∈ Region.ready md ops listed, m ≤ j) :
    ∀ (f : Nat) (listed : Array Bool) (a : Act), HeadInv md ops m listed →
      (∀ j oj, ops[j]? = some oj → j ≠ i → listed.getD j true = false → (∀ e ∈ oj.after, Region.binds md e = true → e.on ≠ i) → oi.apart ops oj = true) →
      i ∈ Region.ready md ops listed → YieldsQuiet F n P ops C oi v a →
      headQ F n P md ops C m L f (listed.setIfInBounds i true) (a.put oi.dst v) → headQ F n P md ops C m L (f + 1) listed a := by
  intro f
  induction f with
  | zero =>
    intro listed a inv _ hr hy H
    have hun := (mem_ready.1 hr).1
    refine ⟨fun h => (by rw [h] at hr; cases hr), fun j hj => ?_⟩
    have hjn : j < m := Nat.lt_of_not_le fun h => tail_waits hs hc hn inv _ i rfl hin hun j h hj
    refine ⟨hjn, ?_⟩
    by_cases hji : j = i
    · subst hji; exact hy.qOpIn hi H
    · exact absurd (hdone _ _ H j (ready_mono hj hji)) (by omega)
  | succ f ih =>
    intro listed a inv hfree hr hy H
    have hun := (mem_ready.1 hr).1
    refine ⟨fun h => (by rw [h] at hr; cases hr), fun j hj => ?_⟩
    have hjn : j < m := Nat.lt_of_not_le fun h => tail_waits hs hc hn inv _ i rfl hin hun j h hj
    refine ⟨hjn, ?_⟩
    by_cases hji : j = i
    · subst hji; exact hy.qOpIn hi H
    · have h1 := (H.2 j (ready_mono hj hji)).2
      obtain ⟨hjun, oj, hoj, hall⟩ := mem_ready.1 hj
      have hnot : ∀ e ∈ oj.after, Region.binds md e = true → e.on ≠ i := fun e he hb heq => by
        have h1 := hall e he hb
        rw [heq, getD_both hun] at h1
        cases h1
      have h2 := qOpIn_put hoj (hfree j oj hoj hji hjun hnot) (fun cs b => hsel i oi cs b hi) (fun cs b => hsel j oj cs b hoj) hy h1
      have hfree' : ∀ k ok, ops[k]? = some ok → k ≠ i → (listed.setIfInBounds j true).getD k true = false →
          (∀ e ∈ ok.after, Region.binds md e = true → e.on ≠ i) → oi.apart ops ok = true := fun k ok hk hki hun hno => by
        refine hfree k ok hk hki ?_ hno
        by_cases hjk : j = k
        · subst hjk; exact hjun
        · rw [getD_set_ne true hjk] at hun; exact hun
      refine qOpIn_mono (fun a' h3 => ih (listed.setIfInBounds j true) a' (inv.set hj hjn) hfree' (ready_mono hr (Ne.symm hji)) h3.1 ?_) h2
      rw [Array.setIfInBounds_comm _ _ hji]
      exact h3.2

theorem wpAnyIn_of_seq {Q' : Exit → Act → World → Prop} : ∀ (l : List Oper) (k : Nat) (listed : Array Bool) (a : Act) (w : World), (∀ j, l[j]? = ops[k + j]?) →
    Region.seqB md ops l.length k listed = true → wpListIn F n P ops Q' l a w → wpAnyIn F n P md ops Q' l.length listed a w
  | [], _, _, _, _, _, hB, h => ⟨by simpa [Region.seqB] using hB, h⟩
  | o :: l, k, listed, a, w, hl, hB, h => by
    have h0 : ops[k]? = some o := by simpa using (hl 0).symm
    simp only [List.length_cons, Region.seqB, Bool.and_eq_true, decide_eq_true_eq] at hB
    refine ⟨fun h1 => (by rw [hB.1] at h1; cases h1), fun i hi => ?_⟩
    rw [hB.1] at hi
    have hik : i = k := by simpa using hi
    subst hik
    have hw : wpOpIn F n P ops Q' i (wpListIn F n P ops Q' l) a w := by unfold wpOpIn; simp only [h0]; exact h
    exact wpOpIn_mono (fun a' w' h' => wpAnyIn_of_seq l (i + 1) _ a' w' (fun j => by have := hl (j + 1); simpa [Nat.add_assoc, Nat.add_comm 1 j] using this) hB.2 h') hw

theorem headQ_lex {m g : Nat} {Lq : Act → Prop} (hsel : Region.noSelect ops = true) (hs : Region.sinkB md ops m = true) (hc : Region.chainB md ops m = true) (hn : m < ops.size) :
    ∀ (l : List Oper) (k : Nat) (listed : Array Bool) (a : Act), (∀ j, j < l.length → l[j]? = ops[k + j]?) → k + l.length = m → HeadInv md ops m listed →
    Region.lexHead md ops g l.length k listed = true → wpQuietIn F n P ops C Lq l a →
    headQ F n P md ops C m (fun listed' a' => Region.seqB md ops g m listed' = true ∧ Lq a') l.length listed a
  | [], k, listed, a, _, hk, _, hB, h => by
    have : k = m := by simpa using hk
    subst this
    exact ⟨by simpa [Region.lexHead] using hB, h⟩
  | o :: l, k, listed, a, hl, hk, inv, hB, h => by
    have h0 : ops[k]? = some o := by simpa using (hl 0 (by simp)).symm
    simp only [List.length_cons, Region.lexHead, Bool.and_eq_true] at hB
    obtain ⟨⟨hr, hf⟩, hB'⟩ := hB
    have hkn : k < m := by simp only [List.length_cons] at hk; omega
    have hr' : k ∈ Region.ready md ops listed := by simpa using hr
    have hst : qOpIn F n P ops C k (wpQuietIn F n P ops C Lq l) a := by unfold qOpIn; simp only [h0]; exact h
    obtain ⟨v, hy, hK⟩ := yieldsQuiet_of_qOpIn h0 hst
    exact headQ_first h0 (Region.noSelect_spec hsel) hs hc hn hkn (fun listed' a' hL => seqB_ready hL.1) l.length listed a inv (Region.free_spec h0 hf) hr' hy
      (headQ_lex hsel hs hc hn l (k + 1) _ _ (fun j hj => by have := hl (j + 1) (by simp; omega); simpa [Nat.add_assoc, Nat.add_comm 1 j] using this) (by simp only [List.length_cons] at hk; omega) (inv.set hr' hkn) hB' hK)

/-- what only reads ahead, in whatever order; what must come last behind it, in its order -/
theorem wpIn_quiet_tail {id : Nat} {Q : Exit → Act → World → Prop} {a : Act} {w : World} {l : List Oper} (m : Nat) (hm : P.follows .mixedOrders = true) (hnd : noDefer l.toArray = true) (hB : Region.lexTailB .any l.toArray m = true)
    (h : wpQuietIn F n P l.toArray (fun w' => ∃ k, w' = w.drewN k) (fun a' => ∀ w', (∃ k, w' = w.drewN k) → wpListIn F n P l.toArray Q (l.drop m) a' w') (l.take m) a) : (Code.region id l.toArray true).wpIn F n P Q a w := by
  simp only [Region.lexTailB, Bool.and_eq_true, decide_eq_true_eq] at hB
  obtain ⟨⟨⟨⟨hsel, hn⟩, hs⟩, hc⟩, hlex⟩ := hB
  have hn' : m < l.length := by simpa using hn
  have htl : (l.take m).length = m := by simp; omega
  have hdl : (l.drop m).length = l.toArray.size - m := by simp
  have inv0 : HeadInv .any l.toArray m (Array.replicate l.toArray.size false) :=
    ⟨by simp, fun j oj _ hl => (by rw [getD_replicate_false] at hl; cases hl), fun t _ ht => getD_in (by simpa using ht) (getD_replicate_false _ _)⟩
  have H := headQ_lex (F := F) (n := n) (P := P) (md := .any) (g := l.toArray.size - m) hsel hs hc hn (l.take m) 0 _ a (fun j hj => by
    have hj' : j < m := by rw [htl] at hj; exact hj
    simp [hj']) (by simpa using htl) inv0 (by rw [htl]; exact hlex) h
  refine wpIn_region_any hm ?_
  have := wpAnyIn_of_headQ (Q' := Q) (g := l.toArray.size - m) hnd (fun listed a' w' hw' hL => by
    have := wpAnyIn_of_seq (F := F) (n := n) (P := P) (md := .any) (Q' := Q) (l.drop m) m listed a' w' (fun j => by simp [List.getElem?_drop]) (by rw [hdl]; exact hL.1) (hL.2 w' hw')
    rwa [hdl] at this) _ _ _ _ ⟨1, rfl⟩ H
  rw [htl, show m + (l.toArray.size - m) = l.toArray.size by omega] at this
  exact this

theorem wpAnyIn_of_allQ {Q : Act → Prop} {Q' : Exit → Act → World → Prop} (hnd : noDefer ops = true) (hQ : ∀ a w, C w → Q a → Q' .normal a w) : ∀ (fuel : Nat) (listed : Array Bool) (a : Act) (w : World), C w →
    wpAnyQIn F n P md ops C Q fuel listed a → wpAnyIn F n P md ops Q' fuel listed a w
  | 0, _, _, _, hw, h => ⟨h.1, hQ _ _ hw h.2⟩
  | fuel + 1, _, _, _, hw, h => ⟨fun h0 => hQ _ _ hw (h.1 h0), fun i hi => quiet_wpOpIn hnd hw (fun a' w' hw' => wpAnyIn_of_allQ hnd hQ fuel _ a' w' hw') (h.2 i hi)⟩

/-- all of it only reads -/
theorem wpIn_quiet_all {id : Nat} {Q : Exit → Act → World → Prop} {a : Act} {w : World} {l : List Oper} (hm : P.follows .mixedOrders = true) (hnd : noDefer l.toArray = true) (hB : Region.lexB .any l.toArray = true)
    (h : wpQuietIn F n P l.toArray (fun w' => ∃ k, w' = w.drewN k) (fun a' => ∀ w', (∃ k, w' = w.drewN k) → Q .normal a' w') l a) : (Code.region id l.toArray true).wpIn F n P Q a w := by
  simp only [Region.lexB, Bool.and_eq_true] at hB
  refine wpIn_region_any hm (wpAnyIn_of_allQ (Q := fun a' => ∀ w', (∃ k, w' = w.drewN k) → Q .normal a' w') hnd (fun _ w' hw' h => h w' hw') _ _ _ _ ⟨1, rfl⟩ ?_)
  have := wpAnyQIn_lex (F := F) (n := n) (P := P) (C := fun w' => ∃ k, w' = w.drewN k) (md := .any) hB.1 l.toArray.toList 0 (Array.replicate l.toArray.size false) a (by simp) (by simpa using hB.2) (by simpa using h)
  simpa using this

/-- one operation of the walk, where the fence lets every function by -/
theorem quiet_step_w (hF : ∀ f, F.fn f) {Q : Act → Prop} {a : Act} {o : Oper} {rest : List Oper}
    (h : ∀ K : Act → Prop, (∀ a, wpQuietIn F n P ops C Q rest a → K a) → if Region.wanted o (yielded ops a.tmps) then o.quietIn F n P a C K else K (a.put o.dst undef)) : wpQuietIn F n P ops C Q (o :: rest) a :=
  wpQuietIn_step (fun _ _ f _ => hF f) h
end
end Go.Proofs.YteiiaocohpbanaaGreat
end
section
/- Layer 18: modes.Parse. -/
namespace Go.Proofs.YteiiaocohpbanaaGreat
set_option linter.unusedVariables false
set_option linter.unusedSimpArgs false
open Go.RowKit Go.Shelf
attribute [local go_sem] Oper.semAt_some

/-- what is left of the arguments -/
def ArgsAt (pg po : Nat) (ps : List ByteArray) (a : Nat) (v : Value) : Prop :=
  ∃ g o c, v = .slice (some ⟨g, o, none⟩) (ps.length - a) c ∧ ps.length - a ≤ c ∧ (a < ps.length → g = pg ∧ o = po + a)

/-- where the letters have led -/
def stP (ps : List ByteArray) (pre : List Letter) : PSt := pre.foldl (stepP ps) ([], 1, 0)
theorem stP_snoc (ps : List ByteArray) (pre : List Letter) (x : Letter) : stP ps (pre ++ [x]) = stepP ps (stP ps pre) x := by simp [stP]
theorem stP_bounds (ps : List ByteArray) (h : 0 < ps.length) (pre : List Letter) : (stP ps pre).1.length ≤ pre.length ∧ 1 ≤ (stP ps pre).2.1 ∧ (stP ps pre).2.1 ≤ ps.length ∧ (stP ps pre).2.2 ≤ pre.length := by
  have key : ∀ (l : List Letter) (s : PSt) (k : Nat), (s.1.length ≤ k ∧ 1 ≤ s.2.1 ∧ s.2.1 ≤ ps.length ∧ s.2.2 ≤ k) → ((l.foldl (stepP ps) s).1.length ≤ k + l.length ∧ 1 ≤ (l.foldl (stepP ps) s).2.1 ∧ (l.foldl (stepP ps) s).2.1 ≤ ps.length ∧ (l.foldl (stepP ps) s).2.2 ≤ k + l.length) := by
    intro l
    induction l with
    | nil => intro s k hs; simpa using hs
    | cons x r ih =>
      intro s k hs
      have h2 := ih (stepP ps s x) (k + 1) (by
        obtain ⟨h1, h2, h3, h4⟩ := hs
        unfold stepP
        split
        · split
          · exact ⟨by omega, h2, h3, by omega⟩
          · split
            · refine ⟨by simp; omega, by simp, by simp; omega, by simp; omega⟩
            · split
              · exact ⟨by simp; omega, h2, h3, by simp; omega⟩
              · exact ⟨by omega, h2, h3, by omega⟩
        · exact ⟨by simp; omega, h2, h3, by simp; omega⟩)
      simp only [List.foldl_cons, List.length_cons]
      have e : k + 1 + r.length = k + (r.length + 1) := by omega
      rw [e] at h2
      exact h2
  have := key pre ([], 1, 0) 0 (by simp; omega)
  simpa [stP] using this
theorem holds_own {β : Type} (B : Nat) (t : TypeId) (G : β → Value → Prop) : Own (fun s W => ∃ v, Boxed W B t v ∧ G s v) := fun s X Y row ⟨v, hs, hg⟩ hgr hrow =>
  ⟨v, hs.kept hgr (fun e' => by obtain ⟨o, ho, hc⟩ := hrow B e'.symm; rw [show X.heap[B]? = _ from hs] at ho; cases ho; cases hc), hg⟩

theorem grownBy_setAt (W : World) (b o : Nat) (v : Value) : W.grownBy (W.setCell ⟨b, o, none⟩ v) (some b) :=
  ⟨rfl, rfl, rfl, (KeepsWalks.setCell W _ v).size, fun k _ hk => Below.heap_setCell _ _ _ k (fun e => hk (by rw [e]))⟩
theorem boxed_otherAt {W : World} {B B' : Nat} {t : TypeId} {v : Value} (h : Boxed W B t v) (hne : B ≠ B') (o : Nat) (u : Value) : Boxed (W.setCell ⟨B', o, none⟩ u) B t v :=
  h.kept (grownBy_setAt W B' o u) (fun e => hne (by simpa using e))

theorem below_dn' {B : Nat} {a w : World} (h : Below B a w) (n : Nat) : Below B a (w.drewN n) := ⟨h.os, h.tape, h.output, h.size, h.block⟩
theorem keeps_dn' (W : World) (n : Nat) : KeepsOthers W (W.drewN n) := ⟨Nat.le_refl _, fun _ _ h _ => h⟩

theorem slice_from (g o n c : Nat) (h : 1 ≤ n) (hc : n ≤ c) : ∃ g1 o1, (∀ W, (Instr.slice 40 (.slice (some ⟨g, o, none⟩) n c) (some (.int .i64 1)) none none).run Tryz.prog W = .ok (.slice (some ⟨g1, o1, none⟩) (n - 1) (c - 1)) W) ∧ (1 < n → g1 = g ∧ o1 = o + 1) := by
  have hu : Tryz.prog.underlying 40 = some (.slice (Tryz.prog.elem 40)) := by kernel_rfl
  have hz : (Tryz.prog.info? (Tryz.prog.elem 40)).map (·.size) = some 1 := by kernel_rfl
  cases hie : Tryz.prog.info? (Tryz.prog.elem 40) with
  | none => rw [hie] at hz; cases hz
  | some ie =>
    rw [hie] at hz
    simp only [Option.map_some, Option.some.injEq] at hz
    by_cases h1 : c = 1
    · subst h1
      refine ⟨g, o, fun W => ?_, fun h2 => by omega⟩
      rw [run_slice_l W 40 _ _ _ hu _ _ (by omega) (by omega)]
      simp [sliced, sizeOf, hie, hz, go_sem]
    · refine ⟨g, o + 1, fun W => ?_, fun h2 => ⟨rfl, rfl⟩⟩
      rw [run_slice_l W 40 _ _ _ hu _ _ (by omega) (by omega)]
      have h3 : ¬ (c - 1 = 0) := by omega
      simp [sliced, sizeOf, hie, hz, go_sem, h1, Addr.add, show Tryz.t9.size = 1 from rfl]

end Go.Proofs.YteiiaocohpbanaaGreat
end
section
/- Layer 18: what is written, as data; what is read is good; what is good comes back. -/
namespace Go.Proofs.YteiiaocohpbanaaGreat
set_option linter.unusedVariables false
set_option linter.unusedSimpArgs false
open Go.RowKit

/-- what is written: the row, the arguments, the sign that stands last -/
abbrev TSt := List UInt8 × List ByteArray × Option Bool
def sgn (on : Bool) : UInt8 := if on then 43 else 45
def stepT (st : TSt) (x : Chg) : TSt :=
  (st.1 ++ (if st.2.2 = some x.1 then [] else [sgn x.1]) ++ [x.2.1], if takesB x.2.1 x.1 = true then st.2.1 ++ [x.2.2] else st.2.1, some x.1)
def textS (l : List Chg) : TSt := l.foldl stepT ([], [], none)
def textM (l : List Chg) : List ByteArray := if l = [] then [] else bs (textS l).1 :: (textS l).2.1
theorem textS_take (l : List Chg) (k : Nat) (h : k < l.length) : textS (l.take (k + 1)) = stepT (textS (l.take k)) l[k] := by
  unfold textS
  rw [List.take_succ_eq_append_getElem h, List.foldl_append]
  rfl
theorem textS_last (l : List Chg) (k : Nat) (h : k < l.length) : (textS (l.take (k + 1))).2.2 = some l[k].1 := by
  rw [textS_take l k h]; rfl

def rowR (p : Option Bool) : List Chg → List UInt8
  | [] => []
  | x :: r => (if p = some x.1 then [] else [sgn x.1]) ++ x.2.1 :: rowR (some x.1) r
def tk (x : Chg) : Bool := takesB x.2.1 x.1
def argsR (l : List Chg) : List ByteArray := (l.filter tk).map (·.2.2)
def manyT (l : List Chg) : Nat := (l.filter tk).length
theorem fold_text : ∀ (l : List Chg) (r : List UInt8) (a : List ByteArray) (p : Option Bool), (l.foldl stepT (r, a, p)).1 = r ++ rowR p l ∧ (l.foldl stepT (r, a, p)).2.1 = a ++ argsR l
  | [], r, a, p => by simp [rowR, argsR]
  | x :: l, r, a, p => by
    have h := fold_text l (stepT (r, a, p) x).1 (stepT (r, a, p) x).2.1 (some x.1)
    have e : (x :: l).foldl stepT (r, a, p) = l.foldl stepT ((stepT (r, a, p) x).1, (stepT (r, a, p) x).2.1, some x.1) := rfl
    rw [e, h.1, h.2]
    refine ⟨by simp [stepT, rowR], ?_⟩
    cases ht : tk x with
    | true =>
      have ht' : takesB x.2.1 x.1 = true := ht
      simp [stepT, argsR, List.filter_cons, ht, ht']
    | false =>
      have ht' : takesB x.2.1 x.1 = false := ht
      simp [stepT, argsR, List.filter_cons, ht, ht']
theorem textS_row (l : List Chg) : (textS l).1 = rowR none l := by unfold textS; simpa using (fold_text l [] [] none).1
theorem textS_args (l : List Chg) : (textS l).2.1 = argsR l := by unfold textS; simpa using (fold_text l [] [] none).2
theorem rowR_len : ∀ (l : List Chg) (p : Option Bool), (rowR p l).length ≤ 2 * l.length
  | [], p => by simp [rowR]
  | x :: r, p => by
    have := rowR_len r (some x.1)
    unfold rowR
    split <;> simp <;> omega
theorem argsR_len (l : List Chg) : (argsR l).length = manyT l := by simp [argsR, manyT]
theorem manyT_le (l : List Chg) : manyT l ≤ l.length := List.length_filter_le _ _
theorem textS_len (l : List Chg) : (textS l).1.length ≤ 2 * l.length ∧ (textS l).2.1.length ≤ l.length := by
  rw [textS_row, textS_args, argsR_len]
  exact ⟨rowR_len l none, manyT_le l⟩

/-! what is read is good -/
def goodC (x : Chg) : Prop := x.2.1 ≠ 43 ∧ x.2.1 ≠ 45 ∧ (tk x = false → x.2.2 = noArg)
theorem seqL_mem : ∀ (l : List UInt8) (on : Bool) (x : Letter), x ∈ seqL on l → x.1 ≠ 43 ∧ x.1 ≠ 45
  | [], on, x, h => by simp [seqL] at h
  | c :: r, on, x, h => by
    unfold seqL at h
    split at h
    · exact seqL_mem r _ x h
    · split at h
      · exact seqL_mem r _ x h
      · rcases List.mem_cons.1 h with rfl | h
        · exact ⟨‹_›, ‹_›⟩
        · exact seqL_mem r _ x h
theorem manyT_snoc (l : List Chg) (x : Chg) : manyT (l ++ [x]) = manyT l + if tk x = true then 1 else 0 := by
  unfold manyT
  rw [List.filter_append, List.length_append]
  cases h : tk x <;> simp [List.filter_cons, h]
def okP (st : PSt) : Prop := (∀ x ∈ st.1, goodC x) ∧ manyT st.1 = st.2.2 ∧ st.2.2 ≤ 4
theorem okP_step (ps : List ByteArray) (st : PSt) (x : Letter) (h1 : x.1 ≠ 43) (h2 : x.1 ≠ 45) (h : okP st) : okP (stepP ps st x) := by
  obtain ⟨out, a, n⟩ := st
  obtain ⟨c, on⟩ := x
  obtain ⟨hg, hm, hn⟩ := h
  simp only at hg hm hn h1 h2
  have snoc : ∀ y : Chg, goodC y → ∀ z ∈ out ++ [y], goodC z := fun y hy z hz => by
    rcases List.mem_append.1 hz with hz | hz
    · exact hg z hz
    · rw [List.mem_singleton.1 hz]; exact hy
  cases ht : takesB c on with
  | false =>
    rw [stepP_no ht]
    have hk : ∀ b, tk (on, c, b) = false := fun b => ht
    exact ⟨snoc _ ⟨h1, h2, fun _ => rfl⟩, by show manyT (out ++ [_]) = n; rw [manyT_snoc, hk]; simpa using hm, hn⟩
  | true =>
    have hk : ∀ b, tk (on, c, b) = true := fun b => ht
    have good : ∀ b, goodC (on, c, b) := fun b => ⟨h1, h2, fun h => by rw [hk] at h; cases h⟩
    have many : ∀ b, manyT (out ++ [(on, c, b)]) = n + 1 := fun b => by rw [manyT_snoc, hk, hm]; rfl
    by_cases h4 : n = 4
    · subst h4; rw [stepP_full ht]; exact ⟨hg, hm, hn⟩
    · by_cases ha : a < ps.length
      · rw [stepP_arg ht h4 ha]; exact ⟨snoc _ (good _), many _, by show n + 1 ≤ 4; omega⟩
      · by_cases hc : c = 98
        · subst hc; rw [stepP_list ht h4 ha]; exact ⟨snoc _ (good _), many _, by show n + 1 ≤ 4; omega⟩
        · rw [stepP_drop ht h4 ha hc]; exact ⟨hg, hm, hn⟩
theorem okP_fold (ps : List ByteArray) : ∀ (l : List Letter) (st : PSt), (∀ x ∈ l, x.1 ≠ 43 ∧ x.1 ≠ 45) → okP st → okP (l.foldl (stepP ps) st)
  | [], st, _, h => h
  | x :: l, st, hl, h => okP_fold ps l _ (fun y hy => hl y (List.mem_cons_of_mem _ hy)) (okP_step ps st x (hl x List.mem_cons_self).1 (hl x List.mem_cons_self).2 h)
theorem parse_good (ps : List ByteArray) : (∀ x ∈ parseM ps, goodC x) ∧ manyT (parseM ps) ≤ 4 := by
  unfold parseM
  split
  · have h := okP_fold ps _ ([], 1, 0) (seqL_mem ps[0].data.toList true) ⟨by simp, rfl, by decide⟩
    exact ⟨h.1, by rw [h.2.1]; exact h.2.2⟩
  · exact ⟨by simp, by decide⟩

/-! what is good comes back -/
theorem seqL_row : ∀ (l : List Chg) (p : Option Bool) (on : Bool), (p = none ∨ p = some on) → (∀ x ∈ l, goodC x) → seqL on (rowR p l) = l.map fun x => (x.2.1, x.1)
  | [], p, on, _, _ => by simp [rowR, seqL]
  | x :: r, p, on, hp, hg => by
    have hx := hg x List.mem_cons_self
    have ih := fun o => seqL_row r (some x.1) o
    have rest := ih x.1 (.inr rfl) fun y hy => hg y (List.mem_cons_of_mem _ hy)
    unfold rowR
    by_cases h : p = some x.1
    · rw [if_pos h]
      have ho : on = x.1 := by
        rcases hp with hp | hp
        · rw [hp] at h; cases h
        · rw [hp] at h; injection h
      subst ho
      show seqL x.1 (x.2.1 :: rowR (some x.1) r) = _
      unfold seqL
      rw [if_neg hx.1, if_neg hx.2.1, rest]
      rfl
    · rw [if_neg h]
      have hs : seqL on (sgn x.1 :: x.2.1 :: rowR (some x.1) r) = seqL x.1 (x.2.1 :: rowR (some x.1) r) := by
        obtain ⟨o, c, b⟩ := x
        cases o
        · rfl
        · rfl
      show seqL on (sgn x.1 :: x.2.1 :: rowR (some x.1) r) = _
      rw [hs]
      show seqL x.1 (x.2.1 :: rowR (some x.1) r) = _
      conv => lhs; unfold seqL
      rw [if_neg hx.1, if_neg hx.2.1, rest]
      rfl
theorem manyT_app (a b : List Chg) : manyT (a ++ b) = manyT a + manyT b := by simp [manyT]
theorem back_fold (row : ByteArray) (l : List Chg) (hg : ∀ x ∈ l, goodC x) (h4 : manyT l ≤ 4) : ∀ (suf pre : List Chg), l = pre ++ suf →
    (suf.map fun x => (x.2.1, x.1)).foldl (stepP (row :: argsR l)) (pre, 1 + manyT pre, manyT pre) = (l, 1 + manyT l, manyT l)
  | [], pre, h => by
    have : l = pre := by simpa using h
    subst this; rfl
  | x :: suf, pre, h => by
    have hl : l = (pre ++ [x]) ++ suf := by rw [h]; simp
    have ih := back_fold row l hg h4 suf (pre ++ [x]) hl
    have hx := hg x (by rw [h]; simp)
    have hm := manyT_snoc pre x
    have hml : manyT l = manyT (pre ++ [x]) + manyT suf := by rw [← manyT_app, ← hl]
    rw [List.map_cons, List.foldl_cons]
    have step : stepP (row :: argsR l) (pre, 1 + manyT pre, manyT pre) (x.2.1, x.1) = (pre ++ [x], 1 + manyT (pre ++ [x]), manyT (pre ++ [x])) := by
      cases ht : tk x with
      | false =>
        have ht' : takesB x.2.1 x.1 = false := ht
        rw [stepP_no ht', hm, ht]
        have : x = (x.1, x.2.1, noArg) := by rw [← hx.2.2 ht]
        rw [← this]; rfl
      | true =>
        have ht' : takesB x.2.1 x.1 = true := ht
        rw [ht] at hm
        simp only [if_true] at hm
        have ha : 1 + manyT pre < (row :: argsR l).length := by rw [List.length_cons, argsR_len]; omega
        have hget : (row :: argsR l)[1 + manyT pre]'ha = x.2.2 := by
          have e1 : argsR l = argsR pre ++ x.2.2 :: argsR suf := by
            rw [h]; unfold argsR; simp [List.filter_append, List.filter_cons, ht]
          have e2 : (row :: argsR l)[1 + manyT pre]? = some x.2.2 := by
            rw [show 1 + manyT pre = manyT pre + 1 by omega, List.getElem?_cons_succ, e1, List.getElem?_append_right (by rw [argsR_len]; exact Nat.le_refl _), argsR_len, Nat.sub_self]
            rfl
          rw [List.getElem?_eq_getElem ha] at e2
          exact Option.some.inj e2
        rw [stepP_arg ht' (by omega) ha, hget, hm, show 1 + manyT pre + 1 = 1 + (manyT pre + 1) by omega]
    rw [step]
    exact ih
theorem back (l : List Chg) (hg : ∀ x ∈ l, goodC x) (h4 : manyT l ≤ 4) : parseM (textM l) = l := by
  by_cases h : l = []
  · subst h; rfl
  · have e : textM l = bs (rowR none l) :: argsR l := by unfold textM; rw [if_neg h, textS_row, textS_args]
    rw [e]
    unfold parseM
    rw [dif_pos (by simp)]
    have := back_fold (bs (rowR none l)) l hg h4 l [] (by simp)
    simp only [List.getElem_cons_zero, bs_toList]
    rw [seqL_row l none true (.inl rfl) hg]
    have h0 : ([], 1, 0) = (([] : List Chg), 1 + manyT [], manyT []) := rfl
    rw [h0, this]
theorem back_parse (ps : List ByteArray) : parseM (textM (parseM ps)) = parseM ps := back _ (parse_good ps).1 (parse_good ps).2
end Go.Proofs.YteiiaocohpbanaaGreat
end
section
/- Layer 18: rows of changes and of texts, nil let in; Parse, Same, Texts of such rows; great. -/
namespace Go.Proofs.YteiiaocohpbanaaGreat
set_option linter.unusedVariables false
set_option linter.unusedSimpArgs false
open Go.RowKit Go.Shelf

/-- changes lie at an address, if there are any -/
def RowC (W : World) (A : Option Addr) (l : List Chg) : Prop :=
  0 < l.length → ∃ g o, A = some ⟨g, o, none⟩ ∧ ∀ i (h : i < l.length), W.cell? ⟨g, o + i * 3, none⟩ = some (.bool l[i].1) ∧ W.cell? ⟨g, o + i * 3 + 1, none⟩ = some (.int .u8 l[i].2.1.toNat) ∧ W.cell? ⟨g, o + i * 3 + 2, none⟩ = some (.string l[i].2.2)
/-- texts lie at an address, if there are any -/
def RowT (W : World) (A : Option Addr) (l : List ByteArray) : Prop :=
  0 < l.length → ∃ g o, A = some ⟨g, o, none⟩ ∧ ∀ i (h : i < l.length), W.cell? ⟨g, o + i, none⟩ = some (.string l[i])
theorem lt_of_cell {W : World} {g o : Nat} {v : Value} (h : W.cell? ⟨g, o, none⟩ = some v) : g < W.heap.size := by
  unfold World.cell? at h
  cases hb : W.heap[g]? with
  | none => simp [hb] at h
  | some x => exact (Array.getElem?_eq_some_iff.1 hb).1
theorem RowC.kept {W W' : World} {A : Option Addr} {l : List Chg} (h : RowC W A l) (hb : Below W.heap.size W W') : RowC W' A l := fun hl => by
  obtain ⟨g, o, rfl, hc⟩ := h hl
  have hg := lt_of_cell (hc 0 hl).1
  exact ⟨g, o, rfl, fun i hi => by
    rw [hb.cell (p := ⟨g, _, none⟩) hg, hb.cell (p := ⟨g, _, none⟩) hg, hb.cell (p := ⟨g, _, none⟩) hg]
    exact hc i hi⟩
theorem RowT.kept {W W' : World} {A : Option Addr} {l : List ByteArray} (h : RowT W A l) (hb : Below W.heap.size W W') : RowT W' A l := fun hl => by
  obtain ⟨g, o, rfl, hc⟩ := h hl
  have hg := lt_of_cell (hc 0 hl)
  exact ⟨g, o, rfl, fun i hi => by rw [hb.cell (p := ⟨g, _, none⟩) hg]; exact hc i hi⟩
theorem chL_len (l : List Chg) : (chL l).length = l.length * 3 := by
  induction l with
  | nil => rfl
  | cons x r ih =>
    have : chL (x :: r) = [.bool x.1, .int .u8 x.2.1.toNat, .string x.2.2] ++ chL r := by simp [chL]
    rw [this, List.length_append, ih]; simp; omega
theorem chL_get (l : List Chg) : ∀ i (h : i < l.length), (chL l)[i * 3]? = some (.bool l[i].1) ∧ (chL l)[i * 3 + 1]? = some (.int .u8 l[i].2.1.toNat) ∧ (chL l)[i * 3 + 2]? = some (.string l[i].2.2) := by
  induction l with
  | nil => intro i h; simp at h
  | cons x r ih =>
    intro i h
    have e : chL (x :: r) = .bool x.1 :: .int .u8 x.2.1.toNat :: .string x.2.2 :: chL r := by simp [chL]
    cases i with
    | zero => rw [e]; exact ⟨rfl, rfl, rfl⟩
    | succ k =>
      have := ih k (by simpa using h)
      rw [e, show (k + 1) * 3 = k * 3 + 3 by omega]
      exact this

theorem RowT.owned {W : World} {base : Nat} {v : Value} {l : List ByteArray} (h : W.ownsRow base 9 1 v l.length (l.map .string)) : ∃ A c, v = .slice A l.length c ∧ l.length ≤ c ∧ RowT W A l := by
  have h0 := h
  rcases h.2 with ⟨rfl, hn⟩ | ⟨g, cap, cur, rfl, _, _, hc, _⟩
  · exact ⟨none, 0, by rw [hn], by omega, fun hl => by omega⟩
  · refine ⟨_, cap, rfl, hc, fun hl => ⟨g, 0, rfl, fun i hi => ?_⟩⟩
    rw [Nat.zero_add, h0.cellAt _ (by omega)]
    simp [hi]



def ParsedTo (w : World) (ps : List ByteArray) (e : Ending) (w' : World) : Prop := ∃ A c, e = .returned (.slice A (parseM ps).length c) ∧ (parseM ps).length ≤ c ∧ RowC w' A (parseM ps) ∧ Below w.heap.size w w'



/-! Same, Texts -/




set_option maxHeartbeats 4000000 in
theorem texts_any (A B : Option Addr) (a b : List ByteArray) (c1 c2 : Nat) (w : World) (ha1 : a.length ≤ 100000) (h1 : RowT w A a) (h2 : RowT w B b) :
    Calls Tryz.prog 21 #[.slice A a.length c1, .slice B b.length c2] w fun e w' => e = .returned (.bool (decide (a = b))) ∧ ∃ n, w' = w.drewN n := by
  by_cases hl : a.length = b.length
  · have H1 := Lib.hid h1
    have H2 := Lib.hid h2
    have HL := Lib.hid hl
    have hne : ((a.length : Int) != (b.length : Int)) = false := by rw [hl]; simp
    clear h1 h2 hl
    go_enter Tryz.func21, Tryz.ntmps21
    go_wp2_with fail
    go_loopw [5] (fun i wr => ∃ k : Nat, i = .int .i64 k ∧ k ≤ a.length ∧ Hid (a.take k = b.take k ∧ ∃ n, wr = w.drewN n)) (fun i _ => a.length - (Go.RowKit.intOf i).toNat)
    case atStart => exact ⟨0, rfl, Nat.zero_le _, rfl, 0, rfl⟩
    case round =>
      obtain ⟨k, rfl, hk, HQ⟩ := hrel
      by_cases hlt : k < a.length
      · have hlt2 : k < b.length := by have := HL.out; omega
        obtain ⟨g1, o1, rfl, k1⟩ := H1.out (by omega)
        obtain ⟨g2, o2, rfl, k2⟩ := H2.out (by omega)
        have ca : wr.cell? ⟨g1, o1 + k, none⟩ = some (.string a[k]) := by obtain ⟨_, n, hn⟩ := HQ.out; rw [hn]; exact k1 k hlt
        have cb : wr.cell? ⟨g2, o2 + k, none⟩ = some (.string b[k]) := by obtain ⟨_, n, hn⟩ := HQ.out; rw [hn]; exact k2 k hlt2
        obtain ⟨eb, heb⟩ : ∃ x, (a[k].toList == b[k].toList) = x := ⟨_, rfl⟩
        have hnq : (a[k].toList != b[k].toList) = !eb := by rw [← heb]; rfl
        have hnq2 : (!(a[k].toList == b[k].toList)) = !eb := by rw [heb]
        have HE := Lib.hid heb
        clear heb k1 k2
        have p1 : (k : Int) < (a.length : Int) := by omega
        have p2 : (k : Int) < (b.length : Int) := by omega
        cases eb with
        | false =>
          go_wp2_with fail
          go_quiet (fail)
          all_goals go_wp2_with fail
          have hd : decide (a = b) = false := by
            rw [decide_eq_false_iff_not]
            intro e
            have := HE.out
            simp only [e] at this
            simp at this
          obtain ⟨_, n, hn⟩ := HQ.out
          rw [hd]
          subst hn
          go_ret
          exact ⟨rfl, _, by rw [World.drewN_drewN]⟩
        | true =>
          go_wp2_with fail
          go_quiet (fail)
          all_goals go_wp2_with fail
          have h3 : a[k] = b[k] := by
            have := HE.out
            rw [beq_iff_eq, ByteArray.toList_eq, ByteArray.toList_eq] at this
            exact ba_ext this
          have h4 : a.take (k + 1) = b.take (k + 1) := by
            rw [List.take_succ_eq_append_getElem hlt, List.take_succ_eq_append_getElem hlt2, HQ.out.1, h3]
          obtain ⟨_, n, hn⟩ := HQ.out
          exact ⟨⟨k + 1, by go_num, by omega, h4, n + nq, by subst hn; rw [World.drewN_drewN]⟩, by simp [Go.RowKit.intOf]; omega⟩
      · obtain rfl : k = a.length := by omega
        have hab : a = b := by
          have := HQ.out.1
          rw [List.take_of_length_le (Nat.le_refl _), List.take_of_length_le (by have := HL.out; omega)] at this
          exact this
        have hd : decide (a = b) = true := by simp [hab]
        obtain ⟨_, n, hn⟩ := HQ.out
        have p1 : ¬ ((a.length : Int) < (a.length : Int)) := by omega
        subst hn
        have HD := Lib.hid hd
        clear hd hab
        go_wp2_with fail
        go_ret
        exact ⟨ret_bool HD.out.symm, _, rfl⟩
  · have hd : decide (a = b) = false := by rw [decide_eq_false_iff_not]; intro e; exact hl (by rw [e])
    have hne : ((a.length : Int) != (b.length : Int)) = true := by rw [bne_iff_ne]; omega
    rw [hd]
    clear hd hl h1 h2
    go_enter Tryz.func21, Tryz.ntmps21
    go_wp2_with fail
    go_ret
    exact ⟨rfl, 0, rfl⟩

/-- more than is looked at? -/
def greatB (l : List ByteArray) : Bool := decide (20 < l.length) || l.any fun s => decide (60 < s.size)
theorem greatB_no {l : List ByteArray} (h : greatB l = false) : l.length ≤ 20 ∧ ∀ s ∈ l, s.size ≤ 60 := by
  unfold greatB at h
  rw [Bool.or_eq_false_iff] at h
  refine ⟨by simpa using h.1, fun s hs => ?_⟩
  have := List.any_eq_false.1 h.2 s hs
  simpa using this
end Go.Proofs.YteiiaocohpbanaaGreat
end
section
/- The answers' Texts of two rows that read as one. -/
namespace Go.Proofs.YteiiaocohpbanaaGreat
set_option linter.unusedVariables false
set_option linter.unusedSimpArgs false
open Go Go.RowKit Go.Lib Go.Shelf

theorem texts_is {W : World} {A B : Option Addr} {xs : List (List UInt8)} (c1 c2 : Nat) (hl : xs.length ≤ 100000) (h1 : ReadsT W A xs) (h2 : ReadsT W B xs) :
    Calls Tryz.prog 21 #[.slice A xs.length c1, .slice B xs.length c2] W fun e w' => e = .returned (.bool true) ∧ ∃ n, w' = W.drewN n := by
  have hR : ∀ {A : Option Addr}, ReadsT W A xs → RowT W A (xs.map bs) := fun {A} h h0 => by
    rw [List.length_map] at h0
    obtain ⟨g, o, e, _, hc⟩ := h h0
    refine ⟨g, o, e, fun i hi => ?_⟩
    rw [List.getElem_map]
    exact hc i (by rw [List.length_map] at hi; exact hi)
  have := texts_any A B (xs.map bs) (xs.map bs) c1 c2 W (by rw [List.length_map]; exact hl) (hR h1) (hR h2)
  rw [List.length_map, decide_eq_true rfl] at this
  exact this
/-- what a frame leaves reads as it read -/
theorem readsT_fr {W W' : World} {A : Option Addr} {xs : List (List UInt8)} {X : Nat → Prop} (h : ReadsT W A xs) (hf : Fr X W W') (hX : ∀ g o, A = some ⟨g, o, none⟩ → ¬ X g) : ReadsT W' A xs := fun h0 => by
  obtain ⟨g, o, e, hg, hc⟩ := h h0
  exact ⟨g, o, e, Nat.lt_of_lt_of_le hg hf.size, fun j hj => (hf.cell (p := ⟨g, o + j, none⟩) hg (hX g o e)).trans (hc j hj)⟩
end Go.Proofs.YteiiaocohpbanaaGreat
end
