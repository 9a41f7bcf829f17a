/- Texts of this proof, one behind the other. -/
import Derived.Test.YtpbobonddocgkaaGreatDoorCoreOnceG11
import Derived.Test.YtpbobonddocgkaaGreatDoorCoreOnceG3
import Derived.Sort.QuietThIn
import Derived.Sort.QuietTacIn
import Derived.StillTail
import Derived.TacticsIn
import Derived.Test.YtpbobonddocgkaaGreatDoorCoreOnceG9
import Derived.Test.YtpbobonddocgkaaGreatDoorCoreOnceG4
import Derived.Test.YtpbobonddocgkaaGreatDoorCoreOnceG14
import Derived.Test.YtpbobonddocgkaaGreatDoorCoreOnceG7
import Derived.Laws.EntriesVeiled
import Derived.Test.YtpbobonddocgkaaGreatDoorCoreOnceG1
import Derived.Test.YtpbobonddocgkaaGreatDoorChecked
import Derived.RangeFuncKeeps
import Derived.Outline
set_option linter.unusedVariables false
set_option linter.unusedSimpArgs false
section
/- Layer 15: what may be a password, on both sides; the answers' Check. -/
namespace Go.Proofs.YtpbobonddocgkaaGreatDoor
open Go.RowKit

theorem rowed_below {w w' : World} {B : Nat} (h : Rowed w) (hB : w.heap.size ≤ B) (hb : Below B w w') : Rowed w' := by
  intro i hi
  obtain ⟨s, h1, h2⟩ := h i hi
  refine ⟨s, ?_, h2⟩
  rw [← h1]
  exact hb.cell (Nat.lt_of_lt_of_le (World.block_lt_of_cell? _ _ h1) hB)
def PassP (s : ByteArray) : Prop := (∀ i (h : i < s.size), seen s[i] = true) ∧ s.size ≤ 50 ∧ ∀ h : 0 < s.size, s[0].toNat ≠ 58
/-- does a text begin with a byte? -/
def headB (s : ByteArray) (c : UInt8) : Bool := s.data.toList.head? == some c
theorem head_at {s : ByteArray} {c : UInt8} (h : 0 < s.size) : headB s c = (s[0] == c) := by
  unfold headB
  have : s.data.toList.head? = some s[0] := by
    rw [List.head?_eq_getElem?, List.getElem?_eq_getElem (by simpa using h)]; rfl
  rw [this]; rfl
theorem head_em {s : ByteArray} {c : UInt8} (h : s.size = 0) : headB s c = false := by
  unfold headB
  rw [str_nil h]; rfl
theorem extract1 (s : ByteArray) (c : UInt8) (h : 0 < s.size) : ((s.extract 0 1).toList == (⟨#[c]⟩ : ByteArray).toList) = (s[0] == c) := by
  have e : (s.extract 0 1).data.toList = [s[0]] := by
    rw [Lib.extract_data, List.drop_zero]
    have := List.take_succ_eq_append_getElem (l := s.data.toList) (i := 0) (by simpa using h)
    rw [Nat.sub_zero]
    rw [this]; rfl
  rw [beq_ba, e]
  show ([s[0]] == [c]) = _
  simp

theorem pre_lite (s : ByteArray) (c : UInt8) (w : World) (hs : s.size ≤ 1000000) :
    Calls Tryz.prog 93 #[.string s, .string ⟨#[c]⟩] w fun e w' => e = .returned (.bool (headB s c)) ∧ w = w' := by
  by_cases h : 0 < s.size
  · have e := extract1 s c h
    rw [← head_at h] at e
    have h1 : 1 ≤ s.size := h
    have E := Lib.hid e
    clear e
    go_enter Tryz.func93, Tryz.ntmps93
    go_wp2_with fail
    go_ret
    exact ⟨ret_bool (by rw [← E.out, show (⟨#[c]⟩ : ByteArray).toList = [c] from by rw [ByteArray.toList_eq]]), rfl⟩
  · have e := head_em (s := s) (c := c) (by omega)
    have E := Lib.hid e
    clear e
    go_enter Tryz.func93, Tryz.ntmps93
    go_wp2_with fail
    go_ret
    exact ⟨ret_bool (by rw [E.out]), rfl⟩
theorem pre_any (s : ByteArray) (c : UInt8) (w : World) (hs : s.size ≤ 1000000) :
    Calls Tryz.prog 72 #[.string s, .string ⟨#[c]⟩] w fun e w' => e = .returned (.bool (headB s c)) ∧ w = w' := by
  go_enter Tryz.func72, Tryz.ntmps72
  go_wp2_with (go_at_call 93; refine (pre_lite s c _ hs).mono ?_; rintro e w' ⟨rfl, rfl⟩)
  go_ret
  exact ⟨rfl, rfl⟩

set_option maxHeartbeats 1000000 in
theorem pass_v (s : ByteArray) (w : World) (hs : s.size ≤ 1000000) :
    Calls Tryz.prog 47 #[.string s] w fun e w' => e = .returned (.bool (dec (PassP s))) ∧ w = w' := by
  go_enter Tryz.func47, Tryz.ntmps47
  go_wp2_with fail
  go_loopw [3, 6] (fun _ i wr => ∃ k : Nat, k ≤ s.size ∧ i = .int .i64 k ∧ (∀ i, i < k → ∀ (hi : i < s.size), (fun _ b => seen b) i s[i] = true) ∧ wr = w) (fun _ i _ => s.size - (Go.RowKit.intOf i).toNat)
  case atStart => exact ⟨0, Nat.zero_le _, rfl, fun _ h => absurd h (Nat.not_lt_zero _), rfl⟩
  case round =>
    obtain ⟨k, hk, rfl, hq, rfl⟩ := hrel
    have Hq := Lib.hid hq
    clear hq
    by_cases hlt : k < s.size
    · by_cases hb : 33 ≤ s[k].toNat
      · by_cases hb2 : s[k].toNat ≤ 126
        · go_wp2_with fail
          go_roundw
          case rel => exact ⟨k + 1, by omega, by push_cast; rfl, all_step Hq.out hlt (decide_eq_true ⟨hb, hb2⟩), by simp⟩
          case measure => simp only [Go.RowKit.intOf]; omega
        · go_wp2_with fail
          go_ret
          exact ⟨ret_bool (dec_no fun h => hb2 (by have := of_decide_eq_true (h.1 k hlt); exact this.2)), rfl⟩
      · go_wp2_with fail
        go_ret
        exact ⟨ret_bool (dec_no fun h => hb (by have := of_decide_eq_true (h.1 k hlt); exact this.1)), rfl⟩
    · obtain rfl : k = s.size := by omega
      by_cases h50 : s.size ≤ 50
      · go_wp2_with (go_at_call 72; refine (pre_any s 58 _ hs).mono ?_; rintro e w' ⟨rfl, rfl⟩)
        go_ret
        refine ⟨ret_bool (dec_of ?_), rfl⟩
        constructor
        · intro h
          refine ⟨fun i hi => Hq.out i hi hi, h50, fun h0 e => ?_⟩
          rw [head_at h0, show s[0] = 58 from UInt8.toNat_inj.mp e] at h
          simp at h
        · rintro ⟨_, _, h⟩
          by_cases h0 : 0 < s.size
          · rw [head_at h0]
            simp
            intro e; exact h h0 (by rw [e]; rfl)
          · rw [head_em (by omega)]; rfl
      · go_wp2_with fail
        go_ret
        exact ⟨ret_bool (dec_no fun h => h50 h.2.1), rfl⟩





def inR (n a b : Int) : Bool := decide (a ≤ n ∧ n ≤ b)
end Go.Proofs.YtpbobonddocgkaaGreatDoor
end
section
/- A region that draws its order, anywhere, a loop's round over a function too: what only reads, in whatever order; then what must come last, in its order. -/
namespace Go.Proofs.YtpbobonddocgkaaGreatDoor
open Go

section
variable {F : Fence} {n : Nat} {P : Program} {ops : Array Oper} {md : Region.Mode} {C : World → Prop}

/-- no operation puts a call off -/
def noDefer (ops : Array Oper) : Bool := ops.all fun o => match o.op with | .defer _ => false | _ => true
theorem noDefer_spec (h : noDefer ops = true) {i : Nat} {o : Oper} (ho : ops[i]? = some o) : ∀ c, o.op ≠ .defer c := by
  intro c hc
  have := Array.all_eq_true.1 h i (Array.getElem?_eq_some_iff.1 ho).1
  rw [(Array.getElem?_eq_some_iff.1 ho).2, hc] at this
  cases this

theorem quiet_wpIn {o : Oper} {a : Act} {K : Act → Prop} {K' : Act → World → Prop} {Q' : Exit → Act → World → Prop} {w : World} (hd : ∀ c, o.op ≠ .defer c) (hw : C w) (h : ∀ a w', C w' → K a → K' a w')
    (ha : o.askedIn F P a C) (hh : o.quietIn F n P a C K) : o.wpIn F n P a w K' Q' := by
  obtain ⟨v, h1, h2⟩ := hh
  have h3 := h1 w hw
  unfold Oper.quietAtIn at h3
  refine ⟨ha w hw, ?_⟩
  rw [Oper.semAt_eq _ _ _ hd]
  generalize (execOp a.eval o).run P w = r at h3 ⊢
  match r, h3 with
  | .ok (.value u) w', h3 =>
    obtain ⟨rfl, rfl⟩ := h3
    exact h _ _ hw h2
  | .ok .skip w', h3 =>
    obtain ⟨rfl, rfl⟩ := h3
    exact h _ _ hw h2
  | .ok (.enter f args) w', h3 =>
    obtain ⟨rfl, hdep, hc⟩ := h3
    exact ⟨hdep, hc.mono fun e w'' hx => by obtain ⟨rfl, hw''⟩ := hx; exact h _ _ hw'' h2⟩

theorem quiet_wpOpIn {i : Nat} {a : Act} {K : Act → Prop} {K' : Act → World → Prop} {Q' : Exit → Act → World → Prop} {w : World} (hnd : noDefer ops = true) (hC : C w) (h : ∀ a w', C w' → K a → K' a w')
    (hh : qOpIn F n P ops C i K a) : wpOpIn F n P ops Q' i K' a w := by
  unfold qOpIn at hh
  unfold wpOpIn
  cases ho : ops[i]? with
  | none => simp only [ho] at hh ⊢; exact h _ _ hC hh
  | some o =>
    simp only [ho] at hh ⊢
    obtain ⟨ha, hh⟩ := hh
    by_cases hw : Region.wanted o (yielded ops a.tmps) = true
    · simp only [hw, if_true] at hh ⊢
      exact quiet_wpIn (noDefer_spec hnd ho) hC h ha hh
    · simp only [hw] at hh ⊢
      exact ⟨ha w hC, h _ _ hC hh⟩

/-- the head of a region: so many operations, whatever comes up, each below m -/
def headQ (F : Fence) (n : Nat) (P : Program) (md : Region.Mode) (ops : Array Oper) (C : World → Prop) (m : Nat) (L : Array Bool → Act → Prop) : Nat → Array Bool → Act → Prop
  | 0, listed, a => L listed a
  | f + 1, listed, a =>
    Region.ready md ops listed ≠ [] ∧ ∀ i ∈ Region.ready md ops listed, i < m ∧ qOpIn F n P ops C i (headQ F n P md ops C m L f (listed.setIfInBounds i true)) a

theorem wpAnyIn_of_headQ {m g : Nat} {L : Array Bool → Act → Prop} {Q' : Exit → Act → World → Prop} (hnd : noDefer ops = true) (hL : ∀ listed a w, C w → L listed a → wpAnyIn F n P md ops Q' g listed a w) :
    ∀ (f : Nat) (listed : Array Bool) (a : Act) (w : World), C w → headQ F n P md ops C m L f listed a → wpAnyIn F n P md ops Q' (f + g) listed a w
  | 0, listed, a, w, hw, h => by rw [Nat.zero_add]; exact hL _ _ _ hw h
  | f + 1, listed, a, w, hw, h => by
    rw [show f + 1 + g = (f + g) + 1 by omega]
    exact ⟨fun h0 => absurd h0 h.1, fun i hi => quiet_wpOpIn hnd hw (fun a' w' hw' h' => wpAnyIn_of_headQ hnd hL f _ a' w' hw' h') (h.2 i hi).2⟩

theorem headQ_first {m i : Nat} {oi : Oper} {v : Value} {L : Array Bool → Act → Prop} (hi : ops[i]? = some oi) (hsel : ∀ (j : Nat) (o : Oper) cs b, ops[j]? = some o → o.op ≠ .select cs b)
    (hs : Region.sinkB md ops m = true) (hc : Region.chainB md ops m = true) (hn : m < ops.size) (hin : i < m)
    (hdone : ∀ listed a, L listed a → ∀ j ∈ Region.ready md ops listed, m ≤ j) :
    ∀ (f : Nat) (listed : Array Bool) (a : Act), HeadInv md ops m listed →
      (∀ j oj, ops[j]? = some oj → j ≠ i → listed.getD j true = false → (∀ e ∈ oj.after, Region.binds md e = true → e.on ≠ i) → oi.apart ops oj = true) →
      i ∈ Region.ready md ops listed → YieldsQuiet F n P ops C oi v a →
      headQ F n P md ops C m L f (listed.setIfInBounds i true) (a.put oi.dst v) → headQ F n P md ops C m L (f + 1) listed a := by
  intro f
  induction f with
  | zero =>
    intro listed a inv _ hr hy H
    have hun := (mem_ready.1 hr).1
    refine ⟨fun h => (by rw [h] at hr; cases hr), fun j hj => ?_⟩
    have hjn : j < m := Nat.lt_of_not_le fun h => tail_waits hs hc hn inv _ i rfl hin hun j h hj
    refine ⟨hjn, ?_⟩
    by_cases hji : j = i
    · subst hji; exact hy.qOpIn hi H
    · exact absurd (hdone _ _ H j (ready_mono hj hji)) (by omega)
  | succ f ih =>
    intro listed a inv hfree hr hy H
    have hun := (mem_ready.1 hr).1
    refine ⟨fun h => (by rw [h] at hr; cases hr), fun j hj => ?_⟩
    have hjn : j < m := Nat.lt_of_not_le fun h => tail_waits hs hc hn inv _ i rfl hin hun j h hj
    refine ⟨hjn, ?_⟩
    by_cases hji : j = i
    · subst hji; exact hy.qOpIn hi H
    · have h1 := (H.2 j (ready_mono hj hji)).2
      obtain ⟨hjun, oj, hoj, hall⟩ := mem_ready.1 hj
      have hnot : ∀ e ∈ oj.after, Region.binds md e = true → e.on ≠ i := fun e he hb heq => by
        have h1 := hall e he hb
        rw [heq, getD_both hun] at h1
        cases h1
      have h2 := qOpIn_put hoj (hfree j oj hoj hji hjun hnot) (fun cs b => hsel i oi cs b hi) (fun cs b => hsel j oj cs b hoj) hy h1
      have hfree' : ∀ k ok, ops[k]? = some ok → k ≠ i → (listed.setIfInBounds j true).getD k true = false →
          (∀ e ∈ ok.after, Region.binds md e = true → e.on ≠ i) → oi.apart ops ok = true := fun k ok hk hki hun hno => by
        refine hfree k ok hk hki ?_ hno
        by_cases hjk : j = k
        · subst hjk; exact hjun
        · rw [getD_set_ne true hjk] at hun; exact hun
      refine qOpIn_mono (fun a' h3 => ih (listed.setIfInBounds j true) a' (inv.set hj hjn) hfree' (ready_mono hr (Ne.symm hji)) h3.1 ?_) h2
      rw [Array.setIfInBounds_comm _ _ hji]
      exact h3.2

theorem wpAnyIn_of_seq {Q' : Exit → Act → World → Prop} : ∀ (l : List Oper) (k : Nat) (listed : Array Bool) (a : Act) (w : World), (∀ j, l[j]? = ops[k + j]?) →
    Region.seqB md ops l.length k listed = true → wpListIn F n P ops Q' l a w → wpAnyIn F n P md ops Q' l.length listed a w
  | [], _, _, _, _, _, hB, h => ⟨by simpa [Region.seqB] using hB, h⟩
  | o :: l, k, listed, a, w, hl, hB, h => by
    have h0 : ops[k]? = some o := by simpa using (hl 0).symm
    simp only [List.length_cons, Region.seqB, Bool.and_eq_true, decide_eq_true_eq] at hB
    refine ⟨fun h1 => (by rw [hB.1] at h1; cases h1), fun i hi => ?_⟩
    rw [hB.1] at hi
    have hik : i = k := by simpa using hi
    subst hik
    have hw : wpOpIn F n P ops Q' i (wpListIn F n P ops Q' l) a w := by unfold wpOpIn; simp only [h0]; exact h
    exact wpOpIn_mono (fun a' w' h' => wpAnyIn_of_seq l (i + 1) _ a' w' (fun j => by have := hl (j + 1); simpa [Nat.add_assoc, Nat.add_comm 1 j] using this) hB.2 h') hw

theorem headQ_lex {m g : Nat} {Lq : Act → Prop} (hsel : Region.noSelect ops = true) (hs : Region.sinkB md ops m = true) (hc : Region.chainB md ops m = true) (hn : m < ops.size) :
    ∀ (l : List Oper) (k : Nat) (listed : Array Bool) (a : Act), (∀ j, j < l.length → l[j]? = ops[k + j]?) → k + l.length = m → HeadInv md ops m listed →
    Region.lexHead md ops g l.length k listed = true → wpQuietIn F n P ops C Lq l a →
    headQ F n P md ops C m (fun listed' a' => Region.seqB md ops g m listed' = true ∧ Lq a') l.length listed a
  | [], k, listed, a, _, hk, _, hB, h => by
    have : k = m := by simpa using hk
    subst this
    exact ⟨by simpa [Region.lexHead] using hB, h⟩
  | o :: l, k, listed, a, hl, hk, inv, hB, h => by
    have h0 : ops[k]? = some o := by simpa using (hl 0 (by simp)).symm
    simp only [List.length_cons, Region.lexHead, Bool.and_eq_true] at hB
    obtain ⟨⟨hr, hf⟩, hB'⟩ := hB
    have hkn : k < m := by simp only [List.length_cons] at hk; omega
    have hr' : k ∈ Region.ready md ops listed := by simpa using hr
    have hst : qOpIn F n P ops C k (wpQuietIn F n P ops C Lq l) a := by unfold qOpIn; simp only [h0]; exact h
    obtain ⟨v, hy, hK⟩ := yieldsQuiet_of_qOpIn h0 hst
    exact headQ_first h0 (Region.noSelect_spec hsel) hs hc hn hkn (fun listed' a' hL => seqB_ready hL.1) l.length listed a inv (Region.free_spec h0 hf) hr' hy
      (headQ_lex hsel hs hc hn l (k + 1) _ _ (fun j hj => by have := hl (j + 1) (by simp; omega); simpa [Nat.add_assoc, Nat.add_comm 1 j] using this) (by simp only [List.length_cons] at hk; omega) (inv.set hr' hkn) hB' hK)

/-- what only reads ahead, in whatever order; what must come last behind it, in its order -/
theorem wpIn_quiet_tail {id : Nat} {Q : Exit → Act → World → Prop} {a : Act} {w : World} {l : List Oper} (m : Nat) (hm : P.follows .mixedOrders = true) (hnd : noDefer l.toArray = true) (hB : Region.lexTailB .any l.toArray m = true)
    (h : wpQuietIn F n P l.toArray (fun w' => ∃ k, w' = w.drewN k) (fun a' => ∀ w', (∃ k, w' = w.drewN k) → wpListIn F n P l.toArray Q (l.drop m) a' w') (l.take m) a) : (Code.region id l.toArray true).wpIn F n P Q a w := by
  simp only [Region.lexTailB, Bool.and_eq_true, decide_eq_true_eq] at hB
  obtain ⟨⟨⟨⟨hsel, hn⟩, hs⟩, hc⟩, hlex⟩ := hB
  have hn' : m < l.length := by simpa using hn
  have htl : (l.take m).length = m := by simp; omega
  have hdl : (l.drop m).length = l.toArray.size - m := by simp
  have inv0 : HeadInv .any l.toArray m (Array.replicate l.toArray.size false) :=
    ⟨by simp, fun j oj _ hl => (by rw [getD_replicate_false] at hl; cases hl), fun t _ ht => getD_in (by simpa using ht) (getD_replicate_false _ _)⟩
  have H := headQ_lex (F := F) (n := n) (P := P) (md := .any) (g := l.toArray.size - m) hsel hs hc hn (l.take m) 0 _ a (fun j hj => by
    have hj' : j < m := by rw [htl] at hj; exact hj
    simp [hj']) (by simpa using htl) inv0 (by rw [htl]; exact hlex) h
  refine wpIn_region_any hm ?_
  have := wpAnyIn_of_headQ (Q' := Q) (g := l.toArray.size - m) hnd (fun listed a' w' hw' hL => by
    have := wpAnyIn_of_seq (F := F) (n := n) (P := P) (md := .any) (Q' := Q) (l.drop m) m listed a' w' (fun j => by simp [List.getElem?_drop]) (by rw [hdl]; exact hL.1) (hL.2 w' hw')
    rwa [hdl] at this) _ _ _ _ ⟨1, rfl⟩ H
  rw [htl, show m + (l.toArray.size - m) = l.toArray.size by omega] at this
  exact this

theorem wpAnyIn_of_allQ {Q : Act → Prop} {Q' : Exit → Act → World → Prop} (hnd : noDefer ops = true) (hQ : ∀ a w, C w → Q a → Q' .normal a w) : ∀ (fuel : Nat) (listed : Array Bool) (a : Act) (w : World), C w →
    wpAnyQIn F n P md ops C Q fuel listed a → wpAnyIn F n P md ops Q' fuel listed a w
  | 0, _, _, _, hw, h => ⟨h.1, hQ _ _ hw h.2⟩
  | fuel + 1, _, _, _, hw, h => ⟨fun h0 => hQ _ _ hw (h.1 h0), fun i hi => quiet_wpOpIn hnd hw (fun a' w' hw' => wpAnyIn_of_allQ hnd hQ fuel _ a' w' hw') (h.2 i hi)⟩

/-- all of it only reads -/
theorem wpIn_quiet_all {id : Nat} {Q : Exit → Act → World → Prop} {a : Act} {w : World} {l : List Oper} (hm : P.follows .mixedOrders = true) (hnd : noDefer l.toArray = true) (hB : Region.lexB .any l.toArray = true)
    (h : wpQuietIn F n P l.toArray (fun w' => ∃ k, w' = w.drewN k) (fun a' => ∀ w', (∃ k, w' = w.drewN k) → Q .normal a' w') l a) : (Code.region id l.toArray true).wpIn F n P Q a w := by
  simp only [Region.lexB, Bool.and_eq_true] at hB
  refine wpIn_region_any hm (wpAnyIn_of_allQ (Q := fun a' => ∀ w', (∃ k, w' = w.drewN k) → Q .normal a' w') hnd (fun _ w' hw' h => h w' hw') _ _ _ _ ⟨1, rfl⟩ ?_)
  have := wpAnyQIn_lex (F := F) (n := n) (P := P) (C := fun w' => ∃ k, w' = w.drewN k) (md := .any) hB.1 l.toArray.toList 0 (Array.replicate l.toArray.size false) a (by simp) (by simpa using hB.2) (by simpa using h)
  simpa using this

/-- one operation of the walk, where the fence lets every function by -/
theorem quiet_step_w (hF : ∀ f, F.fn f) {Q : Act → Prop} {a : Act} {o : Oper} {rest : List Oper}
    (h : ∀ K : Act → Prop, (∀ a, wpQuietIn F n P ops C Q rest a → K a) → if Region.wanted o (yielded ops a.tmps) then o.quietIn F n P a C K else K (a.put o.dst undef)) : wpQuietIn F n P ops C Q (o :: rest) a :=
  wpQuietIn_step (fun _ _ f _ => hF f) h
end
end Go.Proofs.YtpbobonddocgkaaGreatDoor
end
section
/- Regions that draw their order, whose last operation (number z: a store) waits for what reads: what is held need not hold behind it. -/
namespace Go.Proofs.YtpbobonddocgkaaGreatDoor
open Go Go.RowKit

/-- does z wait for i? -/
def waitsFor (md : Region.Mode) (ops : Array Oper) (z i : Nat) : Bool := match ops[z]? with
  | some o => o.after.any fun e => Region.binds md e && e.on == i
  | none => true
section
variable {P : Program} {md : Region.Mode} {ops : Array Oper} {Q : Exit → Act → World → Prop} {S : World → Prop} {z : Nat}
/-- whatever order is picked; S holds behind all but z -/
def wpAnyZ (P : Program) (md : Region.Mode) (ops : Array Oper) (Q : Exit → Act → World → Prop) (S : World → Prop) (z : Nat) : Nat → Array Bool → Act → World → Prop
  | 0, listed, a, w => Region.ready md ops listed = [] ∧ Q .normal a w
  | fuel + 1, listed, a, w => (Region.ready md ops listed = [] → Q .normal a w) ∧
    ∀ i ∈ Region.ready md ops listed, wpOp P ops Q i (fun a' w' => (i ≠ z → S w') ∧ wpAnyZ P md ops Q S z fuel (listed.setIfInBounds i true) a' w') a w
theorem wpAny_of_z : ∀ (fuel : Nat) (listed : Array Bool) (a : Act) (w : World), wpAnyZ P md ops Q S z fuel listed a w → wpAny P md ops Q fuel listed a w
  | 0, _, _, _, h => h
  | fuel + 1, _, _, _, h => ⟨h.1, fun i hi => wpOp_mono (fun _ _ h' => wpAny_of_z fuel _ _ _ h'.2) (h.2 i hi)⟩
theorem waits_not {i j : Nat} {listed : Array Bool} (hz : waitsFor md ops z i = true) (hr : i ∈ Region.ready md ops listed) (hj : j ∈ Region.ready md ops listed) : j ≠ z := by
  rintro rfl
  obtain ⟨_, oj, hoj, hall⟩ := mem_ready.1 hj
  unfold waitsFor at hz
  rw [hoj] at hz
  simp only [Array.any_eq_true'] at hz
  obtain ⟨e, he, hb⟩ := hz
  rw [Bool.and_eq_true, beq_iff_eq] at hb
  have h1 := hall e he hb.1
  have h0 := (mem_ready.1 hr).1
  rw [hb.2] at h1
  rcases Nat.lt_or_ge i listed.size with h' | h'
  · simp [h'] at h0 h1; rw [h0] at h1; cases h1
  · simp [Array.getElem?_eq_none h'] at h1
theorem wpAnyZ_first {i : Nat} {oi : Oper} {v : Value} (hi : ops[i]? = some oi) (hsel : ∀ (j : Nat) (o : Oper) cs b, ops[j]? = some o → o.op ≠ .select cs b)
    (hQ : ∀ c a w, Q (.panic c) (a.put oi.dst v) w → Q (.panic c) a w) (hz : waitsFor md ops z i = true) : ∀ (fuel : Nat) (listed : Array Bool) (a : Act) (w : World),
      (∀ j oj, ops[j]? = some oj → j ≠ i → listed.getD j true = false → (∀ e ∈ oj.after, Region.binds md e = true → e.on ≠ i) → oi.apart ops oj = true) →
      i ∈ Region.ready md ops listed → YieldsIf P ops S oi v a → S w → wpAnyZ P md ops Q S z fuel (listed.setIfInBounds i true) (a.put oi.dst v) w → wpAnyZ P md ops Q S z (fuel + 1) listed a w := by
  intro fuel
  induction fuel with
  | zero =>
    intro listed a w _ hr hy hS H
    refine ⟨fun h => (by rw [h] at hr; cases hr), fun j hj => ?_⟩
    by_cases hji : j = i
    · subst hji
      exact hy.wpOp hi hS ⟨fun _ => hS, H⟩
    · have h1 := ready_mono hj hji
      rw [H.1] at h1
      cases h1
  | succ fuel ih =>
    intro listed a w hfree hr hy hS H
    refine ⟨fun h => (by rw [h] at hr; cases hr), fun j hj => ?_⟩
    by_cases hji : j = i
    · subst hji
      exact hy.wpOp hi hS ⟨fun _ => hS, H⟩
    · have hjz := waits_not hz hr hj
      have h1 := H.2 j (ready_mono hj hji)
      obtain ⟨hjun, oj, hoj, hall⟩ := mem_ready.1 hj
      have hnot : ∀ e ∈ oj.after, Region.binds md e = true → e.on ≠ i := fun e he hb heq => by
        have h1 := hall e he hb
        have h0 := (mem_ready.1 hr).1
        rw [heq] at h1
        rcases Nat.lt_or_ge i listed.size with h' | h'
        · simp [h'] at h0 h1; rw [h0] at h1; cases h1
        · simp [Array.getElem?_eq_none h'] at h1
      have h2 := wpOp_putIf hoj (hfree j oj hoj hji hjun hnot) (fun cs b => hsel i oi cs b hi) (fun cs b => hsel j oj cs b hoj) hQ hy h1
      refine wpOp_mono (fun a' w' h3 => ⟨h3.2.1, ih (listed.setIfInBounds j true) a' w' (fun k ok hk hki hun hno => hfree k ok hk hki ?_ hno) (ready_mono hr (Ne.symm hji)) h3.1 (h3.2.1 hjz) ?_⟩) h2
      · by_cases hjk : j = k
        · subst hjk; exact hjun
        · rw [getD_set_ne true hjk] at hun; exact hun
      · rw [Array.setIfInBounds_comm _ _ hji]
        exact h3.2.2
/-- what yields in every world that is held -/
theorem wpAnyZ_read {i : Nat} {oi : Oper} (v : Value) {fuel : Nat} {listed : Array Bool} {a : Act} {w : World} (hi : ops[i]? = some oi)
    (hs : Region.noSelect ops = true) (hf : Region.free md ops listed i = true) (hr : (Region.ready md ops listed).contains i = true) (hz : waitsFor md ops z i = true)
    (hQ : ∀ c a w, Q (.panic c) (a.put oi.dst v) w → Q (.panic c) a w) (hw : Region.wanted oi (yielded ops a.tmps) = true) (hS : S w)
    (hy : ∀ w, S w → (execOp a.eval oi).run P w = .ok (.value v) w)
    (h : wpAnyZ P md ops Q S z fuel (listed.setIfInBounds i true) (a.put oi.dst v) w) : wpAnyZ P md ops Q S z (fuel + 1) listed a w :=
  wpAnyZ_first hi (Region.noSelect_spec hs) hQ hz fuel listed a w (Region.free_spec hi hf) (by simpa using hr) (Or.inl ⟨hw, hy⟩) hS h
/-- one alone may come up: a call, a slice that is made -/
theorem wpAnyZ_one {i : Nat} {o : Oper} {fuel : Nat} {listed : Array Bool} {a : Act} {w : World} (hr : Region.ready md ops listed = [i]) (ho : ops[i]? = some o) (hw : Region.wanted o (yielded ops a.tmps) = true)
    (h : ∀ K' : Act → World → Prop, Shut (∀ a w, S w → (S w → wpAnyZ P md ops Q S z fuel (listed.setIfInBounds i true) a w) → K' a w) → Oper.wp P o a w K' Q) : wpAnyZ P md ops Q S z (fuel + 1) listed a w :=
  ⟨fun h0 => absurd (hr ▸ h0) (by simp), by
    rw [hr]
    intro j hj
    obtain rfl := List.mem_singleton.1 hj
    exact wpOp_step ho fun K' hK => by rw [if_pos hw]; exact h K' fun a w hS hW => hK a w ⟨fun _ => hS, hW hS⟩⟩
/-- z comes up -/
theorem wpAnyZ_last {o : Oper} {fuel : Nat} {listed : Array Bool} {a : Act} {w : World} (hr : Region.ready md ops listed = [z]) (ho : ops[z]? = some o) (hw : Region.wanted o (yielded ops a.tmps) = true)
    (h : ∀ K' : Act → World → Prop, Shut (∀ a w, wpAnyZ P md ops Q S z fuel (listed.setIfInBounds z true) a w → K' a w) → Oper.wp P o a w K' Q) : wpAnyZ P md ops Q S z (fuel + 1) listed a w :=
  ⟨fun h0 => absurd (hr ▸ h0) (by simp), by
    rw [hr]
    intro j hj
    obtain rfl := List.mem_singleton.1 hj
    exact wpOp_step ho fun K' hK => by rw [if_pos hw]; exact h K' fun a w hW => hK a w ⟨fun e => absurd rfl e, hW⟩⟩
theorem wpAnyZ_done {listed : Array Bool} {a : Act} {w : World} (hr : Region.ready md ops listed = []) (h : Q .normal a w) : ∀ fuel, wpAnyZ P md ops Q S z fuel listed a w
  | 0 => ⟨hr, h⟩
  | _ + 1 => ⟨fun _ => h, by rw [hr]; simp⟩
theorem wp_region_z (S : World → Prop) (z : Nat) {id : Nat} {a : Act} {w : World} (hm : P.follows .mixedOrders = true) (hS : S w.drew)
    (h : S w.drew → wpAnyZ P .any ops Q S z ops.size (Array.replicate ops.size false) a w.drew) : (Code.region id ops true).wp P Q a w :=
  wp_region_any hm (wpAny_of_z _ _ _ _ (h hS))
/-- append whose run is known -/
theorem wp_app_run {P : Program} {W W' : World} {o : Oper} {a : Act} {K : Act → World → Prop} {Q : Exit → Act → World → Prop} (s x : Operand) (t tx : TypeId)
    (ho : o.op = .call { callee := .builtin .append, args := #[s, x], argTypes := #[t, tx] }) {v : Value} (hr : (Builtin.append_ #[t, tx] o.type #[a.eval s, a.eval x]).run P W = .ok v W') (h : K (a.put o.dst v) W') : Oper.wp P o a W K Q := by
  unfold Oper.wp execOp
  simp only [ho, resolve, invoke, builtin, Sem.run_bind, Sem.run_pure, Result.andThen_ok, List.map_toArray, List.map_cons, List.map_nil, hr]
  exact h
end
end Go.Proofs.YtpbobonddocgkaaGreatDoor
end
section
/- Regions that draw their order, anywhere (a loop's round over a function too), walked op by op in one way, where the fence lets every function by: what only reads may be taken first; S holds behind every operation but the last (number z), which waits for what reads. -/
namespace Go.Proofs.YtpbobonddocgkaaGreatDoor
open Go Go.RowKit

section
variable {F : Fence} {n : Nat} {P : Program} {md : Region.Mode} {ops : Array Oper} {Q : Exit → Act → World → Prop} {S : World → Prop} {z : Nat}
theorem wpOpIn_putIf {j : Nat} {oi oj : Oper} {v : Value} (hF : ∀ f, F.fn f) (hnd : noDefer ops = true) (hj : ops[j]? = some oj) (hap : oi.apart ops oj = true)
    (hsi : ∀ cs b, oi.op ≠ .select cs b) (hsj : ∀ cs b, oj.op ≠ .select cs b)
    (hQ : ∀ c a w, Q (.panic c) (a.put oi.dst v) w → Q (.panic c) a w) {K : Act → World → Prop} {a : Act} {w : World}
    (hy : YieldsIf P ops S oi v a) (h : wpOpIn F n P ops Q j K (a.put oi.dst v) w) :
    wpOpIn F n P ops Q j (fun a' w' => YieldsIf P ops S oi v a' ∧ K (a'.put oi.dst v) w') a w := by
  obtain ⟨h1, h2, h3⟩ := Oper.apart_spec hap
  have keep : ∀ (a : Act), YieldsIf P ops S oi v a → ∀ u, YieldsIf P ops S oi v (a.put oj.dst u) := fun a hy u =>
    hy.of_same (execOp_put oi hsi a oj.dst u h3) (wanted_put oi a oj.dst u h3)
  have keepD : ∀ d, YieldsIf P ops S oi v { a with defers := d :: a.defers } := fun d => hy.of_same rfl rfl
  have hnj := noDefer_spec hnd hj
  unfold wpOpIn at *
  simp only [hj] at *
  rw [wanted_put oj a oi.dst v h1, about_put oj w a oi.dst v h1] at h
  split
  · rename_i hw
    simp only [hw, if_true] at h
    unfold Oper.wpIn at *
    rw [about_put oj w a oi.dst v h1] at h
    refine ⟨h.1, ?_⟩
    have h := h.2
    rw [Oper.semAt_eq _ _ _ hnj, execOp_put oj hsj a oi.dst v h1] at h
    rw [Oper.semAt_eq _ _ _ hnj]
    generalize (execOp a.eval oj).run P w = r at *
    cases r with
    | ok x w' =>
      cases x <;> simp only [Oper.uponIn] at h ⊢
      case value u => exact ⟨keep a hy u, by rw [← Act.put_comm a v u h2]; exact h⟩
      case skip => exact ⟨keep a hy _, by rw [← Act.put_comm a v undef h2]; exact h⟩
      case defer d =>
        refine ⟨keep _ (keepD d) _, ?_⟩
        rw [← Act.put_comm _ v undef h2, ← Act.put_defers]
        exact h
      case enter f args =>
        refine ⟨h.1, CallsIn.mono h.2 fun e w'' he => ?_⟩
        cases e with
        | returned u => exact ⟨keep a hy u, by rw [← Act.put_comm a v u h2]; exact he⟩
        | panicked c => exact hQ _ _ _ he
        | outgrown => exact he
      case row row args => exact ⟨h.1, RowsIn.mono h.2 fun u w'' he => ⟨keep a hy u, by rw [← Act.put_comm a v u h2]; exact he⟩⟩
      case round l f tmps assign body =>
        refine ⟨h.1, RoundIn.mono h.2 fun e w'' he => ?_⟩
        cases e with
        | returned u => exact ⟨keep a hy u, by rw [← Act.put_comm a v u h2]; exact he⟩
        | panicked c => exact hQ _ _ _ he
        | outgrown => exact he
    | halt x w' =>
      cases x <;> simp only [Oper.uponIn] at h ⊢
      case panic u => exact hQ _ _ _ h
  · rename_i hw
    simp only [hw] at h
    exact ⟨h.1, keep a hy _, by rw [← Act.put_comm a v undef h2]; exact h.2⟩
theorem yieldsIf_wpOpIn {i : Nat} {o : Oper} {v : Value} {a : Act} (hF : ∀ f, F.fn f) (hnd : noDefer ops = true) (hi : ops[i]? = some o) (hy : YieldsIf P ops S o v a)
    {K : Act → World → Prop} {w : World} (hS : S w) (h : K (a.put o.dst v) w) : wpOpIn F n P ops Q i K a w := by
  unfold wpOpIn
  simp only [hi]
  rcases hy with ⟨hw, hv⟩ | ⟨hw, rfl⟩
  · simp only [hw, if_true, Oper.wpIn]
    refine ⟨fun f _ => hF f, ?_⟩
    rw [Oper.semAt_eq _ _ _ (noDefer_spec hnd hi), hv w hS]
    exact h
  · simp only [hw, Bool.false_eq_true, if_false]; exact ⟨fun f _ => hF f, h⟩
/-- whatever order is picked; S holds behind all but z -/
def wpAnyI (F : Fence) (n : Nat) (P : Program) (md : Region.Mode) (ops : Array Oper) (Q : Exit → Act → World → Prop) (S : World → Prop) (z : Nat) : Nat → Array Bool → Act → World → Prop
  | 0, listed, a, w => Region.ready md ops listed = [] ∧ Q .normal a w
  | fuel + 1, listed, a, w => (Region.ready md ops listed = [] → Q .normal a w) ∧
    ∀ i ∈ Region.ready md ops listed, wpOpIn F n P ops Q i (fun a' w' => (i ≠ z → S w') ∧ wpAnyI F n P md ops Q S z fuel (listed.setIfInBounds i true) a' w') a w
theorem wpAnyIn_of_i : ∀ (fuel : Nat) (listed : Array Bool) (a : Act) (w : World), wpAnyI F n P md ops Q S z fuel listed a w → wpAnyIn F n P md ops Q fuel listed a w
  | 0, _, _, _, h => h
  | fuel + 1, _, _, _, h => ⟨h.1, fun i hi => wpOpIn_mono (fun _ _ h' => wpAnyIn_of_i fuel _ _ _ h'.2) (h.2 i hi)⟩
theorem wpAnyI_first {i : Nat} {oi : Oper} {v : Value} (hF : ∀ f, F.fn f) (hnd : noDefer ops = true) (hi : ops[i]? = some oi) (hsel : ∀ (j : Nat) (o : Oper) cs b, ops[j]? = some o → o.op ≠ .select cs b)
    (hQ : ∀ c a w, Q (.panic c) (a.put oi.dst v) w → Q (.panic c) a w) (hz : waitsFor md ops z i = true) : ∀ (fuel : Nat) (listed : Array Bool) (a : Act) (w : World),
      (∀ j oj, ops[j]? = some oj → j ≠ i → listed.getD j true = false → (∀ e ∈ oj.after, Region.binds md e = true → e.on ≠ i) → oi.apart ops oj = true) →
      i ∈ Region.ready md ops listed → YieldsIf P ops S oi v a → S w → wpAnyI F n P md ops Q S z fuel (listed.setIfInBounds i true) (a.put oi.dst v) w → wpAnyI F n P md ops Q S z (fuel + 1) listed a w := by
  intro fuel
  induction fuel with
  | zero =>
    intro listed a w _ hr hy hS H
    refine ⟨fun h => (by rw [h] at hr; cases hr), fun j hj => ?_⟩
    by_cases hji : j = i
    · subst hji
      exact yieldsIf_wpOpIn hF hnd hi hy hS ⟨fun _ => hS, H⟩
    · have h1 := ready_mono hj hji
      rw [H.1] at h1
      cases h1
  | succ fuel ih =>
    intro listed a w hfree hr hy hS H
    refine ⟨fun h => (by rw [h] at hr; cases hr), fun j hj => ?_⟩
    by_cases hji : j = i
    · subst hji
      exact yieldsIf_wpOpIn hF hnd hi hy hS ⟨fun _ => hS, H⟩
    · have hjz := waits_not hz hr hj
      have h1 := H.2 j (ready_mono hj hji)
      obtain ⟨hjun, oj, hoj, hall⟩ := mem_ready.1 hj
      have hnot : ∀ e ∈ oj.after, Region.binds md e = true → e.on ≠ i := fun e he hb heq => by
        have h1 := hall e he hb
        have h0 := (mem_ready.1 hr).1
        rw [heq] at h1
        rcases Nat.lt_or_ge i listed.size with h' | h'
        · simp [h'] at h0 h1; rw [h0] at h1; cases h1
        · simp [Array.getElem?_eq_none h'] at h1
      have h2 := wpOpIn_putIf hF hnd hoj (hfree j oj hoj hji hjun hnot) (fun cs b => hsel i oi cs b hi) (fun cs b => hsel j oj cs b hoj) hQ hy h1
      refine wpOpIn_mono (fun a' w' h3 => ⟨h3.2.1, ih (listed.setIfInBounds j true) a' w' (fun k ok hk hki hun hno => hfree k ok hk hki ?_ hno) (ready_mono hr (Ne.symm hji)) h3.1 (h3.2.1 hjz) ?_⟩) h2
      · by_cases hjk : j = k
        · subst hjk; exact hjun
        · rw [getD_set_ne true hjk] at hun; exact hun
      · rw [Array.setIfInBounds_comm _ _ hji]
        exact h3.2.2
/-- what yields in every world that is held -/
theorem wpAnyI_read {i : Nat} {oi : Oper} (v : Value) {fuel : Nat} {listed : Array Bool} {a : Act} {w : World} (hF : ∀ f, F.fn f) (hnd : noDefer ops = true) (hi : ops[i]? = some oi)
    (hs : Region.noSelect ops = true) (hf : Region.free md ops listed i = true) (hr : (Region.ready md ops listed).contains i = true) (hz : waitsFor md ops z i = true)
    (hQ : ∀ c a w, Q (.panic c) (a.put oi.dst v) w → Q (.panic c) a w) (hw : Region.wanted oi (yielded ops a.tmps) = true) (hS : S w)
    (hy : ∀ w, S w → (execOp a.eval oi).run P w = .ok (.value v) w)
    (h : wpAnyI F n P md ops Q S z fuel (listed.setIfInBounds i true) (a.put oi.dst v) w) : wpAnyI F n P md ops Q S z (fuel + 1) listed a w :=
  wpAnyI_first hF hnd hi (Region.noSelect_spec hs) hQ hz fuel listed a w (Region.free_spec hi hf) (by simpa using hr) (Or.inl ⟨hw, hy⟩) hS h
/-- what is guarded, and not wanted -/
theorem wpAnyI_pass {i : Nat} {oi : Oper} {fuel : Nat} {listed : Array Bool} {a : Act} {w : World} (hF : ∀ f, F.fn f) (hnd : noDefer ops = true) (hi : ops[i]? = some oi)
    (hs : Region.noSelect ops = true) (hf : Region.free md ops listed i = true) (hr : (Region.ready md ops listed).contains i = true) (hz : waitsFor md ops z i = true)
    (hQ : ∀ c a w, Q (.panic c) (a.put oi.dst undef) w → Q (.panic c) a w) (hw : Region.wanted oi (yielded ops a.tmps) = false) (hS : S w)
    (h : wpAnyI F n P md ops Q S z fuel (listed.setIfInBounds i true) (a.put oi.dst undef) w) : wpAnyI F n P md ops Q S z (fuel + 1) listed a w :=
  wpAnyI_first hF hnd hi (Region.noSelect_spec hs) hQ hz fuel listed a w (Region.free_spec hi hf) (by simpa using hr) (Or.inr ⟨hw, rfl⟩) hS h
/-- one alone may come up: a call, a slice that is made -/
theorem wpAnyI_one {i : Nat} {o : Oper} {fuel : Nat} {listed : Array Bool} {a : Act} {w : World} (hr : Region.ready md ops listed = [i]) (ho : ops[i]? = some o) (hw : Region.wanted o (yielded ops a.tmps) = true)
    (h : ∀ K' : Act → World → Prop, Shut (∀ a w, S w → (S w → wpAnyI F n P md ops Q S z fuel (listed.setIfInBounds i true) a w) → K' a w) → Oper.wpIn F n P o a w K' Q) : wpAnyI F n P md ops Q S z (fuel + 1) listed a w :=
  ⟨fun h0 => absurd (hr ▸ h0) (by simp), by
    rw [hr]
    intro j hj
    obtain rfl := List.mem_singleton.1 hj
    exact wpOpIn_step ho fun K' hK => by rw [if_pos hw]; exact h K' fun a w hS hW => hK a w ⟨fun _ => hS, hW hS⟩⟩
/-- z comes up -/
theorem wpAnyI_last {o : Oper} {fuel : Nat} {listed : Array Bool} {a : Act} {w : World} (hr : Region.ready md ops listed = [z]) (ho : ops[z]? = some o) (hw : Region.wanted o (yielded ops a.tmps) = true)
    (h : ∀ K' : Act → World → Prop, Shut (∀ a w, wpAnyI F n P md ops Q S z fuel (listed.setIfInBounds z true) a w → K' a w) → Oper.wpIn F n P o a w K' Q) : wpAnyI F n P md ops Q S z (fuel + 1) listed a w :=
  ⟨fun h0 => absurd (hr ▸ h0) (by simp), by
    rw [hr]
    intro j hj
    obtain rfl := List.mem_singleton.1 hj
    exact wpOpIn_step ho fun K' hK => by rw [if_pos hw]; exact h K' fun a w hW => hK a w ⟨fun e => absurd rfl e, hW⟩⟩
theorem wpAnyI_done {listed : Array Bool} {a : Act} {w : World} (hr : Region.ready md ops listed = []) (h : Q .normal a w) : ∀ fuel, wpAnyI F n P md ops Q S z fuel listed a w
  | 0 => ⟨hr, h⟩
  | _ + 1 => ⟨fun _ => h, by rw [hr]; simp⟩
theorem wpIn_region_i (S : World → Prop) (z : Nat) {id : Nat} {a : Act} {w : World} (hm : P.follows .mixedOrders = true) (hS : S w.drew)
    (h : S w.drew → wpAnyI F n P .any ops Q S z ops.size (Array.replicate ops.size false) a w.drew) : (Code.region id ops true).wpIn F n P Q a w :=
  wpIn_region_any hm (wpAnyIn_of_i _ _ _ _ (h hS))
/-- append whose run is known -/
theorem wpIn_app_run {W W' : World} {o : Oper} {a : Act} {K : Act → World → Prop} (s x : Operand) (t tx : TypeId)
    (ho : o.op = .call { callee := .builtin .append, args := #[s, x], argTypes := #[t, tx] }) {v : Value} (hr : (Builtin.append_ #[t, tx] o.type #[a.eval s, a.eval x]).run P W = .ok v W') (h : K (a.put o.dst v) W') : Oper.wpIn F n P o a W K Q := by
  unfold Oper.wpIn
  refine ⟨?_, ?_⟩
  · simp [Oper.about, ho, resolve, Target.leads, Sem.run_pure]
  · rw [Oper.semAt_plain F _ _ (by rw [ho]; intro c hc'; cases hc')]
    simp [execOp, ho, resolve, invoke, builtin, hr, Result.andThen]
    exact h
end
/-- one element more, that lies in the newest block: as a run -/
theorem run_one_t {P : Program} {W : World} (base : Nat) (t ty e : TypeId) (i : TypeInfo) (z : Value) (size bytes : Nat) (ht : P.underlying t = some (.slice e)) (hi : P.info? e = some i) (hz : i.zero = some z)
    (hsize : i.size = size) (hby : i.bytes = bytes) (hzs : z.cells.size = size) (hsz : 0 < size) (v : Value) (n : Nat) (xs : List Value) (hown : W.ownsRow base e size v n xs)
    (cs : Array Value) (hl : cs.size = size) (h1 : ∀ u ∈ cs.toList, u.oneCell' = true) (hn : n + 1 ≤ 1000000000) (hbs : bytes ≤ 1000) (hbase : base ≤ W.heap.size) :
    ∃ v' w', (Builtin.append_ #[t, t] ty #[v, .slice (some ⟨W.heap.size, 0, none⟩) 1 1]).run P (W.alloc (.cells cs e)) = .ok v' w' ∧ w'.ownsRow base e size v' (n + 1) (xs ++ cs.toList) ∧ Fr (fun k => v.ownBlock = some k) W w' ∧ (∀ k, v'.ownBlock = some k → v.ownBlock = some k ∨ W.heap.size ≤ k) := by
  have hnb : (n + 1) * bytes ≤ 140737488355328 := Nat.le_trans (Nat.mul_le_mul hn hbs) (by decide)
  have h63 : n + 1 ≤ maxLen := by unfold maxLen; omega
  have hx : (hown.alloc (.cells cs e)) = hown.alloc (.cells cs e) := rfl
  have hl1 : cs.toList.length = 1 * size := by simpa using hl
  obtain ⟨v', w', hr, h2, h3, h4⟩ := run_append_own (P := P) (W.alloc (.cells cs e)) base t ty e i z size bytes ht hi hz hsize hby hzs hsz v n xs (hown.alloc _) ⟨W.heap.size, 0, none⟩ 1 1 cs.toList hl1 (cells_new W cs e) h1 h63 hnb (by simp; omega)
  have htie := run_append_tie (W.alloc (.cells cs e)) base t ty e i z size bytes ht hi hz hsize hby v n xs (hown.alloc _) ⟨W.heap.size, 0, none⟩ 1 1 cs.toList hl1 (cells_new W cs e) h1 h63 hnb hr
  refine ⟨v', w', hr, h2, (((Fr.refl _ W).alloc _).grown h3 fun k hk => .inr hk), fun k hk => (htie k hk).imp id fun e => by simp at e; omega⟩
end Go.Proofs.YtpbobonddocgkaaGreatDoor
end
section
/- Layer 23: tellWatchers. -/
namespace Go.Proofs.YtpbobonddocgkaaGreatDoor
open Go Go.RowKit Go.Maps Go.Lib Go.Sort Go.Shelf
attribute [local go_sem] Oper.semAt_some

theorem mx_same {w W : World} (h : Mx w) (hb : W.heap[2]? = w.heap[2]?) : Mx W := by
  obtain ⟨m, hm⟩ := h
  exact ⟨m, (World.cell?_of_block (w := w) (w' := W) (a := ⟨2, 0, none⟩) hb).trans hm⟩
theorem mx_lt {w : World} (h : Mx w) : 2 < w.heap.size := by
  obtain ⟨m, hm⟩ := h
  exact World.block_lt_of_cell? _ _ hm
/-- what is laid, as far as a server asks for it -/
def Glob23 (w : World) : Prop := Rowed w ∧ Mx w ∧ PowW w
theorem Glob23.below {w W : World} (h : Glob23 w) (hb : RowKit.Below w.heap.size w W) : Glob23 W := ⟨rowed_below h.1 (Nat.le_refl _) hb, mx_same h.2.1 (hb.block _ (mx_lt h.2.1)), h.2.2.below hb⟩
/-- .. below a base -/
def GlobB (base : Nat) (w : World) : Prop := ∃ w0, Glob23 w0 ∧ w0.heap.size ≤ base ∧ RowKit.Below base w0 w
theorem GlobB.glob {base : Nat} {w : World} (h : GlobB base w) : Glob23 w := by
  obtain ⟨w0, h1, h2, h3⟩ := h
  exact h1.below (h3.mono h2)
theorem GlobB.onto {base : Nat} {w w1 : World} (h : GlobB base w) (hb : RowKit.Below base w w1) : GlobB base w1 := by
  obtain ⟨w0, h1, h2, h3⟩ := h
  exact ⟨w0, h1, h2, h3.trans hb⟩
section
variable {base : Nat} {w w' : World} {G : CoG} {C : Nat → CTag} {K : List (Int × CE)} {T : List (KeyB × Ent VI)} {n : Nat}
/-- whom it was told -/
def KE (K : List (Int × CE)) (E : List Int) (i : Int) (e : CE) (line : List UInt8) (ob : Option Nat) : List (Int × CE) := if E = [] then K else updM K i (pushed e line ob)
theorem KE_nil (K : List (Int × CE)) (i : Int) (e : CE) (line : List UInt8) (ob : Option Nat) : KE K [] i e line ob = K := if_pos rfl
theorem KE_cons (K : List (Int × CE)) (x : Int) (E : List Int) (i : Int) (e : CE) (line : List UInt8) (ob : Option Nat) : KE K (x :: E) i e line ob = updM K i (pushed e line ob) := if_neg (by simp)
/-- the boxes, and the server's name -/
def TwS (N c : Nat) (code : Nat) (m cc : Nat) (A : Option Addr) (W : World) : Prop := W.cell? ⟨N, 0, none⟩ = some (.pointer (some ⟨c, 0, none⟩)) ∧ W.cell? ⟨N + 1, 0, none⟩ = some (.int .i64 code) ∧ W.cell? ⟨N + 2, 0, none⟩ = some (.slice A m cc) ∧ W.cell? ⟨c, 0, none⟩ = some (.string (bs nameL))
/-- a sign's nickname -/
theorem field_nick (n u : ByteArray) (d : Bool) (w : World) : (Instr.field 34 (.agg #[.int .i64 0, .bool false, .string ⟨#[]⟩, .string n, .string u, .string ⟨#[]⟩, .bool d]) 3).run Tryz.prog w = .ok (.string n) w := by kernel_rfl
/-- how far it has come -/
def TwJ (base : Nat) (G : CoG) (C : Nat → CTag) (S0 : Nat) (K : List (Int × CE)) (T : List (KeyB × Ent VI)) (n : Nat) (i : Int) (e : CE) (line : List UInt8) (pre : List Int) (X : Nat → Prop) (W : World) : Prop :=
  ∃ C' ob, (∀ k, k < S0 → C' k = C k) ∧ CoAt base G C' (KE K pre i e line ob) T n W ∧ ∀ k, X k ↔ C' k ≠ ctag0
theorem twJ_stays (base : Nat) (G : CoG) (C : Nat → CTag) (S0 : Nat) (K : List (Int × CE)) (T : List (KeyB × Ent VI)) (n : Nat) (i : Int) (e : CE) (line : List UInt8) : Stays (TwJ base G C S0 K T n i e line) := fun pre X V V' ⟨C', ob, h1, h2, h3⟩ hl hf =>
  ⟨C', ob, h1, h2.fr hf fun k hk e => e ((h3 k).2 hk), h3⟩
theorem readsT_fr {w W : World} {A : Option Addr} {xs : List (List UInt8)} (h : ReadsT w A xs) {X : Nat → Prop} (hf : Fr X w W) (hA : ∀ g o, A = some ⟨g, o, none⟩ → ¬ X g) : ReadsT W A xs := fun h0 => by
  obtain ⟨g, o, he, h1, h2⟩ := h h0
  exact ⟨g, o, he, Nat.lt_of_lt_of_le h1 hf.size, fun j hj => (hf.cell h1 (hA g o he)).trans (h2 j hj)⟩
theorem reads_one {W : World} {B : Nat} {x : List UInt8} {T : TypeId} (h : W.heap[B]? = some (.cells #[.string (bs x)] T (0, 0))) : ReadsT W (some ⟨B, 0, none⟩) [x] := fun _ =>
  ⟨B, 0, rfl, blk_lt h, fun j hj => by
    obtain rfl : j = 0 := by simp at hj; exact hj
    exact blk_cell h 0⟩
set_option maxRecDepth 100000 in
set_option maxHeartbeats 16000000 in
theorem tellW (h : CoAt base G C K T n w) (hg : GlobB base w) {l0 : Nat} {nm : List UInt8} {E : List Int} (hBy : ∀ V, RowKit.Below w.heap.size w V → Calls Tryz.prog 77 #[.pointer (some ⟨l0, 0, none⟩), .string (bs nm)] V (AllP E V))
    {i : Int} {e : CE} {code : Nat} {ps : List (List UInt8)} {A : Option Addr} {cc : Nat} (hE : E = [] ∨ E = [i]) (hi : E = [i] → lookM K i = some e ∧ Takes e.s (numL nameL e.nick code ps) ∧ e.nick.length ≤ 1000)
    (hA : ReadsT w A ps) (hAc : ∀ g o, A = some ⟨g, o, none⟩ → C g = ctag0) (h0 : 1 ≤ code) (h1 : code ≤ 999) (h2 : ps.length ≤ 14) (h5 : ∀ p ∈ ps, p.length ≤ 90000) :
    Calls Tryz.prog 59 #[.pointer (some ⟨G.c, 0, none⟩), .pointer (some ⟨l0, 0, none⟩), .string (bs nm), .int .i64 code, .slice A ps.length cc] w fun r w' => r = .returned (.tuple #[]) ∧ ∃ ob, CoTo base G C (KE K E i e (numL nameL e.nick code ps) ob) T n w w' := by
  obtain ⟨line, hline⟩ : ∃ line, numL nameL e.nick code ps = line := ⟨_, rfl⟩
  have hEl : E.length ≤ 1 := by rcases hE with rfl | rfl <;> simp
  obtain ⟨N, hN⟩ : ∃ N, w.heap.size = N := ⟨_, rfl⟩
  obtain ⟨m, hm⟩ : ∃ m, ps.length = m := ⟨_, rfl⟩
  rw [hm]
  obtain ⟨w1, hw1⟩ : ∃ w1, ((w.alloc (Obj.cells #[.pointer (some ⟨G.c, 0, none⟩)] 24)).alloc (Obj.cells #[Value.int .i64 code] 3)).alloc (Obj.cells #[.slice A m cc] 89) = w1 := ⟨_, rfl⟩
  have z1 : w1.heap.size = N + 3 := by rw [← hw1, ← hN]; simp
  have f1 : Fr (fun _ => False) w w1 := by rw [← hw1]; exact (((Fr.refl _ w).alloc _).alloc _).alloc _
  have k0 : w1.heap[N]? = some (.cells #[.pointer (some ⟨G.c, 0, none⟩)] 24 (0, 0)) := by rw [← hw1, ← hN]; exact blk_alloc (blk_alloc (heap_alloc_new w _) _) _
  have k1 : w1.heap[N + 1]? = some (.cells #[.int .i64 code] 3 (0, 0)) := by rw [← hw1, ← hN]; exact blk_alloc (heap_alloc2_new w _ _) _
  have k2 : w1.heap[N + 2]? = some (.cells #[.slice A m cc] 89 (0, 0)) := by
    rw [← hw1, ← hN]
    have := heap_alloc2_new (w.alloc (Obj.cells #[.pointer (some ⟨G.c, 0, none⟩)] 24)) (Obj.cells #[Value.int .i64 code] 3) (Obj.cells #[.slice A m cc] 89)
    rwa [World.size_alloc] at this
  have h1' := h.fr f1 fun _ _ e => e
  have hC : ∀ k, N ≤ k → C k = ctag0 := fun k hk => h.cN k (by omega)
  have hbN : base ≤ N := by have := h.base_le; omega
  have hg1 : GlobB base w1 := hg.onto (f1.below h.base_le fun _ _ e => e.elim)
  have hA1 : ReadsT w1 A ps := readsT_fr hA f1 fun _ _ _ e => e
  have HA := Lib.hid (hBy w1 (f1.below (Nat.le_refl _) fun _ _ e => e.elim))
  have H := Lib.hid (And.intro f1 (And.intro k0 (And.intro k1 (And.intro k2 (And.intro z1 (And.intro h1' (And.intro hC (And.intro hbN (And.intro hg1 (And.intro hA1 (And.intro hAc (And.intro hi (And.intro hE (And.intro h5 (And.intro hm hline)))))))))))))))
  have HW := Lib.hid (And.intro hN hw1)
  have HC := Lib.hid (And.intro h0 (And.intro h1 h2))
  have HEl := Lib.hid hEl
  rw [hline]
  clear h hg hBy hi hA hAc h5 f1 k0 k1 k2 z1 h1' hC hbN hg1 hA1 hw1 hline hE hEl hm h0 h1 h2 hN
  refine (callsIn_wide (n := 30)).1 ?_
  refine callsIn_of_wp_marks Tryz.func59 rfl trivial ?_ rfl
  simp only [Tryz.ntmps59, List.size_toArray, List.length_cons, List.length_nil, Nat.reduceAdd, Nat.reduceSub, Array.replicate_succ, Array.replicate_zero, List.push_toArray, List.append_toArray, List.nil_append, List.cons_append]
  gi_wp2_with fail
  rw [HW.out.2, HW.out.1]
  refine ⟨trivial, (calls_wide (.inl rfl) HA.out).mono ?_⟩
  rintro r w2 ⟨⟨F, rfl, hT⟩, hb2⟩
  clear HA
  obtain ⟨f1, k0, k1, k2, z1, hc1, hC, hbN, hg1, hA1, hAc, hi, hE, h5, hm, hline⟩ := H.out
  have hEl := HEl.out
  have f2 : Fr (fun _ => False) w1 w2 := Fr.of_below hb2
  have z2 : w1.heap.size ≤ w2.heap.size := hb2.size
  obtain ⟨Y, hYb, gf, lb, rfl, hseq, hYl, heg⟩ := tellsI_tale (show TaleAt w1.heap.size w2 F E from hT) (by omega)
  have q0 := f2.blk k0 fun e => e
  have q1 := f2.blk k1 fun e => e
  have q2 := f2.blk k2 fun e => e
  have hc2 := hc1.fr f2 fun _ _ e => e
  have hg2 : GlobB base w2 := hg1.onto (f2.below (by omega) fun _ _ e => e.elim)
  have hA2 : ReadsT w2 A ps := readsT_fr hA1 f2 fun _ _ _ e => e
  have hY3 : ∀ k, Y k → N + 3 ≤ k := fun k hk => by have := hYb k hk; omega
  have hXs : ∀ k, C k ≠ ctag0 → k < N := fun k hk => Nat.lt_of_not_le fun e2 => hk (hC k e2)
  have hNS : N + 3 ≤ w2.heap.size := by omega
  have KH := Lib.hid (And.intro f2 (And.intro q0 (And.intro q1 (And.intro q2 (And.intro hc2 (And.intro hg2 (And.intro hA2 (And.intro hNS (And.intro hY3 hXs)))))))))
  clear f1 k0 k1 k2 z1 hc1 hg1 hA1 hi hE h5 hT hb2 f2 z2 hg2 hA2 hm hline hAc
  gi_wp2_with fail
  refine wpIn_rangeF (X := fun k => C k ≠ ctag0) (Y := Y) (xs := E) (encs := encI) (gf := gf) (lb := lb) (TwJ base G C w2.heap.size K T n i e line) (fun _ _ _ _ => False)
    rfl hseq (fun k hk => ⟨by have := hXs k hk; omega, fun e => by have := hY3 k e; have := hXs k hk; omega⟩) hYl (by omega) heg (fun _ => rfl)
    (twJ_stays _ _ _ _ _ _ _ _ _ _) (fun c s X1 V1 V2 h => h.elim) ⟨C, none, fun _ _ => rfl, by rw [KE_nil]; exact hc2, fun k => Iff.rfl⟩ ?round ?done (fun _ _ _ _ _ _ _ _ _ _ _ h => h.elim)
  case round =>
    rintro l pre x r X1 V KK rb hl2 hpx hI hG2 hxl3 hF hlV hK
    dsimp only [encI]
    have HK := Lib.hid hK
    have HV := Lib.hid (And.intro hpx (And.intro hI (And.intro hG2 (And.intro hxl3 (And.intro hF (And.intro hlV hl2))))))
    clear hK hpx hI hG2 hxl3 hF hlV hl2 hC hseq hYl heg hYb q0 q1 q2 hc2 hY3 hXs hNS hEl hbN
    gi_wp2_with fail
    refine HK.out _ _ (Fr.refl _ _) fun Vb hfb hzb hsb hrb => ?_
    clear HK KK
    obtain ⟨hpx, ⟨C', ob0, hc, hr, hX1⟩, hG2, hxl3, hF, hlV, hl2⟩ := HV.out
    obtain ⟨f1, k0, k1, k2, z1, hc1, hC, hbN, hg1, hA1, hAc, hi, hE, h5, hm, hline⟩ := H.out
    obtain ⟨f2, q0, q1, q2, hc2, hg2, hA2, hNS, hY3, hXs⟩ := KH.out
    obtain ⟨g0, g1, g2⟩ := HC.out
    have hEi : E = [i] := by
      rcases hE with e1 | e1
      · rw [e1] at hpx; simp at hpx
      · exact e1
    have hpre : pre = [] ∧ x = i := by
      rw [hEi] at hpx
      rcases pre with _ | ⟨a, b⟩
      · simp at hpx; exact ⟨rfl, hpx.1⟩
      · simp at hpx
    obtain ⟨rfl, rfl⟩ := hpre
    rw [KE_nil] at hr
    obtain ⟨hl, htk, hnk⟩ := hi hEi
    have hlX : ∀ k, X1 k → k ≠ l := fun k hk e => hxl3 (e ▸ hk)
    have hX0 : ∀ k, C k ≠ ctag0 → k ≠ N ∧ k ≠ N + 1 ∧ k ≠ N + 2 := fun k hk => by have := hXs k hk; omega
    have hfV := hF.trans3 (hfb.mono (Y := fun k => k = l) fun _ _ e => e) (c := Vb) (X := fun k => C k ≠ ctag0) (fun k hk e => by omega)
    have v0 := hfV.blk q0 fun e => (hX0 _ e).1 rfl
    have v1 := hfV.blk q1 fun e => (hX0 _ e).2.1 rfl
    have v2 := hfV.blk q2 fun e => (hX0 _ e).2.2 rfl
    have hrb2 := hr.fr hfb fun k hk => hlX k ((hX1 k).2 hk)
    have hgV : GlobB base Vb := hg2.onto (hfV.below (by have := hc2.base_le; omega) fun k _ e => (hc2.lt e).1)
    have hAV : ReadsT Vb A ps := readsT_fr hA2 hfV fun g o hgo e => e (hAc g o hgo)
    have hFz := hF.size
    have hbz : Vb.heap.size = V.heap.size := hzb
    have HBV : Hid (∀ W, Fr (fun _ => False) Vb W → TwS N G.c code m cc A W) := Lib.hid (fun W (hW : Fr (fun _ => False) Vb W) => (And.intro (blk_cell (hW.blk v0 fun e => e) 0) (And.intro (blk_cell (hW.blk v1 fun e => e) 0) (And.intro (blk_cell (hW.blk v2 fun e => e) 0) (show W.cell? ⟨G.c, 0, none⟩ = some (.string (bs nameL)) from (hrb2.fr hW fun _ _ e => e).cell 0)))))
    have HSg := Lib.hid (fun W (hW : Fr (fun _ => False) Vb W) => by have := sign_some (hrb2.fr hW fun _ _ e => e) hl; unfold signV at this; exact this)
    have HNu : Hid (∀ W, Fr (fun _ => False) Vb W → Calls Tryz.prog 78 #[.string (bs nameL), .int .i64 code, .string (bs e.nick), .slice A m cc] W fun r w' => r = .returned (.string (bs line)) ∧ Below W.heap.size W w') := fun W hW => by
      have hg9 := (hgV.onto (hW.below (by have := hrb2.base_le; omega) fun _ _ e => e.elim)).glob
      have := numericM nameL e.nick code A cc ps W (readsT_fr hAV hW fun _ _ _ e => e) hg9.2.1 hg9.2.2 g0 g1 g2 (by decide) (by omega) h5
      rw [hm, hline] at this
      exact this
    have HTe : Hid (∀ W, Fr (fun _ => False) Vb W → Calls Tryz.prog 15 #[.pointer (some ⟨G.c, 0, none⟩), .int .i64 x, .slice (some ⟨W.heap.size, 0, none⟩) 1 1] (W.alloc (Obj.cells #[.string (bs line)] 9)) fun r w' => r = .returned (.tuple #[]) ∧ ∃ ob, CoTo base G C' (updM K x (pushed e line ob)) T n Vb w') := fun W hW => by
      have hW2 : Fr (fun _ => False) Vb (W.alloc (Obj.cells #[.string (bs line)] 9)) := hW.alloc _
      have hr2 := hrb2.fr hW2 fun _ _ e => e
      refine (tell_one hr2 hl (line := line) (A := some ⟨W.heap.size, 0, none⟩) (reads_one (heap_alloc_new W _)) (by rw [← hline]; exact htk)).mono ?_
      rintro r w' ⟨rfl, ob, hto⟩
      exact ⟨rfl, ob, CoTo.trans ⟨fun _ _ => rfl, hW2.mono fun _ _ e => e.elim⟩ hto⟩
    have hCN : C' N = ctag0 ∧ C' (N + 1) = ctag0 ∧ C' (N + 2) = ctag0 := by
      refine ⟨?_, ?_, ?_⟩ <;> rw [hc _ (by omega)] <;> exact hC _ (by omega)
    have HB6 : Hid (∀ ob W, CoTo base G C' (updM K x (pushed e line ob)) T n Vb W → W.cell? ⟨N, 0, none⟩ = some (.pointer (some ⟨G.c, 0, none⟩)) ∧ W.cell? ⟨N + 1, 0, none⟩ = some (.int .i64 code) ∧ W.cell? ⟨N + 2, 0, none⟩ = some (.slice A m cc) ∧ W.cell? ⟨G.c, 0, none⟩ = some (.string (bs nameL))) := fun ob W ⟨C6, h6, o6⟩ =>
      ⟨blk_cell (o6.2.blk v0 (by rw [hCN.1]; simp)) 0, blk_cell (o6.2.blk v1 (by rw [hCN.2.1]; simp)) 0, blk_cell (o6.2.blk v2 (by rw [hCN.2.2]; simp)) 0, h6.cell 0⟩
    have HU := Lib.hid (And.intro hfb (And.intro hzb (And.intro hrb (And.intro hc (And.intro hX1 (And.intro hrb2 (And.intro hG2 (And.intro hxl3 (And.intro hlV (And.intro hF hEi))))))))))
    clear hpx hc hr hX1 hG2 hxl3 hF hlV hl2 f1 k0 k1 k2 z1 hc1 hC hbN hg1 hA1 hAc hi hE h5 hm hline f2 q0 q1 q2 hc2 hg2 hA2 hNS hY3 hXs g0 g1 g2 hl htk hnk hlX hX0 hfV v0 v1 v2 hrb2 hgV hAV hFz hbz hfb hzb hsb hrb hEi hCN
    gi_wp2_with fail
    refine wpIn_region_i (S := TwS N G.c code m cc A) 16 (by kernel_rfl) (by exact HBV.out _ (Fr.refl _ Vb).drew) (fun hHeld => ?_)
    refine wpAnyI_read (i := 1) (oi := { dst := some 16, op := Go.Op.move (Go.Operand.tmp 10), type := 3, pos := "tell.go:55", after := #[], guard := none }) ?_ (fun _ => trivial) (by kernel_rfl) rfl (by kernel_rfl) (by kernel_rfl) (by kernel_rfl) (by kernel_rfl) (fun _ _ _ h => h) (by rfl) (by assumption) ?_ ?_
    rotate_left
    · (intro w0 hS0; go_simp <;> (try with_reducible rfl))
    try simp only [Act.put, List.setIfInBounds_toArray, List.set_cons_zero, List.set_cons_succ]
    refine wpAnyI_read (i := 9) (oi := { dst := some 24, op := Go.Op.move (Go.Operand.tmp 10), type := 3, pos := "tell.go:55", after := #[], guard := none }) ?_ (fun _ => trivial) (by kernel_rfl) rfl (by kernel_rfl) (by kernel_rfl) (by kernel_rfl) (by kernel_rfl) (fun _ _ _ h => h) (by rfl) (by assumption) ?_ ?_
    rotate_left
    · (intro w0 hS0; go_simp <;> (try with_reducible rfl))
    try simp only [Act.put, List.setIfInBounds_toArray, List.set_cons_zero, List.set_cons_succ]
    refine wpAnyI_read (i := 0) (oi := { dst := some 15, op := Go.Op.load 24 (Go.Operand.tmp 5), type := 24, pos := "tell.go:55", after := #[], guard := none }) ?_ (fun _ => trivial) (by kernel_rfl) rfl (by kernel_rfl) (by kernel_rfl) (by kernel_rfl) (by kernel_rfl) (fun _ _ _ h => h) (by rfl) (by assumption) ?_ ?_
    rotate_left
    · (intro w0 hS0; obtain ⟨s0, s1, s2, s3⟩ := hS0; (try clear hHeld); go_simp <;> (try with_reducible rfl))
    try simp only [Act.put, List.setIfInBounds_toArray, List.set_cons_zero, List.set_cons_succ]
    refine wpAnyI_read (i := 2) (oi := { dst := some 17, op := Go.Op.load 24 (Go.Operand.tmp 5), type := 24, pos := "tell.go:55", after := #[], guard := none }) ?_ (fun _ => trivial) (by kernel_rfl) rfl (by kernel_rfl) (by kernel_rfl) (by kernel_rfl) (by kernel_rfl) (fun _ _ _ h => h) (by rfl) (by assumption) ?_ ?_
    rotate_left
    · (intro w0 hS0; obtain ⟨s0, s1, s2, s3⟩ := hS0; (try clear hHeld); go_simp <;> (try with_reducible rfl))
    try simp only [Act.put, List.setIfInBounds_toArray, List.set_cons_zero, List.set_cons_succ]
    refine wpAnyI_read (i := 3) (oi := { dst := some 18, op := Go.Op.nilCheck (Go.Operand.tmp 17), type := 0, pos := "tell.go:55", after := #[{ on := 2, ground := Go.Ground.data }], guard := none }) ?_ (fun _ => trivial) (by kernel_rfl) rfl (by kernel_rfl) (by kernel_rfl) (by kernel_rfl) (by kernel_rfl) (fun _ _ _ h => h) (by rfl) (by assumption) ?_ ?_
    rotate_left
    · (intro w0 hS0; go_simp <;> (try with_reducible rfl))
    try simp only [Act.put, List.setIfInBounds_toArray, List.set_cons_zero, List.set_cons_succ]
    refine wpAnyI_read (i := 4) (oi := { dst := some 19, op := Go.Op.fieldAddr 55 (Go.Operand.tmp 18) 0, type := 0, pos := "tell.go:55", after := #[{ on := 3, ground := Go.Ground.data }], guard := none }) ?_ (fun _ => trivial) (by kernel_rfl) rfl (by kernel_rfl) (by kernel_rfl) (by kernel_rfl) (by kernel_rfl) (fun _ _ _ h => h) (by rfl) (by assumption) ?_ ?_
    rotate_left
    · (intro w0 hS0; go_simp <;> (try with_reducible rfl))
    try simp only [Act.put, List.setIfInBounds_toArray, List.set_cons_zero, List.set_cons_succ]
    refine wpAnyI_read (i := 5) (oi := { dst := some 20, op := Go.Op.fieldAddr 29 (Go.Operand.tmp 19) 0, type := 0, pos := "tell.go:55", after := #[{ on := 4, ground := Go.Ground.data }], guard := none }) ?_ (fun _ => trivial) (by kernel_rfl) rfl (by kernel_rfl) (by kernel_rfl) (by kernel_rfl) (by kernel_rfl) (fun _ _ _ h => h) (by rfl) (by assumption) ?_ ?_
    rotate_left
    · (intro w0 hS0; go_simp <;> (try with_reducible rfl))
    try simp only [Act.put, List.setIfInBounds_toArray, List.set_cons_zero, List.set_cons_succ]
    refine wpAnyI_read (i := 6) (oi := { dst := some 21, op := Go.Op.load 9 (Go.Operand.tmp 20), type := 9, pos := "tell.go:55", after := #[{ on := 5, ground := Go.Ground.data }], guard := none }) ?_ (fun _ => trivial) (by kernel_rfl) rfl (by kernel_rfl) (by kernel_rfl) (by kernel_rfl) (by kernel_rfl) (fun _ _ _ h => h) (by rfl) (by assumption) ?_ ?_
    rotate_left
    · (intro w0 hS0; obtain ⟨s0, s1, s2, s3⟩ := hS0; (try clear hHeld); go_simp <;> (try with_reducible rfl))
    try simp only [Act.put, List.setIfInBounds_toArray, List.set_cons_zero, List.set_cons_succ]
    refine wpAnyI_read (i := 7) (oi := { dst := some 22, op := Go.Op.load 3 (Go.Operand.tmp 8), type := 3, pos := "tell.go:55", after := #[], guard := none }) ?_ (fun _ => trivial) (by kernel_rfl) rfl (by kernel_rfl) (by kernel_rfl) (by kernel_rfl) (by kernel_rfl) (fun _ _ _ h => h) (by rfl) (by assumption) ?_ ?_
    rotate_left
    · (intro w0 hS0; obtain ⟨s0, s1, s2, s3⟩ := hS0; (try clear hHeld); go_simp <;> (try with_reducible rfl))
    try simp only [Act.put, List.setIfInBounds_toArray, List.set_cons_zero, List.set_cons_succ]
    refine wpAnyI_read (i := 8) (oi := { dst := some 23, op := Go.Op.load 24 (Go.Operand.tmp 5), type := 24, pos := "tell.go:55", after := #[], guard := none }) ?_ (fun _ => trivial) (by kernel_rfl) rfl (by kernel_rfl) (by kernel_rfl) (by kernel_rfl) (by kernel_rfl) (fun _ _ _ h => h) (by rfl) (by assumption) ?_ ?_
    rotate_left
    · (intro w0 hS0; obtain ⟨s0, s1, s2, s3⟩ := hS0; (try clear hHeld); go_simp <;> (try with_reducible rfl))
    try simp only [Act.put, List.setIfInBounds_toArray, List.set_cons_zero, List.set_cons_succ]
    refine wpAnyI_read (i := 12) (oi := { dst := some 27, op := Go.Op.load 89 (Go.Operand.tmp 9), type := 89, pos := "tell.go:55", after := #[], guard := none }) ?_ (fun _ => trivial) (by kernel_rfl) rfl (by kernel_rfl) (by kernel_rfl) (by kernel_rfl) (by kernel_rfl) (fun _ _ _ h => h) (by rfl) (by assumption) ?_ ?_
    rotate_left
    · (intro w0 hS0; obtain ⟨s0, s1, s2, s3⟩ := hS0; (try clear hHeld); go_simp <;> (try with_reducible rfl))
    try simp only [Act.put, List.setIfInBounds_toArray, List.set_cons_zero, List.set_cons_succ]
    refine wpAnyI_one (i := 10) (o := { dst := some 25, op := Go.Op.call { callee := Go.Callee.value (Go.Operand.func 79), args := #[Go.Operand.tmp 23, Go.Operand.tmp 24], argTypes := #[24, 3] }, type := 34, pos := "tell.go:55", after := #[{ on := 8, ground := Go.Ground.data }, { on := 9, ground := Go.Ground.data }], guard := none }) (by kernel_rfl) rfl (by rfl) (fun K hK => ?_)
    go_simp
    refine ⟨trivial, (calls_wide (.inr ⟨l, rfl⟩) (HSg.out _ (Fr.refl _ Vb).drew)).mono ?_⟩
    rintro r1 Wa ⟨rfl, ba⟩
    have HA : Hid (Fr (fun _ => False) Vb Wa) := (Fr.refl (fun _ => False) Vb).drew.trans (Fr.of_below ba)
    clear ba
    gi_wp2_with fail
    refine hK.out _ _ ?_ (fun hHeld => ?_)
    · exact HBV.out _ HA.out
    clear hK K
    try simp only [Act.put, List.setIfInBounds_toArray, List.set_cons_zero, List.set_cons_succ]
    refine wpAnyI_read (i := 11) (oi := { dst := some 26, op := Go.Op.field 34 (Go.Operand.tmp 25) 3, type := 9, pos := "tell.go:55", after := #[{ on := 10, ground := Go.Ground.data }], guard := none }) ?_ (fun _ => trivial) (by kernel_rfl) rfl (by kernel_rfl) (by kernel_rfl) (by kernel_rfl) (by kernel_rfl) (fun _ _ _ h => h) (by rfl) (by assumption) ?_ ?_
    rotate_left
    · (intro w0 hS0; have hfn := field_nick (bs e.nick) (bs e.user) e.done w0; go_simp <;> (try with_reducible rfl))
    try simp only [Act.put, List.setIfInBounds_toArray, List.set_cons_zero, List.set_cons_succ]
    refine wpAnyI_one (i := 13) (o := { dst := some 28, op := Go.Op.call { callee := Go.Callee.value (Go.Operand.func 78), args := #[Go.Operand.tmp 21, Go.Operand.tmp 22, Go.Operand.tmp 26, Go.Operand.tmp 27], argTypes := #[9, 3, 9, 89] }, type := 9, pos := "tell.go:55", after := #[{ on := 6, ground := Go.Ground.data }, { on := 7, ground := Go.Ground.data }, { on := 11, ground := Go.Ground.data }, { on := 12, ground := Go.Ground.data }, { on := 10, ground := Go.Ground.chain }], guard := none }) (by kernel_rfl) rfl (by rfl) (fun K hK => ?_)
    go_simp
    refine ⟨trivial, (calls_wide (.inr ⟨l, rfl⟩) (HNu.out _ HA.out)).mono ?_⟩
    rintro r1 Wb ⟨rfl, bb⟩
    have HB : Hid (Fr (fun _ => False) Vb Wb) := HA.out.trans (Fr.of_below bb)
    clear bb
    gi_wp2_with fail
    refine hK.out _ _ ?_ (fun hHeld => ?_)
    · exact HBV.out _ HB.out
    clear hK K
    try simp only [Act.put, List.setIfInBounds_toArray, List.set_cons_zero, List.set_cons_succ]
    refine wpAnyI_one (i := 14) (o := { dst := some 29, op := Go.Op.buildSlice 89 1 #[(0, Go.Operand.tmp 28)], type := 89, pos := "tell.go:55", after := #[{ on := 13, ground := Go.Ground.data }], guard := none }) (by kernel_rfl) rfl (by rfl) (fun K hK => ?_)
    go_simp
    refine hK.out _ _ ?_ (fun hHeld => ?_)
    · exact HBV.out _ (HB.out.alloc _)
    clear hK K
    try simp only [Act.put, List.setIfInBounds_toArray, List.set_cons_zero, List.set_cons_succ]
    refine wpAnyI_one (i := 15) (o := { dst := some 30, op := Go.Op.call { callee := Go.Callee.value (Go.Operand.func 15), args := #[Go.Operand.tmp 15, Go.Operand.tmp 16, Go.Operand.tmp 29], argTypes := #[24, 3, 89] }, type := 0, pos := "tell.go:55", after := #[{ on := 0, ground := Go.Ground.data }, { on := 1, ground := Go.Ground.data }, { on := 14, ground := Go.Ground.data }, { on := 13, ground := Go.Ground.chain }], guard := none }) (by kernel_rfl) rfl (by rfl) (fun K hK => ?_)
    go_simp
    refine ⟨trivial, (calls_wide (.inr ⟨l, rfl⟩) (HTe.out _ HB.out)).mono ?_⟩
    rintro r1 W6 ⟨rfl, ob, hto⟩
    have HS6 := Lib.hid (HB6.out _ _ hto)
    have HTo := Lib.hid hto
    clear hto
    gi_wp2_with fail
    refine hK.out _ _ ?_ (fun hHeld => ?_)
    · exact HS6.out
    clear hK K
    try simp only [Act.put, List.setIfInBounds_toArray, List.set_cons_zero, List.set_cons_succ]
    refine wpAnyI_done (by kernel_rfl) ?_ _
    obtain ⟨hfb, hzb, hrb, hc, hX1, hrb2, hG2, hxl3, hlV, hF, hEi⟩ := HU.out
    obtain ⟨f2, q0, q1, q2, hc2, hg2, hA2, hNS, hY3, hXs⟩ := KH.out
    obtain ⟨C6, h6, o6⟩ := HTo.out
    have hCl : C' l = ctag0 := Decidable.byContradiction fun e => hxl3 ((hX1 l).2 e)
    have hFz := hF.size
    have hbz : Vb.heap.size = V.heap.size := hzb
    have url := o6.2.blk hrb (by rw [hCl]; simp)
    gi_wp2_with fail
    refine ⟨fun k => C6 k ≠ ctag0, fun k hk => ⟨(h6.lt hk).2, fun hlt => ?_⟩, (hfb.mono (Y := fun k => k = l ∨ X1 k) fun k _ e => .inl e).trans3 o6.2 fun k _ e => .inr ((hX1 k).2 e), url, C6, ob, fun k hk => ?_, ?_, fun k => Iff.rfl⟩
    · exact (hX1 k).2 (by have hk : C6 k ≠ ctag0 := hk; rw [o6.1 k (by omega)] at hk; exact hk)
    · rw [o6.1 k (by omega), hc k hk]
    · rw [List.nil_append, KE_cons]; exact h6
  case done =>
    rintro D X2 V hD hxD hG2 hF ⟨C', ob, hc, hr, hX2⟩ hdef
    have HQ := Lib.hid (And.intro hD (And.intro hxD (And.intro hG2 (And.intro hF (And.intro hr (And.intro hc (And.intro hX2 hdef)))))))
    clear hD hxD hG2 hF hr hc hX2 hdef hC hseq hYl heg hYb q0 q1 q2 hc2 hY3 hXs hNS hEl hbN
    gi_wp2_with fail
    obtain ⟨hD, hxD, hG2, hF, hr, hc, hX2, hdef⟩ := HQ.out
    obtain ⟨f1, k0, k1, k2, z1, hc1, hC, hbN, hg1, hA1, hAc, hi, hE, h5, hm, hline⟩ := H.out
    obtain ⟨f2, q0, q1, q2, hc2, hg2, hA2, hNS, hY3, hXs⟩ := KH.out
    have hB := HW.out.1
    refine leaves_one D _ hdef fun w' hf => ⟨_, results_none rfl _ _ _, rfl, ob, C', hr.fr hf fun k hk e => hxD ((hX2 D).2 (by rw [← show k = D from e]; exact hk)), fun k hk => hc k (by omega), ?_⟩
    refine (((f1.mono (Y := fun k => C k ≠ ctag0) fun _ _ e => e.elim).trans3 f2 fun _ _ e => e.elim).trans3 hF fun k hk e => e).trans3 hf fun k hk e => ?_
    have : k = D := e
    omega
end
end Go.Proofs.YtpbobonddocgkaaGreatDoor
end
section
/- Layer 22: person.Seen, person.Userhost of what the law looks at first; PersonHidden. -/
namespace Go.Proofs.YtpbobonddocgkaaGreatDoor
open Go.RowKit Go.Shelf

theorem below_two (w : World) (x y) : Below w.heap.size w ((w.alloc x).alloc y) := ((Below.refl _ w).alloc (Nat.le_refl _) x).alloc (by simp) y







end Go.Proofs.YtpbobonddocgkaaGreatDoor
end
section
/- Layer 22: person.Seen, Marks, Who, Userhost and the document's answers to them, of anybody. -/
namespace Go.Proofs.YtpbobonddocgkaaGreatDoor
open Go.RowKit Go.Shelf

/-- somebody, as a value -/
def per (id : Int) (n u h r a : ByteArray) (o d : Bool) (si sp : Int) : Value :=
  .agg #[.int .i64 id, .string n, .string u, .string h, .string r, .string a, .bool o, .bool d, .int .i64 si, .int .i64 sp]
def memb (id : Int) (op vo : Bool) : Value := .agg #[.int .i64 id, .bool op, .bool vo]
def atB : ByteArray := ⟨#[64]⟩
def plB : ByteArray := ⟨#[43]⟩
def marksB (op vo many : Bool) : ByteArray := if op then (if vo && many then ⟨#[64, 43]⟩ else ⟨#[64]⟩) else (if vo then ⟨#[43]⟩ else ⟨#[]⟩)
def hostB (n u h : ByteArray) (o e : Bool) : ByteArray := (if o then n ++ ⟨#[42]⟩ else n) ++ (if e then ⟨#[61, 43]⟩ else ⟨#[61, 45]⟩) ++ u ++ ⟨#[64]⟩ ++ h





theorem ba_assoc (a b c : ByteArray) : a ++ b ++ c = a ++ (b ++ c) := by
  apply ba_ext; simp


def whoB (n u h : ByteArray) : ByteArray := n ++ ⟨#[33]⟩ ++ u ++ ⟨#[64]⟩ ++ h
theorem rwho_any (n u h : ByteArray) (w : World) (hn : n.size ≤ 200) (hu : u.size ≤ 200) (hh : h.size ≤ 200) :
    Calls Tryz.prog 81 #[.string n, .string u, .string h] w fun e w' => e = .returned (.string (whoB n u h)) ∧ Below w.heap.size w w' := by
  go_enter Tryz.func81, Tryz.ntmps81
  go_wp2_with fail
  go_ret
  exact ⟨ret_str (by rfl), by first | exact Below.refl _ _ | exact (Below.refl _ _).alloc (Nat.le_refl _) _⟩
theorem who_any (a : Int) (n u h r y : ByteArray) (o d : Bool) (si sp : Int) (w : World) (hn : n.size ≤ 200) (hu : u.size ≤ 200) (hh : h.size ≤ 200) :
    Calls Tryz.prog 61 #[per a n u h r y o d si sp] w fun e w' => e = .returned (.string (whoB n u h)) ∧ Below w.heap.size w w' := by
  unfold per
  go_enter Tryz.func61, Tryz.ntmps61
  go_wp2_with fail
  refine (rwho_any _ _ _ _ hn hu hh).mono ?_
  rintro e w1 ⟨rfl, q1⟩
  go_wp2_with fail
  go_ret
  exact ⟨rfl, ((Below.refl _ w).alloc (Nat.le_refl _) _).trans (q1.mono (by simp))⟩
end Go.Proofs.YtpbobonddocgkaaGreatDoor
end
