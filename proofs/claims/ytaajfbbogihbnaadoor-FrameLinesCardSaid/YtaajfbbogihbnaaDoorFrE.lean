/- Layer 5: lines as a function value, Collect, Feed. -/
import Derived.Test.YtaajfbbogihbnaaDoorFrD
namespace Go.Proofs.YtaajfbbogihbnaaDoor
set_option linter.unusedVariables false
set_option linter.unusedSimpArgs false
open Go Go.RowKit Go.Lib

theorem feedM_count : ∀ (l : List UInt8) (s : FSt), (feedM s l).1.length ≤ l.length
  | [], s => Nat.le_refl _
  | c :: l, s => by
    by_cases hc : isEnd c
    · rw [feedM_end hc]
      have := feedM_count l ([], false)
      have h2 : (outM s).length ≤ 1 := by unfold outM; split <;> simp
      simp only [List.length_append, List.length_cons]; omega
    · rw [feedM_more hc]
      have := feedM_count l (keepM s [c])
      simp only [List.length_cons]; omega
def linesV (n : Nat) : Value := .func (.func 19) #[] #[.pointer (some ⟨n + 1, 0, none⟩), .pointer (some ⟨n, 0, none⟩)]
set_option maxRecDepth 100000 in
set_option maxHeartbeats 4000000 in
theorem linesFr (F : Nat) (A : Option Addr) (n c : Nat) (w : World) :
    Calls Tryd.prog 16 #[.pointer (some ⟨F, 0, none⟩), .slice A n c] w fun e w' => e = .returned (linesV w.heap.size) ∧ w' = (w.alloc (.cells #[.pointer (some ⟨F, 0, none⟩)] 24)).alloc (.cells #[.slice A n c] 26) := by
  go_enter Tryd.func16, Tryd.ntmps16
  go_wp2_with fail
  go_ret
  exact ⟨rfl, rfl⟩
/-- the block that is read, if anything is -/
def RdB (l : List UInt8) (v : Value) : Nat → Prop := fun k => 0 < l.length ∧ v.ownBlock = some k
/-- the words that the lines of a framer are told by, at the world in which they are asked for -/
theorem lines_ready (F : Nat) (A : Option Addr) (c : Nat) (v : Value) (l : List UInt8) (s : FSt) (w : World) (hl : l.length ≤ 1000000) (hb : At8 w (.slice A l.length c) l) (hf : FrA F v s w) (hg : good s) (hT : Tabs8 w) (hF : 3 ≤ F)
    (hv : ∀ k, v.ownBlock = some k → 3 ≤ k ∧ (0 < l.length → (Value.slice A l.length c).ownBlock ≠ some k)) (hbF : 0 < l.length → (Value.slice A l.length c).ownBlock ≠ some F) (w1 : World) (hw1 : w1 = (w.alloc (.cells #[.pointer (some ⟨F, 0, none⟩)] 24)).alloc (.cells #[.slice A l.length c] 26)) :
    SeqD Tryd.prog 19 #[.pointer (some ⟨w.heap.size + 1, 0, none⟩), .pointer (some ⟨w.heap.size, 0, none⟩)] encLn (LnY w.heap.size (RdB l (.slice A l.length c))) (LnZ (w.heap.size + 1) F v) (LnD F v w1 (feedM s l).2) (feedM s l).1 w1 ∧
      (∀ b, LnY w.heap.size (RdB l (.slice A l.length c)) b ∨ LnZ (w.heap.size + 1) F v b → b < w1.heap.size) ∧ Fr (fun _ => False) w w1 ∧ w1.heap.size = w.heap.size + 2 := by
  have f1 : Fr (fun _ => False) w w1 := by rw [hw1]; exact ((Fr.refl _ w).alloc _).alloc _
  have z1 : w1.heap.size = w.heap.size + 2 := by rw [hw1]; simp
  have kP : w1.heap[w.heap.size]? = some (.cells #[.pointer (some ⟨F, 0, none⟩)] 24 (0, 0)) := by rw [hw1]; exact blk_alloc (World.alloc_heap_new w _) _
  have kB : w1.heap[w.heap.size + 1]? = some (.cells #[.slice A l.length c] 26 (0, 0)) := by
    rw [hw1]
    have := World.alloc_heap_new (w.alloc (.cells #[.pointer (some ⟨F, 0, none⟩)] 24)) (.cells #[.slice A l.length c] 26)
    simpa using this
  have hFl := blk_lt hf.1
  have hvl : ∀ k, v.ownBlock = some k → k < w.heap.size := fun k hk => (own8_form hf.2.1).elim fun A ⟨c, e⟩ => (e.2.2.2 k hk).2
  have hTl := tabs8_lt hT
  have hYw : ∀ b, LnY w.heap.size (RdB l (.slice A l.length c)) b ∨ LnZ (w.heap.size + 1) F v b → b < w1.heap.size := by
    rintro b ((e | e | e) | (e | e | e))
    · omega
    · have := at8_lt hb e.1 e.2; omega
    · omega
    · omega
    · omega
    · have := hvl b e; omega
  refine ⟨lines_seqD (w.heap.size + 1) w.heap.size F (RdB l (.slice A l.length c)) _ v l s w1 hl (at8_kept hb f1 fun _ _ _ e => e) (frA_kept hf f1 (fun e => e) fun _ _ e => e) hg kB kP (tabs8_kept hT f1 fun _ _ e => e) (fun k h0 hk => ⟨h0, hk⟩) (by omega) ?_ ?_ ?_ hYw, hYw, f1, z1⟩
  · rintro (e | e | e)
    · omega
    · have := at8_lt hb e.1 e.2; omega
    · omega
  · rintro (e | e | e)
    · omega
    · exact hbF e.1 e.2
    · omega
  · intro k hk
    have := hvl k hk
    obtain ⟨h3, hne⟩ := hv k hk
    refine ⟨by omega, ?_⟩
    rintro (e | e | e)
    · omega
    · exact hne e.1 e.2
    · omega
set_option maxRecDepth 100000 in
set_option maxHeartbeats 4000000 in
theorem collectLn {g : Nat} {lb : Array Value} {Y Z : Nat → Prop} {D : (Nat → Prop) → World → Prop} {xs : List FSt} (w : World) (hD : Rest D) (hseq : SeqD Tryd.prog g lb encLn Y Z D xs w) (hY : ∀ b, Y b ∨ Z b → b < w.heap.size)
    (eg : ∀ args v, (callFunc g args).run Tryd.prog v = .ok (.enter g args) v) (hxl : xs.length ≤ 1000000) :
    Calls Tryd.prog 15 #[.func (.func g) #[] lb] w fun e w' => ∃ v X2, e = .returned v ∧ OwnLn w.heap.size w' v xs ∧ (∀ k, v.ownBlock = some k → X2 k) ∧ D X2 w' ∧ Fr Z w w' := by
  have h := Lib.hid (appendSeqLn w hD hseq hY eg hxl)
  clear hseq hD hY eg
  go_enter Tryd.func15, Tryd.ntmps15
  go_wp2_with (go_at_call 18; refine h.out.mono ?_; rintro e w' ⟨v, X2, rfl, q⟩; have Q := Lib.hid q; clear q)
  go_ret
  exact ⟨v, X2, rfl, Q.out⟩
/-- what a call of Feed makes -/
def FeedP (F : Nat) (v : Value) (s : FSt) (l : List UInt8) (w : World) (e : Ending) (w' : World) : Prop :=
  ∃ v2 r, e = .returned r ∧ OwnLn w.heap.size w' r (feedM s l).1 ∧ FrA F v2 (feedM s l).2 w' ∧ (∀ k, v2.ownBlock = some k → r.ownBlock ≠ some k ∧ (v.ownBlock = some k ∨ w.heap.size ≤ k)) ∧ Fr (fun k => k = F ∨ v.ownBlock = some k) w w'
set_option maxRecDepth 100000 in
set_option maxHeartbeats 4000000 in
theorem feedFr (F : Nat) (v : Value) (s : FSt) (bv : Value) (l : List UInt8) (w : World) (hl : l.length ≤ 1000000) (hb : At8 w bv l) (hf : FrA F v s w) (hg : good s) (hT : Tabs8 w) (hF : 3 ≤ F)
    (hv : ∀ k, v.ownBlock = some k → 3 ≤ k ∧ (0 < l.length → bv.ownBlock ≠ some k)) (hbF : 0 < l.length → bv.ownBlock ≠ some F) :
    Calls Tryd.prog 9 #[.pointer (some ⟨F, 0, none⟩), bv] w (FeedP F v s l w) := by
  have hb' := hb
  obtain ⟨A, c, rfl, _, _, _, _⟩ := hb'
  have hrd := fun w1 h => lines_ready F A c v l s w hl hb hf hg hT hF hv hbF w1 h
  have hcol := fun w1 h => collectLn w1 (lnD_rest F v w1 (feedM s l).2) (hrd w1 h).1 (hrd w1 h).2.1 (enters_of Tryd.func19 (by kernel_rfl) rfl) (Nat.le_trans (feedM_count l s) hl)
  have hFl := blk_lt hf.1
  have HR := Lib.hid (fun w1 h => (hrd w1 h).2.2)
  have HC := Lib.hid hcol
  have hvl : ∀ k, v.ownBlock = some k → k < w.heap.size := fun k hk => (own8_form hf.2.1).elim fun A ⟨c, e⟩ => (e.2.2.2 k hk).2
  have HV := Lib.hid hvl
  clear hrd hcol hb hf hg hT hv hbF hvl
  unfold FeedP
  go_enter Tryd.func9, Tryd.ntmps9
  go_wp2_with (first
    | (go_at_call 16; refine (linesFr F A l.length c _).mono ?_; rintro e w1 ⟨rfl, hw1⟩; unfold linesV; have HW := Lib.hid hw1; clear hw1)
    | (go_at_call 15; refine (HC.out _ HW.out).mono ?_; rintro e w2 ⟨r, X2, rfl, q⟩; have Q := Lib.hid q; clear q))
  go_ret
  obtain ⟨o, hx, ⟨v2, d1, d2, d3⟩, fr⟩ := Q.out
  obtain ⟨f1, z1⟩ := HR.out w1 HW.out
  refine ⟨v2, r, rfl, ownLn_base o (by omega), d1, fun k hk => ⟨fun e => (d3 k hk).1 (hx k e), (d3 k hk).2.imp id fun e => by omega⟩, ?_⟩
  exact (f1.mono fun _ _ e => e.elim).trans3 fr fun k hk e => by
    rcases e with rfl | rfl | e
    · omega
    · exact .inl rfl
    · exact .inr e
end Go.Proofs.YtaajfbbogihbnaaDoor
