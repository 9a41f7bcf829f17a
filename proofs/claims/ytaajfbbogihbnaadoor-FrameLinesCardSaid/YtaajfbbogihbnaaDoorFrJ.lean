/- Layer 5: FrameFeeds. -/
import Derived.Test.YtaajfbbogihbnaaDoorFrI
namespace Go.Proofs.YtaajfbbogihbnaaDoor
set_option linter.unusedVariables false
set_option linter.unusedSimpArgs false
open Go Go.RowKit Go.Lib

/-- pieces of bytes, as they lie -/
def Pieces (w : World) (v : Value) (ps : List (List UInt8)) : Prop := ∃ A c, v = .slice A ps.length c ∧ (0 < ps.length → ∃ g o, A = some ⟨g, o, none⟩ ∧ g < w.heap.size ∧ ∀ i (h : i < ps.length), ∃ B d, w.cell? ⟨g, o + i, none⟩ = some (.slice B ps[i].length d) ∧ At8 w (.slice B ps[i].length d) ps[i])
theorem own_lt8 {base : Nat} {W : World} {v : Value} {xs : List UInt8} (h : Own8 base W v xs) {k : Nat} (hk : v.ownBlock = some k) : base ≤ k ∧ k < W.heap.size := (own8_form h).elim fun A ⟨c, e⟩ => e.2.2.2 k hk
theorem srcLn {base : Nat} {w : World} {v : Value} {xs : List FSt} (h : OwnLn base w v xs) : Src Tryd.prog 2 27 v xs.length (xs.flatMap encL2) w := by
  have h' := h
  rcases h.2 with ⟨rfl, h0⟩ | ⟨g, cap, cur, rfl, hb, hg, hn, hm, _⟩
  · obtain rfl : xs = [] := List.length_eq_zero_iff.1 h0
    exact Src.ofNil w Tryd.underlying27 0
  · refine Src.ofSlice w Tryd.underlying27 _ _ cap _ h'.1 (fun j u hu => h'.cells (g := g) rfl j u hu) (fun u hu => ?_)
    obtain ⟨x, _, hx⟩ := List.mem_flatMap.1 hu
    simp only [encL2, List.mem_cons, List.not_mem_nil, or_false] at hx
    rcases hx with rfl | rfl <;> rfl
theorem ownLn_app {base : Nat} {w : World} {v : Value} {xs ys : List FSt} (h : w.ownsRow base 38 2 v (xs.length + ys.length) (xs.flatMap encL2 ++ ys.flatMap encL2)) : OwnLn base w v (xs ++ ys) := by
  unfold OwnLn; rw [List.length_append, List.flatMap_append]; exact h
/-- all that is held, apart -/
structure FF (base F : Nat) (L : List UInt8) (os : List FSt) (st : FSt) (a b v : Value) (W : World) : Prop where
  oa : Own8 base W a L
  ob : OwnLn base W b os
  r : FrA F v st W
  hF : base ≤ F
  hv : ∀ k, v.ownBlock = some k → base ≤ k
  da : ∀ k, a.ownBlock = some k → k ≠ F ∧ v.ownBlock ≠ some k ∧ b.ownBlock ≠ some k
  db : ∀ k, b.ownBlock = some k → k ≠ F ∧ v.ownBlock ≠ some k
section
variable {base F : Nat} {L : List UInt8} {os : List FSt} {st : FSt} {a b v : Value} {W W' : World}
theorem FF.fresh (h : FF base F L os st a b v W) (hf : Fr (fun _ => False) W W') : FF base F L os st a b v W' where
  oa := own8_kept h.oa fun g hg => hf.block g (own_lt8 h.oa hg).2 fun e => e
  ob := ownLn_kept h.ob fun g hg => hf.block g (h.ob.lt g hg).2 fun e => e
  r := frA_kept h.r hf (fun e => e) fun _ _ e => e
  hF := h.hF
  hv := h.hv
  da := h.da
  db := h.db
theorem FF.all (h : FF base F L os st a b v W) {a' : Value} {L' : List UInt8} (ho : Own8 base W' a' L') (hf : Fr (fun k => a.ownBlock = some k) W W') (ht : ∀ k, a'.ownBlock = some k → a.ownBlock = some k ∨ W.heap.size ≤ k) : FF base F L' os st a' b v W' where
  oa := ho
  ob := ownLn_kept h.ob fun g hg => hf.block g (h.ob.lt g hg).2 fun e => (h.da g e).2.2 hg
  r := frA_kept h.r hf (fun e => (h.da F e).1 rfl) fun k hk e => (h.da k e).2.1 hk
  hF := h.hF
  hv := h.hv
  da := fun k hk => by
    rcases ht k hk with e | e
    · exact h.da k e
    · exact ⟨fun e2 => by have := blk_lt h.r.1; omega, fun e2 => by have := (own_lt8 h.r.2.1 e2).2; omega, fun e2 => by have := (h.ob.lt k e2).2; omega⟩
  db := h.db
theorem FF.feed (h : FF base F L os st a b v W) {v2 : Value} {s2 : FSt} (hr : FrA F v2 s2 W') (ht : ∀ k, v2.ownBlock = some k → v.ownBlock = some k ∨ W.heap.size ≤ k) (hf : Fr (fun k => k = F ∨ v.ownBlock = some k) W W') (hbW : base ≤ W.heap.size) : FF base F L os s2 a b v2 W' where
  oa := own8_kept h.oa fun g hg => hf.block g (own_lt8 h.oa hg).2 fun e => by
    rcases e with e | e
    · exact (h.da g hg).1 e
    · exact (h.da g hg).2.1 e
  ob := ownLn_kept h.ob fun g hg => hf.block g (h.ob.lt g hg).2 fun e => by
    rcases e with e | e
    · exact (h.db g hg).1 e
    · exact (h.db g hg).2 e
  r := hr
  hF := h.hF
  hv := fun k hk => by
    rcases ht k hk with e | e
    · exact h.hv k e
    · omega
  da := fun k hk => ⟨(h.da k hk).1, fun e => by
    rcases ht k e with e | e
    · exact (h.da k hk).2.1 e
    · have := (own_lt8 h.oa hk).2; omega, (h.da k hk).2.2⟩
  db := fun k hk => ⟨(h.db k hk).1, fun e => by
    rcases ht k e with e | e
    · exact (h.db k hk).2 e
    · have := (h.ob.lt k hk).2; omega⟩
theorem FF.got (h : FF base F L os st a b v W) {b' : Value} {os' : List FSt} (ho : OwnLn base W' b' os') (hf : Fr (fun k => b.ownBlock = some k) W W') (ht : ∀ k, b'.ownBlock = some k → b.ownBlock = some k ∨ W.heap.size ≤ k) : FF base F L os' st a b' v W' where
  oa := own8_kept h.oa fun g hg => hf.block g (own_lt8 h.oa hg).2 fun e => (h.da g hg).2.2 e
  ob := ho
  r := frA_kept h.r hf (fun e => (h.db F e).1 rfl) fun k hk e => (h.db k e).2 hk
  hF := h.hF
  hv := h.hv
  da := fun k hk => ⟨(h.da k hk).1, (h.da k hk).2.1, fun e => by
    rcases ht k e with e | e
    · exact (h.da k hk).2.2 e
    · have := (own_lt8 h.oa hk).2; omega⟩
  db := fun k hk => by
    rcases ht k hk with e | e
    · exact h.db k e
    · exact ⟨fun e2 => by have := blk_lt h.r.1; omega, fun e2 => by have := (own_lt8 h.r.2.1 e2).2; omega⟩
end
end Go.Proofs.YtaajfbbogihbnaaDoor
