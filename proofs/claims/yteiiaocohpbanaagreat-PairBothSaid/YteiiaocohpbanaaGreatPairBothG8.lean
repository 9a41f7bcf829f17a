/- Texts of this proof, one behind the other. -/
import Derived.Test.YteiiaocohpbanaaGreatPairBothG7
import Derived.Test.YteiiaocohpbanaaGreatPairBothG4
import Derived.Test.YteiiaocohpbanaaGreatPairBothG5
import Derived.OwnWalk
import Derived.BigQuiet
section
/- Layer 11: the document's relation: its row, Has. -/
namespace Go.Proofs.YteiiaocohpbanaaGreat
set_option linter.unusedVariables false
set_option linter.unusedSimpArgs false
open Go Go.RowKit Go.Maps Go.Sort Go.Shelf Go.Lib

theorem flatMap_getP {α : Type} [Inhabited α] (enc : α → List Value) (k : Nat) (hk : ∀ x, (enc x).length = k) (hk0 : 0 < k) : ∀ (xs : List α) (t : Nat), t < xs.length * k → (xs.flatMap enc)[t]? = (enc (xs.getD (t / k) default))[t % k]?
  | [], t, h => by simp at h
  | x :: r, t, h => by
    rw [List.flatMap_cons]
    by_cases ht : t < k
    · rw [List.getElem?_append_left (by rw [hk]; exact ht), Nat.div_eq_of_lt ht, Nat.mod_eq_of_lt ht]; rfl
    · rw [List.getElem?_append_right (by rw [hk]; omega), hk, flatMap_getP enc k hk hk0 r (t - k) (by rw [List.length_cons, Nat.add_mul, Nat.one_mul] at h; omega)]
      obtain ⟨u, rfl⟩ : ∃ u, t = u + k := ⟨t - k, by omega⟩
      rw [Nat.add_sub_cancel, Nat.add_div_right _ hk0, Nat.add_mod_right]; rfl
abbrev PairT : Type := Int × List UInt8
theorem Tryz.infoPR : (Tryz.prog.info? 70).map (fun i => (i.zero, i.size, i.bytes)) = some (some (.agg #[.int .i64 0, .string ByteArray.empty]), 2, 24) := by kernel_rfl
def encP (e : PairT) : List Value := [.int .i64 e.1, .string (bs e.2)]
/-- pairs as they are read -/
def ReadsPR (w : World) (A : Option Addr) (xs : List PairT) : Prop := 0 < xs.length → ∃ g o, A = some ⟨g, o, none⟩ ∧ g < w.heap.size ∧ ∀ j (h : j < xs.length), w.cell? ⟨g, o + j * 2, none⟩ = some (.int .i64 xs[j].1) ∧ w.cell? ⟨g, o + j * 2 + 1, none⟩ = some (.string (bs xs[j].2))
/-- a row of the document's pairs, of the call's own -/
def OwnPR (base : Nat) (W : World) (v : Value) (xs : List PairT) : Prop := W.ownsRow base 70 2 v xs.length (xs.flatMap encP)
theorem ownPR_nil (base : Nat) (w : World) : OwnPR base w (.slice none 0 0) [] := World.ownsRow_nil _ _ _ _
theorem ownPR_kept {base : Nat} {w W : World} {v : Value} {xs : List PairT} (h : OwnPR base w v xs) (hs : ∀ g, v.ownBlock = some g → W.heap[g]? = w.heap[g]?) : OwnPR base W v xs := row_same h hs
theorem reads_ownPR {base : Nat} {w : World} {A : Option Addr} {n c : Nat} {xs : List PairT} (h : OwnPR base w (.slice A n c) xs) : ReadsPR w A xs := fun h0 => by
  have h' := h
  rcases h.2 with ⟨h1, h2⟩ | ⟨g, cap, cur, h1, h3, h4, h5, _, h6, h7⟩
  · omega
  · injection h1 with q1 q2 q3
    subst q1
    have hadd : ∀ j, (⟨g, 0, none⟩ : Addr).add j = ⟨g, 0 + j, none⟩ := fun j => by
      unfold Addr.add
      split
      · simp_all
      · rfl
    have key : ∀ t u, (xs.flatMap encP)[t]? = some u → w.cell? ⟨g, 0 + t, none⟩ = some u := fun t u ht => by
      have := h'.cells (g := g) rfl t u ht
      rwa [hadd] at this
    refine ⟨g, 0, rfl, blk_lt h4, fun j hj => ⟨key (j * 2) _ ?_, ?_⟩⟩
    · rw [flatMap_getP encP 2 (fun _ => rfl) (by decide) xs (j * 2) (by omega), Nat.mul_div_cancel j (by decide), Nat.mul_mod_left]
      simp [List.getD, hj, encP]
    · have := key (j * 2 + 1) (.string (bs xs[j].2)) (by
        rw [flatMap_getP encP 2 (fun _ => rfl) (by decide) xs (j * 2 + 1) (by omega), show (j * 2 + 1) / 2 = j by omega, show (j * 2 + 1) % 2 = 1 by omega]
        simp [List.getD, hj, encP])
      exact this
/-- the document's relation as it lies -/
def RefPR (base : Nat) (w : World) (x : Nat) (most : Int) (U : List PairT) : Prop := base ≤ x ∧ ∃ A c, w.heap[x]? = some (.cells #[.int .i64 most, .slice A U.length c] 32 (0, 0)) ∧ OwnPR base w (.slice A U.length c) U ∧ (Value.slice A U.length c).ownBlock ≠ some x
theorem refPR_fr {base : Nat} {w w' : World} {x : Nat} {most : Int} {U : List PairT} {X : Nat → Prop} (h : RefPR base w x most U) (hf : Fr X w w') (h1 : ∀ b, base ≤ b → b < w.heap.size → ¬ X b) : RefPR base w' x most U := by
  obtain ⟨h0, A, c, h2, h3, h4⟩ := h
  exact ⟨h0, A, c, hf.blk h2 (h1 x h0 (blk_lt h2)), ownPR_kept h3 fun g hg => hf.block g (h3.lt g hg).2 (h1 g (h3.lt g hg).1 (h3.lt g hg).2), h4⟩
theorem refPR_lt {base : Nat} {w : World} {x : Nat} {most : Int} {U : List PairT} (h : RefPR base w x most U) : x < w.heap.size := by
  obtain ⟨_, _, _, h2, _⟩ := h
  exact blk_lt h2
theorem encP_len (T : List PairT) : (T.flatMap encP).length = T.length * 2 := by
  induction T with
  | nil => rfl
  | cons a r ih => rw [List.flatMap_cons, List.length_append, ih, List.length_cons]; simp [encP]; omega
theorem encP_one (T : List PairT) : ∀ u ∈ T.flatMap encP, u.oneCell' = true := by
  intro u hu
  obtain ⟨p, _, hp⟩ := List.mem_flatMap.1 hu
  simp only [encP, List.mem_cons, List.not_mem_nil, or_false] at hp
  rcases hp with rfl | rfl <;> rfl
theorem ownPR_of {base : Nat} {W : World} {v : Value} {xs : List PairT} {n : Nat} {cs : List Value} (h : W.ownsRow base 70 2 v n cs) (hn : n = xs.length) (hc : cs = xs.flatMap encP) : OwnPR base W v xs := by
  subst hn; subst hc; exact h
theorem srcPR {w : World} {base : Nat} {A : Option Addr} {c : Nat} {xs : List PairT} (h : OwnPR base w (.slice A xs.length c) xs) : Src Tryz.prog 2 30 (.slice A xs.length c) xs.length (xs.flatMap encP) w := by
  rcases h.2 with ⟨h1, h2⟩ | ⟨g, cap, cur, h1, h3, h4, h5, _, h6, h7⟩
  · have h3 : xs = [] := List.length_eq_zero_iff.1 h2
    subst h3
    injection h1 with q1 q2 q3
    subst q1
    exact Src.ofNil w Tryz.underlying30 c
  · injection h1 with q1 q2 q3
    subst q1
    exact Src.ofSlice w Tryz.underlying30 ⟨g, 0, none⟩ xs.length c (xs.flatMap encP) (encP_len xs) (fun j u hu => h.cells (g := g) rfl j u hu) (encP_one xs)
set_option maxRecDepth 100000 in
set_option maxHeartbeats 8000000 in
theorem ref_has {base : Nat} {w : World} {x : Nat} {most : Int} {U : List PairT} (h : RefPR base w x most U) (hlen : U.length ≤ 1000000) (a : Int) (b : List UInt8) :
    Calls Tryz.prog 18 #[.pointer (some ⟨x, 0, none⟩), .int .i64 a, .string (bs b)] w fun e w' => e = .returned (.bool (decide ((a, b) ∈ U))) ∧ w' = w := by
  obtain ⟨h0, A, c, h2, h3, h4⟩ := h
  have hrd := reads_ownPR h3
  have c1 := blk_cell h2 1
  obtain ⟨d, hd⟩ : ∃ d, decide ((a, b) ∈ U) = d := ⟨_, rfl⟩
  rw [hd]
  have HR := Lib.hid (And.intro hrd hd)
  clear h0 h2 h3 h4 hrd hd
  go_enter Tryz.func18, Tryz.ntmps18
  go_wp2_with fail
  go_loopw [7] (fun i wr => ∃ j : Nat, i = .int .i64 j ∧ j ≤ U.length ∧ wr = w ∧ Hid (∀ q (h : q < U.length), q < j → U[q] ≠ (a, b))) (fun i _ => U.length - (RowKit.intOf i).toNat)
  case atStart => exact ⟨0, rfl, Nat.zero_le _, rfl, fun q _ hq => by omega⟩
  case round =>
    obtain ⟨j, rfl, hj, rfl, HF⟩ := hrel
    by_cases hlt : j < U.length
    · obtain ⟨g, o, rfl, hg, hcell⟩ := HR.out.1 (by omega)
      obtain ⟨e1, e2⟩ := hcell j hlt
      obtain ⟨p1, p2⟩ : ∃ p : PairT, U[j] = p := ⟨_, rfl⟩
      rw [p2] at e1 e2
      obtain ⟨ka, kb⟩ := p1
      dsimp only at e1 e2
      have HP := Lib.hid p2
      have n1 : (j : Int) < (U.length : Int) := by omega
      have n0 : (0 : Int) ≤ (j : Int) := by omega
      have next : (ka, kb) ≠ (a, b) → Hid (∀ q (h : q < U.length), q < j + 1 → U[q] ≠ (a, b)) := fun hne q hq hq2 => by
        rcases Nat.lt_or_ge q j with h | h
        · exact HF.out q hq h
        · obtain rfl : q = j := by omega
          rw [HP.out]; exact hne
      have HN := Lib.hid next
      clear hcell p2 next
      by_cases hka : ka = a
      · subst hka
        by_cases hkb : kb = b
        · subst hkb
          have hdt : d = true := by rw [← HR.out.2, decide_eq_true_eq, ← HP.out]; exact List.getElem_mem _
          subst hdt
          go_wp2_with fail
          go_ret
          exact ⟨rfl, rfl⟩
        · have hk2 : ((bs kb).toList == (bs b).toList) = false := by rw [beq_bs]; simpa using hkb
          have HN2 := HN.out (fun e => hkb (Prod.mk.inj e).2)
          go_wp2_with fail
          go_roundw
          case rel => exact ⟨j + 1, by go_num, by omega, by first | rfl | trivial, HN2⟩
          case measure => simp [RowKit.intOf]; omega
      · have hk1 : (ka == a) = false := by simpa using hka
        have HN2 := HN.out (fun e => hka (Prod.mk.inj e).1)
        go_wp2_with fail
        go_roundw
        case rel => exact ⟨j + 1, by go_num, by omega, by first | rfl | trivial, HN2⟩
        case measure => simp [RowKit.intOf]; omega
    · have n1 : ¬ (j : Int) < (U.length : Int) := by omega
      have hdf : d = false := by
        rw [← HR.out.2, decide_eq_false_iff_not]
        intro hm
        obtain ⟨q, hq, he⟩ := List.getElem_of_mem hm
        exact HF.out q hq (by omega) he
      subst hdf
      go_wp2_with fail
      go_ret
      exact ⟨rfl, rfl⟩
end Go.Proofs.YteiiaocohpbanaaGreat
end
section
/- Layer 11: mathematics of the document's Of: the least above the last one, again and again. -/
namespace Go.Proofs.YteiiaocohpbanaaGreat
set_option linter.unusedVariables false
set_option linter.unusedSimpArgs false
open Go Go.RowKit

/-- the right things of a, in their order -/
structure OfIs (L : List PairT) (a : Int) (D : List (List UInt8)) : Prop where
  up : D.Pairwise (· < ·)
  mem : ∀ b, b ∈ D ↔ (a, b) ∈ L
def CandP (a : Int) (o : Option (List UInt8)) (p : PairT) : Prop := p.1 = a ∧ ∀ y, o = some y → y < p.2
theorem of_split {D : List (List UInt8)} (h : D.Pairwise (· < ·)) (m : Nat) (hm : m ≤ D.length) {x : List UInt8} (hx : x ∈ D) : x ∈ D.drop m ↔ ∀ y, (D.take m).getLast? = some y → y < x := by
  have hs := List.take_append_drop m D
  have hp := h
  rw [← hs, List.pairwise_append] at hp
  constructor
  · intro hd y hy
    exact hp.2.2 y (List.mem_of_getLast? hy) x hd
  · intro hc
    rcases List.mem_append.1 (by rw [hs]; exact hx) with ht | hd
    · exfalso
      obtain ⟨y, hy⟩ : ∃ y, (D.take m).getLast? = some y := by
        cases hl : (D.take m).getLast? with
        | none => rw [List.getLast?_eq_none_iff] at hl; rw [hl] at ht; cases ht
        | some y => exact ⟨y, rfl⟩
      have hlt := hc y hy
      obtain ⟨r, hr⟩ := List.getLast?_eq_some_iff.1 hy
      rw [hr] at ht hp
      rcases List.mem_append.1 ht with ht | ht
      · have := (List.pairwise_append.1 hp.1).2.2 x ht y (by simp)
        exact tirr _ (ttr this hlt)
      · rw [List.mem_singleton] at ht; subst ht; exact tirr _ hlt
    · exact hd
theorem candP_iff {L : List PairT} {a : Int} {D : List (List UInt8)} (h : OfIs L a D) {m : Nat} (hm : m ≤ D.length) {p : PairT} (hp : p ∈ L) : CandP a (D.take m).getLast? p ↔ p.1 = a ∧ p.2 ∈ D.drop m := by
  unfold CandP
  constructor
  · rintro ⟨h1, h2⟩
    exact ⟨h1, (of_split h.up m hm ((h.mem _).2 (by rw [← h1]; exact hp))).2 h2⟩
  · rintro ⟨h1, h2⟩
    exact ⟨h1, (of_split h.up m hm (List.mem_of_mem_drop h2)).1 h2⟩
/-- b is where the best of the first i stands; -1: none -/
def BestPR (L : List PairT) (a : Int) (o : Option (List UInt8)) (i : Nat) (b : Int) : Prop :=
  (b = -1 ∧ ∀ j (h : j < L.length), j < i → ¬ CandP a o L[j]) ∨ ∃ k : Nat, ∃ hk : k < L.length, k < i ∧ b = k ∧ CandP a o L[k] ∧ ∀ j (h : j < L.length), j < i → CandP a o L[j] → ¬ L[j].2 < L[k].2
theorem best_zeroP (L : List PairT) (a : Int) (o : Option (List UInt8)) : BestPR L a o 0 (-1) := .inl ⟨rfl, fun j _ hj => by omega⟩
theorem best_skipP {L : List PairT} {a : Int} {o : Option (List UInt8)} {i : Nat} {b : Int} (h : BestPR L a o i b) {p : PairT} (hi : i < L.length) (hp : L[i] = p) (hc : ¬ CandP a o p) : BestPR L a o (i + 1) b := by
  rcases h with ⟨rfl, h⟩ | ⟨k, hk, hki, rfl, h1, h2⟩
  · refine .inl ⟨rfl, fun j hj hji => ?_⟩
    rcases Nat.lt_or_ge j i with e | e
    · exact h j hj e
    · obtain rfl : j = i := by omega
      rw [hp]; exact hc
  · refine .inr ⟨k, hk, by omega, rfl, h1, fun j hj hji hcj => ?_⟩
    rcases Nat.lt_or_ge j i with e | e
    · exact h2 j hj e hcj
    · obtain rfl : j = i := by omega
      rw [hp] at hcj; exact absurd hcj hc
theorem best_firstP {L : List PairT} {a : Int} {o : Option (List UInt8)} {i : Nat} (h : BestPR L a o i (-1)) {p : PairT} (hi : i < L.length) (hp : L[i] = p) (hc : CandP a o p) : BestPR L a o (i + 1) i := by
  rcases h with ⟨_, h⟩ | ⟨k, hk, hki, e, _⟩
  · refine .inr ⟨i, hi, by omega, rfl, by rw [hp]; exact hc, fun j hj hji hcj => ?_⟩
    rcases Nat.lt_or_ge j i with e | e
    · exact absurd hcj (h j hj e)
    · obtain rfl : j = i := by omega
      exact tirr _
  · omega
theorem best_stepP {L : List PairT} {a : Int} {o : Option (List UInt8)} {i k : Nat} (h : BestPR L a o i k) {p : PairT} (hi : i < L.length) (hp : L[i] = p) (hc : CandP a o p) (hk : k < L.length) : BestPR L a o (i + 1) (if p.2 < L[k].2 then (i : Int) else (k : Int)) := by
  rcases h with ⟨e, _⟩ | ⟨k2, hk2, hki, e, h1, h2⟩
  · omega
  · obtain rfl : k = k2 := by omega
    split
    · next hl =>
      refine .inr ⟨i, hi, by omega, rfl, by rw [hp]; exact hc, fun j hj hji hcj => ?_⟩
      rcases Nat.lt_or_ge j i with e | e
      · rw [hp]; exact fun e2 => h2 j hj e hcj (ttr e2 hl)
      · obtain rfl : j = i := by omega
        exact tirr _
    · next hl =>
      refine .inr ⟨k, hk, by omega, rfl, h1, fun j hj hji hcj => ?_⟩
      rcases Nat.lt_or_ge j i with e | e
      · exact h2 j hj e hcj
      · obtain rfl : j = i := by omega
        rw [hp]; exact hl
theorem best_ltP {L : List PairT} {a : Int} {o : Option (List UInt8)} {i : Nat} {b : Int} (h : BestPR L a o i b) : b = -1 ∨ ∃ k : Nat, ∃ hk : k < L.length, b = k ∧ k < i := by
  rcases h with ⟨h, _⟩ | ⟨k, hk, h1, h2, _⟩
  · exact .inl h
  · exact .inr ⟨k, hk, h2, h1⟩
theorem best_noneP {L : List PairT} {a : Int} {D : List (List UInt8)} (h : OfIs L a D) {m : Nat} (hm : m ≤ D.length) (hb : BestPR L a (D.take m).getLast? L.length (-1)) : m = D.length := by
  rcases hb with ⟨_, hb⟩ | ⟨k, _, _, e, _⟩
  · rcases Nat.lt_or_ge m D.length with hlt | hge
    · exfalso
      have hin : D[m] ∈ D.drop m := by rw [List.drop_eq_getElem_cons hlt]; exact List.mem_cons_self ..
      have hL := (h.mem _).1 (List.mem_of_mem_drop hin)
      obtain ⟨j, hj, he⟩ := List.getElem_of_mem hL
      exact hb j hj hj ((candP_iff h hm (List.getElem_mem _)).2 (by rw [he]; exact ⟨rfl, hin⟩))
    · omega
  · omega
theorem best_nextP {L : List PairT} {a : Int} {D : List (List UInt8)} (h : OfIs L a D) {m k : Nat} (hm : m ≤ D.length) (hk : k < L.length) (hb : BestPR L a (D.take m).getLast? L.length k) : ∃ hlt : m < D.length, D[m] = L[k].2 := by
  rcases hb with ⟨e, _⟩ | ⟨k2, hk2, _, e, h1, h2⟩
  · omega
  · obtain rfl : k = k2 := by omega
    obtain ⟨e1, e2⟩ := (candP_iff h hm (List.getElem_mem _)).1 h1
    have hlt : m < D.length := by
      rcases Nat.lt_or_ge m D.length with h | h
      · exact h
      · rw [List.drop_eq_nil_of_le h] at e2; cases e2
    refine ⟨hlt, ?_⟩
    have hin : D[m] ∈ D.drop m := by rw [List.drop_eq_getElem_cons hlt]; exact List.mem_cons_self ..
    have hp : (D.drop m).Pairwise (· < ·) := h.up.sublist (List.drop_sublist ..)
    rw [List.drop_eq_getElem_cons hlt] at e2 hp
    rcases List.mem_cons.1 e2 with e | e
    · exact e.symm
    · exfalso
      have hlt2 := (List.pairwise_cons.1 hp).1 _ e
      obtain ⟨j, hj, he⟩ := List.getElem_of_mem ((h.mem _).1 (List.mem_of_mem_drop hin))
      exact h2 j hj hj ((candP_iff h hm (List.getElem_mem _)).2 (by rw [he]; exact ⟨rfl, hin⟩)) (by rw [he]; exact hlt2)
end Go.Proofs.YteiiaocohpbanaaGreat
end
section
/- Layer 11: the document's Of. -/
namespace Go.Proofs.YteiiaocohpbanaaGreat
set_option linter.unusedVariables false
set_option linter.unusedSimpArgs false
open Go Go.RowKit Go.Maps Go.Sort Go.Shelf Go.Lib

def sliceNP (v : Value) : Nat := match v with | .slice _ n _ => n | _ => 0
theorem less_bsP (x y : List UInt8) : Op.bytesLess (bs x).toList (bs y).toList = decide (x < y) := by rw [ByteArray.toList_eq, ByteArray.toList_eq]; exact bytesLess_eq x y
theorem leq_bsP (P : Program) (t : TypeId) (x y : List UInt8) (W : World) : (binOp .leq t (.string (bs x)) (.string (bs y))).run P W = .ok (.bool (!decide (y < x))) W := by
  have h : binOp .leq t (.string (bs x)) (.string (bs y)) = pure (.bool (Op.bytesLess (bs x).toList (bs y).toList || (bs x).toList == (bs y).toList)) := by simp [binOp, Op.stringOp]
  rw [h, less_bsP, beq_bs]
  have h2 : (decide (x < y) || x == y) = !decide (y < x) := by
    rw [Bool.eq_iff_iff]
    simp only [Bool.or_eq_true, decide_eq_true_eq, beq_iff_eq, Bool.not_eq_true', decide_eq_false_iff_not]
    constructor
    · rintro (h | rfl) e
      · exact tirr _ (ttr h e)
      · exact tirr _ e
    · intro h
      rcases ttri x y with e | e | e
      · exact .inl e
      · exact .inr e
      · exact absurd e h
  rw [h2]
  rfl
/-- what Of has told so far -/
def OfG (w : World) (D : List (List UInt8)) (m : Nat) (v : Value) (W : World) : Prop := Below w.heap.size w W ∧ OwnT w.heap.size W v (D.take m)
def OfPR (D : List (List UInt8)) (w : World) (e : Ending) (w' : World) : Prop := (∃ A c, e = .returned (.slice A D.length c) ∧ OwnT w.heap.size w' (.slice A D.length c) D) ∧ Below w.heap.size w w'
set_option maxRecDepth 100000 in
set_option maxHeartbeats 16000000 in
theorem ref_of {base : Nat} {w : World} {x : Nat} {most : Int} {U : List PairT} (h : RefPR base w x most U) (hl : U.length ≤ 1000000) {a : Int} {D : List (List UInt8)} (hD : OfIs U a D) (hDl : D.length ≤ 1000000) :
    Calls Tryz.prog 20 #[.pointer (some ⟨x, 0, none⟩), .int .i64 a] w (OfPR D w) := by
  obtain ⟨i0, hi0, hz0, hz1, hz2⟩ := info_parts Tryz.infoT
  obtain ⟨h0, A, c, h2, h3, h4⟩ := h
  have hx : ∀ W, Below w.heap.size w W → W.cell? ⟨x, 1, none⟩ = some (.slice A U.length c) := fun W hb => (blk_cell ((Fr.of_below hb).blk (X := fun _ => False) h2 fun e => e) 1).trans rfl
  obtain ⟨g, hA, hcell⟩ : ∃ g, (0 < U.length → A = some ⟨g, 0, none⟩) ∧ ∀ W, Below w.heap.size w W → ∀ k (hk : k < U.length), W.cell? ⟨g, k * 2, none⟩ = some (.int .i64 U[k].1) ∧ W.cell? ⟨g, k * 2 + 1, none⟩ = some (.string (bs U[k].2)) := by
    by_cases h9 : 0 < U.length
    · obtain ⟨g, o, hA, hg, hcell⟩ := reads_ownPR h3 h9
      have ho : o = 0 := by
        rcases h3.2 with ⟨_, e⟩ | ⟨g', cap, cur, e, _⟩
        · omega
        · injection e with e1; rw [hA] at e1; injection e1 with e1; injection e1
      subst ho
      refine ⟨g, fun _ => hA, fun W hb k hk => ?_⟩
      obtain ⟨e1, e2⟩ := hcell k hk
      rw [Nat.zero_add] at e1 e2
      exact ⟨((Fr.of_below hb).cell (X := fun _ => False) (p := ⟨g, k * 2, none⟩) hg fun e => e).trans e1, ((Fr.of_below hb).cell (X := fun _ => False) (p := ⟨g, k * 2 + 1, none⟩) hg fun e => e).trans e2⟩
    · exact ⟨0, fun h => absurd h h9, fun W hb k hk => by omega⟩
  have HC := Lib.hid (And.intro hx (And.intro hcell (And.intro hD hl)))
  have HA := Lib.hid hA
  have H0 : Hid (OfG w D 0 (.slice none 0 0) w) := ⟨Below.refl _ _, ownT_nil _ _⟩
  clear hx hcell h2 h3 h4 h0 hA hD
  go_enter Tryz.func20, Tryz.ntmps20
  go_wp2_with fail
  go_loopw [5, 6, 7] (fun out _ _ wr => ∃ (m : Nat) (A1 : Option Addr) (c1 : Nat), out = .slice A1 m c1 ∧ m ≤ D.length ∧ Hid (OfG w D m (.slice A1 m c1) wr)) (fun out _ _ _ => D.length - sliceNP out)
  case atStart => exact ⟨0, _, _, rfl, Nat.zero_le _, H0⟩
  case round =>
    obtain ⟨m, A1, c1, rfl, hm, HG⟩ := hrel
    clear H0
    rename World => W0
    go_wp2_with fail
    go_loopw [6, 7] (fun b i V => ∃ (bb : Int) (j : Nat), b = .int .i64 bb ∧ i = .int .i64 j ∧ j ≤ U.length ∧ Hid (BestPR U a (D.take m).getLast? j bb ∧ Fr (fun _ => False) W0 V)) (fun _ i _ => U.length - (RowKit.intOf i).toNat)
    case atStart => exact ⟨-1, 0, rfl, rfl, Nat.zero_le _, best_zeroP _ _ _, Fr.refl _ _⟩
    case round =>
      obtain ⟨bb, j, rfl, rfl, hj, HB⟩ := hrel
      have hbW : Below w.heap.size w wr := HG.out.1.trans (HB.out.2.below HG.out.1.size fun _ _ e => e.elim)
      have HBW := Lib.hid hbW
      have hcx := HC.out.1 wr hbW
      clear hbW
      by_cases hlt : j < U.length
      · have hA1 := HA.out (by omega)
        subst hA1
        obtain ⟨s1, s2⟩ := HC.out.2.1 wr HBW.out j hlt
        obtain ⟨pj, hpj⟩ : ∃ p, U[j] = p := ⟨_, rfl⟩
        rw [hpj] at s1 s2
        obtain ⟨ka, kb⟩ := pj
        dsimp only at s1 s2
        have HJ := Lib.hid hpj
        have p0 : (j : Int) < (U.length : Int) := by omega
        have r0 : (0 : Int) ≤ (j : Int) := by omega
        clear hpj
        by_cases hka : ka = a
        · subst hka
          have hk1 : (ka != ka) = false := by simp
          rcases Nat.eq_zero_or_pos m with hm0 | hm0
          · subst hm0
            have hc : CandP ka (D.take 0).getLast? (ka, kb) := ⟨rfl, fun y hy => by simp at hy⟩
            rcases best_ltP HB.out.1 with rfl | ⟨kb2, hkb, rfl, hkj⟩
            · have HN := Lib.hid (best_firstP HB.out.1 hlt HJ.out hc)
              clear hc
              go_wp2_with fail
              go_quiet (fail)
              generalize hV1 : wr.drewN nq = V1
              have HV1 : Hid (Fr (fun _ => False) wr V1) := by rw [← hV1]; exact (Fr.refl _ wr).drewN nq
              have hcx1 := HC.out.1 V1 (HBW.out.trans (HV1.out.below HBW.out.size fun _ _ e => e.elim))
              clear hV1
              go_wp2_with fail
              go_quiet (fail)
              go_wp2_with fail
              go_roundw
              case rel => exact ⟨j, j + 1, rfl, by go_num, by omega, HN.out, (HB.out.2.trans HV1.out).drewN _⟩
              case measure => simp [RowKit.intOf]; omega
            · have HN := Lib.hid (best_stepP HB.out.1 hlt HJ.out hc hkb)
              obtain ⟨pk, hpk⟩ : ∃ p, U[kb2] = p := ⟨_, rfl⟩
              rw [hpk] at HN
              obtain ⟨kc, kd⟩ := pk
              have hcel := HC.out.2.1
              have p4 : (kb2 : Int) < (U.length : Int) := by omega
              have r4 : (0 : Int) ≤ (kb2 : Int) := by omega
              have q4 : ¬ ((kb2 : Int) < 0) := by omega
              have HK := Lib.hid (And.intro hpk hcel)
              dsimp only at HN
              clear hc hpk hcel
              go_wp2_with fail
              go_quiet (fail)
              generalize hV1 : wr.drewN nq = V1
              have HV1 : Hid (Fr (fun _ => False) wr V1) := by rw [← hV1]; exact (Fr.refl _ wr).drewN nq
              have hbV1 := HBW.out.trans (HV1.out.below HBW.out.size fun _ _ e => e.elim)
              have hcx1 := HC.out.1 V1 hbV1
              have t2 := (HK.out.2 V1 hbV1 j hlt).2
              have t4 := (HK.out.2 V1 hbV1 kb2 hkb).2
              rw [HJ.out] at t2
              rw [HK.out.1] at t4
              dsimp only at t2 t4
              clear hV1 hbV1
              obtain ⟨dd, hdd⟩ : ∃ d, Op.bytesLess (bs kb).toList (bs kd).toList = d := ⟨_, rfl⟩
              have hdd2 : decide (kb < kd) = dd := by rw [← hdd, less_bsP]
              cases dd with
              | true =>
                rw [if_pos (of_decide_eq_true hdd2)] at HN
                clear hdd2
                go_wp2_with fail
                go_quiet (fail)
                go_wp2_with fail
                go_roundw
                case rel => exact ⟨j, j + 1, rfl, by go_num, by omega, HN.out, (HB.out.2.trans HV1.out).drewN _⟩
                case measure => simp [RowKit.intOf]; omega
              | false =>
                rw [if_neg (of_decide_eq_false hdd2)] at HN
                clear hdd2
                go_wp2_with fail
                go_quiet (fail)
                go_wp2_with fail
                go_roundw
                case rel => exact ⟨kb2, j + 1, rfl, by go_num, by omega, HN.out, (HB.out.2.trans HV1.out).drewN _⟩
                case measure => simp [RowKit.intOf]; omega
          · obtain ⟨mp, rfl⟩ : ∃ mp, m = mp + 1 := ⟨m - 1, by omega⟩
            have hln : (D.take (mp + 1)).length = mp + 1 := by rw [List.length_take]; omega
            obtain ⟨g1, o1, rfl, hg1, hcell1⟩ := reads_ownT (A := A1) (n := mp + 1) (c := c1) HG.out.2 (by omega)
            have u1 := hcell1 mp (by omega)
            obtain ⟨el, hla⟩ : ∃ p, (D.take (mp + 1))[mp]'(by omega) = p := ⟨_, rfl⟩
            have hlast : (D.take (mp + 1)).getLast? = some el := by rw [List.getLast?_eq_getElem?, hln, Nat.add_sub_cancel, List.getElem?_eq_getElem (by omega), hla]
            rw [hla] at u1
            have ul : wr.cell? ⟨g1, o1 + mp, none⟩ = some (.string (bs el)) := (HB.out.2.cell (p := ⟨g1, o1 + mp, none⟩) hg1 fun e => e).trans u1
            have p5 : (mp : Int) < (mp : Int) + 1 := by omega
            have r5 : (0 : Int) ≤ (mp : Int) := by omega
            have hwm : IntKind.i64.wrap (mp : Int) = (mp : Int) := IntWalk.i64_in _ ⟨by omega, by omega⟩
            have hcd : (CandP ka (D.take (mp + 1)).getLast? (ka, kb) ↔ el < kb) := ⟨fun h => h.2 _ hlast, fun h => ⟨rfl, fun y hy => by rw [hlast] at hy; cases hy; exact h⟩⟩
            have HL := Lib.hid hcd
            obtain ⟨ee, hee2⟩ : ∃ d, decide (el < kb) = d := ⟨_, rfl⟩
            have hle : ∀ W, (binOp .leq 9 (.string (bs kb)) (.string (bs el))).run Tryz.prog W = .ok (.bool (!ee)) W := fun W => by rw [leq_bsP, hee2]
            clear u1 hcell1 hg1 hla hlast hln hcd
            cases ee with
            | false =>
              have HN := Lib.hid (best_skipP HB.out.1 hlt HJ.out (fun hc => of_decide_eq_false hee2 (HL.out.1 hc)))
              clear hee2
              go_wp2_with fail
              go_quiet (fail)
              go_wp2_with fail
              go_roundw
              case rel => exact ⟨bb, j + 1, rfl, by go_num, by omega, HN.out, HB.out.2.drewN nq⟩
              case measure => simp [RowKit.intOf]; omega
            | true =>
              have hc : CandP ka (D.take (mp + 1)).getLast? (ka, kb) := HL.out.2 (of_decide_eq_true hee2)
              clear hee2
              rcases best_ltP HB.out.1 with rfl | ⟨kb2, hkb, rfl, hkj⟩
              · have HN := Lib.hid (best_firstP HB.out.1 hlt HJ.out hc)
                clear hc
                go_wp2_with fail
                go_quiet (fail)
                generalize hV1 : wr.drewN nq = V1
                have HV1 : Hid (Fr (fun _ => False) wr V1) := by rw [← hV1]; exact (Fr.refl _ wr).drewN nq
                have hcx1 := HC.out.1 V1 (HBW.out.trans (HV1.out.below HBW.out.size fun _ _ e => e.elim))
                clear hV1
                go_wp2_with fail
                go_quiet (fail)
                go_wp2_with fail
                go_roundw
                case rel => exact ⟨j, j + 1, rfl, by go_num, by omega, HN.out, (HB.out.2.trans HV1.out).drewN _⟩
                case measure => simp [RowKit.intOf]; omega
              · have HN := Lib.hid (best_stepP HB.out.1 hlt HJ.out hc hkb)
                obtain ⟨pk, hpk⟩ : ∃ p, U[kb2] = p := ⟨_, rfl⟩
                rw [hpk] at HN
                obtain ⟨kc, kd⟩ := pk
                have hcel := HC.out.2.1
                have p4 : (kb2 : Int) < (U.length : Int) := by omega
                have r4 : (0 : Int) ≤ (kb2 : Int) := by omega
                have q4 : ¬ ((kb2 : Int) < 0) := by omega
                have HK := Lib.hid (And.intro hpk hcel)
                dsimp only at HN
                clear hc hpk hcel
                go_wp2_with fail
                go_quiet (fail)
                generalize hV1 : wr.drewN nq = V1
                have HV1 : Hid (Fr (fun _ => False) wr V1) := by rw [← hV1]; exact (Fr.refl _ wr).drewN nq
                have hbV1 := HBW.out.trans (HV1.out.below HBW.out.size fun _ _ e => e.elim)
                have hcx1 := HC.out.1 V1 hbV1
                have t2 := (HK.out.2 V1 hbV1 j hlt).2
                have t4 := (HK.out.2 V1 hbV1 kb2 hkb).2
                rw [HJ.out] at t2
                rw [HK.out.1] at t4
                dsimp only at t2 t4
                clear hV1 hbV1
                obtain ⟨dd, hdd⟩ : ∃ d, Op.bytesLess (bs kb).toList (bs kd).toList = d := ⟨_, rfl⟩
                have hdd2 : decide (kb < kd) = dd := by rw [← hdd, less_bsP]
                cases dd with
                | true =>
                  rw [if_pos (of_decide_eq_true hdd2)] at HN
                  clear hdd2
                  go_wp2_with fail
                  go_quiet (fail)
                  go_wp2_with fail
                  go_roundw
                  case rel => exact ⟨j, j + 1, rfl, by go_num, by omega, HN.out, (HB.out.2.trans HV1.out).drewN _⟩
                  case measure => simp [RowKit.intOf]; omega
                | false =>
                  rw [if_neg (of_decide_eq_false hdd2)] at HN
                  clear hdd2
                  go_wp2_with fail
                  go_quiet (fail)
                  go_wp2_with fail
                  go_roundw
                  case rel => exact ⟨kb2, j + 1, rfl, by go_num, by omega, HN.out, (HB.out.2.trans HV1.out).drewN _⟩
                  case measure => simp [RowKit.intOf]; omega
        · have hk1 : (ka != a) = true := by simpa using hka
          have HN := Lib.hid (best_skipP HB.out.1 hlt HJ.out (fun hc => hka hc.1))
          go_wp2_with fail
          go_quiet (fail)
          go_wp2_with fail
          go_roundw
          case rel => exact ⟨bb, j + 1, rfl, by go_num, by omega, HN.out, HB.out.2.drewN nq⟩
          case measure => simp [RowKit.intOf]; omega
      · obtain rfl : j = U.length := by omega
        have p1 : ¬ ((U.length : Int) < (U.length : Int)) := by omega
        have ho : OwnT w.heap.size wr (.slice A1 m c1) (D.take m) := ownT_kept HG.out.2 fun k hk => HB.out.2.block k (HG.out.2.lt k hk).2 fun e => e
        rcases best_ltP HB.out.1 with rfl | ⟨kb, hkb, rfl, _⟩
        · have hm2 : m = D.length := best_noneP HC.out.2.2.1 hm HB.out.1
          subst hm2
          rw [List.take_length] at ho
          have HZ : Hid (OfPR D w (.returned (.slice A1 D.length c1)) wr) := ⟨⟨A1, c1, rfl, ho⟩, HBW.out⟩
          clear ho
          go_wp2_with fail
          go_ret
          exact HZ.out
        · have hA1 := HA.out (by omega)
          subst hA1
          obtain ⟨u1, u2⟩ := HC.out.2.1 wr HBW.out kb hkb
          have hnx := best_nextP HC.out.2.2.1 hm hkb HB.out.1
          obtain ⟨bq, hbq⟩ : ∃ b, U[kb].2 = b := ⟨_, rfl⟩
          rw [hbq] at u2 hnx
          have p4 : (kb : Int) < (U.length : Int) := by omega
          have r4 : (0 : Int) ≤ (kb : Int) := by omega
          have q4 : ¬ ((kb : Int) < 0) := by omega
          have hln : (D.take m).length = m := by rw [List.length_take]; omega
          have hown : wr.ownsRow w.heap.size 9 1 (.slice A1 m c1) m ((D.take m).map encT) := by
            have := ho
            unfold OwnT at this
            rwa [hln] at this
          have HO2 := Lib.hid (And.intro hown (And.intro hnx hln))
          clear hown hnx hln ho u1 hbq
          go_wp2_with (at_builtin; refine Hid.out ?_)
          refine Lib.hid ?_
          refine wpList_one_t rfl _ _ 40 rfl w.heap.size 9 i0 _ 1 16 Tryz.underlying40 hi0 hz0 hz1 hz2 rfl (by decide) _ m ((D.take m).map encT) rfl HO2.out.1 #[.string (bs bq)] wr.heap.size rfl rfl rfl (by intro u hu; simp at hu; subst hu; rfl) (by omega) (by decide) HBW.out.size ?_
          intro v4 W4 o4 f4 t4
          obtain ⟨A4, c4, ev4⟩ := row_slice o4
          subst ev4
          obtain ⟨hown, ⟨hml, hnx⟩, hln⟩ := HO2.out
          have HNew : Hid (OfG w D (m + 1) (.slice A4 (m + 1) c4) W4) := ⟨HBW.out.trans (f4.below HBW.out.size fun k hk e => (hown.lt k e).1), by
            rw [List.take_succ_eq_append_getElem hml, hnx]
            unfold OwnT
            rw [List.length_append, List.map_append, hln]
            exact o4⟩
          have hm3 : m + 1 ≤ D.length := hml
          clear o4 f4 t4 hown hnx hln u2 hml
          go_wp2_with fail
          go_roundw
          case rel => exact ⟨m + 1, _, _, rfl, hm3, HNew⟩
          case measure => simp [sliceNP]; omega
end Go.Proofs.YteiiaocohpbanaaGreat
end
section
/- Layer 10: Union. -/
namespace Go.Proofs.YteiiaocohpbanaaGreat
set_option linter.unusedVariables false
set_option linter.unusedSimpArgs false
open Go Go.RowKit Go.Lib Go.Sort Go.Shelf

theorem Tryz.infoFn : (Tryz.prog.info? 59).map (fun i => (i.zero, i.size, i.bytes)) = some (some .nilFunc, 1, 8) := by kernel_rfl
/-- a row of functions -/
def OwnF (base : Nat) (W : World) (v : Value) (Fs : List Value) : Prop := W.ownsRow base 59 1 v Fs.length Fs
theorem own_type {W : World} {base : Nat} {e : TypeId} {size : Nat} {v : Value} {n : Nat} {xs : List Value} (hown : W.ownsRow base e size v n xs) (k : Nat) (hk : v.ownBlock = some k) : ∃ cur, W.heap[k]? = some (.cells cur e (0, 0)) := by
  rcases hown.2 with ⟨rfl, _⟩ | ⟨g, cap, cur, rfl, _, h3, _⟩
  · cases hk
  · cases hk; exact ⟨_, h3⟩
theorem tale_fr {base b : Nat} {w w' : World} {F v : Value} {xs : List Int} {ys : List Value} {n : Nat} (h : TaleAt base w F xs) (ho : w.ownsRow b 59 1 v n ys) (hf : Fr (fun k => v.ownBlock = some k) w w') : TaleAt base w' F xs := by
  obtain ⟨B, u, h0, h1, h2, h3, h4⟩ := h
  refine ⟨B, u, h0, h1, hf.blk h2 fun e => ?_, h3, own_kept h4 fun g hg => hf.block g (h4.lt g hg).2 fun e => ?_⟩
  · obtain ⟨c1, k1⟩ := own_type ho B e
    rw [h2] at k1; cases k1
  · obtain ⟨c1, k1⟩ := own_type ho g e
    obtain ⟨c2, k2⟩ := own_type h4 g hg
    rw [k1] at k2; cases k2
theorem tale_base {base base' : Nat} {w : World} {F : Value} {xs : List Int} (h : TaleAt base w F xs) (hb : base' ≤ base) : TaleAt base' w F xs := by
  obtain ⟨B, u, h0, h1, h2, h3, h4⟩ := h
  exact ⟨B, u, Nat.le_trans hb h0, h1, h2, h3, row_base' h4 hb⟩
/-- a pointer to a set, or none -/
def PtrAt (w : World) (p : Value) (xs : List Int) : Prop := (p = .pointer none ∧ xs = []) ∨ ∃ s ob base, p = .pointer (some ⟨s, 0, none⟩) ∧ SetAt base w s ob xs
theorem ptr_below {w W : World} {p : Value} {xs : List Int} (h : PtrAt w p xs) (hb : Below w.heap.size w W) : PtrAt W p xs := by
  rcases h with h | ⟨s, ob, base, h1, h2⟩
  · exact .inl h
  · exact .inr ⟨s, ob, base, h1, set_below h2 hb⟩
theorem ptr_all {w : World} {p : Value} {xs : List Int} (h : PtrAt w p xs) (hl : xs.length ≤ 1000000) : Calls Tryz.prog 43 #[p] w (AllP xs w) := by
  rcases h with ⟨rfl, rfl⟩ | ⟨s, ob, base, rfl, h2⟩
  · exact set_all_nil w
  · exact set_all h2 hl
/-- the tales so far -/
def UniG (w : World) (xss : List (List Int)) (k : Nat) (v : Value) (W : World) : Prop :=
  (∃ Fs : List Value, Fs.length = k ∧ OwnF w.heap.size W v Fs ∧ ∀ (j : Nat) (F : Value), Fs[j]? = some F → ∃ xs, xss[j]? = some xs ∧ TaleAt w.heap.size W F xs) ∧ Below w.heap.size w W
end Go.Proofs.YteiiaocohpbanaaGreat
end
section
/- Layer 10: the document's Same; sets that are none. -/
namespace Go.Proofs.YteiiaocohpbanaaGreat
set_option linter.unusedVariables false
set_option linter.unusedSimpArgs false
open Go Go.RowKit Go.Lib Go.Sort Go.Shelf

set_option maxHeartbeats 4000000 in
theorem same10_eq {w : World} (A B : Option Addr) (xs ys : List Int) (c d : Nat) (hlen : xs.length = ys.length) (hl : xs.length ≤ 1000000) (hA : ReadsI w A xs) (hB : ReadsI w B ys) :
    Calls Tryz.prog 22 #[.slice A xs.length c, .slice B ys.length d] w fun e w' => e = .returned (.bool (decide (xs = ys))) ∧ ∃ n, w' = w.drewN n := by
  have HA := Lib.hid hA
  have HB := Lib.hid hB
  have HL := Lib.hid hlen
  have hne : ((xs.length : Int) != (ys.length : Int)) = false := by rw [hlen]; simp
  clear hA hB hlen
  go_enter Tryz.func22, Tryz.ntmps22
  go_wp2_with fail
  go_loopw [5] (fun i wr => ∃ k : Nat, i = .int .i64 k ∧ k ≤ xs.length ∧ Hid (xs.take k = ys.take k ∧ ∃ n, wr = w.drewN n)) (fun i _ => xs.length - (Go.RowKit.intOf i).toNat)
  case atStart => exact ⟨0, rfl, Nat.zero_le _, rfl, 0, rfl⟩
  case round =>
    obtain ⟨k, rfl, hk, HQ⟩ := hrel
    by_cases hlt : k < xs.length
    · have hlt2 : k < ys.length := by have := HL.out; omega
      have hcell : ∀ p, wr.cell? p = w.cell? p := fun p => by obtain ⟨n, rfl⟩ := HQ.out.2; rfl
      obtain ⟨g, o, rfl, _, ha⟩ := HA.out (by omega)
      obtain ⟨g2, o2, rfl, _, hb⟩ := HB.out (by omega)
      have a1 := ha k hlt
      have b1 := hb k hlt2
      rw [← hcell] at a1 b1
      obtain ⟨x, hx⟩ : ∃ x, xs[k] = x := ⟨_, rfl⟩
      obtain ⟨y, hy⟩ : ∃ y, ys[k] = y := ⟨_, rfl⟩
      rw [hx] at a1
      rw [hy] at b1
      obtain ⟨eb, heb⟩ : ∃ eb, (x != y) = eb := ⟨_, rfl⟩
      have HE := Lib.hid (And.intro hx (And.intro hy heb))
      have hbb := heb
      clear hcell ha hb hx hy heb
      have p1 : (k : Int) < (xs.length : Int) := by omega
      have p2 : (k : Int) < (ys.length : Int) := by omega
      go_wp2_with fail
      go_quiet (fail)
      all_goals go_wp2_with fail
      · rename_i hx
        have hd : decide (xs = ys) = false := by
          rw [decide_eq_false_iff_not]
          intro e
          obtain ⟨h1, h2, h3⟩ := HE.out
          subst e
          rw [← h1, ← h2] at h3
          simp at h3
          subst h3
          cases hx
        obtain ⟨_, n, hn⟩ := HQ.out
        rw [hd]
        subst hn
        go_ret
        exact ⟨rfl, _, by rw [World.drewN_drewN]⟩
      · rename_i hx
        have h3 : xs[k] = ys[k] := by
          obtain ⟨h1, h2, h3⟩ := HE.out
          rw [h1, h2]
          have : (x != y) = false := by rw [h3]; simpa using hx
          simpa using this
        have h4 : xs.take (k + 1) = ys.take (k + 1) := by
          rw [List.take_succ_eq_append_getElem hlt, List.take_succ_eq_append_getElem hlt2, HQ.out.1, h3]
        obtain ⟨_, n, hn⟩ := HQ.out
        exact ⟨⟨k + 1, by go_num, by omega, h4, n + nq, by subst hn; rw [World.drewN_drewN]⟩, by simp [Go.RowKit.intOf]; omega⟩
    · obtain rfl : k = xs.length := by omega
      have hab : xs = ys := by
        have := HQ.out.1
        rw [List.take_of_length_le (Nat.le_refl _), List.take_of_length_le (by have := HL.out; omega)] at this
        exact this
      have hd : decide (xs = ys) = true := by simp [hab]
      obtain ⟨_, n, hn⟩ := HQ.out
      have p1 : ¬ ((xs.length : Int) < (xs.length : Int)) := by omega
      subst hn
      go_wp2_with fail
      go_ret
      exact ⟨rfl, _, rfl⟩
theorem set_add_nil (A : Option Addr) (l c : Nat) (w : World) : Calls Tryz.prog 52 #[.pointer none, .slice A l c] w fun e w' => e = .returned (.int .i64 0) ∧ w' = w := by
  go_enter Tryz.func52, Tryz.ntmps52
  go_wp2_with fail
  go_ret
  exact ⟨rfl, rfl⟩
theorem set_rem_nil (A : Option Addr) (l c : Nat) (w : World) : Calls Tryz.prog 46 #[.pointer none, .slice A l c] w fun e w' => e = .returned (.int .i64 0) ∧ w' = w := by
  go_enter Tryz.func46, Tryz.ntmps46
  go_wp2_with fail
  go_ret
  exact ⟨rfl, rfl⟩

def WithP (w : World) (e : Ending) (w' : World) : Prop := (∃ F, e = .returned F ∧ Tells w' F []) ∧ Below w.heap.size w w'
end Go.Proofs.YteiiaocohpbanaaGreat
end
section
/- Layer 10: awake. -/
namespace Go.Proofs.YteiiaocohpbanaaGreat
set_option linter.unusedVariables false
set_option linter.unusedSimpArgs false
open Go Go.RowKit Go.Lib Go.Sort Go.Shelf

theorem set_of' {w : World} (A : Option Addr) (xs : List Int) (n c : Nat) (hn : xs.length = n) (hl : xs.length ≤ 1000000) (hr : ReadsI w A xs) (zs : List Int) (hz : normI xs = zs) :
    Calls Tryz.prog 51 #[.slice A n c] w (OfP zs w) := by
  subst hn; subst hz
  exact set_of A xs c hl hr (normI_ok xs).1
theorem reads_new {w : World} {cs : Array Value} {xs : List Int} (h : ∀ j (h : j < xs.length), cs[j]? = some (.int .i64 xs[j])) : ReadsI (w.alloc (.cells cs 3)) (some ⟨w.heap.size, 0, none⟩) xs := fun _ =>
  ⟨_, _, rfl, by simp, fun j hj => by rw [Nat.zero_add, blk_cell (heap_alloc_new w _) j]; exact h j hj⟩
theorem reads_own {base : Nat} {w : World} {A : Option Addr} {n c : Nat} {xs : List Int} (h : OwnI base w (.slice A n c) xs) : ReadsI w A xs := fun h0 => by
  rcases h.2 with ⟨h1, h2⟩ | ⟨g, cap, cur, h1, h3, h4, h5, _, h6, h7⟩
  · omega
  · injection h1 with q1 q2 q3
    subst q1
    rw [Nat.mul_one] at h7
    refine ⟨g, 0, rfl, blk_lt h4, fun j hj => ?_⟩
    rw [Nat.zero_add, blk_cell h4 j, own_get (base := 0) (w := w) (cap := 0) h4 h7 j hj]
theorem same10 {w : World} (A B : Option Addr) (xs ys : List Int) (n m c d : Nat) (hn : xs.length = n) (hm : ys.length = m) (hlen : n = m) (hl : xs.length ≤ 1000000) (hA : ReadsI w A xs) (hB : ReadsI w B ys) :
    Calls Tryz.prog 22 #[.slice A n c, .slice B m d] w fun e w' => e = .returned (.bool (decide (xs = ys))) ∧ ∃ n, w' = w.drewN n := by
  subst hn; subst hm
  exact same10_eq A B xs ys c d hlen hl hA hB

end Go.Proofs.YteiiaocohpbanaaGreat
end
section
/- Layer 10: the document's Has, Remove, Add. -/
namespace Go.Proofs.YteiiaocohpbanaaGreat
set_option linter.unusedVariables false
set_option linter.unusedSimpArgs false
open Go Go.RowKit Go.Lib Go.Sort Go.Shelf

set_option maxHeartbeats 4000000 in
theorem has10 {w : World} (A : Option Addr) (xs : List Int) (c : Nat) (x : Int) (hl : xs.length ≤ 1000000) (hA : ReadsI w A xs) :
    Calls Tryz.prog 24 #[.slice A xs.length c, .int .i64 x] w fun e w' => e = .returned (.bool (xs.contains x)) ∧ w' = w := by
  have HA := Lib.hid hA
  obtain ⟨b, hb⟩ : ∃ b, xs.contains x = b := ⟨_, rfl⟩
  rw [hb]
  have HB := Lib.hid hb
  clear hA hb
  go_enter Tryz.func24, Tryz.ntmps24
  go_wp2_with fail
  go_loopw [5] (fun i wr => ∃ k : Nat, i = .int .i64 k ∧ k ≤ xs.length ∧ Hid ((xs.take k).contains x = false) ∧ wr = w) (fun i _ => xs.length - (Go.RowKit.intOf i).toNat)
  case atStart => exact ⟨0, rfl, Nat.zero_le _, rfl, rfl⟩
  case round =>
    obtain ⟨k, rfl, hk, HQ, rfl⟩ := hrel
    by_cases hlt : k < xs.length
    · obtain ⟨g, o, rfl, _, ha⟩ := HA.out (by omega)
      have a1 := ha k hlt
      have htk : xs[k] ≠ x → (xs.take (k + 1)).contains x = false := fun e => by
        have h1 : x ∉ xs.take k := by simpa using HQ.out
        have h2 : x ∉ xs.take (k + 1) := by
          rw [List.take_succ_eq_append_getElem hlt, List.mem_append, List.mem_singleton, not_or]
          exact ⟨h1, fun h => e h.symm⟩
        simpa using h2
      obtain ⟨y, hy⟩ : ∃ y, xs[k] = y := ⟨_, rfl⟩
      have hmem : xs[k] ∈ xs := List.getElem_mem hlt
      rw [hy] at a1 htk hmem
      have p1 : (k : Int) < (xs.length : Int) := by omega
      by_cases e : y = x
      · subst e
        have hbt : b = true := by rw [← HB.out]; simpa using hmem
        clear ha htk hy hmem
        go_wp2_with fail
        go_ret
        exact ⟨by first | rfl | (rw [hbt]; rfl), rfl⟩
      · have he : (y == x) = false := by simpa using e
        have HT := Lib.hid (htk e)
        clear ha htk hy hmem
        go_wp2_with fail
        go_roundw
        case rel => exact ⟨k + 1, by go_num, by omega, HT, by first | rfl | trivial⟩
        case measure => simp [Go.RowKit.intOf]; omega
    · obtain rfl : k = xs.length := by omega
      have hbt : b = false := by have := HQ.out; rw [List.take_length, HB.out] at this; exact this
      have p1 : ¬ ((xs.length : Int) < (xs.length : Int)) := by omega
      go_wp2_with fail
      go_ret
      exact ⟨by first | rfl | (rw [hbt]; rfl), rfl⟩
/-- a row of the call's own, handed back -/
def RowP (base : Nat) (zs : List Int) (w : World) (e : Ending) (w' : World) : Prop := (∃ v', e = .returned v' ∧ OwnI base w' v' zs) ∧ Below w.heap.size w w'
end Go.Proofs.YteiiaocohpbanaaGreat
end
section
/- Layer 10: the document's Add. -/
namespace Go.Proofs.YteiiaocohpbanaaGreat
set_option linter.unusedVariables false
set_option linter.unusedSimpArgs false
open Go Go.RowKit Go.Lib Go.Sort Go.Shelf

/-- what Add has built behind k of the numbers -/
def addZ (xs : List Int) (x : Int) (k : Nat) : List Int := if k ≤ xs.countP (· < x) then xs.take k else xs.take (xs.countP (· < x)) ++ x :: (xs.take k).drop (xs.countP (· < x))
theorem addZ_len (xs : List Int) (x : Int) (k : Nat) : (addZ xs x k).length ≤ xs.length + 1 := by
  unfold addZ
  split
  · rw [List.length_take]; omega
  · rw [List.length_append, List.length_cons, List.length_drop, List.length_take, List.length_take]; omega
theorem addZ_low {xs : List Int} {x : Int} {k : Nat} (h : k < xs.countP (· < x)) (hk : k < xs.length) : addZ xs x (k + 1) = addZ xs x k ++ [xs[k]] := by
  unfold addZ
  rw [if_pos (by omega), if_pos (by omega), List.take_succ_eq_append_getElem hk]
theorem addZ_at {xs : List Int} {x : Int} {k : Nat} (h : k = xs.countP (· < x)) (hk : k < xs.length) : addZ xs x (k + 1) = (addZ xs x k ++ [x]) ++ [xs[k]] := by
  unfold addZ
  rw [if_neg (by omega), if_pos (by omega), ← h, List.take_succ_eq_append_getElem hk, List.drop_append_of_le_length (by rw [List.length_take]; omega), List.drop_of_length_le (by rw [List.length_take]; omega)]
  simp
theorem addZ_high {xs : List Int} {x : Int} {k : Nat} (h : xs.countP (· < x) < k) (hk : k < xs.length) : addZ xs x (k + 1) = addZ xs x k ++ [xs[k]] := by
  unfold addZ
  rw [if_neg (by omega), if_neg (by omega), List.take_succ_eq_append_getElem hk, List.drop_append_of_le_length (by rw [List.length_take]; omega), List.append_assoc, List.cons_append]
theorem addZ_end (xs : List Int) (x : Int) (h : xs.contains x = false) : insI xs x = if xs.countP (· < x) < xs.length then addZ xs x xs.length else addZ xs x xs.length ++ [x] := by
  have hc := countP_le xs x
  unfold insI addZ
  rw [h, if_neg Bool.false_ne_true]
  by_cases e : xs.countP (· < x) < xs.length
  · rw [if_pos e, if_neg (by omega), List.take_length]
  · have e2 : xs.countP (· < x) = xs.length := by omega
    rw [if_neg e, if_pos (by omega), e2, List.take_length, List.drop_length]
theorem low_lt {xs : List Int} (h : xs.Pairwise (· < ·)) {x : Int} {k : Nat} (hk : k < xs.countP (· < x)) (hl : k < xs.length) : xs[k] < x :=
  (take_lt h x).1 _ (by rw [List.mem_take_iff_getElem]; exact ⟨k, by omega, rfl⟩)
theorem high_ge {xs : List Int} (h : xs.Pairwise (· < ·)) {x : Int} {k : Nat} (hk : xs.countP (· < x) ≤ k) (hl : k < xs.length) : x ≤ xs[k] :=
  (take_lt h x).2 _ (by rw [List.mem_drop_iff_getElem]; exact ⟨k - xs.countP (· < x), by omega, by simp [show xs.countP (· < x) + (k - xs.countP (· < x)) = k by omega]⟩)
end Go.Proofs.YteiiaocohpbanaaGreat
end
section
/- Layer 10: the document's Add. -/
namespace Go.Proofs.YteiiaocohpbanaaGreat
set_option linter.unusedVariables false
set_option linter.unusedSimpArgs false
open Go Go.RowKit Go.Lib Go.Sort Go.Shelf

theorem own_snoc {base : Nat} {w : World} {v : Value} {zs : List Int} {y : Int} (h : w.ownsRow base 3 1 v (zs.length + 1) (zs.map (Value.int .i64) ++ #[Value.int .i64 y].toList)) : OwnI base w v (zs ++ [y]) := by
  unfold OwnI; rw [List.length_append, List.map_append]; exact h
theorem tie_own {w W : World} {v v' : Value} {zs : List Int} (h : OwnI w.heap.size W v' zs) : Tie w v v' := fun k hk hl => by have := (h.lt k hk).1; omega
/-- a row handed back: the one that was given, or a new one -/
def RowNT (base : Nat) (zs : List Int) (v : Value) (w : World) (e : Ending) (w' : World) : Prop := (∃ v', e = .returned v' ∧ OwnI base w' v' zs ∧ Tie w v v') ∧ Below w.heap.size w w'
set_option maxRecDepth 100000 in
set_option maxHeartbeats 4000000 in
theorem add10 {base : Nat} {w : World} {v : Value} {xs : List Int} (hv : OwnI base w v xs) (hup : xs.Pairwise (· < ·)) (hl : xs.length ≤ 900000) (hbw : base ≤ w.heap.size) (x : Int) :
    Calls Tryz.prog 39 #[v, .int .i64 x] w (RowNT base (insI xs x) v w) := by
  obtain ⟨i0, hi, hz0, hz1, hz2⟩ := info_parts Tryz.infoI
  obtain ⟨A, c, rfl⟩ := row_slice hv
  have HA := Lib.hid (reads_own hv)
  have HV := Lib.hid hv
  have HU := Lib.hid hup
  have hh := has10 A xs c x (by omega) HA.out
  obtain ⟨b, hb⟩ : ∃ b, xs.contains x = b := ⟨_, rfl⟩
  rw [hb] at hh
  have HH := Lib.hid hh
  have HB := Lib.hid hb
  clear hv hup hh hb
  go_enter Tryz.func39, Tryz.ntmps39
  go_wp2_with fail
  refine HH.out.mono ?_
  rintro e w1 ⟨rfl, rfl⟩
  cases b with
  | true =>
    go_wp2_with fail
    go_ret
    have hx : insI xs x = xs := by unfold insI; rw [if_pos HB.out]
    rw [hx]
    exact ⟨⟨_, rfl, HV.out, tie_same rfl⟩, Below.refl _ _⟩
  | false =>
    go_wp2_with fail
    have h00 : OwnI w1.heap.size w1 (.slice none 0 0) (addZ xs x 0) := by unfold addZ; rw [if_pos (Nat.zero_le _)]; exact own_nil _ _
    obtain ⟨p, hp⟩ : ∃ p, xs.countP (fun y => decide (y < x)) = p := ⟨_, rfl⟩
    have HP := Lib.hid hp
    have hpl : p ≤ xs.length := by rw [← hp]; exact countP_le xs x
    clear hp
    go_loopw [5, 6, 7] (fun v d i wr => ∃ k : Nat, i = .int .i64 k ∧ k ≤ xs.length ∧ d = .bool (decide (p < k)) ∧ Hid (OwnI w1.heap.size wr v (addZ xs x k) ∧ Below w1.heap.size w1 wr)) (fun _ _ i _ => xs.length - (Go.RowKit.intOf i).toNat)
    case atStart => exact ⟨0, rfl, Nat.zero_le _, by simp, h00, Below.refl _ _⟩
    case round =>
      clear h00
      obtain ⟨k, rfl, hk, rfl, HQ⟩ := hrel
      obtain ⟨q1, q2⟩ := HQ.out
      have hz := q2.size
      have hzl := addZ_len xs x k
      obtain ⟨zs, hzs⟩ : ∃ zs, addZ xs x k = zs := ⟨_, rfl⟩
      rw [hzs] at q1 hzl
      have hor : wr.ownsRow w1.heap.size 3 1 u5 zs.length (zs.map (Value.int .i64)) := q1
      have HO := Lib.hid hor
      have HQ2 := Lib.hid (And.intro q1 (And.intro q2 hzs))
      by_cases hlt : k < xs.length
      · obtain ⟨g, o, rfl, hg, ha⟩ := HA.out (by omega)
        have a1 : wr.cell? ⟨g, o + k, none⟩ = some (.int .i64 xs[k]) := (World.cell?_of_block (w := w1) (w' := wr) (a := ⟨g, o + k, none⟩) (q2.block g hg)).trans (ha k hlt)
        have hne : xs[k] ≠ x := fun e => by
          have := HB.out
          rw [← e] at this
          simp at this
        have hlow : k < p → xs[k] < x := fun h => low_lt HU.out (by rw [HP.out]; exact h) hlt
        have hhigh : p ≤ k → x ≤ xs[k] := fun h => high_ge HU.out (by rw [HP.out]; exact h) hlt
        have e1 : k < p → addZ xs x (k + 1) = addZ xs x k ++ [xs[k]] := fun h => addZ_low (by rw [HP.out]; exact h) hlt
        have e2 : k = p → addZ xs x (k + 1) = (addZ xs x k ++ [x]) ++ [xs[k]] := fun h => addZ_at (by rw [HP.out]; exact h) hlt
        have e3 : p < k → addZ xs x (k + 1) = addZ xs x k ++ [xs[k]] := fun h => addZ_high (by rw [HP.out]; exact h) hlt
        obtain ⟨y, hy⟩ : ∃ y, xs[k] = y := ⟨_, rfl⟩
        rw [hy] at a1 hne hlow hhigh e1 e2 e3
        rw [hzs] at e1 e2 e3
        have p1 : (k : Int) < (xs.length : Int) := by omega
        have HE := Lib.hid (And.intro e1 (And.intro e2 e3))
        clear ha hy e1 e2 e3 q1 q2 hzs hor
        rcases Nat.lt_trichotomy k p with h | h | h
        · have hd : decide (p < k) = false := by simp; omega
          have hx : ¬ (x < y) := by have := hlow h; omega
          rw [hd]
          clear hlow hhigh hd
          go_wp2_with (at_builtin; refine Hid.out ?_)
          refine Lib.hid ?_
          refine wpList_app_fr rfl _ _ 43 rfl w1.heap.size 3 i0 _ 1 8 Tryz.underlying43 hi hz0 hz1 hz2 rfl (by decide) u5 (zs).length ((zs).map (Value.int .i64)) rfl HO.out #[.int .i64 y] _ rfl rfl rfl (by intro u hu; simp at hu; subst hu; rfl) (by omega) (by decide) (by omega) ?_
          intro v1 W2 o1 f1
          obtain ⟨q1, q2, hzs⟩ := HQ2.out
          have HN : Hid (OwnI w1.heap.size W2 v1 (addZ xs x (k + 1)) ∧ Below w1.heap.size w1 W2) := ⟨by rw [HE.out.1 h]; exact own_snoc o1, q2.trans (f1.below q2.size fun j _ ej => (q1.lt j ej).1)⟩
          clear q1 q2 hzs o1 f1
          go_wp2_with fail
          go_roundw
          case rel => exact ⟨k + 1, by go_num, by omega, by simp; omega, HN⟩
          case measure => simp [Go.RowKit.intOf]; omega
        · have hd : decide (p < k) = false := by simp; omega
          have hx : x < y := by have := hhigh (by omega); omega
          have h9 : p ≤ k := by omega
          have h8 : k ≤ p := by omega
          rw [hd]
          have E2 := Lib.hid (HE.out.2.1 h)
          clear hlow hhigh hd h
          go_wp2_with (at_builtin; refine Hid.out ?_)
          refine Lib.hid ?_
          refine wpList_app_fr rfl _ _ 43 rfl w1.heap.size 3 i0 _ 1 8 Tryz.underlying43 hi hz0 hz1 hz2 rfl (by decide) u5 (zs).length ((zs).map (Value.int .i64)) rfl HO.out #[.int .i64 x] _ rfl rfl rfl (by intro u hu; simp at hu; subst hu; rfl) (by omega) (by decide) (by omega) ?_
          intro v1 W2 o1 f1
          have o2 := own_snoc o1
          have zl2 : (zs ++ [x]).length ≤ 1000000 := by rw [List.length_append]; simp; omega
          have zw2 := f1.size
          have a2 : W2.cell? ⟨g, o + k, none⟩ = some (.int .i64 y) := (f1.cell (p := ⟨g, o + k, none⟩) (by have := hg; simp; omega) (fun e => by have := (HQ2.out.1.lt g e).1; omega)).trans a1
          obtain ⟨z2, hz2e⟩ : ∃ z2, zs ++ [x] = z2 := ⟨_, rfl⟩
          rw [hz2e] at o2 zl2
          have hor2 : W2.ownsRow w1.heap.size 3 1 v1 z2.length (z2.map (Value.int .i64)) := o2
          have HO2 := Lib.hid hor2
          have HF := Lib.hid (And.intro o2 (And.intro f1 hz2e))
          clear o1 o2 f1 hor2 hz2e
          go_wp2_with (at_builtin; refine Hid.out ?_)
          refine Lib.hid ?_
          refine wpList_app_fr rfl _ _ 43 rfl w1.heap.size 3 i0 _ 1 8 Tryz.underlying43 hi hz0 hz1 hz2 rfl (by decide) v1 (z2).length ((z2).map (Value.int .i64)) rfl HO2.out #[.int .i64 y] _ rfl rfl rfl (by intro u hu; simp at hu; subst hu; rfl) (by omega) (by decide) (by omega) ?_
          intro v2 W3 o3 f3
          obtain ⟨q1, q2, hzs⟩ := HQ2.out
          obtain ⟨o2, f1, hz2e⟩ := HF.out
          have q3 : Below w1.heap.size w1 W2 := q2.trans (f1.below q2.size fun j _ ej => (q1.lt j ej).1)
          have HN : Hid (OwnI w1.heap.size W3 v2 (addZ xs x (k + 1)) ∧ Below w1.heap.size w1 W3) := ⟨by rw [E2.out, hz2e]; exact own_snoc o3, q3.trans (f3.below q3.size fun j _ ej => (o2.lt j ej).1)⟩
          clear q1 q2 hzs o2 f1 hz2e q3 o3 f3
          go_wp2_with fail
          go_roundw
          case rel => exact ⟨k + 1, by go_num, by omega, by simp; omega, HN⟩
          case measure => simp [Go.RowKit.intOf]; omega
        · have hd : decide (p < k) = true := by simp; omega
          rw [hd]
          clear hlow hhigh hd
          go_wp2_with (at_builtin; refine Hid.out ?_)
          refine Lib.hid ?_
          refine wpList_app_fr rfl _ _ 43 rfl w1.heap.size 3 i0 _ 1 8 Tryz.underlying43 hi hz0 hz1 hz2 rfl (by decide) u5 (zs).length ((zs).map (Value.int .i64)) rfl HO.out #[.int .i64 y] _ rfl rfl rfl (by intro u hu; simp at hu; subst hu; rfl) (by omega) (by decide) (by omega) ?_
          intro v1 W2 o1 f1
          obtain ⟨q1, q2, hzs⟩ := HQ2.out
          have HN : Hid (OwnI w1.heap.size W2 v1 (addZ xs x (k + 1)) ∧ Below w1.heap.size w1 W2) := ⟨by rw [HE.out.2.2 h]; exact own_snoc o1, q2.trans (f1.below q2.size fun j _ ej => (q1.lt j ej).1)⟩
          clear q1 q2 hzs o1 f1
          go_wp2_with fail
          go_roundw
          case rel => exact ⟨k + 1, by go_num, by omega, by simp; omega, HN⟩
          case measure => simp [Go.RowKit.intOf]; omega
      · obtain rfl : k = xs.length := by omega
        have p1 : ¬ ((xs.length : Int) < (xs.length : Int)) := by omega
        have hend := addZ_end xs x HB.out
        rw [HP.out, hzs] at hend
        clear q1 q2 hzs hor
        by_cases h : p < xs.length
        · have hd : decide (p < xs.length) = true := by simp; omega
          rw [if_pos h] at hend
          rw [hd]
          clear hd
          go_wp2_with fail
          go_ret
          obtain ⟨q1, q2, hzs⟩ := HQ2.out
          first | rw [hend] | skip
          exact ⟨⟨u5, rfl, row_base' q1 hbw, tie_own q1⟩, q2⟩
        · have hd : decide (p < xs.length) = false := by simp; omega
          rw [if_neg h] at hend
          rw [hd]
          clear hd
          go_wp2_with (at_builtin; refine Hid.out ?_)
          refine Lib.hid ?_
          refine wpList_app_fr rfl _ _ 43 rfl w1.heap.size 3 i0 _ 1 8 Tryz.underlying43 hi hz0 hz1 hz2 rfl (by decide) u5 (zs).length ((zs).map (Value.int .i64)) rfl HO.out #[.int .i64 x] _ rfl rfl rfl (by intro u hu; simp at hu; subst hu; rfl) (by omega) (by decide) (by omega) ?_
          intro v1 W2 o1 f1
          have HF := Lib.hid (And.intro (own_snoc o1) f1)
          clear o1 f1
          go_wp2_with fail
          go_ret
          obtain ⟨q1, q2, hzs⟩ := HQ2.out
          obtain ⟨o2, f1⟩ := HF.out
          first | rw [hend] | skip
          exact ⟨⟨v1, rfl, row_base' o2 hbw, tie_own o2⟩, q2.trans (f1.below q2.size fun j _ ej => (q1.lt j ej).1)⟩
end Go.Proofs.YteiiaocohpbanaaGreat
end
section
/- Layer 11: the document's By. -/
namespace Go.Proofs.YteiiaocohpbanaaGreat
set_option linter.unusedVariables false
set_option linter.unusedSimpArgs false
open Go Go.RowKit Go.Maps Go.Sort Go.Shelf Go.Lib

/-- the left things of b among some pairs -/
def byL (U : List PairT) (b : List UInt8) : List Int := insAll [] ((U.filter fun p => decide (p.2 = b)).map (·.1))
theorem byL_snoc_yes (U : List PairT) {b : List UInt8} {p : PairT} (h : p.2 = b) : byL (U ++ [p]) b = insI (byL U b) p.1 := by
  unfold byL
  rw [List.filter_append, List.map_append, List.filter_cons_of_pos (by simpa using h)]
  exact insAll_snoc _ _ _
theorem byL_snoc_no (U : List PairT) {b : List UInt8} {p : PairT} (h : p.2 ≠ b) : byL (U ++ [p]) b = byL U b := by
  unfold byL
  rw [List.filter_append, List.filter_cons_of_neg (by simpa using h)]
  simp
theorem byL_up (U : List PairT) (b : List UInt8) : (byL U b).Pairwise (· < ·) := insAll_up List.Pairwise.nil _
theorem byL_mem (U : List PairT) (b : List UInt8) (a : Int) : a ∈ byL U b ↔ (a, b) ∈ U := by
  unfold byL
  rw [insAll_mem]
  simp only [List.not_mem_nil, false_or, List.mem_map, List.mem_filter, decide_eq_true_eq]
  constructor
  · rintro ⟨p, ⟨h1, h2⟩, rfl⟩; rw [← h2]; exact h1
  · intro h; exact ⟨_, ⟨h, rfl⟩, rfl⟩
theorem byL_len (U : List PairT) (b : List UInt8) : (byL U b).length ≤ U.length := by
  unfold byL
  have h := (insAll_len [] ((U.filter fun p => decide (p.2 = b)).map (·.1))).1
  rw [List.length_map] at h
  have := List.length_filter_le (fun p : PairT => decide (p.2 = b)) U
  simp only [List.length_nil] at h
  omega
def ByPR (D : List Int) (w : World) (e : Ending) (w' : World) : Prop := (∃ v, e = .returned v ∧ OwnI w.heap.size w' v D) ∧ Below w.heap.size w w'
def ByG (w : World) (D : List Int) (v : Value) (W : World) : Prop := OwnI w.heap.size W v D ∧ Below w.heap.size w W
set_option maxRecDepth 100000 in
set_option maxHeartbeats 8000000 in
theorem ref_by {base : Nat} {w : World} {x : Nat} {most : Int} {U : List PairT} (h : RefPR base w x most U) (hlen : U.length ≤ 900000) (b : List UInt8) :
    Calls Tryz.prog 23 #[.pointer (some ⟨x, 0, none⟩), .string (bs b)] w (ByPR (byL U b) w) := by
  obtain ⟨h0, A, c, h2, h3, h4⟩ := h
  have hx : ∀ W, Below w.heap.size w W → W.cell? ⟨x, 1, none⟩ = some (.slice A U.length c) := fun W hb => (blk_cell ((Fr.of_below hb).blk (X := fun _ => False) h2 fun e => e) 1).trans rfl
  have hrd : ∀ W, Below w.heap.size w W → ReadsPR W A U := fun W hb => reads_ownPR (ownPR_kept h3 fun g hg => hb.block g (h3.lt g hg).2)
  have HC := Lib.hid (And.intro hx hrd)
  have H0 : Hid (ByG w (byL (U.take 0) b) (.slice none 0 0) w) := ⟨own_nil _ _, Below.refl _ _⟩
  clear hx hrd h0 h2 h3 h4
  go_enter Tryz.func23, Tryz.ntmps23
  go_wp2_with fail
  go_loopw [5, 6] (fun o i wr => ∃ (j : Nat) (A1 : Option Addr) (n1 c1 : Nat), i = .int .i64 j ∧ o = .slice A1 n1 c1 ∧ j ≤ U.length ∧ Hid (ByG w (byL (U.take j) b) (.slice A1 n1 c1) wr)) (fun _ i _ => U.length - (RowKit.intOf i).toNat)
  case atStart => exact ⟨0, none, 0, 0, rfl, rfl, Nat.zero_le _, H0⟩
  case round =>
    obtain ⟨j, A1, n1, c1, rfl, rfl, hj, HF⟩ := hrel
    clear H0
    have hcx := HC.out.1 wr HF.out.2
    by_cases hlt : j < U.length
    · obtain ⟨g, o, rfl, hg, hcell⟩ := HC.out.2 wr HF.out.2 (by omega)
      obtain ⟨e1, e2⟩ := hcell j hlt
      have htk : U.take (j + 1) = U.take j ++ [U[j]] := List.take_succ_eq_append_getElem hlt
      obtain ⟨p1, p2⟩ : ∃ p : PairT, U[j] = p := ⟨_, rfl⟩
      rw [p2] at e1 e2 htk
      obtain ⟨ka, kb⟩ := p1
      dsimp only at e1 e2
      have q1 : (j : Int) < (U.length : Int) := by omega
      have q0 : (0 : Int) ≤ (j : Int) := by omega
      have HT := Lib.hid htk
      clear hcell p2 htk hg
      by_cases hkb : kb = b
      · subst hkb
        have hb1 : ((bs kb).toList == (bs kb).toList) = true := by simp
        have hl := byL_len (U.take j) kb
        rw [List.length_take] at hl
        have HA := Lib.hid (add10 HF.out.1 (byL_up _ _) (by omega) HF.out.2.size ka)
        clear hl
        go_wp2_with fail
        refine HA.out.mono ?_
        rintro e W2 ⟨⟨v2, rfl, o2, _⟩, b2⟩
        obtain ⟨A2, c2, rfl⟩ := row_slice o2
        have HN : Hid (ByG w (byL (U.take (j + 1)) kb) (.slice A2 (insI (byL (U.take j) kb) ka).length c2) W2) := ⟨by rw [HT.out, byL_snoc_yes _ rfl]; exact o2, HF.out.2.trans (b2.mono HF.out.2.size)⟩
        clear o2 b2
        go_wp2_with fail
        go_roundw
        case rel => exact ⟨j + 1, A2, _, c2, by go_num, rfl, by omega, HN⟩
        case measure => simp [RowKit.intOf]; omega
      · have hb1 : ((bs kb).toList == (bs b).toList) = false := by rw [beq_bs]; simpa using hkb
        have HN : Hid (ByG w (byL (U.take (j + 1)) b) (.slice A1 n1 c1) wr) := by rw [HT.out, byL_snoc_no _ hkb]; exact HF
        go_wp2_with fail
        go_roundw
        case rel => exact ⟨j + 1, A1, n1, c1, by go_num, rfl, by omega, HN⟩
        case measure => simp [RowKit.intOf]; omega
    · have q1 : ¬ (j : Int) < (U.length : Int) := by omega
      obtain rfl : j = U.length := by omega
      rw [List.take_length] at HF
      go_wp2_with fail
      go_ret
      exact ⟨⟨_, rfl, HF.out.1⟩, HF.out.2⟩
end Go.Proofs.YteiiaocohpbanaaGreat
end
