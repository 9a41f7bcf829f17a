/- Layer 13: WasStays. -/
import Derived.Test.YtkifblbmppjicaaWasG
import Derived.Test.YtkifblbmppjicaaDecW
import Derived.Stop.RegionWithIn
namespace Go.Proofs.Ytkifblbmppjicaa
set_option linter.unusedVariables false
set_option linter.unusedSimpArgs false
open Go.RowKit Go.Shelf
attribute [local go_sem] Oper.semAt_some

/-- what went, i of some numbers under x -/
def histP (N : Nat) (l : List Int) (i : Nat) : List Ent := if N = 0 then [] else (l.take i).map fun z => (⟨#[120]⟩, z)
theorem histP_zero (N : Nat) (l : List Int) : histP N l 0 = [] := by unfold histP; split <;> simp
theorem histP_succ (N : Nat) (l : List Int) (i : Nat) (h : i < l.length) : went N (histP N l i) (⟨#[120]⟩, l[i]) = histP N l (i + 1) := by
  unfold went histP
  by_cases h0 : N = 0
  · rw [if_pos h0, if_pos h0, if_pos h0]
  · rw [if_neg h0, if_neg h0, if_neg h0, List.take_succ_eq_append_getElem h, List.map_append]; rfl
theorem histP_len (N : Nat) (l : List Int) : min (histP N l l.length).length N = min l.length N := by
  unfold histP
  by_cases h0 : N = 0
  · subst h0; simp
  · rw [if_neg h0]; simp
theorem hist_at (N : Nat) (l : List Int) {pre r : List Ent} {x : Ent} (h : pre ++ x :: r = lastN N (histP N l l.length)) : ∃ hk : l.length - 1 - pre.length < l.length, x.2 = l[l.length - 1 - pre.length] ∧ pre.length < l.length := by
  have hlen := congrArg List.length h
  rw [lastN_len, histP_len, List.length_append, List.length_cons] at hlen
  have hlt : pre.length < l.length := by omega
  have hN : ¬ N = 0 := by omega
  refine ⟨by omega, ?_, hlt⟩
  have hx : (lastN N (histP N l l.length))[pre.length]? = some x := by rw [← h]; simp
  unfold lastN histP at hx
  rw [if_neg hN, List.take_length, List.getElem?_take, if_pos (by omega), List.getElem?_reverse (by simpa using hlt), List.length_map, List.getElem?_map, List.getElem?_eq_getElem (by omega)] at hx
  simp at hx
  rw [← hx]

theorem past_own {β : Type} (q R N : Nat) : Own (fun (_ : β) W => ∃ h, PastAt W q R N h) := fun s X Y row hs hg hrow => by
  obtain ⟨h, hP⟩ := hs
  obtain ⟨cs, hr, _⟩ := hP.row
  have ne : ∀ {B : Nat} {cs : Array Value} {T : TypeId}, X.heap[B]? = some (.cells cs T (0, 0)) → some B ≠ row := fun {B cs T} hb e => by
    obtain ⟨o, ho, hc⟩ := hrow B e.symm
    rw [hb] at ho; cases ho; cases hc
  exact ⟨h, past_kept hP (hg.block q (blk_lt hP.hd) (ne hP.hd)) (hg.block R (blk_lt hr) (ne hr))⟩

set_option maxRecDepth 100000 in
set_option maxHeartbeats 4000000 in
theorem wasStays_main (N : Nat) (hN : N ≤ 255) (A : Option Addr) (l : List Int) (c : Nat) (w : World) (hl : l.length ≤ 40) (hc : 0 < l.length → ∃ g o, A = some ⟨g, o, none⟩ ∧ g < w.heap.size ∧ ∀ i (h : i < l.length), w.cell? ⟨g, o + i, none⟩ = some (.int .i64 l[i])) :
    Calls Try.prog 4 #[.int .u8 N, .slice A l.length c] w fun e w' => e = .returned (.bool true) ∧ Below w.heap.size w w' := by
  refine (callsIn_wide (n := 6)).1 ?_
  refine callsIn_of_wp_marks Try.func4 rfl trivial ?_ rfl
  simp only [Try.ntmps4, List.size_toArray, List.length_cons, List.length_nil, Nat.reduceAdd, Nat.reduceSub, Array.replicate_succ, Array.replicate_zero, List.push_toArray, List.append_toArray, List.nil_append, List.cons_append]
  have HC := Lib.hid hc
  have hl1 : ¬ (l.length : Int) > 40 := by omega
  clear hc
  gi_wp2_with fail
  refine ⟨trivial, ((callsIn_wide (n := 5)).2 (awake13 _)).mono ?_⟩
  rintro e w1 ⟨rfl, q1⟩
  have hz1 := q1.size
  rw [World.size_alloc, World.size_alloc] at hz1
  have b0 : w1.heap[w.heap.size]? = some (.cells #[.slice A l.length c] 35 (0, 0)) := (q1.block _ (by simp; omega)).trans (blk_alloc (heap_alloc_new w _) _)
  have b1 : w1.heap[w.heap.size + 1]? = some (.cells #[.bool false] 4 (0, 0)) := (q1.block _ (by simp)).trans (heap_alloc2_new w _ _)
  have hB1 : Below w.heap.size w w1 := (((Below.refl _ w).alloc (Nat.le_refl _) _).alloc (by simp) _).trans (q1.mono (by simp; omega))
  have H1 := Lib.hid (And.intro b0 (And.intro b1 hB1))
  clear b0 b1 hB1 q1
  gi_wp2_with fail
  refine ⟨trivial, ((callsIn_wide (n := 5)).2 (was_new N (by omega) _)).mono ?_⟩
  rintro e w2 ⟨rfl, hw2⟩
  have hP2 := past_fresh N w1
  rw [← hw2] at hP2
  have hB2 : Below w1.heap.size w1 w2 := by rw [hw2]; exact ((Below.refl _ w1).alloc (Nat.le_refl _) _).alloc (by simp) _
  have hz2 : w2.heap.size = w1.heap.size + 2 := by rw [hw2]; simp
  clear hw2
  have b0 : w2.heap[w.heap.size]? = _ := (hB2.block _ (by omega)).trans H1.out.1
  have b1 : w2.heap[w.heap.size + 1]? = _ := (hB2.block _ (by omega)).trans H1.out.2.1
  have hB3 : Below w.heap.size w w2 := H1.out.2.2.trans (hB2.mono (by omega))
  have c0 := blk_cell b0 0
  have l0 : w.heap.size < w2.heap.size := by omega
  have l1 : w.heap.size + 1 < w2.heap.size := by omega
  have H2 := Lib.hid (And.intro hz2 (And.intro b0 (And.intro b1 (And.intro hB3 hP2))))
  clear hz2 b0 b1 hB2 hB3 hP2
  gi_wp2_with fail
  obtain ⟨hz2, b0, b1, hB3, hP2⟩ := H2.out
  obtain ⟨w3, hw3⟩ : ∃ w3, w2.alloc (.cells #[.pointer (some ⟨w1.heap.size + 1, 0, none⟩)] 24) = w3 := ⟨_, rfl⟩
  have b3 : w3.heap[w2.heap.size]? = some (.cells #[.pointer (some ⟨w1.heap.size + 1, 0, none⟩)] 24 (0, 0)) := by rw [← hw3]; exact heap_alloc_new _ _
  have b0 := hw3 ▸ blk_alloc b0 (.cells #[.pointer (some ⟨w1.heap.size + 1, 0, none⟩)] 24)
  have b1 := hw3 ▸ blk_alloc b1 (.cells #[.pointer (some ⟨w1.heap.size + 1, 0, none⟩)] 24)
  have hB3 : Below w.heap.size w w3 := by rw [← hw3]; exact hB3.alloc hB3.size _
  have hP3 : PastAt w3 (w1.heap.size + 1) w1.heap.size N [] := by
    rw [← hw3]
    exact past_kept hP2 (Below.heap_alloc _ _ _ (blk_lt hP2.hd)) (by obtain ⟨cs, hr, _⟩ := hP2.row; exact Below.heap_alloc _ _ _ (blk_lt hr))
  have hz3 : w3.heap.size = w2.heap.size + 1 := by rw [← hw3]; simp
  rw [hw3]
  obtain ⟨B, hB⟩ : ∃ B, w.heap.size = B := ⟨_, rfl⟩
  obtain ⟨R, hR⟩ : ∃ R, w1.heap.size = R := ⟨_, rfl⟩
  obtain ⟨P, hPx⟩ : ∃ P, w2.heap.size = P := ⟨_, rfl⟩
  rw [hPx] at b3 hz3 l0 l1 hz2 ⊢
  rw [hR] at b3 hP3 hz2 hz1 ⊢
  rw [hB] at b0 b1 hB3 l0 l1 hz1 ⊢
  have hBe := Nat.le_of_eq hB
  have hBe2 := Nat.le_of_eq hB.symm
  have hBR : B + 2 ≤ R := by omega
  have hRP : P = R + 2 := by omega
  have HB0 := Lib.hid (And.intro hB (And.intro hRP hz3))
  have hPR : R + 1 < P := by omega
  have hS3 : (w3.heap[B]? = some (.cells #[.slice A l.length c] 35 (0, 0)) ∧ w3.heap[B + 1]? = some (.cells #[.bool false] 4 (0, 0)) ∧ w3.heap[P]? = some (.cells #[.pointer (some ⟨R + 1, 0, none⟩)] 24 (0, 0))) ∧ PastAt w3 (R + 1) R N (histP N l 0) ∧ Below B w w3 := ⟨⟨b0, b1, b3⟩, by rw [histP_zero]; exact hP3, hB3⟩
  have HS3 := Lib.hid hS3
  clear hS3 b0 b1 b3 hB3 hP3 hP2 hz2 hz1 hz3 hw3 hB hR hPx hRP c0 l0 l1 H1 H2
  gi_loopw [7] (fun c1 wr => ∃ i : Nat, c1 = .int .i64 i ∧ i ≤ l.length ∧ Hid ((wr.heap[B]? = some (.cells #[.slice A l.length c] 35 (0, 0)) ∧ wr.heap[B + 1]? = some (.cells #[.bool false] 4 (0, 0)) ∧ wr.heap[P]? = some (.cells #[.pointer (some ⟨R + 1, 0, none⟩)] 24 (0, 0))) ∧ PastAt wr (R + 1) R N (histP N l i) ∧ Below B w wr)) (fun c1 _ => l.length - (intOf c1).toNat)
  case atStart => exact ⟨0, rfl, Nat.zero_le _, HS3⟩
  case round =>
    obtain ⟨i, rfl, hi, HS⟩ := hrel
    obtain ⟨⟨b0, b1, b2⟩, hP, hBl⟩ := HS.out
    have c0 := blk_cell b0 0
    have c2 := blk_cell b2 0
    by_cases hlt : i < l.length
    · obtain ⟨g, o, rfl, hg, hcell⟩ := HC.out (by omega)
      have e0 : wr.cell? ⟨g, o + i, none⟩ = some (.int .i64 l[i]) := (hBl.cell (p := ⟨g, o + i, none⟩) (show g < B by omega)).trans (hcell i hlt)
      have hsucc := histP_succ N l i hlt
      obtain ⟨z, hz⟩ : ∃ z, l[i] = z := ⟨_, rfl⟩
      rw [hz] at e0 hsucc
      have H := Lib.hid (And.intro b0 (And.intro b1 (And.intro b2 (And.intro hP (And.intro hBl hsucc)))))
      have hlti : (i : Int) < (l.length : Int) := by omega
      have hi0 : (0 : Int) ≤ (i : Int) := by omega
      clear b0 b1 b2 hP hBl hsucc hcell hz
      gi_wp2_with fail
      refine wpIn_noPanic ?_
      gi_region_with (first | (refine ⟨trivial, ?_⟩; gi_at_call 11; refine ((callsIn_wide (n := 5)).2 (past_put (past_drew H.out.2.2.2.1) (by omega) _ _)).mono ?_; rintro e W1 ⟨rfl, hP1, hF1⟩) | fail)
      all_goals
        have hnew : (W1.heap[B]? = some (.cells #[.slice (some ⟨g, o, none⟩) l.length c] 35 (0, 0)) ∧ W1.heap[B + 1]? = some (.cells #[.bool false] 4 (0, 0)) ∧ W1.heap[P]? = some (.cells #[.pointer (some ⟨R + 1, 0, none⟩)] 24 (0, 0))) ∧ PastAt W1 (R + 1) R N (histP N l (i + 1)) ∧ Below B w W1 := by
          obtain ⟨b0, b1, b2, hP, hBl, hsucc⟩ := H.out
          rw [hsucc] at hP1
          exact ⟨⟨hF1.blk b0 (by rintro (h | h) <;> omega), hF1.blk b1 (by rintro (h | h) <;> omega), hF1.blk b2 (by rintro (h | h) <;> omega)⟩, hP1, hBl.drew.trans (hF1.below (w := wr.drew) (by have := hBl.size; show B ≤ wr.heap.size; omega) fun k _ hk => by rcases hk with rfl | rfl <;> omega)⟩
        have HN := Lib.hid hnew
        clear hnew hP1 hF1
        dsimp only [NoPanic]
        gi_wp2_with fail
        go_roundw
        case rel => exact ⟨i + 1, by go_num, by omega, HN⟩
        case measure => simp [intOf]; omega
    · obtain rfl : i = l.length := by omega
      have H := Lib.hid (And.intro b0 (And.intro b1 (And.intro b2 (And.intro hP hBl))))
      have hlen := past_len hP
      rw [histP_len] at hlen
      have HL := Lib.hid hlen
      have hzz := hBl.size
      have l0 : B < wr.heap.size := blk_lt b0
      have l1 : B + 1 < wr.heap.size := blk_lt b1
      have l2 : P < wr.heap.size := blk_lt b2
      clear b0 b1 b2 hP hBl hlen
      gi_wp2_with fail
      refine ⟨trivial, ((callsIn_wide (n := 5)).2 HL.out).mono ?_⟩
      rintro e W1 ⟨rfl, rfl⟩
      obtain ⟨M, hM⟩ : ∃ M, min l.length N = M := ⟨_, rfl⟩
      rw [hM]
      gi_wp2_with fail
      have hPa : PastAt (wr.alloc (.cells #[.int .i64 M] 3)) (R + 1) R N (histP N l l.length) := past_kept H.out.2.2.2.1 (Below.heap_alloc _ _ _ (blk_lt H.out.2.2.2.1.hd)) (by obtain ⟨cs, hr, _⟩ := H.out.2.2.2.1.row; exact Below.heap_alloc _ _ _ (blk_lt hr))
      have hM' : (lastN N (histP N l l.length)).length = M := by rw [lastN_len, histP_len]; exact hM
      refine ⟨trivial, ((callsIn_wide (n := 5)).2 (past_all hPa (by omega))).mono ?_⟩
      rintro e W2 ⟨⟨f, rfl, D, v, rfl, hD0, hvD, hbox, hrow⟩, q2⟩
      have hnn := told_notnil
      have HM := Lib.hid (And.intro hM (And.intro hM' (And.intro hPa (And.intro hD0 (And.intro hvD (And.intro hbox (And.intro hrow q2)))))))
      clear hM hM' hPa hD0 hvD hbox hrow q2 c0 c2 l0 l1 l2
      gi_wp2_with fail
      clear hnn
      obtain ⟨hM, hM', hPa, hD0, hvD, hbox, hrow, q2⟩ := HM.out
      obtain ⟨b0, b1, b2, hP, hBl⟩ := H.out
      obtain ⟨E, hE⟩ : ∃ E, wr.heap.size = E := ⟨_, rfl⟩
      have nw : (wr.alloc (.cells #[.int .i64 M] 3)).heap[E]? = some (.cells #[.int .i64 M] 3 (0, 0)) := by rw [← hE]; exact heap_alloc_new _ _
      have a0 : W2.heap[B]? = _ := (q2.block B (by have := blk_lt b0; simp; omega)).trans (blk_alloc b0 _)
      have a1 : W2.heap[B + 1]? = _ := (q2.block (B + 1) (by have := blk_lt b1; simp; omega)).trans (blk_alloc b1 _)
      have a2 : W2.heap[P]? = _ := (q2.block P (by have := blk_lt b2; simp; omega)).trans (blk_alloc b2 _)
      have a3 : W2.heap[E]? = _ := (q2.block E (by simp; omega)).trans nw
      have hPb : PastAt W2 (R + 1) R N (histP N l l.length) := past_kept hPa (q2.block _ (blk_lt hPa.hd)) (by obtain ⟨cs, hr, _⟩ := hPa.row; exact q2.block _ (blk_lt hr))
      have hBb : Below B w W2 := (hBl.alloc (by omega) _).trans (q2.mono (by simp; omega))
      rw [World.size_alloc, hE] at hD0 hrow
      obtain ⟨W3, hW3⟩ : ∃ W3, W3 = (W2.alloc (.cells #[.int .i64 0] 3)).alloc (.cells #[.bool true] 4) := ⟨_, rfl⟩
      rw [← hW3]
      have hz3 : W3.heap.size = W2.heap.size + 2 := by rw [hW3]; simp
      have hb23 : Below W2.heap.size W2 W3 := by rw [hW3]; exact ((Below.refl _ _).alloc (Nat.le_refl _) _).alloc (by simp) _
      have n1 : W3.heap[W2.heap.size]? = some (.cells #[.int .i64 ((0 : Nat) : Int)] 3 (0, 0)) := by rw [hW3]; exact blk_alloc (heap_alloc_new _ _) _
      have n2 : W3.heap[W2.heap.size + 1]? = some (.cells #[.bool true] 4 (0, 0)) := by rw [hW3]; have := heap_alloc_new (W2.alloc (.cells #[.int .i64 0] 3)) (.cells #[.bool true] 4); rwa [World.size_alloc] at this
      have d0 : W3.heap[B]? = _ := (hb23.block _ (blk_lt a0)).trans a0
      have d1 : W3.heap[B + 1]? = _ := (hb23.block _ (blk_lt a1)).trans a1
      have d2 : W3.heap[P]? = _ := (hb23.block _ (blk_lt a2)).trans a2
      have d3 : W3.heap[E]? = _ := (hb23.block _ (blk_lt a3)).trans a3
      have d4 : W3.heap[D]? = _ := (hb23.block _ (blk_lt hbox)).trans hbox
      have d5 : W3.ownsRow (E + 1) 82 2 v _ _ := row_same hrow fun g hg => hb23.block g (hrow.lt g hg).2
      have d6 : PastAt W3 (R + 1) R N (histP N l l.length) := past_kept hPb (hb23.block _ (blk_lt hPb.hd)) (by obtain ⟨cs, hr, _⟩ := hPb.row; exact hb23.block _ (blk_lt hr))
      have d7 : Below B w W3 := hBb.trans (hb23.mono (by have := hBb.size; omega))
      have hvl := d5.lt
      have hvl2 := hrow.lt
      have hDl := blk_lt d4
      have hDl2 := blk_lt hbox
      have hEl : E < W2.heap.size := blk_lt a3
      have hM9 : M ≤ 40 := by omega
      have HMN := Lib.hid hM
      have hPE : P < E := by have := blk_lt b2; omega
      obtain ⟨G, hG⟩ : ∃ G, W2.heap.size = G := ⟨_, rfl⟩
      rw [hG] at n1 n2 hz3 hvl2 hDl2 hEl ⊢
      rw [hE]
      have hz3' := Nat.le_of_eq hz3
      have hz3'' := Nat.le_of_eq hz3.symm
      clear hW3 hb23 a0 a1 a2 a3 hPb hBb hPa b0 b1 b2 hP hBl hrow hbox nw q2 hG hM hE hz3 HM H HL
      refine wpIn_rangeT (X := fun _ => False) (Y := taleY D v) (xs := lastN N (histP N l l.length)) (encs := encE) (w0 := W3) (gf := 53) (lb := #[.pointer (some ⟨D, 0, none⟩)])
        (fun pre V => (((V.heap[B]? = some (.cells #[.slice A l.length c] 35 (0, 0)) ∧ V.heap[B + 1]? = some (.cells #[.bool false] 4 (0, 0))) ∧ (V.heap[P]? = some (.cells #[.pointer (some ⟨R + 1, 0, none⟩)] 24 (0, 0)) ∧ V.heap[E]? = some (.cells #[.int .i64 M] 3 (0, 0))) ∧ V.heap[G]? = some (.cells #[.int .i64 (pre.length : Nat)] 3 (0, 0)) ∧ V.heap[G + 1]? = some (.cells #[.bool true] 4 (0, 0))) ∧ ∃ h, PastAt V (R + 1) R N h) ∧ Below B w V)
        (fun _ _ _ => False)
        rfl (told_tells 5 (by omega) _ D v _ W3 (by rw [hM']; omega) d4 d5) (Below.refl _ _) (fun _ h => h.elim) (fun b hb => by rcases hb with rfl | hb; exact hDl; exact (hvl b hb).2) rfl (by omega) trivial (enters_of Try.func53 (by kernel_rfl) rfl) (fun _ => rfl)
        (OwnFrom.and (OwnFrom.and (OwnFrom.and (OwnFrom.and ((blk_own B _ fun _ => #[.slice A l.length c]).from _) ((blk_own (B + 1) _ fun _ => #[.bool false]).from _)) (OwnFrom.and (OwnFrom.and ((blk_own P _ fun _ => #[.pointer (some ⟨R + 1, 0, none⟩)]).from _) ((blk_own E _ fun _ => #[.int .i64 M]).from _)) (OwnFrom.and ((blk_own G _ fun (pre : List Ent) => #[.int .i64 (pre.length : Nat)]).from _) ((blk_own (G + 1) _ fun _ => #[.bool true]).from _)))) ((past_own (R + 1) R N).from _)) (ownFrom_below (by omega) (by omega))) (fun _ _ _ _ h => h.elim)
        (fun _ _ _ _ _ h _ _ => h) (fun _ _ _ _ _ h => h.elim)
        ⟨⟨⟨⟨d0, d1⟩, ⟨d2, d3⟩, n1, n2⟩, _, d6⟩, d7⟩ ?round ?done (fun _ _ _ _ _ _ _ h _ => h.elim)
      case round =>
        rintro l2 pre x r V0 V K hl2 ⟨rl, hrl⟩ hpx ⟨⟨⟨⟨h0, h1⟩, ⟨h2, h3⟩, h4, h5⟩, hh, hPh⟩, hBV⟩ hK
        dsimp only [encE]
        have HK := Lib.hid hK
        clear hK
        gi_wp2
        refine HK.out _ ?_
        clear HK K
        have hVz : W3.heap.size ≤ V.heap.size := by have := blk_lt hrl; omega
        obtain ⟨hjl, hx2, hkl⟩ := hist_at N l hpx
        have hlen := congrArg List.length hpx
        rw [hM', List.length_append, List.length_cons] at hlen
        obtain ⟨k, hk⟩ : ∃ k, pre.length = k := ⟨_, rfl⟩
        obtain ⟨g, o, rfl, hg, hcell⟩ := HC.out (by omega)
        have e0 : V.cell? ⟨g, o + (l.length - 1 - pre.length), none⟩ = some (.int .i64 x.2) := by
          rw [hx2]; exact (hBV.cell (p := ⟨g, o + (l.length - 1 - pre.length), none⟩) (show g < B by omega)).trans (hcell _ hjl)
        rw [hk] at e0 hkl
        have c4 := blk_cell h4 0
        rw [hk] at c4
        obtain ⟨j, hj⟩ : ∃ j, l.length - 1 - k = j := ⟨_, rfl⟩
        rw [hj] at e0
        have s1 : (l.length : Int) - 1 - (k : Int) = (j : Int) := by omega
        have s2 : (0 : Int) ≤ (l.length : Int) - 1 := by omega
        have hjn : (j : Int) < (l.length : Int) := by omega
        have c0 := blk_cell h0 0
        have c2 := blk_cell h2 0
        have c3 := blk_cell h3 0
        have c5 := blk_cell h5 0
        have f4 := blk_free h4 0
        have f5 := blk_free h5 0
        have hkM : ¬ (k : Int) ≥ (M : Int) := by omega
        have hRl := blk_lt hPh.hd
        have hRl2 : R < V.heap.size := by omega
        have hPs : PastAt (V.setCell ⟨G + 1, 0, none⟩ (.bool true)) (R + 1) R N hh := past_kept hPh (heap_setCell_other _ _ _ _ (by simp; omega)) (heap_setCell_other _ _ _ _ (by simp; omega))
        have H := Lib.hid (And.intro h0 (And.intro h1 (And.intro h2 (And.intro h3 (And.intro h4 (And.intro h5 (And.intro hPh (And.intro hBV (And.intro hrl (And.intro hk (And.intro hvl hvl2)))))))))))
        have HPS := Lib.hid hPs
        clear h0 h1 h2 h3 h4 h5 hPh hPs hBV hrl hk hvl hvl2 hx2 hcell hlen hj hpx d0 d1 d2 d3 d4 d5 d6 d7 n1 n2 hjl HC
        gi_wp2_with fail
        refine ⟨trivial, (CallsIn.inRound l2 ((callsIn_wide (n := 3)).2 (past_put HPS.out (by omega) _ _))).mono ?_⟩
        rintro e W4 ⟨rfl, hP4, hF4⟩
        have hF : Fr (fun k => k = G ∨ k = G + 1 ∨ k = R + 1 ∨ k = R) V W4 := ((Fr.refl _ V).setCell ⟨G + 1, 0, none⟩ (.inr (.inl rfl)) _).trans (hF4.mono fun k _ hk => by rcases hk with rfl | rfl <;> simp)
        have g4 : W4.heap[G]? = _ := (hF4.block G (by have := blk_lt H.out.2.2.2.2.1; simpa using this) (by rintro (h | h) <;> omega)).trans (blk_other H.out.2.2.2.2.1 ⟨G + 1, 0, none⟩ (by simp) (.bool true))
        have g5 : W4.heap[G + 1]? = _ := (hF4.block (G + 1) (by have := blk_lt H.out.2.2.2.2.2.1; simpa using this) (by rintro (h | h) <;> omega)).trans (blk_set H.out.2.2.2.2.2.1 0 (.bool true))
        have c4' := blk_cell g4 0
        rw [H.out.2.2.2.2.2.2.2.2.2.1] at c4'
        have f4' := blk_free g4 0
        have H4 := Lib.hid (And.intro g4 (And.intro g5 (And.intro hF hP4)))
        clear g4 g5 hF hP4 hF4 c0 c2 c3 c4 c5 f4 f5 e0
        gi_wp2_with fail
        obtain ⟨g4, g5, hF, hP4⟩ := H4.out
        obtain ⟨h0, h1, h2, h3, h4, h5, hPh, hBV, hrl, hk, hvl, hvl2⟩ := H.out
        have hF5 : Fr (fun k => k = G ∨ k = G + 1 ∨ k = R + 1 ∨ k = R) V (W4.setCell ⟨G, 0, none⟩ (.int .i64 ((k : Int) + 1))) := hF.setCell ⟨G, 0, none⟩ (.inl rfl) _
        refine ⟨hF5.keeps ?_ _, ?_, ⟨⟨⟨hF5.blk h0 (by omega), hF5.blk h1 (by omega)⟩, ⟨hF5.blk h2 (by omega), hF5.blk h3 (by omega)⟩, ?_, ?_⟩, _, past_kept hP4 (heap_setCell_other _ _ _ _ (by simp; omega)) (heap_setCell_other _ _ _ _ (by simp; omega))⟩, hBV.trans (hF5.below (by have := hBV.size; omega) fun q _ hq => by omega)⟩
        · rintro q _ (rfl | rfl | rfl | rfl)
          · exact ⟨_, h4, rfl⟩
          · exact ⟨_, h5, rfl⟩
          · exact ⟨_, hPh.hd, rfl⟩
          · obtain ⟨cs, hr, _⟩ := hPh.row; exact ⟨_, hr, rfl⟩
        · intro q hq
          have hql : E < q ∧ q < G := by
            rcases hq with rfl | hq
            · omega
            · exact ⟨(hvl2 q hq).1, (hvl2 q hq).2⟩
          exact hF5.block q (by omega) (by omega)
        · rw [List.length_append, List.length_singleton, hk]
          exact blk_set g4 0 _
        · exact (blk_other g5 ⟨G, 0, none⟩ (by simp) _).trans rfl
      case done =>
        rintro D2 V hD2 ⟨⟨⟨⟨h0, h1⟩, ⟨h2, h3⟩, h4, h5⟩, hh, hPh⟩, hBV⟩ hdef
        rw [hM'] at h4
        have c0 := blk_cell h0 0
        have c3 := blk_cell h3 0
        have c4 := blk_cell h4 0
        have c5 := blk_cell h5 0
        have H := Lib.hid (And.intro h1 (And.intro hBV hdef))
        clear h0 h1 h2 h3 h4 h5 hPh hBV hdef hvl hvl2 d0 d1 d2 d3 d4 d5 d6 d7 n1 n2
        gi_wp2_with fail
        refine ⟨trivial, ((callsIn_wide (n := 5)).2 (past_put_nil _ _ _)).mono ?_⟩
        rintro e W4 ⟨rfl, rfl⟩
        have hN0 : (0 : Int) ≤ (N : Int) := by omega
        have hc : (l.length ≤ N ∧ M = l.length) ∨ (¬ l.length ≤ N ∧ M = N) := by have := HMN.out; omega
        rcases hc with ⟨hmn, rfl⟩ | ⟨hmn, rfl⟩
        case' inl =>
          have hm1 : ¬ (N : Int) < (l.length : Int) := by omega
          have hm2 : (l.length : Int) ≤ (N : Int) := by omega
          clear hmn
          gi_wp2_with fail
        case' inr =>
          have hm1 : (M : Int) < (l.length : Int) := by omega
          have hm2 : ¬ (l.length : Int) ≤ (M : Int) := by omega
          have hm3 : ¬ (l.length : Int) < (M : Int) := by omega
          clear hmn
          gi_wp2_with fail
        all_goals
          refine ⟨trivial, ((callsIn_wide (n := 5)).2 (past_len_nil _)).mono ?_⟩
          rintro e W5 ⟨rfl, rfl⟩
          gi_wp2_with fail
          refine ⟨trivial, ((callsIn_wide (n := 5)).2 (same13 (p := .pointer none) (N := 0) (h := []) (ws := []) (base := 0) (.inl ⟨rfl, rfl⟩) (by omega) (by simp) _ _ (by decide) (by decide) (World.ownsRow_nil _ _ _ _))).mono ?_⟩
          rintro e W6 ⟨rfl, q6⟩
          rw [show decide (toldE 0 [] ⟨#[120]⟩ true = []) = true by decide]
          gi_wp2_with fail
          refine ⟨trivial, ((callsIn_wide (n := 5)).2 (same13 (p := .pointer none) (N := 0) (h := []) (ws := []) (base := 0) (.inl ⟨rfl, rfl⟩) (by omega) (by simp) _ _ (by decide) (by decide) (World.ownsRow_nil _ _ _ _))).mono ?_⟩
          rintro e W7 ⟨rfl, q7⟩
          rw [show decide (toldE 0 [] ⟨#[120]⟩ false = []) = true by decide]
          have q8 : Below W4.heap.size W4 W7 := q6.trans (q7.mono q6.size)
          have k1 : W7.heap[B + 1]? = some (.cells #[.bool false] 4 (0, 0)) := (q8.block _ (blk_lt H.out.1)).trans H.out.1
          have c1 := blk_cell k1 0
          have f1 := blk_free k1 0
          have H7 := Lib.hid (And.intro k1 q8)
          clear k1 q6 q7 q8
          gi_wp2_with fail
          obtain ⟨k1, q8⟩ := H7.out
          have hd1 := (q8.block _ (blk_lt H.out.2.2)).trans H.out.2.2
          have hd2 := blk_other hd1 ⟨B + 1, 0, none⟩ (by show D2 ≠ B + 1; omega) (.bool true)
          refine ⟨by simp, .inl ⟨_, _, rfl, run_takeDeferred hd2, ?_⟩⟩
          have hBf : Below B w (W7.setCell ⟨B + 1, 0, none⟩ (.bool true)) := (H.out.2.1.trans (q8.mono (by have := blk_lt H.out.1; omega))).setCell (p := ⟨B + 1, 0, none⟩) (show B ≤ B + 1 by omega) _
          exact ⟨_, results_box rfl _ _ (B + 1) _ _ rfl (blk_cell (put_blk hd2 rfl (blk_set k1 0 (.bool true))) 0) Try.underlying4 rfl, rfl, (hBf.mono hBe).trans (put_below (by omega) (by have := hBf.size; omega))⟩

set_option maxRecDepth 100000 in
set_option maxHeartbeats 2000000 in
theorem wasStays_long (N : Nat) (hN : N ≤ 255) (A : Option Addr) (n : Nat) (c : Nat) (w : World) (hl : 40 < n) :
    Calls Try.prog 4 #[.int .u8 N, .slice A n c] w fun e w' => e = .returned (.bool true) ∧ Below w.heap.size w w' := by
  refine (callsIn_wide (n := 6)).1 ?_
  refine callsIn_of_wp_marks Try.func4 rfl trivial ?_ rfl
  simp only [Try.ntmps4, List.size_toArray, List.length_cons, List.length_nil, Nat.reduceAdd, Nat.reduceSub, Array.replicate_succ, Array.replicate_zero, List.push_toArray, List.append_toArray, List.nil_append, List.cons_append]
  have hl1 : (n : Int) > 40 := by omega
  gi_wp2_with fail
  refine ⟨trivial, ((callsIn_wide (n := 5)).2 (awake13 _)).mono ?_⟩
  rintro e w1 ⟨rfl, q1⟩
  have hz1 := q1.size
  rw [World.size_alloc, World.size_alloc] at hz1
  have b0 : w1.heap[w.heap.size]? = some (.cells #[.slice A n c] 35 (0, 0)) := (q1.block _ (by simp; omega)).trans (blk_alloc (heap_alloc_new w _) _)
  have b1 : w1.heap[w.heap.size + 1]? = some (.cells #[.bool false] 4 (0, 0)) := (q1.block _ (by simp)).trans (heap_alloc2_new w _ _)
  have hB1 : Below w.heap.size w w1 := (((Below.refl _ w).alloc (Nat.le_refl _) _).alloc (by simp) _).trans (q1.mono (by simp; omega))
  have H1 := Lib.hid (And.intro b0 (And.intro b1 hB1))
  clear b0 b1 hB1 q1
  gi_wp2_with fail
  refine ⟨trivial, ((callsIn_wide (n := 5)).2 (was_new N (by omega) _)).mono ?_⟩
  rintro e w2 ⟨rfl, hw2⟩
  have hB2 : Below w1.heap.size w1 w2 := by rw [hw2]; exact ((Below.refl _ w1).alloc (Nat.le_refl _) _).alloc (by simp) _
  have hz2 : w2.heap.size = w1.heap.size + 2 := by rw [hw2]; simp
  clear hw2
  have b0 : w2.heap[w.heap.size]? = _ := (hB2.block _ (by omega)).trans H1.out.1
  have b1 : w2.heap[w.heap.size + 1]? = _ := (hB2.block _ (by omega)).trans H1.out.2.1
  have hB3 : Below w.heap.size w w2 := H1.out.2.2.trans (hB2.mono (by omega))
  have c0 := blk_cell b0 0
  have c1 := blk_cell b1 0
  have f1 := blk_free b1 0
  have l0 : w.heap.size < w2.heap.size := by omega
  have l1 : w.heap.size + 1 < w2.heap.size := by omega
  have H2 := Lib.hid (And.intro hz2 (And.intro b0 (And.intro b1 hB3)))
  clear hz2 b0 b1 hB2 hB3
  gi_wp2_with fail
  obtain ⟨hz2, b0, b1, hB3⟩ := H2.out
  exact ⟨_, results_box rfl _ _ (w.heap.size + 1) _ _ rfl (blk_cell (blk_alloc (blk_set b1 0 (.bool true)) _) 0) Try.underlying4 rfl, rfl, (hB3.setCell (p := ⟨w.heap.size + 1, 0, none⟩) (show w.heap.size ≤ w.heap.size + 1 by omega) _).alloc (by simp; omega) _⟩
theorem u8_nat {a : Int} (h : (Lit.int .u8 a).wf = true) : ∃ N : Nat, a = N ∧ N ≤ 255 := by
  simp only [Lit.wf, IntKind.has, Bool.and_eq_true, decide_eq_true_eq] at h
  have h1 : 0 ≤ a ∧ a ≤ 255 := ⟨h.1, h.2⟩
  exact ⟨a.toNat, by omega, by omega⟩
theorem wasStays_walk (a : Int) (ha : (Lit.int .u8 a).wf = true) (A : Option Addr) (l : List zinT) (c : Nat) (w : World) (hc : 0 < l.length → ∃ g o, A = some ⟨g, o, none⟩ ∧ g < w.heap.size ∧ ∀ i (h : i < l.length) j u, (zinL l[i])[j]? = some u → w.cell? ⟨g, o + i * 1 + j, none⟩ = some u) :
    Calls Try.prog 4 #[.int .u8 a, .slice A l.length c] w fun e w' => e = .returned (.bool true) ∧ Below w.heap.size w w' := by
  obtain ⟨N, rfl, hN⟩ := u8_nat ha
  by_cases hl : l.length ≤ 40
  · refine wasStays_main N hN A l c w hl fun h => ?_
    obtain ⟨g, o, h1, h2, h3⟩ := hc h
    exact ⟨g, o, h1, h2, fun i hi => by have := h3 i hi 0 (.int .i64 l[i]) rfl; simpa using this⟩
  · exact wasStays_long N hN A l.length c w (by omega)
end Go.Proofs.Ytkifblbmppjicaa
