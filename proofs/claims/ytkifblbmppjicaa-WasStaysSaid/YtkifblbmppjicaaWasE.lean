/- Layer 13: a past: Find. -/
import Derived.Test.YtkifblbmppjicaaWasD
import Derived.Test.YtkifblbmppjicaaFoldC
import Derived.Test.YtkifblbmppjicaaApp
namespace Go.Proofs.Ytkifblbmppjicaa
set_option linter.unusedVariables false
set_option linter.unusedSimpArgs false
open Go.RowKit Go.Shelf
attribute [local go_sem] Oper.semAt_some

/-- those under a name -/
def named (nm : ByteArray) (l : List Ent) : List Ent := l.filter fun x => sameF x.1.data.toList nm.data.toList
theorem named_yes (nm : ByteArray) (l : List Ent) (x : Ent) (h : sameF x.1.data.toList nm.data.toList = true) : named nm (l ++ [x]) = named nm l ++ [x] := by simp [named, List.filter_append, h]
theorem named_no (nm : ByteArray) (l : List Ent) (x : Ent) (h : sameF x.1.data.toList nm.data.toList = false) : named nm (l ++ [x]) = named nm l := by simp [named, List.filter_append, h]
theorem named_len (nm : ByteArray) (l : List Ent) : (named nm l).length ≤ l.length := List.length_filter_le _ _

/-- a slice in its box, and its row -/
def Boxrow (B : Nat) (base : Nat) (W : World) (l : List Ent) : Prop := ∃ v, W.heap[B]? = some (.cells #[v] 78 (0, 0)) ∧ W.ownsRow base 82 2 v l.length (entL l)
theorem boxrow_own (B base : Nat) {β : Type} (f : β → List Ent) : Own (fun s W => Boxrow B base W (f s)) := fun s X Y row hs hg hrow => by
  obtain ⟨v, h1, h2⟩ := hs
  refine ⟨v, (hg.block B (blk_lt h1) (fun e => ?_)).trans h1, row_same h2 fun g hg2 => hg.block g (h2.lt g hg2).2 fun e => ?_⟩
  · obtain ⟨o, ho, hc⟩ := hrow B e.symm; rw [h1] at ho; cases ho; cases hc
  · obtain ⟨o, ho, hc⟩ := hrow g e.symm
    rcases h2.2 with ⟨rfl, _⟩ | ⟨g', cap, cur, rfl, _, h3, _⟩
    · cases hg2
    · cases hg2; rw [ho] at h3; cases h3; cases hc

theorem tale_put {base : Nat} {w : World} {xs : List Ent} {f : Value} {D : Nat} {o o' : Obj} (hD : w.heap[D]? = some o) (ho : o.isCells = false) (h : Tale base w xs f) : Tale base (w.putObj D o') xs f := by
  obtain ⟨B, v, h1, h2, h3, h4, h5⟩ := h
  exact ⟨B, v, h1, h2, h3, put_blk hD ho h4, put_row hD ho h5⟩
theorem row_base {W : World} {base base' : Nat} (hb : base' ≤ base) {e : TypeId} {size : Nat} {v : Value} {n : Nat} {xs : List Value} (h : W.ownsRow base e size v n xs) : W.ownsRow base' e size v n xs := by
  obtain ⟨h1, h2⟩ := h
  refine ⟨h1, ?_⟩
  rcases h2 with h2 | ⟨g, cap, cur, rfl, h3, h4⟩
  · exact .inl h2
  · exact .inr ⟨g, cap, cur, rfl, by omega, h4⟩

set_option maxRecDepth 100000 in
set_option maxHeartbeats 4000000 in
theorem past_find_of {w : World} {p : Value} {xs : List Ent} {n0 : Nat} (nm : ByteArray) (hnm : nm.size ≤ 1000000) (hxs : xs.length ≤ 100000) (hsz : ∀ x ∈ xs, x.1.size ≤ 1000000)
    (hall : ∀ W, Below w.heap.size w W → Calls Try.prog 15 #[p] W fun e w' => (∃ f, e = .returned f ∧ Tale W.heap.size w' xs f) ∧ Below W.heap.size W w') :
    Calls Try.prog 40 #[p, .string nm] w fun e w' => (∃ f, e = .returned f ∧ Tale w.heap.size w' (named nm xs) f) ∧ Below w.heap.size w w' := by
  refine (callsIn_wide (n := 6)).1 ?_
  refine callsIn_of_wp_marks Try.func40 rfl trivial ?_ rfl
  simp only [Try.ntmps40, List.size_toArray, List.length_cons, List.length_nil, Nat.reduceAdd, Nat.reduceSub, Array.replicate_succ, Array.replicate_zero, List.push_toArray, List.append_toArray, List.nil_append, List.cons_append]
  gi_wp2_with fail
  refine ⟨trivial, ((callsIn_wide (n := 5)).2 (hall _ ?_)).mono ?_⟩
  · exact ((Below.refl _ w).alloc (Nat.le_refl _) _).alloc (by simp) _
  rintro e w1 ⟨⟨f, rfl, hT⟩, q1⟩
  obtain ⟨B, v, rfl, hB0, hvB, hbox, hrow⟩ := hT
  gi_wp2_with fail
  obtain ⟨i0, hi, hz0, hz1, hz2⟩ := info_parts Try.infoWE
  have hz := q1.size
  rw [World.size_alloc, World.size_alloc] at hz hB0
  have hw0 : w1.heap[w.heap.size]? = some (.cells #[.string nm] 9 (0, 0)) := (q1.block _ (by simp; omega)).trans (blk_alloc (heap_alloc_new w _) _)
  have hw1 : w1.heap[w.heap.size + 1]? = some (.cells #[.slice none 0 0] 78 (0, 0)) := (q1.block _ (by simp)).trans (heap_alloc2_new w _ _)
  have hB1 : Below w.heap.size w w1 := (((Below.refl _ w).alloc (Nat.le_refl _) _).alloc (by simp) _).trans (q1.mono (by simp; omega))
  have hvl := hrow.lt
  have hBl := blk_lt hbox
  refine wpIn_rangeT (X := fun _ => False) (Y := taleY B v) (xs := xs) (encs := encE) (w0 := w1) (gf := 53) (lb := #[.pointer (some ⟨B, 0, none⟩)])
    (fun pre V => (V.heap[w.heap.size]? = some (.cells #[.string nm] 9 (0, 0)) ∧ Boxrow (w.heap.size + 1) w1.heap.size V (named nm pre)) ∧ Below w.heap.size w V) (fun _ _ _ => False)
    rfl (told_tells 5 (by omega) _ B v xs w1 hxs hbox hrow) (Below.refl _ _) (fun _ h => h.elim) (fun b hb => by rcases hb with rfl | hb; exact hBl; exact (hvl b hb).2) rfl (by omega) trivial (enters_of Try.func53 (by kernel_rfl) rfl) (fun _ => rfl)
    (OwnFrom.and (OwnFrom.and ((blk_own _ _ fun _ => #[.string nm]).from _) ((boxrow_own _ _ (named nm)).from _)) (ownFrom_below (Nat.le_refl _) hB1.size)) (fun _ _ _ _ h => h.elim) (fun _ _ _ _ _ h _ _ => h) (fun _ _ _ _ _ h => h.elim)
    ⟨⟨hw0, _, hw1, World.ownsRow_nil _ _ _ _⟩, hB1⟩ ?round ?done (fun _ _ _ _ _ _ _ h _ => h.elim)
  case round =>
    rintro l pre x r V0 V K hl ⟨rl, hrl⟩ hpx ⟨⟨h0, vb, h1, h2⟩, h3⟩ hK
    dsimp only [encE]
    have HK := Lib.hid hK
    clear hK
    gi_wp2
    refine HK.out _ ?_
    clear HK K
    have c0 := blk_cell h0 0
    have c1 := blk_cell h1 0
    have f1 := blk_free h1 0
    have hbx : x.1.size ≤ 1000000 := hsz x (by rw [← hpx]; simp)
    have hpl : (named nm pre).length ≤ 100000 := by
      have h4 := named_len nm pre
      have h5 := congrArg List.length hpx
      rw [List.length_append] at h5
      omega
    have hVz := h3.size
    have hVw : w1.heap.size ≤ V.heap.size := by have := blk_lt hrl; omega
    obtain ⟨b, hb⟩ : ∃ b, sameF x.1.data.toList nm.data.toList = b := ⟨_, rfl⟩
    have H := Lib.hid (And.intro hb (And.intro h0 (And.intro h1 (And.intro h2 (And.intro h3 (And.intro hrl (And.intro hvl hvB)))))))
    clear hb h0 h1 h2 h3 hrl hpx hvl hvB hrow hbox q1 hsz
    gi_wp2_with fail
    refine ⟨trivial, (CallsIn.inRound l ((callsIn_wide (n := 3)).2 (same_any _ _ _ hbx hnm))).mono ?_⟩
    rintro e W1 ⟨rfl, nd, rfl⟩
    rw [H.out.1]
    cases b with
    | false =>
      gi_wp2_with fail
      obtain ⟨hb, h0, h1, h2, h3, hrl, hvl, hvB⟩ := H.out
      refine ⟨((Fr.refl (fun _ => False) V).drewN nd).keeps (fun _ _ h => h.elim) _, fun _ _ => rfl, ⟨h0, vb, h1, ?_⟩, ((Fr.refl (fun _ => False) V).drewN nd).below h3.size (fun _ _ h => h.elim) |> h3.trans⟩
      rw [named_no _ _ _ hb]; exact h2
    | true =>
      have hV2 : (V.drewN nd).ownsRow w1.heap.size 82 2 vb (named nm pre).length (entL (named nm pre)) := H.out.2.2.2.1
      have HV2 := Lib.hid hV2
      clear hV2
      gi_wp2_with (gi_at_builtin; refine wpListIn_app_fr rfl _ _ 78 rfl w1.heap.size 82 i0 _ 2 24 Try.underlying78 hi hz0 hz1 hz2 rfl (by decide) _ _ _ rfl HV2.out #[.string x.1, .int .i64 x.2] _ rfl rfl rfl (by intro u hu; simp at hu; rcases hu with rfl | rfl <;> rfl) (by omega) (by decide) hVw ?_; intro v1 W2 hown1 hfr1; obtain ⟨A1, c1', rfl⟩ := row_slice hown1; have e1 : W2.heap[w.heap.size + 1]? = some (.cells #[vb] 78 (0, 0)) := (fr_own HV2.out hfr1 (by omega) (by omega : w.heap.size + 1 < V.heap.size)).trans H.out.2.2.1; have g1 := blk_cell e1 0; have g2 := blk_free e1 0)
      obtain ⟨hb, h0, h1, h2, h3, hrl, hvl, hvB⟩ := H.out
      have hf0 : Fr (fun k => vb.ownBlock = some k) V W2 := (((Fr.refl _ V).drewN nd).trans hfr1)
      have hfr : Fr (fun k => vb.ownBlock = some k ∨ k = w.heap.size + 1) V (W2.setCell ⟨w.heap.size + 1, 0, none⟩ (.slice A1 ((named nm pre).length + 1) c1')) := (hf0.mono fun _ _ h => .inl h).setCell _ (.inr rfl) _
      refine ⟨hfr.keeps ?_ _, ?_, ⟨hfr.blk h0 ?_, .slice A1 ((named nm pre).length + 1) c1', ?_, ?_⟩, h3.trans (hfr.below h3.size ?_)⟩
      · rintro k hk (e | rfl)
        · exact own_cells h2 k e
        · exact ⟨_, h1, rfl⟩
      · intro c hc
        have hcl : c < w1.heap.size ∧ w.heap.size + 1 < c := by
          rcases hc with rfl | hc
          · exact ⟨hBl, by omega⟩
          · have := hvl c hc; simp at this; omega
        refine hfr.block c (by omega) ?_
        rintro (e | rfl)
        · have := (h2.lt c e).1; omega
        · omega
      · rintro (e | e)
        · have := (h2.lt _ e).1; omega
        · omega
      · have := blk_set e1 0 (.slice A1 ((named nm pre).length + 1) c1'); exact this
      · rw [named_yes _ _ _ hb, entL_snoc, List.length_append]
        refine row_same hown1 fun g hg => heap_setCell_other W2 _ g _ ?_
        have := (hown1.lt g hg).1; simp; omega
      · rintro k hk (e | rfl)
        · have := (h2.lt k e).1; omega
        · omega
  case done =>
    rintro D V hD ⟨⟨h0, vb, h1, h2⟩, h3⟩ hdef
    have c1 := blk_cell h1 0
    have hw1z := hB1.size
    have hDl := blk_lt hdef
    obtain ⟨A, cp, rfl⟩ := row_slice h2
    have H := Lib.hid (And.intro h1 (And.intro h2 (And.intro h3 hdef)))
    clear h0 h1 h2 h3 hdef hvl hvB hrow hbox q1 hsz
    gi_wp2_with fail
    refine ⟨trivial, ((callsIn_wide (n := 5)).2 (was_told _ _ _ _)).mono ?_⟩
    rintro e W2 ⟨rfl, rfl⟩
    gi_wp2_with fail
    obtain ⟨h1, h2, h3, hdef⟩ := H.out
    refine ⟨by simp, .inl ⟨_, _, rfl, run_takeDeferred (blk_alloc hdef _), ?_⟩⟩
    have hT := tale_new (base := w.heap.size) (v := .slice A (named nm xs).length cp) h3.size (row_base (by omega) h2)
    exact ⟨_, results_tmp rfl _ _ _, ⟨.func (.func 53) #[] #[.pointer (some ⟨V.heap.size, 0, none⟩)], rfl, tale_put (blk_alloc hdef _) rfl hT⟩, (h3.alloc h3.size _).trans (put_below (by omega) (by rw [World.size_alloc]; omega))⟩
end Go.Proofs.Ytkifblbmppjicaa
