/- Layer 10: what the law is told: a row of numbers out of any function that tells it. -/
import Derived.Test.YteiiaocohpbanaaSetG
import Derived.Test.YteiiaocohpbanaaApp
namespace Go.Proofs.Yteiiaocohpbanaa
set_option linter.unusedVariables false
set_option linter.unusedSimpArgs false
open Go Go.RowKit Go.Lib Go.Sort Go.Shelf
attribute [local go_sem] Oper.semAt_some

theorem Try.infoI : (Try.prog.info? 3).map (fun i => (i.zero, i.size, i.bytes)) = some (some (.int .i64 0), 1, 8) := by kernel_rfl
/-- what tells xs, whatever function it is -/
def Tells (w : World) (F : Value) (xs : List Int) : Prop := ∃ gf lb Y, F = .func (.func gf) #[] lb ∧ (∀ n, 10 ≤ n → SeqT Fence.wide n Try.prog gf lb encI (fun _ => False) Y xs w) ∧ (∀ b, Y b → b < w.heap.size) ∧ (∀ args v, (callFunc gf args).run Try.prog v = .ok (.enter gf args) v)
theorem tells_below {w W : World} {F : Value} {xs : List Int} (h : Tells w F xs) (hb : Below w.heap.size w W) : Tells W F xs := by
  obtain ⟨gf, lb, Y, h1, h2, h3, h4⟩ := h
  exact ⟨gf, lb, Y, h1, fun n hn l J Jx V hV => h2 n hn l J Jx V (hb.trans (hV.mono hb.size)), fun b hb2 => Nat.lt_of_lt_of_le (h3 b hb2) hb.size, h4⟩
theorem tells_tale {base : Nat} {w : World} {F : Value} {xs : List Int} (h : TaleAt base w F xs) (hl : xs.length ≤ 1000000) : Tells w F xs := by
  obtain ⟨B, v, h0, h1, h2, h3, h4⟩ := h
  refine ⟨_, _, rowY B v, h1, fun n hn => values_tells n (by omega) base B v xs w hl h2 h4, fun b hb => ?_, enters_of Try.func33 (by kernel_rfl) rfl⟩
  rcases hb with rfl | hb
  · exact blk_lt h2
  · exact (h4.lt b hb).2

/-- a slice in its box, and its row -/
def BoxI (B : Nat) (base : Nat) (W : World) (l : List Int) : Prop := ∃ v, W.heap[B]? = some (.cells #[v] 26 (0, 0)) ∧ OwnI base W v l
theorem boxI_own (B base : Nat) {β : Type} (f : β → List Int) : Own (fun s W => BoxI B base W (f s)) := fun s X Y row hs hg hrow => by
  obtain ⟨v, h1, h2⟩ := hs
  refine ⟨v, (hg.block B (blk_lt h1) (fun e => ?_)).trans h1, own_kept h2 fun g hg2 => hg.block g (h2.lt g hg2).2 fun e => ?_⟩
  · obtain ⟨o, ho, hc⟩ := hrow B e.symm; rw [h1] at ho; cases ho; cases hc
  · obtain ⟨o, ho, hc⟩ := hrow g e.symm
    obtain ⟨o2, ho2, hc2⟩ := own_cells h2 g hg2
    rw [ho] at ho2; cases ho2; rw [hc] at hc2; cases hc2
theorem results_box2 {P : Program} {fn : Func} {p q : Tmp} {ty ty2 : TypeId} (h : fn.results = #[.cell p ty, .cell q ty2]) (tmps : Array Value) (w : World) (g g2 : Nat) (v u : Value) (d d2 : TypeDesc) (hp : tmps.getD p undef = .pointer (some ⟨g, 0, none⟩)) (hc : w.cell? ⟨g, 0, none⟩ = some v)
    (hp2 : tmps.getD q undef = .pointer (some ⟨g2, 0, none⟩)) (hc2 : w.cell? ⟨g2, 0, none⟩ = some u)
    (hu : P.underlying ty = some d) (hd : (match d with | .struct _ | .array _ _ => true | _ => false) = false) (hu2 : P.underlying ty2 = some d2) (hd2 : (match d2 with | .struct _ | .array _ _ => true | _ => false) = false) : (results fn tmps).run P w = .ok (.tuple #[v, u]) w := by
  have hp' : tmps[p]?.getD undef = .pointer (some ⟨g, 0, none⟩) := by simpa using hp
  have hp2' : tmps[q]?.getD undef = .pointer (some ⟨g2, 0, none⟩) := by simpa using hp2
  have hagg : (isAgg ty).run P w = .ok false w := by
    unfold isAgg
    rw [Sem.run_bind, run_underlying hu w]
    cases d <;> simp_all
  have hagg2 : (isAgg ty2).run P w = .ok false w := by
    unfold isAgg
    rw [Sem.run_bind, run_underlying hu2 w]
    cases d2 <;> simp_all
  simp [results, h, hp', hp2', asAddr, loadVar, Sem.run_bind, hagg, hagg2, go_sem, hc, hc2]

theorem row_base' {W : World} {base base' : Nat} {v : Value} {xs : List Int} (h : OwnI base W v xs) (hb : base' ≤ base) : OwnI base' W v xs := by
  obtain ⟨h1, h2⟩ := h
  refine ⟨h1, ?_⟩
  rcases h2 with h2 | ⟨g, cap, cur, rfl, h3, h4⟩
  · exact .inl h2
  · exact .inr ⟨g, cap, cur, rfl, by omega, h4⟩
def ToldP (xs : List Int) (w : World) (e : Ending) (w' : World) : Prop := (∃ v', e = .returned (.tuple #[v', .bool true]) ∧ OwnI w.heap.size w' v' xs) ∧ Below w.heap.size w w'
set_option maxRecDepth 100000 in
set_option maxHeartbeats 4000000 in
theorem law_told {w : World} {F : Value} {xs : List Int} (h : Tells w F xs) (hl : xs.length ≤ 1000000) (m : Nat) (hm : xs.length ≤ m) (hm2 : m ≤ 1000000) : Calls Try.prog 12 #[F, .int .i64 m] w (ToldP xs w) := by
  obtain ⟨gf, lb, Y, rfl, hseq, hY, heg⟩ := h
  obtain ⟨i0, hi, hz0, hz1, hz2⟩ := info_parts Try.infoI
  refine (callsIn_wide (n := 20)).1 ?_
  refine callsIn_of_wp_marks Try.func12 rfl trivial ?_ rfl
  simp only [Try.ntmps12, List.size_toArray, List.length_cons, List.length_nil, Nat.reduceAdd, Nat.reduceSub, Array.replicate_succ, Array.replicate_zero, List.push_toArray, List.append_toArray, List.nil_append, List.cons_append]
  have hnil : ∀ W, (binOp BinOp.eql 34 (.func (.func gf) #[] lb) Value.nilFunc).run Try.prog W = .ok (.bool false) W := fun W => by rfl
  gi_wp2_with (simp only [hnil])
  obtain ⟨w1, hw1⟩ : ∃ w1, (((w.alloc (Obj.cells #[Value.int IntKind.i64 m] 3)).alloc (Obj.cells #[Value.slice none 0 0] 26)).alloc (Obj.cells #[Value.bool false] 4)).alloc (Obj.cells #[Value.slice none 0 0] 26) = w1 := ⟨_, rfl⟩
  rw [hw1]
  have z1 : w1.heap.size = w.heap.size + 4 := by rw [← hw1]; simp
  have hB1 : Below w.heap.size w w1 := by
    rw [← hw1]
    exact ((((Below.refl _ w).alloc (Nat.le_refl _) _).alloc (by simp) _).alloc (by simp; omega) _).alloc (by simp; omega) _
  have hb0 : w1.heap[w.heap.size]? = some (.cells #[.int .i64 m] 3 (0, 0)) := by rw [← hw1]; exact blk_alloc (blk_alloc (blk_alloc (heap_alloc_new w _) _) _) _
  have hb1 : w1.heap[w.heap.size + 1]? = some (.cells #[.slice none 0 0] 26 (0, 0)) := by rw [← hw1]; exact blk_alloc (blk_alloc (heap_alloc2_new w _ _) _) _
  have hb2 : w1.heap[w.heap.size + 2]? = some (.cells #[.bool false] 4 (0, 0)) := by rw [← hw1]; refine blk_alloc ?_ _; have := heap_alloc2_new (w.alloc (Obj.cells #[Value.int IntKind.i64 m] 3)) (Obj.cells #[Value.slice none 0 0] 26) (Obj.cells #[Value.bool false] 4); rwa [World.size_alloc] at this
  have hb3 : w1.heap[w.heap.size + 3]? = some (.cells #[.slice none 0 0] 26 (0, 0)) := by
    rw [← hw1]
    have := heap_alloc2_new ((w.alloc (Obj.cells #[Value.int IntKind.i64 m] 3)).alloc (Obj.cells #[Value.slice none 0 0] 26)) (Obj.cells #[Value.bool false] 4) (Obj.cells #[Value.slice none 0 0] 26)
    rwa [World.size_alloc, World.size_alloc] at this
  clear hw1
  have hYl : ∀ b, Y b → b < w1.heap.size := fun b hb => by have := hY b hb; omega
  refine wpIn_rangeT (X := fun _ => False) (Y := Y) (xs := xs) (encs := encI) (w0 := w) (gf := gf) (lb := lb)
    (fun pre V => (((V.heap[w.heap.size]? = some (.cells #[.int .i64 m] 3 (0, 0)) ∧ V.heap[w.heap.size + 1]? = some (.cells #[.slice none 0 0] 26 (0, 0))) ∧ V.heap[w.heap.size + 2]? = some (.cells #[.bool false] 4 (0, 0))) ∧ BoxI (w.heap.size + 3) w1.heap.size V pre) ∧ Below w.heap.size w V) (fun _ _ _ => False)
    rfl (hseq _ (by omega)) hB1 (fun _ h => h.elim) hYl rfl (by omega) trivial heg (fun _ => rfl)
    (OwnFrom.and (OwnFrom.and (OwnFrom.and (OwnFrom.and ((blk_own _ _ fun _ => #[.int .i64 m]).from _) ((blk_own _ _ fun _ => #[.slice none 0 0]).from _)) ((blk_own _ _ fun _ => #[.bool false]).from _)) ((boxI_own _ _ (fun pre => pre)).from _)) (ownFrom_below (Nat.le_refl _) hB1.size)) (fun _ _ _ _ h => h.elim) (fun _ _ _ _ _ h _ _ => h) (fun _ _ _ _ _ h => h.elim)
    ⟨⟨⟨⟨hb0, hb1⟩, hb2⟩, _, hb3, own_nil _ _⟩, hB1⟩ ?round ?done (fun _ _ _ _ _ _ _ h _ => h.elim)
  case round =>
    rintro l pre x r V0 V K hl2 ⟨rl, hrl⟩ hpx ⟨⟨⟨⟨h0, h1⟩, h2⟩, vb, h3, h4⟩, h5⟩ hK
    dsimp only [encI]
    have HK := Lib.hid hK
    clear hK
    gi_wp2
    refine HK.out _ ?_
    clear HK K
    have c0 := blk_cell h0 0
    have c3 := blk_cell h3 0
    have f3 := blk_free h3 0
    have hpl : pre.length + 1 ≤ xs.length := by
      have := congrArg List.length hpx
      simp at this; omega
    have hVz := h5.size
    have hVw : w1.heap.size ≤ V.heap.size := by have := blk_lt hrl; omega
    have hown : OwnI w1.heap.size V vb pre := h4
    have hor : V.ownsRow w1.heap.size 3 1 vb pre.length (pre.map (Value.int .i64)) := hown
    have HO := Lib.hid hor
    clear hor
    have H := Lib.hid (And.intro h0 (And.intro h1 (And.intro h2 (And.intro h3 (And.intro h4 (And.intro h5 hrl))))))
    clear h0 h1 h2 h3 h4 h5 hrl hown hb0 hb1 hb2 hb3 hseq heg hpx hB1
    have hlen : ∀ W, (Builtin.len_ #[26] 3 #[vb]).run Try.prog W = .ok (.int .i64 pre.length) W := fun W => by obtain ⟨A, cp, rfl⟩ := row_slice HO.out; rfl
    gi_wp2_with (first | (gi_at_builtin; refine Hid.out ?_) | simp only [hlen])
    refine Lib.hid ?_
    refine wpListIn_app_fr rfl _ _ 26 rfl w1.heap.size 3 i0 _ 1 8 Try.underlying26 hi hz0 hz1 hz2 rfl (by decide) _ _ _ rfl HO.out #[.int .i64 x] _ rfl rfl rfl (by intro u hu; simp at hu; subst hu; rfl) (by omega) (by decide) hVw ?_
    intro v1 W2 hown1 hfr1
    obtain ⟨A1, c1', rfl⟩ := row_slice hown1
    have e1 : W2.heap[w.heap.size + 3]? = some (.cells #[vb] 26 (0, 0)) := (fr_own HO.out hfr1 (by omega) (by omega : w.heap.size + 3 < V.heap.size)).trans H.out.2.2.2.1
    have g1 := blk_cell e1 0
    have g2 := blk_free e1 0
    gi_wp2_with fail
    obtain ⟨h0, h1, h2, h3, h4, h5, hrl⟩ := H.out
    have hfr : Fr (fun k => vb.ownBlock = some k ∨ k = w.heap.size + 3) V (W2.setCell ⟨w.heap.size + 3, 0, none⟩ (.slice A1 (pre.length + 1) c1')) := (hfr1.mono fun _ _ h => .inl h).setCell _ (.inr rfl) _
    have hno : ∀ c, c < w.heap.size + 3 → ¬ (vb.ownBlock = some c ∨ c = w.heap.size + 3) := by
      rintro c hc (e | e)
      · have := (h4.lt _ e).1; omega
      · omega
    refine ⟨hfr.keeps ?_ _, ?_, ⟨⟨⟨hfr.blk h0 (hno _ (by omega)), hfr.blk h1 (hno _ (by omega))⟩, hfr.blk h2 (hno _ (by omega))⟩, .slice A1 (pre.length + 1) c1', ?_, ?_⟩, h5.trans (hfr.below h5.size ?_)⟩
    · rintro k hk (e | rfl)
      · exact own_cells h4 k e
      · exact ⟨_, h3, rfl⟩
    · intro c hc
      have := hY c hc
      exact hfr.block c (by omega) (hno c (by omega))
    · have := blk_set e1 0 (.slice A1 (pre.length + 1) c1'); exact this
    · have hown2 : OwnI w1.heap.size W2 (.slice A1 (pre.length + 1) c1') (pre ++ [x]) := by
        unfold OwnI; rw [List.length_append, List.map_append]; exact hown1
      have hh : OwnI w1.heap.size (W2.setCell ⟨w.heap.size + 3, 0, none⟩ (.slice A1 (pre.length + 1) c1')) (.slice A1 (pre.length + 1) c1') (pre ++ [x]) := own_kept hown2 fun g hg => heap_setCell_other W2 _ g _ (by have := (hown2.lt g hg).1; simp; omega)
      rw [z1] at hh
      exact hh
    · rintro k hk (e | rfl)
      · have := (h4.lt k e).1; omega
      · omega
  case done =>
    rintro D V hD ⟨⟨⟨⟨h0, h1⟩, h2⟩, vb, h3, h4⟩, h5⟩ hdef
    have c1 := blk_cell h1 0
    have f1 := blk_free h1 0
    have c2 := blk_cell h2 0
    have f2 := blk_free h2 0
    have c3 := blk_cell h3 0
    obtain ⟨A, cp, rfl⟩ := row_slice h4
    have H := Lib.hid (And.intro h1 (And.intro h2 (And.intro h3 (And.intro h4 (And.intro h5 hdef)))))
    clear h0 h1 h2 h3 h4 h5 hdef hb0 hb1 hb2 hb3 hseq heg hB1
    gi_wp2_with fail
    obtain ⟨h1, h2, h3, h4, h5, hdef⟩ := H.out
    have hl4 := fun g hg => (h4.lt g hg).1
    have hDl : w1.heap.size ≤ D := hD
    obtain ⟨W3, hW3⟩ : ∃ W3, (V.setCell ⟨w.heap.size + 1, 0, none⟩ (Value.slice A xs.length cp)).setCell ⟨w.heap.size + 1 + 1, 0, none⟩ (Value.bool true) = W3 := ⟨_, rfl⟩
    rw [hW3]
    have a1 : W3.heap[w.heap.size + 1]? = some (.cells #[.slice A xs.length cp] 26 (0, 0)) := by
      rw [← hW3]
      exact blk_other (blk_set h1 0 _) _ (by simp) _
    have a2 : W3.heap[w.heap.size + 2]? = some (.cells #[.bool true] 4 (0, 0)) := by
      rw [← hW3]
      exact blk_set (blk_other h2 _ (by simp) _) 0 _
    have a3 : W3.heap[D]? = some (.deferred (some [])) := by
      rw [← hW3]
      exact blk_other (blk_other hdef _ (by simp; omega) _) _ (by simp; omega) _
    have a4 : OwnI w1.heap.size W3 (.slice A xs.length cp) xs := own_kept h4 fun g hg => by
      have := hl4 g hg
      rw [← hW3]
      exact (heap_setCell_other _ _ g _ (by simp; omega)).trans (heap_setCell_other _ _ g _ (by simp; omega))
    have a5 : Below w.heap.size w W3 := by
      rw [← hW3]
      exact (h5.setCell (by simp) _).setCell (by simp; omega) _
    refine ⟨by simp, .inl ⟨_, _, rfl, run_takeDeferred a3, ?_⟩⟩
    have e1 := put_blk (o' := .deferred none) a3 rfl a1
    have e2 := put_blk (o' := .deferred none) a3 rfl a2
    refine ⟨_, results_box2 rfl _ _ (w.heap.size + 1) (w.heap.size + 2) _ _ _ _ rfl (blk_cell e1 0) rfl (blk_cell e2 0) Try.underlying26 rfl Try.underlying4 rfl, ⟨.slice A xs.length cp, rfl, ?_⟩, a5.trans (put_below (by omega) (by have := a5.size; omega))⟩
    exact put_row a3 rfl (row_base' a4 (by omega))
end Go.Proofs.Yteiiaocohpbanaa
