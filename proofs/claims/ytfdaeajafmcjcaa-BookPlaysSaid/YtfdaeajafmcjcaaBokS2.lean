/- Layer 2: the document's book: Put. -/
import Derived.Test.YtfdaeajafmcjcaaBokR
namespace Go.Proofs.Ytfdaeajafmcjcaa
set_option linter.unusedVariables false
set_option linter.unusedSimpArgs false
open Go Go.RowKit Go.Maps Go.Sort Go.Shelf Go.Lib

/-- a cell of a row of the call's own is written -/
theorem row_setU {w : World} {base : Nat} {e : TypeId} {size g n c : Nat} {xs : List Value} (h : w.ownsRow base e size (.slice (some ⟨g, 0, none⟩) n c) n xs) (j : Nat) (v : Value) : (w.setCell ⟨g, j, none⟩ v).ownsRow base e size (.slice (some ⟨g, 0, none⟩) n c) n (xs.set j v) := by
  obtain ⟨h1, h2⟩ := h
  refine ⟨by simpa using h1, ?_⟩
  rcases h2 with ⟨h3, _⟩ | ⟨g', cap, cur, h3, hb, hg, hn, hm, hs, ht⟩
  · cases h3
  · injection h3 with q1 q2 q3
    injection q1 with q1
    injection q1 with q1 _ _
    subst q1
    subst q3
    exact .inr ⟨g, c, cur.setIfInBounds j v, rfl, hb, blk_set hg j v, hn, hm, by simpa using hs, by rw [Array.toList_setIfInBounds, List.take_set, ht]⟩
theorem encU_get (C : List (Ent VI)) (t : Nat) (h : t < C.length * 2) : (C.flatMap encU)[t]? = (encU (C.getD (t / 2) zeroEI))[t % 2]? := flatMap_get encU 2 (fun _ => rfl) (by decide) C t h
/-- an entry is written anew -/
theorem encU_set (C : List (Ent VI)) (i : Nat) (x : Ent VI) (hi : i < C.length) : (((C.flatMap encU).set (i * 2) (.string x.name)).set (i * 2 + 1) (.int .i64 x.thing)) = (C.set i x).flatMap encU := by
  have hl : (C.flatMap encU).length = C.length * 2 := encU_len C
  apply List.ext_getElem?
  intro t
  by_cases ht : t < C.length * 2
  · rw [encU_get (C.set i x) t (by rw [List.length_set]; exact ht)]
    simp only [List.getElem?_set, List.length_set, hl]
    by_cases e : t / 2 = i
    · have h1 : (C.set i x).getD (t / 2) zeroEI = x := by rw [e]; simp [List.getD, hi]
      rw [h1]
      have h4 : t % 2 = 0 ∨ t % 2 = 1 := by omega
      rcases h4 with h4 | h4
      · have : t = i * 2 := by omega
        subst this
        rw [h4]
        simp [encU, ht]
      · have : t = i * 2 + 1 := by omega
        subst this
        rw [h4]
        simp [encU, ht]
    · rw [if_neg (by omega), if_neg (by omega), encU_get C t ht]
      have h1 : (C.set i x).getD (t / 2) zeroEI = C.getD (t / 2) zeroEI := by
        simp only [List.getD, List.getElem?_set]
        rw [if_neg (fun h => e h.symm)]
      rw [h1]
  · rw [List.getElem?_eq_none (by simp [hl]; omega), List.getElem?_eq_none (by rw [encU_len, List.length_set]; omega)]
theorem cells_rowU {w : World} {base : Nat} {g c : Nat} {C : List (Ent VI)} (h : OwnU base w (.slice (some ⟨g, 0, none⟩) C.length c) C) (hl : 0 < C.length) : ∃ cs, w.heap[g]? = some (.cells cs 45 (0, 0)) ∧ base ≤ g := by
  rcases h.2 with ⟨h1, _⟩ | ⟨g', cap, cur, h1, h3, h4, h5, _⟩
  · cases h1
  · injection h1 with q1 q2 q3
    injection q1 with q1
    injection q1 with q1 _ _
    subst q1
    exact ⟨cur, h4, h3⟩
/-- the world where entry i is written anew -/
def putU (w : World) (g i : Nat) (x : Ent VI) : World := (w.setCell ⟨g, i * 2, none⟩ (.string x.name)).setCell ⟨g, i * 2 + 1, none⟩ (.int .i64 x.thing)
theorem putU_own {w : World} {base : Nat} {g c : Nat} {C : List (Ent VI)} (h : OwnU base w (.slice (some ⟨g, 0, none⟩) C.length c) C) {i : Nat} (hi : i < C.length) (x : Ent VI) : OwnU base (putU w g i x) (.slice (some ⟨g, 0, none⟩) C.length c) (C.set i x) := by
  have h1 := row_setU (row_setU h (i * 2) (.string x.name)) (i * 2 + 1) (.int .i64 x.thing)
  rw [encU_set C i x hi] at h1
  unfold OwnU putU
  rw [List.length_set]
  exact h1
theorem putU_fr {w : World} {X : Nat → Prop} {g : Nat} (hX : X g) (i : Nat) (x : Ent VI) : Fr X w (putU w g i x) := by
  unfold putU
  exact ((Fr.refl X w).setCell _ hX _).setCell _ hX _
theorem refB_put {base : Nat} {w : World} {x : Nat} {most : Int} {U : List (Ent VI)} {g c : Nat} (h0 : base ≤ x) (h2 : w.heap[x]? = some (.cells #[.int .i64 most, .slice (some ⟨g, 0, none⟩) U.length c] 32 (0, 0))) (h3 : OwnU base w (.slice (some ⟨g, 0, none⟩) U.length c) U) (h4 : (Value.slice (some ⟨g, 0, none⟩) U.length c).ownBlock ≠ some x) {i : Nat} (hi : i < U.length) (y : Ent VI) : RefB base (putU w g i y) x most (U.set i y) ∧ Fr (fun j => base ≤ j) w (putU w g i y) := by
  obtain ⟨cs, h5, h6⟩ := cells_rowU h3 (by omega)
  have hf : Fr (fun j => j = g) w (putU w g i y) := putU_fr (X := fun j => j = g) rfl i y
  have hgx : x ≠ g := fun e => h4 (by rw [e]; rfl)
  refine ⟨⟨h0, some ⟨g, 0, none⟩, c, ?_, ?_, ?_⟩, hf.mono fun k _ e => by rw [e]; exact h6⟩
  · rw [List.length_set]; exact hf.blk h2 hgx
  · rw [List.length_set]; exact putU_own h3 hi y
  · rw [List.length_set]; exact h4
theorem srcU {w : World} {base : Nat} {A : Option Addr} {c : Nat} {xs : List (Ent VI)} (h : OwnU base w (.slice A xs.length c) xs) : Src Try.prog 2 30 (.slice A xs.length c) xs.length (xs.flatMap encU) w := by
  rcases h.2 with ⟨h1, h2⟩ | ⟨g, cap, cur, h1, h3, h4, h5, _, h6, h7⟩
  · have h3 : xs = [] := List.length_eq_zero_iff.1 h2
    subst h3
    injection h1 with q1 q2 q3
    subst q1
    exact Src.ofNil w Try.underlying30 c
  · injection h1 with q1 q2 q3
    subst q1
    exact Src.ofSlice w Try.underlying30 ⟨g, 0, none⟩ xs.length c (xs.flatMap encU) (encU_len xs) (fun j u hu => h.cells (g := g) rfl j u hu) (encU_one xs)
/-- what Put leaves -/
def PutU (base x : Nat) (most : Int) (U : List (Ent VI)) (k : KeyB) (en : Ent VI) (w : World) (e : Ending) (w' : World) : Prop := ((∃ i : Nat, ∃ h : i < U.length, U[i].fold = k ∧ e = .returned (.int .i64 0) ∧ RefB base w' x most (U.set i en)) ∨ ((∀ a ∈ U, a.fold ≠ k) ∧ most ≤ (U.length : Int) ∧ e = .returned (.int .i64 7) ∧ RefB base w' x most U) ∨ ((∀ a ∈ U, a.fold ≠ k) ∧ (U.length : Int) < most ∧ e = .returned (.int .i64 0) ∧ RefB base w' x most (U ++ [en]))) ∧ Fr (fun j => base ≤ j) w w'
set_option maxRecDepth 100000 in
set_option maxHeartbeats 16000000 in
theorem ref_put {base : Nat} {w : World} {x : Nat} {most : Int} {U : List (Ent VI)} (h : RefB base w x most U) (hb : base ≤ w.heap.size) (hk : OkUB U) (hl : U.length ≤ 1000000) {name : ByteArray} (hs : name.size ≤ 1000000) (v : Int) :
    Calls Try.prog 13 #[.pointer (some ⟨x, 0, none⟩), .string name, .int .i64 v] w (PutU base x most U (foldL name.data.toList) ⟨name, foldL name.data.toList, v⟩ w) := by
  obtain ⟨i0, hi0, hz0, hz1, hz2⟩ := info_parts Try.infoEU
  have hat := ref_at h hk hl hs
  have HH := Lib.hid h
  obtain ⟨kn, hkn⟩ : ∃ kn, foldL name.data.toList = kn := ⟨_, rfl⟩
  rw [hkn] at hat ⊢
  clear h hkn
  go_enter Try.func13, Try.ntmps13
  go_wp2_with fail
  refine hat.mono ?_
  rintro e w1 ⟨⟨n, rfl, hix⟩, f1⟩
  have HA := refB_fr (X := fun _ => False) HH.out f1 fun _ _ e => e
  have F1 := Lib.hid f1
  have hb1 := Nat.le_trans hb f1.size
  clear f1 hat
  obtain ⟨h0, A, c, h2, h3, h4⟩ := HA
  rcases hix with ⟨rfl, hno⟩ | ⟨i, hi, rfl, hk1⟩
  · have HN := Lib.hid hno
    have dm : w1.cell? ⟨x, 0, none⟩ = some (.int .i64 most) := blk_cell h2 0
    have d0 : w1.cell? ⟨x, 1, none⟩ = some (.slice A U.length c) := blk_cell h2 1
    by_cases hfull : most ≤ (U.length : Int)
    · have q1 : decide (most ≤ (U.length : Int)) = true := decide_eq_true hfull
      have q2 : (U.length : Int) ≥ most := hfull
      have HZ : Hid (RefB base w1 x most U) := ⟨h0, A, c, h2, h3, h4⟩
      clear h2 h3 h4 hno
      go_wp2_with fail
      go_quiet (fail)
      go_wp2_with fail
      go_ret
      exact ⟨.inr (.inl ⟨HN.out, hfull, rfl, refB_fr (X := fun _ => False) HZ.out ((Fr.refl _ _).drewN nq) fun _ _ e => e⟩), (F1.out.drewN nq).mono fun _ _ e => e.elim⟩
    · have q1 : decide (most ≤ (U.length : Int)) = false := decide_eq_false hfull
      have q2 : ¬ (U.length : Int) ≥ most := hfull
      have HZ : Hid (RefB base w1 x most U) := ⟨h0, A, c, h2, h3, h4⟩
      clear h2 h3 h4 hno
      go_wp2_with fail
      go_quiet (fail)
      have h9 := refB_fr (X := fun _ => False) HZ.out ((Fr.refl _ _).drewN nq) fun _ _ e => e
      have F9 := Lib.hid (F1.out.drewN nq)
      obtain ⟨V, hV⟩ : ∃ V, w1.drewN nq = V := ⟨_, rfl⟩
      rw [hV] at h9 F9
      try rw [hV]
      have hb9 := Nat.le_trans hb F9.out.size
      clear dm d0 hV
      obtain ⟨h0, A, c, h2, h3, h4⟩ := h9
      have kN := heap_alloc_new V (.cells #[] 45)
      have kN2 := heap_alloc_new V.drew (.cells #[] 45)
      have kx := blk_alloc h2 (.cells #[] 45)
      have kx2 := blk_alloc (blk_drew h2) (.cells #[] 45)
      have d1 := blk_cell kx 1
      have d2 := blk_cell kx2 1
      have hxw1 : x < V.heap.size := blk_lt h2
      have H3 := Lib.hid (And.intro h3 h4)
      clear h2 h3 h4
      go_wp2_with (at_builtin; refine Hid.out ?_)
      refine Lib.hid ?_
      obtain ⟨W2, hW2⟩ : ∃ W2, V.alloc (.cells #[] 45) = W2 := ⟨_, rfl⟩
      have f2 : Fr (fun _ => False) V W2 := by rw [← hW2]; exact (Fr.refl _ _).alloc _
      have z2 : W2.heap.size = V.heap.size + 1 := by rw [← hW2]; simp
      obtain ⟨h3, h4⟩ := H3.out
      have o2 : OwnU base W2 (.slice A U.length c) U := ownU_kept h3 fun g hg => f2.block g (h3.lt g hg).2 fun e => e
      rw [hW2] at kN kx ⊢
      have hown : W2.ownsRow V.heap.size 45 2 (.slice (some ⟨V.heap.size, 0, none⟩) 0 0) 0 [] := ⟨by simp, .inr ⟨V.heap.size, 0, #[], rfl, Nat.le_refl _, kN, by simp, by decide, by simp, by simp⟩⟩
      refine wpList_app_u rfl _ _ 30 30 rfl V.heap.size 45 i0 _ 2 24 Try.underlying30 hi0 hz0 hz1 hz2 rfl _ 0 [] rfl hown (.slice A U.length c) U.length (U.flatMap encU) rfl (srcU o2) (by omega) (by decide) (by omega) ?_
      intro v3 W3 o3 f3 t3
      obtain ⟨A3, c3, ev3⟩ := row_slice o3
      subst ev3
      rw [Nat.zero_add, List.nil_append] at o3
      rw [Nat.zero_add] at t3 ⊢
      have k3 := f3.blk kx (fun e => by have : V.heap.size = x := Option.some.inj e; omega)
      have hz3 := f3.size
      have t3' : ∀ j, (Value.slice A3 U.length c3).ownBlock = some j → V.heap.size ≤ j := fun j hj => by
        rcases t3 j hj with e | e
        · have : V.heap.size = j := Option.some.inj e; omega
        · omega
      have H3 := Lib.hid (And.intro o3 (And.intro f2 (And.intro f3 t3')))
      clear hW2 o2 hown f3 t3 t3' d1 kN kx kN2 kx2 d2 h3 h4 o3 f2
      go_wp2_with (at_builtin; refine Hid.out ?_)
      refine Lib.hid ?_
      refine wpList_one_t rfl _ _ 30 rfl V.heap.size 45 i0 _ 2 24 Try.underlying30 hi0 hz0 hz1 hz2 rfl (by decide) _ U.length (U.flatMap encU) rfl H3.out.1 #[.string name, .int .i64 v] W3.heap.size rfl rfl rfl (by intro u hu; simp at hu; rcases hu with rfl | rfl <;> rfl) (by omega) (by decide) (by omega) ?_
      intro v4 W4 o4 f4 t4
      obtain ⟨A4, c4, ev4⟩ := row_slice o4
      subst ev4
      obtain ⟨o3, f2, f3, t3'⟩ := H3.out
      have hlen : (U ++ [(⟨name, kn, v⟩ : Ent VI)]).length = U.length + 1 := by simp
      have o4' : OwnU V.heap.size W4 (.slice A4 (U.length + 1) c4) (U ++ [⟨name, kn, v⟩]) := ownU_of o4 hlen.symm (by rw [List.flatMap_append]; simp [encU])
      have k4 := f4.blk k3 (fun e => by have := t3' x e; omega)
      have h4x : ∀ j, (Value.slice A4 (U.length + 1) c4).ownBlock = some j → V.heap.size ≤ j := fun j hj => (o4'.lt j hj).1
      have fall : Fr (fun j => base ≤ j) V W4 := ((f2.mono (Y := fun j => base ≤ j) fun _ _ e => e.elim).trans3 f3 fun j hj e => by have : V.heap.size = j := Option.some.inj e; omega).trans3 f4 fun j hj e => by have := t3' j e; omega
      have d4 := blk_cell k4 1
      have g4 := blk_free k4 1
      have H4 := Lib.hid (And.intro o4' (And.intro k4 (And.intro h4x fall)))
      clear o4 o4' t4 f4 o3 f2 f3 t3' h4x fall k4 k3 H3
      go_wp2_with fail
      try go_ret
      obtain ⟨o4', k4, h4x, fall⟩ := H4.out
      have hne : ∀ j, (Value.slice A4 (U.length + 1) c4).ownBlock = some j → j ≠ x := fun j hj e => by have := h4x j hj; omega
      refine ⟨.inr (.inr ⟨HN.out, by omega, rfl, ?_⟩), Fr.setCell (X := fun j => base ≤ j) ((F9.out.mono (Y := fun j => base ≤ j) fun _ _ e => e.elim).trans fall) ⟨x, 1, none⟩ h0 _⟩
      refine ⟨h0, A4, c4, ?_, ?_, ?_⟩
      · rw [hlen]
        exact (blk_set k4 1 _).trans rfl
      · rw [hlen]
        exact ownU_base (ownU_kept o4' fun j hj => heap_setCell_other W4 _ j _ fun e => hne j hj (by simpa using e)) hb9
      · rw [hlen]
        exact fun e => hne x e rfl
  · have hdst : A = some ⟨(A.map (·.block)).getD 0, 0, none⟩ := by
      rcases h3.2 with ⟨_, e⟩ | ⟨g', cap, cur, e, _⟩
      · omega
      · injection e with e1; rw [e1]; rfl
    obtain ⟨g, hg⟩ : ∃ g, (A.map (·.block)).getD 0 = g := ⟨_, rfl⟩
    rw [hg] at hdst
    clear hg
    subst hdst
    obtain ⟨cs, h5, h6⟩ := cells_rowU h3 (by omega)
    obtain ⟨g2, o2, e0, hg2, hcell⟩ := reads_ownU h3 (by omega)
    injection e0 with e0
    injection e0 with e1 e2 _
    subst e1
    subst e2
    obtain ⟨e1, e2⟩ := hcell i hi
    rw [Nat.zero_add] at e1 e2
    have d0 : w1.cell? ⟨x, 1, none⟩ = some (.slice (some ⟨g, 0, none⟩) U.length c) := blk_cell h2 1
    have hput := refB_put (x := x) h0 h2 h3 h4 hi ⟨name, kn, v⟩
    unfold putU at hput
    dsimp only at hput
    have b2 : (w1.setCell ⟨g, i * 2, none⟩ (.string name)).cell? ⟨g, i * 2 + 1, none⟩ = some (.int .i64 U[i].thing) := (World.cell?_setCell_other (h := fun e => by injection e with _ e; omega) ..).trans e2
    have f1 := blk_free h5 (i * 2)
    have f2 := blk_free h5 (i * 2 + 1)
    clear e2 hcell hg2
    have hp1 : ¬ ((i : Int) < 0) := by omega
    have hp2 : (i : Int) < (U.length : Int) := by omega
    have hp3 : (i : Int) ≥ 0 := by omega
    have HP := Lib.hid hput
    have HK := Lib.hid hk1
    clear h2 h3 h4 hk1 hput
    go_wp2_with fail
    go_ret
    exact ⟨.inl ⟨i, hi, HK.out, rfl, HP.out.1⟩, (F1.out.mono fun _ _ e => e.elim).trans HP.out.2⟩
end Go.Proofs.Ytfdaeajafmcjcaa
