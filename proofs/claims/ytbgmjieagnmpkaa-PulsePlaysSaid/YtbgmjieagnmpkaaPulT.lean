/- Layer 16: the document's connections: Register, Line. -/
import Derived.Test.YtbgmjieagnmpkaaPulR
namespace Go.Proofs.Ytbgmjieagnmpkaa
set_option linter.unusedVariables false
set_option linter.unusedSimpArgs false
open Go Go.RowKit Go.Maps Go.Sort Go.Shelf Go.Lib

/-- a cell of a row of the call's own is written -/
theorem row_set {w : World} {base : Nat} {e : TypeId} {size g n c : Nat} {xs : List Value} (h : w.ownsRow base e size (.slice (some ⟨g, 0, none⟩) n c) n xs) (j : Nat) (v : Value) : (w.setCell ⟨g, j, none⟩ v).ownsRow base e size (.slice (some ⟨g, 0, none⟩) n c) n (xs.set j v) := by
  obtain ⟨h1, h2⟩ := h
  refine ⟨by simpa using h1, ?_⟩
  rcases h2 with ⟨h3, _⟩ | ⟨g', cap, cur, h3, hb, hg, hn, hm, hs, ht⟩
  · cases h3
  · injection h3 with q1 q2 q3
    injection q1 with q1
    injection q1 with q1 _ _
    subst q1
    subst q3
    exact .inr ⟨g, c, cur.setIfInBounds j v, rfl, hb, blk_set hg j v, hn, hm, by simpa using hs, by rw [Array.toList_setIfInBounds, List.take_set, ht]⟩
theorem encK_get (C : List Cn) (t : Nat) (h : t < C.length * 4) : (C.flatMap encK)[t]? = (encK (C.getD (t / 4) default))[t % 4]? := flatMap_get encK 4 (fun _ => rfl) (by decide) C t h
/-- a connection is written anew -/
theorem encK_set (C : List Cn) (i : Nat) (x : Cn) (hi : i < C.length) : (((((C.flatMap encK).set (i * 4) (.int .i64 x.id)).set (i * 4 + 1) (.int .i64 x.at_)).set (i * 4 + 2) (.bool x.inn)).set (i * 4 + 3) (.bool x.ask)) = (C.set i x).flatMap encK := by
  have hl : (C.flatMap encK).length = C.length * 4 := encK_len C
  apply List.ext_getElem?
  intro t
  by_cases ht : t < C.length * 4
  · rw [encK_get (C.set i x) t (by rw [List.length_set]; exact ht)]
    simp only [List.getElem?_set, List.length_set, hl]
    by_cases e : t / 4 = i
    · have h1 : (C.set i x).getD (t / 4) default = x := by rw [e]; simp [List.getD, hi]
      rw [h1]
      have h4 : t % 4 = 0 ∨ t % 4 = 1 ∨ t % 4 = 2 ∨ t % 4 = 3 := by omega
      rcases h4 with h4 | h4 | h4 | h4
      · have : t = i * 4 := by omega
        subst this
        rw [h4]
        simp [encK, ht]
      · have : t = i * 4 + 1 := by omega
        subst this
        rw [h4]
        simp [encK, ht]
      · have : t = i * 4 + 2 := by omega
        subst this
        rw [h4]
        simp [encK, ht]
      · have : t = i * 4 + 3 := by omega
        subst this
        rw [h4]
        simp [encK, ht]
    · rw [if_neg (by omega), if_neg (by omega), if_neg (by omega), if_neg (by omega), encK_get C t ht]
      have h1 : (C.set i x).getD (t / 4) default = C.getD (t / 4) default := by
        simp only [List.getD, List.getElem?_set]
        rw [if_neg (fun h => e h.symm)]
      rw [h1]
  · rw [List.getElem?_eq_none (by simp [hl]; omega), List.getElem?_eq_none (by rw [encK_len, List.length_set]; omega)]
theorem regC_at {C : List Cn} (hd : (C.map (·.id)).Nodup) {i : Nat} (hi : i < C.length) {id : Int} (hk : C[i].id = id) (now : Int) : C.set i ⟨id, now, true, false⟩ = regC C id now := by
  unfold regC
  apply List.ext_getElem?
  intro t
  rw [List.getElem?_set, List.getElem?_map]
  by_cases e : i = t
  · subst e
    rw [if_pos rfl, if_pos hi, List.getElem?_eq_getElem hi]
    simp [hk]
  · rw [if_neg e]
    cases ht : C[t]? with
    | none => rfl
    | some c =>
      have h1 := List.mem_of_getElem? ht
      have hne : c.id ≠ id := fun h => by
        have h2 : t < C.length := (List.getElem?_eq_some_iff.1 ht).1
        have h3 : C[t] = c := (List.getElem?_eq_some_iff.1 ht).2
        have h4 : (C.map (·.id))[i]'(by simpa using hi) = (C.map (·.id))[t]'(by simpa using h2) := by simp [hk, h3, h]
        exact e ((List.getElem_inj hd).1 h4)
      simp [hne]
theorem cells_row {w : World} {base : Nat} {g c : Nat} {C : List Cn} (h : OwnK base w (.slice (some ⟨g, 0, none⟩) C.length c) C) (hl : 0 < C.length) : ∃ cs, w.heap[g]? = some (.cells cs 75 (0, 0)) ∧ base ≤ g := by
  rcases h.2 with ⟨h1, _⟩ | ⟨g', cap, cur, h1, h3, h4, h5, _⟩
  · cases h1
  · injection h1 with q1 q2 q3
    injection q1 with q1
    injection q1 with q1 _ _
    subst q1
    exact ⟨cur, h4, h3⟩
/-- the world where connection i is written anew -/
def putK (w : World) (g i : Nat) (x : Cn) : World := (((w.setCell ⟨g, i * 4, none⟩ (.int .i64 x.id)).setCell ⟨g, i * 4 + 1, none⟩ (.int .i64 x.at_)).setCell ⟨g, i * 4 + 2, none⟩ (.bool x.inn)).setCell ⟨g, i * 4 + 3, none⟩ (.bool x.ask)
theorem putK_own {w : World} {base : Nat} {g c : Nat} {C : List Cn} (h : OwnK base w (.slice (some ⟨g, 0, none⟩) C.length c) C) {i : Nat} (hi : i < C.length) (x : Cn) : OwnK base (putK w g i x) (.slice (some ⟨g, 0, none⟩) C.length c) (C.set i x) := by
  have h1 := row_set (row_set (row_set (row_set h (i * 4) (.int .i64 x.id)) (i * 4 + 1) (.int .i64 x.at_)) (i * 4 + 2) (.bool x.inn)) (i * 4 + 3) (.bool x.ask)
  rw [encK_set C i x hi] at h1
  unfold OwnK putK
  rw [List.length_set]
  exact h1
theorem putK_fr {w : World} {X : Nat → Prop} {g : Nat} (hX : X g) (i : Nat) (x : Cn) : Fr X w (putK w g i x) := by
  unfold putK
  exact ((((Fr.refl X w).setCell _ hX _).setCell _ hX _).setCell _ hX _).setCell _ hX _
section
variable {base : Nat} {w : World} {x : Nat} {pg gr rg : Int} {C : List Cn}
theorem refC_put {A : Option Addr} {g c : Nat} (hA : A = some ⟨g, 0, none⟩) (h0 : base ≤ x) (h2 : w.heap[x]? = some (.cells #[.int .i64 pg, .int .i64 gr, .int .i64 rg, .slice A C.length c] 65 (0, 0))) (h3 : OwnK base w (.slice A C.length c) C) (h4 : (Value.slice A C.length c).ownBlock ≠ some x) {i : Nat} (hi : i < C.length) (y : Cn) : RefC base (putK w g i y) x pg gr rg (C.set i y) ∧ Fr (DocX w x) w (putK w g i y) := by
  subst hA
  obtain ⟨cs, h5, h6⟩ := cells_row h3 (by omega)
  have hf : Fr (fun j => j = g) w (putK w g i y) := putK_fr (X := fun j => j = g) rfl i y
  have hgx : x ≠ g := fun e => h4 (by rw [e]; rfl)
  refine ⟨⟨h0, some ⟨g, 0, none⟩, c, ?_, ?_, ?_⟩, hf.mono fun k _ e => .inr ⟨_, _, _, blk_cell h2 3, by rw [e]; rfl⟩⟩
  · rw [List.length_set]; exact hf.blk h2 hgx
  · rw [List.length_set]; exact putK_own h3 hi y
  · rw [List.length_set]; exact h4
set_option maxRecDepth 100000 in
set_option maxHeartbeats 8000000 in
theorem refc_reg (h : RefC base w x pg gr rg C) (hnd : (C.map (·.id)).Nodup) (hl : C.length ≤ 1000000) (id now : Int) :
    Calls Try.prog 31 #[.pointer (some ⟨x, 0, none⟩), .int .i64 id, .int .i64 now] w (DocP base x pg gr rg (regC C id now) w) := by
  have hat := refc_at h hl id
  have HH := Lib.hid (And.intro h hnd)
  obtain ⟨h0, A, c, h2, h3, h4⟩ := h
  have H3 := Lib.hid (And.intro h2 (And.intro h3 h4))
  clear h2 h3 h4
  go_enter Try.func31, Try.ntmps31
  go_wp2_with fail
  refine hat.mono ?_
  rintro e w' ⟨⟨n, rfl, hix⟩, rfl⟩
  rcases hix with ⟨rfl, hl1⟩ | ⟨i, hi, rfl, hk⟩
  · have HL := Lib.hid hl1
    clear hl1 hat
    go_wp2_with fail
    go_end0
    exact ⟨rfl, by rw [regC_none (findC_none.1 HL.out)]; exact HH.out.1, Fr.refl _ _⟩
  · obtain ⟨h2, h3, h4⟩ := H3.out
    have HL := Lib.hid hk
    obtain ⟨g, o, hA, hg, hcell⟩ := reads_ownK h3 (by omega)
    have ho : o = 0 := by
      rcases h3.2 with ⟨e, _⟩ | ⟨g', cap, cur, e, _⟩
      · injection e with e1; rw [hA] at e1; cases e1
      · injection e with e1; rw [hA] at e1; injection e1 with e1; injection e1
    subst ho
    subst hA
    obtain ⟨cs, h5, h6⟩ := cells_row h3 (by omega)
    obtain ⟨e1, e2, e3, e4⟩ := hcell i hi
    rw [Nat.zero_add] at e1 e2 e3 e4
    have d0 : w'.cell? ⟨x, 3, none⟩ = some (.slice (some ⟨g, 0, none⟩) C.length c) := blk_cell h2 3
    have hput := refC_put (x := x) rfl h0 h2 h3 h4 hi ⟨id, now, true, false⟩
    unfold putK at hput
    dsimp only at hput
    have nb : ∀ a b : Nat, a ≠ b → (⟨g, a, none⟩ : Addr) ≠ ⟨g, b, none⟩ := fun a b h e => h (by injection e)
    have b2 : (w'.setCell ⟨g, i * 4, none⟩ (.int .i64 id)).cell? ⟨g, i * 4 + 1, none⟩ = some (.int .i64 C[i].at_) := (World.cell?_setCell_other (h := nb _ _ (by omega)) ..).trans e2
    have b3 : ((w'.setCell ⟨g, i * 4, none⟩ (.int .i64 id)).setCell ⟨g, i * 4 + 1, none⟩ (.int .i64 now)).cell? ⟨g, i * 4 + 2, none⟩ = some (.bool C[i].inn) := (World.cell?_setCell_other (h := nb _ _ (by omega)) ..).trans ((World.cell?_setCell_other (h := nb _ _ (by omega)) ..).trans e3)
    have b4 : (((w'.setCell ⟨g, i * 4, none⟩ (.int .i64 id)).setCell ⟨g, i * 4 + 1, none⟩ (.int .i64 now)).setCell ⟨g, i * 4 + 2, none⟩ (.bool true)).cell? ⟨g, i * 4 + 3, none⟩ = some (.bool C[i].ask) := (World.cell?_setCell_other (h := nb _ _ (by omega)) ..).trans ((World.cell?_setCell_other (h := nb _ _ (by omega)) ..).trans ((World.cell?_setCell_other (h := nb _ _ (by omega)) ..).trans e4))
    have f1 := blk_free h5 (i * 4)
    have f2 := blk_free h5 (i * 4 + 1)
    have f3 := blk_free h5 (i * 4 + 2)
    have f4 := blk_free h5 (i * 4 + 3)
    clear nb e2 e3 e4 hcell
    have hp1 : ¬ ((i : Int) < 0) := by omega
    have hp2 : (i : Int) < (C.length : Int) := by omega
    have HP := Lib.hid hput
    clear h2 h3 h4 hk hput hat
    go_wp2_with fail
    go_end0
    have hr := regC_at HH.out.2 hi HL.out now
    rw [← hr]
    exact ⟨rfl, HP.out⟩
set_option maxRecDepth 100000 in
set_option maxHeartbeats 8000000 in
theorem refc_line (h : RefC base w x pg gr rg C) (hnd : (C.map (·.id)).Nodup) (hl : C.length ≤ 1000000) (id now : Int) :
    Calls Try.prog 33 #[.pointer (some ⟨x, 0, none⟩), .int .i64 id, .int .i64 now] w (DocP base x pg gr rg (lineC C id now) w) := by
  have hat := refc_at h hl id
  have HH := Lib.hid (And.intro h hnd)
  obtain ⟨h0, A, c, h2, h3, h4⟩ := h
  have H3 := Lib.hid (And.intro h2 (And.intro h3 h4))
  clear h2 h3 h4
  go_enter Try.func33, Try.ntmps33
  go_wp2_with fail
  refine hat.mono ?_
  rintro e w' ⟨⟨n, rfl, hix⟩, rfl⟩
  rcases hix with ⟨rfl, hl1⟩ | ⟨i, hi, rfl, hk⟩
  · have HL := Lib.hid hl1
    clear hl1 hat
    go_wp2_with fail
    go_end0
    have hq : lineC C id now = C := by rw [lineC_eq HH.out.2, HL.out]
    exact ⟨rfl, by rw [hq]; exact HH.out.1, Fr.refl _ _⟩
  · obtain ⟨h2, h3, h4⟩ := H3.out
    have HL := Lib.hid hk
    obtain ⟨g, o, hA, hg, hcell⟩ := reads_ownK h3 (by omega)
    have ho : o = 0 := by
      rcases h3.2 with ⟨e, _⟩ | ⟨g', cap, cur, e, _⟩
      · injection e with e1; rw [hA] at e1; cases e1
      · injection e with e1; rw [hA] at e1; injection e1 with e1; injection e1
    subst ho
    subst hA
    obtain ⟨cs, h5, h6⟩ := cells_row h3 (by omega)
    obtain ⟨e1, e2, e3, e4⟩ := hcell i hi
    rw [Nat.zero_add] at e1 e2 e3 e4
    have d0 : w'.cell? ⟨x, 3, none⟩ = some (.slice (some ⟨g, 0, none⟩) C.length c) := blk_cell h2 3
    have hput := refC_put (x := x) rfl h0 h2 h3 h4 hi ⟨id, now, true, false⟩
    unfold putK at hput
    dsimp only at hput
    have nb : ∀ a b : Nat, a ≠ b → (⟨g, a, none⟩ : Addr) ≠ ⟨g, b, none⟩ := fun a b h e => h (by injection e)
    have b2 : (w'.setCell ⟨g, i * 4, none⟩ (.int .i64 id)).cell? ⟨g, i * 4 + 1, none⟩ = some (.int .i64 C[i].at_) := (World.cell?_setCell_other (h := nb _ _ (by omega)) ..).trans e2
    have b3 : ((w'.setCell ⟨g, i * 4, none⟩ (.int .i64 id)).setCell ⟨g, i * 4 + 1, none⟩ (.int .i64 now)).cell? ⟨g, i * 4 + 2, none⟩ = some (.bool C[i].inn) := (World.cell?_setCell_other (h := nb _ _ (by omega)) ..).trans ((World.cell?_setCell_other (h := nb _ _ (by omega)) ..).trans e3)
    have b4 : (((w'.setCell ⟨g, i * 4, none⟩ (.int .i64 id)).setCell ⟨g, i * 4 + 1, none⟩ (.int .i64 now)).setCell ⟨g, i * 4 + 2, none⟩ (.bool true)).cell? ⟨g, i * 4 + 3, none⟩ = some (.bool C[i].ask) := (World.cell?_setCell_other (h := nb _ _ (by omega)) ..).trans ((World.cell?_setCell_other (h := nb _ _ (by omega)) ..).trans ((World.cell?_setCell_other (h := nb _ _ (by omega)) ..).trans e4))
    have f1 := blk_free h5 (i * 4)
    have f2 := blk_free h5 (i * 4 + 1)
    have f3 := blk_free h5 (i * 4 + 2)
    have f4 := blk_free h5 (i * 4 + 3)
    clear nb e2 e4 hcell
    have hp1 : ¬ ((i : Int) < 0) := by omega
    have hp2 : (i : Int) < (C.length : Int) := by omega
    have HP := Lib.hid hput
    obtain ⟨inn, hinn⟩ : ∃ b, C[i].inn = b := ⟨_, rfl⟩
    have hfd : findC C id = some C[i] := by rw [← hk]; exact findC_at HH.out.2 hi
    have hline : lineC C id now = if inn = true then regC C id now else C := by rw [lineC_eq HH.out.2, hfd]; simp only [hinn]
    rw [hinn] at e3 b3
    have HLn := Lib.hid hline
    clear h2 h3 h4 hk hput hat hfd hline hinn
    cases inn with
    | true =>
      go_wp2_with fail
      go_end0
      have hr := regC_at HH.out.2 hi HL.out now
      have hq : lineC C id now = regC C id now := by rw [HLn.out]; simp
      rw [hq, ← hr]
      exact ⟨rfl, HP.out⟩
    | false =>
      go_wp2_with fail
      go_end0
      have hq : lineC C id now = C := by rw [HLn.out]; simp
      exact ⟨rfl, by rw [hq]; exact HH.out.1, Fr.refl _ _⟩
end
end Go.Proofs.Ytbgmjieagnmpkaa
