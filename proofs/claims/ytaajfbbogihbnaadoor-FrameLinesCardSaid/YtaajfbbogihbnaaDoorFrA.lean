/- Layer 5: a framer as it lies; New, keep, Rest, Lost. -/
import Derived.Test.YtaajfbbogihbnaaDoorByt
import Derived.Test.YtaajfbbogihbnaaDoorScope
import Derived.IntWalk
import Derived.Deep.QuietTactic
import Derived.BigQuiet
namespace Go.Proofs.YtaajfbbogihbnaaDoor
set_option linter.unusedVariables false
set_option linter.unusedSimpArgs false
open Go Go.RowKit

/-- what waits, and whether it is too long -/
abbrev FSt : Type := List UInt8 × Bool
def keepM (s : FSt) (l : List UInt8) : FSt := if s.2 = true ∨ 510 - s.1.length < l.length then ([], true) else (s.1 ++ l, false)
/-- a framer at block F, whose bytes lie in slice v -/
def FrA (F : Nat) (v : Value) (s : FSt) (w : World) : Prop := w.heap[F]? = some (.cells #[v, .bool s.2] 43 (0, 0)) ∧ Own8 0 w v s.1 ∧ v.ownBlock ≠ some F ∧ s.1.length ≤ 510
theorem frA_kept {F : Nat} {v : Value} {s : FSt} {w W : World} {X : Nat → Prop} (h : FrA F v s w) (hf : Fr X w W) (h1 : ¬ X F) (h2 : ∀ k, v.ownBlock = some k → ¬ X k) : FrA F v s W :=
  ⟨hf.blk h.1 h1, own8_kept h.2.1 fun g hg => hf.block g ((own8_form h.2.1).elim fun A ⟨c, e⟩ => (e.2.2.2 g hg).2) (h2 g hg), h.2.2.1, h.2.2.2⟩
theorem keepM_len (s : FSt) (l : List UInt8) (h : s.1.length ≤ 510) : (keepM s l).1.length ≤ 510 := by
  unfold keepM
  split
  · exact Nat.zero_le _
  · simp only [not_or, List.length_append] at *; omega

set_option maxRecDepth 100000 in
set_option maxHeartbeats 4000000 in
theorem newFr (w : World) : Calls Tryd.prog 8 #[] w fun e w' => e = .returned (.pointer (some ⟨w.heap.size, 0, none⟩)) ∧ FrA w.heap.size (.slice none 0 0) ([], false) w' ∧ Fr (fun _ => False) w w' ∧ w.heap.size < w'.heap.size := by
  go_enter Tryd.func8, Tryd.ntmps8
  go_wp2_with fail
  go_ret
  exact ⟨rfl, ⟨World.alloc_heap_new w _, own8_nil _ _, (fun e => by cases e), Nat.zero_le _⟩, (Fr.refl _ w).alloc _, by simp⟩

set_option maxRecDepth 1000000 in
set_option maxHeartbeats 8000000 in
theorem keepFr (F : Nat) (v : Value) (s : FSt) (bv : Value) (l : List UInt8) (w : World) (h : FrA F v s w) (hb : At8 w bv l) (hl : l.length ≤ 1000000) :
    Calls Tryd.prog 21 #[.pointer (some ⟨F, 0, none⟩), bv] w fun e w' => (∃ x, e = .returned x) ∧ ∃ v', FrA F v' (keepM s l) w' ∧ Fr (fun k => k = F ∨ v.ownBlock = some k) w w' ∧ (∀ k, v'.ownBlock = some k → v.ownBlock = some k ∨ w.heap.size ≤ k) := by
  obtain ⟨k0, o0, n0, z0⟩ := h
  obtain ⟨A, c, rfl, hn, hm, hblk⟩ := own8_form o0
  have hb' := hb
  obtain ⟨B, d, rfl, hn2, hm2, _, _⟩ := hb'
  obtain ⟨xs, lost⟩ := s
  dsimp only at *
  have c0 := blk_cell k0 0
  have c1 := blk_cell k0 1
  have f0 := blk_free k0 0
  have f1 := blk_free k0 1
  simp only [List.getElem?_toArray, List.getElem?_cons_zero, List.getElem?_cons_succ] at c0 c1
  have hw1 : IntKind.i64.wrap (510 - (xs.length : Int)) = 510 - (xs.length : Int) := IntWalk.i64_in _ (by omega)
  have H := Lib.hid (And.intro k0 (And.intro o0 (And.intro n0 hb)))
  have HZ := Lib.hid (And.intro z0 hl)
  clear k0 o0 n0 hb hblk
  have lose : ∀ w', w' = (w.setCell ⟨F, 0, none⟩ (.slice none 0 0)).setCell ⟨F, 1, none⟩ (.bool true) → FrA F (.slice none 0 0) ([], true) w' ∧ Fr (fun k => k = F ∨ (Value.slice A xs.length c).ownBlock = some k) w w' := by
    rintro w' rfl
    obtain ⟨k0, o0, n0, hb⟩ := H.out
    refine ⟨⟨blk_set (blk_set k0 0 _) 1 _, own8_nil _ _, (fun e => by cases e), Nat.zero_le _⟩, ?_⟩
    exact ((Fr.refl _ w).setCell ⟨F, 0, none⟩ (.inl rfl) _).setCell ⟨F, 1, none⟩ (.inl rfl) _
  have HL := Lib.hid lose
  clear lose
  cases lost with
  | true =>
    go_enter Tryd.func21, Tryd.ntmps21
    go_wp2_with fail
    refine bodyPost_ret (results_none rfl _ _ _) rfl ?_
    obtain ⟨q1, q2⟩ := HL.out _ rfl
    exact ⟨⟨_, rfl⟩, _, by unfold keepM; rw [if_pos (.inl rfl)]; exact q1, q2, fun k hk => by cases hk⟩
  | false =>
    by_cases hgt : 510 - xs.length < l.length
    · have hgt2 : 510 - (xs.length : Int) < (l.length : Int) := by have := HZ.out.1; omega
      have HG := Lib.hid hgt
      clear hgt
      go_enter Tryd.func21, Tryd.ntmps21
      go_wp2_with fail
      refine bodyPost_ret (results_none rfl _ _ _) rfl ?_
      obtain ⟨q1, q2⟩ := HL.out _ rfl
      exact ⟨⟨_, rfl⟩, _, by unfold keepM; rw [if_pos (.inr HG.out)]; exact q1, q2, fun k hk => by cases hk⟩
    · have hgt2 : ¬ (510 - (xs.length : Int) < (l.length : Int)) := by have := HZ.out.1; omega
      have HG := Lib.hid hgt
      clear hgt
      obtain ⟨i0, hi0, hz0, hz1, hz2⟩ := info_parts Tryd.info8
      go_enter Tryd.func21, Tryd.ntmps21
      go_wp2_with (at_builtin; refine Hid.out ?_)
      refine Lib.hid ?_
      refine wpList_app_u rfl _ _ 26 26 rfl 0 5 i0 _ 1 1 Tryd.underlying26 hi0 hz0 hz1 hz2 rfl _ xs.length (xs.map enc8) rfl H.out.2.1 (.slice B l.length d) l.length (l.map enc8) rfl (src8 H.out.2.2.2) (by have := HZ.out; omega) (by decide) (Nat.zero_le _) ?_
      intro v2 W2 o2 fr2 t2
      have o2' : Own8 0 W2 v2 (xs ++ l) := own8_app o2
      obtain ⟨A2, c2, ev2, hn2, hm2, hblk2⟩ := own8_form o2'
      rw [List.length_append] at ev2
      subst ev2
      obtain ⟨k0, o0, n0, hb⟩ := H.out
      have k2 := fr2.blk k0 n0
      have n2 : (Value.slice A2 (xs.length + l.length) c2).ownBlock ≠ some F := fun e => by
        rcases t2 F e with e | e
        · exact n0 e
        · have := blk_lt k0; omega
      have d0 := blk_cell k2 0
      have g0 := blk_free k2 0
      have HF := Lib.hid (And.intro k2 (And.intro o2' (And.intro fr2 (And.intro t2 n2))))
      clear k2 o2' o2 fr2 t2 n2 k0 o0 n0 hb hblk2
      go_wp2_with fail
      go_end0
      obtain ⟨k2, o2, fr2, t2, n2⟩ := HF.out
      have hk : keepM (xs, false) l = (xs ++ l, false) := by
        unfold keepM
        rw [if_neg]
        intro e
        rcases e with e | e
        · cases e
        · exact HG.out e
      rw [hk]
      have k3 := blk_set k2 0 (Value.slice A2 (xs.length + l.length) c2)
      have o3 : Own8 0 (W2.setCell ⟨F, 0, none⟩ (Value.slice A2 (xs.length + l.length) c2)) (Value.slice A2 (xs.length + l.length) c2) (xs ++ l) := own8_kept o2 fun g hg => heap_setCell_other W2 _ g _ fun e => by cases e; exact n2 hg
      refine ⟨⟨_, rfl⟩, .slice A2 (xs.length + l.length) c2, ⟨k3, o3, n2, ?_⟩, ?_, fun k hk => t2 k hk⟩
      · have := HG.out; rw [List.length_append]; have := HZ.out.1; omega
      · exact (fr2.mono fun k _ e => .inr e).setCell ⟨F, 0, none⟩ (.inl rfl) _
set_option maxRecDepth 100000 in
set_option maxHeartbeats 4000000 in
theorem restFr (F : Nat) (v : Value) (s : FSt) (w : World) (h : FrA F v s w) :
    Calls Tryd.prog 12 #[.pointer (some ⟨F, 0, none⟩)] w fun e w' => e = .returned (.int .i64 s.1.length) ∧ w = w' := by
  obtain ⟨k0, o0, n0, z0⟩ := h
  obtain ⟨A, c, rfl, hn, hm, hblk⟩ := own8_form o0
  obtain ⟨xs, lost⟩ := s
  dsimp only at *
  have c0 := blk_cell k0 0
  simp only [List.getElem?_toArray, List.getElem?_cons_zero, List.getElem?_cons_succ] at c0
  clear k0 o0 n0 hblk
  go_enter Tryd.func12, Tryd.ntmps12
  go_wp2_with fail
  go_ret
  exact ⟨rfl, rfl⟩
set_option maxRecDepth 100000 in
set_option maxHeartbeats 4000000 in
theorem lostFr (F : Nat) (v : Value) (s : FSt) (w : World) (h : FrA F v s w) :
    Calls Tryd.prog 13 #[.pointer (some ⟨F, 0, none⟩)] w fun e w' => e = .returned (.bool s.2) ∧ w = w' := by
  obtain ⟨k0, o0, n0, z0⟩ := h
  obtain ⟨xs, lost⟩ := s
  dsimp only at *
  have c1 := blk_cell k0 1
  simp only [List.getElem?_toArray, List.getElem?_cons_zero, List.getElem?_cons_succ] at c1
  clear k0 o0 n0
  go_enter Tryd.func13, Tryd.ntmps13
  go_wp2_with fail
  go_ret
  exact ⟨rfl, rfl⟩

/-- a line as a value -/
def lineV (x : FSt) : Value := .agg #[.string (bs x.1), .bool x.2]
set_option maxRecDepth 1000000 in
set_option maxHeartbeats 8000000 in
theorem endFr (F : Nat) (v : Value) (s : FSt) (w : World) (h : FrA F v s w) :
    Calls Tryd.prog 22 #[.pointer (some ⟨F, 0, none⟩)] w fun e w' => e = .returned (lineV s) ∧ ∃ v', FrA F v' ([], false) w' ∧ v'.ownBlock = v.ownBlock ∧ Fr (fun k => k = F) w w' := by
  obtain ⟨k0, o0, n0, z0⟩ := h
  have ok := conv_own8 o0
  obtain ⟨A, c, rfl, hn, hm, hblk⟩ := own8_form o0
  obtain ⟨xs, lost⟩ := s
  dsimp only at *
  have hFl := blk_lt k0
  have c0 := blk_cell k0 0
  have c1 := blk_cell k0 1
  have f0 := blk_free k0 0
  have f1 := blk_free k0 1
  simp only [List.getElem?_toArray, List.getElem?_cons_zero, List.getElem?_cons_succ] at c0 c1
  go_enter Tryd.func22, Tryd.ntmps22
  go_wp2_with fail
  have hc1 : ∀ W, Fr (fun _ => False) w W → (convert 26 9 (.slice A xs.length c)).run Tryd.prog W = .ok (.string (bs xs)) W := fun W hW => conv_own8 (own8_kept o0 fun g hg => hW.block g (hblk g hg).2 fun e => e)
  have hcA := hc1 (w.alloc (Obj.cells #[Value.string { data := #[] }, Value.bool false] 38)).drew ((Fr.refl _ w).alloc _).drew
  have hcB := hc1 ((w.alloc (Obj.cells #[Value.string { data := #[] }, Value.bool false] 38)).alloc (Obj.cells #[Value.string { data := #[] }, Value.bool false] 38)).drew (((Fr.refl _ w).alloc _).alloc _).drew
  have H := Lib.hid (And.intro k0 (And.intro o0 (And.intro n0 (And.intro hFl hblk))))
  clear k0 o0 n0 ok hblk hc1
  go_region
  all_goals clear hcA hcB
  all_goals go_wp2_with fail
  all_goals
    obtain ⟨k0, o0, n0, hFl, hblk⟩ := H.out
    have hsz : ((w.setCell ⟨F, 0, none⟩ (.slice A 0 c)).setCell ⟨F, 1, none⟩ (.bool false)).heap.size = w.heap.size := by simp
    have hnew : (((((w.setCell ⟨F, 0, none⟩ (.slice A 0 c)).setCell ⟨F, 1, none⟩ (.bool false)).alloc (.cells #[.string (bs xs), .bool lost] 38)).alloc (.cells #[.string (bs xs), .bool lost] 38)).drew).heap[w.heap.size]? = some (.cells #[.string (bs xs), .bool lost] 38 (0, 0)) :=
      blk_drew (blk_alloc (by rw [← hsz]; exact World.alloc_heap_new _ _) _)
    refine bodyPost_ret (results_cell_row rfl _ _ w.heap.size _ _ _ _ rfl hnew Tryd.underlying38 rfl (by kernel_rfl)) rfl ?_
    have fr : Fr (fun k => k = F) w (((((w.setCell ⟨F, 0, none⟩ (.slice A 0 c)).setCell ⟨F, 1, none⟩ (.bool false)).alloc (.cells #[.string (bs xs), .bool lost] 38)).alloc (.cells #[.string (bs xs), .bool lost] 38)).drew) :=
      ((((Fr.refl (fun k => k = F) w).setCell ⟨F, 0, none⟩ rfl _).setCell ⟨F, 1, none⟩ rfl _).alloc _).alloc _ |>.drew
    refine ⟨rfl, .slice A 0 c, ⟨blk_drew (blk_alloc (blk_alloc (blk_set (blk_set k0 0 _) 1 _) _) _), ?_, ?_, Nat.zero_le _⟩, ?_, fr⟩
    · exact own8_kept (own8_clear o0) fun g hg => fr.block g (hblk g (by cases A <;> first | exact hg | cases hg)).2 fun e => by subst e; exact n0 (by cases A <;> first | exact hg | cases hg)
    · intro e; exact n0 (by cases A <;> first | exact e | cases e)
    · cases A <;> rfl
end Go.Proofs.YtaajfbbogihbnaaDoor
