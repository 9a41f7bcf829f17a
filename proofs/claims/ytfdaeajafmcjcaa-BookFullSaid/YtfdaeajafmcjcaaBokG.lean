/- Layer 2: BookFull. -/
import Derived.Test.YtfdaeajafmcjcaaBokF
import Derived.Test.YtfdaeajafmcjcaaBokBB
namespace Go.Proofs.Ytfdaeajafmcjcaa
set_option linter.unusedVariables false
set_option linter.unusedSimpArgs false
open Go Go.RowKit Go.Maps Go.Sort Go.Shelf Go.Lib

theorem wf8 {a : Int} (h : (Lit.int .u8 a).wf = true) : 0 ≤ a ∧ a ≤ 255 := by
  simp only [Lit.wf, IntKind.has, Bool.and_eq_true, decide_eq_true_eq] at h
  exact ⟨h.1, h.2⟩
theorem putB_room {base t b : Nat} {most : Int} {T : List (KeyB × Ent VB)} {name : ByteArray} {v : VB} {w w' : World} {e : Ending} (h : PutPB base t b most T name v w e w') (hr : (lookM T (foldL name.data.toList)).isSome = true ∨ (T.length : Int) < most) : e = .returned (.int .i64 0) ∧ BokB base w' t b most (setM T (foldL name.data.toList) ⟨name, foldL name.data.toList, v⟩) ∧ Fr (fun j => j = b) w w' := by
  obtain ⟨h | h, hf⟩ := h
  · exact ⟨h.2.1, h.2.2, hf⟩
  · rcases hr with hr | hr
    · rw [h.1.1] at hr; cases hr
    · exact absurd hr h.1.2
theorem putB_full {base t b : Nat} {most : Int} {T : List (KeyB × Ent VB)} {name : ByteArray} {v : VB} {w w' : World} {e : Ending} (h : PutPB base t b most T name v w e w') (hn : (lookM T (foldL name.data.toList)).isSome = false) (hr : ¬ (T.length : Int) < most) : e = .returned (.int .i64 7) ∧ BokB base w' t b most T ∧ Fr (fun j => j = b) w w' := by
  obtain ⟨h | h, hf⟩ := h
  · rcases h.1 with h1 | h1
    · rw [hn] at h1; cases h1
    · exact absurd h1 hr
  · exact ⟨h.2.1, h.2.2, hf⟩
def entD (j : Nat) : KeyB × Ent VB := (dig j, ⟨bs (dig j), dig j, true⟩)
def tabD (k : Nat) : List (KeyB × Ent VB) := (List.range k).map entD
theorem tabD_len (k : Nat) : (tabD k).length = k := by simp [tabD]
theorem tabD_look_none {k i : Nat} (hk : k ≤ i) (hi : i < 300) : (lookM (tabD k) (dig i)).isSome = false := by
  unfold lookM
  rw [Option.isSome_map, Option.isSome_eq_false_iff, Option.isNone_iff_eq_none, List.find?_eq_none]
  intro p hp
  obtain ⟨j, hj, rfl⟩ := List.mem_map.1 hp
  rw [List.mem_range] at hj
  intro e
  have e1 : dig j = dig i := of_decide_eq_true e
  have := dig_inj (i := j) (j := i) (by omega) hi e1
  omega
theorem tabD_nodup {k : Nat} (hk : k ≤ 300) : ((tabD k).map (·.1)).Nodup := by
  unfold tabD
  rw [List.map_map]
  rw [List.nodup_iff_pairwise_ne, List.pairwise_map]
  refine List.Pairwise.imp_of_mem (R := fun a b => a ≠ b) ?_ (List.nodup_iff_pairwise_ne.1 List.nodup_range)
  intro x y hx hy hne e
  rw [List.mem_range] at hx hy
  exact hne (dig_inj (by omega) (by omega) e)
theorem tabD_set {i : Nat} (hi : i < 300) : setM (tabD i) (dig i) ⟨bs (dig i), dig i, true⟩ = tabD (i + 1) := by
  unfold setM
  rw [List.filter_eq_self.2]
  · unfold tabD; rw [List.range_succ, List.map_append]; rfl
  · intro p hp
    obtain ⟨j, hj, rfl⟩ := List.mem_map.1 hp
    rw [List.mem_range] at hj
    refine decide_eq_true fun e => ?_
    have e1 : dig j = dig i := e
    have := dig_inj (i := j) (j := i) (by omega) hi e1
    omega
theorem look_set (T : List (KeyB × Ent VB)) (k : KeyB) (v : Ent VB) : (lookM (setM T k v) k).isSome = true := by
  unfold lookM setM
  rw [Option.isSome_map, List.find?_isSome]
  exact ⟨(k, v), by simp, by simp⟩
theorem tabD_any {n : Nat} (hn : 0 < n) : ((tabD n).any fun p => decide (p.1 = dig 0)) = true := by
  rw [List.any_eq_true]
  exact ⟨entD 0, List.mem_map.2 ⟨0, List.mem_range.2 hn, rfl⟩, by simp [entD]⟩
theorem tabD_look {n : Nat} (hn : 0 < n) : (lookM (tabD n) (dig 0)).isSome = true := by
  unfold lookM
  rw [Option.isSome_map, List.find?_isSome]
  exact ⟨entD 0, List.mem_map.2 ⟨0, List.mem_range.2 hn, rfl⟩, by simp [entD]⟩
theorem tabD_del {n : Nat} (hn : 0 < n) (h : n ≤ 300) : (delM (tabD n) (dig 0)).length + 1 = n := by
  have := len_delM (tabD_nodup h) (dig 0)
  rw [tabD_any hn, tabD_len] at this
  simpa using this
theorem setM_len (T : List (KeyB × Ent VB)) (k : KeyB) (v : Ent VB) : (setM T k v).length = (delM T k).length + 1 := by simp [setM, delM]
theorem del_set (T : List (KeyB × Ent VB)) (k : KeyB) (v : Ent VB) : delM (setM T k v) k = delM T k := by
  simp [setM, delM, List.filter_append]
theorem fold_dig {i : Nat} (hi : i < 300) : foldL (bs (dig i)).data.toList = dig i := by
  rw [show (bs (dig i)).data.toList = dig i by simp]; exact dig_fold hi
theorem dig_size {i : Nat} : (bs (dig i)).size ≤ 1000000 := by
  have h1 : (bs (dig i)).size = (dig i).length := by simp
  have := dig_len i
  omega
def tabM (n i : Nat) : List (KeyB × Ent VB) := tabD (min i n)
abbrev nm0 : ByteArray := ⟨#[48]⟩
abbrev nmN : ByteArray := ⟨#[110, 101, 119]⟩
theorem nm0_fold : foldL nm0.data.toList = dig 0 := by kernel_rfl
set_option maxRecDepth 100000 in
set_option maxHeartbeats 8000000 in
theorem bookFull_walk (m : Int) (hm0 : 0 ≤ m) (hm1 : m ≤ 255) (w : World) : Calls Try.prog 6 #[.int .u8 m] w fun e w' => e = .returned (.bool true) ∧ RowKit.Below w.heap.size w w' := by
  obtain ⟨n, rfl⟩ : ∃ n : Nat, m = (n : Int) := ⟨m.toNat, by omega⟩
  have hn : n ≤ 255 := by omega
  clear hm0 hm1
  have HNew : Hid (∀ V, Calls Try.prog 26 #[.int .i64 n] V _) := fun V => bok_newB (most := (n : Int)) (by omega) V
  have x1 : IntKind.i64.wrap (n : Int) = (n : Int) := IntWalk.i64_in _ ⟨by omega, by omega⟩
  have x2 : IntKind.i64.wrap ((n : Int) + 3) = (n : Int) + 3 := IntWalk.i64_in _ ⟨by omega, by omega⟩
  go_enter Try.func6, Try.ntmps6
  go_wp2_with fail
  refine (awake02 w).mono ?_
  rintro e w1 ⟨rfl, b1⟩
  have B1 := Lib.hid b1
  clear b1
  go_wp2_with fail
  refine (HNew.out _).mono ?_
  rintro e w2 ⟨t, b, rfl, h2, b2⟩
  have K2 : Hid (BokB w1.heap.size w2 t b n (tabM n 0) ∧ RowKit.Below w.heap.size w w2 ∧ w.heap.size ≤ w1.heap.size) := ⟨by unfold tabM; rw [Nat.zero_min]; exact h2, B1.out.trans (b2.mono B1.out.size), B1.out.size⟩
  obtain ⟨N, hN⟩ : ∃ N, w1.heap.size = N := ⟨_, rfl⟩
  rw [hN] at K2
  clear h2 b2 B1 HNew hN
  go_wp2_with fail
  go_loopw [5, 6] (fun _ c6 wr => ∃ i : Nat, c6 = .int .i64 i ∧ i ≤ n + 3 ∧ Hid (BokB N wr t b n (tabM n i) ∧ RowKit.Below w.heap.size w wr ∧ w.heap.size ≤ N)) (fun _ c6 _ => n + 3 - (RowKit.intOf c6).toNat)
  case atStart => exact ⟨0, rfl, Nat.zero_le _, K2⟩
  case round =>
    obtain ⟨i, rfl, hi, HB⟩ := hrel
    clear K2
    by_cases hlt : i < n + 3
    · have l1 : (i : Int) < (n : Int) + 3 := by omega
      have l2 : decide ((i : Int) < (n : Int) + 3) = true := by simp; omega
      go_wp2_with fail
      refine (digits_small i (by omega) _).mono ?_
      rintro e w3 ⟨rfl, b3⟩
      have HP := Lib.hid (bok_putB (bokB_below HB.out.1 b3) (name := bs (dig i)) (v := true) dig_size rfl (by unfold tabM; rw [tabD_len]; omega))
      have H3 := Lib.hid (And.intro (HB.out.2.1.trans (b3.mono HB.out.2.1.size)) (And.intro HB.out.1.2.1 HB.out.2.2))
      unfold thVB at HP
      clear b3 HB
      go_wp2_with fail
      refine HP.out.mono ?_
      rintro e w4 hP
      clear HP
      by_cases hin : i < n
      · have hmn : min i n = i := by omega
        have hmn1 : min (i + 1) n = i + 1 := by omega
        obtain ⟨rfl, h4, f4⟩ := putB_room hP (.inr (by unfold tabM; rw [hmn, tabD_len]; omega))
        unfold tabM at h4
        rw [hmn, fold_dig (by omega), tabD_set (by omega), ← hmn1] at h4
        have H4 : Hid (BokB N w4 t b n (tabM n (i + 1)) ∧ RowKit.Below w.heap.size w w4 ∧ w.heap.size ≤ N) := ⟨h4, H3.out.1.trans (f4.below H3.out.1.size fun k _ e => by subst e; exact Nat.le_trans H3.out.2.2 H3.out.2.1), H3.out.2.2⟩
        clear hP h4 f4 H3
        have l3 : (i : Int) < (n : Int) := by omega
        have l4 : decide ((i : Int) < (n : Int)) = true := by simp; omega
        go_wp2_with fail
        go_roundw
        case rel => exact ⟨i + 1, by go_num, by omega, H4⟩
        case measure => simp [RowKit.intOf]; omega
      · have hmn : min i n = n := by omega
        have hmn1 : min (i + 1) n = n := by omega
        obtain ⟨rfl, h4, f4⟩ := putB_full hP (by rw [fold_dig (by omega)]; unfold tabM; rw [hmn]; exact tabD_look_none (by omega) (by omega)) (by unfold tabM; rw [hmn, tabD_len]; omega)
        have H4 : Hid (BokB N w4 t b n (tabM n (i + 1)) ∧ RowKit.Below w.heap.size w w4 ∧ w.heap.size ≤ N) := ⟨by unfold tabM at h4 ⊢; rw [hmn1]; rwa [hmn] at h4, H3.out.1.trans (f4.below H3.out.1.size fun k _ e => by subst e; exact Nat.le_trans H3.out.2.2 H3.out.2.1), H3.out.2.2⟩
        clear hP h4 f4 H3
        have l3 : ¬ (i : Int) < (n : Int) := by omega
        have l4 : decide ((i : Int) < (n : Int)) = false := by simp; omega
        go_wp2_with fail
        go_roundw
        case rel => exact ⟨i + 1, by go_num, by omega, H4⟩
        case measure => simp [RowKit.intOf]; omega
    · have l1 : ¬ (i : Int) < (n : Int) + 3 := by omega
      have l2 : decide ((i : Int) < (n : Int) + 3) = false := by simp; omega
      have hmn : min i n = n := by omega
      have H : Hid (BokB N wr t b n (tabD n) ∧ RowKit.Below w.heap.size w wr ∧ w.heap.size ≤ N) := by
        have := HB.out
        unfold tabM at this
        rwa [hmn] at this
      have HL := Lib.hid (bok_lenB H.out.1)
      rw [tabD_len] at HL
      clear HB
      go_wp2_with fail
      refine HL.out.mono ?_
      rintro e w5 ⟨rfl, rfl⟩
      clear HL
      by_cases h0 : n = 0
      · subst h0
        go_wp2_with fail
        go_ret
        exact ⟨rfl, H.out.2.1⟩
      · have z1 : ¬ (n : Int) = 0 := by omega
        have z2 : decide ((n : Int) = 0) = false := by simp; omega
        go_wp2_with fail
        have HP := Lib.hid (bok_putB H.out.1 (name := nm0) (v := false) (by decide) rfl (by rw [tabD_len]; omega))
        unfold thVB at HP
        refine HP.out.mono ?_
        rintro e w6 hP
        obtain ⟨rfl, h6, f6⟩ := putB_room hP (.inl (by rw [nm0_fold]; exact tabD_look (by omega)))
        rw [nm0_fold] at h6
        have e6 : (setM (tabD n) (dig 0) ⟨nm0, dig 0, false⟩).length = n := by rw [setM_len]; exact tabD_del (by omega) (by omega)
        have H6 := Lib.hid (And.intro h6 (And.intro (H.out.2.1.trans (f6.below H.out.2.1.size fun k _ e => by subst e; exact Nat.le_trans H.out.2.2 H.out.1.2.1)) (And.intro e6 H.out.2.2)))
        clear HP hP h6 f6 H e6
        go_wp2_with fail
        have HL := bok_lenB H6.out.1
        rw [H6.out.2.2.1] at HL
        refine HL.mono ?_
        rintro e w7 ⟨rfl, rfl⟩
        clear HL
        go_wp2_with fail
        have HDl := bok_delB H6.out.1 (name := nm0) (by decide)
        rw [nm0_fold, look_set, del_set] at HDl
        refine HDl.mono ?_
        rintro e w8 ⟨rfl, h8, f8⟩
        have H8 := Lib.hid (And.intro h8 (And.intro (H6.out.2.1.trans (f8.below H6.out.2.1.size fun k _ e => by subst e; exact Nat.le_trans H6.out.2.2.2 H6.out.1.2.1)) H6.out.2.2.2))
        clear HDl h8 f8 H6
        go_wp2_with fail
        have e8 := tabD_del (n := n) (by omega) (by omega)
        have HP := bok_putB H8.out.1 (name := nmN) (v := true) (by decide) rfl (by omega)
        unfold thVB at HP
        refine HP.mono ?_
        rintro e w9 hP
        obtain ⟨rfl, h9, f9⟩ := putB_room hP (.inr (by omega))
        have H9 := Lib.hid (H8.out.2.1.trans (f9.below H8.out.2.1.size fun k _ e => by subst e; exact Nat.le_trans H8.out.2.2 H8.out.1.2.1))
        clear HP hP h9 f9 H8 e8
        go_wp2_with fail
        go_ret
        exact ⟨rfl, H9.out⟩
end Go.Proofs.Ytfdaeajafmcjcaa
