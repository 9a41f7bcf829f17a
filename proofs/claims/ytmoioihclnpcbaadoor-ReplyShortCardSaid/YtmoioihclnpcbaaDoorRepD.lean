/- Layer 14: Make: a line of a command and parameters. -/
import Derived.Test.YtmoioihclnpcbaaDoorRepC
import Derived.Test.YtmoioihclnpcbaaDoorOwn
import Derived.Test.YtmoioihclnpcbaaDoorApp
namespace Go.Proofs.YtmoioihclnpcbaaDoor
set_option linter.unusedVariables false
set_option linter.unusedSimpArgs false
open Go Go.RowKit

theorem parsL_len : ∀ qs : List (List UInt8), (parsL qs).length = qs.length
  | [] => rfl
  | [q] => rfl
  | p :: q :: r => by have := parsL_len (q :: r); simp only [parsL, List.length_cons] at *; omega
theorem parsL_get : ∀ (qs : List (List UInt8)) (k : Nat) (h : k < qs.length), (parsL qs)[k]? = some (if k + 1 < qs.length then midL qs[k] else qs[k])
  | [q], 0, _ => rfl
  | p :: q :: r, 0, _ => by simp [parsL]
  | p :: q :: r, k + 1, h => by
    have := parsL_get (q :: r) k (by simpa using h)
    simp only [parsL, List.getElem?_cons_succ, this]
    simp
theorem midU_len (l : List UInt8) : (midU l).length ≤ l.length + 1 := by
  cases l with
  | nil => simp [midU]
  | cons b r =>
    by_cases h : b = 58
    · rw [show midU (b :: r) = 45 :: r from if_pos h]; simp
    · rw [show midU (b :: r) = b :: r from if_neg h]; simp
theorem midL_len (l : List UInt8) : (midL l).length ≤ l.length + 1 := by
  unfold midL dashL
  have := midU_len (l.map fun b => if b = 32 then 45 else b)
  simpa using this
/-- the parameters of a line -/
def lineP (ps : List (List UInt8)) : List (List UInt8) := parsL (ps.map cleanL)
theorem lineP_len (ps : List (List UInt8)) : (lineP ps).length = ps.length := by unfold lineP; rw [parsL_len]; simp
theorem lineP_take {ps : List (List UInt8)} {k : Nat} (h : k < ps.length) : (lineP ps).take (k + 1) = (lineP ps).take k ++ [if k + 1 < ps.length then midL (cleanL ps[k]) else cleanL ps[k]] := by
  have h2 := parsL_get (ps.map cleanL) k (by simpa using h)
  rw [List.take_add_one]
  unfold lineP
  rw [h2]
  simp
/-- the line that Make makes -/
def makeL (pre name : List UInt8) (ps : List (List UInt8)) : List UInt8 := (writeL (dashL (cleanL pre)) name (lineP ps)).take 510
theorem lineP_mem {ps : List (List UInt8)} {B : Nat} (hp : ∀ p ∈ ps, p.length ≤ B) : ∀ p ∈ lineP ps, p.length ≤ B + 1 := by
  intro p hm
  obtain ⟨k, hk⟩ := List.getElem?_of_mem hm
  have hlt : k < ps.length := by have := (List.getElem?_eq_some_iff.1 hk).1; rwa [lineP_len] at this
  have h2 := parsL_get (ps.map cleanL) k (by simpa using hlt)
  unfold lineP at hk
  rw [hk] at h2
  have h3 := hp ps[k] (List.getElem_mem hlt)
  have h4 := clean_len ps[k]
  have h5 := midL_len (cleanL ps[k])
  cases h2
  simp only [List.getElem_map, List.length_map]
  split <;> omega
set_option maxRecDepth 100000 in
set_option maxHeartbeats 16000000 in
theorem makeM (pre name : List UInt8) (A : Option Addr) (c : Nat) (ps : List (List UInt8)) (w : World) (hR : ReadsT w A ps) (hm : Mx w) (hn : cmdB (bs name) = true) (h1 : pre.length ≤ 1000000) (h2 : name.length ≤ 1000000) (h3 : ps.length ≤ 15) (h4 : ∀ p ∈ ps, p.length ≤ 90000) :
    Calls Tryd.prog 10 #[.string (bs pre), .string (bs name), .slice A ps.length c] w fun e w' => e = .returned (.string (bs (makeL pre name ps))) ∧ Below w.heap.size w w' := by
  have HR := Lib.hid hR
  have HM := Lib.hid hm
  have HC := Lib.hid (cmdM (bs name) w (by simpa using h2))
  rw [hn] at HC
  have HU := Lib.hid (unpM pre w h1 hm)
  obtain ⟨up, hup⟩ : ∃ u, dashL (cleanL pre) = u := ⟨_, rfl⟩
  have hupl : up.length ≤ 1000000 := by rw [← hup]; unfold dashL; rw [List.length_map]; exact Nat.le_trans (clean_len pre) h1
  rw [hup] at HU
  have HUP := Lib.hid (And.intro hup hupl)
  clear hR hm hn hup hupl
  obtain ⟨i0, hi0, hz0, hz1, hz2⟩ := info_parts Tryd.infoT
  have hnl : ¬ (15 : Int) < ps.length := by omega
  go_enter Tryd.func10, Tryd.ntmps10
  go_wp2_with fail
  refine HC.out.mono ?_
  rintro e w' ⟨rfl, rfl⟩
  go_wp2_with fail
  refine HU.out.mono ?_
  rintro e w1 ⟨rfl, hb1⟩
  have HB1 := Lib.hid hb1
  clear hb1
  go_wp2_with fail
  obtain ⟨N2, hN2⟩ : ∃ n, w1.heap.size = n := ⟨_, rfl⟩
  have hw1 : w'.heap.size ≤ N2 := by rw [← hN2]; exact HB1.out.size
  have HN2 := Lib.hid hN2
  have hbx := heap_alloc_new w1 (.cells #[.slice none 0 0, .string (bs up), .string (bs name), .slice none 0 0] 37)
  have hsz : (w1.alloc (.cells #[.slice none 0 0, .string (bs up), .string (bs name), .slice none 0 0] 37)).heap.size = N2 + 1 := by rw [World.size_alloc, hN2]
  have hbl : Below N2 w1 (w1.alloc (.cells #[.slice none 0 0, .string (bs up), .string (bs name), .slice none 0 0] 37)) := (Below.refl _ w1).alloc (by omega) _
  rw [hN2]
  rw [hN2] at hbx
  obtain ⟨W1, hW1⟩ : ∃ W, (w1.alloc (.cells #[.slice none 0 0, .string (bs up), .string (bs name), .slice none 0 0] 37)) = W := ⟨_, rfl⟩
  rw [hW1] at hbx hsz hbl ⊢
  have HX := Lib.hid (And.intro hbx (And.intro hsz hbl))
  clear hbx hsz hbl hW1 hN2 hw1
  go_loopw [25] (fun i wr => ∃ (k : Nat) (v : Value), k ≤ ps.length ∧ i = .int .i64 k ∧ wr.heap[N2]? = some (.cells #[.slice none 0 0, .string (bs up), .string (bs name), v] 37 (0, 0)) ∧ OwnT (N2 + 1) wr v ((lineP ps).take k) ∧ Below N2 w1 wr ∧ N2 + 1 ≤ wr.heap.size) (fun i _ => ps.length - (intOf i).toNat)
  case atStart => exact ⟨0, _, Nat.zero_le _, rfl, HX.out.1, ownT_nil _ _, HX.out.2.2, by rw [HX.out.2.1]; exact Nat.le_refl _⟩
  case round =>
    obtain ⟨k, v, hk, rfl, hbox, hown, hB, hS⟩ := hrel
    have hv : wr.cell? ⟨N2, 3, none⟩ = some v := blk_cell hbox 3
    have HO := Lib.hid (And.intro hbox (And.intro hown (And.intro hB hS)))
    clear hbox hown hB hS
    by_cases hlt : k < ps.length
    · obtain ⟨g, o, hA, hg, hc⟩ := HR.out (by omega)
      have hcell : wr.cell? ⟨g, o + k, none⟩ = some (.string (bs ps[k])) := ((HB1.out.trans (HO.out.2.2.1.mono (by rw [← HN2.out]; exact HB1.out.size))).cell (p := ⟨g, o + k, none⟩) hg).trans (hc k hlt)
      have hmx : Mx wr := mx_kept HM.out (HB1.out.trans (HO.out.2.2.1.mono (by rw [← HN2.out]; exact HB1.out.size))) (Nat.le_refl _)
      have hpk := h4 ps[k] (List.getElem_mem hlt)
      have htk := lineP_take hlt
      obtain ⟨p, hp⟩ : ∃ p, ps[k] = p := ⟨_, rfl⟩
      rw [hp] at hcell hpk htk
      have HT := Lib.hid htk
      have HMM := Lib.hid (midM p wr (by omega) hmx)
      have HCM := Lib.hid (cleanM p wr (by omega))
      have HPK := Lib.hid hpk
      clear hc hmx htk hp hpk hg
      subst hA
      by_cases hlast : (k : Int) < ps.length - 1
      · go_wp2_with fail
        refine HMM.out.mono ?_
        rintro e w2 ⟨rfl, hb2⟩
        have hbox2 := (Fr.of_below (X := fun _ => False) hb2).blk HO.out.1 (fun h => h)
        have hown2 : OwnT (N2 + 1) w2 v ((lineP ps).take k) := ownT_kept HO.out.2.1 fun g' hg' => hb2.block g' (HO.out.2.1.lt g' hg').2
        have hv2 : w2.cell? ⟨N2, 3, none⟩ = some v := blk_cell hbox2 3
        have hS2 : N2 + 1 ≤ w2.heap.size := Nat.le_trans HO.out.2.2.2 hb2.size
        have hB2 : Below N2 w1 w2 := HO.out.2.2.1.trans (hb2.mono (by have := HO.out.2.2.2; omega))
        obtain ⟨D, hD⟩ : ∃ D, (lineP ps).take k = D := ⟨_, rfl⟩
        have hDl : D.length ≤ 15 := by rw [← hD, List.length_take]; omega
        rw [hD] at hown2
        have HD := Lib.hid hD
        have H2 := Lib.hid (And.intro hbox2 (And.intro hown2 (And.intro hB2 hS2)))
        clear hbox2 hown2 hS2 hB2 hb2 hD
        go_wp2_with (at_builtin; refine wpList_app_fr rfl _ _ 25 rfl (N2 + 1) 9 i0 (.string ByteArray.empty) 1 16 Tryd.underlying25 hi0 hz0 hz1 hz2 rfl (by decide) v _ _ rfl H2.out.2.1 #[.string (bs (midL (cleanL p)))] w2.heap.size rfl rfl rfl (by intro u hu; simp at hu; subst hu; rfl) (by omega) (by decide) H2.out.2.2.2 ?_)
        intro v1 w3 hown3 hfr3
        have hbox3 := hfr3.blk H2.out.1 (fun e => by have := (H2.out.2.1.lt _ e).1; omega)
        have hv3 : w3.cell? ⟨N2, 3, none⟩ = some v := blk_cell hbox3 3
        have hf3 : w3.frozen? ⟨N2, 3, none⟩ = false := blk_free hbox3 3
        have H3 := Lib.hid (And.intro hbox3 (And.intro (ownT_snoc hown3) hfr3))
        obtain ⟨A3, c3, hv4⟩ := row_slice hown3
        subst hv4
        clear hbox3 hown3 hfr3 hv2
        go_wp2_with fail
        refine ⟨⟨k + 1, .slice A3 (D.length + 1) c3, by omega, by push_cast; rfl, blk_set H3.out.1 3 _, ?_, ?_, ?_⟩, by simp only [intOf]; omega⟩
        · rw [HT.out, if_pos (by omega), HD.out]
          exact ownT_kept H3.out.2.1 fun g' hg' => heap_setCell_other w3 _ g' _ fun e => by have := (H3.out.2.1.lt g' hg').1; simp at e; omega
        · refine Below.setCell (H2.out.2.2.1.trans (H3.out.2.2.below (by have := H2.out.2.2.2; omega) fun g' _ hg' => ?_)) (Nat.le_refl _) _
          have := (H2.out.2.1.lt g' hg').1; omega
        · have := H3.out.2.2.size
          have := H2.out.2.2.2
          simp; omega
      · go_wp2_with fail
        refine HCM.out.mono ?_
        rintro e w2 ⟨rfl, hb2⟩
        have hbox2 := (Fr.of_below (X := fun _ => False) hb2).blk HO.out.1 (fun h => h)
        have hown2 : OwnT (N2 + 1) w2 v ((lineP ps).take k) := ownT_kept HO.out.2.1 fun g' hg' => hb2.block g' (HO.out.2.1.lt g' hg').2
        have hv2 : w2.cell? ⟨N2, 3, none⟩ = some v := blk_cell hbox2 3
        have hS2 : N2 + 1 ≤ w2.heap.size := Nat.le_trans HO.out.2.2.2 hb2.size
        have hB2 : Below N2 w1 w2 := HO.out.2.2.1.trans (hb2.mono (by have := HO.out.2.2.2; omega))
        obtain ⟨D, hD⟩ : ∃ D, (lineP ps).take k = D := ⟨_, rfl⟩
        have hDl : D.length ≤ 15 := by rw [← hD, List.length_take]; omega
        rw [hD] at hown2
        have HD := Lib.hid hD
        have H2 := Lib.hid (And.intro hbox2 (And.intro hown2 (And.intro hB2 hS2)))
        clear hbox2 hown2 hS2 hB2 hb2 hD
        go_wp2_with (at_builtin; refine wpList_app_fr rfl _ _ 25 rfl (N2 + 1) 9 i0 (.string ByteArray.empty) 1 16 Tryd.underlying25 hi0 hz0 hz1 hz2 rfl (by decide) v _ _ rfl H2.out.2.1 #[.string (bs (cleanL p))] w2.heap.size rfl rfl rfl (by intro u hu; simp at hu; subst hu; rfl) (by omega) (by decide) H2.out.2.2.2 ?_)
        intro v1 w3 hown3 hfr3
        have hbox3 := hfr3.blk H2.out.1 (fun e => by have := (H2.out.2.1.lt _ e).1; omega)
        have hv3 : w3.cell? ⟨N2, 3, none⟩ = some v := blk_cell hbox3 3
        have hf3 : w3.frozen? ⟨N2, 3, none⟩ = false := blk_free hbox3 3
        have H3 := Lib.hid (And.intro hbox3 (And.intro (ownT_snoc hown3) hfr3))
        obtain ⟨A3, c3, hv4⟩ := row_slice hown3
        subst hv4
        clear hbox3 hown3 hfr3 hv2
        go_wp2_with fail
        refine ⟨⟨k + 1, .slice A3 (D.length + 1) c3, by omega, by push_cast; rfl, blk_set H3.out.1 3 _, ?_, ?_, ?_⟩, by simp only [intOf]; omega⟩
        · rw [HT.out, if_neg (by omega), HD.out]
          exact ownT_kept H3.out.2.1 fun g' hg' => heap_setCell_other w3 _ g' _ fun e => by have := (H3.out.2.1.lt g' hg').1; simp at e; omega
        · refine Below.setCell (H2.out.2.2.1.trans (H3.out.2.2.below (by have := H2.out.2.2.2; omega) fun g' _ hg' => ?_)) (Nat.le_refl _) _
          have := (H2.out.2.1.lt g' hg').1; omega
        · have := H3.out.2.2.size
          have := H2.out.2.2.2
          simp; omega
    · obtain rfl : k = ps.length := by omega
      obtain ⟨D, hD⟩ : ∃ D, lineP ps = D := ⟨_, rfl⟩
      have hDl : D.length = ps.length := by rw [← hD, lineP_len]
      have hown : OwnT (N2 + 1) wr v D := by have := HO.out.2.1; rwa [List.take_of_length_le (by rw [lineP_len]; exact Nat.le_refl _), hD] at this
      obtain ⟨A2, c2, hv2⟩ := row_slice hown
      subst hv2
      have HW := Lib.hid (writeM up name A2 c2 D wr (reads_ownT hown) HUP.out.2 h2 (by omega) (fun q hq => by have := lineP_mem h4 q (hD ▸ hq); omega))
      rw [hDl] at HW
      have hbox := HO.out.1
      have hc0 : wr.cell? ⟨N2, 0, none⟩ = some (.slice none 0 0) := blk_cell hbox 0
      have hc1 : wr.cell? ⟨N2, 1, none⟩ = some (.string (bs up)) := blk_cell hbox 1
      have hc2 : wr.cell? ⟨N2, 2, none⟩ = some (.string (bs name)) := blk_cell hbox 2
      have HD := Lib.hid hD
      clear hown hbox hD
      go_wp2_with fail
      refine HW.out.mono ?_
      rintro e w2 ⟨rfl, hb2⟩
      obtain ⟨L, hL⟩ : ∃ L, writeL up name D = L := ⟨_, rfl⟩
      rw [hL]
      have hend : makeL pre name ps = L.take 510 := by unfold makeL; rw [HUP.out.1, HD.out, hL]
      have HE := Lib.hid hend
      have HB2 := Lib.hid hb2
      clear hb2 hL hend
      go_wp2_with fail
      go_ret
      refine ⟨?_, ?_⟩
      · have e : (bs L).extract 0 (min ((L.length : Nat) : Int) 510).toNat = bs (L.take 510) := by
          have e2 : (min ((L.length : Nat) : Int) 510).toNat = min L.length 510 := by omega
          rw [e2]
          refine ba_ext ?_
          by_cases h : L.length ≤ 510
          · rw [Nat.min_eq_left h, List.take_of_length_le h]; simp
          · rw [Nat.min_eq_right (by omega)]; simp
        rw [HE.out, ← e]; rfl
      · exact HB1.out.trans ((HO.out.2.2.1.trans (HB2.out.mono (by have := HO.out.2.2.2; omega))).mono (by rw [← HN2.out]; exact HB1.out.size))
end Go.Proofs.YtmoioihclnpcbaaDoor
