/- Layer 10: Meet. -/
import Derived.Test.YteiiaocohpbanaaSetO
namespace Go.Proofs.Yteiiaocohpbanaa
set_option linter.unusedVariables false
set_option linter.unusedSimpArgs false
open Go Go.RowKit Go.Lib Go.Sort Go.Shelf
attribute [local go_sem] Oper.semAt_some

theorem ptr_len {w : World} {p : Value} {xs : List Int} (h : PtrAt w p xs) : Calls Try.prog 16 #[p] w fun e w' => e = .returned (.int .i64 xs.length) ∧ w' = w := by
  rcases h with ⟨rfl, rfl⟩ | ⟨s, ob, base, rfl, h2⟩
  · exact set_len_nil w
  · exact set_len h2
theorem ptr_has {w : World} {p : Value} {xs : List Int} (h : PtrAt w p xs) (hl : xs.length ≤ 1000000) (x : Int) : Calls Try.prog 17 #[p, .int .i64 x] w fun e w' => e = .returned (.bool (xs.contains x)) ∧ ∃ q, w' = w.drewN q := by
  rcases h with ⟨rfl, rfl⟩ | ⟨s, ob, base, rfl, h2⟩
  · exact (set_has_nil x w).mono fun e w' h => ⟨h.1, 0, h.2⟩
  · exact set_has h2 hl x
/-- two lists have something in common -/
def meetI (xs ys : List Int) : Bool := xs.any fun x => ys.contains x
theorem meetI_comm (xs ys : List Int) : meetI xs ys = meetI ys xs := by
  rw [Bool.eq_iff_iff]
  simp only [meetI, List.any_eq_true, List.contains_iff_mem]
  constructor
  · rintro ⟨x, h1, h2⟩; exact ⟨x, h2, h1⟩
  · rintro ⟨x, h1, h2⟩; exact ⟨x, h2, h1⟩
def MeetP (b : Bool) (w : World) (e : Ending) (w' : World) : Prop := e = .returned (.bool b) ∧ Below w.heap.size w w'
/-- what the range of Meet stands on -/
def MeetG (w : World) (qa qb : Option Addr) (xs ys : List Int) (rb : Bool) (W : World) : Prop :=
  PtrAt w (.pointer qa) xs ∧ PtrAt w (.pointer qb) ys ∧ meetI xs ys = rb ∧ W.heap[w.heap.size]? = some (.cells #[.pointer qb] 24 (0, 0)) ∧ W.heap[w.heap.size + 1]? = some (.cells #[.bool false] 4 (0, 0)) ∧ Below w.heap.size w W ∧ W.heap.size = w.heap.size + 2
set_option maxRecDepth 100000 in
set_option maxHeartbeats 4000000 in
theorem set_meet {w : World} {a b : Value} {xs ys : List Int} (ha : PtrAt w a xs) (hb : PtrAt w b ys) (hlx : xs.length ≤ 1000000) (hly : ys.length ≤ 1000000) :
    Calls Try.prog 22 #[a, b] w (MeetP (meetI xs ys) w) := by
  obtain ⟨pa, rfl⟩ : ∃ pa, a = .pointer pa := by rcases ha with ⟨rfl, _⟩ | ⟨_, _, _, rfl, _⟩ <;> exact ⟨_, rfl⟩
  obtain ⟨pb, rfl⟩ : ∃ pb, b = .pointer pb := by rcases hb with ⟨rfl, _⟩ | ⟨_, _, _, rfl, _⟩ <;> exact ⟨_, rfl⟩
  obtain ⟨rb, hrb⟩ : ∃ rb, meetI xs ys = rb := ⟨_, rfl⟩
  rw [hrb]
  obtain ⟨W0, hW0⟩ : ∃ W0, (w.alloc (.cells #[.pointer pb] 24)).alloc (.cells #[.bool false] 4) = W0 := ⟨_, rfl⟩
  have hb0 : Below w.heap.size w W0 := by rw [← hW0]; exact ((Below.refl _ w).alloc (Nat.le_refl _) _).alloc (by simp) _
  have k0 : W0.heap[w.heap.size]? = some (.cells #[.pointer pb] 24 (0, 0)) := by rw [← hW0]; exact blk_alloc (heap_alloc_new w _) _
  have k1 : W0.heap[w.heap.size + 1]? = some (.cells #[.bool false] 4 (0, 0)) := by rw [← hW0]; exact heap_alloc2_new w _ _
  have z0 : W0.heap.size = w.heap.size + 2 := by rw [← hW0]; simp
  have HLb := Lib.hid ((callsIn_wide (n := 19)).2 (ptr_len (ptr_below hb hb0)))
  have HLa := Lib.hid ((callsIn_wide (n := 19)).2 (ptr_len (ptr_below ha hb0)))
  have c0 := blk_cell k0 0
  have f0 := blk_free k0 0
  have H := Lib.hid (And.intro ha (And.intro hb (And.intro hb0 (And.intro k0 (And.intro k1 (And.intro z0 hrb))))))
  have HW := Lib.hid hW0
  have c0' : ((w.alloc (.cells #[.pointer pb] 24)).alloc (.cells #[.bool false] 4)).cell? ⟨w.heap.size, 0, none⟩ = some (.pointer pb) := by rw [hW0]; exact c0
  clear ha hb hb0 k0 k1 z0 hrb hW0
  refine (callsIn_wide (n := 20)).1 ?_
  refine callsIn_of_wp_marks Try.func22 rfl trivial ?_ rfl
  simp only [Try.ntmps22, List.size_toArray, List.length_cons, List.length_nil, Nat.reduceAdd, Nat.reduceSub, Array.replicate_succ, Array.replicate_zero, List.push_toArray, List.append_toArray, List.nil_append, List.cons_append]
  gi_wp2_with fail
  rw [HW.out]
  refine ⟨trivial, HLb.out.mono ?_⟩
  rintro e w1 ⟨rfl, rfl⟩
  clear c0'
  gi_wp2_with fail
  refine ⟨trivial, HLa.out.mono ?_⟩
  rintro e w2 ⟨rfl, rfl⟩
  -- TAIL
  gi_wp2_with fail
  · obtain ⟨ha, hb, hb0, k0, k1, z0, hrb⟩ := H.out
    obtain ⟨W, hW⟩ : ∃ W, w2.setCell ⟨w.heap.size, 0, none⟩ (.pointer pa) = W := ⟨_, rfl⟩
    have hG : MeetG w pb pa ys xs rb W := by
      rw [← hW]
      exact ⟨hb, ha, (meetI_comm _ _).trans hrb, blk_set k0 0 _, blk_other k1 _ (by simp) _, hb0.setCell (by simp) _, by simpa using z0⟩
    rw [hW]
    clear ha hb hb0 k0 k1 z0 hrb hW c0 f0
    have HG := Lib.hid hG
    clear hG H HW HLa HLb
    have HA := Lib.hid ((callsIn_wide (n := 19)).2 (ptr_all (ptr_below HG.out.1 HG.out.2.2.2.2.2.1) hly))
    refine ⟨trivial, HA.out.mono ?_⟩
    rintro e W1 ⟨⟨F, rfl, hF⟩, hb1⟩
    obtain ⟨gf, lb, Y, rfl, hseq, hY, heg⟩ := tells_tale hF hly
    have HSq := Lib.hid (And.intro hseq (And.intro hY (And.intro heg hb1)))
    clear hseq hY heg hb1 hF HA
    gi_wp2_with fail
    obtain ⟨hseq, hY, heg, hb1⟩ := HSq.out
    obtain ⟨g1, g2, g3, g4, g5, g6, g7⟩ := HG.out
    have hz1 := hb1.size
    have m0 := (hb1.block _ (blk_lt g4)).trans g4
    have m1 := (hb1.block _ (blk_lt g5)).trans g5
    have hB1 : Below w.heap.size w W1 := g6.trans (hb1.mono (by omega))
    refine wpIn_rangeT (X := fun _ => False) (Y := Y) (xs := ys) (encs := encI) (w0 := W1) (gf := gf) (lb := lb)
      (fun pre V => ((V.heap[w.heap.size]? = some (.cells #[.pointer pa] 24 (0, 0)) ∧ V.heap[w.heap.size + 1]? = some (.cells #[.bool false] 4 (0, 0))) ∧ meetI pre xs = false) ∧ Below w.heap.size w V)
      (fun c pre V => (V.heap[w.heap.size + 1]? = some (.cells #[.bool true] 4 (0, 0)) ∧ (c = .ret ∧ meetI pre xs = true)) ∧ Below w.heap.size w V)
      rfl (hseq _ (by omega)) (Below.refl _ _) (fun _ h => h.elim) hY rfl (by omega) trivial heg (fun _ => rfl)
      (OwnFrom.and (OwnFrom.and (OwnFrom.and ((blk_own _ _ fun _ => #[.pointer pa]).from _) ((blk_own _ _ fun _ => #[.bool false]).from _)) (ownFrom_pure _ fun pre => meetI pre xs = false)) (ownFrom_below (Nat.le_refl _) hB1.size)) (fun _ _ _ _ h => h.elim)
      (fun c => OwnFrom.and (OwnFrom.and ((blk_own _ _ fun _ => #[.bool true]).from _) (ownFrom_pure _ fun pre => c = .ret ∧ meetI pre xs = true)) (ownFrom_below (Nat.le_refl _) hB1.size)) (fun _ _ _ _ _ h => h.elim)
      ⟨⟨⟨m0, m1⟩, rfl⟩, hB1⟩ ?round ?done ?stop
    case round =>
      rintro l pre x r V0 V K hl2 ⟨rl, hrl⟩ hpx ⟨⟨⟨h0, h1⟩, h2⟩, h3⟩ hK
      dsimp only [encI]
      have HK := Lib.hid hK
      clear hK
      gi_wp2
      refine HK.out _ ?_
      clear HK K
      have c0 := blk_cell h0 0
      have c1 := blk_cell h1 0
      have f1 := blk_free h1 0
      have hsn : meetI (pre ++ [x]) xs = (meetI pre xs || xs.contains x) := by simp [meetI]
      obtain ⟨bb, hbb⟩ : ∃ bb, xs.contains x = bb := ⟨_, rfl⟩
      have hH := (callsIn_wide (n := 17)).2 (ptr_has (ptr_below g2 h3) hlx x)
      rw [hbb] at hH hsn
      have HH := Lib.hid (CallsIn.inRound l hH)
      have hVl := blk_lt hrl
      have HV := Lib.hid (And.intro h0 (And.intro h1 (And.intro h2 (And.intro h3 (And.intro hsn (And.intro hrl hpx))))))
      clear h0 h1 h2 h3 hsn hrl hpx hbb hH m0 m1 hB1 g1 g2 g3 g4 g5 g6 hseq heg hb1
      gi_wp2_with fail
      refine ⟨trivial, HH.out.mono ?_⟩
      rintro e V2 ⟨rfl, q, rfl⟩
      obtain ⟨h0, h1, h2, h3, hsn, hrl, hpx⟩ := HV.out
      rw [h2] at hsn
      cases bb with
      | false =>
        clear hrl hpx
        gi_wp2_with fail
        exact ⟨((Fr.refl (fun _ => False) V).drewN q).keeps (fun _ _ h => h.elim) _, fun _ _ => rfl, ⟨⟨h0, h1⟩, hsn⟩, h3.os, h3.tape, h3.output, h3.size, h3.block⟩
      | true =>
        clear hrl hpx
        gi_wp2_with fail
        have hfr : Fr (fun k => k = w.heap.size + 1) V ((V.drewN q).setCell ⟨w.heap.size + 1, 0, none⟩ (.bool true)) := ((Fr.refl (fun k => k = w.heap.size + 1) V).drewN q).setCell ⟨w.heap.size + 1, 0, none⟩ rfl _
        exact ⟨hfr.keeps (fun k _ e => ⟨_, e ▸ h1, rfl⟩) _, ⟨blk_set h1 0 _, rfl, hsn⟩, h3.trans (hfr.below h3.size fun k _ e => by omega)⟩
    case done =>
      rintro D V hD ⟨⟨⟨h0, h1⟩, h2⟩, h3⟩ hdef
      have c1 := blk_cell h1 0
      have f1 := blk_free h1 0
      have HV := Lib.hid (And.intro h0 (And.intro h1 (And.intro h2 (And.intro h3 hdef))))
      have hr : rb = false := g3.symm.trans h2
      clear h0 h1 h2 h3 hdef m0 m1 hseq heg hb1 g1 g2 g3 g4 g5 g6
      gi_wp2_with fail
      obtain ⟨h0, h1, h2, h3, hdef⟩ := HV.out
      refine leaves_marks [D] _ (by simp) (fun D2 h2 => ?_) fun w' hf => ?_
      · rw [List.mem_singleton] at h2; subst h2
        exact blk_other hdef _ (by simp; omega) _
      · have e1 := hf.blk (blk_set h1 0 (.bool false)) (by simp; omega)
        refine ⟨_, results_box rfl _ _ (w.heap.size + 1) _ _ rfl (blk_cell e1 0) Try.underlying4 rfl, by rw [hr]; rfl, ?_⟩
        have h4 : Below w.heap.size V (V.setCell ⟨w.heap.size + 1, 0, none⟩ (.bool false)) := (Below.refl _ V |>.mono h3.size).setCell (by simp) _
        exact h3.trans (h4.trans (hf.below (by have := h3.size; simpa using this) fun k _ e => by simp at e; omega))
    case stop =>
      rintro D c pre r V hD hsp ⟨⟨h1, rfl, h2⟩, h3⟩ hdef
      have hr : rb = true := by
        rw [← g3, ← hsp]
        simp only [meetI, List.any_append]
        have : (pre.any fun x => xs.contains x) = true := h2
        rw [this]; rfl
      refine wpIn_ret ?_
      refine leaves_marks [D] _ (by simp) (fun D2 h2 => ?_) fun w' hf => ?_
      · rw [List.mem_singleton] at h2; subst h2
        exact hdef
      · have e1 := hf.blk h1 (by simp; omega)
        refine ⟨_, results_box rfl _ _ (w.heap.size + 1) _ _ rfl (blk_cell e1 0) Try.underlying4 rfl, by rw [hr]; rfl, ?_⟩
        exact h3.trans (hf.below h3.size fun k _ e => by simp at e; omega)
  · obtain ⟨ha, hb, hb0, k0, k1, z0, hrb⟩ := H.out
    have hG : MeetG w pa pb xs ys rb w2 := ⟨ha, hb, hrb, k0, k1, hb0, z0⟩
    clear ha hb hb0 k0 k1 z0 hrb c0 f0
    have HG := Lib.hid hG
    clear hG H HW HLa HLb
    have HA := Lib.hid ((callsIn_wide (n := 19)).2 (ptr_all (ptr_below HG.out.1 HG.out.2.2.2.2.2.1) hlx))
    refine ⟨trivial, HA.out.mono ?_⟩
    rintro e W1 ⟨⟨F, rfl, hF⟩, hb1⟩
    obtain ⟨gf, lb, Y, rfl, hseq, hY, heg⟩ := tells_tale hF hlx
    have HSq := Lib.hid (And.intro hseq (And.intro hY (And.intro heg hb1)))
    clear hseq hY heg hb1 hF HA
    gi_wp2_with fail
    obtain ⟨hseq, hY, heg, hb1⟩ := HSq.out
    obtain ⟨g1, g2, g3, g4, g5, g6, g7⟩ := HG.out
    have hz1 := hb1.size
    have m0 := (hb1.block _ (blk_lt g4)).trans g4
    have m1 := (hb1.block _ (blk_lt g5)).trans g5
    have hB1 : Below w.heap.size w W1 := g6.trans (hb1.mono (by omega))
    refine wpIn_rangeT (X := fun _ => False) (Y := Y) (xs := xs) (encs := encI) (w0 := W1) (gf := gf) (lb := lb)
      (fun pre V => ((V.heap[w.heap.size]? = some (.cells #[.pointer pb] 24 (0, 0)) ∧ V.heap[w.heap.size + 1]? = some (.cells #[.bool false] 4 (0, 0))) ∧ meetI pre ys = false) ∧ Below w.heap.size w V)
      (fun c pre V => (V.heap[w.heap.size + 1]? = some (.cells #[.bool true] 4 (0, 0)) ∧ (c = .ret ∧ meetI pre ys = true)) ∧ Below w.heap.size w V)
      rfl (hseq _ (by omega)) (Below.refl _ _) (fun _ h => h.elim) hY rfl (by omega) trivial heg (fun _ => rfl)
      (OwnFrom.and (OwnFrom.and (OwnFrom.and ((blk_own _ _ fun _ => #[.pointer pb]).from _) ((blk_own _ _ fun _ => #[.bool false]).from _)) (ownFrom_pure _ fun pre => meetI pre ys = false)) (ownFrom_below (Nat.le_refl _) hB1.size)) (fun _ _ _ _ h => h.elim)
      (fun c => OwnFrom.and (OwnFrom.and ((blk_own _ _ fun _ => #[.bool true]).from _) (ownFrom_pure _ fun pre => c = .ret ∧ meetI pre ys = true)) (ownFrom_below (Nat.le_refl _) hB1.size)) (fun _ _ _ _ _ h => h.elim)
      ⟨⟨⟨m0, m1⟩, rfl⟩, hB1⟩ ?round ?done ?stop
    case round =>
      rintro l pre x r V0 V K hl2 ⟨rl, hrl⟩ hpx ⟨⟨⟨h0, h1⟩, h2⟩, h3⟩ hK
      dsimp only [encI]
      have HK := Lib.hid hK
      clear hK
      gi_wp2
      refine HK.out _ ?_
      clear HK K
      have c0 := blk_cell h0 0
      have c1 := blk_cell h1 0
      have f1 := blk_free h1 0
      have hsn : meetI (pre ++ [x]) ys = (meetI pre ys || ys.contains x) := by simp [meetI]
      obtain ⟨bb, hbb⟩ : ∃ bb, ys.contains x = bb := ⟨_, rfl⟩
      have hH := (callsIn_wide (n := 17)).2 (ptr_has (ptr_below g2 h3) hly x)
      rw [hbb] at hH hsn
      have HH := Lib.hid (CallsIn.inRound l hH)
      have hVl := blk_lt hrl
      have HV := Lib.hid (And.intro h0 (And.intro h1 (And.intro h2 (And.intro h3 (And.intro hsn (And.intro hrl hpx))))))
      clear h0 h1 h2 h3 hsn hrl hpx hbb hH m0 m1 hB1 g1 g2 g3 g4 g5 g6 hseq heg hb1
      gi_wp2_with fail
      refine ⟨trivial, HH.out.mono ?_⟩
      rintro e V2 ⟨rfl, q, rfl⟩
      obtain ⟨h0, h1, h2, h3, hsn, hrl, hpx⟩ := HV.out
      rw [h2] at hsn
      cases bb with
      | false =>
        clear hrl hpx
        gi_wp2_with fail
        exact ⟨((Fr.refl (fun _ => False) V).drewN q).keeps (fun _ _ h => h.elim) _, fun _ _ => rfl, ⟨⟨h0, h1⟩, hsn⟩, h3.os, h3.tape, h3.output, h3.size, h3.block⟩
      | true =>
        clear hrl hpx
        gi_wp2_with fail
        have hfr : Fr (fun k => k = w.heap.size + 1) V ((V.drewN q).setCell ⟨w.heap.size + 1, 0, none⟩ (.bool true)) := ((Fr.refl (fun k => k = w.heap.size + 1) V).drewN q).setCell ⟨w.heap.size + 1, 0, none⟩ rfl _
        exact ⟨hfr.keeps (fun k _ e => ⟨_, e ▸ h1, rfl⟩) _, ⟨blk_set h1 0 _, rfl, hsn⟩, h3.trans (hfr.below h3.size fun k _ e => by omega)⟩
    case done =>
      rintro D V hD ⟨⟨⟨h0, h1⟩, h2⟩, h3⟩ hdef
      have c1 := blk_cell h1 0
      have f1 := blk_free h1 0
      have HV := Lib.hid (And.intro h0 (And.intro h1 (And.intro h2 (And.intro h3 hdef))))
      have hr : rb = false := g3.symm.trans h2
      clear h0 h1 h2 h3 hdef m0 m1 hseq heg hb1 g1 g2 g3 g4 g5 g6
      gi_wp2_with fail
      obtain ⟨h0, h1, h2, h3, hdef⟩ := HV.out
      refine leaves_marks [D] _ (by simp) (fun D2 h2 => ?_) fun w' hf => ?_
      · rw [List.mem_singleton] at h2; subst h2
        exact blk_other hdef _ (by simp; omega) _
      · have e1 := hf.blk (blk_set h1 0 (.bool false)) (by simp; omega)
        refine ⟨_, results_box rfl _ _ (w.heap.size + 1) _ _ rfl (blk_cell e1 0) Try.underlying4 rfl, by rw [hr]; rfl, ?_⟩
        have h4 : Below w.heap.size V (V.setCell ⟨w.heap.size + 1, 0, none⟩ (.bool false)) := (Below.refl _ V |>.mono h3.size).setCell (by simp) _
        exact h3.trans (h4.trans (hf.below (by have := h3.size; simpa using this) fun k _ e => by simp at e; omega))
    case stop =>
      rintro D c pre r V hD hsp ⟨⟨h1, rfl, h2⟩, h3⟩ hdef
      have hr : rb = true := by
        rw [← g3, ← hsp]
        simp only [meetI, List.any_append]
        have : (pre.any fun x => ys.contains x) = true := h2
        rw [this]; rfl
      refine wpIn_ret ?_
      refine leaves_marks [D] _ (by simp) (fun D2 h2 => ?_) fun w' hf => ?_
      · rw [List.mem_singleton] at h2; subst h2
        exact hdef
      · have e1 := hf.blk h1 (by simp; omega)
        refine ⟨_, results_box rfl _ _ (w.heap.size + 1) _ _ rfl (blk_cell e1 0) Try.underlying4 rfl, by rw [hr]; rfl, ?_⟩
        exact h3.trans (hf.below h3.size fun k _ e => by simp at e; omega)
end Go.Proofs.Yteiiaocohpbanaa
