/- Texts of this proof, one behind the other. -/
import Derived.Test.YteiiaocohpbanaaGreatPairPlaysG8
import Derived.Shelf.RegionOpenPlain
import Derived.Test.YteiiaocohpbanaaGreatPairPlaysG7
import Derived.Test.YteiiaocohpbanaaGreatPairPlaysG4
import Derived.Below
import Derived.Carry
import Derived.Deep.Strs
import Derived.ChangeSame
import Derived.DataReads
import Derived.ProofKit
import Derived.OpenShut
import Derived.Test.YteiiaocohpbanaaGreatPairPlaysG1
import Derived.Test.YteiiaocohpbanaaGreatChecked
section
/- Layer 11: the document's Add, Keep. -/
namespace Go.Proofs.YteiiaocohpbanaaGreat
set_option linter.unusedVariables false
set_option linter.unusedSimpArgs false
open Go Go.RowKit Go.Maps Go.Sort Go.Shelf Go.Lib

/-- the document's relation; its row lies from nb on -/
def RefN (nb : Nat) (w : World) (x : Nat) (most : Int) (U : List PairT) : Prop := ∃ A c, w.heap[x]? = some (.cells #[.int .i64 most, .slice A U.length c] 32 (0, 0)) ∧ OwnPR nb w (.slice A U.length c) U ∧ (Value.slice A U.length c).ownBlock ≠ some x
/-- what the document's Add leaves -/
def AddPR (base x : Nat) (most : Int) (U : List PairT) (a : Int) (b : List UInt8) (D : List (List UInt8)) (w : World) (e : Ending) (w' : World) : Prop :=
  ((a, b) ∈ U ∧ e = .returned (.int .i64 6) ∧ Fr (fun _ => False) w w') ∨ ((a, b) ∉ U ∧ most ≤ (D.length : Int) ∧ e = .returned (.int .i64 7) ∧ Fr (fun _ => False) w w') ∨ ((a, b) ∉ U ∧ (D.length : Int) < most ∧ e = .returned (.int .i64 0) ∧ RefN w.heap.size w' x most (U ++ [(a, b)]) ∧ Fr (fun j => j = x) w w')
set_option maxRecDepth 100000 in
set_option maxHeartbeats 16000000 in
theorem ref_addP {base : Nat} {w : World} {x : Nat} {most : Int} {U : List PairT} (h : RefPR base w x most U) (hb : base ≤ w.heap.size) (hl : U.length ≤ 900000) {a : Int} {b : List UInt8} {D : List (List UInt8)} (hD : OfIs U a D) (hDl : D.length ≤ 1000000) :
    Calls Tryz.prog 13 #[.pointer (some ⟨x, 0, none⟩), .int .i64 a, .string (bs b)] w (AddPR base x most U a b D w) := by
  obtain ⟨i0, hi0, hz0, hz1, hz2⟩ := info_parts Tryz.infoPR
  have mixed : Tryz.prog.follows Departure.mixedOrders = true := by kernel_rfl
  have hh := ref_has h (by omega) a b
  have HH := Lib.hid h
  obtain ⟨d, hd⟩ : ∃ d, decide ((a, b) ∈ U) = d := ⟨_, rfl⟩
  rw [hd] at hh
  have HHas := Lib.hid hh
  have HDD := Lib.hid hd
  have HOf : Hid (∀ V : World, Fr (fun _ => False) w V → Calls Tryz.prog 20 #[.pointer (some ⟨x, 0, none⟩), .int .i64 a] V (OfPR D V)) := fun V hV => ref_of (refPR_fr h hV fun _ _ _ e => e) (by omega) hD hDl
  obtain ⟨h0, A, c, h2, h3, h4⟩ := h
  have hcx : ∀ V, Fr (fun _ => False) w V → V.cell? ⟨x, 0, none⟩ = some (.int .i64 most) := fun V hV => (blk_cell (hV.blk h2 fun e => e) 0).trans rfl
  have HCX := Lib.hid hcx
  have cx0 := hcx _ ((Fr.refl (fun _ => False) w).drew)
  clear hh hd hcx h2 h3 h4 hD
  obtain ⟨R, hR⟩ : ∃ R, AddPR base x most U a b D w = R := ⟨_, rfl⟩
  have HR := Lib.hid hR
  rw [hR]
  clear hR
  go_enter Tryz.func13, Tryz.ntmps13
  go_wp2_with fail
  refine HHas.out.mono ?_
  rintro e w1 ⟨rfl, rfl⟩
  cases d with
  | true =>
    go_wp2_with fail
    rw [← HR.out]
    exact .inl ⟨by simpa using HDD.out, rfl, Fr.refl _ _⟩
  | false =>
    have hnot : Hid ((a, b) ∉ U) := of_decide_eq_false HDD.out
    go_wp2_with fail
    go_region_with_o (refine (HOf.out _ ((Fr.refl (fun _ => False) w1).drew)).mono ?_; rintro e w2 ⟨⟨A2, c2, rfl, o2⟩, b2⟩; have f2 : Fr (fun _ => False) w1 w2 := ((Fr.refl (fun _ => False) w1).drew).trans (Fr.of_below b2); have cx2 := HCX.out w2 f2; have F2 := Lib.hid f2; clear o2 b2 f2)
    all_goals
      by_cases hfull : most ≤ (D.length : Int)
      · have q1 : decide (most ≤ (D.length : Int)) = true := decide_eq_true hfull
        have q2 : (D.length : Int) ≥ most := hfull
        go_wp2_with fail
        rw [← HR.out]
        exact .inr (.inl ⟨hnot.out, hfull, rfl, F2.out⟩)
      · have q1 : decide (most ≤ (D.length : Int)) = false := decide_eq_false hfull
        have q2 : ¬ (D.length : Int) ≥ most := hfull
        have h9 := refPR_fr HH.out F2.out fun _ _ _ e => e
        have hb9 := F2.out.size
        obtain ⟨_, A, c, h2, h3, h4⟩ := h9
        have kN := heap_alloc_new w2 (.cells #[] 70)
        have kx := blk_alloc h2 (.cells #[] 70)
        have d1 := blk_cell kx 1
        have hxw1 : x < w2.heap.size := blk_lt h2
        have H3 := Lib.hid (And.intro h3 h4)
        clear h2 h3 h4 cx0 cx2
        go_wp2_with (at_builtin; refine Hid.out ?_)
        refine Lib.hid ?_
        obtain ⟨W2, hW2⟩ : ∃ W2, w2.alloc (.cells #[] 70) = W2 := ⟨_, rfl⟩
        have f2 : Fr (fun _ => False) w2 W2 := by rw [← hW2]; exact (Fr.refl _ _).alloc _
        have z2 : W2.heap.size = w2.heap.size + 1 := by rw [← hW2]; simp
        obtain ⟨h3, h4⟩ := H3.out
        have o2 : OwnPR base W2 (.slice A U.length c) U := ownPR_kept h3 fun g hg => f2.block g (h3.lt g hg).2 fun e => e
        rw [hW2] at kN kx ⊢
        have hown : W2.ownsRow w2.heap.size 70 2 (.slice (some ⟨w2.heap.size, 0, none⟩) 0 0) 0 [] := ⟨by simp, .inr ⟨w2.heap.size, 0, #[], rfl, Nat.le_refl _, kN, by simp, by decide, by simp, by simp⟩⟩
        refine wpList_app_u rfl _ _ 30 30 rfl w2.heap.size 70 i0 _ 2 24 Tryz.underlying30 hi0 hz0 hz1 hz2 rfl _ 0 [] rfl hown (.slice A U.length c) U.length (U.flatMap encP) rfl (srcPR o2) (by omega) (by decide) (by omega) ?_
        intro v3 W3 o3 f3 t3
        obtain ⟨A3, c3, ev3⟩ := row_slice o3
        subst ev3
        rw [Nat.zero_add, List.nil_append] at o3
        rw [Nat.zero_add] at t3 ⊢
        have k3 := f3.blk kx (fun e => by have : w2.heap.size = x := Option.some.inj e; omega)
        have hz3 := f3.size
        have t3' : ∀ j, (Value.slice A3 U.length c3).ownBlock = some j → w2.heap.size ≤ j := fun j hj => by
          rcases t3 j hj with e | e
          · have : w2.heap.size = j := Option.some.inj e; omega
          · omega
        have H3 := Lib.hid (And.intro o3 (And.intro f2 (And.intro f3 t3')))
        clear hW2 o2 hown f3 t3 t3' d1 kN kx h3 h4 o3 f2
        go_wp2_with (at_builtin; refine Hid.out ?_)
        refine Lib.hid ?_
        refine wpList_one_t rfl _ _ 30 rfl w2.heap.size 70 i0 _ 2 24 Tryz.underlying30 hi0 hz0 hz1 hz2 rfl (by decide) _ U.length (U.flatMap encP) rfl H3.out.1 #[.int .i64 a, .string (bs b)] W3.heap.size rfl rfl rfl (by intro u hu; simp at hu; rcases hu with rfl | rfl <;> rfl) (by omega) (by decide) (by omega) ?_
        intro v4 W4 o4 f4 t4
        obtain ⟨A4, c4, ev4⟩ := row_slice o4
        subst ev4
        obtain ⟨o3, f2, f3, t3'⟩ := H3.out
        have hlen : (U ++ [((a, b) : PairT)]).length = U.length + 1 := by simp
        have o4' : OwnPR w2.heap.size W4 (.slice A4 (U.length + 1) c4) (U ++ [(a, b)]) := ownPR_of o4 hlen.symm (by rw [List.flatMap_append]; simp [encP])
        have k4 := f4.blk k3 (fun e => by have := t3' x e; omega)
        have h4x : ∀ j, (Value.slice A4 (U.length + 1) c4).ownBlock = some j → w2.heap.size ≤ j := fun j hj => (o4'.lt j hj).1
        have fall : Fr (fun j => j = x) w2 W4 := ((f2.mono (Y := fun j => j = x) fun _ _ e => e.elim).trans3 f3 fun j hj e => by have : w2.heap.size = j := Option.some.inj e; omega).trans3 f4 fun j hj e => by have := t3' j e; omega
        have d4 := blk_cell k4 1
        have g4 := blk_free k4 1
        have H4 := Lib.hid (And.intro o4' (And.intro k4 (And.intro h4x fall)))
        clear o4 o4' t4 f4 o3 f2 f3 t3' h4x fall k4 k3 H3
        go_wp2_with fail
        rw [← HR.out]
        obtain ⟨o4', k4, h4x, fall⟩ := H4.out
        have hne : ∀ j, (Value.slice A4 (U.length + 1) c4).ownBlock = some j → j ≠ x := fun j hj e => by have := h4x j hj; omega
        refine .inr (.inr ⟨hnot.out, by omega, rfl, ?_, Fr.setCell (X := fun j => j = x) ((F2.out.mono (Y := fun j => j = x) fun _ _ e => e.elim).trans fall) ⟨x, 1, none⟩ rfl _⟩)
        refine ⟨A4, c4, ?_, ?_, ?_⟩
        · rw [hlen]
          exact (blk_set k4 1 _).trans rfl
        · rw [hlen]
          exact row_baseP (ownPR_kept o4' fun j hj => heap_setCell_other W4 _ j _ fun e => hne j hj (by simpa using e)) hb9
        · rw [hlen]
          exact fun e => hne x e rfl
/-- what the document's Keep leaves -/
def KeepPR (base x : Nat) (most : Int) (U V : List PairT) (w : World) (e : Ending) (w' : World) : Prop := e = .returned (.int .i64 ((U.length : Int) - V.length)) ∧ RefN w.heap.size w' x most V ∧ Fr (fun j => j = x) w w'
def keepL (U : List PairT) (a : Int) (b : List UInt8) (all : Bool) : List PairT := U.filter fun p => decide (p.1 ≠ a) || (!all && decide (p.2 ≠ b))
def KeepG (w : World) (V : List PairT) (v : Value) (W : World) : Prop := OwnPR w.heap.size W v V ∧ Below w.heap.size w W
set_option maxRecDepth 100000 in
set_option maxHeartbeats 8000000 in
theorem ref_keep {base : Nat} {w : World} {x : Nat} {most : Int} {U : List PairT} (h : RefPR base w x most U) (hb : base ≤ w.heap.size) (hl : U.length ≤ 900000) (a : Int) (b : List UInt8) (all : Bool) :
    Calls Tryz.prog 10 #[.pointer (some ⟨x, 0, none⟩), .int .i64 a, .string (bs b), .bool all] w (KeepPR base x most U (keepL U a b all) w) := by
  obtain ⟨i0, hi0, hz0, hz1, hz2⟩ := info_parts Tryz.infoPR
  obtain ⟨h0, A, c, h2, h3, h4⟩ := h
  have hxb : ∀ W, Below w.heap.size w W → W.heap[x]? = some (.cells #[.int .i64 most, .slice A U.length c] 32 (0, 0)) := fun W hb => (Fr.of_below hb).blk (X := fun _ => False) h2 fun e => e
  have hrd : ∀ W, Below w.heap.size w W → ReadsPR W A U := fun W hb => reads_ownPR (ownPR_kept h3 fun g hg => hb.block g (h3.lt g hg).2)
  have HC := Lib.hid (And.intro hxb hrd)
  have hxl := blk_lt h2
  have H0 : Hid (KeepG w (keepL (U.take 0) a b all) (.slice none 0 0) w) := ⟨ownPR_nil _ _, Below.refl _ _⟩
  clear hxb hrd h2 h3 h4
  go_enter Tryz.func10, Tryz.ntmps10
  go_wp2_with fail
  go_loopw [9, 10] (fun o i wr => ∃ (j : Nat) (A1 : Option Addr) (n1 c1 : Nat), i = .int .i64 j ∧ o = .slice A1 n1 c1 ∧ j ≤ U.length ∧ n1 = (keepL (U.take j) a b all).length ∧ Hid (KeepG w (keepL (U.take j) a b all) (.slice A1 n1 c1) wr)) (fun _ i _ => U.length - (RowKit.intOf i).toNat)
  case atStart => exact ⟨0, none, 0, 0, rfl, rfl, Nat.zero_le _, rfl, H0⟩
  case round =>
    obtain ⟨j, A1, n1, c1, rfl, rfl, hj, hn1, HF⟩ := hrel
    clear H0
    have hcx := blk_cell (HC.out.1 wr HF.out.2) 1
    have hn1l : n1 ≤ U.length := by
      rw [hn1]; unfold keepL
      have := List.length_filter_le (fun p : PairT => decide (p.1 ≠ a) || (!all && decide (p.2 ≠ b))) (U.take j)
      rw [List.length_take] at this; omega
    have HN1 := Lib.hid hn1
    clear hn1
    by_cases hlt : j < U.length
    · obtain ⟨g, o, rfl, hg, hcell⟩ := HC.out.2 wr HF.out.2 (by omega)
      obtain ⟨e1, e2⟩ := hcell j hlt
      have htk : U.take (j + 1) = U.take j ++ [U[j]] := List.take_succ_eq_append_getElem hlt
      obtain ⟨p1, p2⟩ : ∃ p : PairT, U[j] = p := ⟨_, rfl⟩
      rw [p2] at e1 e2 htk
      obtain ⟨ka, kb⟩ := p1
      dsimp only at e1 e2
      have q1 : (j : Int) < (U.length : Int) := by omega
      have q0 : (0 : Int) ≤ (j : Int) := by omega
      have hkeep : (decide (ka ≠ a) || (!all && decide (kb ≠ b))) = true → keepL (U.take (j + 1)) a b all = keepL (U.take j) a b all ++ [(ka, kb)] := fun h => by
        rw [htk]; unfold keepL; rw [List.filter_append, List.filter_cons_of_pos (by simpa using h)]; rfl
      have hdrop : (decide (ka ≠ a) || (!all && decide (kb ≠ b))) = false → keepL (U.take (j + 1)) a b all = keepL (U.take j) a b all := fun h => by
        rw [htk]; unfold keepL; rw [List.filter_append, List.filter_cons_of_neg (by simpa using h)]; simp
      have HT := Lib.hid (And.intro hkeep hdrop)
      clear hcell p2 htk hg hkeep hdrop
      have hka : (ka != a) = decide (ka ≠ a) := by by_cases h : ka = a <;> simp [h]
      have hkb : (!((bs kb).toList == (bs b).toList)) = decide (kb ≠ b) := by rw [beq_bs]; by_cases h : kb = b <;> simp [h]
      obtain ⟨d1, hd1⟩ : ∃ d, decide (ka ≠ a) = d := ⟨_, rfl⟩
      obtain ⟨d2, hd2⟩ : ∃ d, decide (kb ≠ b) = d := ⟨_, rfl⟩
      rw [hd1, hd2] at HT
      rw [hd1] at hka
      rw [hd2] at hkb
      have HG := HF.out.1
      have hown : wr.ownsRow w.heap.size 70 2 (.slice A1 n1 c1) n1 ((keepL (U.take j) a b all).flatMap encP) := by
        have := HG
        unfold OwnPR at this
        rwa [← HN1.out] at this
      have HO := Lib.hid hown
      have HD := Lib.hid (And.intro hd1 hd2)
      clear hown HG hd1 hd2
      have stay : (d1 || (!all && d2)) = false → Hid (keepL (U.take (j + 1)) a b all = keepL (U.take j) a b all) := fun h => HT.out.2 h
      have more : (d1 || (!all && d2)) = true → Hid (keepL (U.take (j + 1)) a b all = keepL (U.take j) a b all ++ [(ka, kb)]) := fun h => HT.out.1 h
      have HS := Lib.hid (And.intro stay more)
      clear stay more HT
      cases d1 with
      | true =>
        have hm := HS.out.2 rfl
        go_wp2_with (at_builtin; refine Hid.out ?_)
        refine Lib.hid ?_
        refine wpList_one_t rfl _ _ 30 rfl w.heap.size 70 i0 _ 2 24 Tryz.underlying30 hi0 hz0 hz1 hz2 rfl (by decide) _ n1 ((keepL (U.take j) a b all).flatMap encP) rfl HO.out #[.int .i64 ka, .string (bs kb)] wr.heap.size rfl rfl rfl (by intro u hu; simp at hu; rcases hu with rfl | rfl <;> rfl) (by omega) (by decide) HF.out.2.size ?_
        intro v4 W4 o4 f4 t4
        obtain ⟨A4, c4, ev4⟩ := row_slice o4
        subst ev4
        have hlen : n1 + 1 = (keepL (U.take (j + 1)) a b all).length := by rw [hm.out, List.length_append, ← HN1.out]; rfl
        have HNew : Hid (KeepG w (keepL (U.take (j + 1)) a b all) (.slice A4 (n1 + 1) c4) W4) := ⟨ownPR_of o4 hlen (by rw [hm.out, List.flatMap_append]; simp [encP]), HF.out.2.trans (f4.below HF.out.2.size fun k hk e => (HO.out.lt k e).1)⟩
        have HL := Lib.hid hlen
        clear o4 f4 t4 hlen
        go_wp2_with fail
        go_roundw
        case rel => exact ⟨j + 1, A4, n1 + 1, c4, by go_num, rfl, by omega, HL.out, HNew⟩
        case measure => simp [RowKit.intOf]; omega
      | false =>
        cases all with
        | true =>
          have hm := HS.out.1 rfl
          have HNew : Hid (KeepG w (keepL (U.take (j + 1)) a b true) (.slice A1 n1 c1) wr) := by rw [hm.out]; exact HF
          have HL : Hid (n1 = (keepL (U.take (j + 1)) a b true).length) := by rw [hm.out]; exact HN1.out
          go_wp2_with fail
          go_roundw
          case rel => exact ⟨j + 1, A1, n1, c1, by go_num, rfl, by omega, HL.out, HNew⟩
          case measure => simp [RowKit.intOf]; omega
        | false =>
          cases d2 with
          | true =>
            have hm := HS.out.2 rfl
            go_wp2_with (at_builtin; refine Hid.out ?_)
            refine Lib.hid ?_
            refine wpList_one_t rfl _ _ 30 rfl w.heap.size 70 i0 _ 2 24 Tryz.underlying30 hi0 hz0 hz1 hz2 rfl (by decide) _ n1 ((keepL (U.take j) a b false).flatMap encP) rfl HO.out #[.int .i64 ka, .string (bs kb)] wr.heap.size rfl rfl rfl (by intro u hu; simp at hu; rcases hu with rfl | rfl <;> rfl) (by omega) (by decide) HF.out.2.size ?_
            intro v4 W4 o4 f4 t4
            obtain ⟨A4, c4, ev4⟩ := row_slice o4
            subst ev4
            have hlen : n1 + 1 = (keepL (U.take (j + 1)) a b false).length := by rw [hm.out, List.length_append, ← HN1.out]; rfl
            have HNew : Hid (KeepG w (keepL (U.take (j + 1)) a b false) (.slice A4 (n1 + 1) c4) W4) := ⟨ownPR_of o4 hlen (by rw [hm.out, List.flatMap_append]; simp [encP]), HF.out.2.trans (f4.below HF.out.2.size fun k hk e => (HO.out.lt k e).1)⟩
            have HL := Lib.hid hlen
            clear o4 f4 t4 hlen
            go_wp2_with fail
            go_roundw
            case rel => exact ⟨j + 1, A4, n1 + 1, c4, by go_num, rfl, by omega, HL.out, HNew⟩
            case measure => simp [RowKit.intOf]; omega
          | false =>
            have hm := HS.out.1 rfl
            have HNew : Hid (KeepG w (keepL (U.take (j + 1)) a b false) (.slice A1 n1 c1) wr) := by rw [hm.out]; exact HF
            have HL : Hid (n1 = (keepL (U.take (j + 1)) a b false).length) := by rw [hm.out]; exact HN1.out
            go_wp2_with fail
            go_roundw
            case rel => exact ⟨j + 1, A1, n1, c1, by go_num, rfl, by omega, HL.out, HNew⟩
            case measure => simp [RowKit.intOf]; omega
    · have q1 : ¬ (j : Int) < (U.length : Int) := by omega
      obtain rfl : j = U.length := by omega
      rw [List.take_length] at HF HN1
      have hbx := HC.out.1 wr HF.out.2
      have d1 := blk_free hbx 1
      have l1 : (U.length : Int) ≤ 900000 := by omega
      have l2 : (n1 : Int) ≤ (U.length : Int) := by omega
      have l3 : 0 ≤ (n1 : Int) := by omega
      have HB := Lib.hid hbx
      clear hbx
      go_wp2_with fail
      go_ret
      have hf : Fr (fun j => j = x) w wr := Fr.of_below HF.out.2
      have ho := HF.out.1
      have hne : ∀ j, (Value.slice A1 n1 c1).ownBlock = some j → j ≠ x := fun j hj e => by have := (ho.lt j hj).1; omega
      refine ⟨by first | (rw [← HN1.out]; done) | (rw [← HN1.out]; rfl), ⟨A1, c1, ?_, ?_, ?_⟩, hf.setCell ⟨x, 1, none⟩ rfl _⟩
      · rw [← HN1.out]
        exact (blk_set HB.out 1 _).trans rfl
      · rw [← HN1.out]
        exact ownPR_kept ho fun j hj => heap_setCell_other wr _ j _ fun e => hne j hj (by simpa using e)
      · rw [← HN1.out]
        exact fun e => hne x e rfl
end Go.Proofs.YteiiaocohpbanaaGreat
end
section
/- Layer 11: a relation of ints and strings: in words of its pairs alone. -/
namespace Go.Proofs.YteiiaocohpbanaaGreat
set_option linter.unusedVariables false
set_option linter.unusedSimpArgs false
open Go Go.RowKit Go.Maps Go.Lib

theorem AddRIS.ok {base t : Nat} {X : Nat → Prop} {most : Int} {L : List ((Int) × (List UInt8))} {a : Int} {b : List UInt8} {w : World} {e : Ending} {w' : World} (h : AddRIS base t X most L a b w e w') (hn : (a, b) ∉ L) (xs : List (List UInt8)) (h1 : xs.Pairwise (· < ·)) (h2 : ∀ x, x ∈ xs ↔ (a, x) ∈ L) (hl : (xs.length : Int) < most) :
    e = .returned (.int .i64 0) ∧ ∃ X', (∀ j, X' j → X j ∨ w.heap.size ≤ j) ∧ Fr X w w' ∧ RelAtIS base w' t X' most (L ++ [(a, b)]) := by
  obtain ⟨X', p1, p2, ⟨q1, _⟩ | ⟨_, q2, _⟩ | ⟨_, _, q3, q4⟩⟩ := h
  · exact absurd q1 hn
  · have := q2 xs h1 h2; omega
  · exact ⟨q3, X', p1, p2, q4⟩
/-- whatever Add does -/
theorem AddRIS.any {base t : Nat} {X : Nat → Prop} {most : Int} {L : List ((Int) × (List UInt8))} {a : Int} {b : List UInt8} {w : World} {e : Ending} {w' : World} (h : AddRIS base t X most L a b w e w') :
    ∃ X' c L', e = .returned (.int .i64 c) ∧ (∀ j, X' j → X j ∨ w.heap.size ≤ j) ∧ Fr X w w' ∧ RelAtIS base w' t X' most L' ∧ (L' = L ∧ (c = 6 ∧ (a, b) ∈ L ∨ c = 7 ∧ (a, b) ∉ L ∧ (∀ xs : List (List UInt8), xs.Pairwise (· < ·) → (∀ x, x ∈ xs ↔ (a, x) ∈ L) → most ≤ xs.length)) ∨
      L' = L ++ [(a, b)] ∧ c = 0 ∧ (a, b) ∉ L ∧ (∀ xs : List (List UInt8), xs.Pairwise (· < ·) → (∀ x, x ∈ xs ↔ (a, x) ∈ L) → (xs.length : Int) < most)) := by
  obtain ⟨X', p1, p2, ⟨q1, q3, q4⟩ | ⟨q1, q2, q3, q4⟩ | ⟨q1, q2, q3, q4⟩⟩ := h
  · exact ⟨X', 6, L, q3, p1, p2, q4, .inl ⟨rfl, .inl ⟨rfl, q1⟩⟩⟩
  · exact ⟨X', 7, L, q3, p1, p2, q4, .inl ⟨rfl, .inr ⟨rfl, q1, q2⟩⟩⟩
  · exact ⟨X', 0, _, q3, p1, p2, q4, .inr ⟨rfl, rfl, q1, q2⟩⟩
section
variable {base : Nat} {w : World} {t : Nat} {X : Nat → Prop} {most : Int} {L : List ((Int) × (List UInt8))}
theorem ofAtIS (h : RelAtIS base w t X most L) (hL : L.length ≤ 100000) {a : Int} (ha : OkKIS a) : ∃ xs : List (List UInt8), xs.Pairwise (· < ·) ∧ (∀ b, b ∈ xs ↔ (a, b) ∈ L) ∧ xs.length ≤ L.length ∧ ∀ V, Fr (fun _ => False) w V → Calls Tryz.prog 32 #[.pointer (some ⟨t, 0, none⟩), .int .i64 a] V (AllPS xs V) := by
  obtain ⟨b1, b2, T1, T2, h1, h2⟩ := h
  exact ⟨lk T1 a, lkUpIS h1.m1 a, h1.h1 a, h1.keys.2.2.1 a, fun V hV => relOfIS (h1.same fun j hj => hV.block j (h1.lt hj).2 fun e => e : RelStIS base V t b1 b2 most L T1 T2) hL ha⟩
theorem byAtIS (h : RelAtIS base w t X most L) (hL : L.length ≤ 100000) {b : List UInt8} (hb : OkKSI b) : ∃ xs : List (Int), xs.Pairwise (· < ·) ∧ (∀ a, a ∈ xs ↔ (a, b) ∈ L) ∧ xs.length ≤ L.length ∧ ∀ V, Fr (fun _ => False) w V → Calls Tryz.prog 35 #[.pointer (some ⟨t, 0, none⟩), .string (bs b)] V (AllP xs V) := by
  obtain ⟨b1, b2, T1, T2, h1, h2⟩ := h
  exact ⟨lk T2 b, lkUpSI h1.m2 b, fun a => h1.h2 a b, h1.keys.2.2.2 b, fun V hV => relByIS (h1.same fun j hj => hV.block j (h1.lt hj).2 fun e => e : RelStIS base V t b1 b2 most L T1 T2) hL hb⟩
theorem hasAtIS (h : RelAtIS base w t X most L) (hL : L.length ≤ 100000) {a : Int} (ha : OkKIS a) (b : List UInt8) : Calls Tryz.prog 17 #[.pointer (some ⟨t, 0, none⟩), .int .i64 a, .string (bs b)] w fun e w' => e = .returned (.bool (decide ((a, b) ∈ L))) ∧ ∃ q, w' = w.drewN q := by
  obtain ⟨b1, b2, T1, T2, h1, h2⟩ := h
  exact relHasIS h1 hL ha b
theorem countAtIS (h : RelAtIS base w t X most L) {a : Int} (ha : OkKIS a) {xs : List (List UInt8)} (hx : xs.Pairwise (· < ·)) (hm : ∀ b, b ∈ xs ↔ (a, b) ∈ L) : Calls Tryz.prog 19 #[.pointer (some ⟨t, 0, none⟩), .int .i64 a] w fun e w' => e = .returned (.int .i64 xs.length) ∧ w' = w := by
  obtain ⟨b1, b2, T1, T2, h1, h2⟩ := h
  have e := up_extS hx (lkUpIS h1.m1 a) fun b => (hm b).trans (h1.h1 a b).symm
  rw [e]
  exact relCountIS h1 ha
theorem lenAtIS (h : RelAtIS base w t X most L) : Calls Tryz.prog 16 #[.pointer (some ⟨t, 0, none⟩)] w fun e w' => e = .returned (.int .i64 L.length) ∧ w' = w := by
  obtain ⟨b1, b2, T1, T2, h1, h2⟩ := h
  exact relLenIS h1
theorem RelAtIS.below {w' : World} (h : RelAtIS base w t X most L) (hb : Below w.heap.size w w') : RelAtIS base w' t X most L := h.fr (Fr.of_below (X := fun _ => False) hb) fun _ _ e => e
end
end Go.Proofs.YteiiaocohpbanaaGreat
end
section
/- Layer 11: the law's lefts. -/
namespace Go.Proofs.YteiiaocohpbanaaGreat
set_option linter.unusedVariables false
set_option linter.unusedSimpArgs false
open Go Go.RowKit Go.Lib Go.Sort Go.Shelf
attribute [local go_sem] Oper.semAt_some

/-- a box with a row of numbers: its blocks are X -/
def Box11L (S base : Nat) (pre : List Int) (X : Nat → Prop) (W : World) : Prop := ∃ v, W.heap[S]? = some (.cells #[v] 43 (0, 0)) ∧ OwnI base W v pre ∧ S < base ∧ ∀ k, X k ↔ (k = S ∨ v.ownBlock = some k)
theorem box11L_stays (S base : Nat) : Stays (Box11L S base) := fun pre X V V' ⟨v, h1, h2, h3, h4⟩ hl hf =>
  ⟨v, hf.blk h1 (fun e => e ((h4 S).2 (.inl rfl))), own_kept h2 fun g hg => hf.block g (h2.lt g hg).2 fun e => e ((h4 g).2 (.inr hg)), h3, h4⟩
/-- what was told: a row of the call's own, and that it was all -/
def Told11L (xs : List Int) (w : World) (e : Ending) (w' : World) : Prop := (∃ v, e = .returned (.tuple #[v, .bool true]) ∧ OwnI w.heap.size w' v xs) ∧ Below w.heap.size w w'
set_option maxRecDepth 100000 in
set_option maxHeartbeats 4000000 in
theorem lefts11 {w : World} {po : Option Addr} {a : List UInt8} {xs : List Int} (hOf : ∀ V, Fr (fun _ => False) w V → Calls Tryz.prog 35 #[.pointer po, .string (bs a)] V (AllP xs V)) (hl : xs.length ≤ 1000000) (m : Nat) (hm : xs.length ≤ m) (hm2 : m ≤ 1000000) : Calls Tryz.prog 15 #[.pointer po, .string (bs a), .int .i64 m] w (Told11L xs w) := by
  obtain ⟨i0, hi, hz0, hz1, hz2⟩ := info_parts Tryz.infoI
  have HOf := Lib.hid hOf
  clear hOf
  refine (callsIn_wide (n := 20)).1 ?_
  refine callsIn_of_wp_marks Tryz.func15 rfl trivial ?_ rfl
  simp only [Tryz.ntmps15, List.size_toArray, List.length_cons, List.length_nil, Nat.reduceAdd, Nat.reduceSub, Array.replicate_succ, Array.replicate_zero, List.push_toArray, List.append_toArray, List.nil_append, List.cons_append]
  gi_wp2_with fail
  obtain ⟨w1, hw1⟩ : ∃ w1, (((w.alloc (Obj.cells #[Value.int IntKind.i64 m] 3)).alloc (Obj.cells #[Value.slice none 0 0] 43)).alloc (Obj.cells #[Value.bool false] 4)).alloc (Obj.cells #[Value.slice none 0 0] 43) = w1 := ⟨_, rfl⟩
  rw [hw1]
  have f0 : Fr (fun _ => False) w w1 := by rw [← hw1]; exact ((((Fr.refl _ w).alloc _).alloc _).alloc _).alloc _
  have HO0 := Lib.hid (HOf.out w1 f0)
  have HF0 := Lib.hid (And.intro hw1 f0)
  clear hw1 f0
  refine ⟨trivial, (calls_wide (.inl rfl) HO0.out).mono ?_⟩
  rintro e w2 ⟨⟨F, rfl, hT⟩, hb20⟩
  obtain ⟨Y, hYb, gf, lb, rfl, hseq, hY, heg⟩ := tellsI_tale (base := w1.heap.size) hT (by omega)
  have hnil : ∀ W, (binOp BinOp.eql 59 (.func (.func gf) #[] lb) Value.nilFunc).run Tryz.prog W = .ok (.bool false) W := fun W => by rfl
  have H20 := Lib.hid (And.intro hb20 (And.intro hYb (And.intro hseq (And.intro hY heg))))
  clear hb20 hYb hseq hY heg hT
  gi_wp2_with (simp only [hnil])
  obtain ⟨hw1, f0⟩ := HF0.out
  obtain ⟨hb20, hYb, hseq, hY, heg⟩ := H20.out
  have hfr20 : Fr (fun _ => False) w1 w2 := Fr.of_below hb20
  have z1 : w1.heap.size = w.heap.size + 4 := by rw [← hw1]; simp
  have f1 : Fr (fun _ => False) w w1 := by rw [← hw1]; exact ((((Fr.refl _ w).alloc _).alloc _).alloc _).alloc _
  have hb0 : w1.heap[w.heap.size]? = some (.cells #[.int .i64 m] 3 (0, 0)) := by rw [← hw1]; exact blk_alloc (blk_alloc (blk_alloc (heap_alloc_new w _) _) _) _
  have hb1 : w1.heap[w.heap.size + 1]? = some (.cells #[.slice none 0 0] 43 (0, 0)) := by rw [← hw1]; exact blk_alloc (blk_alloc (heap_alloc2_new w _ _) _) _
  have hb2 : w1.heap[w.heap.size + 2]? = some (.cells #[.bool false] 4 (0, 0)) := by rw [← hw1]; refine blk_alloc ?_ _; have := heap_alloc2_new (w.alloc (Obj.cells #[Value.int IntKind.i64 m] 3)) (Obj.cells #[Value.slice none 0 0] 43) (Obj.cells #[Value.bool false] 4); rwa [World.size_alloc] at this
  have hb3 : w1.heap[w.heap.size + 3]? = some (.cells #[.slice none 0 0] 43 (0, 0)) := by
    rw [← hw1]
    have := heap_alloc2_new ((w.alloc (Obj.cells #[Value.int IntKind.i64 m] 3)).alloc (Obj.cells #[Value.slice none 0 0] 43)) (Obj.cells #[Value.bool false] 4) (Obj.cells #[Value.slice none 0 0] 43)
    rwa [World.size_alloc, World.size_alloc] at this
  have z2 : w1.heap.size ≤ w2.heap.size := hb20.size
  replace f1 := f1.trans hfr20
  replace hb0 := hfr20.blk hb0 fun e => e
  replace hb1 := hfr20.blk hb1 fun e => e
  replace hb2 := hfr20.blk hb2 fun e => e
  replace hb3 := hfr20.blk hb3 fun e => e
  clear hw1 hfr20 hb20 f0
  have H := Lib.hid (And.intro f1 (And.intro hb0 (And.intro hb1 (And.intro hb2 (And.intro z1 z2)))))
  refine wpIn_rangeF (X := fun k => k = w.heap.size + 3) (Y := Y) (xs := xs) (encs := encI) (gf := gf) (lb := lb) (Box11L (w.heap.size + 3) w1.heap.size) (fun _ _ _ _ => False)
    rfl hseq (fun k hk => ⟨by omega, fun e => by have := hYb k e; omega⟩) hY (by omega) heg (fun _ => rfl)
    (box11L_stays _ _) (fun c s X1 V1 V2 h => h.elim) ⟨_, hb3, own_nil _ _, by omega, fun k => by simp [Value.ownBlock]⟩ ?round ?done (fun _ _ _ _ _ _ _ _ _ _ _ h => h.elim)
  case round =>
    rintro l pre x r X1 V K rb hl2 hpx hI hG hxl hF hlV hK
    dsimp only [encI]
    have HK := Lib.hid hK
    have HV := Lib.hid (And.intro hpx (And.intro hI (And.intro hG (And.intro hxl (And.intro hF (And.intro hlV hl2))))))
    clear hK hpx hI hG hxl hF hlV hl2 hYb hseq hY heg f1 hb0 hb1 hb2 hb3 z1 z2
    gi_wp2_with fail
    refine HK.out _ _ (Fr.refl _ _) fun Vb hfb hzb hsb hrb => ?_
    clear HK K
    obtain ⟨hpx, ⟨vb, k3, o3, hSl, hX1⟩, hG, hxl, hF, hlV, hl2⟩ := HV.out
    obtain ⟨f1, hb0, hb1, hb2, z1, z2⟩ := H.out
    have hpl : pre.length + 1 ≤ xs.length := by
      have := congrArg List.length hpx
      simp at this; omega
    have c0 := blk_cell (hfb.blk (hF.blk hb0 (by omega)) (by omega)) 0
    have k3b := hfb.blk k3 (by omega : ¬ w.heap.size + 3 = l)
    have o3b : OwnI w1.heap.size Vb vb pre := own_kept o3 fun g hg => hfb.block g (o3.lt g hg).2 fun e => hxl ((hX1 l).2 (.inr (e ▸ hg)))
    have c3 := blk_cell k3b 0
    have hzs : Vb.heap.size = V.heap.size := hzb
    have hbz : w1.heap.size ≤ Vb.heap.size := by omega
    have hor : Vb.ownsRow w1.heap.size 3 1 vb pre.length (pre.map (Value.int .i64)) := o3b
    have HO := Lib.hid hor
    have HE := Lib.hid (And.intro hX1 (And.intro hG (And.intro hxl (And.intro hfb (And.intro hrb (And.intro k3b (And.intro o3b (And.intro hzs (And.intro hlV (And.intro hSl hl2))))))))))
    clear hpx k3 o3 hSl hX1 hG hxl hF hlV hl2 f1 hb0 hb1 hb2 z1 z2 k3b o3b hor hfb hzb hsb hrb hzs
    have hlen : ∀ W, (Builtin.len_ #[43] 3 #[vb]).run Tryz.prog W = .ok (.int .i64 pre.length) W := fun W => by obtain ⟨A, cp, rfl⟩ := row_slice HO.out; rfl
    gi_wp2_with (first | (gi_at_builtin; refine Hid.out ?_) | simp only [hlen])
    refine Lib.hid ?_
    refine wpListIn_one_t rfl _ _ 43 rfl w1.heap.size 3 i0 _ 1 8 Tryz.underlying43 hi hz0 hz1 hz2 rfl (by decide) _ _ _ rfl HO.out #[.int .i64 x] _ rfl rfl rfl (by intro u hu; simp at hu; subst hu; rfl) (by omega) (by decide) hbz ?_
    intro v1 W2 hown1 hfr1 htie
    obtain ⟨A1, c1', rfl⟩ := row_slice hown1
    have hn3 : ∀ k, vb.ownBlock = some k → k ≠ w.heap.size + 3 := fun k hk e => by have := (HO.out.lt k hk).1; have := HE.out.2.2.2.2.2.2.2.2.2.1; omega
    have e1 : W2.heap[w.heap.size + 3]? = some (.cells #[vb] 43 (0, 0)) := hfr1.blk HE.out.2.2.2.2.2.1 fun e => hn3 _ e rfl
    have g1 := blk_cell e1 0
    have g2 := blk_free e1 0
    have HN := Lib.hid hn3
    clear hn3
    gi_wp2_with fail
    obtain ⟨hX1, hG, hxl, hfb, hrb, k3b, o3b, hzs, hlV, hSl, hl2⟩ := HE.out
    have hn3 := HN.out
    have z2 := H.out.2.2.2.2.2
    have z1 := H.out.2.2.2.2.1
    have hown2 : OwnI w1.heap.size W2 (.slice A1 (pre.length + 1) c1') (pre ++ [x]) := by
      unfold OwnI; rw [List.length_append, List.map_append]; exact hown1
    have hnx : (Value.slice A1 (pre.length + 1) c1').ownBlock ≠ some (w.heap.size + 3) := fun e => by have := (hown2.lt _ e).1; omega
    have hfr : Fr (fun k => k = l ∨ X1 k) V (W2.setCell ⟨w.heap.size + 3, 0, none⟩ (.slice A1 (pre.length + 1) c1')) :=
      (((hfb.mono (Y := fun k => k = l ∨ X1 k) fun k _ e => .inl e).trans3 hfr1 fun k _ e => .inr ((hX1 k).2 (.inr e)))).setCell _ (.inr ((hX1 _).2 (.inl rfl))) _
    refine ⟨fun k => k = w.heap.size + 3 ∨ (Value.slice A1 (pre.length + 1) c1').ownBlock = some k, fun k hk => ?_, hfr, ?_, .slice A1 (pre.length + 1) c1', blk_set e1 0 _, ?_, hSl, fun k => Iff.rfl⟩
    · have hz2 := hfr1.size
      have hsz : (W2.setCell ⟨w.heap.size + 3, 0, none⟩ (.slice A1 (pre.length + 1) c1')).heap.size = W2.heap.size := by simp
      rw [hsz]
      rcases hk with rfl | hk
      · exact ⟨blk_lt e1, fun _ => (hX1 _).2 (.inl rfl)⟩
      · refine ⟨(hown2.lt k hk).2, fun hlt => ?_⟩
        rcases htie k hk with e | e
        · exact (hX1 k).2 (.inr e)
        · omega
    · have hl3 : ¬ vb.ownBlock = some l := fun e => hxl ((hX1 l).2 (.inr e))
      exact blk_other (hfr1.blk hrb hl3) _ (by simp; omega) _
    · exact own_kept hown2 fun g hg => heap_setCell_other W2 _ g _ fun e => by simp at e; exact hnx (e ▸ hg)
  case done =>
    rintro D X2 V hD hxD hG hF ⟨v, k3, o3, hSl, hX2⟩ hdef
    obtain ⟨A, cp, rfl⟩ := row_slice o3
    have k1 := hF.blk hb1 (by omega)
    have k2 := hF.blk hb2 (by omega)
    have c1 := blk_cell k1 0
    have f1' := blk_free k1 0
    have c2 := blk_cell k2 0
    have f2 := blk_free k2 0
    have c3 := blk_cell k3 0
    have HE := Lib.hid (And.intro k1 (And.intro k2 (And.intro k3 (And.intro o3 (And.intro hF (And.intro hdef (And.intro hxD (And.intro hX2 (And.intro hSl hD)))))))))
    clear k1 k2 k3 o3 hF hdef hxD hX2 hSl hD hG hYb hseq hY heg f1 hb0 hb1 hb2 hb3 z1 z2
    gi_wp2_with fail
    obtain ⟨k1, k2, k3, o3, hF, hdef, hxD, hX2, hSl, hD⟩ := HE.out
    obtain ⟨f1, hb0, hb1, hb2, z1, z2⟩ := H.out
    obtain ⟨W3, hW3⟩ : ∃ W3, (V.setCell ⟨w.heap.size + 1, 0, none⟩ (Value.slice A xs.length cp)).setCell ⟨w.heap.size + 1 + 1, 0, none⟩ (Value.bool true) = W3 := ⟨_, rfl⟩
    rw [hW3]
    have a1 : W3.heap[w.heap.size + 1]? = some (.cells #[.slice A xs.length cp] 43 (0, 0)) := by
      rw [← hW3]
      exact blk_other (blk_set k1 0 _) _ (by simp) _
    have a2 : W3.heap[w.heap.size + 2]? = some (.cells #[.bool true] 4 (0, 0)) := by
      rw [← hW3]
      exact blk_set (blk_other k2 _ (by simp) _) 0 _
    have a3 : W3.heap[D]? = some (.deferred (some [])) := by
      rw [← hW3]
      exact blk_other (blk_other hdef _ (by simp; omega) _) _ (by simp; omega) _
    have a4 : OwnI w1.heap.size W3 (.slice A xs.length cp) xs := own_kept o3 fun g hg => by
      have := (o3.lt g hg).1
      rw [← hW3]
      exact (heap_setCell_other _ _ g _ (by simp; omega)).trans (heap_setCell_other _ _ g _ (by simp; omega))
    have a5 : Below w.heap.size w W3 := by
      have h5 : Below w.heap.size w V := (f1.mono (Y := fun k => k = w.heap.size + 3) (fun _ _ h => h.elim)).trans3 hF (fun k _ e => e) |>.below (Nat.le_refl _) fun k hk e => by omega
      rw [← hW3]
      exact (h5.setCell (by simp) _).setCell (by simp; omega) _
    refine leaves_one D _ a3 fun w' hf => ?_
    have e1 := hf.blk a1 (by omega)
    have e2 := hf.blk a2 (by omega)
    refine ⟨_, results_box2 rfl _ _ (w.heap.size + 1) (w.heap.size + 2) _ _ _ _ rfl (blk_cell e1 0) rfl (blk_cell e2 0) Tryz.underlying43 rfl Tryz.underlying4 rfl, ⟨.slice A xs.length cp, rfl, ?_⟩, a5.trans (hf.below a5.size fun k _ e => by omega)⟩
    exact row_baseP (own_kept a4 fun g hg => hf.block g (a4.lt g hg).2 fun e => hxD ((hX2 D).2 (.inr (e ▸ hg)))) (by omega)
end Go.Proofs.YteiiaocohpbanaaGreat
end
section
/- Layer 11: the law's awake. -/
namespace Go.Proofs.YteiiaocohpbanaaGreat
set_option linter.unusedVariables false
set_option linter.unusedSimpArgs false
open Go Go.RowKit Go.Lib Go.Sort Go.Shelf Go.Maps

theorem fr_up {X : Nat → Prop} {B : Nat} {w w1 w2 : World} (hb : Below B w w1) (hB : B ≤ w.heap.size) (hx : ∀ j, X j → B ≤ j) (hf : Fr X w1 w2) : Below B w w2 := hb.trans (hf.below (Nat.le_trans hB hb.size) fun k _ e => hx k e)
theorem up_next {X X' : Nat → Prop} {B n : Nat} (hx : ∀ j, X j → B ≤ j) (hn : B ≤ n) (h : ∀ j, X' j → X j ∨ n ≤ j) : ∀ j, X' j → B ≤ j := fun j hj => by
  rcases h j hj with e | e
  · exact hx j e
  · omega
set_option maxRecDepth 100000 in
set_option maxHeartbeats 4000000 in
theorem awake11 (w : World) : Calls Tryz.prog 6 #[] w fun e w' => e = .returned (.bool true) ∧ Below w.heap.size w w' := by
  have HN := Lib.hid (relNewIS (most := 5) (by decide) w)
  have ok1 : Hid (OkKIS 1 ∧ OkKIS 2 ∧ OkKSI [97] ∧ OkKSI [98]) := by refine ⟨by unfold OkKIS; decide, by unfold OkKIS; decide, by unfold OkKSI maxLen; decide, by unfold OkKSI maxLen; decide⟩
  go_enter Tryz.func6, Tryz.ntmps6
  go_wp2_with fail
  refine HN.out.mono ?_
  rintro e w1 ⟨t, X1, rfl, h1, hx1, b1⟩
  have HA := Lib.hid (relAddIS h1 b1.size (by simp) (a := 1) ok1.out.1 (b := [97]) ok1.out.2.2.1)
  have H1 := Lib.hid (And.intro hx1 b1)
  clear h1 hx1 b1
  go_wp2_with fail
  refine HA.out.mono ?_
  intro e w2 hA
  obtain ⟨rfl, X2, hx2, f2, h2⟩ := hA.ok (by simp) [] List.Pairwise.nil (by simp) (by decide)
  have b2 := fr_up H1.out.2 (Nat.le_refl _) H1.out.1 f2
  have u2 := up_next H1.out.1 H1.out.2.size hx2
  have HA2 := Lib.hid (relAddIS h2 b2.size (by simp) (a := 2) ok1.out.2.1 (b := [98]) ok1.out.2.2.2)
  have H2 := Lib.hid (And.intro u2 b2)
  clear hA hx2 f2 h2 b2 u2 HA H1 HN
  go_wp2_with fail
  refine HA2.out.mono ?_
  intro e w3 hA
  obtain ⟨rfl, X3, hx3, f3, h3⟩ := hA.ok (by simp) [] List.Pairwise.nil (by simp) (by decide)
  have b3 := fr_up H2.out.2 (Nat.le_refl _) H2.out.1 f3
  have u3 := up_next H2.out.1 H2.out.2.size hx3
  have HA3 := Lib.hid (relAddIS h3 b3.size (by simp) (a := 1) ok1.out.1 (b := [98]) ok1.out.2.2.2)
  have H3 := Lib.hid (And.intro u3 b3)
  clear hA hx3 f3 h3 b3 u3 HA2 H2
  go_wp2_with fail
  refine HA3.out.mono ?_
  intro e w4 hA
  obtain ⟨rfl, X4, hx4, f4, h4⟩ := hA.ok (by simp) [[97]] (by simp) (by simp) (by decide)
  have b4 := fr_up H3.out.2 (Nat.le_refl _) H3.out.1 f4
  obtain ⟨xs, y1, y2, y3, y4⟩ := byAtIS h4 (by simp) (b := [98]) ok1.out.2.2.2
  obtain rfl : xs = [1, 2] := up_ext y1 (by decide) fun x => (y2 x).trans (by simp; omega)
  have HL := Lib.hid (lefts11 y4 (by decide) 9 (by decide) (by decide))
  have H4 := Lib.hid b4
  clear hA hx4 f4 h4 b4 HA3 H3 y1 y2 y3 y4
  go_wp2_with fail
  refine HL.out.mono ?_
  rintro e w5 ⟨⟨v5, rfl, h5⟩, hb5⟩
  obtain ⟨A5, c5, rfl⟩ := row_slice h5
  have hB5 : Below w.heap.size w w5 := H4.out.trans (hb5.mono H4.out.size)
  have hr5 : ReadsI w5 A5 [1, 2] := reads_ownI h5
  obtain ⟨W6, hW6⟩ : ∃ W6, w5.alloc (.cells #[.int .i64 1, .int .i64 2] 3) = W6 := ⟨_, rfl⟩
  have hb6 : Below w5.heap.size w5 W6 := by rw [← hW6]; exact (Below.refl _ _).alloc (Nat.le_refl _) _
  have hS := same10 (w := W6) A5 (some ⟨w5.heap.size, 0, none⟩) [1, 2] [1, 2] 2 2 c5 2 rfl rfl rfl (by decide) (hr5.below hb6) (by rw [← hW6]; exact reads_new fun j hj => by match j, hj with | 0, _ => rfl | 1, _ => rfl)
  have HS := Lib.hid hS
  have HW6 := Lib.hid hW6
  have H6 := Lib.hid (And.intro hB5 hb6)
  clear h5 hb5 hB5 hr5 hb6 hW6 hS
  go_wp2_with fail
  rw [HW6.out]
  refine HS.out.mono ?_
  rintro e w7 ⟨rfl, q, rfl⟩
  go_wp2_with fail
  go_ret
  obtain ⟨hB5, hb6⟩ := H6.out
  have h7 : Below w.heap.size w W6 := hB5.trans (hb6.mono hB5.size)
  exact ⟨by simp, h7.os, h7.tape, h7.output, h7.size, h7.block⟩
end Go.Proofs.YteiiaocohpbanaaGreat
end
section
/- Layer 11: the law's rights. -/
namespace Go.Proofs.YteiiaocohpbanaaGreat
set_option linter.unusedVariables false
set_option linter.unusedSimpArgs false
open Go Go.RowKit Go.Lib Go.Sort Go.Shelf
attribute [local go_sem] Oper.semAt_some

/-- a box with a row of numbers: its blocks are X -/
def Box11R (S base : Nat) (pre : List (List UInt8)) (X : Nat → Prop) (W : World) : Prop := ∃ v, W.heap[S]? = some (.cells #[v] 40 (0, 0)) ∧ OwnT base W v pre ∧ S < base ∧ ∀ k, X k ↔ (k = S ∨ v.ownBlock = some k)
theorem box11R_stays (S base : Nat) : Stays (Box11R S base) := fun pre X V V' ⟨v, h1, h2, h3, h4⟩ hl hf =>
  ⟨v, hf.blk h1 (fun e => e ((h4 S).2 (.inl rfl))), ownT_kept h2 fun g hg => hf.block g (h2.lt g hg).2 fun e => e ((h4 g).2 (.inr hg)), h3, h4⟩
/-- what was told: a row of the call's own, and that it was all -/
def Told11R (xs : List (List UInt8)) (w : World) (e : Ending) (w' : World) : Prop := (∃ v, e = .returned (.tuple #[v, .bool true]) ∧ OwnT w.heap.size w' v xs) ∧ Below w.heap.size w w'
set_option maxRecDepth 100000 in
set_option maxHeartbeats 4000000 in
theorem rights11 {w : World} {po : Option Addr} {a : Int} {xs : List (List UInt8)} (hOf : ∀ V, Fr (fun _ => False) w V → Calls Tryz.prog 32 #[.pointer po, .int .i64 a] V (AllPS xs V)) (hl : xs.length ≤ 1000000) (m : Nat) (hm : xs.length ≤ m) (hm2 : m ≤ 1000000) : Calls Tryz.prog 14 #[.pointer po, .int .i64 a, .int .i64 m] w (Told11R xs w) := by
  obtain ⟨i0, hi, hz0, hz1, hz2⟩ := info_parts Tryz.infoT
  have HOf := Lib.hid hOf
  clear hOf
  refine (callsIn_wide (n := 20)).1 ?_
  refine callsIn_of_wp_marks Tryz.func14 rfl trivial ?_ rfl
  simp only [Tryz.ntmps14, List.size_toArray, List.length_cons, List.length_nil, Nat.reduceAdd, Nat.reduceSub, Array.replicate_succ, Array.replicate_zero, List.push_toArray, List.append_toArray, List.nil_append, List.cons_append]
  gi_wp2_with fail
  obtain ⟨w1, hw1⟩ : ∃ w1, (((w.alloc (Obj.cells #[Value.int IntKind.i64 m] 3)).alloc (Obj.cells #[Value.slice none 0 0] 40)).alloc (Obj.cells #[Value.bool false] 4)).alloc (Obj.cells #[Value.slice none 0 0] 40) = w1 := ⟨_, rfl⟩
  rw [hw1]
  have f0 : Fr (fun _ => False) w w1 := by rw [← hw1]; exact ((((Fr.refl _ w).alloc _).alloc _).alloc _).alloc _
  have HO0 := Lib.hid (HOf.out w1 f0)
  have HF0 := Lib.hid (And.intro hw1 f0)
  clear hw1 f0
  refine ⟨trivial, (calls_wide (.inl rfl) HO0.out).mono ?_⟩
  rintro e w2 ⟨⟨F, rfl, hT⟩, hb20⟩
  obtain ⟨Y, hYb, gf, lb, rfl, hseq, hY, heg⟩ := tellsT_tale (base := w1.heap.size) hT (by omega)
  have hnil : ∀ W, (binOp BinOp.eql 72 (.func (.func gf) #[] lb) Value.nilFunc).run Tryz.prog W = .ok (.bool false) W := fun W => by rfl
  have H20 := Lib.hid (And.intro hb20 (And.intro hYb (And.intro hseq (And.intro hY heg))))
  clear hb20 hYb hseq hY heg hT
  gi_wp2_with (simp only [hnil])
  obtain ⟨hw1, f0⟩ := HF0.out
  obtain ⟨hb20, hYb, hseq, hY, heg⟩ := H20.out
  have hfr20 : Fr (fun _ => False) w1 w2 := Fr.of_below hb20
  have z1 : w1.heap.size = w.heap.size + 4 := by rw [← hw1]; simp
  have f1 : Fr (fun _ => False) w w1 := by rw [← hw1]; exact ((((Fr.refl _ w).alloc _).alloc _).alloc _).alloc _
  have hb0 : w1.heap[w.heap.size]? = some (.cells #[.int .i64 m] 3 (0, 0)) := by rw [← hw1]; exact blk_alloc (blk_alloc (blk_alloc (heap_alloc_new w _) _) _) _
  have hb1 : w1.heap[w.heap.size + 1]? = some (.cells #[.slice none 0 0] 40 (0, 0)) := by rw [← hw1]; exact blk_alloc (blk_alloc (heap_alloc2_new w _ _) _) _
  have hb2 : w1.heap[w.heap.size + 2]? = some (.cells #[.bool false] 4 (0, 0)) := by rw [← hw1]; refine blk_alloc ?_ _; have := heap_alloc2_new (w.alloc (Obj.cells #[Value.int IntKind.i64 m] 3)) (Obj.cells #[Value.slice none 0 0] 40) (Obj.cells #[Value.bool false] 4); rwa [World.size_alloc] at this
  have hb3 : w1.heap[w.heap.size + 3]? = some (.cells #[.slice none 0 0] 40 (0, 0)) := by
    rw [← hw1]
    have := heap_alloc2_new ((w.alloc (Obj.cells #[Value.int IntKind.i64 m] 3)).alloc (Obj.cells #[Value.slice none 0 0] 40)) (Obj.cells #[Value.bool false] 4) (Obj.cells #[Value.slice none 0 0] 40)
    rwa [World.size_alloc, World.size_alloc] at this
  have z2 : w1.heap.size ≤ w2.heap.size := hb20.size
  replace f1 := f1.trans hfr20
  replace hb0 := hfr20.blk hb0 fun e => e
  replace hb1 := hfr20.blk hb1 fun e => e
  replace hb2 := hfr20.blk hb2 fun e => e
  replace hb3 := hfr20.blk hb3 fun e => e
  clear hw1 hfr20 hb20 f0
  have H := Lib.hid (And.intro f1 (And.intro hb0 (And.intro hb1 (And.intro hb2 (And.intro z1 z2)))))
  refine wpIn_rangeF (X := fun k => k = w.heap.size + 3) (Y := Y) (xs := xs) (encs := encL) (gf := gf) (lb := lb) (Box11R (w.heap.size + 3) w1.heap.size) (fun _ _ _ _ => False)
    rfl hseq (fun k hk => ⟨by omega, fun e => by have := hYb k e; omega⟩) hY (by omega) heg (fun _ => rfl)
    (box11R_stays _ _) (fun c s X1 V1 V2 h => h.elim) ⟨_, hb3, ownT_nil _ _, by omega, fun k => by simp [Value.ownBlock]⟩ ?round ?done (fun _ _ _ _ _ _ _ _ _ _ _ h => h.elim)
  case round =>
    rintro l pre x r X1 V K rb hl2 hpx hI hG hxl hF hlV hK
    dsimp only [encL]
    have HK := Lib.hid hK
    have HV := Lib.hid (And.intro hpx (And.intro hI (And.intro hG (And.intro hxl (And.intro hF (And.intro hlV hl2))))))
    clear hK hpx hI hG hxl hF hlV hl2 hYb hseq hY heg f1 hb0 hb1 hb2 hb3 z1 z2
    gi_wp2_with fail
    refine HK.out _ _ (Fr.refl _ _) fun Vb hfb hzb hsb hrb => ?_
    clear HK K
    obtain ⟨hpx, ⟨vb, k3, o3, hSl, hX1⟩, hG, hxl, hF, hlV, hl2⟩ := HV.out
    obtain ⟨f1, hb0, hb1, hb2, z1, z2⟩ := H.out
    have hpl : pre.length + 1 ≤ xs.length := by
      have := congrArg List.length hpx
      simp at this; omega
    have c0 := blk_cell (hfb.blk (hF.blk hb0 (by omega)) (by omega)) 0
    have k3b := hfb.blk k3 (by omega : ¬ w.heap.size + 3 = l)
    have o3b : OwnT w1.heap.size Vb vb pre := ownT_kept o3 fun g hg => hfb.block g (o3.lt g hg).2 fun e => hxl ((hX1 l).2 (.inr (e ▸ hg)))
    have c3 := blk_cell k3b 0
    have hzs : Vb.heap.size = V.heap.size := hzb
    have hbz : w1.heap.size ≤ Vb.heap.size := by omega
    have hor : Vb.ownsRow w1.heap.size 9 1 vb pre.length (pre.map encT) := o3b
    have HO := Lib.hid hor
    have HE := Lib.hid (And.intro hX1 (And.intro hG (And.intro hxl (And.intro hfb (And.intro hrb (And.intro k3b (And.intro o3b (And.intro hzs (And.intro hlV (And.intro hSl hl2))))))))))
    clear hpx k3 o3 hSl hX1 hG hxl hF hlV hl2 f1 hb0 hb1 hb2 z1 z2 k3b o3b hor hfb hzb hsb hrb hzs
    have hlen : ∀ W, (Builtin.len_ #[40] 3 #[vb]).run Tryz.prog W = .ok (.int .i64 pre.length) W := fun W => by obtain ⟨A, cp, rfl⟩ := row_slice HO.out; rfl
    gi_wp2_with (first | (gi_at_builtin; refine Hid.out ?_) | simp only [hlen])
    refine Lib.hid ?_
    refine wpListIn_one_t rfl _ _ 40 rfl w1.heap.size 9 i0 _ 1 16 Tryz.underlying40 hi hz0 hz1 hz2 rfl (by decide) _ _ _ rfl HO.out #[encT x] _ rfl rfl rfl (by intro u hu; simp at hu; subst hu; rfl) (by omega) (by decide) hbz ?_
    intro v1 W2 hown1 hfr1 htie
    obtain ⟨A1, c1', rfl⟩ := row_slice hown1
    have hn3 : ∀ k, vb.ownBlock = some k → k ≠ w.heap.size + 3 := fun k hk e => by have := (HO.out.lt k hk).1; have := HE.out.2.2.2.2.2.2.2.2.2.1; omega
    have e1 : W2.heap[w.heap.size + 3]? = some (.cells #[vb] 40 (0, 0)) := hfr1.blk HE.out.2.2.2.2.2.1 fun e => hn3 _ e rfl
    have g1 := blk_cell e1 0
    have g2 := blk_free e1 0
    have HN := Lib.hid hn3
    clear hn3
    gi_wp2_with fail
    obtain ⟨hX1, hG, hxl, hfb, hrb, k3b, o3b, hzs, hlV, hSl, hl2⟩ := HE.out
    have hn3 := HN.out
    have z2 := H.out.2.2.2.2.2
    have z1 := H.out.2.2.2.2.1
    have hown2 : OwnT w1.heap.size W2 (.slice A1 (pre.length + 1) c1') (pre ++ [x]) := by
      unfold OwnT; rw [List.length_append, List.map_append]; exact hown1
    have hnx : (Value.slice A1 (pre.length + 1) c1').ownBlock ≠ some (w.heap.size + 3) := fun e => by have := (hown2.lt _ e).1; omega
    have hfr : Fr (fun k => k = l ∨ X1 k) V (W2.setCell ⟨w.heap.size + 3, 0, none⟩ (.slice A1 (pre.length + 1) c1')) :=
      (((hfb.mono (Y := fun k => k = l ∨ X1 k) fun k _ e => .inl e).trans3 hfr1 fun k _ e => .inr ((hX1 k).2 (.inr e)))).setCell _ (.inr ((hX1 _).2 (.inl rfl))) _
    refine ⟨fun k => k = w.heap.size + 3 ∨ (Value.slice A1 (pre.length + 1) c1').ownBlock = some k, fun k hk => ?_, hfr, ?_, .slice A1 (pre.length + 1) c1', blk_set e1 0 _, ?_, hSl, fun k => Iff.rfl⟩
    · have hz2 := hfr1.size
      have hsz : (W2.setCell ⟨w.heap.size + 3, 0, none⟩ (.slice A1 (pre.length + 1) c1')).heap.size = W2.heap.size := by simp
      rw [hsz]
      rcases hk with rfl | hk
      · exact ⟨blk_lt e1, fun _ => (hX1 _).2 (.inl rfl)⟩
      · refine ⟨(hown2.lt k hk).2, fun hlt => ?_⟩
        rcases htie k hk with e | e
        · exact (hX1 k).2 (.inr e)
        · omega
    · have hl3 : ¬ vb.ownBlock = some l := fun e => hxl ((hX1 l).2 (.inr e))
      exact blk_other (hfr1.blk hrb hl3) _ (by simp; omega) _
    · exact ownT_kept hown2 fun g hg => heap_setCell_other W2 _ g _ fun e => by simp at e; exact hnx (e ▸ hg)
  case done =>
    rintro D X2 V hD hxD hG hF ⟨v, k3, o3, hSl, hX2⟩ hdef
    obtain ⟨A, cp, rfl⟩ := row_slice o3
    have k1 := hF.blk hb1 (by omega)
    have k2 := hF.blk hb2 (by omega)
    have c1 := blk_cell k1 0
    have f1' := blk_free k1 0
    have c2 := blk_cell k2 0
    have f2 := blk_free k2 0
    have c3 := blk_cell k3 0
    have HE := Lib.hid (And.intro k1 (And.intro k2 (And.intro k3 (And.intro o3 (And.intro hF (And.intro hdef (And.intro hxD (And.intro hX2 (And.intro hSl hD)))))))))
    clear k1 k2 k3 o3 hF hdef hxD hX2 hSl hD hG hYb hseq hY heg f1 hb0 hb1 hb2 hb3 z1 z2
    gi_wp2_with fail
    obtain ⟨k1, k2, k3, o3, hF, hdef, hxD, hX2, hSl, hD⟩ := HE.out
    obtain ⟨f1, hb0, hb1, hb2, z1, z2⟩ := H.out
    obtain ⟨W3, hW3⟩ : ∃ W3, (V.setCell ⟨w.heap.size + 1, 0, none⟩ (Value.slice A xs.length cp)).setCell ⟨w.heap.size + 1 + 1, 0, none⟩ (Value.bool true) = W3 := ⟨_, rfl⟩
    rw [hW3]
    have a1 : W3.heap[w.heap.size + 1]? = some (.cells #[.slice A xs.length cp] 40 (0, 0)) := by
      rw [← hW3]
      exact blk_other (blk_set k1 0 _) _ (by simp) _
    have a2 : W3.heap[w.heap.size + 2]? = some (.cells #[.bool true] 4 (0, 0)) := by
      rw [← hW3]
      exact blk_set (blk_other k2 _ (by simp) _) 0 _
    have a3 : W3.heap[D]? = some (.deferred (some [])) := by
      rw [← hW3]
      exact blk_other (blk_other hdef _ (by simp; omega) _) _ (by simp; omega) _
    have a4 : OwnT w1.heap.size W3 (.slice A xs.length cp) xs := ownT_kept o3 fun g hg => by
      have := (o3.lt g hg).1
      rw [← hW3]
      exact (heap_setCell_other _ _ g _ (by simp; omega)).trans (heap_setCell_other _ _ g _ (by simp; omega))
    have a5 : Below w.heap.size w W3 := by
      have h5 : Below w.heap.size w V := (f1.mono (Y := fun k => k = w.heap.size + 3) (fun _ _ h => h.elim)).trans3 hF (fun k _ e => e) |>.below (Nat.le_refl _) fun k hk e => by omega
      rw [← hW3]
      exact (h5.setCell (by simp) _).setCell (by simp; omega) _
    refine leaves_one D _ a3 fun w' hf => ?_
    have e1 := hf.blk a1 (by omega)
    have e2 := hf.blk a2 (by omega)
    refine ⟨_, results_box2 rfl _ _ (w.heap.size + 1) (w.heap.size + 2) _ _ _ _ rfl (blk_cell e1 0) rfl (blk_cell e2 0) Tryz.underlying40 rfl Tryz.underlying4 rfl, ⟨.slice A xs.length cp, rfl, ?_⟩, a5.trans (hf.below a5.size fun k _ e => by omega)⟩
    exact ownT_base (ownT_kept a4 fun g hg => hf.block g (a4.lt g hg).2 fun e => hxD ((hX2 D).2 (.inr (e ▸ hg)))) (by omega)
end Go.Proofs.YteiiaocohpbanaaGreat
end
section
/- A law's arguments: slices of texts, of structs, opened; what was only read reads as it read. -/
namespace Go.Proofs.YteiiaocohpbanaaGreat
open Go Go.ChangeShapes Go.WideShapes Go.RowKit Go.Deep

section
variable {H : Type} {enc : TypeId × Value → H} {P : Program} {W W' : World}

/-- is each of these types one that can be read again? -/
def readAll (P : Program) (ts : List TypeId) : Bool := ts.all fun t => P.readableRec t && decide (t < P.types.size)
theorem stays_all (hl : laidOutB P = true) (hB : Below W.heap.size W W') {sp : Nat → Bool} : ∀ (ts : List TypeId) (vs : List Value) (ds : List (DataW H)) (ps : List MemPlace), readAll P ts = true →
    DataW.TrodAll enc P W 0 (fun _ => true) true ts vs ds ps → (∀ x ∈ ps, x.block < W.heap.size) → (∀ x ∈ ps, sp x.block = true) → DataW.TrodAll enc P W' 0 sp true ts vs ds ps
  | [], vs, ds, ps, _, h, _, _ => by
    obtain ⟨rfl, rfl, rfl⟩ := trodAll_nil h
    exact trodAll_mk0
  | t :: ts, vs, ds, ps, hr, h, hlt, hs => by
    obtain ⟨v, vs1, d, ds1, p, q, rfl, rfl, rfl, h1, h2⟩ := trodAll_cons h
    unfold readAll at hr
    rw [List.all_cons, Bool.and_eq_true, Bool.and_eq_true] at hr
    obtain ⟨⟨hr1, hr2⟩, hr3⟩ := hr
    refine trodAll_cons_mk ?_ (stays_all hl hB ts vs1 ds1 q hr3 h2 (fun x hx => hlt x (by simp [hx])) (fun x hx => hs x (by simp [hx])))
    exact WideElems.Trod_stays hl hr1 (of_decide_eq_true hr2) h1 (fun x hx => hB.same (hlt x (by simp [hx]))) (fun x hx => hs x (by simp [hx]))

theorem spot_of {a : Addr} {v : Value} (h : W.cell? (a.add 0) = some v) : ∃ g o, a = ⟨g, o, none⟩ := by
  have := World.cell?_spot h
  obtain ⟨g, o, s⟩ := a
  simp [Addr.add] at this
  subst this
  exact ⟨g, o, rfl⟩
theorem add_at (g o n : Nat) : (⟨g, o, none⟩ : Addr).add n = ⟨g, o + n, none⟩ := by
  unfold Addr.add
  split
  · simp_all
  · rfl

theorem open_texts {t e : TypeId} {base : Nat} {v : Value} {d : DataW H} {p : List MemPlace} (ht : P.underlying t = some (.slice e)) (he : P.underlying e = some .string) (hc : P.cellsOf e = 1)
    (hval : Value.okWide P W .any base t v) (h : DataW.Trod enc P W 0 (fun _ => true) true t v d p) :
    ∃ (A : Option Addr) (ss : List ByteArray) (c : Nat), v = .slice A ss.length c ∧ ss.length ≤ c ∧ c ≤ maxLen ∧ (∀ s ∈ ss, s.size ≤ maxLen) ∧ (0 < ss.length → ∃ g o, A = some ⟨g, o, none⟩ ∧ ∀ i (h : i < ss.length), W.cell? ⟨g, o + i, none⟩ = some (.string ss[i])) := by
  obtain ⟨A, n, c, rfl⟩ := okWide_slice ht hval
  obtain ⟨fuel, hf⟩ := h
  rcases open_strs ht he hc hf with ⟨hcs, _⟩ | ⟨a, len, cap, m, Sx, hcs, _, hl, hm, hmm, _, hcell⟩
  · have h3 : A = none ∧ n = 0 ∧ c = 0 := by simpa [Value.cells] using hcs
    obtain ⟨rfl, rfl, rfl⟩ := h3
    exact ⟨none, [], 0, rfl, Nat.le_refl _, by unfold maxLen; omega, by simp, fun h => absurd h (by simp)⟩
  · have h3 : A = some a ∧ n = len ∧ c = cap := by simpa [Value.cells] using hcs
    obtain ⟨rfl, rfl, rfl⟩ := h3
    simp only [if_true] at hmm
    refine ⟨some a, (List.range n).map Sx, c, by simp, by simpa using hl, hm, ?_, ?_⟩
    · intro s hs
      simp only [List.mem_map, List.mem_range] at hs
      obtain ⟨i, hi, rfl⟩ := hs
      exact (hcell i (by omega)).2
    · intro hpos
      simp only [List.length_map, List.length_range] at hpos
      obtain ⟨g, o, rfl⟩ := spot_of (hcell 0 (by omega)).1
      refine ⟨g, o, rfl, fun i hi => ?_⟩
      simp only [List.length_map, List.length_range] at hi
      have := (hcell i (by omega)).1
      rw [add_at] at this
      simpa using this

/-- structs of three fields: a boolean, a byte, a text -/
theorem open_bus {t e tb tu ts : TypeId} {fs : Array Field} {base : Nat} {v : Value} {d : DataW H} {p : List MemPlace} (ht : P.underlying t = some (.slice e)) (he : P.underlying e = some (.struct fs)) (hc : P.cellsOf e = 3)
    (hfs : fs.toList.map (fun f => (f.type, f.offset)) = [(tb, 0), (tu, 1), (ts, 2)]) (ub : P.underlying tb = some .bool) (uu : P.underlying tu = some (.int .u8)) (us : P.underlying ts = some .string) (kb : P.cellsOf tb = 1) (ku : P.cellsOf tu = 1) (ks : P.cellsOf ts = 1)
    (hval : Value.okWide P W .any base t v) (h : DataW.Trod enc P W 0 (fun _ => true) true t v d p) :
    ∃ (A : Option Addr) (l : List (Bool × UInt8 × ByteArray)) (c : Nat), v = .slice A l.length c ∧ l.length ≤ c ∧ c ≤ maxLen ∧ (∀ x ∈ l, x.2.2.size ≤ maxLen) ∧
      (0 < l.length → ∃ g o, A = some ⟨g, o, none⟩ ∧ ∀ i (h : i < l.length), W.cell? ⟨g, o + i * 3, none⟩ = some (.bool l[i].1) ∧ W.cell? ⟨g, o + i * 3 + 1, none⟩ = some (.int .u8 l[i].2.1.toNat) ∧ W.cell? ⟨g, o + i * 3 + 2, none⟩ = some (.string l[i].2.2)) := by
  obtain ⟨A, n, c, rfl⟩ := okWide_slice ht hval
  obtain ⟨fuel, hf⟩ := h
  rcases open_slice ht hf with ⟨hcs, _⟩ | ⟨a, len, cap, m, k, D, Pl, hcs, _, hl, hm, hmm, _, hel⟩
  · have h3 : A = none ∧ n = 0 ∧ c = 0 := by simpa [Value.cells] using hcs
    obtain ⟨rfl, rfl, rfl⟩ := h3
    exact ⟨none, [], 0, rfl, Nat.le_refl _, by unfold maxLen; omega, by simp, fun h => absurd h (by simp)⟩
  · have h3 : A = some a ∧ n = len ∧ c = cap := by simpa [Value.cells] using hcs
    obtain ⟨rfl, rfl, rfl⟩ := h3
    simp only [if_true] at hmm
    have each : ∀ i, i < n → ∃ x : Bool × UInt8 × ByteArray, x.2.2.size ≤ maxLen ∧ W.cell? ((a.add (i * 3)).add 0) = some (.bool x.1) ∧ W.cell? ((a.add (i * 3)).add 1) = some (.int .u8 x.2.1.toNat) ∧ W.cell? ((a.add (i * 3)).add 2) = some (.string x.2.2) := by
      intro i hi
      obtain ⟨cs', h1, h2⟩ := hel i (by omega)
      rw [hc] at h1
      obtain ⟨_, hlen, hat⟩ := World.cells?_some h1
      obtain ⟨xs, k', _, _, _, hxl, hx⟩ := DataW.trod_struct he h2
      obtain ⟨fl⟩ := fs
      rcases fl with _ | ⟨f0, _ | ⟨f1, _ | ⟨f2, _ | ⟨f3, fl⟩⟩⟩⟩
      all_goals simp only [List.map_nil, List.map_cons, List.cons.injEq, Prod.mk.injEq, reduceCtorEq, and_false, and_true, false_and] at hfs
      obtain ⟨⟨t0, z0⟩, ⟨t1, z1⟩, t2, z2⟩ := hfs
      match cs', hlen with
      | [v0, v1, v2], _ =>
        match xs, hxl with
        | [y0, y1, y2], _ =>
          have g0 := hx 0 f0 rfl
          have g1 := hx 1 f1 rfl
          have g2 := hx 2 f2 rfl
          rw [t0, z0, kb] at g0
          rw [t1, z1, ku] at g1
          rw [t2, z2, ks] at g2
          obtain ⟨b, e0, _⟩ := DataW.trod_bool ub g0
          obtain ⟨u, e1, _, hw⟩ := DataW.trod_int uu g1
          obtain ⟨s, e2, _, hs⟩ := DataW.trod_string us g2
          simp only [List.drop_zero, List.drop_succ_cons, List.take_succ_cons, List.take_zero, List.cons.injEq, and_true] at e0 e1 e2
          subst e0; subst e1; subst e2
          simp only [Lit.wf, IntKind.has, Bool.and_eq_true, decide_eq_true_eq] at hw
          have hu0 : 0 ≤ u ∧ u ≤ 255 := ⟨hw.1, hw.2⟩
          have hu : ((UInt8.ofNat u.toNat).toNat : Int) = u := by
            rw [UInt8.toNat_ofNat']
            have : u.toNat < 256 := by omega
            rw [Nat.mod_eq_of_lt (by simpa using this)]
            omega
          refine ⟨(b, UInt8.ofNat u.toNat, s), hs, (hat 0 (by omega)).trans rfl, (hat 1 (by omega)).trans ?_, (hat 2 (by omega)).trans rfl⟩
          show some (Value.int .u8 u) = some (.int .u8 ((UInt8.ofNat u.toNat).toNat : Int))
          rw [hu]
    obtain ⟨F, hF⟩ := choose_lt each
    refine ⟨some a, (List.range n).map F, c, by simp, by simpa using hl, hm, ?_, ?_⟩
    · intro x hx
      simp only [List.mem_map, List.mem_range] at hx
      obtain ⟨i, hi, rfl⟩ := hx
      exact (hF i hi).1
    · intro hpos
      simp only [List.length_map, List.length_range] at hpos
      have h00 := (hF 0 hpos).2.1
      have h000 : W.cell? (a.add 0) = some (.bool (F 0).1) := by simpa [Addr.add] using h00
      obtain ⟨g, o, rfl⟩ := spot_of h000
      refine ⟨g, o, rfl, fun i hi => ?_⟩
      simp only [List.length_map, List.length_range] at hi
      obtain ⟨_, q0, q1, q2⟩ := hF i hi
      rw [add_at, add_at] at q0 q1 q2
      simpa using ⟨q0, q1, q2⟩
end
end Go.Proofs.YteiiaocohpbanaaGreat
end
section
/- An argument that is a slice of anything flat, opened. -/
namespace Go.Proofs.YteiiaocohpbanaaGreat
open Go Go.ChangeShapes Go.WideShapes Go.RowKit Go.Deep

section
variable {H : Type} {enc : TypeId × Value → H} {P : Program} {W : World}
theorem open_elems {α : Type} [Inhabited α] {t e : TypeId} {base k : Nat} {v : Value} {d : DataW H} {p : List MemPlace} (hk : 0 < k) (encf : α → List Value) (G : α → Prop) (ht : P.underlying t = some (.slice e)) (hc : P.cellsOf e = k)
    (hdec : ∀ n cs y, cs.length = k → DataW.trod enc P W 0 (fun _ => true) true n e cs = some y → ∃ x, cs = encf x ∧ G x)
    (hval : Value.okWide P W .any base t v) (h : DataW.Trod enc P W 0 (fun _ => true) true t v d p) :
    ∃ (A : Option Addr) (l : List α) (c : Nat), v = .slice A l.length c ∧ l.length ≤ c ∧ c ≤ maxLen ∧ (∀ x ∈ l, G x) ∧
      (0 < l.length → ∃ g o, A = some ⟨g, o, none⟩ ∧ g < W.heap.size ∧ ∀ i (h : i < l.length) j u, (encf l[i])[j]? = some u → W.cell? ⟨g, o + i * k + j, none⟩ = some u) := by
  obtain ⟨A, n, c, rfl⟩ := okWide_slice ht hval
  obtain ⟨fuel, hf⟩ := h
  rcases open_slice ht hf with ⟨hcs, _⟩ | ⟨a, len, cap, m, n', D, Pl, hcs, _, hl, hm, hmm, _, hel⟩
  · have h3 : A = none ∧ n = 0 ∧ c = 0 := by simpa [Value.cells] using hcs
    obtain ⟨rfl, rfl, rfl⟩ := h3
    exact ⟨none, [], 0, rfl, Nat.le_refl _, by unfold maxLen; omega, by simp, fun h => absurd h (by simp)⟩
  · have h3 : A = some a ∧ n = len ∧ c = cap := by simpa [Value.cells] using hcs
    obtain ⟨rfl, rfl, rfl⟩ := h3
    simp only [if_true] at hmm
    have each : ∀ i, i < n → ∃ x : α, G x ∧ (encf x).length = k ∧ ∀ j u, (encf x)[j]? = some u → W.cell? ((a.add (i * k)).add j) = some u := by
      intro i hi
      obtain ⟨cs', h1, h2⟩ := hel i (by omega)
      rw [hc] at h1
      obtain ⟨_, hlen, hat⟩ := World.cells?_some h1
      obtain ⟨x, rfl, hg⟩ := hdec _ _ _ hlen h2
      refine ⟨x, hg, hlen, fun j u hu => ?_⟩
      have hj : j < k := by
        rw [← hlen]; exact (List.getElem?_eq_some_iff.1 hu).1
      rw [hat j hj, hu]
    obtain ⟨F, hF⟩ := choose_lt each
    refine ⟨some a, (List.range n).map F, c, by simp, by simpa using hl, hm, ?_, ?_⟩
    · intro x hx
      simp only [List.mem_map, List.mem_range] at hx
      obtain ⟨i, hi, rfl⟩ := hx
      exact (hF i hi).1
    · intro hpos
      simp only [List.length_map, List.length_range] at hpos
      obtain ⟨_, hl0, h0⟩ := hF 0 hpos
      have hq := h0 0 ((encf (F 0))[0]'(by omega)) (List.getElem?_eq_getElem (by omega))
      have hq : W.cell? (a.add 0) = some ((encf (F 0))[0]'(by omega)) := by
        have e : (a.add (0 * k)).add 0 = a.add 0 := by
          obtain ⟨b, o, s⟩ := a
          cases s <;> simp [Addr.add]
        rwa [e] at hq
      obtain ⟨g, o, rfl⟩ := spot_of hq
      have hg : g < W.heap.size := by
        have := block_lt_of_cell hq
        simpa [add_at] using this
      refine ⟨g, o, rfl, hg, fun i hi j u hu => ?_⟩
      simp only [List.length_map, List.length_range] at hi
      obtain ⟨_, _, hh⟩ := hF i hi
      have := hh j u (by simpa using hu)
      rwa [add_at, add_at] at this
end
end Go.Proofs.YteiiaocohpbanaaGreat
end
section
/- Arguments that are slices of flat things, opened (by gendec.py). -/
namespace Go.Proofs.YteiiaocohpbanaaGreat
set_option linter.unusedVariables false
set_option linter.unusedSimpArgs false
open Go Go.ChangeShapes Go.WideShapes Go.RowKit

abbrev zprT : Type := Int × Int × ByteArray
/-- its cells -/
def zprL (x : zprT) : List Value := [.int .i64 x.1, .int .i64 x.2.1, .string x.2.2]
def zprG (x : zprT) : Prop := (Lit.int .i64 x.1).wf = true ∧ (Lit.int .i64 x.2.1).wf = true ∧ x.2.2.size ≤ maxLen
set_option maxRecDepth 1000000 in
theorem dec_zpr {H : Type} {enc : TypeId × Value → H} {W : World} {base : Nat} {spare : Nat → Bool} {held : Bool} {fuel : Nat} {cs : List Value} {y : DataW H × List MemPlace} (hlen : cs.length = 3) (hf : DataW.trod enc Tryz.prog W base spare held fuel 34 cs = some y) : ∃ x, cs = zprL x ∧ zprG x := by
  have ks : Tryz.prog.cellsOf 9 = 1 := by kernel_rfl
  have ki : Tryz.prog.cellsOf 3 = 1 := by kernel_rfl
  match cs, hlen with
  | [c0, c1, c2], _ =>
    obtain ⟨xs, n, _, hx, _, hln, hg⟩ := DataW.trod_struct Tryz.underlying34 hf
    have hl : xs.length = 3 := hln
    have gs : ∀ i, i < 3 → ∃ y, xs[i]? = some y := fun i hi => ⟨xs[i]'(by omega), List.getElem?_eq_getElem (by omega)⟩
    obtain ⟨y0, e0⟩ := gs 0 (by omega)
    have g0 := hg 0 _ rfl
    rw [e0] at g0
    obtain ⟨m0, q0, _, z0⟩ := DataW.trod_int Tryz.underlying3 g0
    simp [ki] at q0
    obtain ⟨y1, e1⟩ := gs 1 (by omega)
    have g1 := hg 1 _ rfl
    rw [e1] at g1
    obtain ⟨m1, q1, _, z1⟩ := DataW.trod_int Tryz.underlying3 g1
    simp [ki] at q1
    obtain ⟨y2, e2⟩ := gs 2 (by omega)
    have g2 := hg 2 _ rfl
    rw [e2] at g2
    obtain ⟨s2, q2, _, z2⟩ := DataW.trod_string Tryz.underlying9 g2
    simp [ks] at q2
    subst q0 q1 q2
    exact ⟨(m0, m1, s2), rfl, ⟨z0, z1, z2⟩⟩
set_option maxRecDepth 1000000 in
theorem open_zprs {H : Type} {enc : TypeId × Value → H} {W : World} {base : Nat} {v : Value} {d : DataW H} {p : List MemPlace} (hval : Value.okWide Tryz.prog W .any base 22 v) (h : DataW.Trod enc Tryz.prog W 0 (fun _ => true) true 22 v d p) :
    ∃ (A : Option Addr) (l : List zprT) (c : Nat), v = .slice A l.length c ∧ l.length ≤ c ∧ c ≤ maxLen ∧ (∀ x ∈ l, zprG x) ∧ (0 < l.length → ∃ g o, A = some ⟨g, o, none⟩ ∧ g < W.heap.size ∧ ∀ i (h : i < l.length) j u, (zprL l[i])[j]? = some u → W.cell? ⟨g, o + i * 3 + j, none⟩ = some u) := by
  have hc : Tryz.prog.cellsOf 34 = 3 := by kernel_rfl
  exact open_elems (by decide) zprL zprG Tryz.underlying22 hc (fun _ _ _ hl hf => dec_zpr hl hf) hval h
end Go.Proofs.YteiiaocohpbanaaGreat
end
