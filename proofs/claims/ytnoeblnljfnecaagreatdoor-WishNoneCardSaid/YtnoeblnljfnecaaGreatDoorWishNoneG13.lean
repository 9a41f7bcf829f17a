/- Texts of this proof, one behind the other. -/
import Derived.Test.YtnoeblnljfnecaaGreatDoorWishNoneG12
import Derived.Shelf.RegionOpenPlain
import Derived.Deep.QuietTactic
import Derived.Test.YtnoeblnljfnecaaGreatDoorWishNoneG9
import Derived.Test.YtnoeblnljfnecaaGreatDoorChecked
import Derived.Test.YtnoeblnljfnecaaGreatDoorWishNoneG4
import Derived.RangeFuncKeeps
import Derived.Outline
import Derived.BigQuiet
import Derived.Laws.StructEq
import Derived.ChangeKeysEq
import Derived.Test.YtnoeblnljfnecaaGreatDoorWishNoneG3
import Derived.RangeFuncWrites
import Derived.RangeFuncBox
import Derived.Sort.CutIn
import Derived.Stop.RegionWithIn
import Derived.Test.YtnoeblnljfnecaaGreatDoorWishNoneG10
import Derived.Test.YtnoeblnljfnecaaGreatDoorWishNoneG11
import Derived.Test.YtnoeblnljfnecaaGreatDoorWishNoneG8
section
/- Layer 21: Monitor. -/
namespace Go.Proofs.YtnoeblnljfnecaaGreatDoor
set_option linter.unusedVariables false
set_option linter.unusedSimpArgs false
open Go Go.RowKit Go.Lib Go.Shelf

theorem undrew {W W' : World} (h : RowKit.Below W.drew.heap.size W.drew W') : RowKit.Below W.heap.size W W' := ⟨h.os, h.tape, h.output, h.size, h.block⟩
theorem names_ops {p q : List UInt8} {r : List (List UInt8)} (h : p = [43] ∨ p = [45]) : namesM (p :: q :: r) = nicksV q := if_pos h
def MonP (ps : List (List UInt8)) (w : World) (e : Ending) (w' : World) : Prop := (∃ A c, e = .returned (.tuple #[.int .u8 (opM ps).toNat, .slice A (namesM ps).length c]) ∧ OwnT w.heap.size w' (.slice A (namesM ps).length c) (namesM ps)) ∧ RowKit.Below w.heap.size w w'
theorem mon_nil {ps : List (List UInt8)} {w : World} {op : Int} (h1 : namesM ps = []) (h2 : ((opM ps).toNat : Int) = op) : MonP ps w (.returned (.tuple #[.int .u8 op, .slice none 0 0])) w := by
  subst h2
  refine ⟨⟨none, 0, by rw [h1]; rfl, ?_⟩, Below.refl _ _⟩
  rw [h1]
  exact ownT_nil _ _
set_option maxRecDepth 100000 in
set_option maxHeartbeats 8000000 in
theorem mon_v (A : Option Addr) (c : Nat) (ps : List (List UInt8)) (w : World) (hl : ps.length ≤ 1000) (hp : ∀ p ∈ ps, p.length ≤ 1000) (hr : ReadsT w A ps) (hR : Rowed w) :
    Calls Tryz.prog 26 #[.slice A ps.length c] w (MonP ps w) := by
  have mixed : (Tryz.prog).follows Departure.mixedOrders = true := by kernel_rfl
  obtain ⟨R, hRR⟩ : ∃ R, MonP ps w = R := ⟨_, rfl⟩
  rw [hRR]
  have HR := Lib.hid hRR
  clear hRR
  rcases ps with _ | ⟨p, r⟩
  · clear hr hR hp hl
    go_enter Tryz.func26, Tryz.ntmps26
    go_wp2_with fail
    rw [← HR.out]
    exact mon_nil rfl rfl
  · obtain ⟨g, o, rfl, hg, hc⟩ := hr (by simp)
    have c0 := hc 0 (by simp)
    rw [Nat.add_zero] at c0
    simp only [List.getElem_cons_zero] at c0
    obtain ⟨n, hn⟩ : ∃ n, (p :: r).length = n := ⟨_, rfl⟩
    have hn0 : (0 : Int) < (n : Int) := by rw [← hn]; simp
    have hn1 : ¬ (n : Int) = 0 := by omega
    have hn2 : ((n : Int) == 0) = false := by simpa using hn1
    have HC := Lib.hid (And.intro hc (And.intro hp hn))
    rw [hn] at hl ⊢
    by_cases h43 : p = [43] ∨ p = [45]
    · rcases h43 with rfl | rfl
      · replace c0 : w.cell? ⟨g, o, none⟩ = some (.string ⟨#[43]⟩) := c0
        rcases r with _ | ⟨q, r⟩
        · obtain rfl : n = 1 := hn.symm
          clear hc hg hp hn hn1 hr hR
          go_enter Tryz.func26, Tryz.ntmps26
          go_wp2_with fail
          rw [← HR.out]
          exact mon_nil rfl rfl
        · have c1 := hc 1 (by simp)
          simp only [List.getElem_cons_succ, List.getElem_cons_zero] at c1
          have hq := hp q (by simp)
          have hn3 : (1 : Int) < (n : Int) := by rw [← hn]; simp; omega
          have hn4 : ((n : Int) == 1) = false := by rw [beq_eq_false_iff_ne]; omega
          have hn5 : ¬ (n : Int) = 1 := by omega
          have hRd : Rowed w.drew := hR.same rfl
          have hnk := nicks_v (bs q) w.drew (by rw [bs_size]; omega) hRd
          rw [bs_toList] at hnk
          have HN := Lib.hid hnk
          have HRw := Lib.hid hRd
          clear hc hg hp hn hn1 hr hR hq hnk hRd
          go_enter Tryz.func26, Tryz.ntmps26
          go_wp2_with fail
          go_region_with (first | ((with_reducible refine HN.out.mono ?_); rintro e w5 ⟨⟨A5, c5, rfl, o5⟩, b5⟩; have H5 := Lib.hid (And.intro o5 b5); clear o5 b5) | fail)
          all_goals
            go_wp2_with fail
            rw [← HR.out]
            go_ret2
            exact ⟨⟨A5, c5, by rw [names_ops (by simp)]; rfl, by rw [names_ops (by simp)]; exact H5.out.1⟩, undrew H5.out.2⟩
      · replace c0 : w.cell? ⟨g, o, none⟩ = some (.string ⟨#[45]⟩) := c0
        rcases r with _ | ⟨q, r⟩
        · obtain rfl : n = 1 := hn.symm
          clear hc hg hp hn hn1 hr hR
          go_enter Tryz.func26, Tryz.ntmps26
          go_wp2_with fail
          rw [← HR.out]
          exact mon_nil rfl rfl
        · have c1 := hc 1 (by simp)
          simp only [List.getElem_cons_succ, List.getElem_cons_zero] at c1
          have hq := hp q (by simp)
          have hn3 : (1 : Int) < (n : Int) := by rw [← hn]; simp; omega
          have hn4 : ((n : Int) == 1) = false := by rw [beq_eq_false_iff_ne]; omega
          have hn5 : ¬ (n : Int) = 1 := by omega
          have hRd : Rowed w.drew := hR.same rfl
          have hnk := nicks_v (bs q) w.drew (by rw [bs_size]; omega) hRd
          rw [bs_toList] at hnk
          have HN := Lib.hid hnk
          have HRw := Lib.hid hRd
          clear hc hg hp hn hn1 hr hR hq hnk hRd
          go_enter Tryz.func26, Tryz.ntmps26
          go_wp2_with fail
          go_region_with (first | ((with_reducible refine HN.out.mono ?_); rintro e w5 ⟨⟨A5, c5, rfl, o5⟩, b5⟩; have H5 := Lib.hid (And.intro o5 b5); clear o5 b5) | fail)
          all_goals
            go_wp2_with fail
            rw [← HR.out]
            go_ret2
            exact ⟨⟨A5, c5, by rw [names_ops (by simp)]; rfl, by rw [names_ops (by simp)]; exact H5.out.1⟩, undrew H5.out.2⟩
    · have hs0 : bs p ≠ ⟨#[43]⟩ := fun e => h43 (.inl (by have := congrArg (fun x : ByteArray => x.data.toList) e; simpa using this))
      have hs1 : bs p ≠ ⟨#[45]⟩ := fun e => h43 (.inr (by have := congrArg (fun x : ByteArray => x.data.toList) e; simpa using this))
      have hlet := fun W => letter_w (bs p) W
      rw [bs_toList] at hlet
      have hM1 : namesM (p :: r) = [] := by
        unfold namesM
        cases r with
        | nil => rfl
        | cons q r' => dsimp only; rw [if_neg h43]
      have hM2 : opM (p :: r) = letV p := by
        unfold opM
        dsimp only
        rw [if_neg (fun e => h43 (.inl e)), if_neg (fun e => h43 (.inr e))]
      obtain ⟨sp, hsp⟩ : ∃ sp, bs p = sp := ⟨_, rfl⟩
      rw [hsp] at c0 hs0 hs1
      simp only [hsp] at hlet
      have q1 : (sp.toList == [43]) = false := by
        rw [beq_eq_false_iff_ne, ByteArray.toList_eq]
        exact fun e => hs0 (ba_ext e)
      have q2 : (sp.toList == [45]) = false := by
        rw [beq_eq_false_iff_ne, ByteArray.toList_eq]
        exact fun e => hs1 (ba_ext e)
      have HL := Lib.hid hlet
      have HM := Lib.hid (And.intro hM1 hM2)
      clear hc hg hp hn hn1 hr hR hs0 hs1 hsp hlet hM1 hM2 h43
      go_enter Tryz.func26, Tryz.ntmps26
      go_wp2_with fail
      refine (HL.out _).mono ?_
      rintro e w' ⟨rfl, rfl⟩
      go_wp2_with fail
      rw [← HR.out]
      exact mon_nil HM.out.1 (by rw [HM.out.2])
end Go.Proofs.YtnoeblnljfnecaaGreatDoor
end
section
/- Layer 21: Watch. -/
namespace Go.Proofs.YtnoeblnljfnecaaGreatDoor
set_option linter.unusedVariables false
set_option linter.unusedSimpArgs false
open Go Go.RowKit Go.Lib Go.Shelf

theorem Tryz.infoWi : (Tryz.prog.info? 58).map (fun i => (i.zero, i.size, i.bytes)) = some (some (.agg #[.int .u8 0, .string ByteArray.empty]), 2, 24) := by kernel_rfl
def encW (x : WishV) : List Value := [.int .u8 x.1.toNat, .string (bs x.2)]
def OwnW (base : Nat) (W : World) (v : Value) (xs : List WishV) : Prop := W.ownsRow base 58 2 v xs.length (xs.flatMap encW)
theorem ownW_nil (base : Nat) (w : World) : OwnW base w (.slice none 0 0) [] := World.ownsRow_nil _ _ _ _
theorem ownW_kept {base : Nat} {w W : World} {v : Value} {xs : List WishV} (h : OwnW base w v xs) (hs : ∀ g, v.ownBlock = some g → W.heap[g]? = w.heap[g]?) : OwnW base W v xs := row_same h hs
def ReadsWi (w : World) (A : Option Addr) (xs : List WishV) : Prop := 0 < xs.length → ∃ g o, A = some ⟨g, o, none⟩ ∧ g < w.heap.size ∧ ∀ j (h : j < xs.length), w.cell? ⟨g, o + j * 2, none⟩ = some (.int .u8 xs[j].1.toNat) ∧ w.cell? ⟨g, o + j * 2 + 1, none⟩ = some (.string (bs xs[j].2))
theorem reads_ownW {base : Nat} {w : World} {A : Option Addr} {n c : Nat} {xs : List WishV} (h : OwnW base w (.slice A n c) xs) : ReadsWi w A xs := fun h0 => by
  have h' := h
  rcases h.2 with ⟨h1, h2⟩ | ⟨g, cap, cur, h1, h3, h4, h5, _, h6, h7⟩
  · omega
  · injection h1 with q1 q2 q3
    subst q1
    have hadd : ∀ j, (⟨g, 0, none⟩ : Addr).add j = ⟨g, 0 + j, none⟩ := fun j => by
      unfold Addr.add
      split
      · simp_all
      · rfl
    have key : ∀ t u, (xs.flatMap encW)[t]? = some u → w.cell? ⟨g, 0 + t, none⟩ = some u := fun t u ht => by
      have := h'.cells (g := g) rfl t u ht
      rwa [hadd] at this
    have fm : ∀ (xs : List WishV) t, t < xs.length * 2 → (xs.flatMap encW)[t]? = (encW (xs.getD (t / 2) (0, [])))[t % 2]? := fun xs => by
      induction xs with
      | nil => intro t ht; simp at ht
      | cons a r ih =>
        intro t ht
        rw [List.flatMap_cons]
        by_cases h2 : t < 2
        · have : t = 0 ∨ t = 1 := by omega
          rcases this with rfl | rfl <;> simp [encW]
        · obtain ⟨u, rfl⟩ : ∃ u, t = u + 2 := ⟨t - 2, by omega⟩
          rw [List.getElem?_append_right (by simp [encW])]
          have e1 : u + 2 - (encW a).length = u := by simp [encW]
          rw [e1, ih u (by simp at ht; omega), show (u + 2) / 2 = u / 2 + 1 by omega, show (u + 2) % 2 = u % 2 by omega]
          rfl
    refine ⟨g, 0, rfl, blk_lt h4, fun j hj => ⟨key (j * 2) _ ?_, ?_⟩⟩
    · rw [fm xs (j * 2) (by omega), Nat.mul_div_cancel j (by decide), Nat.mul_mod_left]
      simp [List.getD, hj, encW]
    · have := key (j * 2 + 1) (.string (bs xs[j].2)) (by
        rw [fm xs (j * 2 + 1) (by omega), show (j * 2 + 1) / 2 = j by omega, show (j * 2 + 1) % 2 = 1 by omega]
        simp [List.getD, hj, encW])
      exact this
def WatP (xs : List WishV) (w : World) (e : Ending) (w' : World) : Prop := (∃ A c, e = .returned (.slice A xs.length c) ∧ OwnW w.heap.size w' (.slice A xs.length c) xs) ∧ RowKit.Below w.heap.size w w'
def sliceLn (v : Value) : Nat := match v with | .slice _ n _ => n | _ => 0
theorem wishV_ne {l : List UInt8} {c : UInt8} {n : List UInt8} (h : wishV l = some (c, n)) : c ≠ 0 := by
  unfold wishV at h
  split at h
  · rename_i h0; cases h; exact h0
  · split at h
    · cases h
    · split at h
      · rename_i h0
        cases h
        rcases h0.1 with rfl | rfl <;> decide
      · cases h
set_option maxRecDepth 100000 in
set_option maxHeartbeats 8000000 in
theorem watch_v (A : Option Addr) (c : Nat) (ps : List (List UInt8)) (w : World) (hl : ps.length ≤ 1000) (hp : ∀ p ∈ ps, p.length ≤ 1000) (hr : ReadsT w A ps) (hR : Rowed w) :
    Calls Tryz.prog 27 #[.slice A ps.length c] w (WatP (watchA ps) w) := by
  obtain ⟨i0, hi0, hz0, hz1, hz2⟩ := info_parts Tryz.infoWi
  by_cases hps : ps = []
  · subst hps
    clear hr hR hp hl
    go_enter Tryz.func27, Tryz.ntmps27
    go_wp2_with fail
    go_ret
    refine ⟨⟨_, _, rfl, ⟨rfl, .inr ⟨w.heap.size, 1, _, rfl, Nat.le_refl _, heap_alloc_new _ _, by simp [watchA], by decide, by simp, rfl⟩⟩⟩, (Below.refl _ _).alloc (Nat.le_refl _) _⟩
  · have hpos : 0 < ps.length := List.length_pos_iff.2 hps
    have hwa : watchA ps = watchV ps := if_neg hps
    rw [hwa]
    obtain ⟨g, o, rfl, hg, hc⟩ := hr hpos
    have q0 : ((ps.length : Int) == 0) = false := by rw [beq_eq_false_iff_ne]; omega
    have HC := Lib.hid (And.intro hc (And.intro hp (And.intro hR hg)))
    have H0 : Hid (OwnW w.heap.size w (.slice none 0 0) (watchV (ps.take 0)) ∧ Below w.heap.size w w) := ⟨ownW_nil _ _, Below.refl _ _⟩
    clear hc hp hR hg hr hwa hps
    go_enter Tryz.func27, Tryz.ntmps27
    go_wp2_with fail
    go_loopw [3, 14] (fun l i wr => ∃ (k m : Nat) (A1 : Option Addr) (c1 : Nat), i = .int .i64 k ∧ k ≤ ps.length ∧ l = .slice A1 m c1 ∧ m ≤ k ∧ Hid (m = (watchV (ps.take k)).length ∧ OwnW w.heap.size wr (.slice A1 m c1) (watchV (ps.take k)) ∧ Below w.heap.size w wr)) (fun _ i _ => ps.length - (RowKit.intOf i).toNat)
    case atStart => exact ⟨0, 0, none, 0, rfl, Nat.zero_le _, rfl, Nat.le_refl _, rfl, H0.out.1, H0.out.2⟩
    case round =>
      obtain ⟨k, m, A1, c1, rfl, hk, rfl, hm, HG⟩ := hrel
      clear H0
      by_cases hlt : k < ps.length
      · obtain ⟨p, hpk⟩ : ∃ p, ps[k] = p := ⟨_, rfl⟩
        have c0 : wr.cell? ⟨g, o + k, none⟩ = some (.string (bs p)) := by rw [← hpk]; exact ((Fr.of_below HG.out.2.2).cell (X := fun _ => False) (p := ⟨g, o + k, none⟩) HC.out.2.2.2 fun e => e).trans (HC.out.1 k hlt)
        have hpl : p.length ≤ 1000 := HC.out.2.1 p (by rw [← hpk]; exact List.getElem_mem hlt)
        have hRw : Rowed wr := HC.out.2.2.1.below (Nat.le_refl _) HG.out.2.2
        have htk : ps.take (k + 1) = ps.take k ++ [p] := by rw [List.take_succ_eq_append_getElem hlt, hpk]
        have hw := wish_v (bs p) wr (by rw [bs_size]; omega) hRw
        rw [bs_toList] at hw
        have hsn := watchV_snoc (ps.take k) p
        rw [← htk] at hsn
        have p0 : (k : Int) < (ps.length : Int) := by omega
        cases ho : wishV p with
        | none =>
          rw [ho] at hw hsn
          unfold wishR at hw
          dsimp only at hw
          have HW := Lib.hid hw
          have HS := Lib.hid hsn
          clear hw hsn htk hRw hpl hpk ho
          go_wp2_with fail
          refine HW.out.mono ?_
          rintro e w5 ⟨rfl, b5⟩
          have B5 := Lib.hid b5
          clear b5 c0
          go_wp2_with fail
          go_roundw
          case rel => exact ⟨k + 1, m, A1, c1, by go_num, by omega, rfl, by omega, by rw [HS.out]; simpa using HG.out.1, by
            rw [HS.out]
            simp only [Option.toList, List.append_nil]
            exact ownW_kept HG.out.2.1 fun j hj => ((Fr.of_below B5.out).alloc (X := fun _ => False) _).block j (HG.out.2.1.lt j hj).2 fun e => e, (HG.out.2.2.trans (B5.out.mono HG.out.2.2.size)).alloc (Nat.le_trans HG.out.2.2.size B5.out.size) _⟩
          case measure => simp [RowKit.intOf]; omega
        | some x =>
          obtain ⟨op, nm⟩ := x
          rw [ho] at hw hsn
          have hne := wishV_ne ho
          have q1 : ((op.toNat : Int) == 0) = false := u8_ne (n := 0) (by omega) hne
          unfold wishR at hw
          dsimp only at hw
          have HW := Lib.hid hw
          have HS := Lib.hid (And.intro hsn hne)
          clear hw hsn htk hRw hpl hpk ho hne
          go_wp2_with fail
          refine HW.out.mono ?_
          rintro e w5 ⟨rfl, b5⟩
          have B5 := Lib.hid b5
          have hz5 := b5.size
          have hzG := HG.out.2.2.size
          clear b5 c0
          have hown : w5.ownsRow w.heap.size 58 2 (.slice A1 m c1) m ((watchV (ps.take k)).flatMap encW) := by
            have := ownW_kept (W := w5) HG.out.2.1 fun j hj => (Fr.of_below (X := fun _ => False) B5.out).block j (HG.out.2.1.lt j hj).2 fun e => e
            unfold OwnW at this
            rwa [← HG.out.1] at this
          obtain ⟨W6, hW6⟩ : ∃ W6, w5.alloc (.cells #[.int .u8 op.toNat, .string (bs nm)] 58) = W6 := ⟨_, rfl⟩
          have f6 : Fr (fun _ => False) w5 W6 := by rw [← hW6]; exact (Fr.refl _ _).alloc _
          have hown6 : W6.ownsRow w.heap.size 58 2 (.slice A1 m c1) m ((watchV (ps.take k)).flatMap encW) := row_same hown fun j hj => f6.block j (hown.lt j hj).2 fun e => e
          have z6 : w.heap.size ≤ W6.heap.size := by have := f6.size; omega
          have HO := Lib.hid (And.intro hown6 (And.intro f6 z6))
          have HW6 := Lib.hid hW6
          clear hown hW6 f6 hown6
          go_wp2_with (at_builtin; refine Hid.out ?_)
          refine Lib.hid ?_
          have z65 : w5.heap.size + 1 = W6.heap.size := by rw [← HW6.out]; simp
          rw [HW6.out, z65]
          refine wpList_one_t rfl _ _ 55 rfl w.heap.size 58 i0 _ 2 24 Tryz.underlying55 hi0 hz0 hz1 hz2 rfl (by decide) _ m ((watchV (ps.take k)).flatMap encW) rfl HO.out.1 #[.int .u8 op.toNat, .string (bs nm)] W6.heap.size rfl rfl rfl (by intro u hu; simp at hu; rcases hu with rfl | rfl <;> rfl) (by omega) (by decide) z6 ?_
          intro v4 W4 o4 f4 t4
          obtain ⟨A4, c4, ev4⟩ := row_slice o4
          subst ev4
          have hnew : (watchV (ps.take (k + 1))).length = m + 1 := by rw [HS.out.1, List.length_append, ← HG.out.1]; rfl
          have HNew : Hid (m + 1 = (watchV (ps.take (k + 1))).length ∧ OwnW w.heap.size W4 (.slice A4 (m + 1) c4) (watchV (ps.take (k + 1))) ∧ Below w.heap.size w W4) := by
            refine ⟨hnew.symm, ?_, ?_⟩
            · unfold OwnW
              rw [hnew, HS.out.1, List.flatMap_append]
              exact o4
            · exact ((HG.out.2.2.trans (B5.out.mono HG.out.2.2.size)).trans (HO.out.2.1.below (by omega) fun _ _ e => e.elim)).trans (f4.below z6 fun j hj e => (HO.out.1.lt j e).1)
          clear o4 f4 t4 hnew
          go_wp2_with fail
          go_roundw
          case rel => exact ⟨k + 1, m + 1, A4, c4, by go_num, by omega, rfl, by omega, HNew⟩
          case measure => simp [RowKit.intOf]; omega
      · obtain rfl : k = ps.length := by omega
        have p1 : ¬ ((ps.length : Int) < (ps.length : Int)) := by omega
        go_wp2_with fail
        go_ret
        obtain ⟨h1, h2, h3⟩ := HG.out
        rw [List.take_length] at h1 h2
        exact ⟨⟨A1, c1, by rw [h1]; rfl, by rw [← h1]; exact h2⟩, h3⟩
end Go.Proofs.YtnoeblnljfnecaaGreatDoor
end
section
/- Layer 21: the answers' Monitor. -/
namespace Go.Proofs.YtnoeblnljfnecaaGreatDoor
set_option linter.unusedVariables false
set_option linter.unusedSimpArgs false
open Go Go.RowKit Go.Lib Go.Shelf

def AtN (l : List UInt8) (k f : Nat) (xs : List (List UInt8)) : Prop := f ≤ k ∧ ∃ dn, dn ++ splitC 44 (l.drop f) = splitC 44 l ∧ (∀ j (h : j < l.length), f ≤ j → j < k → l[j] ≠ 44) ∧ xs = dn.filter nickB
theorem atN_zero (l : List UInt8) : AtN l 0 0 [] := ⟨Nat.le_refl _, [], rfl, fun j h _ h2 => by omega, rfl⟩
theorem AtN.more {l : List UInt8} {k f : Nat} {xs : List (List UInt8)} (h : AtN l k f xs) (hk : k < l.length) (hc : l[k] ≠ 44) : AtN l (k + 1) f xs := by
  obtain ⟨h1, dn, h2, h3, h4⟩ := h
  refine ⟨by omega, dn, h2, fun j hj h5 h6 => ?_, h4⟩
  by_cases e : j = k
  · subst e; exact hc
  · exact h3 j hj h5 (by omega)
theorem at_piece {l : List UInt8} {k f : Nat} (hf : f ≤ k) (hk : k ≤ l.length) (h3 : ∀ j (h : j < l.length), f ≤ j → j < k → l[j] ≠ 44) : (44 : UInt8) ∉ (l.drop f).take (k - f) := fun hm => by
  obtain ⟨i, hi, e⟩ := List.mem_iff_getElem.1 hm
  rw [List.getElem_take, List.getElem_drop] at e
  have hi2 : i < k - f := by rw [List.length_take] at hi; omega
  exact h3 (f + i) (by omega) (by omega) (by omega) e
theorem AtN.cut {l : List UInt8} {k f : Nat} {xs : List (List UInt8)} (h : AtN l k f xs) (hk : k < l.length) (hc : l[k] = 44) : AtN l (k + 1) (k + 1) (xs ++ if nickB ((l.drop f).take (k - f)) then [(l.drop f).take (k - f)] else []) := by
  obtain ⟨h1, dn, h2, h3, h4⟩ := h
  have hp := at_piece h1 (by omega) h3
  have hd : l.drop f = (l.drop f).take (k - f) ++ 44 :: l.drop (k + 1) := by
    have e1 : (l.drop f).drop (k - f) = l.drop k := by rw [List.drop_drop]; congr 1; omega
    have e2 : l.drop k = 44 :: l.drop (k + 1) := by rw [List.drop_eq_getElem_cons hk, hc]
    rw [← e2, ← e1, List.take_append_drop]
  refine ⟨Nat.le_refl _, dn ++ [(l.drop f).take (k - f)], ?_, fun j hj h5 h6 => by omega, ?_⟩
  · rw [← h2]
    conv => rhs; rw [hd]
    rw [splitC_cut _ _ _ hp, List.append_assoc]
    rfl
  · rw [List.filter_append, h4]
    cases hn : nickB ((l.drop f).take (k - f)) <;> simp [List.filter, hn]
theorem AtN.last {l : List UInt8} {f : Nat} {xs : List (List UInt8)} (h : AtN l l.length f xs) : nicksV l = xs ++ if nickB ((l.drop f).take (l.length - f)) then [(l.drop f).take (l.length - f)] else [] := by
  obtain ⟨h1, dn, h2, h3, h4⟩ := h
  have hp := at_piece h1 (Nat.le_refl _) h3
  have hd : (l.drop f).take (l.length - f) = l.drop f := List.take_of_length_le (by rw [List.length_drop]; omega)
  rw [hd] at hp ⊢
  unfold nicksV
  rw [← h2, splitC_none _ _ hp, List.filter_append, h4]
  cases hn : nickB (l.drop f) <;> simp [List.filter, hn]
theorem AtN.len {l : List UInt8} {k f : Nat} {xs : List (List UInt8)} (h : AtN l k f xs) : xs.length ≤ l.length + 1 := by
  obtain ⟨h1, dn, h2, h3, h4⟩ := h
  have a := splitC_len 44 l
  have b := congrArg List.length h2
  rw [List.length_append] at b
  have c := List.length_filter_le nickB dn
  rw [h4]
  omega
theorem ext_list (s : ByteArray) (f k : Nat) : (s.extract f k).data.toList = (s.data.toList.drop f).take (k - f) := by simp [List.extract_eq_take_drop]
def RowG (l : List UInt8) (k f m : Nat) (v : Value) (w W : World) : Prop := ∃ xs, m = xs.length ∧ OwnT w.heap.size W v xs ∧ Below w.heap.size w W ∧ ((k ≤ l.length ∧ AtN l k f xs) ∨ (k = l.length + 1 ∧ xs = nicksV l))
theorem rowG_next {l : List UInt8} {k f : Nat} {xs : List (List UInt8)} (h : AtN l k f xs) (hk : k ≤ l.length) (hc : ∀ h : k < l.length, l[k] = 44) {b : Bool} (hb : nickB ((l.drop f).take (k - f)) = b) {ys : List (List UInt8)} (hy : ys = xs ++ if b then [(l.drop f).take (k - f)] else []) :
    (k + 1 ≤ l.length ∧ AtN l (k + 1) (k + 1) ys) ∨ (k + 1 = l.length + 1 ∧ ys = nicksV l) := by
  subst hb
  subst hy
  by_cases hlt : k < l.length
  · exact .inl ⟨hlt, h.cut hlt (hc hlt)⟩
  · obtain rfl : k = l.length := by omega
    exact .inr ⟨rfl, h.last.symm⟩
end Go.Proofs.YtnoeblnljfnecaaGreatDoor
end
section
/- Layer 21: the answers' Watch. -/
namespace Go.Proofs.YtnoeblnljfnecaaGreatDoor
set_option linter.unusedVariables false
set_option linter.unusedSimpArgs false
open Go Go.RowKit Go.Lib Go.Shelf

theorem add_any0 (g o j : Nat) : (⟨g, o, none⟩ : Addr).add j = ⟨g, o + j, none⟩ := by
  unfold Addr.add
  split
  · simp_all
  · rfl
end Go.Proofs.YtnoeblnljfnecaaGreatDoor
end
section
/- Layer 18: modes.Seq, the letters of a row, as a function that ranges; Takes on both sides. -/
namespace Go.Proofs.YtnoeblnljfnecaaGreatDoor
set_option linter.unusedVariables false
set_option linter.unusedSimpArgs false
open Go.RowKit Go.Shelf
attribute [local go_sem] Oper.semAt_some

/-- a letter, and whether it is on -/
abbrev Letter := UInt8 × Bool
abbrev encLet (x : Letter) : Array Value := #[.int .u8 x.1.toNat, .bool x.2]
/-- the letters of a row, from a sign on -/
def seqL (on : Bool) : List UInt8 → List Letter
  | [] => []
  | c :: r => if c = 43 then seqL true r else if c = 45 then seqL false r else (c, on) :: seqL on r
theorem seqL_len (on : Bool) (l : List UInt8) : (seqL on l).length ≤ l.length := by
  induction l generalizing on with
  | nil => simp [seqL]
  | cons c r ih =>
    unfold seqL
    split
    · have := ih true; simp; omega
    · split
      · have := ih false; simp; omega
      · have := ih on; simp; omega
theorem seqL_at (on : Bool) (s : ByteArray) (k : Nat) (h : k < s.size) : seqL on (s.data.toList.drop k) = if s[k] = 43 then seqL true (s.data.toList.drop (k + 1)) else if s[k] = 45 then seqL false (s.data.toList.drop (k + 1)) else (s[k], on) :: seqL on (s.data.toList.drop (k + 1)) := by
  rw [List.drop_eq_getElem_cons (by simpa using h)]
  rfl





/-- block B lies as it lay -/
def KeptAt (B : Nat) (W1 W' : World) : Prop := W'.heap[B]? = W1.heap[B]?
theorem KeptAt.cell {B : Nat} {W1 W' : World} (h : KeptAt B W1 W') : W'.cell? ⟨B, 0, none⟩ = W1.cell? ⟨B, 0, none⟩ := World.cell?_of_block (w := W1) h

end Go.Proofs.YtnoeblnljfnecaaGreatDoor
end
section
/- Layer 18: changes as data; Lists, the answers' Takes and Same. -/
namespace Go.Proofs.YtnoeblnljfnecaaGreatDoor
set_option linter.unusedVariables false
set_option linter.unusedSimpArgs false
open Go.RowKit

/-- does a letter take an argument? -/
def takesB (c : UInt8) (on : Bool) : Bool := c == 111 || c == 118 || c == 98 || c == 107 || (c == 108 && on)



/-- a change: on, its letter, its argument -/
abbrev Chg := Bool × UInt8 × ByteArray
def chV (x : Chg) : Value := .agg #[.bool x.1, .int .u8 x.2.1.toNat, .string x.2.2]
def listsB (x : Chg) : Bool := x.2.1 == 98 && x.2.2.toList.isEmpty





def eqB (x y : Chg) : Bool := x.1 == y.1 && (x.2.1 == y.2.1 && x.2.2.toList == y.2.2.toList)
theorem eqB_iff {x y : Chg} : eqB x y = true ↔ x = y := by
  obtain ⟨a, b, c⟩ := x
  obtain ⟨a', b', c'⟩ := y
  unfold eqB
  simp only [Bool.and_eq_true, beq_iff_eq, Prod.mk.injEq]
  rw [ByteArray.toList_eq, ByteArray.toList_eq]
  constructor
  · rintro ⟨h1, h2, h3⟩; exact ⟨h1, h2, ba_ext h3⟩
  · rintro ⟨h1, h2, h3⟩; exact ⟨h1, h2, by rw [h3]⟩

def ReadsC (W : World) (v : Value) (l : List Chg) : Prop :=
  (v = .slice none 0 0 ∧ l = []) ∨ ∃ g off cap, v = .slice (some ⟨g, off, none⟩) l.length cap ∧ ∀ i (h : i < l.length), W.cell? ⟨g, off + i * 3, none⟩ = some (.bool l[i].1) ∧ W.cell? ⟨g, off + i * 3 + 1, none⟩ = some (.int .u8 l[i].2.1.toNat) ∧ W.cell? ⟨g, off + i * 3 + 2, none⟩ = some (.string l[i].2.2)

end Go.Proofs.YtnoeblnljfnecaaGreatDoor
end
section
/- Layer 18: the answers' Parse. -/
namespace Go.Proofs.YtnoeblnljfnecaaGreatDoor
set_option linter.unusedVariables false
set_option linter.unusedSimpArgs false
open Go.RowKit

/-- one letter more: the changes, the next argument, how many took one -/
abbrev PSt := List Chg × Nat × Nat
def noArg : ByteArray := ⟨#[]⟩
def stepP (ps : List ByteArray) (st : PSt) (x : Letter) : PSt :=
  if takesB x.1 x.2 = true then
    if st.2.2 = 4 then st
    else if h : st.2.1 < ps.length then (st.1 ++ [(x.2, x.1, ps[st.2.1])], st.2.1 + 1, st.2.2 + 1)
    else if x.1 = 98 then (st.1 ++ [(x.2, x.1, noArg)], st.2.1, st.2.2 + 1)
    else st
  else (st.1 ++ [(x.2, x.1, noArg)], st.2.1, st.2.2)
theorem stepP_no {ps : List ByteArray} {out : List Chg} {a n : Nat} {c : UInt8} {o : Bool} (h : takesB c o = false) : stepP ps (out, a, n) (c, o) = (out ++ [(o, c, noArg)], a, n) := by simp [stepP, h]
theorem stepP_full {ps : List ByteArray} {out : List Chg} {a : Nat} {c : UInt8} {o : Bool} (h : takesB c o = true) : stepP ps (out, a, 4) (c, o) = (out, a, 4) := by simp [stepP, h]
theorem stepP_arg {ps : List ByteArray} {out : List Chg} {a n : Nat} {c : UInt8} {o : Bool} (h : takesB c o = true) (hn : n ≠ 4) (ha : a < ps.length) : stepP ps (out, a, n) (c, o) = (out ++ [(o, c, ps[a])], a + 1, n + 1) := by simp [stepP, h, hn, ha]
theorem stepP_list {ps : List ByteArray} {out : List Chg} {a n : Nat} {o : Bool} (h : takesB 98 o = true) (hn : n ≠ 4) (ha : ¬ a < ps.length) : stepP ps (out, a, n) (98, o) = (out ++ [(o, 98, noArg)], a, n + 1) := by simp [stepP, h, hn, ha]
theorem stepP_drop {ps : List ByteArray} {out : List Chg} {a n : Nat} {c : UInt8} {o : Bool} (h : takesB c o = true) (hn : n ≠ 4) (ha : ¬ a < ps.length) (hc : c ≠ 98) : stepP ps (out, a, n) (c, o) = (out, a, n) := by simp [stepP, h, hn, ha, hc]
def parseM (ps : List ByteArray) : List Chg := if h : 0 < ps.length then ((seqL true ps[0].data.toList).foldl (stepP ps) ([], 1, 0)).1 else []
/-- changes as cells -/
def chL (l : List Chg) : List Value := l.flatMap fun x => [.bool x.1, .int .u8 x.2.1.toNat, .string x.2.2]
theorem chL_snoc (l : List Chg) (x : Chg) : chL (l ++ [x]) = chL l ++ [.bool x.1, .int .u8 x.2.1.toNat, .string x.2.2] := by simp [chL]



end Go.Proofs.YtnoeblnljfnecaaGreatDoor
end
section
/- Layer 18: modes.Parse. -/
namespace Go.Proofs.YtnoeblnljfnecaaGreatDoor
set_option linter.unusedVariables false
set_option linter.unusedSimpArgs false
open Go.RowKit Go.Shelf
attribute [local go_sem] Oper.semAt_some

/-- what is left of the arguments -/
def ArgsAt (pg po : Nat) (ps : List ByteArray) (a : Nat) (v : Value) : Prop :=
  ∃ g o c, v = .slice (some ⟨g, o, none⟩) (ps.length - a) c ∧ ps.length - a ≤ c ∧ (a < ps.length → g = pg ∧ o = po + a)

/-- where the letters have led -/
def stP (ps : List ByteArray) (pre : List Letter) : PSt := pre.foldl (stepP ps) ([], 1, 0)
theorem stP_snoc (ps : List ByteArray) (pre : List Letter) (x : Letter) : stP ps (pre ++ [x]) = stepP ps (stP ps pre) x := by simp [stP]
theorem stP_bounds (ps : List ByteArray) (h : 0 < ps.length) (pre : List Letter) : (stP ps pre).1.length ≤ pre.length ∧ 1 ≤ (stP ps pre).2.1 ∧ (stP ps pre).2.1 ≤ ps.length ∧ (stP ps pre).2.2 ≤ pre.length := by
  have key : ∀ (l : List Letter) (s : PSt) (k : Nat), (s.1.length ≤ k ∧ 1 ≤ s.2.1 ∧ s.2.1 ≤ ps.length ∧ s.2.2 ≤ k) → ((l.foldl (stepP ps) s).1.length ≤ k + l.length ∧ 1 ≤ (l.foldl (stepP ps) s).2.1 ∧ (l.foldl (stepP ps) s).2.1 ≤ ps.length ∧ (l.foldl (stepP ps) s).2.2 ≤ k + l.length) := by
    intro l
    induction l with
    | nil => intro s k hs; simpa using hs
    | cons x r ih =>
      intro s k hs
      have h2 := ih (stepP ps s x) (k + 1) (by
        obtain ⟨h1, h2, h3, h4⟩ := hs
        unfold stepP
        split
        · split
          · exact ⟨by omega, h2, h3, by omega⟩
          · split
            · refine ⟨by simp; omega, by simp, by simp; omega, by simp; omega⟩
            · split
              · exact ⟨by simp; omega, h2, h3, by simp; omega⟩
              · exact ⟨by omega, h2, h3, by omega⟩
        · exact ⟨by simp; omega, h2, h3, by simp; omega⟩)
      simp only [List.foldl_cons, List.length_cons]
      have e : k + 1 + r.length = k + (r.length + 1) := by omega
      rw [e] at h2
      exact h2
  have := key pre ([], 1, 0) 0 (by simp; omega)
  simpa [stP] using this
theorem holds_own {β : Type} (B : Nat) (t : TypeId) (G : β → Value → Prop) : Own (fun s W => ∃ v, Boxed W B t v ∧ G s v) := fun s X Y row ⟨v, hs, hg⟩ hgr hrow =>
  ⟨v, hs.kept hgr (fun e' => by obtain ⟨o, ho, hc⟩ := hrow B e'.symm; rw [show X.heap[B]? = _ from hs] at ho; cases ho; cases hc), hg⟩

theorem grownBy_setAt (W : World) (b o : Nat) (v : Value) : W.grownBy (W.setCell ⟨b, o, none⟩ v) (some b) :=
  ⟨rfl, rfl, rfl, (KeepsWalks.setCell W _ v).size, fun k _ hk => Below.heap_setCell _ _ _ k (fun e => hk (by rw [e]))⟩
theorem boxed_otherAt {W : World} {B B' : Nat} {t : TypeId} {v : Value} (h : Boxed W B t v) (hne : B ≠ B') (o : Nat) (u : Value) : Boxed (W.setCell ⟨B', o, none⟩ u) B t v :=
  h.kept (grownBy_setAt W B' o u) (fun e => hne (by simpa using e))

theorem below_dn' {B : Nat} {a w : World} (h : Below B a w) (n : Nat) : Below B a (w.drewN n) := ⟨h.os, h.tape, h.output, h.size, h.block⟩
theorem keeps_dn' (W : World) (n : Nat) : KeepsOthers W (W.drewN n) := ⟨Nat.le_refl _, fun _ _ h _ => h⟩

theorem slice_from (g o n c : Nat) (h : 1 ≤ n) (hc : n ≤ c) : ∃ g1 o1, (∀ W, (Instr.slice 38 (.slice (some ⟨g, o, none⟩) n c) (some (.int .i64 1)) none none).run Tryz.prog W = .ok (.slice (some ⟨g1, o1, none⟩) (n - 1) (c - 1)) W) ∧ (1 < n → g1 = g ∧ o1 = o + 1) := by
  have hu : Tryz.prog.underlying 38 = some (.slice (Tryz.prog.elem 38)) := by kernel_rfl
  have hz : (Tryz.prog.info? (Tryz.prog.elem 38)).map (·.size) = some 1 := by kernel_rfl
  cases hie : Tryz.prog.info? (Tryz.prog.elem 38) with
  | none => rw [hie] at hz; cases hz
  | some ie =>
    rw [hie] at hz
    simp only [Option.map_some, Option.some.injEq] at hz
    by_cases h1 : c = 1
    · subst h1
      refine ⟨g, o, fun W => ?_, fun h2 => by omega⟩
      rw [run_slice_l W 38 _ _ _ hu _ _ (by omega) (by omega)]
      simp [sliced, sizeOf, hie, hz, go_sem]
    · refine ⟨g, o + 1, fun W => ?_, fun h2 => ⟨rfl, rfl⟩⟩
      rw [run_slice_l W 38 _ _ _ hu _ _ (by omega) (by omega)]
      have h3 : ¬ (c - 1 = 0) := by omega
      simp [sliced, sizeOf, hie, hz, go_sem, h1, Addr.add, show Tryz.t9.size = 1 from rfl]

end Go.Proofs.YtnoeblnljfnecaaGreatDoor
end
section
/- Layer 18: what is written, as data; what is read is good; what is good comes back. -/
namespace Go.Proofs.YtnoeblnljfnecaaGreatDoor
set_option linter.unusedVariables false
set_option linter.unusedSimpArgs false
open Go.RowKit

/-- what is written: the row, the arguments, the sign that stands last -/
abbrev TSt := List UInt8 × List ByteArray × Option Bool
def sgn (on : Bool) : UInt8 := if on then 43 else 45
def stepT (st : TSt) (x : Chg) : TSt :=
  (st.1 ++ (if st.2.2 = some x.1 then [] else [sgn x.1]) ++ [x.2.1], if takesB x.2.1 x.1 = true then st.2.1 ++ [x.2.2] else st.2.1, some x.1)
def textS (l : List Chg) : TSt := l.foldl stepT ([], [], none)
def textM (l : List Chg) : List ByteArray := if l = [] then [] else bs (textS l).1 :: (textS l).2.1
theorem textS_take (l : List Chg) (k : Nat) (h : k < l.length) : textS (l.take (k + 1)) = stepT (textS (l.take k)) l[k] := by
  unfold textS
  rw [List.take_succ_eq_append_getElem h, List.foldl_append]
  rfl
theorem textS_last (l : List Chg) (k : Nat) (h : k < l.length) : (textS (l.take (k + 1))).2.2 = some l[k].1 := by
  rw [textS_take l k h]; rfl

def rowR (p : Option Bool) : List Chg → List UInt8
  | [] => []
  | x :: r => (if p = some x.1 then [] else [sgn x.1]) ++ x.2.1 :: rowR (some x.1) r
def tk (x : Chg) : Bool := takesB x.2.1 x.1
def argsR (l : List Chg) : List ByteArray := (l.filter tk).map (·.2.2)
def manyT (l : List Chg) : Nat := (l.filter tk).length
theorem fold_text : ∀ (l : List Chg) (r : List UInt8) (a : List ByteArray) (p : Option Bool), (l.foldl stepT (r, a, p)).1 = r ++ rowR p l ∧ (l.foldl stepT (r, a, p)).2.1 = a ++ argsR l
  | [], r, a, p => by simp [rowR, argsR]
  | x :: l, r, a, p => by
    have h := fold_text l (stepT (r, a, p) x).1 (stepT (r, a, p) x).2.1 (some x.1)
    have e : (x :: l).foldl stepT (r, a, p) = l.foldl stepT ((stepT (r, a, p) x).1, (stepT (r, a, p) x).2.1, some x.1) := rfl
    rw [e, h.1, h.2]
    refine ⟨by simp [stepT, rowR], ?_⟩
    cases ht : tk x with
    | true =>
      have ht' : takesB x.2.1 x.1 = true := ht
      simp [stepT, argsR, List.filter_cons, ht, ht']
    | false =>
      have ht' : takesB x.2.1 x.1 = false := ht
      simp [stepT, argsR, List.filter_cons, ht, ht']
theorem textS_row (l : List Chg) : (textS l).1 = rowR none l := by unfold textS; simpa using (fold_text l [] [] none).1
theorem textS_args (l : List Chg) : (textS l).2.1 = argsR l := by unfold textS; simpa using (fold_text l [] [] none).2
theorem rowR_len : ∀ (l : List Chg) (p : Option Bool), (rowR p l).length ≤ 2 * l.length
  | [], p => by simp [rowR]
  | x :: r, p => by
    have := rowR_len r (some x.1)
    unfold rowR
    split <;> simp <;> omega
theorem argsR_len (l : List Chg) : (argsR l).length = manyT l := by simp [argsR, manyT]
theorem manyT_le (l : List Chg) : manyT l ≤ l.length := List.length_filter_le _ _
theorem textS_len (l : List Chg) : (textS l).1.length ≤ 2 * l.length ∧ (textS l).2.1.length ≤ l.length := by
  rw [textS_row, textS_args, argsR_len]
  exact ⟨rowR_len l none, manyT_le l⟩

/-! what is read is good -/
def goodC (x : Chg) : Prop := x.2.1 ≠ 43 ∧ x.2.1 ≠ 45 ∧ (tk x = false → x.2.2 = noArg)
theorem seqL_mem : ∀ (l : List UInt8) (on : Bool) (x : Letter), x ∈ seqL on l → x.1 ≠ 43 ∧ x.1 ≠ 45
  | [], on, x, h => by simp [seqL] at h
  | c :: r, on, x, h => by
    unfold seqL at h
    split at h
    · exact seqL_mem r _ x h
    · split at h
      · exact seqL_mem r _ x h
      · rcases List.mem_cons.1 h with rfl | h
        · exact ⟨‹_›, ‹_›⟩
        · exact seqL_mem r _ x h
theorem manyT_snoc (l : List Chg) (x : Chg) : manyT (l ++ [x]) = manyT l + if tk x = true then 1 else 0 := by
  unfold manyT
  rw [List.filter_append, List.length_append]
  cases h : tk x <;> simp [List.filter_cons, h]
def okP (st : PSt) : Prop := (∀ x ∈ st.1, goodC x) ∧ manyT st.1 = st.2.2 ∧ st.2.2 ≤ 4
theorem okP_step (ps : List ByteArray) (st : PSt) (x : Letter) (h1 : x.1 ≠ 43) (h2 : x.1 ≠ 45) (h : okP st) : okP (stepP ps st x) := by
  obtain ⟨out, a, n⟩ := st
  obtain ⟨c, on⟩ := x
  obtain ⟨hg, hm, hn⟩ := h
  simp only at hg hm hn h1 h2
  have snoc : ∀ y : Chg, goodC y → ∀ z ∈ out ++ [y], goodC z := fun y hy z hz => by
    rcases List.mem_append.1 hz with hz | hz
    · exact hg z hz
    · rw [List.mem_singleton.1 hz]; exact hy
  cases ht : takesB c on with
  | false =>
    rw [stepP_no ht]
    have hk : ∀ b, tk (on, c, b) = false := fun b => ht
    exact ⟨snoc _ ⟨h1, h2, fun _ => rfl⟩, by show manyT (out ++ [_]) = n; rw [manyT_snoc, hk]; simpa using hm, hn⟩
  | true =>
    have hk : ∀ b, tk (on, c, b) = true := fun b => ht
    have good : ∀ b, goodC (on, c, b) := fun b => ⟨h1, h2, fun h => by rw [hk] at h; cases h⟩
    have many : ∀ b, manyT (out ++ [(on, c, b)]) = n + 1 := fun b => by rw [manyT_snoc, hk, hm]; rfl
    by_cases h4 : n = 4
    · subst h4; rw [stepP_full ht]; exact ⟨hg, hm, hn⟩
    · by_cases ha : a < ps.length
      · rw [stepP_arg ht h4 ha]; exact ⟨snoc _ (good _), many _, by show n + 1 ≤ 4; omega⟩
      · by_cases hc : c = 98
        · subst hc; rw [stepP_list ht h4 ha]; exact ⟨snoc _ (good _), many _, by show n + 1 ≤ 4; omega⟩
        · rw [stepP_drop ht h4 ha hc]; exact ⟨hg, hm, hn⟩
theorem okP_fold (ps : List ByteArray) : ∀ (l : List Letter) (st : PSt), (∀ x ∈ l, x.1 ≠ 43 ∧ x.1 ≠ 45) → okP st → okP (l.foldl (stepP ps) st)
  | [], st, _, h => h
  | x :: l, st, hl, h => okP_fold ps l _ (fun y hy => hl y (List.mem_cons_of_mem _ hy)) (okP_step ps st x (hl x List.mem_cons_self).1 (hl x List.mem_cons_self).2 h)
theorem parse_good (ps : List ByteArray) : (∀ x ∈ parseM ps, goodC x) ∧ manyT (parseM ps) ≤ 4 := by
  unfold parseM
  split
  · have h := okP_fold ps _ ([], 1, 0) (seqL_mem ps[0].data.toList true) ⟨by simp, rfl, by decide⟩
    exact ⟨h.1, by rw [h.2.1]; exact h.2.2⟩
  · exact ⟨by simp, by decide⟩

/-! what is good comes back -/
theorem seqL_row : ∀ (l : List Chg) (p : Option Bool) (on : Bool), (p = none ∨ p = some on) → (∀ x ∈ l, goodC x) → seqL on (rowR p l) = l.map fun x => (x.2.1, x.1)
  | [], p, on, _, _ => by simp [rowR, seqL]
  | x :: r, p, on, hp, hg => by
    have hx := hg x List.mem_cons_self
    have ih := fun o => seqL_row r (some x.1) o
    have rest := ih x.1 (.inr rfl) fun y hy => hg y (List.mem_cons_of_mem _ hy)
    unfold rowR
    by_cases h : p = some x.1
    · rw [if_pos h]
      have ho : on = x.1 := by
        rcases hp with hp | hp
        · rw [hp] at h; cases h
        · rw [hp] at h; injection h
      subst ho
      show seqL x.1 (x.2.1 :: rowR (some x.1) r) = _
      unfold seqL
      rw [if_neg hx.1, if_neg hx.2.1, rest]
      rfl
    · rw [if_neg h]
      have hs : seqL on (sgn x.1 :: x.2.1 :: rowR (some x.1) r) = seqL x.1 (x.2.1 :: rowR (some x.1) r) := by
        obtain ⟨o, c, b⟩ := x
        cases o
        · rfl
        · rfl
      show seqL on (sgn x.1 :: x.2.1 :: rowR (some x.1) r) = _
      rw [hs]
      show seqL x.1 (x.2.1 :: rowR (some x.1) r) = _
      conv => lhs; unfold seqL
      rw [if_neg hx.1, if_neg hx.2.1, rest]
      rfl
theorem manyT_app (a b : List Chg) : manyT (a ++ b) = manyT a + manyT b := by simp [manyT]
theorem back_fold (row : ByteArray) (l : List Chg) (hg : ∀ x ∈ l, goodC x) (h4 : manyT l ≤ 4) : ∀ (suf pre : List Chg), l = pre ++ suf →
    (suf.map fun x => (x.2.1, x.1)).foldl (stepP (row :: argsR l)) (pre, 1 + manyT pre, manyT pre) = (l, 1 + manyT l, manyT l)
  | [], pre, h => by
    have : l = pre := by simpa using h
    subst this; rfl
  | x :: suf, pre, h => by
    have hl : l = (pre ++ [x]) ++ suf := by rw [h]; simp
    have ih := back_fold row l hg h4 suf (pre ++ [x]) hl
    have hx := hg x (by rw [h]; simp)
    have hm := manyT_snoc pre x
    have hml : manyT l = manyT (pre ++ [x]) + manyT suf := by rw [← manyT_app, ← hl]
    rw [List.map_cons, List.foldl_cons]
    have step : stepP (row :: argsR l) (pre, 1 + manyT pre, manyT pre) (x.2.1, x.1) = (pre ++ [x], 1 + manyT (pre ++ [x]), manyT (pre ++ [x])) := by
      cases ht : tk x with
      | false =>
        have ht' : takesB x.2.1 x.1 = false := ht
        rw [stepP_no ht', hm, ht]
        have : x = (x.1, x.2.1, noArg) := by rw [← hx.2.2 ht]
        rw [← this]; rfl
      | true =>
        have ht' : takesB x.2.1 x.1 = true := ht
        rw [ht] at hm
        simp only [if_true] at hm
        have ha : 1 + manyT pre < (row :: argsR l).length := by rw [List.length_cons, argsR_len]; omega
        have hget : (row :: argsR l)[1 + manyT pre]'ha = x.2.2 := by
          have e1 : argsR l = argsR pre ++ x.2.2 :: argsR suf := by
            rw [h]; unfold argsR; simp [List.filter_append, List.filter_cons, ht]
          have e2 : (row :: argsR l)[1 + manyT pre]? = some x.2.2 := by
            rw [show 1 + manyT pre = manyT pre + 1 by omega, List.getElem?_cons_succ, e1, List.getElem?_append_right (by rw [argsR_len]; exact Nat.le_refl _), argsR_len, Nat.sub_self]
            rfl
          rw [List.getElem?_eq_getElem ha] at e2
          exact Option.some.inj e2
        rw [stepP_arg ht' (by omega) ha, hget, hm, show 1 + manyT pre + 1 = 1 + (manyT pre + 1) by omega]
    rw [step]
    exact ih
theorem back (l : List Chg) (hg : ∀ x ∈ l, goodC x) (h4 : manyT l ≤ 4) : parseM (textM l) = l := by
  by_cases h : l = []
  · subst h; rfl
  · have e : textM l = bs (rowR none l) :: argsR l := by unfold textM; rw [if_neg h, textS_row, textS_args]
    rw [e]
    unfold parseM
    rw [dif_pos (by simp)]
    have := back_fold (bs (rowR none l)) l hg h4 l [] (by simp)
    simp only [List.getElem_cons_zero, bs_toList]
    rw [seqL_row l none true (.inl rfl) hg]
    have h0 : ([], 1, 0) = (([] : List Chg), 1 + manyT [], manyT []) := rfl
    rw [h0, this]
theorem back_parse (ps : List ByteArray) : parseM (textM (parseM ps)) = parseM ps := back _ (parse_good ps).1 (parse_good ps).2
end Go.Proofs.YtnoeblnljfnecaaGreatDoor
end
section
/- Layer 18: rows of changes and of texts, nil let in; Parse, Same, Texts of such rows; great. -/
namespace Go.Proofs.YtnoeblnljfnecaaGreatDoor
set_option linter.unusedVariables false
set_option linter.unusedSimpArgs false
open Go.RowKit Go.Shelf

/-- changes lie at an address, if there are any -/
def RowC (W : World) (A : Option Addr) (l : List Chg) : Prop :=
  0 < l.length → ∃ g o, A = some ⟨g, o, none⟩ ∧ ∀ i (h : i < l.length), W.cell? ⟨g, o + i * 3, none⟩ = some (.bool l[i].1) ∧ W.cell? ⟨g, o + i * 3 + 1, none⟩ = some (.int .u8 l[i].2.1.toNat) ∧ W.cell? ⟨g, o + i * 3 + 2, none⟩ = some (.string l[i].2.2)
/-- texts lie at an address, if there are any -/
def RowT (W : World) (A : Option Addr) (l : List ByteArray) : Prop :=
  0 < l.length → ∃ g o, A = some ⟨g, o, none⟩ ∧ ∀ i (h : i < l.length), W.cell? ⟨g, o + i, none⟩ = some (.string l[i])
theorem lt_of_cell {W : World} {g o : Nat} {v : Value} (h : W.cell? ⟨g, o, none⟩ = some v) : g < W.heap.size := by
  unfold World.cell? at h
  cases hb : W.heap[g]? with
  | none => simp [hb] at h
  | some x => exact (Array.getElem?_eq_some_iff.1 hb).1
theorem RowC.kept {W W' : World} {A : Option Addr} {l : List Chg} (h : RowC W A l) (hb : Below W.heap.size W W') : RowC W' A l := fun hl => by
  obtain ⟨g, o, rfl, hc⟩ := h hl
  have hg := lt_of_cell (hc 0 hl).1
  exact ⟨g, o, rfl, fun i hi => by
    rw [hb.cell (p := ⟨g, _, none⟩) hg, hb.cell (p := ⟨g, _, none⟩) hg, hb.cell (p := ⟨g, _, none⟩) hg]
    exact hc i hi⟩
theorem RowT.kept {W W' : World} {A : Option Addr} {l : List ByteArray} (h : RowT W A l) (hb : Below W.heap.size W W') : RowT W' A l := fun hl => by
  obtain ⟨g, o, rfl, hc⟩ := h hl
  have hg := lt_of_cell (hc 0 hl)
  exact ⟨g, o, rfl, fun i hi => by rw [hb.cell (p := ⟨g, _, none⟩) hg]; exact hc i hi⟩
theorem chL_len (l : List Chg) : (chL l).length = l.length * 3 := by
  induction l with
  | nil => rfl
  | cons x r ih =>
    have : chL (x :: r) = [.bool x.1, .int .u8 x.2.1.toNat, .string x.2.2] ++ chL r := by simp [chL]
    rw [this, List.length_append, ih]; simp; omega
theorem chL_get (l : List Chg) : ∀ i (h : i < l.length), (chL l)[i * 3]? = some (.bool l[i].1) ∧ (chL l)[i * 3 + 1]? = some (.int .u8 l[i].2.1.toNat) ∧ (chL l)[i * 3 + 2]? = some (.string l[i].2.2) := by
  induction l with
  | nil => intro i h; simp at h
  | cons x r ih =>
    intro i h
    have e : chL (x :: r) = .bool x.1 :: .int .u8 x.2.1.toNat :: .string x.2.2 :: chL r := by simp [chL]
    cases i with
    | zero => rw [e]; exact ⟨rfl, rfl, rfl⟩
    | succ k =>
      have := ih k (by simpa using h)
      rw [e, show (k + 1) * 3 = k * 3 + 3 by omega]
      exact this

theorem RowT.owned {W : World} {base : Nat} {v : Value} {l : List ByteArray} (h : W.ownsRow base 9 1 v l.length (l.map .string)) : ∃ A c, v = .slice A l.length c ∧ l.length ≤ c ∧ RowT W A l := by
  have h0 := h
  rcases h.2 with ⟨rfl, hn⟩ | ⟨g, cap, cur, rfl, _, _, hc, _⟩
  · exact ⟨none, 0, by rw [hn], by omega, fun hl => by omega⟩
  · refine ⟨_, cap, rfl, hc, fun hl => ⟨g, 0, rfl, fun i hi => ?_⟩⟩
    rw [Nat.zero_add, h0.cellAt _ (by omega)]
    simp [hi]



def ParsedTo (w : World) (ps : List ByteArray) (e : Ending) (w' : World) : Prop := ∃ A c, e = .returned (.slice A (parseM ps).length c) ∧ (parseM ps).length ≤ c ∧ RowC w' A (parseM ps) ∧ Below w.heap.size w w'



/-! Same, Texts -/




set_option maxHeartbeats 4000000 in
theorem texts_any (A B : Option Addr) (a b : List ByteArray) (c1 c2 : Nat) (w : World) (ha1 : a.length ≤ 100000) (h1 : RowT w A a) (h2 : RowT w B b) :
    Calls Tryz.prog 20 #[.slice A a.length c1, .slice B b.length c2] w fun e w' => e = .returned (.bool (decide (a = b))) ∧ ∃ n, w' = w.drewN n := by
  by_cases hl : a.length = b.length
  · have H1 := Lib.hid h1
    have H2 := Lib.hid h2
    have HL := Lib.hid hl
    have hne : ((a.length : Int) != (b.length : Int)) = false := by rw [hl]; simp
    clear h1 h2 hl
    go_enter Tryz.func20, Tryz.ntmps20
    go_wp2_with fail
    go_loopw [5] (fun i wr => ∃ k : Nat, i = .int .i64 k ∧ k ≤ a.length ∧ Hid (a.take k = b.take k ∧ ∃ n, wr = w.drewN n)) (fun i _ => a.length - (Go.RowKit.intOf i).toNat)
    case atStart => exact ⟨0, rfl, Nat.zero_le _, rfl, 0, rfl⟩
    case round =>
      obtain ⟨k, rfl, hk, HQ⟩ := hrel
      by_cases hlt : k < a.length
      · have hlt2 : k < b.length := by have := HL.out; omega
        obtain ⟨g1, o1, rfl, k1⟩ := H1.out (by omega)
        obtain ⟨g2, o2, rfl, k2⟩ := H2.out (by omega)
        have ca : wr.cell? ⟨g1, o1 + k, none⟩ = some (.string a[k]) := by obtain ⟨_, n, hn⟩ := HQ.out; rw [hn]; exact k1 k hlt
        have cb : wr.cell? ⟨g2, o2 + k, none⟩ = some (.string b[k]) := by obtain ⟨_, n, hn⟩ := HQ.out; rw [hn]; exact k2 k hlt2
        obtain ⟨eb, heb⟩ : ∃ x, (a[k].toList == b[k].toList) = x := ⟨_, rfl⟩
        have hnq : (a[k].toList != b[k].toList) = !eb := by rw [← heb]; rfl
        have hnq2 : (!(a[k].toList == b[k].toList)) = !eb := by rw [heb]
        have HE := Lib.hid heb
        clear heb k1 k2
        have p1 : (k : Int) < (a.length : Int) := by omega
        have p2 : (k : Int) < (b.length : Int) := by omega
        cases eb with
        | false =>
          go_wp2_with fail
          go_quiet (fail)
          all_goals go_wp2_with fail
          have hd : decide (a = b) = false := by
            rw [decide_eq_false_iff_not]
            intro e
            have := HE.out
            simp only [e] at this
            simp at this
          obtain ⟨_, n, hn⟩ := HQ.out
          rw [hd]
          subst hn
          go_ret
          exact ⟨rfl, _, by rw [World.drewN_drewN]⟩
        | true =>
          go_wp2_with fail
          go_quiet (fail)
          all_goals go_wp2_with fail
          have h3 : a[k] = b[k] := by
            have := HE.out
            rw [beq_iff_eq, ByteArray.toList_eq, ByteArray.toList_eq] at this
            exact ba_ext this
          have h4 : a.take (k + 1) = b.take (k + 1) := by
            rw [List.take_succ_eq_append_getElem hlt, List.take_succ_eq_append_getElem hlt2, HQ.out.1, h3]
          obtain ⟨_, n, hn⟩ := HQ.out
          exact ⟨⟨k + 1, by go_num, by omega, h4, n + nq, by subst hn; rw [World.drewN_drewN]⟩, by simp [Go.RowKit.intOf]; omega⟩
      · obtain rfl : k = a.length := by omega
        have hab : a = b := by
          have := HQ.out.1
          rw [List.take_of_length_le (Nat.le_refl _), List.take_of_length_le (by have := HL.out; omega)] at this
          exact this
        have hd : decide (a = b) = true := by simp [hab]
        obtain ⟨_, n, hn⟩ := HQ.out
        have p1 : ¬ ((a.length : Int) < (a.length : Int)) := by omega
        subst hn
        have HD := Lib.hid hd
        clear hd hab
        go_wp2_with fail
        go_ret
        exact ⟨ret_bool HD.out.symm, _, rfl⟩
  · have hd : decide (a = b) = false := by rw [decide_eq_false_iff_not]; intro e; exact hl (by rw [e])
    have hne : ((a.length : Int) != (b.length : Int)) = true := by rw [bne_iff_ne]; omega
    rw [hd]
    clear hd hl h1 h2
    go_enter Tryz.func20, Tryz.ntmps20
    go_wp2_with fail
    go_ret
    exact ⟨rfl, 0, rfl⟩

/-- more than is looked at? -/
def greatB (l : List ByteArray) : Bool := decide (20 < l.length) || l.any fun s => decide (60 < s.size)
theorem greatB_no {l : List ByteArray} (h : greatB l = false) : l.length ≤ 20 ∧ ∀ s ∈ l, s.size ≤ 60 := by
  unfold greatB at h
  rw [Bool.or_eq_false_iff] at h
  refine ⟨by simpa using h.1, fun s hs => ?_⟩
  have := List.any_eq_false.1 h.2 s hs
  simpa using this
end Go.Proofs.YtnoeblnljfnecaaGreatDoor
end
section
/- Layer 21: WishAsks. -/
namespace Go.Proofs.YtnoeblnljfnecaaGreatDoor
set_option linter.unusedVariables false
set_option linter.unusedSimpArgs false
open Go Go.RowKit Go.Lib Go.Shelf

theorem texts_is {W : World} {A B : Option Addr} {xs : List (List UInt8)} (c1 c2 : Nat) (hl : xs.length ≤ 100000) (h1 : ReadsT W A xs) (h2 : ReadsT W B xs) :
    Calls Tryz.prog 20 #[.slice A xs.length c1, .slice B xs.length c2] W fun e w' => e = .returned (.bool true) ∧ ∃ n, w' = W.drewN n := by
  have hR : ∀ {A : Option Addr}, ReadsT W A xs → RowT W A (xs.map bs) := fun {A} h h0 => by
    rw [List.length_map] at h0
    obtain ⟨g, o, e, _, hc⟩ := h h0
    refine ⟨g, o, e, fun i hi => ?_⟩
    rw [List.getElem_map]
    exact hc i (by rw [List.length_map] at hi; exact hi)
  have := texts_any A B (xs.map bs) (xs.map bs) c1 c2 W (by rw [List.length_map]; exact hl) (hR h1) (hR h2)
  rw [List.length_map, decide_eq_true rfl] at this
  exact this
theorem nick_is {l : List UInt8} (h : 1 ≤ l.length ∧ l.length ≤ 16) (hall : (l.zipIdx.all fun x => nickAt x.2 x.1) = true) : nickB l = true := by
  refine dec_iff.2 ⟨by rw [bs_size]; exact h, fun i hi => ?_⟩
  rw [bs_size] at hi
  have := List.all_eq_true.1 hall (l[i], i) (by rw [List.mem_zipIdx_iff_getElem?]; exact List.getElem?_eq_getElem hi)
  exact this
theorem nick_not {l : List UInt8} (i : Nat) (h : i < l.length) (hn : nickAt i l[i] = false) : nickB l = false := (dec_no fun hh => by
  have := hh.2 i (by rw [bs_size]; exact h)
  have e : (bs l)[i]'(by rw [bs_size]; exact h) = l[i] := rfl
  rw [e, hn] at this
  cases this).symm
theorem names_awake : namesM [[43], [97, 110, 110, 44, 44, 49, 120, 44, 98, 111, 98]] = [[97, 110, 110], [98, 111, 98]] := by
  rw [names_ops (.inl rfl)]
  unfold nicksV
  rw [show splitC 44 [97, 110, 110, 44, 44, 49, 120, 44, 98, 111, 98] = [[97, 110, 110], [], [49, 120], [98, 111, 98]] by decide +kernel]
  have a1 : nickB [97, 110, 110] = true := nick_is (by decide) (by decide +kernel)
  have a2 : nickB [49, 120] = false := nick_not 0 (by decide) (by decide +kernel)
  have a3 : nickB [98, 111, 98] = true := nick_is (by decide) (by decide +kernel)
  simp [List.filter, a1, a2, a3, nickB_nil]
theorem watch_awake : watchA [[43, 97, 110, 110], [45, 98, 111, 98], [99], [120]] = [(43, [97, 110, 110]), (45, [98, 111, 98]), (67, [])] := by
  have a1 : nickB [97, 110, 110] = true := nick_is (by decide) (by decide +kernel)
  have a3 : nickB [98, 111, 98] = true := nick_is (by decide) (by decide +kernel)
  have w1 : wishV [43, 97, 110, 110] = some (43, [97, 110, 110]) := by unfold wishV; rw [if_neg (by decide +kernel)]; dsimp only; rw [if_pos ⟨.inl rfl, a1⟩]
  have w2 : wishV [45, 98, 111, 98] = some (45, [98, 111, 98]) := by unfold wishV; rw [if_neg (by decide +kernel)]; dsimp only; rw [if_pos ⟨.inr rfl, a3⟩]
  have w3 : wishV [99] = some (67, []) := by unfold wishV; rw [if_pos (by decide +kernel)]; rfl
  have w4 : wishV [120] = none := by unfold wishV; rw [if_neg (by decide +kernel)]; dsimp only; rw [if_neg (by simp)]
  unfold watchA
  rw [if_neg (by simp)]
  unfold watchV
  simp [w1, w2, w3, w4]
set_option maxRecDepth 100000 in
set_option maxHeartbeats 16000000 in
theorem awake21 (w : World) (hR : Rowed w) : Calls Tryz.prog 6 #[] w fun e w' => e = .returned (.bool true) ∧ Below w.heap.size w w' := by
  obtain ⟨w1, hw1⟩ : ∃ w1, w.alloc (.cells #[.string ⟨#[43]⟩, .string ⟨#[97, 110, 110, 44, 44, 49, 120, 44, 98, 111, 98]⟩] 9) = w1 := ⟨_, rfl⟩
  have k1 : w1.heap[w.heap.size]? = some (.cells #[.string ⟨#[43]⟩, .string ⟨#[97, 110, 110, 44, 44, 49, 120, 44, 98, 111, 98]⟩] 9 (0, 0)) := by rw [← hw1]; exact heap_alloc_new w _
  have f1 : Fr (fun _ => False) w w1 := by rw [← hw1]; exact (Fr.refl _ _).alloc _
  have R1 : Rowed w1 := hR.same (f1.block _ hR.lt fun e => e)
  have hm := mon_v (some ⟨w.heap.size, 0, none⟩) 2 [[43], [97, 110, 110, 44, 44, 49, 120, 44, 98, 111, 98]] w1 (by decide) (by intro p hp; simp at hp; rcases hp with rfl | rfl <;> decide) (fun _ => ⟨_, _, rfl, blk_lt k1, fun j hj => by
    have : j = 0 ∨ j = 1 := by simp at hj; omega
    rcases this with rfl | rfl
    · exact blk_cell k1 0
    · exact blk_cell k1 1⟩) R1
  unfold MonP at hm
  rw [names_awake] at hm
  have HM := Lib.hid hm
  have HW := Lib.hid hw1
  have HF := Lib.hid (And.intro f1 R1)
  clear hm hw1 f1 R1 k1
  go_enter Tryz.func6, Tryz.ntmps6
  go_wp2_with fail
  rw [HW.out]
  refine HM.out.mono ?_
  rintro e w2 ⟨⟨A2, c2, rfl, o2⟩, b2⟩
  have hop : ((opM [[43], [97, 110, 110, 44, 44, 49, 120, 44, 98, 111, 98]]).toNat : Int) = 43 := by decide +kernel
  rw [hop]
  clear hop
  have F2 : Hid (Fr (fun _ => False) w w2) := HF.out.1.trans (Fr.of_below b2)
  have O2 := Lib.hid (reads_ownT o2)
  clear o2 b2
  obtain ⟨w3, hw3⟩ : ∃ w3, w2.alloc (.cells #[.string ⟨#[43, 97, 110, 110]⟩, .string ⟨#[45, 98, 111, 98]⟩, .string ⟨#[99]⟩, .string ⟨#[120]⟩] 9) = w3 := ⟨_, rfl⟩
  have k3 : w3.heap[w2.heap.size]? = some (.cells #[.string ⟨#[43, 97, 110, 110]⟩, .string ⟨#[45, 98, 111, 98]⟩, .string ⟨#[99]⟩, .string ⟨#[120]⟩] 9 (0, 0)) := by rw [← hw3]; exact heap_alloc_new w2 _
  have f3 : Fr (fun _ => False) w2 w3 := by rw [← hw3]; exact (Fr.refl _ _).alloc _
  have R3 : Rowed w3 := hR.same ((F2.out.trans f3).block _ hR.lt fun e => e)
  have ht := watch_v (some ⟨w2.heap.size, 0, none⟩) 4 [[43, 97, 110, 110], [45, 98, 111, 98], [99], [120]] w3 (by decide) (by intro p hp; simp at hp; rcases hp with rfl | rfl | rfl | rfl <;> decide) (fun _ => ⟨_, _, rfl, blk_lt k3, fun j hj => by
    have : j = 0 ∨ j = 1 ∨ j = 2 ∨ j = 3 := by simp at hj; omega
    rcases this with rfl | rfl | rfl | rfl
    · exact blk_cell k3 0
    · exact blk_cell k3 1
    · exact blk_cell k3 2
    · exact blk_cell k3 3⟩) R3
  unfold WatP at ht
  rw [watch_awake] at ht
  have HT := Lib.hid ht
  have F3 := Lib.hid (F2.out.trans f3)
  have F23 := Lib.hid f3
  have HW3 := Lib.hid hw3
  clear ht hw3 f3 R3 k3
  go_wp2_with fail
  rw [HW3.out]
  refine HT.out.mono ?_
  rintro e w4 ⟨⟨A4, c4, rfl, o4⟩, b4⟩
  have f4 : Fr (fun _ => False) w3 w4 := Fr.of_below b4
  have hrd := reads_ownW o4
  obtain ⟨w5, hw5⟩ : ∃ w5, w4.alloc (.cells #[.string ⟨#[97, 110, 110]⟩, .string ⟨#[98, 111, 98]⟩] 9) = w5 := ⟨_, rfl⟩
  have k5 : w5.heap[w4.heap.size]? = some (.cells #[.string ⟨#[97, 110, 110]⟩, .string ⟨#[98, 111, 98]⟩] 9 (0, 0)) := by rw [← hw5]; exact heap_alloc_new w4 _
  have f5 : Fr (fun _ => False) w4 w5 := by rw [← hw5]; exact (Fr.refl _ _).alloc _
  have F25 : Fr (fun _ => False) w2 w5 := (F23.out.trans f4).trans f5
  have hr5 : ReadsT w5 A2 [[97, 110, 110], [98, 111, 98]] := fun h0 => by
    obtain ⟨g, o, e, hg, hc⟩ := O2.out h0
    exact ⟨g, o, e, Nat.lt_of_lt_of_le hg F25.size, fun j hj => (F25.cell (p := ⟨g, o + j, none⟩) hg fun e => e).trans (hc j hj)⟩
  have htx := texts_is c2 2 (by decide) hr5 (fun _ => ⟨w4.heap.size, 0, rfl, blk_lt k5, fun j hj => by
    have : j = 0 ∨ j = 1 := by simp at hj; omega
    rcases this with rfl | rfl
    · exact blk_cell k5 0
    · exact blk_cell k5 1⟩)
  obtain ⟨g4, o4', rfl, hg4, hc4⟩ := hrd (by simp)
  have hq : ∀ W, Fr (fun _ => False) w4 W → ∀ j (hj : j < 3), W.cell? ⟨g4, o4' + j * 2, none⟩ = w4.cell? ⟨g4, o4' + j * 2, none⟩ ∧ W.cell? ⟨g4, o4' + j * 2 + 1, none⟩ = w4.cell? ⟨g4, o4' + j * 2 + 1, none⟩ := fun W hf j _ => ⟨hf.cell (p := ⟨g4, o4' + j * 2, none⟩) hg4 fun e => e, hf.cell (p := ⟨g4, o4' + j * 2 + 1, none⟩) hg4 fun e => e⟩
  have HC := Lib.hid (And.intro hq hc4)
  have HX := Lib.hid htx
  have HW5 := Lib.hid hw5
  have FF := Lib.hid (And.intro (F3.out.trans f4) f5)
  clear hw5 k5 f5 F25 hr5 htx hg4 hc4 hq f4 b4 o4 hrd
  go_wp2_with fail
  rw [HW5.out]
  refine HX.out.mono ?_
  rintro e w6 ⟨rfl, nd, rfl⟩
  have f6 : Fr (fun _ => False) w4 (w5.drewN nd) := FF.out.2.drewN nd
  have t0 : (w5.drewN nd).cell? ⟨g4, o4', none⟩ = some (.int .u8 43) := (HC.out.1 _ f6 0 (by decide)).1.trans (HC.out.2 0 (by decide)).1
  have t1 : (w5.drewN nd).cell? ⟨g4, o4' + 1, none⟩ = some (.string ⟨#[97, 110, 110]⟩) := (HC.out.1 _ f6 0 (by decide)).2.trans (HC.out.2 0 (by decide)).2
  have t2 : (w5.drewN nd).cell? ⟨g4, o4' + 2, none⟩ = some (.int .u8 45) := (HC.out.1 _ f6 1 (by decide)).1.trans (HC.out.2 1 (by decide)).1
  have t3 : (w5.drewN nd).cell? ⟨g4, o4' + 2 + 1, none⟩ = some (.string ⟨#[98, 111, 98]⟩) := (HC.out.1 _ f6 1 (by decide)).2.trans (HC.out.2 1 (by decide)).2
  have t4 : (w5.drewN nd).cell? ⟨g4, o4' + 4, none⟩ = some (.int .u8 67) := (HC.out.1 _ f6 2 (by decide)).1.trans (HC.out.2 2 (by decide)).1
  have t5 : (w5.drewN nd).cell? ⟨g4, o4' + 4 + 1, none⟩ = some (.string ⟨#[]⟩) := (HC.out.1 _ f6 2 (by decide)).2.trans (HC.out.2 2 (by decide)).2
  have F6 := Lib.hid f6
  clear f6
  go_wp2_with fail
  go_ret
  exact ⟨rfl, (FF.out.1.trans F6.out).below (Nat.le_refl _) fun _ _ e => e.elim⟩
end Go.Proofs.YtnoeblnljfnecaaGreatDoor
end
section
/- Layer 21: WishNone. -/
namespace Go.Proofs.YtnoeblnljfnecaaGreatDoor
set_option linter.unusedVariables false
set_option linter.unusedSimpArgs false
open Go Go.RowKit Go.Maps Go.Lib Go.Sort Go.Shelf

/-- lists, and all that was as it was -/
structure StW (w : World) (N l : Nat) (most : Int) (Y : Nat → Prop) (U : List WEnt) (V : World) : Prop where
  rel : WisAt N V l Y most U
  below : RowKit.Below w.heap.size w V
  low : w.heap.size ≤ N
  far : N ≤ V.heap.size
theorem StW.put {w : World} {N l : Nat} {most : Int} {Y Y' : Nat → Prop} {U U' : List WEnt} {V V' : World} (h : StW w N l most Y U V) (hr : WisAt N V' l Y' most U') (hf : Fr Y V V') : StW w N l most Y' U' V' :=
  ⟨hr, h.below.trans (hf.below h.below.size fun k _ e => Nat.le_trans h.low (h.rel.lt e).1), h.low, Nat.le_trans h.far hf.size⟩
theorem StW.rest {w : World} {N l : Nat} {most : Int} {Y : Nat → Prop} {U : List WEnt} {V V' : World} (h : StW w N l most Y U V) (hf : Fr (fun _ => False) V V') : StW w N l most Y U V' :=
  ⟨h.rel.fr hf fun _ _ e => e, h.below.trans (hf.below h.below.size fun k _ e => e.elim), h.low, Nat.le_trans h.far hf.size⟩
theorem stW_new {w v v' : World} {l : Nat} {most : Int} {Y : Nat → Prop} (hb : RowKit.Below w.heap.size w v) (h : WisAt v.heap.size v' l Y most []) (hb' : RowKit.Below v.heap.size v v') : StW w v.heap.size l most Y [] v' :=
  ⟨h, hb.trans (hb'.mono hb.size), hb.size, hb'.size⟩
theorem up_one {f : List UInt8} {D : List (List UInt8)} (h1 : D.Pairwise (· < ·)) (h2 : ∀ x, x ∈ D ↔ x = f) : D = [f] := up_extS h1 (by simp) fun x => by rw [h2]; simp
set_option maxRecDepth 100000 in
set_option maxHeartbeats 16000000 in
theorem wishNone_walk (a : Int) (ha : (Lit.int .i64 a).wf = true) (n m : ByteArray) (w : World) (hR : Rowed w) :
    Calls Tryz.prog 4 #[.int .i64 a, .string n, .string m] w fun e w' => e = .returned (.bool true) ∧ RowKit.Below w.heap.size w w' := by
  obtain ⟨x, rfl⟩ : ∃ x, n = bs x := ⟨n.data.toList, rfl⟩
  obtain ⟨y, rfl⟩ : ∃ y, m = bs y := ⟨m.data.toList, rfl⟩
  have HA := Lib.hid (awake21 w hR)
  have HI : Hid (OkKIS a) := ha
  clear ha hR
  go_enter Tryz.func4, Tryz.ntmps4
  go_wp2_with fail
  refine HA.out.mono ?_
  rintro e w1 ⟨rfl, b1⟩
  have B1 := Lib.hid b1
  clear b1
  by_cases h30 : (30 : Int) < (x.length : Int)
  · have q1 : (30 : Int) < ((bs x).size : Int) := by simpa using h30
    go_wp2_with fail
    go_ret
    exact ⟨rfl, B1.out⟩
  have q1 : ¬ (30 : Int) < ((bs x).size : Int) := by simpa using h30
  by_cases h31 : (30 : Int) < (y.length : Int)
  · have q2 : (30 : Int) < ((bs y).size : Int) := by simpa using h31
    go_wp2_with fail
    go_ret
    exact ⟨rfl, B1.out⟩
  have q2 : ¬ (30 : Int) < ((bs y).size : Int) := by simpa using h31
  have hx : x.length ≤ 1000 := by omega
  have hy : y.length ≤ 1000 := by omega
  have HS : Hid (Calls Tryz.prog 24 #[.string (bs x), .string (bs y)] w1 fun e w' => e = .returned (.bool (sameF x y)) ∧ Below w1.heap.size w1 w') := refsame (bs x) (bs y) w1 (by simp; omega) (by simp; omega)
  cases hs : sameF x y with
  | true =>
    rw [hs] at HS
    go_wp2_with fail
    refine HS.out.mono ?_
    rintro e w2 ⟨rfl, b2⟩
    have B2 := Lib.hid b2
    clear b2
    go_wp2_with fail
    go_ret
    exact ⟨rfl, B1.out.trans (B2.out.mono B1.out.size)⟩
  | false =>
  rw [hs] at HS
  have hne : foldL x ≠ foldL y := fun e => by rw [sameF_iff.2 e] at hs; cases hs
  have HNE := Lib.hid hne
  clear hne hs
  go_wp2_with fail
  refine HS.out.mono ?_
  rintro e w2 ⟨rfl, b2⟩
  have B2 : Hid (Below w.heap.size w w2) := B1.out.trans (b2.mono B1.out.size)
  clear b2 B1 HA HS
  go_wp2_with fail
  refine (names21 (a := a) (w := w2) (xs := []) (fun V _ => wisOfNil a V) (by decide)).mono ?_
  rintro e w3 ⟨⟨v3, rfl, o3⟩, b3⟩
  obtain ⟨A3, c3, rfl⟩ := row_slice o3
  have B3 : Hid (Below w.heap.size w w3) := B2.out.trans (b3.mono B2.out.size)
  clear o3 b3 B2
  go_wp2_with fail
  refine (clients21 (a := x) (w := w3) (xs := []) (fun V _ => wisByNil hx V) (by decide)).mono ?_
  rintro e w4 ⟨⟨v4, rfl, o4⟩, b4⟩
  obtain ⟨A4, c4, rfl⟩ := row_slice o4
  have B4 : Hid (Below w.heap.size w w4) := B3.out.trans (b4.mono B3.out.size)
  clear o4 b4 B3
  simp only [List.length_nil]
  go_wp2_with fail
  refine (wisAddNil hx a w4).mono ?_
  rintro e w5 ⟨rfl, b5⟩
  have B5 : Hid (Below w.heap.size w w5) := B4.out.trans (b5.mono B4.out.size)
  clear b5 B4
  go_wp2_with fail
  refine (wisRemNil hx a w5).mono ?_
  rintro e w6 ⟨rfl, b6⟩
  have B6 : Hid (Below w.heap.size w w6) := B5.out.trans (b6.mono B5.out.size)
  clear b6 B5
  go_wp2_with fail
  refine (wisClearNil a w6).mono ?_
  rintro e w7 ⟨rfl, b7⟩
  have B7 : Hid (Below w.heap.size w w7) := B6.out.trans (b7.mono B6.out.size)
  clear b7 B6
  go_wp2_with fail
  refine (wisHasNil hx a w7).mono ?_
  rintro e w8 ⟨rfl, b8⟩
  have B8 : Hid (Below w.heap.size w w8) := B7.out.trans (b8.mono B7.out.size)
  clear b8 B7
  go_wp2_with fail
  refine (wisCountNil a w8).mono ?_
  rintro e w9 ⟨rfl, rfl⟩
  go_wp2_with fail
  refine (wisNew (most := 1) (by decide) w9).mono ?_
  rintro e v1 ⟨l, Y, rfl, g1, y1, b9⟩
  have G1 : Hid (StW w w9.heap.size l 1 Y [] v1) := stW_new B8.out g1 b9
  clear g1 y1 b9 B8
  go_wp2_with fail
  refine (wisNew (most := 0) (by decide) v1).mono ?_
  rintro e v2 ⟨l0, Y0, rfl, g0, y0, b10⟩
  have HA0 := Lib.hid (wisAdd g0 b10.size (by simp) HI.out hx)
  have G2 : Hid (StW w w9.heap.size l 1 Y [] v2) := G1.out.rest (Fr.of_below b10)
  have HY : Hid (∀ j, Y j → ¬ Y0 j) := fun j hj e => by have := y0 j e; have := (G1.out.rel.lt hj).2; omega
  have HY0 : Hid (∀ j, Y0 j → w.heap.size ≤ j) := fun j e => Nat.le_trans G1.out.below.size (y0 j e)
  clear g0 y0 b10 G1
  go_wp2_with fail
  refine HA0.out.mono ?_
  rintro e v3 ⟨Y0', c, U', rfl, _, f3, _, hc⟩
  have hc7 : c = 7 := by
    rcases hc with ⟨_, ⟨_, h⟩ | ⟨h, _⟩⟩ | ⟨_, _, _, h⟩
    · simp at h
    · exact h
    · have := h [] List.Pairwise.nil (by simp); simp at this
  subst hc7
  have G3 : Hid (StW w w9.heap.size l 1 Y [] v3) := ⟨G2.out.rel.fr f3 HY.out, G2.out.below.trans (f3.below G2.out.below.size fun k _ e => HY0.out k e), G2.out.low, Nat.le_trans G2.out.far f3.size⟩
  clear f3 hc G2 HA0 HY HY0
  go_wp2_with fail
  refine (wisAdd G3.out.rel G3.out.far (by simp) HI.out hx).mono ?_
  rintro e v4 ⟨Y4, c, U', rfl, y4, f4, g4, hc⟩
  have hc0 : U' = [(a, x)] ∧ c = 0 := by
    rcases hc with ⟨_, ⟨_, h⟩ | ⟨_, _, h⟩⟩ | ⟨h1, h2, _, _⟩
    · simp at h
    · have := h [] List.Pairwise.nil (by simp); simp at this
    · exact ⟨h1, h2⟩
  obtain ⟨rfl, rfl⟩ := hc0
  have G4 : Hid (StW w w9.heap.size l 1 Y4 [(a, x)] v4) := G3.out.put g4 f4
  clear y4 f4 g4 hc G3
  go_wp2_with fail
  refine (wisAdd G4.out.rel G4.out.far (by simp) HI.out hx).mono ?_
  rintro e v5 ⟨Y5, c, U', rfl, y5, f5, g5, hc⟩
  have hc0 : U' = [(a, x)] ∧ c = 6 := by
    rcases hc with ⟨h1, ⟨h2, _⟩ | ⟨_, h, _⟩⟩ | ⟨_, _, h, _⟩
    · exact ⟨h1, h2⟩
    · exact absurd (by simp [fkW]) h
    · exact absurd (by simp [fkW]) h
  obtain ⟨rfl, rfl⟩ := hc0
  have G5 : Hid (StW w w9.heap.size l 1 Y5 [(a, x)] v5) := G4.out.put g5 f5
  clear y5 f5 g5 hc G4
  go_wp2_with fail
  refine (wisAdd G5.out.rel G5.out.far (by simp) HI.out hy).mono ?_
  rintro e v6 ⟨Y6, c, U', rfl, y6, f6, g6, hc⟩
  have hc0 : U' = [(a, x)] ∧ c = 7 := by
    rcases hc with ⟨h1, ⟨_, h⟩ | ⟨h2, _⟩⟩ | ⟨_, _, _, h⟩
    · simp only [List.map_cons, List.map_nil, List.mem_singleton, fkW, Prod.mk.injEq, true_and] at h
      exact absurd h.symm HNE.out
    · exact ⟨h1, h2⟩
    · have := h [foldL x] (by simp) (by intro z; simp [fkW]); simp at this
  obtain ⟨rfl, rfl⟩ := hc0
  have G6 : Hid (StW w w9.heap.size l 1 Y6 [(a, x)] v6) := G5.out.put g6 f6
  clear y6 f6 g6 hc G5
  go_wp2_with fail
  refine (wisClear G6.out.rel G6.out.far (by simp) HI.out).mono ?_
  rintro e v7 ⟨Y7, D, d1, d2, rfl, y7, f7, g7⟩
  obtain rfl : D = [foldL x] := up_one d1 fun z => by rw [d2]; simp [fkW]
  have hU7 : ([(a, x)] : List WEnt).filter (fun u => decide (u.1 ≠ a)) = [] := by simp
  rw [hU7] at g7
  have G7 : Hid (StW w w9.heap.size l 1 Y7 [] v7) := G6.out.put g7 f7
  clear y7 f7 g7 d1 d2 G6
  simp only [List.length_singleton]
  go_wp2_with fail
  refine (wisAdd G7.out.rel G7.out.far (by simp) HI.out hy).mono ?_
  rintro e v8 ⟨Y8, c, U', rfl, y8, f8, g8, hc⟩
  have hc0 : U' = [(a, y)] ∧ c = 0 := by
    rcases hc with ⟨_, ⟨_, h⟩ | ⟨_, _, h⟩⟩ | ⟨h1, h2, _, _⟩
    · simp at h
    · have := h [] List.Pairwise.nil (by simp); simp at this
    · exact ⟨h1, h2⟩
  obtain ⟨rfl, rfl⟩ := hc0
  have G8 : Hid (StW w w9.heap.size l 1 Y8 [(a, y)] v8) := G7.out.put g8 f8
  clear y8 f8 g8 hc G7
  go_wp2_with fail
  refine (wisHas G8.out.rel (by simp) HI.out hx).mono ?_
  rintro e v9 ⟨rfl, b11⟩
  have hf : decide ((a, foldL x) ∈ ([(a, y)] : List WEnt).map fkW) = false := decide_eq_false fun h => by
    simp only [List.map_cons, List.map_nil, List.mem_singleton, fkW, Prod.mk.injEq, true_and] at h
    exact HNE.out h
  rw [hf]
  have B11 : Hid (Below w.heap.size w v9) := G8.out.below.trans (b11.mono G8.out.below.size)
  clear b11 G8
  go_wp2_with fail
  go_ret
  exact ⟨rfl, B11.out⟩
end Go.Proofs.YtnoeblnljfnecaaGreatDoor
end
section
/- Layer 21: WishAsks, walked. -/
namespace Go.Proofs.YtnoeblnljfnecaaGreatDoor
set_option linter.unusedVariables false
set_option linter.unusedSimpArgs false
open Go Go.RowKit Go.Lib Go.Shelf

theorem namesM_len {ps : List (List UInt8)} (h : ∀ p ∈ ps, p.length ≤ 1000) : (namesM ps).length ≤ 100000 := by
  rcases ps with _ | ⟨p, _ | ⟨q, r⟩⟩
  · exact Nat.zero_le _
  · exact Nat.zero_le _
  · show (if p = [43] ∨ p = [45] then nicksV q else []).length ≤ 100000
    split
    · have h1 := List.length_filter_le nickB (splitC 44 q)
      have h2 := splitC_len 44 q
      have h3 := h q (by simp)
      unfold nicksV
      omega
    · simp
theorem watchA_len (ps : List (List UInt8)) : (watchA ps).length ≤ ps.length + 1 := by
  unfold watchA
  split
  · simp
  · have := watchV_len ps; omega

end Go.Proofs.YtnoeblnljfnecaaGreatDoor
end
