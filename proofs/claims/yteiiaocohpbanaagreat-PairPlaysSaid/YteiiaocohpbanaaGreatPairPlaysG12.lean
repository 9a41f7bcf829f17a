/- Texts of this proof, one behind the other. -/
import Derived.Test.YteiiaocohpbanaaGreatPairPlaysG11
import Derived.Test.YteiiaocohpbanaaGreatPairPlaysG8
import Derived.Test.YteiiaocohpbanaaGreatPairPlaysG7
import Derived.Shelf.RegionOpenPlain
import Derived.Below
import Derived.ChangeSame
section
/- Layer 11: PairPlays, whatever is given; PairBoth. -/
namespace Go.Proofs.YteiiaocohpbanaaGreat
set_option linter.unusedVariables false
set_option linter.unusedSimpArgs false
open Go Go.RowKit Go.Maps Go.Sort Go.Shelf Go.Lib

set_option maxRecDepth 100000 in
set_option maxHeartbeats 8000000 in
theorem pairPlays_walk (most : Int) (A : Option Addr) (l : List zprT) (cc : Nat) (w : World) (hA : ActPR w A l) :
    Calls Tryz.prog 3 #[.int .i64 most, .slice A l.length cc] w fun e w' => e = .returned (.bool true) ∧ RowKit.Below w.heap.size w w' := by
  cases hg : greatPR l with
  | false => exact pairPlays_main most A l cc w hg hA
  | true =>
    have HA := Lib.hid hA
    have HG := Lib.hid hg
    clear hA hg
    go_enter Tryz.func3, Tryz.ntmps3
    go_wp2_with fail
    refine (awake11 w).mono ?_
    rintro e w1 ⟨rfl, b1⟩
    have B1 := Lib.hid b1
    clear b1
    go_wp2_with fail
    refine (great11 HA.out w1 B1.out).mono ?_
    rintro e w2 ⟨rfl, rfl⟩
    rw [HG.out]
    go_wp2_with fail
    go_ret
    exact ⟨rfl, B1.out⟩
theorem wf8p {a : Int} (h : (Lit.int .u8 a).wf = true) : 0 ≤ a ∧ a ≤ 255 := by
  simp only [Lit.wf, IntKind.has, Bool.and_eq_true, decide_eq_true_eq] at h
  exact ⟨h.1, h.2⟩
/-- nobody has more than may be -/
def FewP (most : Int) (L : List PairT) : Prop := ∀ a, ∀ xs : List (List UInt8), xs.Nodup → (∀ x ∈ xs, (a, x) ∈ L) → (xs.length : Int) ≤ most
theorem few_less {most : Int} {L : List PairT} (h : FewP most L) (a : Int) (b : List UInt8) : FewP most (lessLIS L a b) := fun c xs h1 h2 => h c xs h1 fun x hx => (lessMemIS.1 (h2 x hx)).1
theorem few_add {most : Int} {L : List PairT} (h : FewP most L) {a : Int} {b : List UInt8} (D : List (List UInt8)) (hm : ∀ x, x ∈ D ↔ (a, x) ∈ L) (hl : (D.length : Int) < most) : FewP most (L ++ [(a, b)]) := fun c xs h1 h2 => by
  by_cases e : c = a
  · subst e
    have h3 := nodup_len (A := xs.erase b) (B := D) (h1.erase b) fun x hx => by
      obtain ⟨h4, h5⟩ := (List.Nodup.mem_erase_iff h1).1 hx
      rcases List.mem_append.1 (h2 x h5) with e | e
      · exact (hm x).2 e
      · rw [List.mem_singleton] at e
        exact absurd (Prod.mk.inj e).2 h4
    have h4 : xs.length ≤ (xs.erase b).length + 1 := by
      by_cases hb : b ∈ xs
      · rw [List.length_erase_of_mem hb]; omega
      · rw [List.erase_of_not_mem hb]; omega
    omega
  · refine h c xs h1 fun x hx => ?_
    rcases List.mem_append.1 (h2 x hx) with e2 | e2
    · exact e2
    · rw [List.mem_singleton] at e2
      exact absurd (Prod.mk.inj e2).1 e
/-- a relation that nobody fills beyond what may be -/
structure FillB (w : World) (t : Nat) (most : Int) (X : Nat → Prop) (L : List PairT) (W : World) : Prop where
  below : RowKit.Below w.heap.size w W
  rel : RelAtIS w.heap.size W t X most L
  ok : ∀ p ∈ L, OkKSI p.2
  few : FewP most L
theorem FillB.put {w : World} {t : Nat} {most : Int} {X X' : Nat → Prop} {L L' : List PairT} {W W' : World} (h : FillB w t most X L W) (hr : RelAtIS w.heap.size W' t X' most L') (hf : Fr X W W') (hok : ∀ p ∈ L', OkKSI p.2) (hfew : FewP most L') : FillB w t most X' L' W' :=
  ⟨h.below.trans (hf.below h.below.size fun j _ e => (h.rel.lt e).1), hr, hok, hfew⟩
theorem FillB.rest {w : World} {t : Nat} {most : Int} {X : Nat → Prop} {L : List PairT} {W W' : World} (h : FillB w t most X L W) (hf : Fr (fun _ => False) W W') : FillB w t most X L W' :=
  ⟨h.below.trans (hf.below h.below.size fun j _ e => e.elim), h.rel.fr hf fun _ _ e => e, h.ok, h.few⟩
set_option maxRecDepth 100000 in
set_option maxHeartbeats 16000000 in
theorem pairBoth_walk (most : Int) (hm : 0 ≤ most ∧ most ≤ 255) (A : Option Addr) (l : List zprT) (cc : Nat) (a : Int) (ha : (Lit.int .i64 a).wf = true) (b : ByteArray) (w : World) (hA : ActPR w A l) :
    Calls Tryz.prog 4 #[.int .u8 most, .slice A l.length cc, .int .i64 a, .string b] w fun e w' => e = .returned (.bool true) ∧ RowKit.Below w.heap.size w w' := by
  have mixed : (Tryz.prog).follows Departure.mixedOrders = true := by kernel_rfl
  obtain ⟨bl, rfl⟩ : ∃ bl, b = bs bl := ⟨b.data.toList, rfl⟩
  have HA := Lib.hid hA
  have HGr : Hid (∀ W, RowKit.Below w.heap.size w W → Calls Tryz.prog 7 #[.slice A l.length cc] W fun e w' => e = .returned (.bool (greatPR l)) ∧ w' = W) := fun W hW => great11 hA W hW
  obtain ⟨gg, hgg⟩ : ∃ g, greatPR l = g := ⟨_, rfl⟩
  rw [hgg] at HGr
  have HGG := Lib.hid hgg
  clear hA hgg
  go_enter Tryz.func4, Tryz.ntmps4
  go_wp2_with fail
  refine (awake11 w).mono ?_
  rintro e w1 ⟨rfl, b1⟩
  have B1 := Lib.hid b1
  clear b1
  go_wp2_with fail
  refine (HGr.out w1 B1.out).mono ?_
  rintro e w2 ⟨rfl, rfl⟩
  cases gg with
  | true =>
    go_wp2_with fail
    go_ret
    exact ⟨rfl, B1.out⟩
  | false =>
  by_cases h20 : (20 : Int) < ((bs bl).size : Int)
  · have q1 : decide ((20 : Int) < ((bs bl).size : Int)) = true := by simp at h20 ⊢; omega
    have h20' : (20 : Int) < (bl.length : Int) := by simpa using h20
    go_wp2_with fail
    go_ret
    exact ⟨rfl, B1.out⟩
  have h20' : ¬ (20 : Int) < (bl.length : Int) := by simpa using h20
  have hl : l.length ≤ 40 ∧ ∀ x ∈ l, x.2.2.size ≤ 20 := by
    have hg := HGG.out
    unfold greatPR at hg
    simp only [Bool.or_eq_false_iff, decide_eq_false_iff_not, List.any_eq_false, decide_eq_true_eq] at hg
    exact ⟨by omega, fun x hx => by have := hg.2 x hx; omega⟩
  have HLL := Lib.hid hl.2
  replace hl := hl.1
  have HOK : Hid (OkKIS a ∧ OkKSI bl) := ⟨ha, by unfold OkKSI maxLen; omega⟩
  have hq5 : (20 : Int) ≥ (bl.length : Int) := by omega
  clear ha
  go_wp2_with fail
  refine (relNewIS (most := most) (by omega) _).mono ?_
  rintro e W1 ⟨t, X1, rfl, h1, x1, b1⟩
  have hz : w.heap.size ≤ w2.heap.size := B1.out.size
  have H0 : Hid (FillB w t most X1 [] W1) := by
    refine ⟨B1.out.trans (b1.mono hz), ?_, fun p hp => (by cases hp), fun c xs h1 h2 => ?_⟩
    · obtain ⟨b1', b2', T1, T2, hst, hx⟩ := h1
      refine ⟨b1', b2', T1, T2, ⟨Nat.le_trans hz hst.le, hst.blk, ?_, ?_, hst.n1, hst.n2, hst.ap, hst.t1, hst.t2, hst.h1, hst.h2, hst.nd⟩, hx⟩
      · exact mapSt_baseIS hst.m1 hz
      · exact mapSt_baseSI hst.m2 hz
    · have : xs = [] := List.eq_nil_iff_forall_not_mem.2 fun x hx => by have := h2 x hx; cases this
      subst this; simp; omega
  clear h1 x1 b1
  go_wp2_with fail
  go_loopw [11] (fun i wr => ∃ (j : Nat), i = .int .i64 j ∧ j ≤ l.length ∧ Hid (∃ X L, L.length ≤ j ∧ FillB w t most X L wr)) (fun i _ => l.length - (RowKit.intOf i).toNat)
  case atStart => exact ⟨0, rfl, Nat.zero_le _, X1, [], Nat.le_refl _, H0.out⟩
  case round =>
    obtain ⟨j, rfl, hj, HP0⟩ := hrel
    clear H0
    obtain ⟨X, L, hLj, hP⟩ := HP0.out
    have HP := Lib.hid (And.intro hLj hP)
    clear HP0 hP hLj
    by_cases hlt : j < l.length
    · obtain ⟨g, o, rfl, hat⟩ := actPR_at HA.out (by omega)
      obtain ⟨c1, c2, c3⟩ := hat wr HP.out.2.below j hlt
      have p0 : (j : Int) < (l.length : Int) := by omega
      have r0 : (0 : Int) ≤ (j : Int) := by omega
      obtain ⟨⟨kd, ac, sc⟩, hlj⟩ : ∃ p, l[j] = p := ⟨_, rfl⟩
      rw [hlj] at c1 c2 c3
      have hzg := HA.out.1 _ (List.getElem_mem hlt)
      have hzs := HLL.out _ (List.getElem_mem hlt)
      rw [hlj] at hzg hzs
      clear hat hlj
      dsimp only at c1 c2 c3 hzs
      obtain ⟨bc, rfl⟩ : ∃ bc, sc = bs bc := ⟨sc.data.toList, rfl⟩
      have hokA : OkKIS ac := hzg.2.1
      have hokB : OkKSI bc := by unfold OkKSI maxLen; simp at hzs; omega
      have hPD := HP.out.2.rest ((Fr.refl (fun _ => False) wr).drew)
      have hLl : L.length ≤ 40 := by have := HP.out.1; omega
      by_cases hk1 : kd = 1
      · subst hk1
        have HS := Lib.hid (relRemIS hPD.rel hPD.below.size (by omega) hokA hokB)
        have HPD := Lib.hid hPD
        clear hPD hzg hzs hokA hokB
        go_wp2_with fail
        go_region_with_o (refine HS.out.mono ?_; rintro e w5 ⟨rfl, X5, x5, f5, h5⟩; have HN : Hid (∃ X L, L.length ≤ j + 1 ∧ FillB w t most X L w5) := ⟨X5, _, Nat.le_trans (List.length_filter_le _ _) (by have := HP.out.1; omega), HPD.out.put h5 f5 (fun p hp => HPD.out.ok p (lessMemIS.1 hp).1) (few_less HPD.out.few ac bc)⟩; clear x5 f5 h5)
        all_goals
          go_wp2_with fail
          go_roundw
          case rel => exact ⟨j + 1, by go_num, by omega, HN⟩
          case measure => simp [RowKit.intOf]; omega
      · have k1 : (kd == 1) = false := by simpa using hk1
        have HS := Lib.hid (relAddIS hPD.rel hPD.below.size (by omega) hokA hokB)
        obtain ⟨D, d1, d2, _, _⟩ := ofAtIS hPD.rel (by omega) hokA
        have HPD := Lib.hid (And.intro hPD (And.intro d1 (And.intro d2 hokB)))
        clear hPD hzg hzs hokA hokB d1 d2
        have HAny : Hid (∀ e w5, AddRIS w.heap.size t X most L ac bc wr.drew e w5 → ∃ c, e = .returned (.int .i64 c) ∧ Hid (∃ X L, L.length ≤ j + 1 ∧ FillB w t most X L w5)) := fun e w5 hA5 => by
          obtain ⟨X5, c5, L5, rfl, x5, f5, h5, q5⟩ := hA5.any
          refine ⟨c5, rfl, X5, L5, ?_, HPD.out.1.put h5 f5 (fun p hp => ?_) ?_⟩
          · rcases q5 with ⟨rfl, _⟩ | ⟨rfl, _⟩
            · have := HP.out.1; omega
            · rw [List.length_append, List.length_singleton]; have := HP.out.1; omega
          · rcases q5 with ⟨rfl, _⟩ | ⟨rfl, _⟩
            · exact HPD.out.1.ok p hp
            · rcases List.mem_append.1 hp with e | e
              · exact HPD.out.1.ok p e
              · rw [List.mem_singleton.1 e]; exact HPD.out.2.2.2
          · rcases q5 with ⟨rfl, _⟩ | ⟨rfl, _, _, q6⟩
            · exact HPD.out.1.few
            · exact few_add HPD.out.1.few D HPD.out.2.2.1 (q6 D HPD.out.2.1 HPD.out.2.2.1)
        go_wp2_with fail
        go_region_with_o (refine HS.out.mono ?_; intro e w5 hA5; obtain ⟨c5, rfl, HN⟩ := HAny.out e w5 hA5; clear hA5)
        all_goals
          go_wp2_with fail
          go_roundw
          case rel => exact ⟨j + 1, by go_num, by omega, HN⟩
          case measure => simp [RowKit.intOf]; omega
    · obtain rfl : j = l.length := by omega
      have p1 : ¬ ((l.length : Int) < (l.length : Int)) := by omega
      have hP := HP.out.2
      have hLl : L.length ≤ 40 := by have := HP.out.1; omega
      obtain ⟨D, d1, d2, d3, d4⟩ := ofAtIS hP.rel (by omega) HOK.out.1
      obtain ⟨E, e1, e2, e3, e4⟩ := byAtIS hP.rel (by omega) HOK.out.2
      have HR := Lib.hid (rights11 d4 (by omega) 99 (by omega) (by omega))
      have HLf : Hid (∀ W, Fr (fun _ => False) wr W → Calls Tryz.prog 15 #[.pointer (some ⟨t, 0, none⟩), .string (bs bl), .int .i64 99] W (Told11L E W)) := fun W hW => lefts11 (fun V hV => e4 V (hW.trans hV)) (by omega) 99 (by omega) (by omega)
      have HPP := Lib.hid hP
      have HD := Lib.hid (And.intro d1 (And.intro d2 (And.intro d3 (And.intro e1 (And.intro e2 (And.intro e3 (And.intro (drop_count hP.rel.nodup (OfIs.mk d1 d2)) (hP.few a D (up_nodupS d1) fun x hx => (d2 x).1 hx))))))))
      clear hP d1 d2 d3 d4 e1 e2 e3 e4 HP HA
      go_wp2_with fail
      refine HR.out.mono ?_
      rintro e w5 ⟨⟨v5, rfl, o5⟩, b5⟩
      obtain ⟨A5, c5, rfl⟩ := row_slice o5
      have f5 : Fr (fun _ => False) wr w5 := Fr.of_below b5
      have F5 := Lib.hid (And.intro f5 o5)
      clear f5 o5 b5
      go_wp2_with fail
      refine (HLf.out w5 F5.out.1).mono ?_
      rintro e w6 ⟨⟨v6, rfl, o6⟩, b6⟩
      obtain ⟨A6, c6, rfl⟩ := row_slice o6
      have f6 : Fr (fun _ => False) wr w6 := F5.out.1.trans (Fr.of_below b6)
      have hr5 : ReadsT w6 A5 D := (reads_ownT F5.out.2).below b6
      have hr6 : ReadsI w6 A6 E := reads_ownI o6
      have F6 := Lib.hid (And.intro f6 (And.intro hr5 hr6))
      clear f6 o6 b6 hr5 hr6
      have hDl : D.length ≤ 40 := by have := HD.out.2.2.1; omega
      have hEl : E.length ≤ 40 := by have := HD.out.2.2.2.2.2.1; omega
      have HPV : Hid (∀ V, Fr (fun _ => False) w6 V → FillB w t most X L V) := fun V hV => HPP.out.rest (F6.out.1.trans hV)
      have HDr : Hid (∀ V, Fr (fun _ => False) w6 V → Calls Tryz.prog 11 #[.pointer (some ⟨t, 0, none⟩), .int .i64 a] V (DropR w.heap.size t X most L a V)) := fun V hV => relDrop (HPV.out V hV).rel (HPV.out V hV).below.size (by omega) HOK.out.1 (HPV.out V hV).ok
      go_wp2_with fail
      go_loopw [16, 17] (fun f i V => ∃ (k : Nat), i = .int .i64 k ∧ k ≤ D.length ∧ V = w6 ∧ f = .bool ((D.take k).contains bl)) (fun _ i _ => D.length - (RowKit.intOf i).toNat)
      case atStart => exact ⟨0, rfl, Nat.zero_le _, rfl, by simp⟩
      case round =>
        obtain ⟨k, rfl, hk, rfl, rfl⟩ := hrel
        by_cases hkl : k < D.length
        · obtain ⟨g5, o5, rfl, hg5, hcell⟩ := F6.out.2.1 (by omega)
          have u1 := hcell k hkl
          obtain ⟨x, hx⟩ : ∃ x, D[k] = x := ⟨_, rfl⟩
          rw [hx] at u1
          have hnx : (D.take (k + 1)).contains bl = ((D.take k).contains bl || (x == bl)) := by
            rw [List.take_succ_eq_append_getElem hkl, hx]
            rw [Bool.eq_iff_iff, List.contains_iff_mem, Bool.or_eq_true, List.contains_iff_mem, beq_iff_eq, List.mem_append, List.mem_singleton]
            constructor
            · rintro (h | h); exact .inl h; exact .inr h.symm
            · rintro (h | h); exact .inl h; exact .inr h.symm
          have hbq : ((bs x).toList == (bs bl).toList) = (x == bl) := beq_bs _ _
          have n1 : (k : Int) < (D.length : Int) := by omega
          have n0 : (0 : Int) ≤ (k : Int) := by omega
          have HNX := Lib.hid hnx
          obtain ⟨f, hf⟩ : ∃ f, (D.take k).contains bl = f := ⟨_, rfl⟩
          rw [hf] at HNX ⊢
          obtain ⟨d, hd⟩ : ∃ d, (x == bl) = d := ⟨_, rfl⟩
          rw [hd] at HNX hbq
          clear hcell hg5 hx hnx hf hd
          cases f with
          | true =>
            go_wp2_with fail
            go_roundw
            case rel => exact ⟨k + 1, by go_num, by omega, by first | rfl | trivial, by rw [HNX.out]; simp⟩
            case measure => simp [RowKit.intOf]; omega
          | false =>
            go_wp2_with fail
            go_roundw
            case rel => exact ⟨k + 1, by go_num, by omega, by first | rfl | trivial, by rw [HNX.out]; simp⟩
            case measure => simp [RowKit.intOf]; omega
        · obtain rfl : k = D.length := by omega
          have n1 : ¬ (D.length : Int) < (D.length : Int) := by omega
          have hin : (D.take D.length).contains bl = decide ((a, bl) ∈ L) := by
            rw [List.take_length, Bool.eq_iff_iff, List.contains_iff_mem, decide_eq_true_eq]; exact HD.out.2.1 bl
          have hin2 : E.contains a = decide ((a, bl) ∈ L) := by
            rw [Bool.eq_iff_iff, List.contains_iff_mem, decide_eq_true_eq]; exact HD.out.2.2.2.2.1 a
          obtain ⟨d, hd⟩ : ∃ d, decide ((a, bl) ∈ L) = d := ⟨_, rfl⟩
          rw [hd] at hin hin2
          rw [hin]
          have hP6 := HPV.out _ (Fr.refl _ _)
          have HLen := Lib.hid (lenAtIS hP6.rel)
          have hh10 := has10 A6 E c6 a (by omega) F6.out.2.2
          rw [hin2] at hh10
          have HH10 := Lib.hid hh10
          have hhas := hasAtIS hP6.rel (by omega) HOK.out.1 bl
          rw [hd] at hhas
          have HHas := Lib.hid hhas
          obtain ⟨n, hn⟩ : ∃ n, L.length = n := ⟨_, rfl⟩
          rw [hn] at HLen
          have hnl : n ≤ 40 := by omega
          have hmD : (D.length : Int) ≤ most := HD.out.2.2.2.2.2.2.2
          have hnD : D.length ≤ n := by rw [← hn]; exact HD.out.2.2.1
          have HN := Lib.hid hn
          clear hin hin2 hd hh10 hhas hP6 hn hk hkl n1
          go_wp2_with fail
          refine HLen.out.mono ?_
          rintro e w7 ⟨rfl, rfl⟩
          go_wp2_with fail
          refine HH10.out.mono ?_
          rintro e w8 ⟨rfl, rfl⟩
          go_wp2_with fail
          refine HHas.out.mono ?_
          rintro e w9 ⟨rfl, q, rfl⟩
          go_wp2_with fail
          refine (HDr.out _ ((Fr.refl _ _).drewN q)).mono ?_
          rintro e w10 ⟨X9, D9, y1, y2, rfl, x9, f9, h9⟩
          obtain rfl : D9 = D := up_extS y1 HD.out.1 fun x => (y2 x).trans (HD.out.2.1 x).symm
          have HLen2 := Lib.hid (lenAtIS h9)
          have hl9 : ((L.filter fun p => decide (p.1 ≠ a)).length : Int) = (n : Int) - D9.length := by have := HD.out.2.2.2.2.2.2.1; rw [HN.out] at this; omega
          rw [hl9] at HLen2
          have HCnt := Lib.hid (countAtIS h9 HOK.out.1 (xs := []) List.Pairwise.nil fun b => by
            rw [List.mem_filter]; simp)
          have HB := Lib.hid ((HPV.out _ ((Fr.refl _ _).drewN q)).below.trans (f9.below (HPV.out _ ((Fr.refl _ _).drewN q)).below.size fun k _ e => (HPP.out.rel.lt e).1))
          clear y1 y2 x9 f9 h9 hl9
          go_wp2_with fail
          refine HLen2.out.mono ?_
          rintro e w11 ⟨rfl, rfl⟩
          go_wp2_with fail
          refine HCnt.out.mono ?_
          rintro e w12 ⟨rfl, rfl⟩
          go_wp2_with fail
          go_ret
          exact ⟨by simp, HB.out⟩
end Go.Proofs.YteiiaocohpbanaaGreat
end
section
/- A law's last step where the call has made memory of its own, of whatever sort: what lay before lies as it lay, so each argument reads as it read. -/
namespace Go.Proofs.YteiiaocohpbanaaGreat
open Go Go.RowKit Go.WideShapes Go.ChangeShapes

theorem post_below {H : Type} {enc : TypeId × Value → H} {P : Program} {f : Func} {s : ChangeSpec} {apart fresh handsOn again : Bool} {W W' : World} {args : Array Value} {v : Value} {ds gs : List (DataW H)} {all pa pv : List MemPlace}
    (hW : DataW.Whole enc P f.params.toList s.vars apart W args.toList ds gs all)
    (hr : ∀ (b : Nat) (sp : Nat → Bool) (hd : Bool), DataW.TrodAll enc P W' b sp hd f.resultTypes.toList (v.resultList f.resultTypes.size) (s.fn H (ds ++ gs)).results [])
    (ha : ∀ sp : Nat → Bool, (∀ p ∈ all, sp p.block = true) → DataW.TrodAll enc P W' 0 sp true f.params.toList args.toList (s.fn H (ds ++ gs)).args pa)
    (hv : ∀ sp : Nat → Bool, (∀ p ∈ all, sp p.block = true) → DataW.TrodVars enc P W' sp s.vars (s.fn H (ds ++ gs)).vars pv)
    (hpl : all = pa ++ pv) (hB : Below W.heap.size W W')
    (hok : ∀ (j : Nat) (t : TypeId) (r : Value), f.resultTypes[j]? = some t → (v.resultList f.resultTypes.size)[j]? = some r → Value.okWide P W' .any 0 t r) :
    s.post enc P f apart fresh handsOn again W args v W' := by
  have low : ∀ p ∈ all, p.block < W.heap.size := fun p hp => hW.lt p hp
  refine ⟨ds, gs, all, [], pa, pv, hW, hr _ _ _, ha (fun b => decide (b < W.heap.size)) fun p hp => by simpa using low p hp, hv (fun b => decide (b < W.heap.size)) fun p hp => by simpa using low p hp,
    World.keptBut_mono (fun p hp => ⟨hp, .inr (by rw [hpl, List.mem_append] at hp; exact hp)⟩) (hB.frame (· ∈ all)), fun _ => ?_⟩
  obtain ⟨_, _, _, _, _, hfrozen, hapart⟩ := hW
  have same : ∀ p : MemPlace, p ∈ ([] ++ pa) ++ pv → p ∈ all := fun p hp => by rw [hpl]; simpa using hp
  refine ⟨hok, _, _, ([] ++ pa) ++ pv, ⟨[] ++ pa, pv, trodAll_append (ha _ fun _ _ => rfl) (hr _ _ _), hv _ fun _ _ => rfl, rfl, fun b off hp => ?_, fun h => ?_⟩, fun p hp _ => ?_⟩
  · rw [hB.frozen (low _ (same _ hp))]
    exact hfrozen b off (same _ hp)
  · have := hapart h
    rw [hpl] at this
    simpa using this
  · rw [hpl]
    simpa using hp
end Go.Proofs.YteiiaocohpbanaaGreat
end
