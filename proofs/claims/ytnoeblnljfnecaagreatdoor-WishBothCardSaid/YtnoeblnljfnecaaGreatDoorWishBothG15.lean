/- Texts of this proof, one behind the other. -/
import Derived.Test.YtnoeblnljfnecaaGreatDoorWishBothG14
import Derived.Test.YtnoeblnljfnecaaGreatDoorWishBothG12
import Derived.Test.YtnoeblnljfnecaaGreatDoorWishBothG8
import Derived.Below
import Derived.Carry
import Derived.Deep.Strs
import Derived.ChangeSame
import Derived.DataReads
import Derived.ProofKit
import Derived.OpenShut
import Derived.Test.YtnoeblnljfnecaaGreatDoorWishBothG1
import Derived.Test.YtnoeblnljfnecaaGreatDoorChecked
import Derived.Test.YtnoeblnljfnecaaGreatDoorWishBothG11
import Derived.Test.YtnoeblnljfnecaaGreatDoorWishBothG4
section
/- Layer 18: rows of changes and of texts, nil let in; Parse, Same, Texts of such rows; great. -/
namespace Go.Proofs.YtnoeblnljfnecaaGreatDoor
set_option linter.unusedVariables false
set_option linter.unusedSimpArgs false
open Go.RowKit Go.Shelf

/-- changes lie at an address, if there are any -/
def RowC (W : World) (A : Option Addr) (l : List Chg) : Prop :=
  0 < l.length → ∃ g o, A = some ⟨g, o, none⟩ ∧ ∀ i (h : i < l.length), W.cell? ⟨g, o + i * 3, none⟩ = some (.bool l[i].1) ∧ W.cell? ⟨g, o + i * 3 + 1, none⟩ = some (.int .u8 l[i].2.1.toNat) ∧ W.cell? ⟨g, o + i * 3 + 2, none⟩ = some (.string l[i].2.2)
/-- texts lie at an address, if there are any -/
def RowT (W : World) (A : Option Addr) (l : List ByteArray) : Prop :=
  0 < l.length → ∃ g o, A = some ⟨g, o, none⟩ ∧ ∀ i (h : i < l.length), W.cell? ⟨g, o + i, none⟩ = some (.string l[i])
theorem lt_of_cell {W : World} {g o : Nat} {v : Value} (h : W.cell? ⟨g, o, none⟩ = some v) : g < W.heap.size := by
  unfold World.cell? at h
  cases hb : W.heap[g]? with
  | none => simp [hb] at h
  | some x => exact (Array.getElem?_eq_some_iff.1 hb).1
theorem RowC.kept {W W' : World} {A : Option Addr} {l : List Chg} (h : RowC W A l) (hb : Below W.heap.size W W') : RowC W' A l := fun hl => by
  obtain ⟨g, o, rfl, hc⟩ := h hl
  have hg := lt_of_cell (hc 0 hl).1
  exact ⟨g, o, rfl, fun i hi => by
    rw [hb.cell (p := ⟨g, _, none⟩) hg, hb.cell (p := ⟨g, _, none⟩) hg, hb.cell (p := ⟨g, _, none⟩) hg]
    exact hc i hi⟩
theorem RowT.kept {W W' : World} {A : Option Addr} {l : List ByteArray} (h : RowT W A l) (hb : Below W.heap.size W W') : RowT W' A l := fun hl => by
  obtain ⟨g, o, rfl, hc⟩ := h hl
  have hg := lt_of_cell (hc 0 hl)
  exact ⟨g, o, rfl, fun i hi => by rw [hb.cell (p := ⟨g, _, none⟩) hg]; exact hc i hi⟩
theorem chL_len (l : List Chg) : (chL l).length = l.length * 3 := by
  induction l with
  | nil => rfl
  | cons x r ih =>
    have : chL (x :: r) = [.bool x.1, .int .u8 x.2.1.toNat, .string x.2.2] ++ chL r := by simp [chL]
    rw [this, List.length_append, ih]; simp; omega
theorem chL_get (l : List Chg) : ∀ i (h : i < l.length), (chL l)[i * 3]? = some (.bool l[i].1) ∧ (chL l)[i * 3 + 1]? = some (.int .u8 l[i].2.1.toNat) ∧ (chL l)[i * 3 + 2]? = some (.string l[i].2.2) := by
  induction l with
  | nil => intro i h; simp at h
  | cons x r ih =>
    intro i h
    have e : chL (x :: r) = .bool x.1 :: .int .u8 x.2.1.toNat :: .string x.2.2 :: chL r := by simp [chL]
    cases i with
    | zero => rw [e]; exact ⟨rfl, rfl, rfl⟩
    | succ k =>
      have := ih k (by simpa using h)
      rw [e, show (k + 1) * 3 = k * 3 + 3 by omega]
      exact this

theorem RowT.owned {W : World} {base : Nat} {v : Value} {l : List ByteArray} (h : W.ownsRow base 9 1 v l.length (l.map .string)) : ∃ A c, v = .slice A l.length c ∧ l.length ≤ c ∧ RowT W A l := by
  have h0 := h
  rcases h.2 with ⟨rfl, hn⟩ | ⟨g, cap, cur, rfl, _, _, hc, _⟩
  · exact ⟨none, 0, by rw [hn], by omega, fun hl => by omega⟩
  · refine ⟨_, cap, rfl, hc, fun hl => ⟨g, 0, rfl, fun i hi => ?_⟩⟩
    rw [Nat.zero_add, h0.cellAt _ (by omega)]
    simp [hi]



def ParsedTo (w : World) (ps : List ByteArray) (e : Ending) (w' : World) : Prop := ∃ A c, e = .returned (.slice A (parseM ps).length c) ∧ (parseM ps).length ≤ c ∧ RowC w' A (parseM ps) ∧ Below w.heap.size w w'



/-! Same, Texts -/




set_option maxHeartbeats 4000000 in
theorem texts_any (A B : Option Addr) (a b : List ByteArray) (c1 c2 : Nat) (w : World) (ha1 : a.length ≤ 100000) (h1 : RowT w A a) (h2 : RowT w B b) :
    Calls Tryz.prog 20 #[.slice A a.length c1, .slice B b.length c2] w fun e w' => e = .returned (.bool (decide (a = b))) ∧ ∃ n, w' = w.drewN n := by
  by_cases hl : a.length = b.length
  · have H1 := Lib.hid h1
    have H2 := Lib.hid h2
    have HL := Lib.hid hl
    have hne : ((a.length : Int) != (b.length : Int)) = false := by rw [hl]; simp
    clear h1 h2 hl
    go_enter Tryz.func20, Tryz.ntmps20
    go_wp2_with fail
    go_loopw [5] (fun i wr => ∃ k : Nat, i = .int .i64 k ∧ k ≤ a.length ∧ Hid (a.take k = b.take k ∧ ∃ n, wr = w.drewN n)) (fun i _ => a.length - (Go.RowKit.intOf i).toNat)
    case atStart => exact ⟨0, rfl, Nat.zero_le _, rfl, 0, rfl⟩
    case round =>
      obtain ⟨k, rfl, hk, HQ⟩ := hrel
      by_cases hlt : k < a.length
      · have hlt2 : k < b.length := by have := HL.out; omega
        obtain ⟨g1, o1, rfl, k1⟩ := H1.out (by omega)
        obtain ⟨g2, o2, rfl, k2⟩ := H2.out (by omega)
        have ca : wr.cell? ⟨g1, o1 + k, none⟩ = some (.string a[k]) := by obtain ⟨_, n, hn⟩ := HQ.out; rw [hn]; exact k1 k hlt
        have cb : wr.cell? ⟨g2, o2 + k, none⟩ = some (.string b[k]) := by obtain ⟨_, n, hn⟩ := HQ.out; rw [hn]; exact k2 k hlt2
        obtain ⟨eb, heb⟩ : ∃ x, (a[k].toList == b[k].toList) = x := ⟨_, rfl⟩
        have hnq : (a[k].toList != b[k].toList) = !eb := by rw [← heb]; rfl
        have hnq2 : (!(a[k].toList == b[k].toList)) = !eb := by rw [heb]
        have HE := Lib.hid heb
        clear heb k1 k2
        have p1 : (k : Int) < (a.length : Int) := by omega
        have p2 : (k : Int) < (b.length : Int) := by omega
        cases eb with
        | false =>
          go_wp2_with fail
          go_quiet (fail)
          all_goals go_wp2_with fail
          have hd : decide (a = b) = false := by
            rw [decide_eq_false_iff_not]
            intro e
            have := HE.out
            simp only [e] at this
            simp at this
          obtain ⟨_, n, hn⟩ := HQ.out
          rw [hd]
          subst hn
          go_ret
          exact ⟨rfl, _, by rw [World.drewN_drewN]⟩
        | true =>
          go_wp2_with fail
          go_quiet (fail)
          all_goals go_wp2_with fail
          have h3 : a[k] = b[k] := by
            have := HE.out
            rw [beq_iff_eq, ByteArray.toList_eq, ByteArray.toList_eq] at this
            exact ba_ext this
          have h4 : a.take (k + 1) = b.take (k + 1) := by
            rw [List.take_succ_eq_append_getElem hlt, List.take_succ_eq_append_getElem hlt2, HQ.out.1, h3]
          obtain ⟨_, n, hn⟩ := HQ.out
          exact ⟨⟨k + 1, by go_num, by omega, h4, n + nq, by subst hn; rw [World.drewN_drewN]⟩, by simp [Go.RowKit.intOf]; omega⟩
      · obtain rfl : k = a.length := by omega
        have hab : a = b := by
          have := HQ.out.1
          rw [List.take_of_length_le (Nat.le_refl _), List.take_of_length_le (by have := HL.out; omega)] at this
          exact this
        have hd : decide (a = b) = true := by simp [hab]
        obtain ⟨_, n, hn⟩ := HQ.out
        have p1 : ¬ ((a.length : Int) < (a.length : Int)) := by omega
        subst hn
        have HD := Lib.hid hd
        clear hd hab
        go_wp2_with fail
        go_ret
        exact ⟨ret_bool HD.out.symm, _, rfl⟩
  · have hd : decide (a = b) = false := by rw [decide_eq_false_iff_not]; intro e; exact hl (by rw [e])
    have hne : ((a.length : Int) != (b.length : Int)) = true := by rw [bne_iff_ne]; omega
    rw [hd]
    clear hd hl h1 h2
    go_enter Tryz.func20, Tryz.ntmps20
    go_wp2_with fail
    go_ret
    exact ⟨rfl, 0, rfl⟩

/-- more than is looked at? -/
def greatB (l : List ByteArray) : Bool := decide (20 < l.length) || l.any fun s => decide (60 < s.size)
theorem greatB_no {l : List ByteArray} (h : greatB l = false) : l.length ≤ 20 ∧ ∀ s ∈ l, s.size ≤ 60 := by
  unfold greatB at h
  rw [Bool.or_eq_false_iff] at h
  refine ⟨by simpa using h.1, fun s hs => ?_⟩
  have := List.any_eq_false.1 h.2 s hs
  simpa using this
end Go.Proofs.YtnoeblnljfnecaaGreatDoor
end
section
/- Layer 21: WishAsks. -/
namespace Go.Proofs.YtnoeblnljfnecaaGreatDoor
set_option linter.unusedVariables false
set_option linter.unusedSimpArgs false
open Go Go.RowKit Go.Lib Go.Shelf

theorem texts_is {W : World} {A B : Option Addr} {xs : List (List UInt8)} (c1 c2 : Nat) (hl : xs.length ≤ 100000) (h1 : ReadsT W A xs) (h2 : ReadsT W B xs) :
    Calls Tryz.prog 20 #[.slice A xs.length c1, .slice B xs.length c2] W fun e w' => e = .returned (.bool true) ∧ ∃ n, w' = W.drewN n := by
  have hR : ∀ {A : Option Addr}, ReadsT W A xs → RowT W A (xs.map bs) := fun {A} h h0 => by
    rw [List.length_map] at h0
    obtain ⟨g, o, e, _, hc⟩ := h h0
    refine ⟨g, o, e, fun i hi => ?_⟩
    rw [List.getElem_map]
    exact hc i (by rw [List.length_map] at hi; exact hi)
  have := texts_any A B (xs.map bs) (xs.map bs) c1 c2 W (by rw [List.length_map]; exact hl) (hR h1) (hR h2)
  rw [List.length_map, decide_eq_true rfl] at this
  exact this
theorem nick_is {l : List UInt8} (h : 1 ≤ l.length ∧ l.length ≤ 16) (hall : (l.zipIdx.all fun x => nickAt x.2 x.1) = true) : nickB l = true := by
  refine dec_iff.2 ⟨by rw [bs_size]; exact h, fun i hi => ?_⟩
  rw [bs_size] at hi
  have := List.all_eq_true.1 hall (l[i], i) (by rw [List.mem_zipIdx_iff_getElem?]; exact List.getElem?_eq_getElem hi)
  exact this
theorem nick_not {l : List UInt8} (i : Nat) (h : i < l.length) (hn : nickAt i l[i] = false) : nickB l = false := (dec_no fun hh => by
  have := hh.2 i (by rw [bs_size]; exact h)
  have e : (bs l)[i]'(by rw [bs_size]; exact h) = l[i] := rfl
  rw [e, hn] at this
  cases this).symm
theorem names_awake : namesM [[43], [97, 110, 110, 44, 44, 49, 120, 44, 98, 111, 98]] = [[97, 110, 110], [98, 111, 98]] := by
  rw [names_ops (.inl rfl)]
  unfold nicksV
  rw [show splitC 44 [97, 110, 110, 44, 44, 49, 120, 44, 98, 111, 98] = [[97, 110, 110], [], [49, 120], [98, 111, 98]] by decide +kernel]
  have a1 : nickB [97, 110, 110] = true := nick_is (by decide) (by decide +kernel)
  have a2 : nickB [49, 120] = false := nick_not 0 (by decide) (by decide +kernel)
  have a3 : nickB [98, 111, 98] = true := nick_is (by decide) (by decide +kernel)
  simp [List.filter, a1, a2, a3, nickB_nil]
theorem watch_awake : watchA [[43, 97, 110, 110], [45, 98, 111, 98], [99], [120]] = [(43, [97, 110, 110]), (45, [98, 111, 98]), (67, [])] := by
  have a1 : nickB [97, 110, 110] = true := nick_is (by decide) (by decide +kernel)
  have a3 : nickB [98, 111, 98] = true := nick_is (by decide) (by decide +kernel)
  have w1 : wishV [43, 97, 110, 110] = some (43, [97, 110, 110]) := by unfold wishV; rw [if_neg (by decide +kernel)]; dsimp only; rw [if_pos ⟨.inl rfl, a1⟩]
  have w2 : wishV [45, 98, 111, 98] = some (45, [98, 111, 98]) := by unfold wishV; rw [if_neg (by decide +kernel)]; dsimp only; rw [if_pos ⟨.inr rfl, a3⟩]
  have w3 : wishV [99] = some (67, []) := by unfold wishV; rw [if_pos (by decide +kernel)]; rfl
  have w4 : wishV [120] = none := by unfold wishV; rw [if_neg (by decide +kernel)]; dsimp only; rw [if_neg (by simp)]
  unfold watchA
  rw [if_neg (by simp)]
  unfold watchV
  simp [w1, w2, w3, w4]
set_option maxRecDepth 100000 in
set_option maxHeartbeats 16000000 in
theorem awake21 (w : World) (hR : Rowed w) : Calls Tryz.prog 6 #[] w fun e w' => e = .returned (.bool true) ∧ Below w.heap.size w w' := by
  obtain ⟨w1, hw1⟩ : ∃ w1, w.alloc (.cells #[.string ⟨#[43]⟩, .string ⟨#[97, 110, 110, 44, 44, 49, 120, 44, 98, 111, 98]⟩] 9) = w1 := ⟨_, rfl⟩
  have k1 : w1.heap[w.heap.size]? = some (.cells #[.string ⟨#[43]⟩, .string ⟨#[97, 110, 110, 44, 44, 49, 120, 44, 98, 111, 98]⟩] 9 (0, 0)) := by rw [← hw1]; exact heap_alloc_new w _
  have f1 : Fr (fun _ => False) w w1 := by rw [← hw1]; exact (Fr.refl _ _).alloc _
  have R1 : Rowed w1 := hR.same (f1.block _ hR.lt fun e => e)
  have hm := mon_v (some ⟨w.heap.size, 0, none⟩) 2 [[43], [97, 110, 110, 44, 44, 49, 120, 44, 98, 111, 98]] w1 (by decide) (by intro p hp; simp at hp; rcases hp with rfl | rfl <;> decide) (fun _ => ⟨_, _, rfl, blk_lt k1, fun j hj => by
    have : j = 0 ∨ j = 1 := by simp at hj; omega
    rcases this with rfl | rfl
    · exact blk_cell k1 0
    · exact blk_cell k1 1⟩) R1
  unfold MonP at hm
  rw [names_awake] at hm
  have HM := Lib.hid hm
  have HW := Lib.hid hw1
  have HF := Lib.hid (And.intro f1 R1)
  clear hm hw1 f1 R1 k1
  go_enter Tryz.func6, Tryz.ntmps6
  go_wp2_with fail
  rw [HW.out]
  refine HM.out.mono ?_
  rintro e w2 ⟨⟨A2, c2, rfl, o2⟩, b2⟩
  have hop : ((opM [[43], [97, 110, 110, 44, 44, 49, 120, 44, 98, 111, 98]]).toNat : Int) = 43 := by decide +kernel
  rw [hop]
  clear hop
  have F2 : Hid (Fr (fun _ => False) w w2) := HF.out.1.trans (Fr.of_below b2)
  have O2 := Lib.hid (reads_ownT o2)
  clear o2 b2
  obtain ⟨w3, hw3⟩ : ∃ w3, w2.alloc (.cells #[.string ⟨#[43, 97, 110, 110]⟩, .string ⟨#[45, 98, 111, 98]⟩, .string ⟨#[99]⟩, .string ⟨#[120]⟩] 9) = w3 := ⟨_, rfl⟩
  have k3 : w3.heap[w2.heap.size]? = some (.cells #[.string ⟨#[43, 97, 110, 110]⟩, .string ⟨#[45, 98, 111, 98]⟩, .string ⟨#[99]⟩, .string ⟨#[120]⟩] 9 (0, 0)) := by rw [← hw3]; exact heap_alloc_new w2 _
  have f3 : Fr (fun _ => False) w2 w3 := by rw [← hw3]; exact (Fr.refl _ _).alloc _
  have R3 : Rowed w3 := hR.same ((F2.out.trans f3).block _ hR.lt fun e => e)
  have ht := watch_v (some ⟨w2.heap.size, 0, none⟩) 4 [[43, 97, 110, 110], [45, 98, 111, 98], [99], [120]] w3 (by decide) (by intro p hp; simp at hp; rcases hp with rfl | rfl | rfl | rfl <;> decide) (fun _ => ⟨_, _, rfl, blk_lt k3, fun j hj => by
    have : j = 0 ∨ j = 1 ∨ j = 2 ∨ j = 3 := by simp at hj; omega
    rcases this with rfl | rfl | rfl | rfl
    · exact blk_cell k3 0
    · exact blk_cell k3 1
    · exact blk_cell k3 2
    · exact blk_cell k3 3⟩) R3
  unfold WatP at ht
  rw [watch_awake] at ht
  have HT := Lib.hid ht
  have F3 := Lib.hid (F2.out.trans f3)
  have F23 := Lib.hid f3
  have HW3 := Lib.hid hw3
  clear ht hw3 f3 R3 k3
  go_wp2_with fail
  rw [HW3.out]
  refine HT.out.mono ?_
  rintro e w4 ⟨⟨A4, c4, rfl, o4⟩, b4⟩
  have f4 : Fr (fun _ => False) w3 w4 := Fr.of_below b4
  have hrd := reads_ownW o4
  obtain ⟨w5, hw5⟩ : ∃ w5, w4.alloc (.cells #[.string ⟨#[97, 110, 110]⟩, .string ⟨#[98, 111, 98]⟩] 9) = w5 := ⟨_, rfl⟩
  have k5 : w5.heap[w4.heap.size]? = some (.cells #[.string ⟨#[97, 110, 110]⟩, .string ⟨#[98, 111, 98]⟩] 9 (0, 0)) := by rw [← hw5]; exact heap_alloc_new w4 _
  have f5 : Fr (fun _ => False) w4 w5 := by rw [← hw5]; exact (Fr.refl _ _).alloc _
  have F25 : Fr (fun _ => False) w2 w5 := (F23.out.trans f4).trans f5
  have hr5 : ReadsT w5 A2 [[97, 110, 110], [98, 111, 98]] := fun h0 => by
    obtain ⟨g, o, e, hg, hc⟩ := O2.out h0
    exact ⟨g, o, e, Nat.lt_of_lt_of_le hg F25.size, fun j hj => (F25.cell (p := ⟨g, o + j, none⟩) hg fun e => e).trans (hc j hj)⟩
  have htx := texts_is c2 2 (by decide) hr5 (fun _ => ⟨w4.heap.size, 0, rfl, blk_lt k5, fun j hj => by
    have : j = 0 ∨ j = 1 := by simp at hj; omega
    rcases this with rfl | rfl
    · exact blk_cell k5 0
    · exact blk_cell k5 1⟩)
  obtain ⟨g4, o4', rfl, hg4, hc4⟩ := hrd (by simp)
  have hq : ∀ W, Fr (fun _ => False) w4 W → ∀ j (hj : j < 3), W.cell? ⟨g4, o4' + j * 2, none⟩ = w4.cell? ⟨g4, o4' + j * 2, none⟩ ∧ W.cell? ⟨g4, o4' + j * 2 + 1, none⟩ = w4.cell? ⟨g4, o4' + j * 2 + 1, none⟩ := fun W hf j _ => ⟨hf.cell (p := ⟨g4, o4' + j * 2, none⟩) hg4 fun e => e, hf.cell (p := ⟨g4, o4' + j * 2 + 1, none⟩) hg4 fun e => e⟩
  have HC := Lib.hid (And.intro hq hc4)
  have HX := Lib.hid htx
  have HW5 := Lib.hid hw5
  have FF := Lib.hid (And.intro (F3.out.trans f4) f5)
  clear hw5 k5 f5 F25 hr5 htx hg4 hc4 hq f4 b4 o4 hrd
  go_wp2_with fail
  rw [HW5.out]
  refine HX.out.mono ?_
  rintro e w6 ⟨rfl, nd, rfl⟩
  have f6 : Fr (fun _ => False) w4 (w5.drewN nd) := FF.out.2.drewN nd
  have t0 : (w5.drewN nd).cell? ⟨g4, o4', none⟩ = some (.int .u8 43) := (HC.out.1 _ f6 0 (by decide)).1.trans (HC.out.2 0 (by decide)).1
  have t1 : (w5.drewN nd).cell? ⟨g4, o4' + 1, none⟩ = some (.string ⟨#[97, 110, 110]⟩) := (HC.out.1 _ f6 0 (by decide)).2.trans (HC.out.2 0 (by decide)).2
  have t2 : (w5.drewN nd).cell? ⟨g4, o4' + 2, none⟩ = some (.int .u8 45) := (HC.out.1 _ f6 1 (by decide)).1.trans (HC.out.2 1 (by decide)).1
  have t3 : (w5.drewN nd).cell? ⟨g4, o4' + 2 + 1, none⟩ = some (.string ⟨#[98, 111, 98]⟩) := (HC.out.1 _ f6 1 (by decide)).2.trans (HC.out.2 1 (by decide)).2
  have t4 : (w5.drewN nd).cell? ⟨g4, o4' + 4, none⟩ = some (.int .u8 67) := (HC.out.1 _ f6 2 (by decide)).1.trans (HC.out.2 2 (by decide)).1
  have t5 : (w5.drewN nd).cell? ⟨g4, o4' + 4 + 1, none⟩ = some (.string ⟨#[]⟩) := (HC.out.1 _ f6 2 (by decide)).2.trans (HC.out.2 2 (by decide)).2
  have F6 := Lib.hid f6
  clear f6
  go_wp2_with fail
  go_ret
  exact ⟨rfl, (FF.out.1.trans F6.out).below (Nat.le_refl _) fun _ _ e => e.elim⟩
end Go.Proofs.YtnoeblnljfnecaaGreatDoor
end
section
/- Layer 21: WishNone. -/
namespace Go.Proofs.YtnoeblnljfnecaaGreatDoor
set_option linter.unusedVariables false
set_option linter.unusedSimpArgs false
open Go Go.RowKit Go.Maps Go.Lib Go.Sort Go.Shelf

/-- lists, and all that was as it was -/
structure StW (w : World) (N l : Nat) (most : Int) (Y : Nat → Prop) (U : List WEnt) (V : World) : Prop where
  rel : WisAt N V l Y most U
  below : RowKit.Below w.heap.size w V
  low : w.heap.size ≤ N
  far : N ≤ V.heap.size
theorem StW.put {w : World} {N l : Nat} {most : Int} {Y Y' : Nat → Prop} {U U' : List WEnt} {V V' : World} (h : StW w N l most Y U V) (hr : WisAt N V' l Y' most U') (hf : Fr Y V V') : StW w N l most Y' U' V' :=
  ⟨hr, h.below.trans (hf.below h.below.size fun k _ e => Nat.le_trans h.low (h.rel.lt e).1), h.low, Nat.le_trans h.far hf.size⟩
theorem StW.rest {w : World} {N l : Nat} {most : Int} {Y : Nat → Prop} {U : List WEnt} {V V' : World} (h : StW w N l most Y U V) (hf : Fr (fun _ => False) V V') : StW w N l most Y U V' :=
  ⟨h.rel.fr hf fun _ _ e => e, h.below.trans (hf.below h.below.size fun k _ e => e.elim), h.low, Nat.le_trans h.far hf.size⟩
theorem stW_new {w v v' : World} {l : Nat} {most : Int} {Y : Nat → Prop} (hb : RowKit.Below w.heap.size w v) (h : WisAt v.heap.size v' l Y most []) (hb' : RowKit.Below v.heap.size v v') : StW w v.heap.size l most Y [] v' :=
  ⟨h, hb.trans (hb'.mono hb.size), hb.size, hb'.size⟩
theorem up_one {f : List UInt8} {D : List (List UInt8)} (h1 : D.Pairwise (· < ·)) (h2 : ∀ x, x ∈ D ↔ x = f) : D = [f] := up_extS h1 (by simp) fun x => by rw [h2]; simp
set_option maxRecDepth 100000 in
set_option maxHeartbeats 16000000 in
theorem wishNone_walk (a : Int) (ha : (Lit.int .i64 a).wf = true) (n m : ByteArray) (w : World) (hR : Rowed w) :
    Calls Tryz.prog 4 #[.int .i64 a, .string n, .string m] w fun e w' => e = .returned (.bool true) ∧ RowKit.Below w.heap.size w w' := by
  obtain ⟨x, rfl⟩ : ∃ x, n = bs x := ⟨n.data.toList, rfl⟩
  obtain ⟨y, rfl⟩ : ∃ y, m = bs y := ⟨m.data.toList, rfl⟩
  have HA := Lib.hid (awake21 w hR)
  have HI : Hid (OkKIS a) := ha
  clear ha hR
  go_enter Tryz.func4, Tryz.ntmps4
  go_wp2_with fail
  refine HA.out.mono ?_
  rintro e w1 ⟨rfl, b1⟩
  have B1 := Lib.hid b1
  clear b1
  by_cases h30 : (30 : Int) < (x.length : Int)
  · have q1 : (30 : Int) < ((bs x).size : Int) := by simpa using h30
    go_wp2_with fail
    go_ret
    exact ⟨rfl, B1.out⟩
  have q1 : ¬ (30 : Int) < ((bs x).size : Int) := by simpa using h30
  by_cases h31 : (30 : Int) < (y.length : Int)
  · have q2 : (30 : Int) < ((bs y).size : Int) := by simpa using h31
    go_wp2_with fail
    go_ret
    exact ⟨rfl, B1.out⟩
  have q2 : ¬ (30 : Int) < ((bs y).size : Int) := by simpa using h31
  have hx : x.length ≤ 1000 := by omega
  have hy : y.length ≤ 1000 := by omega
  have HS : Hid (Calls Tryz.prog 24 #[.string (bs x), .string (bs y)] w1 fun e w' => e = .returned (.bool (sameF x y)) ∧ Below w1.heap.size w1 w') := refsame (bs x) (bs y) w1 (by simp; omega) (by simp; omega)
  cases hs : sameF x y with
  | true =>
    rw [hs] at HS
    go_wp2_with fail
    refine HS.out.mono ?_
    rintro e w2 ⟨rfl, b2⟩
    have B2 := Lib.hid b2
    clear b2
    go_wp2_with fail
    go_ret
    exact ⟨rfl, B1.out.trans (B2.out.mono B1.out.size)⟩
  | false =>
  rw [hs] at HS
  have hne : foldL x ≠ foldL y := fun e => by rw [sameF_iff.2 e] at hs; cases hs
  have HNE := Lib.hid hne
  clear hne hs
  go_wp2_with fail
  refine HS.out.mono ?_
  rintro e w2 ⟨rfl, b2⟩
  have B2 : Hid (Below w.heap.size w w2) := B1.out.trans (b2.mono B1.out.size)
  clear b2 B1 HA HS
  go_wp2_with fail
  refine (names21 (a := a) (w := w2) (xs := []) (fun V _ => wisOfNil a V) (by decide)).mono ?_
  rintro e w3 ⟨⟨v3, rfl, o3⟩, b3⟩
  obtain ⟨A3, c3, rfl⟩ := row_slice o3
  have B3 : Hid (Below w.heap.size w w3) := B2.out.trans (b3.mono B2.out.size)
  clear o3 b3 B2
  go_wp2_with fail
  refine (clients21 (a := x) (w := w3) (xs := []) (fun V _ => wisByNil hx V) (by decide)).mono ?_
  rintro e w4 ⟨⟨v4, rfl, o4⟩, b4⟩
  obtain ⟨A4, c4, rfl⟩ := row_slice o4
  have B4 : Hid (Below w.heap.size w w4) := B3.out.trans (b4.mono B3.out.size)
  clear o4 b4 B3
  simp only [List.length_nil]
  go_wp2_with fail
  refine (wisAddNil hx a w4).mono ?_
  rintro e w5 ⟨rfl, b5⟩
  have B5 : Hid (Below w.heap.size w w5) := B4.out.trans (b5.mono B4.out.size)
  clear b5 B4
  go_wp2_with fail
  refine (wisRemNil hx a w5).mono ?_
  rintro e w6 ⟨rfl, b6⟩
  have B6 : Hid (Below w.heap.size w w6) := B5.out.trans (b6.mono B5.out.size)
  clear b6 B5
  go_wp2_with fail
  refine (wisClearNil a w6).mono ?_
  rintro e w7 ⟨rfl, b7⟩
  have B7 : Hid (Below w.heap.size w w7) := B6.out.trans (b7.mono B6.out.size)
  clear b7 B6
  go_wp2_with fail
  refine (wisHasNil hx a w7).mono ?_
  rintro e w8 ⟨rfl, b8⟩
  have B8 : Hid (Below w.heap.size w w8) := B7.out.trans (b8.mono B7.out.size)
  clear b8 B7
  go_wp2_with fail
  refine (wisCountNil a w8).mono ?_
  rintro e w9 ⟨rfl, rfl⟩
  go_wp2_with fail
  refine (wisNew (most := 1) (by decide) w9).mono ?_
  rintro e v1 ⟨l, Y, rfl, g1, y1, b9⟩
  have G1 : Hid (StW w w9.heap.size l 1 Y [] v1) := stW_new B8.out g1 b9
  clear g1 y1 b9 B8
  go_wp2_with fail
  refine (wisNew (most := 0) (by decide) v1).mono ?_
  rintro e v2 ⟨l0, Y0, rfl, g0, y0, b10⟩
  have HA0 := Lib.hid (wisAdd g0 b10.size (by simp) HI.out hx)
  have G2 : Hid (StW w w9.heap.size l 1 Y [] v2) := G1.out.rest (Fr.of_below b10)
  have HY : Hid (∀ j, Y j → ¬ Y0 j) := fun j hj e => by have := y0 j e; have := (G1.out.rel.lt hj).2; omega
  have HY0 : Hid (∀ j, Y0 j → w.heap.size ≤ j) := fun j e => Nat.le_trans G1.out.below.size (y0 j e)
  clear g0 y0 b10 G1
  go_wp2_with fail
  refine HA0.out.mono ?_
  rintro e v3 ⟨Y0', c, U', rfl, _, f3, _, hc⟩
  have hc7 : c = 7 := by
    rcases hc with ⟨_, ⟨_, h⟩ | ⟨h, _⟩⟩ | ⟨_, _, _, h⟩
    · simp at h
    · exact h
    · have := h [] List.Pairwise.nil (by simp); simp at this
  subst hc7
  have G3 : Hid (StW w w9.heap.size l 1 Y [] v3) := ⟨G2.out.rel.fr f3 HY.out, G2.out.below.trans (f3.below G2.out.below.size fun k _ e => HY0.out k e), G2.out.low, Nat.le_trans G2.out.far f3.size⟩
  clear f3 hc G2 HA0 HY HY0
  go_wp2_with fail
  refine (wisAdd G3.out.rel G3.out.far (by simp) HI.out hx).mono ?_
  rintro e v4 ⟨Y4, c, U', rfl, y4, f4, g4, hc⟩
  have hc0 : U' = [(a, x)] ∧ c = 0 := by
    rcases hc with ⟨_, ⟨_, h⟩ | ⟨_, _, h⟩⟩ | ⟨h1, h2, _, _⟩
    · simp at h
    · have := h [] List.Pairwise.nil (by simp); simp at this
    · exact ⟨h1, h2⟩
  obtain ⟨rfl, rfl⟩ := hc0
  have G4 : Hid (StW w w9.heap.size l 1 Y4 [(a, x)] v4) := G3.out.put g4 f4
  clear y4 f4 g4 hc G3
  go_wp2_with fail
  refine (wisAdd G4.out.rel G4.out.far (by simp) HI.out hx).mono ?_
  rintro e v5 ⟨Y5, c, U', rfl, y5, f5, g5, hc⟩
  have hc0 : U' = [(a, x)] ∧ c = 6 := by
    rcases hc with ⟨h1, ⟨h2, _⟩ | ⟨_, h, _⟩⟩ | ⟨_, _, h, _⟩
    · exact ⟨h1, h2⟩
    · exact absurd (by simp [fkW]) h
    · exact absurd (by simp [fkW]) h
  obtain ⟨rfl, rfl⟩ := hc0
  have G5 : Hid (StW w w9.heap.size l 1 Y5 [(a, x)] v5) := G4.out.put g5 f5
  clear y5 f5 g5 hc G4
  go_wp2_with fail
  refine (wisAdd G5.out.rel G5.out.far (by simp) HI.out hy).mono ?_
  rintro e v6 ⟨Y6, c, U', rfl, y6, f6, g6, hc⟩
  have hc0 : U' = [(a, x)] ∧ c = 7 := by
    rcases hc with ⟨h1, ⟨_, h⟩ | ⟨h2, _⟩⟩ | ⟨_, _, _, h⟩
    · simp only [List.map_cons, List.map_nil, List.mem_singleton, fkW, Prod.mk.injEq, true_and] at h
      exact absurd h.symm HNE.out
    · exact ⟨h1, h2⟩
    · have := h [foldL x] (by simp) (by intro z; simp [fkW]); simp at this
  obtain ⟨rfl, rfl⟩ := hc0
  have G6 : Hid (StW w w9.heap.size l 1 Y6 [(a, x)] v6) := G5.out.put g6 f6
  clear y6 f6 g6 hc G5
  go_wp2_with fail
  refine (wisClear G6.out.rel G6.out.far (by simp) HI.out).mono ?_
  rintro e v7 ⟨Y7, D, d1, d2, rfl, y7, f7, g7⟩
  obtain rfl : D = [foldL x] := up_one d1 fun z => by rw [d2]; simp [fkW]
  have hU7 : ([(a, x)] : List WEnt).filter (fun u => decide (u.1 ≠ a)) = [] := by simp
  rw [hU7] at g7
  have G7 : Hid (StW w w9.heap.size l 1 Y7 [] v7) := G6.out.put g7 f7
  clear y7 f7 g7 d1 d2 G6
  simp only [List.length_singleton]
  go_wp2_with fail
  refine (wisAdd G7.out.rel G7.out.far (by simp) HI.out hy).mono ?_
  rintro e v8 ⟨Y8, c, U', rfl, y8, f8, g8, hc⟩
  have hc0 : U' = [(a, y)] ∧ c = 0 := by
    rcases hc with ⟨_, ⟨_, h⟩ | ⟨_, _, h⟩⟩ | ⟨h1, h2, _, _⟩
    · simp at h
    · have := h [] List.Pairwise.nil (by simp); simp at this
    · exact ⟨h1, h2⟩
  obtain ⟨rfl, rfl⟩ := hc0
  have G8 : Hid (StW w w9.heap.size l 1 Y8 [(a, y)] v8) := G7.out.put g8 f8
  clear y8 f8 g8 hc G7
  go_wp2_with fail
  refine (wisHas G8.out.rel (by simp) HI.out hx).mono ?_
  rintro e v9 ⟨rfl, b11⟩
  have hf : decide ((a, foldL x) ∈ ([(a, y)] : List WEnt).map fkW) = false := decide_eq_false fun h => by
    simp only [List.map_cons, List.map_nil, List.mem_singleton, fkW, Prod.mk.injEq, true_and] at h
    exact HNE.out h
  rw [hf]
  have B11 : Hid (Below w.heap.size w v9) := G8.out.below.trans (b11.mono G8.out.below.size)
  clear b11 G8
  go_wp2_with fail
  go_ret
  exact ⟨rfl, B11.out⟩
end Go.Proofs.YtnoeblnljfnecaaGreatDoor
end
section
/- A law's arguments: slices of texts, of structs, opened; what was only read reads as it read. -/
namespace Go.Proofs.YtnoeblnljfnecaaGreatDoor
open Go Go.ChangeShapes Go.WideShapes Go.RowKit Go.Deep

section
variable {H : Type} {enc : TypeId × Value → H} {P : Program} {W W' : World}

/-- is each of these types one that can be read again? -/
def readAll (P : Program) (ts : List TypeId) : Bool := ts.all fun t => P.readableRec t && decide (t < P.types.size)
theorem stays_all (hl : laidOutB P = true) (hB : Below W.heap.size W W') {sp : Nat → Bool} : ∀ (ts : List TypeId) (vs : List Value) (ds : List (DataW H)) (ps : List MemPlace), readAll P ts = true →
    DataW.TrodAll enc P W 0 (fun _ => true) true ts vs ds ps → (∀ x ∈ ps, x.block < W.heap.size) → (∀ x ∈ ps, sp x.block = true) → DataW.TrodAll enc P W' 0 sp true ts vs ds ps
  | [], vs, ds, ps, _, h, _, _ => by
    obtain ⟨rfl, rfl, rfl⟩ := trodAll_nil h
    exact trodAll_mk0
  | t :: ts, vs, ds, ps, hr, h, hlt, hs => by
    obtain ⟨v, vs1, d, ds1, p, q, rfl, rfl, rfl, h1, h2⟩ := trodAll_cons h
    unfold readAll at hr
    rw [List.all_cons, Bool.and_eq_true, Bool.and_eq_true] at hr
    obtain ⟨⟨hr1, hr2⟩, hr3⟩ := hr
    refine trodAll_cons_mk ?_ (stays_all hl hB ts vs1 ds1 q hr3 h2 (fun x hx => hlt x (by simp [hx])) (fun x hx => hs x (by simp [hx])))
    exact WideElems.Trod_stays hl hr1 (of_decide_eq_true hr2) h1 (fun x hx => hB.same (hlt x (by simp [hx]))) (fun x hx => hs x (by simp [hx]))

theorem spot_of {a : Addr} {v : Value} (h : W.cell? (a.add 0) = some v) : ∃ g o, a = ⟨g, o, none⟩ := by
  have := World.cell?_spot h
  obtain ⟨g, o, s⟩ := a
  simp [Addr.add] at this
  subst this
  exact ⟨g, o, rfl⟩
theorem add_at (g o n : Nat) : (⟨g, o, none⟩ : Addr).add n = ⟨g, o + n, none⟩ := by
  unfold Addr.add
  split
  · simp_all
  · rfl

theorem open_texts {t e : TypeId} {base : Nat} {v : Value} {d : DataW H} {p : List MemPlace} (ht : P.underlying t = some (.slice e)) (he : P.underlying e = some .string) (hc : P.cellsOf e = 1)
    (hval : Value.okWide P W .any base t v) (h : DataW.Trod enc P W 0 (fun _ => true) true t v d p) :
    ∃ (A : Option Addr) (ss : List ByteArray) (c : Nat), v = .slice A ss.length c ∧ ss.length ≤ c ∧ c ≤ maxLen ∧ (∀ s ∈ ss, s.size ≤ maxLen) ∧ (0 < ss.length → ∃ g o, A = some ⟨g, o, none⟩ ∧ ∀ i (h : i < ss.length), W.cell? ⟨g, o + i, none⟩ = some (.string ss[i])) := by
  obtain ⟨A, n, c, rfl⟩ := okWide_slice ht hval
  obtain ⟨fuel, hf⟩ := h
  rcases open_strs ht he hc hf with ⟨hcs, _⟩ | ⟨a, len, cap, m, Sx, hcs, _, hl, hm, hmm, _, hcell⟩
  · have h3 : A = none ∧ n = 0 ∧ c = 0 := by simpa [Value.cells] using hcs
    obtain ⟨rfl, rfl, rfl⟩ := h3
    exact ⟨none, [], 0, rfl, Nat.le_refl _, by unfold maxLen; omega, by simp, fun h => absurd h (by simp)⟩
  · have h3 : A = some a ∧ n = len ∧ c = cap := by simpa [Value.cells] using hcs
    obtain ⟨rfl, rfl, rfl⟩ := h3
    simp only [if_true] at hmm
    refine ⟨some a, (List.range n).map Sx, c, by simp, by simpa using hl, hm, ?_, ?_⟩
    · intro s hs
      simp only [List.mem_map, List.mem_range] at hs
      obtain ⟨i, hi, rfl⟩ := hs
      exact (hcell i (by omega)).2
    · intro hpos
      simp only [List.length_map, List.length_range] at hpos
      obtain ⟨g, o, rfl⟩ := spot_of (hcell 0 (by omega)).1
      refine ⟨g, o, rfl, fun i hi => ?_⟩
      simp only [List.length_map, List.length_range] at hi
      have := (hcell i (by omega)).1
      rw [add_at] at this
      simpa using this

/-- structs of three fields: a boolean, a byte, a text -/
theorem open_bus {t e tb tu ts : TypeId} {fs : Array Field} {base : Nat} {v : Value} {d : DataW H} {p : List MemPlace} (ht : P.underlying t = some (.slice e)) (he : P.underlying e = some (.struct fs)) (hc : P.cellsOf e = 3)
    (hfs : fs.toList.map (fun f => (f.type, f.offset)) = [(tb, 0), (tu, 1), (ts, 2)]) (ub : P.underlying tb = some .bool) (uu : P.underlying tu = some (.int .u8)) (us : P.underlying ts = some .string) (kb : P.cellsOf tb = 1) (ku : P.cellsOf tu = 1) (ks : P.cellsOf ts = 1)
    (hval : Value.okWide P W .any base t v) (h : DataW.Trod enc P W 0 (fun _ => true) true t v d p) :
    ∃ (A : Option Addr) (l : List (Bool × UInt8 × ByteArray)) (c : Nat), v = .slice A l.length c ∧ l.length ≤ c ∧ c ≤ maxLen ∧ (∀ x ∈ l, x.2.2.size ≤ maxLen) ∧
      (0 < l.length → ∃ g o, A = some ⟨g, o, none⟩ ∧ ∀ i (h : i < l.length), W.cell? ⟨g, o + i * 3, none⟩ = some (.bool l[i].1) ∧ W.cell? ⟨g, o + i * 3 + 1, none⟩ = some (.int .u8 l[i].2.1.toNat) ∧ W.cell? ⟨g, o + i * 3 + 2, none⟩ = some (.string l[i].2.2)) := by
  obtain ⟨A, n, c, rfl⟩ := okWide_slice ht hval
  obtain ⟨fuel, hf⟩ := h
  rcases open_slice ht hf with ⟨hcs, _⟩ | ⟨a, len, cap, m, k, D, Pl, hcs, _, hl, hm, hmm, _, hel⟩
  · have h3 : A = none ∧ n = 0 ∧ c = 0 := by simpa [Value.cells] using hcs
    obtain ⟨rfl, rfl, rfl⟩ := h3
    exact ⟨none, [], 0, rfl, Nat.le_refl _, by unfold maxLen; omega, by simp, fun h => absurd h (by simp)⟩
  · have h3 : A = some a ∧ n = len ∧ c = cap := by simpa [Value.cells] using hcs
    obtain ⟨rfl, rfl, rfl⟩ := h3
    simp only [if_true] at hmm
    have each : ∀ i, i < n → ∃ x : Bool × UInt8 × ByteArray, x.2.2.size ≤ maxLen ∧ W.cell? ((a.add (i * 3)).add 0) = some (.bool x.1) ∧ W.cell? ((a.add (i * 3)).add 1) = some (.int .u8 x.2.1.toNat) ∧ W.cell? ((a.add (i * 3)).add 2) = some (.string x.2.2) := by
      intro i hi
      obtain ⟨cs', h1, h2⟩ := hel i (by omega)
      rw [hc] at h1
      obtain ⟨_, hlen, hat⟩ := World.cells?_some h1
      obtain ⟨xs, k', _, _, _, hxl, hx⟩ := DataW.trod_struct he h2
      obtain ⟨fl⟩ := fs
      rcases fl with _ | ⟨f0, _ | ⟨f1, _ | ⟨f2, _ | ⟨f3, fl⟩⟩⟩⟩
      all_goals simp only [List.map_nil, List.map_cons, List.cons.injEq, Prod.mk.injEq, reduceCtorEq, and_false, and_true, false_and] at hfs
      obtain ⟨⟨t0, z0⟩, ⟨t1, z1⟩, t2, z2⟩ := hfs
      match cs', hlen with
      | [v0, v1, v2], _ =>
        match xs, hxl with
        | [y0, y1, y2], _ =>
          have g0 := hx 0 f0 rfl
          have g1 := hx 1 f1 rfl
          have g2 := hx 2 f2 rfl
          rw [t0, z0, kb] at g0
          rw [t1, z1, ku] at g1
          rw [t2, z2, ks] at g2
          obtain ⟨b, e0, _⟩ := DataW.trod_bool ub g0
          obtain ⟨u, e1, _, hw⟩ := DataW.trod_int uu g1
          obtain ⟨s, e2, _, hs⟩ := DataW.trod_string us g2
          simp only [List.drop_zero, List.drop_succ_cons, List.take_succ_cons, List.take_zero, List.cons.injEq, and_true] at e0 e1 e2
          subst e0; subst e1; subst e2
          simp only [Lit.wf, IntKind.has, Bool.and_eq_true, decide_eq_true_eq] at hw
          have hu0 : 0 ≤ u ∧ u ≤ 255 := ⟨hw.1, hw.2⟩
          have hu : ((UInt8.ofNat u.toNat).toNat : Int) = u := by
            rw [UInt8.toNat_ofNat']
            have : u.toNat < 256 := by omega
            rw [Nat.mod_eq_of_lt (by simpa using this)]
            omega
          refine ⟨(b, UInt8.ofNat u.toNat, s), hs, (hat 0 (by omega)).trans rfl, (hat 1 (by omega)).trans ?_, (hat 2 (by omega)).trans rfl⟩
          show some (Value.int .u8 u) = some (.int .u8 ((UInt8.ofNat u.toNat).toNat : Int))
          rw [hu]
    obtain ⟨F, hF⟩ := choose_lt each
    refine ⟨some a, (List.range n).map F, c, by simp, by simpa using hl, hm, ?_, ?_⟩
    · intro x hx
      simp only [List.mem_map, List.mem_range] at hx
      obtain ⟨i, hi, rfl⟩ := hx
      exact (hF i hi).1
    · intro hpos
      simp only [List.length_map, List.length_range] at hpos
      have h00 := (hF 0 hpos).2.1
      have h000 : W.cell? (a.add 0) = some (.bool (F 0).1) := by simpa [Addr.add] using h00
      obtain ⟨g, o, rfl⟩ := spot_of h000
      refine ⟨g, o, rfl, fun i hi => ?_⟩
      simp only [List.length_map, List.length_range] at hi
      obtain ⟨_, q0, q1, q2⟩ := hF i hi
      rw [add_at, add_at] at q0 q1 q2
      simpa using ⟨q0, q1, q2⟩
end
end Go.Proofs.YtnoeblnljfnecaaGreatDoor
end
section
/- An argument that is a slice of anything flat, opened. -/
namespace Go.Proofs.YtnoeblnljfnecaaGreatDoor
open Go Go.ChangeShapes Go.WideShapes Go.RowKit Go.Deep

section
variable {H : Type} {enc : TypeId × Value → H} {P : Program} {W : World}
theorem open_elems {α : Type} [Inhabited α] {t e : TypeId} {base k : Nat} {v : Value} {d : DataW H} {p : List MemPlace} (hk : 0 < k) (encf : α → List Value) (G : α → Prop) (ht : P.underlying t = some (.slice e)) (hc : P.cellsOf e = k)
    (hdec : ∀ n cs y, cs.length = k → DataW.trod enc P W 0 (fun _ => true) true n e cs = some y → ∃ x, cs = encf x ∧ G x)
    (hval : Value.okWide P W .any base t v) (h : DataW.Trod enc P W 0 (fun _ => true) true t v d p) :
    ∃ (A : Option Addr) (l : List α) (c : Nat), v = .slice A l.length c ∧ l.length ≤ c ∧ c ≤ maxLen ∧ (∀ x ∈ l, G x) ∧
      (0 < l.length → ∃ g o, A = some ⟨g, o, none⟩ ∧ g < W.heap.size ∧ ∀ i (h : i < l.length) j u, (encf l[i])[j]? = some u → W.cell? ⟨g, o + i * k + j, none⟩ = some u) := by
  obtain ⟨A, n, c, rfl⟩ := okWide_slice ht hval
  obtain ⟨fuel, hf⟩ := h
  rcases open_slice ht hf with ⟨hcs, _⟩ | ⟨a, len, cap, m, n', D, Pl, hcs, _, hl, hm, hmm, _, hel⟩
  · have h3 : A = none ∧ n = 0 ∧ c = 0 := by simpa [Value.cells] using hcs
    obtain ⟨rfl, rfl, rfl⟩ := h3
    exact ⟨none, [], 0, rfl, Nat.le_refl _, by unfold maxLen; omega, by simp, fun h => absurd h (by simp)⟩
  · have h3 : A = some a ∧ n = len ∧ c = cap := by simpa [Value.cells] using hcs
    obtain ⟨rfl, rfl, rfl⟩ := h3
    simp only [if_true] at hmm
    have each : ∀ i, i < n → ∃ x : α, G x ∧ (encf x).length = k ∧ ∀ j u, (encf x)[j]? = some u → W.cell? ((a.add (i * k)).add j) = some u := by
      intro i hi
      obtain ⟨cs', h1, h2⟩ := hel i (by omega)
      rw [hc] at h1
      obtain ⟨_, hlen, hat⟩ := World.cells?_some h1
      obtain ⟨x, rfl, hg⟩ := hdec _ _ _ hlen h2
      refine ⟨x, hg, hlen, fun j u hu => ?_⟩
      have hj : j < k := by
        rw [← hlen]; exact (List.getElem?_eq_some_iff.1 hu).1
      rw [hat j hj, hu]
    obtain ⟨F, hF⟩ := choose_lt each
    refine ⟨some a, (List.range n).map F, c, by simp, by simpa using hl, hm, ?_, ?_⟩
    · intro x hx
      simp only [List.mem_map, List.mem_range] at hx
      obtain ⟨i, hi, rfl⟩ := hx
      exact (hF i hi).1
    · intro hpos
      simp only [List.length_map, List.length_range] at hpos
      obtain ⟨_, hl0, h0⟩ := hF 0 hpos
      have hq := h0 0 ((encf (F 0))[0]'(by omega)) (List.getElem?_eq_getElem (by omega))
      have hq : W.cell? (a.add 0) = some ((encf (F 0))[0]'(by omega)) := by
        have e : (a.add (0 * k)).add 0 = a.add 0 := by
          obtain ⟨b, o, s⟩ := a
          cases s <;> simp [Addr.add]
        rwa [e] at hq
      obtain ⟨g, o, rfl⟩ := spot_of hq
      have hg : g < W.heap.size := by
        have := block_lt_of_cell hq
        simpa [add_at] using this
      refine ⟨g, o, rfl, hg, fun i hi j u hu => ?_⟩
      simp only [List.length_map, List.length_range] at hi
      obtain ⟨_, _, hh⟩ := hF i hi
      have := hh j u (by simpa using hu)
      rwa [add_at, add_at] at this
end
end Go.Proofs.YtnoeblnljfnecaaGreatDoor
end
section
/- Arguments that are slices of flat things, opened (by gendec.py). -/
namespace Go.Proofs.YtnoeblnljfnecaaGreatDoor
set_option linter.unusedVariables false
set_option linter.unusedSimpArgs false
open Go Go.ChangeShapes Go.WideShapes Go.RowKit

abbrev zwaT : Type := Int × Int × ByteArray
/-- its cells -/
def zwaL (x : zwaT) : List Value := [.int .i64 x.1, .int .i64 x.2.1, .string x.2.2]
def zwaG (x : zwaT) : Prop := (Lit.int .i64 x.1).wf = true ∧ (Lit.int .i64 x.2.1).wf = true ∧ x.2.2.size ≤ maxLen
set_option maxRecDepth 1000000 in
theorem dec_zwa {H : Type} {enc : TypeId × Value → H} {W : World} {base : Nat} {spare : Nat → Bool} {held : Bool} {fuel : Nat} {cs : List Value} {y : DataW H × List MemPlace} (hlen : cs.length = 3) (hf : DataW.trod enc Tryz.prog W base spare held fuel 32 cs = some y) : ∃ x, cs = zwaL x ∧ zwaG x := by
  have ks : Tryz.prog.cellsOf 9 = 1 := by kernel_rfl
  have ki : Tryz.prog.cellsOf 3 = 1 := by kernel_rfl
  match cs, hlen with
  | [c0, c1, c2], _ =>
    obtain ⟨xs, n, _, hx, _, hln, hg⟩ := DataW.trod_struct Tryz.underlying32 hf
    have hl : xs.length = 3 := hln
    have gs : ∀ i, i < 3 → ∃ y, xs[i]? = some y := fun i hi => ⟨xs[i]'(by omega), List.getElem?_eq_getElem (by omega)⟩
    obtain ⟨y0, e0⟩ := gs 0 (by omega)
    have g0 := hg 0 _ rfl
    rw [e0] at g0
    obtain ⟨m0, q0, _, z0⟩ := DataW.trod_int Tryz.underlying3 g0
    simp [ki] at q0
    obtain ⟨y1, e1⟩ := gs 1 (by omega)
    have g1 := hg 1 _ rfl
    rw [e1] at g1
    obtain ⟨m1, q1, _, z1⟩ := DataW.trod_int Tryz.underlying3 g1
    simp [ki] at q1
    obtain ⟨y2, e2⟩ := gs 2 (by omega)
    have g2 := hg 2 _ rfl
    rw [e2] at g2
    obtain ⟨s2, q2, _, z2⟩ := DataW.trod_string Tryz.underlying9 g2
    simp [ks] at q2
    subst q0 q1 q2
    exact ⟨(m0, m1, s2), rfl, ⟨z0, z1, z2⟩⟩
set_option maxRecDepth 1000000 in
theorem open_zwas {H : Type} {enc : TypeId × Value → H} {W : World} {base : Nat} {v : Value} {d : DataW H} {p : List MemPlace} (hval : Value.okWide Tryz.prog W .any base 22 v) (h : DataW.Trod enc Tryz.prog W 0 (fun _ => true) true 22 v d p) :
    ∃ (A : Option Addr) (l : List zwaT) (c : Nat), v = .slice A l.length c ∧ l.length ≤ c ∧ c ≤ maxLen ∧ (∀ x ∈ l, zwaG x) ∧ (0 < l.length → ∃ g o, A = some ⟨g, o, none⟩ ∧ g < W.heap.size ∧ ∀ i (h : i < l.length) j u, (zwaL l[i])[j]? = some u → W.cell? ⟨g, o + i * 3 + j, none⟩ = some u) := by
  have hc : Tryz.prog.cellsOf 32 = 3 := by kernel_rfl
  exact open_elems (by decide) zwaL zwaG Tryz.underlying22 hc (fun _ _ _ hl hf => dec_zwa hl hf) hval h
end Go.Proofs.YtnoeblnljfnecaaGreatDoor
end
section
/- Layer 21: WishPlays: what is given, great; both lists, apart. -/
namespace Go.Proofs.YtnoeblnljfnecaaGreatDoor
set_option linter.unusedVariables false
set_option linter.unusedSimpArgs false
open Go Go.RowKit Go.Maps Go.Sort Go.Shelf Go.Lib

/-- the acts, as they lie -/
def ActWR (w : World) (A : Option Addr) (l : List zwaT) : Prop := (∀ x ∈ l, zwaG x) ∧ (0 < l.length → ∃ g o, A = some ⟨g, o, none⟩ ∧ g < w.heap.size ∧ ∀ i (h : i < l.length) j u, (zwaL l[i])[j]? = some u → w.cell? ⟨g, o + i * 3 + j, none⟩ = some u)
theorem actWR_at {w : World} {A : Option Addr} {l : List zwaT} (h : ActWR w A l) (h0 : 0 < l.length) : ∃ (g o : Nat), A = some ⟨g, o, none⟩ ∧ ∀ W, RowKit.Below w.heap.size w W → ∀ k (hk : k < l.length), W.cell? ⟨g, o + k * 3, none⟩ = some (.int .i64 l[k].1) ∧ W.cell? ⟨g, o + k * 3 + 1, none⟩ = some (.int .i64 l[k].2.1) ∧ W.cell? ⟨g, o + k * 3 + 2, none⟩ = some (.string l[k].2.2) := by
  obtain ⟨g, o, hA, hg, hc⟩ := h.2 h0
  refine ⟨g, o, hA, fun W hb k hk => ?_⟩
  have hblk : W.heap[g]? = w.heap[g]? := hb.block g hg
  have h1 := hc k hk 0 _ rfl
  have h2 := hc k hk 1 _ rfl
  have h3 := hc k hk 2 _ rfl
  exact ⟨(World.cell?_of_block (w := w) (w' := W) (a := ⟨g, o + k * 3, none⟩) hblk).trans h1, (World.cell?_of_block (w := w) (w' := W) (a := ⟨g, o + k * 3 + 1, none⟩) hblk).trans h2, (World.cell?_of_block (w := w) (w' := W) (a := ⟨g, o + k * 3 + 2, none⟩) hblk).trans h3⟩
/-- more than is looked at -/
def greatWR (l : List zwaT) : Bool := decide (40 < l.length) || l.any fun x => decide (30 < x.2.2.size)
set_option maxRecDepth 100000 in
set_option maxHeartbeats 8000000 in
theorem great21 {w : World} {A : Option Addr} {l : List zwaT} {c : Nat} (h : ActWR w A l) (W : World) (hW : RowKit.Below w.heap.size w W) :
    Calls Tryz.prog 7 #[.slice A l.length c] W fun e w' => e = .returned (.bool (greatWR l)) ∧ w' = W := by
  by_cases h40 : l.length ≤ 40
  · have e0 : greatWR l = l.any fun x => decide (30 < x.2.2.size) := by unfold greatWR; rw [decide_eq_false (by omega)]; rfl
    have q0 : decide ((40 : Int) < (l.length : Int)) = false := by simp; omega
    have p0 : ¬ ((40 : Int) < (l.length : Int)) := by omega
    have HQ := Lib.hid (And.intro h e0)
    clear h e0
    go_enter Tryz.func7, Tryz.ntmps7
    go_wp2_with fail
    go_loopw [3] (fun i wr => ∃ j : Nat, i = .int .i64 j ∧ j ≤ l.length ∧ wr = W ∧ ∀ q (hq : q < l.length), q < j → l[q].2.2.size ≤ 30) (fun i _ => l.length - (RowKit.intOf i).toNat)
    case atStart => exact ⟨0, rfl, Nat.zero_le _, rfl, fun q _ hq => by omega⟩
    case round =>
      obtain ⟨j, rfl, hj, rfl, hno⟩ := hrel
      by_cases hlt : j < l.length
      · obtain ⟨g, o, rfl, hat⟩ := actWR_at HQ.out.1 (by omega)
        obtain ⟨c1, c2, c3⟩ := hat _ hW j hlt
        obtain ⟨s, hs⟩ : ∃ s, l[j].2.2 = s := ⟨_, rfl⟩
        rw [hs] at c3
        have HS := Lib.hid hs
        have HN := Lib.hid hno
        clear hat c1 c2 hs hno
        by_cases h30 : s.size ≤ 30
        · have q2 : decide ((30 : Int) < (s.size : Int)) = false := by simp; omega
          have p2 : ¬ ((30 : Int) < (s.size : Int)) := by omega
          go_wp2_with fail
          go_roundw
          case rel =>
            refine ⟨j + 1, by go_num, by omega, trivial, fun q hq hq2 => ?_⟩
            by_cases e : q = j
            · subst e; rw [HS.out]; exact h30
            · exact HN.out q hq (by omega)
          case measure => simp [RowKit.intOf]; omega
        · have p2 : (30 : Int) < (s.size : Int) := by omega
          go_wp2_with fail
          go_ret
          refine ⟨?_, rfl⟩
          have e0 : greatWR l = true := HQ.out.2.trans (List.any_eq_true.2 ⟨l[j], List.getElem_mem hlt, by rw [HS.out]; simpa using h30⟩)
          rw [e0]
          rfl
      · obtain rfl : j = l.length := by omega
        have p1 : ¬ ((l.length : Int) < (l.length : Int)) := by omega
        have HN := Lib.hid hno
        clear hno
        go_wp2_with fail
        go_ret
        refine ⟨?_, rfl⟩
        have e0 : greatWR l = false := HQ.out.2.trans (List.any_eq_false.2 fun x hx => by
          obtain ⟨q, hq, rfl⟩ := List.mem_iff_getElem.1 hx
          have := HN.out q hq hq
          simp; omega)
        rw [e0]
        rfl
  · have e0 : greatWR l = true := by unfold greatWR; rw [decide_eq_true (by omega)]; rfl
    have p0 : (40 : Int) < (l.length : Int) := by omega
    rw [e0]
    clear h
    go_enter Tryz.func7, Tryz.ntmps7
    go_wp2_with fail
    go_ret
    exact ⟨rfl, rfl⟩
/-- the document's lists: its blocks are Z -/
def RefZW (W : World) (x : Nat) (Z : Nat → Prop) (most : Int) (U : List WEnt) : Prop := ∃ A c, W.heap[x]? = some (.cells #[.int .i64 most, .slice A U.length c] 30 (0, 0)) ∧ OwnWR 0 W (.slice A U.length c) U ∧ (Value.slice A U.length c).ownBlock ≠ some x ∧ ∀ j, Z j ↔ (j = x ∨ (Value.slice A U.length c).ownBlock = some j)
theorem RefZW.wr {W : World} {x : Nat} {Z : Nat → Prop} {most : Int} {U : List WEnt} (h : RefZW W x Z most U) : RefWR 0 W x most U := by
  obtain ⟨A, c, h1, h2, h3, _⟩ := h
  exact ⟨Nat.zero_le _, A, c, h1, h2, h3⟩
theorem RefZW.lt {W : World} {x : Nat} {Z : Nat → Prop} {most : Int} {U : List WEnt} (h : RefZW W x Z most U) {j : Nat} (hj : Z j) : j < W.heap.size := by
  obtain ⟨A, c, h1, h2, h3, h4⟩ := h
  rcases (h4 j).1 hj with rfl | e
  · exact blk_lt h1
  · exact (h2.lt j e).2
theorem RefZW.own {W : World} {x : Nat} {Z : Nat → Prop} {most : Int} {U : List WEnt} (h : RefZW W x Z most U) : Z x := by
  obtain ⟨A, c, h1, h2, h3, h4⟩ := h
  exact (h4 x).2 (.inl rfl)
theorem RefZW.fr {W W' : World} {x : Nat} {Z X : Nat → Prop} {most : Int} {U : List WEnt} (h : RefZW W x Z most U) (hf : Fr X W W') (hx : ∀ j, Z j → ¬ X j) : RefZW W' x Z most U := by
  obtain ⟨A, c, h1, h2, h3, h4⟩ := h
  exact ⟨A, c, hf.blk h1 (hx x ((h4 x).2 (.inl rfl))), ownWR_kept h2 fun g hg => hf.block g (h2.lt g hg).2 (hx g ((h4 g).2 (.inr hg))), h3, h4⟩
theorem readsI_frW {W W' : World} {A : Option Addr} {xs : List Int} (h : ReadsI W A xs) (hf : Fr (fun _ => False) W W') : ReadsI W' A xs := fun h0 => by
  obtain ⟨g, o, e, hg, hc⟩ := h h0
  exact ⟨g, o, e, Nat.lt_of_lt_of_le hg hf.size, fun j hj => (hf.cell (p := ⟨g, o + j, none⟩) hg fun e => e).trans (hc j hj)⟩
/-- the lists l hold L, the document's x hold U -/
structure PlayW (w : World) (l : Nat) (Y : Nat → Prop) (most : Int) (L : List WEnt) (x : Nat) (Z : Nat → Prop) (U : List WEnt) (W : World) : Prop where
  below : RowKit.Below w.heap.size w W
  rel : WisAt w.heap.size W l Y most L
  ref : RefZW W x Z most U
  ap : ∀ j, Y j → ¬ Z j
  xw : w.heap.size ≤ x
section
variable {w W W1 : World} {l x : Nat} {Y Y' Z : Nat → Prop} {most : Int} {L L' U : List WEnt}
theorem PlayW.rest (h : PlayW w l Y most L x Z U W) (hf : Fr (fun _ => False) W W1) : PlayW w l Y most L x Z U W1 where
  below := h.below.trans (hf.below h.below.size fun _ _ e => e.elim)
  rel := h.rel.fr hf fun _ _ e => e
  ref := h.ref.fr hf fun _ _ e => e
  ap := h.ap
  xw := h.xw
theorem PlayW.relStep (h : PlayW w l Y most L x Z U W) (hr : WisAt w.heap.size W1 l Y' most L') (hx : ∀ j, Y' j → Y j ∨ W.heap.size ≤ j) (hf : Fr Y W W1) : PlayW w l Y' most L' x Z U W1 where
  below := h.below.trans (hf.below h.below.size fun j _ e => (h.rel.lt e).1)
  rel := hr
  ref := h.ref.fr hf fun j hj e => h.ap j e hj
  ap := fun j hj hz => by
    rcases hx j hj with e | e
    · exact h.ap j e hz
    · have := h.ref.lt hz; omega
  xw := h.xw
theorem PlayW.refStep {U' : List WEnt} (h : PlayW w l Y most L x Z U W) (hs : StepW x most U U' W W1) : (∃ Z', PlayW w l Y most L x Z' U' W1) ∧ Fr (fun j => j = x) W W1 := by
  refine ⟨?_, hs.fr⟩
  rcases hs with ⟨rfl, hf⟩ | ⟨⟨A, c, h1, h2, h3⟩, hf⟩
  · exact ⟨Z, h.rest hf⟩
  · refine ⟨fun j => j = x ∨ (Value.slice A U'.length c).ownBlock = some j, ⟨h.below.trans (hf.below h.below.size fun j _ e => by rw [e]; exact h.xw), h.rel.fr hf fun j hj e => h.ap j hj (e ▸ h.ref.own), ⟨A, c, h1, row_baseP h2 (Nat.zero_le _), h3, fun j => Iff.rfl⟩, fun j hj hz => ?_, h.xw⟩⟩
    rcases hz with rfl | e
    · exact h.ap _ hj h.ref.own
    · have := (h2.lt j e).1
      have := (h.rel.lt hj).2
      omega
end
theorem namesW_fold {U : List WEnt} {a : Int} {D : List (List UInt8)} (hD : NamesW U a D) (f : List UInt8) : f ∈ D.map foldL ↔ (a, f) ∈ U.map fkW := by
  simp only [List.mem_map]
  constructor
  · rintro ⟨n, hn, rfl⟩; exact ⟨(a, n), (hD.mem n).1 hn, rfl⟩
  · rintro ⟨u, hu, e⟩
    obtain ⟨e1, e2⟩ := Prod.mk.inj e
    exact ⟨u.2, (hD.mem _).2 (by rw [← e1]; exact hu), e2⟩
/-- the names of a number: there are such -/
theorem namesW_ex : ∀ {U : List WEnt}, (U.map fkW).Nodup → ∀ a, ∃ D, NamesW U a D := by
  intro U
  induction h : U.length generalizing U with
  | zero =>
    intro _ a
    obtain rfl := List.length_eq_zero_iff.1 h
    exact ⟨[], namesW_nil a⟩
  | succ n ih =>
    intro hnd a
    rcases List.eq_nil_or_concat U with rfl | ⟨V, p, rfl⟩
    · cases h
    · rw [List.concat_eq_append] at h hnd ⊢
      have hV : V.length = n := by simpa using h
      obtain ⟨D, hD⟩ := ih hV (by rw [List.map_append, List.nodup_append] at hnd; exact hnd.1) a
      by_cases hp : p.1 = a
      · obtain ⟨pa, s⟩ := p
        dsimp only at hp
        subst hp
        -- where it goes in
        obtain ⟨q, hq, h1, h2⟩ : ∃ q, q ≤ D.length ∧ (∀ r (hr : r < D.length), q ≤ r → foldL s < foldL D[r]) ∧ (∀ p (hp : p < D.length), p + 1 = q → ¬ foldL s < foldL D[p]) := by
          have key : ∀ q, q ≤ D.length → (∀ r (hr : r < D.length), q ≤ r → foldL s < foldL D[r]) → ∃ q, q ≤ D.length ∧ (∀ r (hr : r < D.length), q ≤ r → foldL s < foldL D[r]) ∧ (∀ p (hp : p < D.length), p + 1 = q → ¬ foldL s < foldL D[p]) := by
            intro q
            induction q with
            | zero => exact fun hq h1 => ⟨0, hq, h1, fun p _ e => by omega⟩
            | succ q ih2 =>
              intro hq h1
              by_cases hlt : foldL s < foldL (D[q]'(by omega))
              · refine ih2 (by omega) fun r hr h2 => ?_
                rcases Nat.lt_or_ge q r with h3 | h3
                · exact h1 r hr h3
                · obtain rfl : r = q := by omega
                  exact hlt
              · refine ⟨q + 1, hq, h1, fun p hp e => ?_⟩
                obtain rfl : p = q := by omega
                exact hlt
          exact key D.length (Nat.le_refl _) fun r hr h => by omega
        exact ⟨_, namesW_ins hD hnd hq h1 h2⟩
      · exact ⟨D, namesW_no hD hp⟩
/-- behind the program's Add: the document's Add does the same -/
theorem add_syncW {w W : World} {l x : Nat} {Y' Z : Nat → Prop} {most : Int} {L L' : List WEnt} {a : Int} {n : List UInt8} {c : Int} (h : PlayW w l Y' most L' x Z L W) (hl : L.length ≤ 900000) (hok : OkW L) (hnd : (L.map fkW).Nodup) (hn : n.length ≤ 1000)
    (hq : L' = L ∧ (c = 6 ∧ (a, foldL n) ∈ L.map fkW ∨ c = 7 ∧ (a, foldL n) ∉ L.map fkW ∧ (∀ xs : List (List UInt8), xs.Pairwise (· < ·) → (∀ x, x ∈ xs ↔ (a, x) ∈ L.map fkW) → most ≤ xs.length)) ∨
      L' = L ++ [(a, n)] ∧ c = 0 ∧ (a, foldL n) ∉ L.map fkW ∧ (∀ xs : List (List UInt8), xs.Pairwise (· < ·) → (∀ x, x ∈ xs ↔ (a, x) ∈ L.map fkW) → (xs.length : Int) < most)) :
    Calls Tryz.prog 14 #[.pointer (some ⟨x, 0, none⟩), .int .i64 a, .string (bs n)] W fun e W' => e = .returned (.int .i64 c) ∧ (∃ Z', PlayW w l Y' most L' x Z' L' W') ∧ Fr (fun j => j = x) W W' := by
  obtain ⟨D, hD⟩ := namesW_ex hnd a
  have hDl : ((D.map foldL).length : Int) = D.length := by simp
  refine (refw_add h.ref.wr (Nat.zero_le _) hl hok hnd hn hD).mono fun e W' ⟨c2, U2, h1, h2, h3⟩ => ?_
  obtain ⟨p1, p2⟩ := h.refStep h2
  rcases hq with ⟨rfl, ⟨rfl, q1⟩ | ⟨rfl, q1, q2⟩⟩ | ⟨rfl, rfl, q1, q2⟩
  · rcases h3 with ⟨rfl, ⟨rfl, _⟩ | ⟨_, k, _⟩⟩ | ⟨_, _, k, _⟩
    · exact ⟨h1, p1, p2⟩
    · exact absurd q1 k
    · exact absurd q1 k
  · have hm := q2 _ hD.up (namesW_fold hD)
    rw [hDl] at hm
    rcases h3 with ⟨rfl, ⟨_, k⟩ | ⟨rfl, _⟩⟩ | ⟨_, _, _, k⟩
    · exact absurd k q1
    · exact ⟨h1, p1, p2⟩
    · omega
  · have hm := q2 _ hD.up (namesW_fold hD)
    rw [hDl] at hm
    rcases h3 with ⟨_, ⟨_, k⟩ | ⟨_, _, k⟩⟩ | ⟨rfl, rfl, _, _⟩
    · exact absurd k q1
    · omega
    · exact ⟨h1, p1, p2⟩
theorem rem_syncW {w W : World} {l x : Nat} {Y' Z : Nat → Prop} {most : Int} {L L' : List WEnt} {a : Int} {n : List UInt8} (h : PlayW w l Y' most L' x Z L W) (hl : L.length ≤ 900000) (hok : OkW L) (hnd : (L.map fkW).Nodup) (hn : n.length ≤ 1000) (hL : L' = L.filter fun u => decide (fkW u ≠ (a, foldL n))) :
    Calls Tryz.prog 10 #[.pointer (some ⟨x, 0, none⟩), .int .i64 a, .string (bs n)] W fun e W' => e = .returned (.bool (decide ((a, foldL n) ∈ L.map fkW))) ∧ (∃ Z', PlayW w l Y' most L' x Z' L' W') ∧ Fr (fun j => j = x) W W' :=
  (refw_rem h.ref.wr hl hok hnd a hn).mono fun e W' ⟨h1, h2⟩ => by
    rw [← hL] at h2
    exact ⟨h1, h.refStep h2⟩
theorem clear_syncW {w W : World} {l x : Nat} {Y' Z : Nat → Prop} {most : Int} {L L' : List WEnt} {a : Int} {D : List (List UInt8)} (h : PlayW w l Y' most L' x Z L W) (hl : L.length ≤ 900000) (hok : OkW L) (hnd : (L.map fkW).Nodup) (d1 : D.Pairwise (· < ·)) (d2 : ∀ f, f ∈ D ↔ (a, f) ∈ L.map fkW) (hL : L' = L.filter fun u => decide (u.1 ≠ a)) :
    Calls Tryz.prog 12 #[.pointer (some ⟨x, 0, none⟩), .int .i64 a] W fun e W' => e = .returned (.int .i64 (D.length : Nat)) ∧ (∃ Z', PlayW w l Y' most L' x Z' L' W') ∧ Fr (fun j => j = x) W W' := by
  obtain ⟨E, hE⟩ := namesW_ex hnd a
  have hDE : D = E.map foldL := names_fk hE d1 d2
  refine (refw_clear h.ref.wr hl hok hnd hE).mono fun e W' ⟨h1, h2⟩ => ?_
  rw [← hL] at h2
  refine ⟨?_, h.refStep h2⟩
  rw [h1, hDE, List.length_map]
end Go.Proofs.YtnoeblnljfnecaaGreatDoor
end
section
/- The answers' Texts of two rows that read as one. -/
namespace Go.Proofs.YtnoeblnljfnecaaGreatDoor
set_option linter.unusedVariables false
set_option linter.unusedSimpArgs false
open Go Go.RowKit Go.Lib Go.Shelf

theorem readsT_fr {W W' : World} {A : Option Addr} {xs : List (List UInt8)} {X : Nat → Prop} (h : ReadsT W A xs) (hf : Fr X W W') (hX : ∀ g o, A = some ⟨g, o, none⟩ → ¬ X g) : ReadsT W' A xs := fun h0 => by
  obtain ⟨g, o, e, hg, hc⟩ := h h0
  exact ⟨g, o, e, Nat.lt_of_lt_of_le hg hf.size, fun j hj => (hf.cell (p := ⟨g, o + j, none⟩) hg (hX g o e)).trans (hc j hj)⟩
end Go.Proofs.YtnoeblnljfnecaaGreatDoor
end
