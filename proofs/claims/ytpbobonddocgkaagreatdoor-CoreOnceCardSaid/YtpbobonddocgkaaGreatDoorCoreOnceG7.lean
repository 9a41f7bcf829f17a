/- Texts of this proof, one behind the other. -/
import Derived.Test.YtpbobonddocgkaaGreatDoorCoreOnceG6
import Derived.Test.YtpbobonddocgkaaGreatDoorCoreOnceG4
import Derived.Test.YtpbobonddocgkaaGreatDoorCoreOnceG3
import Derived.WalkKit
import Derived.Lib.Hide
import Derived.WalkSpells
import Derived.WalkLawsBesides
import Derived.Test.YtpbobonddocgkaaGreatDoorProg
import Derived.Test.YtpbobonddocgkaaGreatDoorCoreOnceG1
import Derived.Deep.QuietTactic
import Derived.BigQuiet
import Derived.Outline
import Derived.Sort.CutIn
import Derived.Stop.RegionWithIn
set_option linter.unusedVariables false
set_option linter.unusedSimpArgs false
section
/- Layer 11: a relation of ints and strings: Remove; nil ones. -/
namespace Go.Proofs.YtpbobonddocgkaaGreatDoor
open Go Go.RowKit Go.Maps Go.Lib

def lessLIS (L : List ((Int) × (List UInt8))) (a : Int) (b : List UInt8) : List ((Int) × (List UInt8)) := L.filter fun p => decide (p ≠ (a, b))
theorem lessMemIS {L : List ((Int) × (List UInt8))} {a : Int} {b : List UInt8} {p : (Int) × (List UInt8)} : p ∈ lessLIS L a b ↔ p ∈ L ∧ p ≠ (a, b) := by unfold lessLIS; rw [List.mem_filter]; simp
theorem lessNotIS {L : List ((Int) × (List UInt8))} {a : Int} {b : List UInt8} (h : (a, b) ∉ L) : lessLIS L a b = L := by
  unfold lessLIS
  rw [List.filter_eq_self]
  intro p hp
  simp only [decide_eq_true_eq]
  exact fun e => h (e ▸ hp)
theorem lessLenIS {L : List ((Int) × (List UInt8))} {a : Int} {b : List UInt8} (hn : L.Nodup) (h : (a, b) ∈ L) : (lessLIS L a b).length + 1 = L.length := by
  induction L with
  | nil => cases h
  | cons x r ih =>
    rw [List.nodup_cons] at hn
    unfold lessLIS at ih ⊢
    by_cases e : x = (a, b)
    · subst e
      rw [List.filter_cons_of_neg (by simp)]
      have := lessNotIS hn.1
      unfold lessLIS at this
      rw [this, List.length_cons]
    · rw [List.filter_cons_of_pos (by simpa using e), List.length_cons, List.length_cons]
      rcases List.mem_cons.1 h with h | h
      · exact absurd h.symm e
      · have := ih hn.2 h; omega
theorem rem_stIS {base : Nat} {w w1 w2 : World} {t b1 b2 : Nat} {most : Int} {L : List ((Int) × (List UInt8))} {T1 : List ((Int) × SetE (List UInt8))} {T2 : List ((List UInt8) × SetE (Int))} (h : RelStIS base w t b1 b2 most L T1 T2)
    {a : Int} {b : List UInt8} (hm : (a, b) ∈ L) (h1 : PutPIS base b1 T1 a (delIS (lk T1 a) b) w w1) (h2 : PutPSI base b2 T2 b (delI (lk T2 b) a) w1 w2) :
    ∃ X', RelAtIS base (w2.setCell ⟨t, 1, none⟩ (.int .i64 ((L.length : Int) - 1))) t X' most (lessLIS L a b) ∧ (∀ j, X' j → (j = t ∨ BlP b1 T1 j ∨ BlP b2 T2 j) ∨ w.heap.size ≤ j) ∧ Fr (fun j => j = t ∨ BlP b1 T1 j ∨ BlP b2 T2 j) w (w2.setCell ⟨t, 1, none⟩ (.int .i64 ((L.length : Int) - 1))) := by
  have hlen := lessLenIS h.nd hm
  obtain ⟨T1', p1, p2, p3, p4, p5, p6⟩ := h1
  obtain ⟨T2', q1, q2, q3, q4, q5, q6⟩ := h2
  have hz := p4.size
  have l1 : ∀ j, BlP b1 T1 j → j < w.heap.size := fun j hj => (blPIS_lt h.m1 hj).2
  have l2 : ∀ j, BlP b2 T2 j → j < w.heap.size := fun j hj => (blPSI_lt h.m2 hj).2
  have l1' : ∀ j, BlP b1 T1' j → j < w1.heap.size := fun j hj => (blPIS_lt p1 hj).2
  have lt := blk_lt h.blk
  have sep : ∀ j, BlP b1 T1' j → ¬ BlP b2 T2' j := fun j hj hj2 => by
    rcases p5 j hj with e | e
    · rcases q5 j hj2 with e2 | e2
      · exact h.ap j e e2
      · have := l1 j e; omega
    · rcases q5 j hj2 with e2 | e2
      · have := l2 j e2; omega
      · have := l1' j hj; omega
  have t1' : ¬ BlP b1 T1' t := fun e => by
    rcases p5 t e with e | e
    · exact h.t1 e
    · omega
  have t2' : ¬ BlP b2 T2' t := fun e => by
    rcases q5 t e with e | e
    · exact h.t2 e
    · omega
  have m1 : MapStIS base w2 b1 T1' := mapStIS_fr p1 q4 fun j hj e => by
    rcases p5 j hj with e1 | e1
    · exact h.ap j e1 e
    · have := l2 j e; omega
  have fc : Fr (fun j => j = t) w2 (w2.setCell ⟨t, 1, none⟩ (.int .i64 ((L.length : Int) - 1))) := Fr.setCell (X := fun j => j = t) (Fr.refl _ w2) _ rfl _
  have hb2 : w2.heap[t]? = some (.cells #[.int .i64 most, .int .i64 L.length, .map (some b1), .map (some b2)] 134 (0, 0)) := q4.blk (p4.blk h.blk h.t1) h.t2
  refine ⟨fun j => j = t ∨ BlP b1 T1' j ∨ BlP b2 T2' j, ⟨b1, b2, T1', T2', ⟨h.le, ?_, mapStIS_fr m1 fc fun j hj e => t1' (e ▸ hj), mapStSI_fr q1 fc fun j hj e => t2' (e ▸ hj), p3 h.n1, q3 h.n2, sep, t1', t2', fun a' b' => ?_, fun a' b' => ?_, ?_⟩, fun j => Iff.rfl⟩, fun j hj => ?_, ?_⟩
  · have := blk_set hb2 1 (.int .i64 ((L.length : Int) - 1))
    rw [this, show ((lessLIS L a b).length : Int) = (L.length : Int) - 1 by omega]
    rfl
  · rw [p2, lessMemIS]
    by_cases e : a' = a
    · subst e
      rw [if_pos rfl, delI_memS (lkUpIS h.m1 a'), h.h1]
      simp
    · rw [if_neg e, h.h1]
      simp [e]
  · rw [q2, lessMemIS]
    by_cases e : b' = b
    · subst e
      rw [if_pos rfl, delI_mem (lkUpSI h.m2 b'), h.h2]
      simp
    · rw [if_neg e, h.h2]
      simp [e]
  · exact h.nd.sublist List.filter_sublist
  · rcases hj with rfl | hj | hj
    · exact .inl (.inl rfl)
    · rcases p5 j hj with e | e
      · exact .inl (.inr (.inl e))
      · exact .inr e
    · rcases q5 j hj with e | e
      · exact .inl (.inr (.inr e))
      · exact .inr (by omega)
  · exact ((p4.mono fun j _ e => .inr (.inl e) : Fr (fun j => j = t ∨ BlP b1 T1 j ∨ BlP b2 T2 j) w w1).trans3 q4 fun j _ e => .inr (.inr e)).trans3 fc fun j _ e => .inl e
/-- what Remove does -/
def RemRIS (base t : Nat) (X : Nat → Prop) (most : Int) (L : List ((Int) × (List UInt8))) (a : Int) (b : List UInt8) (w : World) (e : Ending) (w' : World) : Prop :=
  e = .returned (.bool (decide ((a, b) ∈ L))) ∧ ∃ X', (∀ j, X' j → X j ∨ w.heap.size ≤ j) ∧ Fr X w w' ∧ RelAtIS base w' t X' most (lessLIS L a b)

theorem rightsNilIS (a : Int) (w : World) : Calls Tryz.prog 85 #[.pointer none, .int .i64 a] w fun e w' => e = .returned (.pointer none) ∧ w' = w := by
  go_enter Tryz.func85, Tryz.ntmps85
  go_wp2_with fail
  go_ret
  exact ⟨rfl, rfl⟩
theorem relHasNilIS (a : Int) (b : List UInt8) (w : World) : Calls Tryz.prog 65 #[.pointer none, .int .i64 a, .string (bs b)] w fun e w' => e = .returned (.bool false) ∧ w' = w := by
  have HR := Lib.hid (rightsNilIS a w)
  have HS := Lib.hid (set_has_nilS b w)
  go_enter Tryz.func65, Tryz.ntmps65
  go_wp2_with fail
  refine HR.out.mono ?_
  rintro e w1 ⟨rfl, rfl⟩
  go_wp2_with fail
  refine HS.out.mono ?_
  rintro e w2 ⟨rfl, rfl⟩
  go_wp2_with fail
  go_ret
  exact ⟨rfl, rfl⟩
theorem relCountNilIS (a : Int) (w : World) : Calls Tryz.prog 66 #[.pointer none, .int .i64 a] w fun e w' => e = .returned (.int .i64 0) ∧ w' = w := by
  have HR := Lib.hid (rightsNilIS a w)
  have HS := Lib.hid (set_len_nilS w)
  go_enter Tryz.func66, Tryz.ntmps66
  go_wp2_with fail
  refine HR.out.mono ?_
  rintro e w1 ⟨rfl, rfl⟩
  go_wp2_with fail
  refine HS.out.mono ?_
  rintro e w2 ⟨rfl, rfl⟩
  go_wp2_with fail
  go_ret
  exact ⟨rfl, rfl⟩

theorem relAddNilIS (a : Int) (b : List UInt8) (w : World) : Calls Tryz.prog 39 #[.pointer none, .int .i64 a, .string (bs b)] w fun e w' => e = .returned (.int .i64 1) ∧ w' = w := by
  go_enter Tryz.func39, Tryz.ntmps39
  go_wp2_with fail
  go_ret
  exact ⟨rfl, rfl⟩


theorem relByNilIS (b : List UInt8) (w : World) : Calls Tryz.prog 97 #[.pointer none, .string (bs b)] w (AllP [] w) := by
  have HA := Lib.hid (set_all_nil w)
  go_enter Tryz.func97, Tryz.ntmps97
  go_wp2_with fail
  refine HA.out.mono ?_
  rintro e w2 ⟨⟨F, rfl, h4⟩, h5⟩
  have H2 := Lib.hid (And.intro h4 h5)
  clear h4 h5
  go_wp2_with fail
  go_ret
  exact ⟨⟨_, rfl, H2.out.1⟩, H2.out.2⟩
end Go.Proofs.YtpbobonddocgkaaGreatDoor
end
section
/- Layer 11: a relation of ints and strings: in words of its pairs alone. -/
namespace Go.Proofs.YtpbobonddocgkaaGreatDoor
open Go Go.RowKit Go.Maps Go.Lib

theorem AddRIS.ok {base t : Nat} {X : Nat → Prop} {most : Int} {L : List ((Int) × (List UInt8))} {a : Int} {b : List UInt8} {w : World} {e : Ending} {w' : World} (h : AddRIS base t X most L a b w e w') (hn : (a, b) ∉ L) (xs : List (List UInt8)) (h1 : xs.Pairwise (· < ·)) (h2 : ∀ x, x ∈ xs ↔ (a, x) ∈ L) (hl : (xs.length : Int) < most) :
    e = .returned (.int .i64 0) ∧ ∃ X', (∀ j, X' j → X j ∨ w.heap.size ≤ j) ∧ Fr X w w' ∧ RelAtIS base w' t X' most (L ++ [(a, b)]) := by
  obtain ⟨X', p1, p2, ⟨q1, _⟩ | ⟨_, q2, _⟩ | ⟨_, _, q3, q4⟩⟩ := h
  · exact absurd q1 hn
  · have := q2 xs h1 h2; omega
  · exact ⟨q3, X', p1, p2, q4⟩
/-- whatever Add does -/
theorem AddRIS.any {base t : Nat} {X : Nat → Prop} {most : Int} {L : List ((Int) × (List UInt8))} {a : Int} {b : List UInt8} {w : World} {e : Ending} {w' : World} (h : AddRIS base t X most L a b w e w') :
    ∃ X' c L', e = .returned (.int .i64 c) ∧ (∀ j, X' j → X j ∨ w.heap.size ≤ j) ∧ Fr X w w' ∧ RelAtIS base w' t X' most L' ∧ (L' = L ∧ (c = 6 ∧ (a, b) ∈ L ∨ c = 7 ∧ (a, b) ∉ L ∧ (∀ xs : List (List UInt8), xs.Pairwise (· < ·) → (∀ x, x ∈ xs ↔ (a, x) ∈ L) → most ≤ xs.length)) ∨
      L' = L ++ [(a, b)] ∧ c = 0 ∧ (a, b) ∉ L ∧ (∀ xs : List (List UInt8), xs.Pairwise (· < ·) → (∀ x, x ∈ xs ↔ (a, x) ∈ L) → (xs.length : Int) < most)) := by
  obtain ⟨X', p1, p2, ⟨q1, q3, q4⟩ | ⟨q1, q2, q3, q4⟩ | ⟨q1, q2, q3, q4⟩⟩ := h
  · exact ⟨X', 6, L, q3, p1, p2, q4, .inl ⟨rfl, .inl ⟨rfl, q1⟩⟩⟩
  · exact ⟨X', 7, L, q3, p1, p2, q4, .inl ⟨rfl, .inr ⟨rfl, q1, q2⟩⟩⟩
  · exact ⟨X', 0, _, q3, p1, p2, q4, .inr ⟨rfl, rfl, q1, q2⟩⟩
section
variable {base : Nat} {w : World} {t : Nat} {X : Nat → Prop} {most : Int} {L : List ((Int) × (List UInt8))}

theorem byAtIS (h : RelAtIS base w t X most L) (hL : L.length ≤ 100000) {b : List UInt8} (hb : OkKSI b) : ∃ xs : List (Int), xs.Pairwise (· < ·) ∧ (∀ a, a ∈ xs ↔ (a, b) ∈ L) ∧ xs.length ≤ L.length ∧ ∀ V, Fr (fun _ => False) w V → Calls Tryz.prog 97 #[.pointer (some ⟨t, 0, none⟩), .string (bs b)] V (AllP xs V) := by
  obtain ⟨b1, b2, T1, T2, h1, h2⟩ := h
  exact ⟨lk T2 b, lkUpSI h1.m2 b, fun a => h1.h2 a b, h1.keys.2.2.2 b, fun V hV => relByIS (h1.same fun j hj => hV.block j (h1.lt hj).2 fun e => e : RelStIS base V t b1 b2 most L T1 T2) hL hb⟩
theorem hasAtIS (h : RelAtIS base w t X most L) (hL : L.length ≤ 100000) {a : Int} (ha : OkKIS a) (b : List UInt8) : Calls Tryz.prog 65 #[.pointer (some ⟨t, 0, none⟩), .int .i64 a, .string (bs b)] w fun e w' => e = .returned (.bool (decide ((a, b) ∈ L))) ∧ ∃ q, w' = w.drewN q := by
  obtain ⟨b1, b2, T1, T2, h1, h2⟩ := h
  exact relHasIS h1 hL ha b
theorem countAtIS (h : RelAtIS base w t X most L) {a : Int} (ha : OkKIS a) {xs : List (List UInt8)} (hx : xs.Pairwise (· < ·)) (hm : ∀ b, b ∈ xs ↔ (a, b) ∈ L) : Calls Tryz.prog 66 #[.pointer (some ⟨t, 0, none⟩), .int .i64 a] w fun e w' => e = .returned (.int .i64 xs.length) ∧ w' = w := by
  obtain ⟨b1, b2, T1, T2, h1, h2⟩ := h
  have e := up_extS hx (lkUpIS h1.m1 a) fun b => (hm b).trans (h1.h1 a b).symm
  rw [e]
  exact relCountIS h1 ha

theorem RelAtIS.below {w' : World} (h : RelAtIS base w t X most L) (hb : Below w.heap.size w w') : RelAtIS base w' t X most L := h.fr (Fr.of_below (X := fun _ => False) hb) fun _ _ e => e
end
end Go.Proofs.YtpbobonddocgkaaGreatDoor
end
section
/- Rows of numbers of the call's own: slices.Values as a function that tells, in words of what is owned. -/
namespace Go.Proofs.YtpbobonddocgkaaGreatDoor
open Go Go.RowKit Go.Lib Go.Sort Go.Shelf
attribute [local go_sem] Oper.semAt_some

theorem reads_ownI {base : Nat} {w : World} {A : Option Addr} {n c : Nat} {xs : List Int} (h : OwnI base w (.slice A n c) xs) : ReadsI w A xs := fun h0 => by
  rcases h.2 with ⟨h1, h2⟩ | ⟨g, cap, cur, h1, h3, h4, h5, _, h6, h7⟩
  · omega
  · injection h1 with q1 q2 q3
    subst q1
    rw [Nat.mul_one] at h7
    refine ⟨g, 0, rfl, blk_lt h4, fun j hj => ?_⟩
    rw [Nat.zero_add, blk_cell h4 j, own_get (base := 0) (w := w) (cap := 0) h4 h7 j hj]
set_option maxRecDepth 100000 in
set_option maxHeartbeats 4000000 in
theorem values_seqI (base B : Nat) (v : Value) (xs : List Int) (w : World) (hxs : xs.length ≤ 1000000) (hb : w.heap[B]? = some (.cells #[v] 53 (0, 0))) (hr : OwnI base w v xs) :
    SeqF Tryz.prog 134 #[.pointer (some ⟨B, 0, none⟩)] encI (rowY B v) xs w := fun l J Jx X V hs hYl hX hJ hJx hY h0 => by
  have hbV := (hs B (.inl rfl)).trans hb
  have hrV : OwnI base V v xs := own_kept hr fun g hg => hs g (.inr hg)
  obtain ⟨A, c, rfl⟩ := row_slice hr
  have c0 : V.cell? ⟨B, 0, none⟩ = some (.slice A xs.length c) := (blk_cell hbV 0).trans rfl
  have HR := Lib.hid (reads_ownI hrV)
  have HO := Lib.hid hrV
  have HY := Lib.hid hY
  have HX := Lib.hid hX
  have h00 : Hid (∃ X1, GrowX X X1 V V ∧ Fr X V V ∧ J [] X1 V) := ⟨X, GrowX.refl fun k hk => (hX k hk).1, Fr.refl _ _, h0⟩
  clear hb hr hs hrV hbV hY hX h0 hJ hJx hYl
  refine (callsIn_wide (n := 20)).1 ?_
  refine callsIn_of_wp Tryz.func134 rfl trivial ?_ rfl
  simp only [Tryz.ntmps134, List.size_toArray, List.length_cons, List.length_nil, Nat.reduceAdd, Nat.reduceSub, Array.replicate_succ, Array.replicate_zero, List.push_toArray, List.append_toArray, List.nil_append, List.cons_append]
  gi_wp2
  gi_loopw [7] (fun c1 wr => ∃ k : Nat, c1 = .int .i64 k ∧ k ≤ xs.length ∧ Hid (∃ X1, GrowX X X1 V wr ∧ Fr X V wr ∧ J (xs.take k) X1 wr)) (fun c1 _ => xs.length - (Go.RowKit.intOf c1).toNat)
  case atStart => exact ⟨0, rfl, Nat.zero_le _, h00⟩
  case round =>
    obtain ⟨k, rfl, hk, HJ⟩ := hrel
    clear h00
    obtain ⟨X1, hg1, hf1, hj1⟩ := HJ.out
    by_cases hlt : k < xs.length
    · obtain ⟨g, o, rfl, hg, hcell⟩ := HR.out (by omega)
      obtain ⟨x, hx⟩ : ∃ x, xs[k] = x := ⟨_, rfl⟩
      have hgY : rowY B (.slice (some ⟨g, o, none⟩) xs.length c) g := by
        rcases HO.out.2 with ⟨e, _⟩ | ⟨g2, cap, cur, e, _⟩
        · cases e
        · cases e; exact .inr rfl
      have e0 : wr.cell? ⟨g, o + k, none⟩ = some (.int .i64 x) := by
        rw [hf1.cell (p := ⟨g, o + k, none⟩) hg (fun e => (HX.out g e).2 hgY), hcell k hlt, hx]
      have hsp : xs.take k ++ x :: xs.drop (k + 1) = xs := by rw [← hx, ← List.drop_eq_getElem_cons hlt]; exact List.take_append_drop k xs
      have htk : xs.take (k + 1) = xs.take k ++ [x] := by rw [List.take_succ_eq_append_getElem hlt, hx]
      have hyy := HY.out (xs.take k) x (xs.drop (k + 1)) X1 wr hsp hg1 hj1 hf1
      obtain ⟨fn, tmps, assign, body, hy, hR⟩ := hyy
      dsimp only [encI] at hy
      have HT := Lib.hid (And.intro htk (And.intro hsp (And.intro hg1 hf1)))
      clear hx htk hsp hg hcell hg1 hf1 hj1 hgY
      gi_wp2_with fail
      refine (round_wide (.inl rfl) hR).mono ?_
      rintro e W3 ⟨X2, g2, f2, (⟨rfl, hJ3⟩ | ⟨rfl, hJx3⟩)⟩
      · obtain ⟨htk, hsp, hg1, hf1⟩ := HT.out
        have hN : Hid (∃ X1, GrowX X X1 V W3 ∧ Fr X V W3 ∧ J (xs.take (k + 1)) X1 W3) := ⟨X2, hg1.trans g2 hf1.size, hf1.trans3 f2 fun k hk e => (hg1 k e).2 hk, by rw [htk]; exact hJ3⟩
        clear htk hsp hg1 hf1 g2 f2 hJ3 hR hy
        gi_wp2_with fail
        go_roundw
        case rel => exact ⟨k + 1, by go_num, by omega, hN⟩
        case measure => simp [Go.RowKit.intOf]; omega
      · clear hR hy
        gi_wp2_with fail
        refine bodyPost_ret (results_none rfl _ _ _) rfl ?_
        obtain ⟨htk, hsp, hg1, hf1⟩ := HT.out
        exact ⟨⟨_, rfl⟩, X2, hg1.trans g2 hf1.size, hf1.trans3 f2 fun k hk e => (hg1 k e).2 hk, .inr ⟨_, xs.drop (k + 1), by simpa using hsp, hJx3⟩⟩
    · obtain rfl : k = xs.length := by omega
      rw [List.take_length] at hj1
      have HQ := Lib.hid (And.intro hg1 (And.intro hf1 hj1))
      clear hg1 hf1 hj1
      gi_wp2_with fail
      go_end0
      obtain ⟨hg1, hf1, hj1⟩ := HQ.out
      exact ⟨⟨_, rfl⟩, X1, hg1, hf1, .inl hj1⟩
theorem tellsI_tale {base : Nat} {w : World} {F : Value} {xs : List Int} (h : TaleAt base w F xs) (hl : xs.length ≤ 1000000) : ∃ Y, (∀ b, Y b → base ≤ b) ∧ TellsF Tryz.prog encI w F Y xs := by
  obtain ⟨B, v, h1, rfl, h3, h4, h5⟩ := h
  refine ⟨rowY B v, fun b hb => ?_, _, _, rfl, values_seqI base B v xs w hl h3 h5, fun b hb => ?_, enters_of Tryz.func134 (by kernel_rfl) rfl⟩
  · rcases hb with rfl | hb
    · exact h1
    · exact (h5.lt b hb).1
  · rcases hb with rfl | hb
    · exact blk_lt h3
    · exact (h5.lt b hb).2
end Go.Proofs.YtpbobonddocgkaaGreatDoor
end
section
/- Layer 11: a relation of numbers and texts: Drop. -/
namespace Go.Proofs.YtpbobonddocgkaaGreatDoor
open Go Go.RowKit Go.Maps Go.Lib
attribute [local go_sem] Oper.semAt_some

def dropL (L : List (Int × List UInt8)) (a : Int) (pre : List (List UInt8)) : List (Int × List UInt8) := pre.foldl (fun M b => lessLIS M a b) L
theorem dropL_snoc (L : List (Int × List UInt8)) (a : Int) (pre : List (List UInt8)) (x : List UInt8) : dropL L a (pre ++ [x]) = lessLIS (dropL L a pre) a x := by unfold dropL; rw [List.foldl_append]; rfl
theorem dropL_filter (a : Int) : ∀ (pre : List (List UInt8)) (L : List (Int × List UInt8)), dropL L a pre = L.filter fun p => decide (∀ b ∈ pre, p ≠ (a, b))
  | [], L => by
    unfold dropL
    rw [List.foldl_nil, List.filter_eq_self.2]
    intro p _; simp
  | x :: r, L => by
    show dropL (lessLIS L a x) a r = _
    rw [dropL_filter a r]
    unfold lessLIS
    rw [List.filter_filter]
    refine List.filter_congr fun p _ => ?_
    simp [Bool.and_comm]
theorem dropL_all {L : List (Int × List UInt8)} {a : Int} {xs : List (List UInt8)} (h : ∀ b, b ∈ xs ↔ (a, b) ∈ L) : dropL L a xs = L.filter fun p => decide (p.1 ≠ a) := by
  rw [dropL_filter]
  refine List.filter_congr fun p hp => ?_
  rw [decide_eq_decide]
  constructor
  · intro h1 e
    exact h1 p.2 ((h p.2).2 (by rw [← e]; exact hp)) (by rw [← e])
  · intro h1 b _ e
    exact h1 (by rw [e])
theorem dropL_len (L : List (Int × List UInt8)) (a : Int) (pre : List (List UInt8)) : (dropL L a pre).length ≤ L.length := by rw [dropL_filter]; exact List.length_filter_le _ _
theorem dropL_ok {L : List (Int × List UInt8)} {a : Int} {pre : List (List UInt8)} (h : L.Nodup) : (dropL L a pre).Nodup := by rw [dropL_filter]; exact h.sublist List.filter_sublist
/-- how far Drop has come -/
def DropJ (base B t : Nat) (a : Int) (most : Int) (L : List (Int × List UInt8)) (pre : List (List UInt8)) (X : Nat → Prop) (W : World) : Prop :=
  W.heap[B]? = some (.cells #[.pointer (some ⟨t, 0, none⟩)] 80 (0, 0)) ∧ W.heap[B + 1]? = some (.cells #[.int .i64 a] 3 (0, 0)) ∧ W.heap[B + 2]? = some (.cells #[.int .i64 (pre.length : Int)] 3 (0, 0)) ∧
    ∃ Xr, RelAtIS base W t Xr most (dropL L a pre) ∧ (∀ k, Xr k → k ≠ B ∧ k ≠ B + 1 ∧ k ≠ B + 2) ∧ ∀ k, X k ↔ (k = B ∨ k = B + 1 ∨ k = B + 2 ∨ Xr k)
theorem dropJ_stays (base B t : Nat) (a : Int) (most : Int) (L : List (Int × List UInt8)) : Stays (DropJ base B t a most L) := fun pre X V V' ⟨h1, h2, h3, Xr, h4, h5, h6⟩ hl hf =>
  ⟨hf.blk h1 (fun e => e ((h6 _).2 (.inl rfl))), hf.blk h2 (fun e => e ((h6 _).2 (.inr (.inl rfl)))), hf.blk h3 (fun e => e ((h6 _).2 (.inr (.inr (.inl rfl))))), Xr, h4.fr hf fun j hj e => e ((h6 j).2 (.inr (.inr (.inr hj)))), h5, h6⟩
/-- what Drop does -/
def DropR (base t : Nat) (X : Nat → Prop) (most : Int) (L : List (Int × List UInt8)) (a : Int) (w : World) (e : Ending) (w' : World) : Prop :=
  ∃ X' : Nat → Prop, ∃ xs : List (List UInt8), xs.Pairwise (· < ·) ∧ (∀ b, b ∈ xs ↔ (a, b) ∈ L) ∧ e = .returned (.int .i64 (xs.length : Nat)) ∧ (∀ j, X' j → X j ∨ w.heap.size ≤ j) ∧ Fr X w w' ∧ RelAtIS base w' t X' most (L.filter fun p => decide (p.1 ≠ a))
end Go.Proofs.YtpbobonddocgkaaGreatDoor
end
section
/- fold.Byte, fold.turns, cmp.Compare of bytes and numbers: what each answers, for every argument. -/
namespace Go.Proofs.YtpbobonddocgkaaGreatDoor
open Go.RowKit

/-- a byte, folded, as a number -/
def foldI (b : Int) : Int := if 65 ≤ b ∧ b ≤ 93 then b + 32 else if b = 126 then 94 else b
theorem foldI_up {b : Int} (h : 65 ≤ b) (h' : b ≤ 93) : foldI b = b + 32 := by rw [foldI, if_pos ⟨h, h'⟩]
theorem foldI_lo {b : Int} (h : b < 65) : foldI b = b := by rw [foldI, if_neg (by omega), if_neg (by omega)]
theorem foldI_hi {b : Int} (h : 93 < b) (h' : (b == 126) = false) : foldI b = b := by
  have := of_decide_eq_false h'
  rw [foldI, if_neg (by omega), if_neg (by omega)]
theorem foldI_bd (b : Int) (h0 : 0 ≤ b) (h1 : b ≤ 255) : 0 ≤ foldI b ∧ foldI b ≤ 255 := by
  unfold foldI; split
  · omega
  · split <;> omega

theorem byte_any (b : Int) (w : World) (h0 : 0 ≤ b) (h1 : b ≤ 255) :
    Calls Tryz.prog 64 #[.int .u8 b] w fun e w' => e = .returned (.int .u8 (foldI b)) ∧ w = w' := by
  by_cases ha : 65 ≤ b
  · by_cases hb : b ≤ 93
    · go_enter Tryz.func64, Tryz.ntmps64
      go_wp2
      go_ret
      exact ⟨ret_int (foldI_up ha hb).symm, rfl⟩
    · by_cases hc : b = 126
      · subst hc
        go_enter Tryz.func64, Tryz.ntmps64
        go_wp2
        go_ret
        exact ⟨ret_int (by simp [foldI]), rfl⟩
      · have hc' : (b == 126) = false := by simpa using hc
        go_enter Tryz.func64, Tryz.ntmps64
        go_wp2
        go_ret
        exact ⟨ret_int (foldI_hi (by omega) hc').symm, rfl⟩
  · have hc' : (b == 126) = false := by simp; omega
    go_enter Tryz.func64, Tryz.ntmps64
    go_wp2
    go_ret
    exact ⟨ret_int (foldI_lo (by omega)).symm, rfl⟩

theorem turns_any (b : Int) (w : World) (h0 : 0 ≤ b) (h1 : b ≤ 255) :
    Calls Tryz.prog 84 #[.int .u8 b] w fun e w' => e = .returned (.bool (foldI b != b)) ∧ w = w' := by
  go_enter Tryz.func84, Tryz.ntmps84
  go_wp2_with (go_at_call 64; refine (byte_any _ _ h0 h1).mono ?_; rintro e w' ⟨rfl, rfl⟩)
  go_ret
  exact ⟨rfl, rfl⟩

/-- what compares two numbers -/
def cmpI (a b : Int) : Int := if a < b then -1 else if b < a then 1 else 0
theorem cmpI_lt {a b : Int} (h : a < b) : cmpI a b = -1 := by rw [cmpI, if_pos h]
theorem cmpI_gt {a b : Int} (h : b < a) : cmpI a b = 1 := by rw [cmpI, if_neg (by omega), if_pos h]
theorem cmpI_eq {a b : Int} (h : a = b) : cmpI a b = 0 := by rw [cmpI, if_neg (by omega), if_neg (by omega)]
theorem cmpI_bd (a b : Int) : -1 ≤ cmpI a b ∧ cmpI a b ≤ 1 := by
  unfold cmpI; split
  · omega
  · split <;> omega

theorem cmpByte_any (a b : Int) (w : World) :
    Calls Tryz.prog 75 #[.int .u8 a, .int .u8 b] w fun e w' => e = .returned (.int .i64 (cmpI a b)) ∧ w = w' := by
  by_cases h : a < b
  · go_enter Tryz.func75, Tryz.ntmps75
    go_wp2
    go_ret
    exact ⟨ret_int (cmpI_lt h).symm, rfl⟩
  · by_cases h' : b < a
    · go_enter Tryz.func75, Tryz.ntmps75
      go_wp2
      go_ret
      exact ⟨ret_int (cmpI_gt h').symm, rfl⟩
    · go_enter Tryz.func75, Tryz.ntmps75
      go_wp2
      go_ret
      exact ⟨ret_int (cmpI_eq (by omega)).symm, rfl⟩

theorem cmpInt_any (a b : Int) (w : World) :
    Calls Tryz.prog 76 #[.int .i64 a, .int .i64 b] w fun e w' => e = .returned (.int .i64 (cmpI a b)) ∧ w = w' := by
  by_cases h : a < b
  · go_enter Tryz.func76, Tryz.ntmps76
    go_wp2
    go_ret
    exact ⟨ret_int (cmpI_lt h).symm, rfl⟩
  · by_cases h' : b < a
    · go_enter Tryz.func76, Tryz.ntmps76
      go_wp2
      go_ret
      exact ⟨ret_int (cmpI_gt h').symm, rfl⟩
    · go_enter Tryz.func76, Tryz.ntmps76
      go_wp2
      go_ret
      exact ⟨ret_int (cmpI_eq (by omega)).symm, rfl⟩
/-- a byte, folded -/
def foldB (b : UInt8) : UInt8 := if 65 ≤ b ∧ b ≤ 93 then b + 32 else if b = 126 then 94 else b
theorem foldB_nat (b : UInt8) : foldI (b.toNat : Int) = ((foldB b).toNat : Int) := by
  have hb := b.toNat_lt
  unfold foldB foldI
  by_cases h : 65 ≤ b ∧ b ≤ 93
  · rw [if_pos h]
    simp only [UInt8.le_iff_toNat_le] at h
    have e1 : (65 : UInt8).toNat = 65 := rfl
    have e2 : (93 : UInt8).toNat = 93 := rfl
    rw [e1, e2] at h
    rw [if_pos (by omega), UInt8.toNat_add]
    have e3 : (32 : UInt8).toNat = 32 := rfl
    omega
  · rw [if_neg h]
    simp only [UInt8.le_iff_toNat_le] at h
    have e1 : (65 : UInt8).toNat = 65 := rfl
    have e2 : (93 : UInt8).toNat = 93 := rfl
    rw [e1, e2] at h
    rw [if_neg (by omega)]
    by_cases h2 : b = 126
    · subst h2; rfl
    · rw [if_neg h2, if_neg]
      intro e
      apply h2
      apply UInt8.toNat_inj.mp
      have : (126 : UInt8).toNat = 126 := rfl
      omega
theorem byte_u8 (c : UInt8) (w : World) :
    Calls Tryz.prog 64 #[.int .u8 ↑c.toNat] w fun e w' => e = .returned (.int .u8 ↑(foldB c).toNat) ∧ w = w' :=
  (byte_any _ w (u8_bd c).1 (u8_bd c).2).mono fun _ _ h => by rw [foldB_nat] at h; exact h
theorem turns_u8 (c : UInt8) (w : World) :
    Calls Tryz.prog 84 #[.int .u8 ↑c.toNat] w fun e w' => e = .returned (.bool (foldB c != c)) ∧ w = w' :=
  (turns_any _ w (u8_bd c).1 (u8_bd c).2).mono fun _ _ h => by
    have e : (foldI (c.toNat : Int) != (c.toNat : Int)) = (foldB c != c) := by
      rw [foldB_nat, Bool.eq_iff_iff]
      simp only [bne_iff_ne, ne_eq]
      constructor
      · intro h1 h2; exact h1 (by rw [h2])
      · intro h1 h2; exact h1 (UInt8.toNat_inj.mp (by omega))
    rw [e] at h; exact h
end Go.Proofs.YtpbobonddocgkaaGreatDoor
end
section
/- fold.Compare: which of two texts stands ahead. -/
namespace Go.Proofs.YtpbobonddocgkaaGreatDoor
open Go.RowKit

def foldL (l : List UInt8) : List UInt8 := l.map foldB
@[simp] theorem foldL_nil : foldL [] = [] := rfl
@[simp] theorem foldL_cons (x : UInt8) (l : List UInt8) : foldL (x :: l) = foldB x :: foldL l := rfl
@[simp] theorem foldL_length (l : List UInt8) : (foldL l).length = l.length := by simp [foldL]
@[simp] theorem foldL_append (a b : List UInt8) : foldL (a ++ b) = foldL a ++ foldL b := by simp [foldL]

/-- which of two rows of bytes stands ahead -/
def cmpL : List UInt8 → List UInt8 → Int
  | [], [] => 0
  | [], _ :: _ => -1
  | _ :: _, [] => 1
  | x :: xs, y :: ys => if x.toNat < y.toNat then -1 else if y.toNat < x.toNat then 1 else cmpL xs ys

theorem ba_drop (s : ByteArray) (k : Nat) (h : k < s.size) : s.data.toList.drop k = s[k] :: s.data.toList.drop (k + 1) := by
  rw [List.drop_eq_getElem_cons (by simpa using h)]; rfl
theorem ba_drop_end (s : ByteArray) (k : Nat) (h : s.size ≤ k) : s.data.toList.drop k = [] := by
  rw [List.drop_eq_nil_iff]; simpa using h
theorem ba_take (s : ByteArray) (k : Nat) (h : k < s.size) : s.data.toList.take (k + 1) = s.data.toList.take k ++ [s[k]] := by
  rw [List.take_succ_eq_append_getElem (by simpa using h)]; rfl
theorem ba_len (s : ByteArray) : s.data.toList.length = s.size := by simp

/-- two texts, folded, from a place on -/
def cmpAt (a b : ByteArray) (k : Nat) : Int := cmpL (foldL (a.data.toList.drop k)) (foldL (b.data.toList.drop k))
theorem cmpAt_stop {a b : ByteArray} {k : Nat} (ha : k < a.size) (hb : k < b.size) (h : cmpI ↑(foldB a[k]).toNat ↑(foldB b[k]).toNat ≠ 0) :
    cmpI ↑(foldB a[k]).toNat ↑(foldB b[k]).toNat = cmpAt a b k := by
  unfold cmpAt
  rw [ba_drop a k ha, ba_drop b k hb]
  simp only [foldL_cons, cmpL]
  unfold cmpI at *
  split
  · rw [if_pos (by omega)]
  · rename_i h1
    rw [if_neg h1] at h
    split
    · rw [if_neg (by omega), if_pos (by omega)]
    · rename_i h2; rw [if_neg h2] at h; exact absurd rfl h
theorem cmpAt_step {a b : ByteArray} {k : Nat} (ha : k < a.size) (hb : k < b.size) (h : cmpI ↑(foldB a[k]).toNat ↑(foldB b[k]).toNat = 0) :
    cmpAt a b (k + 1) = cmpAt a b k := by
  unfold cmpAt
  rw [ba_drop a k ha, ba_drop b k hb]
  simp only [foldL_cons, cmpL]
  unfold cmpI at h
  split at h
  · cases h
  · split at h
    · cases h
    · rw [if_neg (by omega), if_neg (by omega)]
theorem cmpAt_end {a b : ByteArray} {k : Nat} (h : k = a.size ∨ k = b.size) (ha : k ≤ a.size) (hb : k ≤ b.size) : cmpI ↑a.size ↑b.size = cmpAt a b k := by
  unfold cmpAt
  by_cases h1 : k < a.size
  · rw [ba_drop a k h1, ba_drop_end b k (by omega), cmpI_gt (by omega)]; rfl
  · rw [ba_drop_end a k (by omega)]
    by_cases h2 : k < b.size
    · rw [ba_drop b k h2, cmpI_lt (by omega)]; rfl
    · rw [ba_drop_end b k (by omega), cmpI_eq (by omega)]; rfl

set_option maxHeartbeats 400000 in
theorem compare_le (a b : ByteArray) (w : World) (_ha : a.size ≤ 1000000) (hb : b.size ≤ 1000000) (hab : a.size ≤ b.size) :
    Calls Tryz.prog 58 #[.string a, .string b] w fun e w' => e = .returned (.int .i64 (cmpAt a b 0)) ∧ ∃ n, w' = w.drewN n := by
  go_enter Tryz.func58, Tryz.ntmps58
  go_wp2_with fail
  go_loopw [5, 6, 12] (fun _ _ i wr => ∃ k : Nat, k ≤ a.size ∧ i = .int .i64 k ∧ cmpAt a b k = cmpAt a b 0 ∧ ∃ n, wr = w.drewN n) (fun _ _ i _ => a.size - (Go.RowKit.intOf i).toNat)
  case atStart => exact ⟨0, Nat.zero_le _, rfl, rfl, 0, rfl⟩
  case round =>
    obtain ⟨k, hk, rfl, hq, hw⟩ := hrel
    have Hw := Lib.hid hw
    have Hq := Lib.hid hq
    clear hw hq
    by_cases hlt : k < a.size
    · have hlt2 : k < b.size := by omega
      go_wp2_with fail
      go_quiet ((first | (go_at_call 64; refine Calls.quiet_of_same ((byte_u8 _ _).mono fun e w' h => ⟨h.1, h.2.symm⟩)) | (go_at_call 75; refine Calls.quiet_of_same ((cmpByte_any _ _ _).mono fun e w' h => ⟨h.1, h.2.symm⟩))))
      by_cases hc : cmpI ↑(foldB a[k]).toNat ↑(foldB b[k]).toNat = 0
      · have hs := (cmpAt_step hlt hlt2 hc).trans Hq.out
        have Hs := Lib.hid hs
        have hcb : (cmpI ↑(foldB a[k]).toNat ↑(foldB b[k]).toNat != 0) = false := by rw [hc]; rfl
        clear hs hc
        go_wp2
        go_roundw
        case rel => obtain ⟨n, rfl⟩ := Hw.out; exact ⟨k + 1, by omega, by go_num, Hs.out, n + nq, by rw [World.drewN_drewN]⟩
        case measure => simp [Go.RowKit.intOf]; omega
      · have hs := (cmpAt_stop hlt hlt2 hc).trans Hq.out
        have Hs := Lib.hid hs
        have hcb : (cmpI ↑(foldB a[k]).toNat ↑(foldB b[k]).toNat != 0) = true := by rw [bne_iff_ne]; exact hc
        clear hs hc
        go_wp2
        go_ret
        obtain ⟨n, rfl⟩ := Hw.out
        exact ⟨ret_int Hs.out, n + nq, by rw [World.drewN_drewN]⟩
    · have hs := (cmpAt_end (a := a) (b := b) (k := k) (by omega) hk (by omega)).trans Hq.out
      have Hs := Lib.hid hs
      clear hs
      go_wp2_with (go_at_call 76; refine (cmpInt_any _ _ _).mono ?_; rintro e w' ⟨rfl, rfl⟩)
      go_ret
      exact ⟨ret_int Hs.out, Hw.out⟩

set_option maxHeartbeats 400000 in
theorem compare_gt (a b : ByteArray) (w : World) (ha : a.size ≤ 1000000) (_hb : b.size ≤ 1000000) (hab : b.size < a.size) :
    Calls Tryz.prog 58 #[.string a, .string b] w fun e w' => e = .returned (.int .i64 (cmpAt a b 0)) ∧ ∃ n, w' = w.drewN n := by
  go_enter Tryz.func58, Tryz.ntmps58
  go_wp2_with fail
  go_loopw [5, 6, 12] (fun _ _ i wr => ∃ k : Nat, k ≤ b.size ∧ i = .int .i64 k ∧ cmpAt a b k = cmpAt a b 0 ∧ ∃ n, wr = w.drewN n) (fun _ _ i _ => b.size - (Go.RowKit.intOf i).toNat)
  case atStart => exact ⟨0, Nat.zero_le _, rfl, rfl, 0, rfl⟩
  case round =>
    obtain ⟨k, hk, rfl, hq, hw⟩ := hrel
    have Hw := Lib.hid hw
    have Hq := Lib.hid hq
    clear hw hq
    by_cases hlt2 : k < b.size
    · have hlt : k < a.size := by omega
      go_wp2_with fail
      go_quiet ((first | (go_at_call 64; refine Calls.quiet_of_same ((byte_u8 _ _).mono fun e w' h => ⟨h.1, h.2.symm⟩)) | (go_at_call 75; refine Calls.quiet_of_same ((cmpByte_any _ _ _).mono fun e w' h => ⟨h.1, h.2.symm⟩))))
      by_cases hc : cmpI ↑(foldB a[k]).toNat ↑(foldB b[k]).toNat = 0
      · have hs := (cmpAt_step hlt hlt2 hc).trans Hq.out
        have Hs := Lib.hid hs
        have hcb : (cmpI ↑(foldB a[k]).toNat ↑(foldB b[k]).toNat != 0) = false := by rw [hc]; rfl
        clear hs hc
        go_wp2
        go_roundw
        case rel => obtain ⟨n, rfl⟩ := Hw.out; exact ⟨k + 1, by omega, by go_num, Hs.out, n + nq, by rw [World.drewN_drewN]⟩
        case measure => simp [Go.RowKit.intOf]; omega
      · have hs := (cmpAt_stop hlt hlt2 hc).trans Hq.out
        have Hs := Lib.hid hs
        have hcb : (cmpI ↑(foldB a[k]).toNat ↑(foldB b[k]).toNat != 0) = true := by rw [bne_iff_ne]; exact hc
        clear hs hc
        go_wp2
        go_ret
        obtain ⟨n, rfl⟩ := Hw.out
        exact ⟨ret_int Hs.out, n + nq, by rw [World.drewN_drewN]⟩
    · have hs := (cmpAt_end (a := a) (b := b) (k := k) (by omega) (by omega) hk).trans Hq.out
      have Hs := Lib.hid hs
      clear hs
      go_wp2_with (go_at_call 76; refine (cmpInt_any _ _ _).mono ?_; rintro e w' ⟨rfl, rfl⟩)
      go_ret
      exact ⟨ret_int Hs.out, Hw.out⟩

/-- what compares two texts, folded -/
def cmpF (a b : List UInt8) : Int := cmpL (foldL a) (foldL b)
theorem compare_any (a b : ByteArray) (w : World) (ha : a.size ≤ 1000000) (hb : b.size ≤ 1000000) :
    Calls Tryz.prog 58 #[.string a, .string b] w fun e w' => e = .returned (.int .i64 (cmpF a.data.toList b.data.toList)) ∧ ∃ n, w' = w.drewN n := by
  have e : cmpAt a b 0 = cmpF a.data.toList b.data.toList := rfl
  by_cases h : a.size ≤ b.size
  · rw [← e]; exact compare_le a b w ha hb h
  · rw [← e]; exact compare_gt a b w ha hb (by omega)
end Go.Proofs.YtpbobonddocgkaaGreatDoor
end
section
/- fold.Same, fold.Prefix; the document's Byte. -/
namespace Go.Proofs.YtpbobonddocgkaaGreatDoor
open Go.RowKit

theorem cmpL_zero : ∀ {a b : List UInt8}, cmpL a b = 0 ↔ a = b
  | [], [] => by simp [cmpL]
  | [], _ :: _ => by simp [cmpL]
  | _ :: _, [] => by simp [cmpL]
  | x :: xs, y :: ys => by
    simp only [cmpL, List.cons.injEq]
    by_cases h1 : x.toNat < y.toNat
    · rw [if_pos h1]; constructor
      · intro h; cases h
      · rintro ⟨rfl, _⟩; omega
    · rw [if_neg h1]
      by_cases h2 : y.toNat < x.toNat
      · rw [if_pos h2]; constructor
        · intro h; cases h
        · rintro ⟨rfl, _⟩; omega
      · rw [if_neg h2, cmpL_zero]
        have : x = y := UInt8.toNat_inj.mp (by omega)
        simp [this]

/-- are two texts alike? -/
def sameF (a b : List UInt8) : Bool := foldL a == foldL b
theorem sameF_iff {a b : List UInt8} : sameF a b = true ↔ foldL a = foldL b := by simp [sameF]
theorem sameF_len {a b : List UInt8} (h : a.length ≠ b.length) : sameF a b = false := by
  rw [Bool.eq_false_iff]; intro e
  rw [sameF_iff] at e
  have := congrArg List.length e
  simp at this; exact h this
theorem sameF_cmp (a b : List UInt8) : (cmpF a b == 0) = sameF a b := by
  rw [Bool.eq_iff_iff, sameF_iff, beq_iff_eq]; exact cmpL_zero

theorem same_any (a b : ByteArray) (w : World) (ha : a.size ≤ 1000000) (hb : b.size ≤ 1000000) :
    Calls Tryz.prog 33 #[.string a, .string b] w fun e w' => e = .returned (.bool (sameF a.data.toList b.data.toList)) ∧ ∃ n, w' = w.drewN n := by
  by_cases h : a.size = b.size
  · have h1 : ((a.size : Int) == (b.size : Int)) = true := by rw [h]; simp
    have H := Lib.hid h
    clear h
    go_enter Tryz.func33, Tryz.ntmps33
    go_wp2_with (go_at_call 58; refine (compare_any _ _ _ ha hb).mono ?_; rintro e w' ⟨rfl, hw⟩; have Hw := Lib.hid hw; clear hw)
    go_ret
    exact ⟨ret_bool (sameF_cmp _ _), Hw.out⟩
  · have h1 : ((a.size : Int) == (b.size : Int)) = false := by rw [beq_eq_false_iff_ne]; omega
    have hs := sameF_len (a := a.data.toList) (b := b.data.toList) (by simpa using h)
    have Hs := Lib.hid hs
    have H := Lib.hid h
    clear h hs
    go_enter Tryz.func33, Tryz.ntmps33
    go_wp2_with fail
    go_ret
    exact ⟨ret_bool Hs.out.symm, 0, rfl⟩
end Go.Proofs.YtpbobonddocgkaaGreatDoor
end
section
/- fold.Prefix; the document's Byte. -/
namespace Go.Proofs.YtpbobonddocgkaaGreatDoor
open Go.RowKit

theorem ba_extract0 (s : ByteArray) (n : Nat) : (s.extract 0 n).data.toList = s.data.toList.take n := by
  simp [ByteArray.data_extract]
theorem ba_extract_to (s : ByteArray) (n : Nat) : (s.extract n s.size).data.toList = s.data.toList.drop n := by
  simp only [ByteArray.data_extract, Array.toList_extract, List.extract_eq_take_drop]
  rw [List.take_of_length_le]; simp



def fromB : ByteArray := ⟨#[65, 66, 67, 68, 69, 70, 71, 72, 73, 74, 75, 76, 77, 78, 79, 80, 81, 82, 83, 84, 85, 86, 87, 88, 89, 90, 91, 93, 92, 126]⟩
def toB : ByteArray := ⟨#[97, 98, 99, 100, 101, 102, 103, 104, 105, 106, 107, 108, 109, 110, 111, 112, 113, 114, 115, 116, 117, 118, 119, 120, 121, 122, 123, 125, 124, 94]⟩
theorem from_found : ∀ k : Fin 30, foldB (fromB[k.1]'(k.2)) = toB[k.1]'(k.2) := by decide +kernel
theorem from_all : ∀ n : Fin 256, foldB (UInt8.ofNat n) = UInt8.ofNat n ∨ ∃ k : Fin 30, fromB[k.1]'(k.2) = UInt8.ofNat n := by decide +kernel
theorem from_none (b : UInt8) (h : ∀ k : Fin 30, fromB[k.1]'(k.2) ≠ b) : foldB b = b := by
  have := from_all ⟨b.toNat, b.toNat_lt⟩
  simp only [UInt8.ofNat_toNat] at this
  rcases this with h1 | ⟨k, hk⟩
  · exact h1
  · exact absurd hk (h k)

end Go.Proofs.YtpbobonddocgkaaGreatDoor
end
section
/- fold.Runs: the pieces of a text, one by one, as a function that ranges. -/
namespace Go.Proofs.YtpbobonddocgkaaGreatDoor
open Go.RowKit Go.Shelf
attribute [local go_sem] Oper.semAt_some

/-- a piece: its text, and whether its bytes are changed by folding -/
abbrev Piece := { x : ByteArray × Bool // x.1.size ≤ 1000000 }
abbrev encPiece (x : Piece) : Array Value := #[.string x.1.1, .bool x.1.2]
def tb (b : UInt8) : Bool := foldB b != b
theorem turns_tb (c : UInt8) (w : World) :
    Calls Tryz.prog 84 #[.int .u8 ↑c.toNat] w fun e w' => e = .returned (.bool (tb c)) ∧ w = w' := turns_u8 c w
/-- all bytes of pieces -/
def flat : List Piece → List UInt8
  | [] => []
  | x :: r => x.1.1.data.toList ++ flat r
theorem flat_snoc (l : List Piece) (x : Piece) : flat (l ++ [x]) = flat l ++ x.1.1.data.toList := by
  induction l with
  | nil => simp [flat]
  | cons y r ih => simp [flat, ih]
/-- is the next piece as it must be behind these: not empty, of one sort, of the other sort than the last one? -/
def okNext (pre : List Piece) (x : Piece) : Prop :=
  x.1.1.size ≠ 0 ∧ (∀ b ∈ x.1.1.data.toList, tb b = x.1.2) ∧ ∀ y, pre.getLast? = some y → x.1.2 ≠ y.1.2
/-- are pieces as they must be, each behind those ahead of it? -/
def okAll : List Piece → Prop
  | l => ∀ a x r, l = a ++ x :: r → okNext a x
theorem okAll_nil : okAll [] := by intro a x r h; simp at h
theorem okAll_snoc {l : List Piece} {x : Piece} : okAll (l ++ [x]) ↔ okAll l ∧ okNext l x := by
  constructor
  · intro h
    exact ⟨fun a y r e => h a y (r ++ [x]) (by rw [e]; simp), h l x [] rfl⟩
  · rintro ⟨h1, h2⟩ a y r e
    rcases List.eq_nil_or_concat r with rfl | ⟨r', z, rfl⟩
    · have : l ++ [x] = a ++ [y] := e
      obtain ⟨e1, e2⟩ := List.append_inj' this rfl
      simp at e2
      subst e1 e2; exact h2
    · have : l ++ [x] = (a ++ y :: r') ++ [z] := by rw [e]; simp
      obtain ⟨e1, e2⟩ := List.append_inj' this rfl
      exact h1 a y r' e1

/-- how far the pieces have come: what they are of, what is left -/
def RunsAt (l : List UInt8) (pre : List Piece) (rest : List UInt8) : Prop :=
  flat pre ++ rest = l ∧ okAll pre ∧ ∀ y b r, pre.getLast? = some y → rest = b :: r → tb b ≠ y.1.2

theorem flat_len {pre : List Piece} (h : okAll pre) : pre.length ≤ (flat pre).length := by
  induction pre using snoc_ind with
  | nil => simp
  | snoc l x ih =>
    rw [okAll_snoc] at h
    have := ih h.1
    have hx := h.2.1
    rw [flat_snoc]
    simp; omega

theorem runsAt_nil (l : List UInt8) : RunsAt l [] l := ⟨by simp [flat], okAll_nil, by intro y b r h; simp at h⟩

theorem RunsAt.snoc {l : List UInt8} {pre : List Piece} {p q : List UInt8} {t : Bool} (h : RunsAt l pre (p ++ q)) (hp : p ≠ [])
    (ht : ∀ b ∈ p, tb b = t) (hq : ∀ b r, q = b :: r → tb b ≠ t) (x : Piece) (hx : x.1 = (bs p, t)) : RunsAt l (pre ++ [x]) q := by
  obtain ⟨h1, h2, h3⟩ := h
  refine ⟨?_, okAll_snoc.2 ⟨h2, ?_⟩, ?_⟩
  · rw [flat_snoc, hx]; simpa using h1
  · refine ⟨?_, ?_, ?_⟩
    · rw [hx]; simp; exact hp
    · rw [hx]; simpa using ht
    · intro y hy
      rw [hx]
      obtain ⟨b, p', rfl⟩ := List.exists_cons_of_ne_nil hp
      have := h3 y b (p' ++ q) hy rfl
      rw [ht b (by simp)] at this
      exact this
  · intro y b r hy hr
    simp at hy
    subst hy
    rw [hx]
    exact hq b r hr

theorem RunsAt.bound {l : List UInt8} {pre : List Piece} {b : UInt8} {r : List UInt8} (h : RunsAt l pre (b :: r)) : pre.length < l.length := by
  have := flat_len h.2.1
  rw [← h.1]; simp; omega

theorem all_take (R : ByteArray) (t : Bool) (k : Nat) (hk : k ≤ R.size) (h : ∀ j (h : j < R.size), j < k → tb R[j] = t) : ∀ b ∈ R.data.toList.take k, tb b = t := by
  intro b hb
  obtain ⟨j, hj, rfl⟩ := List.mem_iff_getElem.1 hb
  simp only [List.length_take, ba_len] at hj
  rw [List.getElem_take]
  exact h j (by omega) (by omega)

theorem RunsAt.cut {l : List UInt8} {pre : List Piece} {R : ByteArray} (h : RunsAt l pre R.data.toList) (k : Nat) (hk : k < R.size) (t : Bool) (h0 : t = tb (R[0]'(by omega)))
    (ha : ∀ j (h : j < R.size), j < k → tb R[j] = t) (hn : tb R[k] ≠ t) (x : Piece) (hx : x.1 = (R.extract 0 k, t)) : RunsAt l (pre ++ [x]) (R.extract k R.size).data.toList := by
  have hk0 : k ≠ 0 := by rintro rfl; exact hn h0.symm
  rw [ba_extract_to]
  refine RunsAt.snoc (p := R.data.toList.take k) (t := t) (by rw [List.take_append_drop]; exact h) ?_ (all_take R t k (by omega) ha) ?_ x ?_
  · intro e
    have := congrArg List.length e
    rw [List.length_take, ba_len, List.length_nil] at this
    omega
  · intro b r e
    rw [ba_drop R k hk] at e
    cases e
    exact hn
  · rw [hx, ← ba_extract0]; rfl

theorem RunsAt.last {l : List UInt8} {pre : List Piece} {R : ByteArray} (h : RunsAt l pre R.data.toList) (hk : 0 < R.size) (t : Bool)
    (ha : ∀ j (h : j < R.size), j < R.size → tb R[j] = t) (x : Piece) (hx : x.1 = (R, t)) : RunsAt l (pre ++ [x]) [] := by
  refine RunsAt.snoc (p := R.data.toList) (t := t) (by rw [List.append_nil]; exact h) ?_ ?_ (by intro b r e; cases e) x (by rw [hx]; rfl)
  · intro e
    have := congrArg List.length e
    rw [ba_len, List.length_nil] at this
    omega
  · have := all_take R t R.size (Nat.le_refl _) ha
    rw [List.take_of_length_le (by rw [ba_len]; exact Nat.le_refl _)] at this
    exact this
end Go.Proofs.YtpbobonddocgkaaGreatDoor
end
section
/- fold.Runs: the walk of its function that ranges. -/
namespace Go.Proofs.YtpbobonddocgkaaGreatDoor
open Go.RowKit Go.Shelf
attribute [local go_sem] Oper.semAt_some

theorem runs_any (s : ByteArray) (w : World) :
    Calls Tryz.prog 63 #[.string s] w fun e w' => e = .returned (.func (.func 83) #[] #[.pointer (some ⟨w.heap.size, 0, none⟩)]) ∧ w' = w.alloc (.cells #[.string s] 9) := by
  go_enter Tryz.func63, Tryz.ntmps63
  go_wp2
  go_ret
  exact ⟨rfl, rfl⟩

set_option maxRecDepth 100000 in
set_option maxHeartbeats 1000000 in
theorem runs_stops (n : Nat) (hn : 2 ≤ n) (B : Nat) (s : ByteArray) (w : World) (hs : s.size ≤ 1000000) (hB : B < w.heap.size) (hc : w.cell? ⟨B, 0, none⟩ = some (.string s)) :
    SeqStopsK Fence.wide n Tryz.prog 83 #[.pointer (some ⟨B, 0, none⟩)] encPiece (fun _ _ => True)
      (fun xs => RunsAt s.data.toList xs []) (fun pre => ∃ r, RunsAt s.data.toList pre r) s.size w := fun l J Jx W hW hJ hJx hY h0 => by
  have hc1 : W.cell? ⟨B, 0, none⟩ = some (.string s) := (hW.cell (p := ⟨B, 0, none⟩) hB).trans hc
  refine callsIn_of_wp Tryz.func83 rfl trivial ?_ rfl
  simp only [Tryz.ntmps83, List.size_toArray, List.length_cons, List.length_nil, Nat.reduceAdd, Nat.reduceSub, Array.replicate_succ, Array.replicate_zero, List.push_toArray, List.append_toArray, List.nil_append, List.cons_append]
  gi_wp2
  refine wpIn_scope ?_
  gi_wp2
  refine wpIn_label ?_
  gi_wp2
  gi_loopw [3] (fun p wr => ∃ (pre : List Piece) (R : ByteArray), p = .string R ∧ Hid (RunsAt s.data.toList pre R.data.toList ∧ R.size ≤ s.size) ∧ J pre wr) (fun p _ => match p with | .string R => R.size | _ => 0)
  case atStart => exact ⟨[], s, rfl, ⟨runsAt_nil _, Nat.le_refl _⟩, h0⟩
  case round =>
    obtain ⟨pre, R, rfl, HR, hJs⟩ := hrel
    by_cases hR : R.size = 0
    · have hRb := str_em hR
      have hd := HR.out.1
      rw [str_nil hR] at hd
      have Hd := Lib.hid hd
      clear hd hR
      gi_wp2_with fail
      rw [noGoto_normal]
      go_end0
      exact ⟨⟨_, rfl⟩, .inl ⟨pre, Hd.out, hJs⟩⟩
    · have hR0 : 0 < R.size := by omega
      have hRb := str_ne hR0
      have hRs : R.size ≤ 1000000 := by have := HR.out.2; omega
      have hlen : pre.length < s.size := by
        have := HR.out.1
        rw [show R.data.toList = R.data.toList.drop 0 from rfl, ba_drop R 0 hR0] at this
        simpa using this.bound
      clear hR
      gi_wp2_with fail
      refine ⟨trivial, fun _ => by omega, ((callsIn_wide (n := n - 1)).2 (turns_tb _ _)).mono ?_⟩
      rintro e w' ⟨rfl, rfl⟩
      obtain ⟨t, ht⟩ : ∃ t, t = tb R[0] := ⟨_, rfl⟩
      rw [← ht]
      have Ht := Lib.hid ht
      clear ht
      gi_wp2_with fail
      gi_loop [3, 14] (fun p i => ∃ k : Nat, p = .string R ∧ i = .int .i64 k ∧ k ≤ R.size ∧ Hid (∀ j (h : j < R.size), j < k → tb R[j] = t)) (fun _ i => R.size - (Go.RowKit.intOf i).toNat)
      case atStart => exact ⟨0, rfl, rfl, Nat.zero_le _, fun j _ h => absurd h (Nat.not_lt_zero j)⟩
      case round =>
        obtain ⟨k, rfl, rfl, hk, Hk⟩ := hrel
        by_cases hlt : k < R.size
        · gi_wp2_with fail
          refine ⟨trivial, fun _ => by omega, ((callsIn_wide (n := n - 1)).2 (turns_tb _ _)).mono ?_⟩
          rintro e w' ⟨rfl, rfl⟩
          by_cases he : tb R[k] = t
          · have heb : (tb R[k] == t) = true := by rw [he]; simp
            have He := Lib.hid he
            clear he
            gi_wp2_with fail
            go_round
            case rel => exact ⟨k + 1, rfl, by go_num, by omega, fun j h hj => by
              by_cases hjk : j = k
              · subst hjk; exact He.out
              · exact Hk.out j h (by omega)⟩
            case measure => simp [Go.RowKit.intOf]; omega
          · have heb : (tb R[k] == t) = false := by rw [beq_eq_false_iff_ne]; exact he
            have He := Lib.hid he
            clear he
            have hsz : (R.extract 0 k).size ≤ 1000000 := by simp; omega
            obtain ⟨fn, tmps, assign, body, hy, hR⟩ := hY pre ⟨(R.extract 0 k, t), hsz⟩ wr hJs hlen
            dsimp only [encPiece] at hy
            gi_wp2_with fail
            refine ⟨fun _ => by omega, hR.mono ?_⟩
            rintro e W3 (⟨rfl, hJ3, _⟩ | ⟨rfl, hJx3⟩)
            · have hcut := HR.out.1.cut k hlt t Ht.out Hk.out He.out ⟨(R.extract 0 k, t), hsz⟩ rfl
              have hsm : (R.extract k R.size).size < R.size := by
                have hk0 : k ≠ 0 := by rintro rfl; exact He.out Ht.out.symm
                simp; omega
              have Hcut := Lib.hid (And.intro hcut (And.intro hsm HR.out.2))
              clear hcut hsm
              gi_wp2_with fail
              go_roundw
              case rel => exact ⟨pre ++ [⟨(R.extract 0 k, t), hsz⟩], _, rfl, ⟨Hcut.out.1, by have := Hcut.out.2; omega⟩, hJ3⟩
              case measure => exact Hcut.out.2.1
            · have hcut := HR.out.1.cut k hlt t Ht.out Hk.out He.out ⟨(R.extract 0 k, t), hsz⟩ rfl
              have Hcut := Lib.hid hcut
              clear hcut
              gi_wp2_with fail
              rw [noGoto_ret']
              refine bodyPost_ret (results_none rfl _ _ _) rfl ?_
              exact ⟨⟨_, rfl⟩, .inr ⟨_, ⟨_, Hcut.out⟩, hJx3⟩⟩
        · have hlast := HR.out.1.last hR0 t (fun j h hj => Hk.out j h (by omega)) ⟨(R, t), hRs⟩ rfl
          have Hlast := Lib.hid hlast
          clear hlast
          obtain ⟨fn, tmps, assign, body, hy, hR⟩ := hY pre ⟨(R, t), hRs⟩ wr hJs hlen
          dsimp only [encPiece] at hy
          gi_wp2_with fail
          refine ⟨fun _ => by omega, hR.mono ?_⟩
          rintro e W3 (⟨rfl, hJ3, _⟩ | ⟨rfl, hJx3⟩)
          · gi_wp2_with fail
            rw [noGoto_ret']
            refine bodyPost_ret (results_none rfl _ _ _) rfl ?_
            exact ⟨⟨_, rfl⟩, .inl ⟨_, Hlast.out, hJ3⟩⟩
          · gi_wp2_with fail
            rw [noGoto_ret']
            refine bodyPost_ret (results_none rfl _ _ _) rfl ?_
            exact ⟨⟨_, rfl⟩, .inr ⟨_, ⟨_, Hlast.out⟩, hJx3⟩⟩
end Go.Proofs.YtpbobonddocgkaaGreatDoor
end
section
/- fold.Text: what is folded. -/
namespace Go.Proofs.YtpbobonddocgkaaGreatDoor
open Go.RowKit Go.Shelf
attribute [local go_sem] Oper.semAt_some

/-- bytes as cells -/
def u8s (l : List UInt8) : List Value := l.map fun b => Value.int .u8 b.toNat
theorem u8s_append (a b : List UInt8) : u8s (a ++ b) = u8s a ++ u8s b := by simp [u8s]
theorem u8s_bytes (s : ByteArray) : byteCells s = u8s s.data.toList := rfl

theorem u8s_step (a : List UInt8) (p : ByteArray) (k : Nat) (h : k < p.size) :
    u8s (a ++ (p.data.toList.map foldB).take (k + 1)) = u8s (a ++ (p.data.toList.map foldB).take k) ++ [.int .u8 (foldB p[k]).toNat] := by
  rw [← List.map_take, ba_take p k h, List.map_append, ← List.append_assoc, u8s_append, List.map_take]
  rfl

/-- what pieces are folded to -/
def tx (pre : List Piece) : List UInt8 := pre.flatMap fun x => if x.1.2 then x.1.1.data.toList.map foldB else x.1.1.data.toList
theorem tx_snoc (pre : List Piece) (x : Piece) : tx (pre ++ [x]) = tx pre ++ (if x.1.2 then x.1.1.data.toList.map foldB else x.1.1.data.toList) := by simp [tx]
theorem tx_len (pre : List Piece) : (tx pre).length ≤ pre.length * 1000000 := by
  induction pre using snoc_ind with
  | nil => simp [tx]
  | snoc l x ih =>
    rw [tx_snoc, List.length_append]
    have hx := x.2
    have e : (if x.1.2 then x.1.1.data.toList.map foldB else x.1.1.data.toList).length = x.1.1.size := by split <;> simp
    rw [e]
    simp only [List.length_append, List.length_cons, List.length_nil]
    omega
theorem tx_fold {pre : List Piece} (h : okAll pre) : tx pre = foldL (flat pre) := by
  induction pre using snoc_ind with
  | nil => rfl
  | snoc l x ih =>
    rw [okAll_snoc] at h
    rw [tx_snoc, flat_snoc, foldL_append, ih h.1]
    congr 1
    obtain ⟨_, hb, _⟩ := h.2
    cases hx : x.1.2 with
    | true => simp [foldL]
    | false =>
      rw [hx] at hb
      simp only [Bool.false_eq_true, if_false]
      unfold foldL
      have : ∀ l : List UInt8, (∀ b ∈ l, tb b = false) → l = l.map foldB := by
        intro l
        induction l with
        | nil => intro _; rfl
        | cons b r ih =>
          intro h
          have hb := h b (by simp)
          simp only [tb, bne_eq_false_iff_eq] at hb
          rw [List.map_cons, hb, ← ih fun c hc => h c (by simp [hc])]
      exact this _ hb

/-- 'out = append(out, ..)' onto a box's own row: what the walk owes. -/
theorem boxed_app {W w1 : World} {n₀ B : Nat} {t e : TypeId} {size g cap k m : Nat} {v' : Value} {xs ys : List Value} (hv : Boxed W B t (.slice (some ⟨g, 0, none⟩) k cap)) (hte : t ≠ e)
    (hrow : W.ownsRow n₀ e size (.slice (some ⟨g, 0, none⟩) k cap) k xs) (hn₀ : n₀ ≤ W.heap.size) (hB : n₀ ≤ B) (hown' : w1.ownsRow n₀ e size v' m ys) (hgrow : W.grownBy w1 (some g)) :
    Boxed w1 B t (.slice (some ⟨g, 0, none⟩) k cap) ∧ Boxed (w1.setCell ⟨B, 0, none⟩ v') B t v' ∧ (w1.setCell ⟨B, 0, none⟩ v').ownsRow n₀ e size v' m ys ∧ KeepsOthers W (w1.setCell ⟨B, 0, none⟩ v') ∧ Below n₀ W (w1.setCell ⟨B, 0, none⟩ v') := by
  have hv1 : Boxed w1 B t (.slice (some ⟨g, 0, none⟩) k cap) := hv.kept hgrow (hv.not_row hte hrow)
  rcases hrow.2 with ⟨h, _⟩ | ⟨g0, cap0, cur, h, hb, hgb, _⟩
  · cases h
  · simp only [Value.slice.injEq, Option.some.injEq, Addr.mk.injEq, true_and, and_true] at h
    obtain ⟨rfl, rfl⟩ := h
    refine ⟨hv1, hv1.set v', hown'.kept (grownBy_setCell' w1 B v') (.inr (hv1.not_row hte hown').symm), ?_, ?_⟩
    · refine (KeepsOthers.of_grownBy hgrow fun j o ej hj => ?_).trans (KeepsOthers.setCell _ _ _)
      cases ej
      rw [hgb] at hj; cases hj; rfl
    · refine ((Below.refl n₀ W).grown hgrow hn₀ fun j ej => ?_).setCell (p := ⟨B, 0, none⟩) hB v'
      cases ej
      exact hb

theorem conv_own {P : Program} (W : World) (src dst e : TypeId) (base g cap : Nat) (l : List UInt8) (hs : P.underlying src = some (.slice e)) (he : P.underlying e = some (.int .u8)) (hd : P.underlying dst = some .string)
    (h : W.ownsRow base e 1 (.slice (some ⟨g, 0, none⟩) l.length cap) l.length (u8s l)) :
    (convert src dst (.slice (some ⟨g, 0, none⟩) l.length cap)).run P W = .ok (.string (bs l)) W :=
  run_convert_bytes_back W src dst e ⟨g, 0, none⟩ cap l hs he hd fun j hj => h.cells (g := g) rfl j _ (by simp [u8s, hj])

theorem Tryz.infoU8 : (Tryz.prog.info? 5).map (fun i => (i.zero, i.size, i.bytes)) = some (some (.int .u8 0), 1, 1) := by kernel_rfl

set_option maxRecDepth 100000 in
set_option maxHeartbeats 2000000 in
theorem text_any (s : ByteArray) (w : World) (hs : s.size ≤ 1000000) :
    Calls Tryz.prog 37 #[.string s] w fun e w' => e = .returned (.string (bs (foldL s.data.toList))) ∧ Below w.heap.size w w' := by
  obtain ⟨i0, hi, hz0, hz1, hz2⟩ := info_parts Tryz.infoU8
  refine (callsIn_wide (n := 5)).1 ?_
  refine callsIn_of_wp_marks Tryz.func37 rfl trivial ?_ rfl
  simp only [Tryz.ntmps37, List.size_toArray, List.length_cons, List.length_nil, Nat.reduceAdd, Nat.reduceSub, Array.replicate_succ, Array.replicate_zero, List.push_toArray, List.append_toArray, List.nil_append, List.cons_append]
  gi_wp2_with (gi_at_make; refine wpListIn_make_own _ rfl _ _ 22 rfl w.heap.size 5 i0 (.int .u8 0) 1 Tryz.underlying22 hi hz0 hz1 .i64 .i64 (s.size : Int) s.size rfl rfl rfl (by rw [hz2]; omega) (by unfold maxLen; omega) (Nat.le_refl _) ?_; intro w1 hown hgrow)
  refine ⟨trivial, ((callsIn_wide (n := 4)).2 (runs_any _ _)).mono ?_⟩
  rintro e w2 ⟨rfl, hw2⟩
  have hwl : w.heap.size ≤ w1.heap.size := hgrow.size
  have hB1 : Below w.heap.size w w1 := ⟨hgrow.os, hgrow.tape, hgrow.output, hgrow.size, fun i hi => hgrow.block i hi (by simp)⟩
  have bO := (Boxed.new w1 22 (.slice (some ⟨w.heap.size, 0, none⟩) 0 s.size)).alloc (.cells #[.string s] 9)
  have bS := Boxed.new (w1.alloc (.cells #[.slice (some ⟨w.heap.size, 0, none⟩) 0 s.size] 22)) 9 (.string s)
  have hrow := (hown.alloc (.cells #[.slice (some ⟨w.heap.size, 0, none⟩) 0 s.size] 22)).alloc (.cells #[.string s] 9)
  have hB2 : Below w.heap.size w w2 := by rw [hw2]; exact (hB1.alloc hwl _).alloc (by simp; omega) _
  have hsz : w2.heap.size = w1.heap.size + 2 := by rw [hw2]; simp
  rw [World.size_alloc] at bS
  rw [← hw2] at bO bS hrow
  obtain ⟨B, hBd⟩ : ∃ B, B = w1.heap.size := ⟨_, rfl⟩
  simp only [World.size_alloc]
  rw [← hBd] at bO bS hsz hwl ⊢
  have hle : B + 2 ≤ w2.heap.size := by omega
  have HX := Lib.hid (And.intro hw2 (And.intro hsz hBd))
  clear hw2 hsz hBd hB1 hown hgrow
  gi_wp2_with fail
  refine wpIn_rangeFunc_ownG rfl (by omega) (gf := 83) (lb := #[.pointer (some ⟨B + 1, 0, none⟩)]) rfl trivial (enters_of Tryz.func83 (by kernel_rfl) rfl)
    (runs_stops 4 (by omega) (B + 1) s w2 hs (by omega) bS.cell) (fun _ _ => trivial) (fun _ _ _ _ _ _ _ _ => trivial) (Below.refl _ _) (fun _ => rfl)
    (fun pre W => (∃ v, Boxed W B 22 v ∧ W.ownsRow w.heap.size 5 1 v (tx pre).length (u8s (tx pre)) ∧ ∃ g cap, v = .slice (some ⟨g, 0, none⟩) (tx pre).length cap) ∧ Below w.heap.size w W)
    (fun _ _ _ => False)
    (OwnFrom.and (Own.from (holdsRow_own w.heap.size B 22 5 1 (fun pre => (tx pre).length) (fun pre => u8s (tx pre)) (fun pre v => ∃ g cap, v = .slice (some ⟨g, 0, none⟩) (tx pre).length cap)) _) (ownFrom_below (by omega) (by omega)))
    (fun _ _ _ _ _ hs _ _ => hs)
    ⟨⟨_, bO, hrow, _, _, rfl⟩, hB2⟩
    (fun x => { tmps := #[.string s, undef, .string ⟨#[]⟩, .pointer (some ⟨B, 0, none⟩), .string x.1.1, .bool x.1.2, undef, .string s, .int .i64 s.size, .slice (some ⟨w.heap.size, 0, none⟩) 0 s.size, .string s, .func (.func 83) #[] #[.pointer (some ⟨B + 1, 0, none⟩)], .string x.1.1, .bool x.1.2, undef, undef, undef, undef, undef, undef, undef, undef, undef, undef, undef, undef, undef, undef, undef, undef, undef, undef, undef, undef], defers := [] }) ?assign ?body ?done ?stop
  case assign =>
    intro l x W K hK
    gi_wp2
    exact hK
  case stop =>
    rintro D c pre W _ _ h _
    exact h.elim
  case done =>
    rintro D xs W hD hS ⟨⟨v, hv, hrow, g, cap, rfl⟩, hB⟩ hK
    have hc := hv.cell
    have hconv := conv_own W 22 9 5 w.heap.size g cap (tx xs) Tryz.underlying22 Tryz.underlying5 Tryz.underlying9 hrow
    have ht : tx xs = foldL s.data.toList := by rw [tx_fold hS.2.1]; have := hS.1; rw [List.append_nil] at this; rw [this]
    have Ht := Lib.hid ht
    clear ht
    gi_wp2
    refine ⟨by simp, .inl ⟨_, _, rfl, run_takeDeferred hK, ?_⟩⟩
    exact ⟨_, results_tmp rfl _ _ _, by rw [← Ht.out]; rfl, hB.trans (belowK_b (w := w) (Nat.le_refl _) W D _ _ (by omega) hK rfl rfl)⟩
  case body =>
    rintro l pre x W ⟨⟨v, hv, hrow, g, cap, rfl⟩, hB⟩ hlt
    have htl := tx_len pre
    have hts := tx_snoc pre x
    have Hts := Lib.hid hts
    clear hts
    obtain ⟨⟨p, t⟩, hp⟩ := x
    have hp' : p.size ≤ 1000000 := hp
    have hc := hv.cell
    cases t with
    | false =>
      have hsrc := Src.ofString (P := Tryz.prog) W (tx := 9) Tryz.underlying9 p
      gi_wp2_with (gi_at_builtin; refine wpListIn_app_src _ rfl _ _ 22 9 rfl w.heap.size 5 i0 (.int .u8 0) 1 1 Tryz.underlying22 hi hz0 hz1 hz2 rfl g cap _ _ rfl hrow _ p.size _ rfl hsrc (by unfold maxLen; omega) (by omega) hB.size ?_; intro g1 cap1 w3 hown3 hgrow3; obtain ⟨hv1, hv2, hr2, hk2, hb2⟩ := boxed_app hv (by decide) hrow hB.size hwl hown3 hgrow3; have hc1 := hv1.cell; have hf1 := hv1.frozen)
      have e : tx (pre ++ [⟨(p, false), hp⟩]) = tx pre ++ p.data.toList := Hts.out
      have e2 : (tx pre).length + p.size = (tx (pre ++ [⟨(p, false), hp⟩])).length := by rw [e]; simp
      refine ⟨hk2.from _, trivial, ⟨_, hv2, ?_, g1, cap1, by rw [e2]⟩, hB.trans hb2⟩
      rw [e, u8s_append, ← u8s_bytes]
      simpa using hr2
    | true =>
      gi_wp2_with fail
      gi_loopw [21] (fun i wr => ∃ (k g cap : Nat), i = .int .i64 k ∧ k ≤ p.size ∧ Boxed wr B 22 (.slice (some ⟨g, 0, none⟩) ((tx pre).length + k) cap) ∧
        wr.ownsRow w.heap.size 5 1 (.slice (some ⟨g, 0, none⟩) ((tx pre).length + k) cap) ((tx pre).length + k) (u8s (tx pre ++ (p.data.toList.map foldB).take k)) ∧ Hid (KeepsOthers W wr ∧ Below w.heap.size W wr)) (fun i _ => p.size - (Go.RowKit.intOf i).toNat)
      case atStart => exact ⟨0, g, cap, rfl, Nat.zero_le _, hv, by simpa using hrow, KeepsOthers.refl _, Below.refl _ _⟩
      case round =>
        obtain ⟨k, g2, cap2, rfl, hk, hv2, hrow2, HK⟩ := hrel
        clear hc hv hrow
        have hc2 := hv2.cell
        by_cases hlt2 : k < p.size
        · have hsrc := Src.ofSlice (P := Tryz.prog) (w := (wr.alloc (.cells #[.int .u8 (foldB p[k]).toNat] 5)).drew) (size := 1) (tx := 22) Tryz.underlying22 ⟨wr.heap.size, 0, none⟩ 1 1 [.int .u8 (foldB p[k]).toNat] rfl (cell_one_new wr _ _) (by simp [Value.oneCell'])
          have hv3 : Boxed (wr.alloc (.cells #[.int .u8 (foldB p[k]).toNat] 5)).drew B 22 _ := hv2.alloc (.cells #[.int .u8 (foldB p[k]).toNat] 5)
          have hrow3 : (wr.alloc (.cells #[.int .u8 (foldB p[k]).toNat] 5)).drew.ownsRow _ _ _ _ _ _ := hrow2.alloc (.cells #[.int .u8 (foldB p[k]).toNat] 5)
          obtain ⟨g4, cap4, w4, hrun, hown4, hgrow4⟩ := run_app_src (P := Tryz.prog) _ w.heap.size 22 22 22 5 i0 (.int .u8 0) 1 1 Tryz.underlying22 hi hz0 hz1 hz2 rfl g2 cap2 _ _ hrow3 _ 1 _ hsrc (by unfold maxLen; omega) (by omega) (by have := HK.out.2.size; have := hB.size; simp; omega)
          obtain ⟨hv5, hv6, hr6, hk6, hb6⟩ := boxed_app hv3 (by decide) hrow3 (by have := HK.out.2.size; have := hB.size; simp; omega) hwl hown4 hgrow4
          have hc3 := hv3.cell
          have hc5 := hv5.cell
          have hf5 := hv5.frozen
          have H6 := Lib.hid (And.intro hv6 (And.intro hr6 (And.intro hk6 hb6)))
          clear hv6 hr6 hk6 hb6 hown4 hgrow4 hrow3 hv3 hv5 hsrc
          have hrun2 : (Sem.run Tryz.prog (Builtin.append_ #[22, 22] 22 #[.slice (some ⟨g2, 0, none⟩) ((tx pre).length + k) cap2, .slice (some ⟨wr.heap.size, 0, none⟩) 1 1]) (wr.alloc (.cells #[.int .u8 (foldB p[k]).toNat] 5)).drew).andThen (fun a w' => Result.ok (Next.value a) w') = .ok (.value (.slice (some ⟨g4, 0, none⟩) ((tx pre).length + k + 1) cap4)) w4 := by rw [hrun]; rfl
          simp [go_sem] at hrun2
          gi_upto_region 10 with (fail)
          gi_region_with (first | (refine ⟨trivial, ?_⟩; gi_at_call 64; refine (CallsIn.inRound l ((callsIn_wide (n := 2)).2 (byte_u8 _ _))).mono ?_; rintro e w' ⟨rfl, rfl⟩)| (fail))
          all_goals
            clear hrun hrun2 hc2 hc3 hc5 hf5
            gi_wp2_with fail
            go_roundw
            case rel =>
              refine ⟨k + 1, g4, cap4, by go_num, by omega, H6.out.1, ?_, (HK.out.1.trans (((KeepsOthers.alloc wr _).trans (KeepsOthers.drew _)).trans H6.out.2.2.1)), HK.out.2.trans ((((Below.refl _ wr).alloc (by have := HK.out.2.size; have := hB.size; omega) _).drew).trans H6.out.2.2.2)⟩
              rw [u8s_step _ p k hlt2]
              exact H6.out.2.1
            case measure => simp [Go.RowKit.intOf]; omega
        · have hkp : k = p.size := by omega
          have Hkp := Lib.hid hkp
          clear hkp
          gi_wp2_with fail
          have e : tx (pre ++ [⟨(p, true), hp⟩]) = tx pre ++ p.data.toList.map foldB := Hts.out
          have e2 : (tx pre).length + k = (tx (pre ++ [⟨(p, true), hp⟩])).length := by rw [e, Hkp.out]; simp
          refine ⟨HK.out.1.from _, trivial, ⟨_, hv2, ?_, g2, cap2, by rw [e2]⟩, hB.trans HK.out.2⟩
          have e3 : (p.data.toList.map foldB).take k = p.data.toList.map foldB := List.take_of_length_le (by rw [Hkp.out]; simp)
          rw [e3] at hrow2
          rw [e] at e2 ⊢
          rw [← e2]
          exact hrow2
end Go.Proofs.YtpbobonddocgkaaGreatDoor
end
section
/- The document's Text, Same, Compare of layer 1; awake. -/
namespace Go.Proofs.YtpbobonddocgkaaGreatDoor
open Go.RowKit

/-- 'string([]byte{b})' -/
theorem conv_one {P : Program} (W : World) (src dst e : TypeId) (b : UInt8) (hs : P.underlying src = some (.slice e)) (he : P.underlying e = some (.int .u8)) (hd : P.underlying dst = some .string) :
    (convert src dst (.slice (some ⟨W.heap.size, 0, none⟩) 1 1)).run P (W.alloc (.cells #[.int .u8 b.toNat] e)) = .ok (.string (bs [b])) (W.alloc (.cells #[.int .u8 b.toNat] e)) :=
  run_convert_bytes_back (W.alloc (.cells #[.int .u8 b.toNat] e)) src dst e ⟨W.heap.size, 0, none⟩ 1 [b] hs he hd fun j hj => by
    simp at hj
    subst hj
    simp [Addr.add]
theorem bs_append (a b : List UInt8) : bs a ++ bs b = bs (a ++ b) := by
  apply ba_ext
  simp [bs]
theorem foldL_step (s : ByteArray) (k : Nat) (h : k < s.size) : bs (foldL (s.data.toList.take k)) ++ bs [foldB s[k]] = bs (foldL (s.data.toList.take (k + 1))) := by
  rw [bs_append, ba_take s k h, foldL_append]; rfl



theorem bs_inj {a b : List UInt8} (h : bs a = bs b) : a = b := by
  have := congrArg (fun x : ByteArray => x.data.toList) h
  simpa using this
end Go.Proofs.YtpbobonddocgkaaGreatDoor
end
section
/- The document's Same and Compare of layer 1. -/
namespace Go.Proofs.YtpbobonddocgkaaGreatDoor
open Go.RowKit



theorem less_cmpL : ∀ (x y : List UInt8), Op.bytesLess x y = true ↔ cmpL x y = -1
  | [], [] => by simp [Op.bytesLess, cmpL]
  | [], _ :: _ => by simp [Op.bytesLess, cmpL]
  | _ :: _, [] => by simp [Op.bytesLess, cmpL]
  | a :: x, b :: y => by
    simp only [Op.bytesLess, cmpL, Bool.or_eq_true, decide_eq_true_eq, Bool.and_eq_true, beq_iff_eq, UInt8.lt_iff_toNat_lt]
    by_cases h1 : a.toNat < b.toNat
    · simp [h1]
    · rw [if_neg h1]
      by_cases h2 : b.toNat < a.toNat
      · rw [if_pos h2]
        constructor
        · rintro (h | ⟨rfl, _⟩) <;> omega
        · intro h; cases h
      · rw [if_neg h2, ← less_cmpL x y]
        have : a = b := UInt8.toNat_inj.mp (by omega)
        subst this
        simp
theorem cmpL_three : ∀ (x y : List UInt8), cmpL x y = -1 ∨ cmpL x y = 0 ∨ cmpL x y = 1
  | [], [] => by simp [cmpL]
  | [], _ :: _ => by simp [cmpL]
  | _ :: _, [] => by simp [cmpL]
  | a :: x, b :: y => by
    simp only [cmpL]
    split
    · simp
    · split
      · simp
      · exact cmpL_three x y
theorem cmpF_lt {a b : List UInt8} {x y : ByteArray} (hx : x = bs (foldL a)) (hy : y = bs (foldL b)) (h : Op.bytesLess x.toList y.toList = true) : cmpF a b = -1 := by
  subst hx hy
  rw [ByteArray.toList_eq, ByteArray.toList_eq] at h
  exact (less_cmpL _ _).1 h
theorem cmpF_eq {a b : List UInt8} {x y : ByteArray} (hx : x = bs (foldL a)) (hy : y = bs (foldL b)) (h : (!x.toList == y.toList) = false) : cmpF a b = 0 := by
  subst hx hy
  rw [beq_bs] at h
  simp at h
  exact cmpL_zero.2 h
theorem cmpF_gt {a b : List UInt8} {x y : ByteArray} (hx : x = bs (foldL a)) (hy : y = bs (foldL b)) (h : Op.bytesLess x.toList y.toList = false) (h2 : (!x.toList == y.toList) = true) : cmpF a b = 1 := by
  subst hx hy
  rw [ByteArray.toList_eq, ByteArray.toList_eq] at h
  rw [beq_bs] at h2
  simp at h2
  rcases cmpL_three (foldL a) (foldL b) with h3 | h3 | h3
  · have := (less_cmpL (foldL a) (foldL b)).2 h3
    rw [bs_toList, bs_toList] at h
    rw [h] at this; cases this
  · exact absurd (cmpL_zero.1 h3) h2
  · exact h3

end Go.Proofs.YtpbobonddocgkaaGreatDoor
end
