/- Layer 13: the document's answer: Last. -/
import Derived.Test.YtkifblbmppjicaaWasG
import Derived.Test.YtkifblbmppjicaaDecW
import Derived.Test.YtkifblbmppjicaaFoldI
namespace Go.Proofs.Ytkifblbmppjicaa
set_option linter.unusedVariables false
set_option linter.unusedSimpArgs false
open Go.RowKit Go.Shelf

theorem Try.infoRE : (Try.prog.info? 29).map (fun i => (i.zero, i.size, i.bytes)) = some (some (.agg #[.string ⟨#[]⟩, .int .i64 0]), 2, 24) := by kernel_rfl
/-- of some things all, or those under a name -/
def selE (nm : ByteArray) (all : Bool) (l : List Ent) : List Ent := if all then l else named nm l
theorem selE_snoc (nm : ByteArray) (all : Bool) (l : List Ent) (x : Ent) : selE nm all (l ++ [x]) = if all || sameF x.1.data.toList nm.data.toList then selE nm all l ++ [x] else selE nm all l := by
  unfold selE
  cases all with
  | true => simp
  | false =>
    cases h : sameF x.1.data.toList nm.data.toList with
    | true => simp [named_yes _ _ _ h]
    | false => simp [named_no _ _ _ h]
theorem selE_len (nm : ByteArray) (all : Bool) (l : List Ent) : (selE nm all l).length ≤ l.length := by
  unfold selE
  cases all with
  | true => simp
  | false => exact named_len _ _
theorem toldE_sel (N : Nat) (h : List Ent) (nm : ByteArray) (all : Bool) : toldE N h nm all = selE nm all (h.reverse.take N) := by
  unfold toldE selE lastN; rfl

/-- what Last hands back -/
def LastP (zs : List Ent) (w : World) (e : Ending) (w' : World) : Prop := ∃ v, e = .returned v ∧ w'.ownsRow w.heap.size 29 2 v zs.length (entL zs) ∧ Below w.heap.size w w'

set_option maxRecDepth 100000 in
set_option maxHeartbeats 4000000 in
theorem last_any (A : Option Addr) (l : List Ent) (c N : Nat) (nm : ByteArray) (all : Bool) (w : World) (hl : l.length ≤ 100000) (hN : N ≤ 100000) (hnm : nm.size ≤ 1000000) (hsz : ∀ x ∈ l, x.1.size ≤ 1000000)
    (hc : 0 < l.length → ∃ g o, A = some ⟨g, o, none⟩ ∧ g < w.heap.size ∧ ∀ i (h : i < l.length), w.cell? ⟨g, o + i * 2, none⟩ = some (.string l[i].1) ∧ w.cell? ⟨g, o + i * 2 + 1, none⟩ = some (.int .i64 l[i].2)) :
    Calls Try.prog 14 #[.slice A l.length c, .int .i64 N, .string nm, .bool all] w (LastP (toldE N l nm all) w) := by
  obtain ⟨i0, hi, hz0, hz1, hz2⟩ := info_parts Try.infoRE
  have HC := Lib.hid hc
  have HS := Lib.hid hsz
  clear hc hsz
  go_enter Try.func14, Try.ntmps14
  go_wp2_with fail
  go_loopw [9, 10] (fun v i wr => ∃ (k : Nat) (q : Int), i = .int .i64 q ∧ q ≤ l.length - 1 - k ∧ l.length - 1 - k ≤ q ∧ k ≤ l.length ∧ k ≤ N ∧ Hid (wr.ownsRow w.heap.size 29 2 v (selE nm all (l.reverse.take k)).length (entL (selE nm all (l.reverse.take k)))) ∧ Hid (Below w.heap.size w wr)) (fun _ i _ => (intOf i + 1).toNat)
  case atStart => exact ⟨0, _, rfl, by omega, by omega, Nat.zero_le _, Nat.zero_le _, by rw [List.take_zero]; have : selE nm all [] = [] := by unfold selE named; cases all <;> rfl
                                                                                         rw [this]; exact World.ownsRow_nil _ _ _ _, Below.refl _ _⟩
  case round =>
    obtain ⟨k, q, rfl, hq1, hq2, hk, hkN, HR, HB⟩ := hrel
    by_cases hlt : k < l.length ∧ k < N
    · obtain ⟨p, rfl⟩ : ∃ p : Nat, q = p := ⟨q.toNat, by omega⟩
      have hp : p = l.length - 1 - k := by omega
      obtain ⟨g, o, rfl, hg, hcell⟩ := HC.out (by omega)
      have hpl : p < l.length := by omega
      obtain ⟨e0, e1⟩ := hcell p hpl
      have hx : l[p].1.size ≤ 1000000 := HS.out _ (List.getElem_mem hpl)
      have htk : l.reverse.take (k + 1) = l.reverse.take k ++ [l[p]] := by
        rw [List.take_succ_eq_append_getElem (by simpa using hlt.1)]
        congr 1
        simp [List.getElem_reverse, hp]
      have hBe := HB.out.cell (p := ⟨g, o + p * 2, none⟩) hg
      have hBf := HB.out.cell (p := ⟨g, o + p * 2 + 1, none⟩) hg
      rw [e0] at hBe
      rw [e1] at hBf
      obtain ⟨x, hxx⟩ : ∃ x, l[p] = x := ⟨_, rfl⟩
      rw [hxx] at hBe hBf hx htk
      have hsel := selE_snoc nm all (l.reverse.take k) x
      rw [← htk] at hsel
      have hlen := selE_len nm all (l.reverse.take k)
      have htl : (l.reverse.take k).length ≤ l.length := by simp; omega
      have s1 : (p : Int) ≥ 0 := by omega
      have s2 : (l.length : Int) - (p : Int) ≤ (N : Int) := by omega
      have hz := HB.out.size
      obtain ⟨b, hb⟩ : ∃ b, sameF x.1.data.toList nm.data.toList = b := ⟨_, rfl⟩
      rw [hb] at hsel
      have HSL := Lib.hid (And.intro hsel hb)
      have hpp : (p : Int) < (l.length : Int) := by omega
      obtain ⟨m, hm⟩ : ∃ m, (selE nm all (l.reverse.take k)).length = m := ⟨_, rfl⟩
      have hm9 : m ≤ 100000 := by omega
      rw [hm] at HR
      have HM := Lib.hid (And.intro hm (And.intro hp hlt))
      obtain ⟨av, cv, rfl⟩ := row_slice HR.out
      clear hsel hb hxx e0 e1 hcell htk hlen htl hm hp hlt
      cases all with
      | true =>
        go_wp2_with (at_builtin; refine wpList_app_fr rfl _ _ 22 rfl w.heap.size 29 i0 _ 2 24 Try.underlying22 hi hz0 hz1 hz2 rfl (by decide) _ _ _ rfl HR.out #[.string x.1, .int .i64 x.2] _ rfl rfl rfl (by intro u hu; simp at hu; rcases hu with rfl | rfl <;> rfl) (by omega) (by decide) hz ?_; intro v1 W2 hown1 hfr1)
        have hnew : W2.ownsRow w.heap.size 29 2 v1 (selE nm true (l.reverse.take (k + 1))).length (entL (selE nm true (l.reverse.take (k + 1)))) := by
          rw [HSL.out.1]; simp only [Bool.true_or, if_true]; rw [entL_snoc, List.length_append, HM.out.1]; exact hown1
        have hbl := HB.out.trans (hfr1.below hz fun j _ hj => (HR.out.lt j hj).1)
        have HN := Lib.hid hnew
        have HB2 := Lib.hid hbl
        clear hnew hbl hown1 hfr1
        go_wp2_with fail
        go_roundw
        case rel => exact ⟨k + 1, _, rfl, by omega, by omega, by have := HM.out; omega, by have := HM.out; omega, HN, HB2⟩
        case measure => simp [intOf]
      | false =>
        cases b with
        | true =>
          go_wp2_with fail
          refine (refsame _ _ _ hx hnm).mono ?_
          rintro e W1 ⟨rfl, qb⟩
          rw [HSL.out.2]
          have hzb := qb.size
          have HRb : Hid (W1.ownsRow w.heap.size 29 2 (.slice av m cv) m (entL (selE nm false (l.reverse.take k)))) := row_same HR.out fun j hj => qb.block j (HR.out.lt j hj).2
          have hBe1 : W1.cell? ⟨g, o + p * 2, none⟩ = _ := (qb.cell (p := ⟨g, o + p * 2, none⟩) (show g < wr.heap.size by omega)).trans hBe
          have hBf1 : W1.cell? ⟨g, o + p * 2 + 1, none⟩ = _ := (qb.cell (p := ⟨g, o + p * 2 + 1, none⟩) (show g < wr.heap.size by omega)).trans hBf
          have HBb : Hid (Below w.heap.size w W1) := HB.out.trans (qb.mono hz)
          have hz1' : w.heap.size ≤ W1.heap.size := by omega
          clear hBe hBf qb
          go_wp2_with (at_builtin; refine wpList_app_fr rfl _ _ 22 rfl w.heap.size 29 i0 _ 2 24 Try.underlying22 hi hz0 hz1 hz2 rfl (by decide) _ _ _ rfl HRb.out #[.string x.1, .int .i64 x.2] _ rfl rfl rfl (by intro u hu; simp at hu; rcases hu with rfl | rfl <;> rfl) (by omega) (by decide) hz1' ?_; intro v1 W2 hown1 hfr1)
          have hnew : W2.ownsRow w.heap.size 29 2 v1 (selE nm false (l.reverse.take (k + 1))).length (entL (selE nm false (l.reverse.take (k + 1)))) := by
            rw [HSL.out.1]; simp only [Bool.or_true, if_true]; rw [entL_snoc, List.length_append, HM.out.1]; exact hown1
          have hbl := HBb.out.trans (hfr1.below hz1' fun j _ hj => (HRb.out.lt j hj).1)
          have HN := Lib.hid hnew
          have HB2 := Lib.hid hbl
          clear hnew hbl hown1 hfr1
          go_wp2_with fail
          go_roundw
          case rel => exact ⟨k + 1, _, rfl, by omega, by omega, by have := HM.out; omega, by have := HM.out; omega, HN, HB2⟩
          case measure => simp [intOf]
        | false =>
          go_wp2_with fail
          refine (refsame _ _ _ hx hnm).mono ?_
          rintro e W1 ⟨rfl, qb⟩
          rw [HSL.out.2]
          have hnew : W1.ownsRow w.heap.size 29 2 (.slice av m cv) (selE nm false (l.reverse.take (k + 1))).length (entL (selE nm false (l.reverse.take (k + 1)))) := by
            rw [HSL.out.1]; simp only [Bool.or_self, if_neg, Bool.false_eq_true, if_false]; rw [HM.out.1]; exact row_same HR.out fun j hj => qb.block j (HR.out.lt j hj).2
          have HN := Lib.hid hnew
          have HB2 := Lib.hid (HB.out.trans (qb.mono hz))
          clear hnew qb
          go_wp2_with fail
          go_roundw
          case rel => exact ⟨k + 1, _, rfl, by omega, by omega, by have := HM.out; omega, by have := HM.out; omega, HN, HB2⟩
          case measure => simp [intOf]
    · have hend : l.reverse.take k = l.reverse.take N := by
        by_cases h : k = N
        · rw [h]
        · rw [List.take_of_length_le (by simp; omega), List.take_of_length_le (by simp; omega)]
      have HE := Lib.hid hend
      clear hend
      go_wp2_with fail
      all_goals
        go_ret
        refine ⟨_, rfl, ?_, HB.out⟩
        rw [toldE_sel, ← HE.out]
        exact HR.out
end Go.Proofs.Ytkifblbmppjicaa
