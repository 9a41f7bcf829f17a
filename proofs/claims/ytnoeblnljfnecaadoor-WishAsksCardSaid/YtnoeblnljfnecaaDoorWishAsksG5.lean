/- Texts of this proof, one behind the other. -/
import Derived.Test.YtnoeblnljfnecaaDoorWishAsksG4
import Derived.Deep.RegionHeld3
import Derived.Deep.DrawnRows
import Derived.WalkKit
section
/- Layer 21: the answers' Monitor. -/
namespace Go.Proofs.YtnoeblnljfnecaaDoor
set_option linter.unusedVariables false
set_option linter.unusedSimpArgs false
open Go Go.RowKit Go.Lib Go.Shelf

def AtN (l : List UInt8) (k f : Nat) (xs : List (List UInt8)) : Prop := f ≤ k ∧ ∃ dn, dn ++ splitC 44 (l.drop f) = splitC 44 l ∧ (∀ j (h : j < l.length), f ≤ j → j < k → l[j] ≠ 44) ∧ xs = dn.filter nickB
theorem atN_zero (l : List UInt8) : AtN l 0 0 [] := ⟨Nat.le_refl _, [], rfl, fun j h _ h2 => by omega, rfl⟩
theorem AtN.more {l : List UInt8} {k f : Nat} {xs : List (List UInt8)} (h : AtN l k f xs) (hk : k < l.length) (hc : l[k] ≠ 44) : AtN l (k + 1) f xs := by
  obtain ⟨h1, dn, h2, h3, h4⟩ := h
  refine ⟨by omega, dn, h2, fun j hj h5 h6 => ?_, h4⟩
  by_cases e : j = k
  · subst e; exact hc
  · exact h3 j hj h5 (by omega)
theorem at_piece {l : List UInt8} {k f : Nat} (hf : f ≤ k) (hk : k ≤ l.length) (h3 : ∀ j (h : j < l.length), f ≤ j → j < k → l[j] ≠ 44) : (44 : UInt8) ∉ (l.drop f).take (k - f) := fun hm => by
  obtain ⟨i, hi, e⟩ := List.mem_iff_getElem.1 hm
  rw [List.getElem_take, List.getElem_drop] at e
  have hi2 : i < k - f := by rw [List.length_take] at hi; omega
  exact h3 (f + i) (by omega) (by omega) (by omega) e
theorem AtN.cut {l : List UInt8} {k f : Nat} {xs : List (List UInt8)} (h : AtN l k f xs) (hk : k < l.length) (hc : l[k] = 44) : AtN l (k + 1) (k + 1) (xs ++ if nickB ((l.drop f).take (k - f)) then [(l.drop f).take (k - f)] else []) := by
  obtain ⟨h1, dn, h2, h3, h4⟩ := h
  have hp := at_piece h1 (by omega) h3
  have hd : l.drop f = (l.drop f).take (k - f) ++ 44 :: l.drop (k + 1) := by
    have e1 : (l.drop f).drop (k - f) = l.drop k := by rw [List.drop_drop]; congr 1; omega
    have e2 : l.drop k = 44 :: l.drop (k + 1) := by rw [List.drop_eq_getElem_cons hk, hc]
    rw [← e2, ← e1, List.take_append_drop]
  refine ⟨Nat.le_refl _, dn ++ [(l.drop f).take (k - f)], ?_, fun j hj h5 h6 => by omega, ?_⟩
  · rw [← h2]
    conv => rhs; rw [hd]
    rw [splitC_cut _ _ _ hp, List.append_assoc]
    rfl
  · rw [List.filter_append, h4]
    cases hn : nickB ((l.drop f).take (k - f)) <;> simp [List.filter, hn]
theorem AtN.last {l : List UInt8} {f : Nat} {xs : List (List UInt8)} (h : AtN l l.length f xs) : nicksV l = xs ++ if nickB ((l.drop f).take (l.length - f)) then [(l.drop f).take (l.length - f)] else [] := by
  obtain ⟨h1, dn, h2, h3, h4⟩ := h
  have hp := at_piece h1 (Nat.le_refl _) h3
  have hd : (l.drop f).take (l.length - f) = l.drop f := List.take_of_length_le (by rw [List.length_drop]; omega)
  rw [hd] at hp ⊢
  unfold nicksV
  rw [← h2, splitC_none _ _ hp, List.filter_append, h4]
  cases hn : nickB (l.drop f) <;> simp [List.filter, hn]
theorem AtN.len {l : List UInt8} {k f : Nat} {xs : List (List UInt8)} (h : AtN l k f xs) : xs.length ≤ l.length + 1 := by
  obtain ⟨h1, dn, h2, h3, h4⟩ := h
  have a := splitC_len 44 l
  have b := congrArg List.length h2
  rw [List.length_append] at b
  have c := List.length_filter_le nickB dn
  rw [h4]
  omega
theorem ext_list (s : ByteArray) (f k : Nat) : (s.extract f k).data.toList = (s.data.toList.drop f).take (k - f) := by simp [List.extract_eq_take_drop]
def RowG (l : List UInt8) (k f m : Nat) (v : Value) (w W : World) : Prop := ∃ xs, m = xs.length ∧ OwnT w.heap.size W v xs ∧ Below w.heap.size w W ∧ ((k ≤ l.length ∧ AtN l k f xs) ∨ (k = l.length + 1 ∧ xs = nicksV l))
theorem rowG_next {l : List UInt8} {k f : Nat} {xs : List (List UInt8)} (h : AtN l k f xs) (hk : k ≤ l.length) (hc : ∀ h : k < l.length, l[k] = 44) {b : Bool} (hb : nickB ((l.drop f).take (k - f)) = b) {ys : List (List UInt8)} (hy : ys = xs ++ if b then [(l.drop f).take (k - f)] else []) :
    (k + 1 ≤ l.length ∧ AtN l (k + 1) (k + 1) ys) ∨ (k + 1 = l.length + 1 ∧ ys = nicksV l) := by
  subst hb
  subst hy
  by_cases hlt : k < l.length
  · exact .inl ⟨hlt, h.cut hlt (hc hlt)⟩
  · obtain rfl : k = l.length := by omega
    exact .inr ⟨rfl, h.last.symm⟩
set_option maxRecDepth 100000 in
set_option maxHeartbeats 16000000 in
theorem monr_v (A : Option Addr) (c : Nat) (ps : List (List UInt8)) (w : World) (hl : ps.length ≤ 1000) (hp : ∀ p ∈ ps, p.length ≤ 1000) (hr : ReadsT w A ps) :
    Calls Tryd.prog 6 #[.slice A ps.length c] w (MonP ps w) := by
  have mixed : (Tryd.prog).follows Departure.mixedOrders = true := by kernel_rfl
  obtain ⟨i0, hi0, hz0, hz1, hz2⟩ := info_parts Tryd.infoT
  obtain ⟨R, hRR⟩ : ∃ R, MonP ps w = R := ⟨_, rfl⟩
  rw [hRR]
  have HR := Lib.hid hRR
  clear hRR
  rcases ps with _ | ⟨p, r⟩
  · clear hr hp hl
    go_enter Tryd.func6, Tryd.ntmps6
    go_wp2_with fail
    rw [← HR.out]
    exact mon_nil rfl rfl
  · obtain ⟨g, o, rfl, hg, hc⟩ := hr (by simp)
    have c0 := hc 0 (by simp)
    rw [Nat.add_zero] at c0
    simp only [List.getElem_cons_zero] at c0
    obtain ⟨n, hn⟩ : ∃ n, (p :: r).length = n := ⟨_, rfl⟩
    have hn0 : (0 : Int) < (n : Int) := by rw [← hn]; simp
    have hn1 : ¬ (n : Int) = 0 := by omega
    have hn2 : ((n : Int) == 0) = false := by simpa using hn1
    rw [hn] at hl ⊢
    by_cases h43 : p = [43] ∨ p = [45]
    · rcases h43 with rfl | rfl
      · replace c0 : w.cell? ⟨g, o, none⟩ = some (.string ⟨#[43]⟩) := c0
        rcases r with _ | ⟨q, r⟩
        · obtain rfl : n = 1 := hn.symm
          clear hc hg hp hn hn1 hr
          go_enter Tryd.func6, Tryd.ntmps6
          go_wp2_with fail
          rw [← HR.out]
          exact mon_nil rfl rfl
        · have c1 := hc 1 (by simp)
          simp only [List.getElem_cons_succ, List.getElem_cons_zero] at c1
          have hq := hp q (by simp)
          have hn3 : (1 : Int) < (n : Int) := by rw [← hn]; simp; omega
          obtain ⟨sq, hsq⟩ : ∃ sq, bs q = sq := ⟨_, rfl⟩
          have hql : sq.data.toList = q := by rw [← hsq]; rfl
          have hsz : sq.size ≤ 1000 := by rw [← hsq, bs_size]; exact hq
          have hlen : q.length = sq.size := by rw [← hql]; rfl
          rw [hsq] at c1
          have HQ := Lib.hid (And.intro hql hlen)
          have H00 : Hid (RowG q 0 0 0 (.slice none 0 0) w w) := ⟨[], rfl, ownT_nil _ _, Below.refl _ _, .inl ⟨Nat.zero_le _, atN_zero q⟩⟩
          have HC := Lib.hid (And.intro hg (And.intro c0 c1))
          clear hc hp hn hn1 hr hq hsq hql hlen
          go_enter Tryd.func6, Tryd.ntmps6
          go_wp2_with fail
          go_loopw [4, 5, 7] (fun out from_ i wr => ∃ (k f m : Nat) (A1 : Option Addr) (c1 : Nat), out = .slice A1 m c1 ∧ from_ = .int .i64 f ∧ i = .int .i64 k ∧ k ≤ sq.size + 1 ∧ f ≤ k ∧ m ≤ 1001 ∧ Hid (RowG q k f m (.slice A1 m c1) w wr)) (fun _ _ i _ => sq.size + 1 - (RowKit.intOf i).toNat)
          case atStart => exact ⟨0, 0, 0, none, 0, rfl, rfl, rfl, by omega, Nat.le_refl _, by omega, H00⟩
          case round =>
            obtain ⟨k, f, m, A1, cc1, rfl, rfl, rfl, hk, hf, hm, HG⟩ := hrel
            clear H00
            by_cases hkl : k ≤ sq.size
            · have hxs : ∃ xs, m = xs.length ∧ OwnT w.heap.size wr (.slice A1 m cc1) xs ∧ Below w.heap.size w wr ∧ AtN q k f xs := by
                obtain ⟨xs, h1, h2, h3, h4 | h4⟩ := HG.out
                · exact ⟨xs, h1, h2, h3, h4.2⟩
                · have := HQ.out.2; omega
              obtain ⟨xs, h1, h2, h3, h4⟩ := hxs
              have HX := Lib.hid (And.intro h1 (And.intro h2 (And.intro h3 h4)))
              clear h1 h2 h3 h4 HG
              by_cases hcc : ∃ h : k < sq.size, sq[k] ≠ 44
              · obtain ⟨hlt, hne⟩ := hcc
                obtain ⟨x, hx⟩ : ∃ x, sq[k] = x := ⟨_, rfl⟩
                rw [hx] at hne
                have q1 : ((x.toNat : Int) == 44) = false := u8_ne (n := 44) (by omega) hne
                have q2 : decide (k = sq.size) = false := by simp; omega
                have q3 : ((k : Int) == (sq.size : Int)) = false := by rw [beq_eq_false_iff_ne]; omega
                have q4 : (k : Int) < (sq.size : Int) := by omega
                have HH := Lib.hid (And.intro hx hne)
                have hkk : k ≤ sq.size := by omega
                go_wp2_with fail
                go_roundw
                case rel =>
                  obtain ⟨h1, h2, h3, h4⟩ := HX.out
                  refine ⟨k + 1, f, m, A1, cc1, rfl, rfl, by go_num, by omega, by omega, hm, xs, h1, h2, h3, .inl ⟨by have := HQ.out.2; omega, h4.more (by have := HQ.out.2; omega) ?_⟩⟩
                  have hql := HQ.out.1
                  subst hql
                  intro e
                  exact HH.out.2 (HH.out.1.symm.trans e)
                case measure => simp [RowKit.intOf] <;> omega
              · have hc44 : ∀ h : k < q.length, q[k] = 44 := fun h => by
                  have hql := HQ.out.1
                  subst hql
                  exact Decidable.byContradiction fun e => hcc ⟨h, e⟩
                have hnk := fun W => nick_r (sq.extract f k) W (by rw [ByteArray.size_extract]; omega)
                obtain ⟨b, hb⟩ : ∃ b, dec (NickP (sq.extract f k)) = b := ⟨_, rfl⟩
                simp only [hb] at hnk
                have hpc : bs ((q.drop f).take (k - f)) = sq.extract f k := ba_ext (by rw [bs_toList, ext_list, HQ.out.1])
                have hbn : nickB ((q.drop f).take (k - f)) = b := by unfold nickB; rw [hpc, hb]
                have HN := Lib.hid (And.intro hnk (And.intro hc44 (And.intro hbn hpc)))
                have q4 : (k : Int) ≤ (sq.size : Int) := by omega
                have q5 : (f : Int) ≤ (k : Int) := by omega
                have hif : (∃ h : k < sq.size, sq[k] = 44) ∨ k = sq.size := by
                  by_cases hlt : k < sq.size
                  · exact .inl ⟨hlt, Decidable.byContradiction fun e => hcc ⟨hlt, e⟩⟩
                  · exact .inr (by omega)
                clear hnk hc44 hbn hpc hb hcc
                rcases hif with ⟨hlt, h44⟩ | rfl
                · have q2 : ((k : Int) == (sq.size : Int)) = false := by rw [beq_eq_false_iff_ne]; omega
                  have q3 : decide (k = sq.size) = false := by simp; omega
                  have q6 : (k : Int) < (sq.size : Int) := by omega
                  go_wp2_with fail
                  refine (HN.out.1 _).mono ?_
                  rintro e w' ⟨rfl, rfl⟩
                  cases b with
                  | false =>
                    go_wp2_with fail
                    go_roundw
                    case rel =>
                      obtain ⟨h1, h2, h3, h4⟩ := HX.out
                      exact ⟨k + 1, k + 1, m, A1, cc1, rfl, by go_num, by go_num, by omega, Nat.le_refl _, hm, xs, h1, h2, h3, rowG_next h4 (by have := HQ.out.2; omega) HN.out.2.1 HN.out.2.2.1 (by simp)⟩
                    case measure => simp [RowKit.intOf] <;> omega
                  | true =>
                    have hown : wr.ownsRow w.heap.size 9 1 (.slice A1 m cc1) m (xs.map encT) := by
                      have := HX.out.2.1
                      unfold OwnT at this
                      rwa [← HX.out.1] at this
                    have HO := Lib.hid hown
                    have hzw := HX.out.2.2.1.size
                    have hml : m ≤ 1000 := by
                      have h5 := rowG_next HX.out.2.2.2 (by have := HQ.out.2; omega) HN.out.2.1 HN.out.2.2.1 rfl
                      have h6 := HX.out.2.2.2.len
                      have h7 := HX.out.1
                      have h8 := HQ.out.2
                      rcases h5 with ⟨_, h5⟩ | ⟨_, h5⟩
                      · have := h5.len
                        simp at this
                        omega
                      · have h9 := congrArg List.length h5
                        have := splitC_len 44 q
                        have h10 := List.length_filter_le nickB (splitC 44 q)
                        unfold nicksV at h9
                        simp at h9
                        omega
                    clear hown
                    go_wp2_with (at_builtin; refine Hid.out ?_)
                    refine Lib.hid ?_
                    refine wpList_one_t rfl _ _ 22 rfl w.heap.size 9 i0 _ 1 16 Tryd.underlying22 hi0 hz0 hz1 hz2 rfl (by decide) _ m (xs.map encT) rfl HO.out #[.string (sq.extract f k)] wr.heap.size rfl rfl rfl (by intro u hu; simp at hu; subst hu; rfl) (by omega) (by decide) hzw ?_
                    intro v4 W4 o4 f4 t4
                    obtain ⟨A4, c4, ev4⟩ := row_slice o4
                    subst ev4
                    have HNew : Hid (RowG q (k + 1) (k + 1) (m + 1) (.slice A4 (m + 1) c4) w W4) := by
                      obtain ⟨h1, h2, h3, h4⟩ := HX.out
                      refine ⟨xs ++ [(q.drop f).take (k - f)], by simp [h1], ?_, h3.trans (f4.below hzw fun j hj e => (HO.out.lt j e).1), rowG_next h4 (by have := HQ.out.2; omega) HN.out.2.1 HN.out.2.2.1 rfl⟩
                      unfold OwnT
                      rw [List.length_append, List.map_append, ← h1]
                      simp only [List.map_cons, List.map_nil, encT, HN.out.2.2.2]
                      exact o4
                    clear o4 f4 t4
                    go_wp2_with fail
                    go_roundw
                    case rel => exact ⟨k + 1, k + 1, m + 1, A4, c4, rfl, by go_num, by go_num, by omega, Nat.le_refl _, by omega, HNew⟩
                    case measure => simp [RowKit.intOf] <;> omega
                · have q2 : ((sq.size : Int) == (sq.size : Int)) = true := by simp
                  go_wp2_with fail
                  refine (HN.out.1 _).mono ?_
                  rintro e w' ⟨rfl, rfl⟩
                  cases b with
                  | false =>
                    go_wp2_with fail
                    go_roundw
                    case rel =>
                      obtain ⟨h1, h2, h3, h4⟩ := HX.out
                      exact ⟨sq.size + 1, sq.size + 1, m, A1, cc1, rfl, by go_num, by go_num, by omega, Nat.le_refl _, hm, xs, h1, h2, h3, rowG_next h4 (by have := HQ.out.2; omega) HN.out.2.1 HN.out.2.2.1 (by simp)⟩
                    case measure => simp [RowKit.intOf] <;> omega
                  | true =>
                    have hown : wr.ownsRow w.heap.size 9 1 (.slice A1 m cc1) m (xs.map encT) := by
                      have := HX.out.2.1
                      unfold OwnT at this
                      rwa [← HX.out.1] at this
                    have HO := Lib.hid hown
                    have hzw := HX.out.2.2.1.size
                    have hml : m ≤ 1000 := by
                      have h5 := rowG_next HX.out.2.2.2 (by have := HQ.out.2; omega) HN.out.2.1 HN.out.2.2.1 rfl
                      have h6 := HX.out.2.2.2.len
                      have h7 := HX.out.1
                      have h8 := HQ.out.2
                      rcases h5 with ⟨_, h5⟩ | ⟨_, h5⟩
                      · have := h5.len
                        simp at this
                        omega
                      · have h9 := congrArg List.length h5
                        have := splitC_len 44 q
                        have h10 := List.length_filter_le nickB (splitC 44 q)
                        unfold nicksV at h9
                        simp at h9
                        omega
                    clear hown
                    go_wp2_with (at_builtin; refine Hid.out ?_)
                    refine Lib.hid ?_
                    refine wpList_one_t rfl _ _ 22 rfl w.heap.size 9 i0 _ 1 16 Tryd.underlying22 hi0 hz0 hz1 hz2 rfl (by decide) _ m (xs.map encT) rfl HO.out #[.string (sq.extract f sq.size)] wr.heap.size rfl rfl rfl (by intro u hu; simp at hu; subst hu; rfl) (by omega) (by decide) hzw ?_
                    intro v4 W4 o4 f4 t4
                    obtain ⟨A4, c4, ev4⟩ := row_slice o4
                    subst ev4
                    have HNew : Hid (RowG q (sq.size + 1) (sq.size + 1) (m + 1) (.slice A4 (m + 1) c4) w W4) := by
                      obtain ⟨h1, h2, h3, h4⟩ := HX.out
                      refine ⟨xs ++ [(q.drop f).take (sq.size - f)], by simp [h1], ?_, h3.trans (f4.below hzw fun j hj e => (HO.out.lt j e).1), rowG_next h4 (by have := HQ.out.2; omega) HN.out.2.1 HN.out.2.2.1 rfl⟩
                      unfold OwnT
                      rw [List.length_append, List.map_append, ← h1]
                      simp only [List.map_cons, List.map_nil, encT, HN.out.2.2.2]
                      exact o4
                    clear o4 f4 t4
                    go_wp2_with fail
                    go_roundw
                    case rel => exact ⟨sq.size + 1, sq.size + 1, m + 1, A4, c4, rfl, by go_num, by go_num, by omega, Nat.le_refl _, by omega, HNew⟩
                    case measure => simp [RowKit.intOf] <;> omega
            · obtain rfl : k = sq.size + 1 := by omega
              have p1 : ¬ (((sq.size + 1 : Nat) : Int) ≤ (sq.size : Int)) := by omega
              obtain ⟨xs, h1, h2, h3, h4 | h4⟩ := HG.out
              · have := HQ.out.2; omega
              · have c0 : wr.cell? ⟨g, o, none⟩ = some (.string ⟨#[43]⟩) := ((Fr.of_below h3).cell (X := fun _ => False) (p := ⟨g, o, none⟩) HC.out.1 fun e => e).trans HC.out.2.1
                have HX := Lib.hid (And.intro h1 (And.intro h2 (And.intro h3 h4)))
                clear h1 h2 h3 h4 HG
                go_wp2_with fail
                rw [← HR.out]
                obtain ⟨h1, h2, h3, _, h4⟩ := HX.out
                refine ⟨⟨A1, cc1, ?_, ?_⟩, h3⟩
                · rw [names_ops (by simp), ← h4, ← h1]; rfl
                · rw [names_ops (by simp), ← h4, ← h1]; exact h2
      · replace c0 : w.cell? ⟨g, o, none⟩ = some (.string ⟨#[45]⟩) := c0
        rcases r with _ | ⟨q, r⟩
        · obtain rfl : n = 1 := hn.symm
          clear hc hg hp hn hn1 hr
          go_enter Tryd.func6, Tryd.ntmps6
          go_wp2_with fail
          rw [← HR.out]
          exact mon_nil rfl rfl
        · have c1 := hc 1 (by simp)
          simp only [List.getElem_cons_succ, List.getElem_cons_zero] at c1
          have hq := hp q (by simp)
          have hn3 : (1 : Int) < (n : Int) := by rw [← hn]; simp; omega
          obtain ⟨sq, hsq⟩ : ∃ sq, bs q = sq := ⟨_, rfl⟩
          have hql : sq.data.toList = q := by rw [← hsq]; rfl
          have hsz : sq.size ≤ 1000 := by rw [← hsq, bs_size]; exact hq
          have hlen : q.length = sq.size := by rw [← hql]; rfl
          rw [hsq] at c1
          have HQ := Lib.hid (And.intro hql hlen)
          have H00 : Hid (RowG q 0 0 0 (.slice none 0 0) w w) := ⟨[], rfl, ownT_nil _ _, Below.refl _ _, .inl ⟨Nat.zero_le _, atN_zero q⟩⟩
          have HC := Lib.hid (And.intro hg (And.intro c0 c1))
          clear hc hp hn hn1 hr hq hsq hql hlen
          go_enter Tryd.func6, Tryd.ntmps6
          go_wp2_with fail
          go_loopw [4, 5, 7] (fun out from_ i wr => ∃ (k f m : Nat) (A1 : Option Addr) (c1 : Nat), out = .slice A1 m c1 ∧ from_ = .int .i64 f ∧ i = .int .i64 k ∧ k ≤ sq.size + 1 ∧ f ≤ k ∧ m ≤ 1001 ∧ Hid (RowG q k f m (.slice A1 m c1) w wr)) (fun _ _ i _ => sq.size + 1 - (RowKit.intOf i).toNat)
          case atStart => exact ⟨0, 0, 0, none, 0, rfl, rfl, rfl, by omega, Nat.le_refl _, by omega, H00⟩
          case round =>
            obtain ⟨k, f, m, A1, cc1, rfl, rfl, rfl, hk, hf, hm, HG⟩ := hrel
            clear H00
            by_cases hkl : k ≤ sq.size
            · have hxs : ∃ xs, m = xs.length ∧ OwnT w.heap.size wr (.slice A1 m cc1) xs ∧ Below w.heap.size w wr ∧ AtN q k f xs := by
                obtain ⟨xs, h1, h2, h3, h4 | h4⟩ := HG.out
                · exact ⟨xs, h1, h2, h3, h4.2⟩
                · have := HQ.out.2; omega
              obtain ⟨xs, h1, h2, h3, h4⟩ := hxs
              have HX := Lib.hid (And.intro h1 (And.intro h2 (And.intro h3 h4)))
              clear h1 h2 h3 h4 HG
              by_cases hcc : ∃ h : k < sq.size, sq[k] ≠ 44
              · obtain ⟨hlt, hne⟩ := hcc
                obtain ⟨x, hx⟩ : ∃ x, sq[k] = x := ⟨_, rfl⟩
                rw [hx] at hne
                have q1 : ((x.toNat : Int) == 44) = false := u8_ne (n := 44) (by omega) hne
                have q2 : decide (k = sq.size) = false := by simp; omega
                have q3 : ((k : Int) == (sq.size : Int)) = false := by rw [beq_eq_false_iff_ne]; omega
                have q4 : (k : Int) < (sq.size : Int) := by omega
                have HH := Lib.hid (And.intro hx hne)
                have hkk : k ≤ sq.size := by omega
                go_wp2_with fail
                go_roundw
                case rel =>
                  obtain ⟨h1, h2, h3, h4⟩ := HX.out
                  refine ⟨k + 1, f, m, A1, cc1, rfl, rfl, by go_num, by omega, by omega, hm, xs, h1, h2, h3, .inl ⟨by have := HQ.out.2; omega, h4.more (by have := HQ.out.2; omega) ?_⟩⟩
                  have hql := HQ.out.1
                  subst hql
                  intro e
                  exact HH.out.2 (HH.out.1.symm.trans e)
                case measure => simp [RowKit.intOf] <;> omega
              · have hc44 : ∀ h : k < q.length, q[k] = 44 := fun h => by
                  have hql := HQ.out.1
                  subst hql
                  exact Decidable.byContradiction fun e => hcc ⟨h, e⟩
                have hnk := fun W => nick_r (sq.extract f k) W (by rw [ByteArray.size_extract]; omega)
                obtain ⟨b, hb⟩ : ∃ b, dec (NickP (sq.extract f k)) = b := ⟨_, rfl⟩
                simp only [hb] at hnk
                have hpc : bs ((q.drop f).take (k - f)) = sq.extract f k := ba_ext (by rw [bs_toList, ext_list, HQ.out.1])
                have hbn : nickB ((q.drop f).take (k - f)) = b := by unfold nickB; rw [hpc, hb]
                have HN := Lib.hid (And.intro hnk (And.intro hc44 (And.intro hbn hpc)))
                have q4 : (k : Int) ≤ (sq.size : Int) := by omega
                have q5 : (f : Int) ≤ (k : Int) := by omega
                have hif : (∃ h : k < sq.size, sq[k] = 44) ∨ k = sq.size := by
                  by_cases hlt : k < sq.size
                  · exact .inl ⟨hlt, Decidable.byContradiction fun e => hcc ⟨hlt, e⟩⟩
                  · exact .inr (by omega)
                clear hnk hc44 hbn hpc hb hcc
                rcases hif with ⟨hlt, h44⟩ | rfl
                · have q2 : ((k : Int) == (sq.size : Int)) = false := by rw [beq_eq_false_iff_ne]; omega
                  have q3 : decide (k = sq.size) = false := by simp; omega
                  have q6 : (k : Int) < (sq.size : Int) := by omega
                  go_wp2_with fail
                  refine (HN.out.1 _).mono ?_
                  rintro e w' ⟨rfl, rfl⟩
                  cases b with
                  | false =>
                    go_wp2_with fail
                    go_roundw
                    case rel =>
                      obtain ⟨h1, h2, h3, h4⟩ := HX.out
                      exact ⟨k + 1, k + 1, m, A1, cc1, rfl, by go_num, by go_num, by omega, Nat.le_refl _, hm, xs, h1, h2, h3, rowG_next h4 (by have := HQ.out.2; omega) HN.out.2.1 HN.out.2.2.1 (by simp)⟩
                    case measure => simp [RowKit.intOf] <;> omega
                  | true =>
                    have hown : wr.ownsRow w.heap.size 9 1 (.slice A1 m cc1) m (xs.map encT) := by
                      have := HX.out.2.1
                      unfold OwnT at this
                      rwa [← HX.out.1] at this
                    have HO := Lib.hid hown
                    have hzw := HX.out.2.2.1.size
                    have hml : m ≤ 1000 := by
                      have h5 := rowG_next HX.out.2.2.2 (by have := HQ.out.2; omega) HN.out.2.1 HN.out.2.2.1 rfl
                      have h6 := HX.out.2.2.2.len
                      have h7 := HX.out.1
                      have h8 := HQ.out.2
                      rcases h5 with ⟨_, h5⟩ | ⟨_, h5⟩
                      · have := h5.len
                        simp at this
                        omega
                      · have h9 := congrArg List.length h5
                        have := splitC_len 44 q
                        have h10 := List.length_filter_le nickB (splitC 44 q)
                        unfold nicksV at h9
                        simp at h9
                        omega
                    clear hown
                    go_wp2_with (at_builtin; refine Hid.out ?_)
                    refine Lib.hid ?_
                    refine wpList_one_t rfl _ _ 22 rfl w.heap.size 9 i0 _ 1 16 Tryd.underlying22 hi0 hz0 hz1 hz2 rfl (by decide) _ m (xs.map encT) rfl HO.out #[.string (sq.extract f k)] wr.heap.size rfl rfl rfl (by intro u hu; simp at hu; subst hu; rfl) (by omega) (by decide) hzw ?_
                    intro v4 W4 o4 f4 t4
                    obtain ⟨A4, c4, ev4⟩ := row_slice o4
                    subst ev4
                    have HNew : Hid (RowG q (k + 1) (k + 1) (m + 1) (.slice A4 (m + 1) c4) w W4) := by
                      obtain ⟨h1, h2, h3, h4⟩ := HX.out
                      refine ⟨xs ++ [(q.drop f).take (k - f)], by simp [h1], ?_, h3.trans (f4.below hzw fun j hj e => (HO.out.lt j e).1), rowG_next h4 (by have := HQ.out.2; omega) HN.out.2.1 HN.out.2.2.1 rfl⟩
                      unfold OwnT
                      rw [List.length_append, List.map_append, ← h1]
                      simp only [List.map_cons, List.map_nil, encT, HN.out.2.2.2]
                      exact o4
                    clear o4 f4 t4
                    go_wp2_with fail
                    go_roundw
                    case rel => exact ⟨k + 1, k + 1, m + 1, A4, c4, rfl, by go_num, by go_num, by omega, Nat.le_refl _, by omega, HNew⟩
                    case measure => simp [RowKit.intOf] <;> omega
                · have q2 : ((sq.size : Int) == (sq.size : Int)) = true := by simp
                  go_wp2_with fail
                  refine (HN.out.1 _).mono ?_
                  rintro e w' ⟨rfl, rfl⟩
                  cases b with
                  | false =>
                    go_wp2_with fail
                    go_roundw
                    case rel =>
                      obtain ⟨h1, h2, h3, h4⟩ := HX.out
                      exact ⟨sq.size + 1, sq.size + 1, m, A1, cc1, rfl, by go_num, by go_num, by omega, Nat.le_refl _, hm, xs, h1, h2, h3, rowG_next h4 (by have := HQ.out.2; omega) HN.out.2.1 HN.out.2.2.1 (by simp)⟩
                    case measure => simp [RowKit.intOf] <;> omega
                  | true =>
                    have hown : wr.ownsRow w.heap.size 9 1 (.slice A1 m cc1) m (xs.map encT) := by
                      have := HX.out.2.1
                      unfold OwnT at this
                      rwa [← HX.out.1] at this
                    have HO := Lib.hid hown
                    have hzw := HX.out.2.2.1.size
                    have hml : m ≤ 1000 := by
                      have h5 := rowG_next HX.out.2.2.2 (by have := HQ.out.2; omega) HN.out.2.1 HN.out.2.2.1 rfl
                      have h6 := HX.out.2.2.2.len
                      have h7 := HX.out.1
                      have h8 := HQ.out.2
                      rcases h5 with ⟨_, h5⟩ | ⟨_, h5⟩
                      · have := h5.len
                        simp at this
                        omega
                      · have h9 := congrArg List.length h5
                        have := splitC_len 44 q
                        have h10 := List.length_filter_le nickB (splitC 44 q)
                        unfold nicksV at h9
                        simp at h9
                        omega
                    clear hown
                    go_wp2_with (at_builtin; refine Hid.out ?_)
                    refine Lib.hid ?_
                    refine wpList_one_t rfl _ _ 22 rfl w.heap.size 9 i0 _ 1 16 Tryd.underlying22 hi0 hz0 hz1 hz2 rfl (by decide) _ m (xs.map encT) rfl HO.out #[.string (sq.extract f sq.size)] wr.heap.size rfl rfl rfl (by intro u hu; simp at hu; subst hu; rfl) (by omega) (by decide) hzw ?_
                    intro v4 W4 o4 f4 t4
                    obtain ⟨A4, c4, ev4⟩ := row_slice o4
                    subst ev4
                    have HNew : Hid (RowG q (sq.size + 1) (sq.size + 1) (m + 1) (.slice A4 (m + 1) c4) w W4) := by
                      obtain ⟨h1, h2, h3, h4⟩ := HX.out
                      refine ⟨xs ++ [(q.drop f).take (sq.size - f)], by simp [h1], ?_, h3.trans (f4.below hzw fun j hj e => (HO.out.lt j e).1), rowG_next h4 (by have := HQ.out.2; omega) HN.out.2.1 HN.out.2.2.1 rfl⟩
                      unfold OwnT
                      rw [List.length_append, List.map_append, ← h1]
                      simp only [List.map_cons, List.map_nil, encT, HN.out.2.2.2]
                      exact o4
                    clear o4 f4 t4
                    go_wp2_with fail
                    go_roundw
                    case rel => exact ⟨sq.size + 1, sq.size + 1, m + 1, A4, c4, rfl, by go_num, by go_num, by omega, Nat.le_refl _, by omega, HNew⟩
                    case measure => simp [RowKit.intOf] <;> omega
            · obtain rfl : k = sq.size + 1 := by omega
              have p1 : ¬ (((sq.size + 1 : Nat) : Int) ≤ (sq.size : Int)) := by omega
              obtain ⟨xs, h1, h2, h3, h4 | h4⟩ := HG.out
              · have := HQ.out.2; omega
              · have c0 : wr.cell? ⟨g, o, none⟩ = some (.string ⟨#[45]⟩) := ((Fr.of_below h3).cell (X := fun _ => False) (p := ⟨g, o, none⟩) HC.out.1 fun e => e).trans HC.out.2.1
                have HX := Lib.hid (And.intro h1 (And.intro h2 (And.intro h3 h4)))
                clear h1 h2 h3 h4 HG
                go_wp2_with fail
                rw [← HR.out]
                obtain ⟨h1, h2, h3, _, h4⟩ := HX.out
                refine ⟨⟨A1, cc1, ?_, ?_⟩, h3⟩
                · rw [names_ops (by simp), ← h4, ← h1]; rfl
                · rw [names_ops (by simp), ← h4, ← h1]; exact h2
    · have hs0 : bs p ≠ ⟨#[43]⟩ := fun e => h43 (.inl (by have := congrArg (fun x : ByteArray => x.data.toList) e; simpa using this))
      have hs1 : bs p ≠ ⟨#[45]⟩ := fun e => h43 (.inr (by have := congrArg (fun x : ByteArray => x.data.toList) e; simpa using this))
      have hlet := fun W => letter_r (bs p) W
      rw [bs_toList] at hlet
      have hM1 : namesM (p :: r) = [] := by
        unfold namesM
        cases r with
        | nil => rfl
        | cons q r' => dsimp only; rw [if_neg h43]
      have hM2 : opM (p :: r) = letV p := by
        unfold opM
        dsimp only
        rw [if_neg (fun e => h43 (.inl e)), if_neg (fun e => h43 (.inr e))]
      obtain ⟨sp, hsp⟩ : ∃ sp, bs p = sp := ⟨_, rfl⟩
      rw [hsp] at c0 hs0 hs1
      simp only [hsp] at hlet
      have q1 : (sp.toList == [43]) = false := by
        rw [beq_eq_false_iff_ne, ByteArray.toList_eq]
        exact fun e => hs0 (ba_ext e)
      have q2 : (sp.toList == [45]) = false := by
        rw [beq_eq_false_iff_ne, ByteArray.toList_eq]
        exact fun e => hs1 (ba_ext e)
      have q3 : (sp.toList != [43]) = true := by rw [bne, q1]; rfl
      have q4 : (sp.toList != [45]) = true := by rw [bne, q2]; rfl
      have HL := Lib.hid hlet
      have HM := Lib.hid (And.intro hM1 hM2)
      clear hc hg hp hn hn1 hr hs0 hs1 hsp hlet hM1 hM2 h43
      go_enter Tryd.func6, Tryd.ntmps6
      go_wp2_with fail
      refine (HL.out _).mono ?_
      rintro e w' ⟨rfl, rfl⟩
      go_wp2_with fail
      rw [← HR.out]
      exact mon_nil HM.out.1 (by rw [HM.out.2])
end Go.Proofs.YtnoeblnljfnecaaDoor
end
section
/- Regions that draw their order, walked op by op in one way: what is held may grow on the way. -/
namespace Go.Proofs.YtnoeblnljfnecaaDoor
open Go Go.RowKit

section
variable {P : Program} {md : Region.Mode} {ops : Array Oper} {Q : Exit → Act → World → Prop} {S T : World → Prop}
/-- what is held may be more from here on -/
theorem wpAnyH_more (hST : ∀ w, T w → S w) : ∀ (fuel : Nat) (listed : Array Bool) (a : Act) (w : World), wpAnyH P md ops Q T fuel listed a w → wpAnyH P md ops Q S fuel listed a w
  | 0, _, _, _, h => h
  | fuel + 1, _, _, _, h => ⟨h.1, fun i hi => wpOp_mono (fun a' w' h' => ⟨hST w' h'.1, wpAnyH_more hST fuel _ a' w' h'.2⟩) (h.2 i hi)⟩
/-- one alone may come up: a call, a store -/
theorem wpAnyH_one {i : Nat} {o : Oper} {fuel : Nat} {listed : Array Bool} {a : Act} {w : World} (hr : Region.ready md ops listed = [i]) (ho : ops[i]? = some o) (hw : Region.wanted o (yielded ops a.tmps) = true)
    (h : ∀ K' : Act → World → Prop, Shut (∀ a w, S w → (S w → wpAnyH P md ops Q S fuel (listed.setIfInBounds i true) a w) → K' a w) → Oper.wp P o a w K' Q) : wpAnyH P md ops Q S (fuel + 1) listed a w :=
  wpAnyH_ready hr (by simp) (AllReadyH.cons ho (fun K hK => by rw [if_pos hw]; exact h K hK) AllReadyH.nil)
/-- what yields in every world that is held -/
theorem wpAnyH_read {i : Nat} {oi : Oper} (v : Value) {fuel : Nat} {listed : Array Bool} {a : Act} {w : World} (hi : ops[i]? = some oi)
    (hs : Region.noSelect ops = true) (hf : Region.free md ops listed i = true) (hr : (Region.ready md ops listed).contains i = true)
    (hQ : ∀ c a w, Q (.panic c) (a.put oi.dst v) w → Q (.panic c) a w) (hw : Region.wanted oi (yielded ops a.tmps) = true) (hS : S w)
    (hy : ∀ w, S w → (execOp a.eval oi).run P w = .ok (.value v) w)
    (h : wpAnyH P md ops Q S fuel (listed.setIfInBounds i true) (a.put oi.dst v) w) : wpAnyH P md ops Q S (fuel + 1) listed a w :=
  wpAnyH_take hi hs hf hr hQ (Or.inl ⟨hw, hy⟩) hS h
/-- what is guarded, and not wanted -/
theorem wpAnyH_pass {i : Nat} {oi : Oper} {fuel : Nat} {listed : Array Bool} {a : Act} {w : World} (hi : ops[i]? = some oi)
    (hs : Region.noSelect ops = true) (hf : Region.free md ops listed i = true) (hr : (Region.ready md ops listed).contains i = true)
    (hQ : ∀ c a w, Q (.panic c) (a.put oi.dst undef) w → Q (.panic c) a w) (hw : Region.wanted oi (yielded ops a.tmps) = false) (hS : S w)
    (h : wpAnyH P md ops Q S fuel (listed.setIfInBounds i true) (a.put oi.dst undef) w) : wpAnyH P md ops Q S (fuel + 1) listed a w :=
  wpAnyH_take hi hs hf hr hQ (Or.inr ⟨hw, rfl⟩) hS h
end
end Go.Proofs.YtnoeblnljfnecaaDoor
end
section
/- Regions that draw their order, whose last operation (number z: a store) waits for what reads: what is held need not hold behind it. -/
namespace Go.Proofs.YtnoeblnljfnecaaDoor
open Go Go.RowKit

/-- does z wait for i? -/
def waitsFor (md : Region.Mode) (ops : Array Oper) (z i : Nat) : Bool := match ops[z]? with
  | some o => o.after.any fun e => Region.binds md e && e.on == i
  | none => false
section
variable {P : Program} {md : Region.Mode} {ops : Array Oper} {Q : Exit → Act → World → Prop} {S : World → Prop} {z : Nat}
/-- whatever order is picked; S holds behind all but z -/
def wpAnyZ (P : Program) (md : Region.Mode) (ops : Array Oper) (Q : Exit → Act → World → Prop) (S : World → Prop) (z : Nat) : Nat → Array Bool → Act → World → Prop
  | 0, listed, a, w => Region.ready md ops listed = [] ∧ Q .normal a w
  | fuel + 1, listed, a, w => (Region.ready md ops listed = [] → Q .normal a w) ∧
    ∀ i ∈ Region.ready md ops listed, wpOp P ops Q i (fun a' w' => (i ≠ z → S w') ∧ wpAnyZ P md ops Q S z fuel (listed.setIfInBounds i true) a' w') a w
theorem wpAny_of_z : ∀ (fuel : Nat) (listed : Array Bool) (a : Act) (w : World), wpAnyZ P md ops Q S z fuel listed a w → wpAny P md ops Q fuel listed a w
  | 0, _, _, _, h => h
  | fuel + 1, _, _, _, h => ⟨h.1, fun i hi => wpOp_mono (fun _ _ h' => wpAny_of_z fuel _ _ _ h'.2) (h.2 i hi)⟩
theorem waits_not {i j : Nat} {listed : Array Bool} (hz : waitsFor md ops z i = true) (hr : i ∈ Region.ready md ops listed) (hj : j ∈ Region.ready md ops listed) : j ≠ z := by
  rintro rfl
  obtain ⟨_, oj, hoj, hall⟩ := mem_ready.1 hj
  unfold waitsFor at hz
  rw [hoj] at hz
  simp only [Array.any_eq_true'] at hz
  obtain ⟨e, he, hb⟩ := hz
  rw [Bool.and_eq_true, beq_iff_eq] at hb
  have h1 := hall e he hb.1
  have h0 := (mem_ready.1 hr).1
  rw [hb.2] at h1
  rcases Nat.lt_or_ge i listed.size with h' | h'
  · simp [h'] at h0 h1; rw [h0] at h1; cases h1
  · simp [Array.getElem?_eq_none h'] at h1
theorem wpAnyZ_first {i : Nat} {oi : Oper} {v : Value} (hi : ops[i]? = some oi) (hsel : ∀ (j : Nat) (o : Oper) cs b, ops[j]? = some o → o.op ≠ .select cs b)
    (hQ : ∀ c a w, Q (.panic c) (a.put oi.dst v) w → Q (.panic c) a w) (hz : waitsFor md ops z i = true) : ∀ (fuel : Nat) (listed : Array Bool) (a : Act) (w : World),
      (∀ j oj, ops[j]? = some oj → j ≠ i → listed.getD j true = false → (∀ e ∈ oj.after, Region.binds md e = true → e.on ≠ i) → oi.apart ops oj = true) →
      i ∈ Region.ready md ops listed → YieldsIf P ops S oi v a → S w → wpAnyZ P md ops Q S z fuel (listed.setIfInBounds i true) (a.put oi.dst v) w → wpAnyZ P md ops Q S z (fuel + 1) listed a w := by
  intro fuel
  induction fuel with
  | zero =>
    intro listed a w _ hr hy hS H
    refine ⟨fun h => (by rw [h] at hr; cases hr), fun j hj => ?_⟩
    by_cases hji : j = i
    · subst hji
      exact hy.wpOp hi hS ⟨fun _ => hS, H⟩
    · have h1 := ready_mono hj hji
      rw [H.1] at h1
      cases h1
  | succ fuel ih =>
    intro listed a w hfree hr hy hS H
    refine ⟨fun h => (by rw [h] at hr; cases hr), fun j hj => ?_⟩
    by_cases hji : j = i
    · subst hji
      exact hy.wpOp hi hS ⟨fun _ => hS, H⟩
    · have hjz := waits_not hz hr hj
      have h1 := H.2 j (ready_mono hj hji)
      obtain ⟨hjun, oj, hoj, hall⟩ := mem_ready.1 hj
      have hnot : ∀ e ∈ oj.after, Region.binds md e = true → e.on ≠ i := fun e he hb heq => by
        have h1 := hall e he hb
        have h0 := (mem_ready.1 hr).1
        rw [heq] at h1
        rcases Nat.lt_or_ge i listed.size with h' | h'
        · simp [h'] at h0 h1; rw [h0] at h1; cases h1
        · simp [Array.getElem?_eq_none h'] at h1
      have h2 := wpOp_putIf hoj (hfree j oj hoj hji hjun hnot) (fun cs b => hsel i oi cs b hi) (fun cs b => hsel j oj cs b hoj) hQ hy h1
      refine wpOp_mono (fun a' w' h3 => ⟨h3.2.1, ih (listed.setIfInBounds j true) a' w' (fun k ok hk hki hun hno => hfree k ok hk hki ?_ hno) (ready_mono hr (Ne.symm hji)) h3.1 (h3.2.1 hjz) ?_⟩) h2
      · by_cases hjk : j = k
        · subst hjk; exact hjun
        · rw [getD_set_ne true hjk] at hun; exact hun
      · rw [Array.setIfInBounds_comm _ _ hji]
        exact h3.2.2
/-- what yields in every world that is held -/
theorem wpAnyZ_read {i : Nat} {oi : Oper} (v : Value) {fuel : Nat} {listed : Array Bool} {a : Act} {w : World} (hi : ops[i]? = some oi)
    (hs : Region.noSelect ops = true) (hf : Region.free md ops listed i = true) (hr : (Region.ready md ops listed).contains i = true) (hz : waitsFor md ops z i = true)
    (hQ : ∀ c a w, Q (.panic c) (a.put oi.dst v) w → Q (.panic c) a w) (hw : Region.wanted oi (yielded ops a.tmps) = true) (hS : S w)
    (hy : ∀ w, S w → (execOp a.eval oi).run P w = .ok (.value v) w)
    (h : wpAnyZ P md ops Q S z fuel (listed.setIfInBounds i true) (a.put oi.dst v) w) : wpAnyZ P md ops Q S z (fuel + 1) listed a w :=
  wpAnyZ_first hi (Region.noSelect_spec hs) hQ hz fuel listed a w (Region.free_spec hi hf) (by simpa using hr) (Or.inl ⟨hw, hy⟩) hS h
/-- one alone may come up: a call, a slice that is made -/
theorem wpAnyZ_one {i : Nat} {o : Oper} {fuel : Nat} {listed : Array Bool} {a : Act} {w : World} (hr : Region.ready md ops listed = [i]) (ho : ops[i]? = some o) (hw : Region.wanted o (yielded ops a.tmps) = true)
    (h : ∀ K' : Act → World → Prop, Shut (∀ a w, S w → (S w → wpAnyZ P md ops Q S z fuel (listed.setIfInBounds i true) a w) → K' a w) → Oper.wp P o a w K' Q) : wpAnyZ P md ops Q S z (fuel + 1) listed a w :=
  ⟨fun h0 => absurd (hr ▸ h0) (by simp), by
    rw [hr]
    intro j hj
    obtain rfl := List.mem_singleton.1 hj
    exact wpOp_step ho fun K' hK => by rw [if_pos hw]; exact h K' fun a w hS hW => hK a w ⟨fun _ => hS, hW hS⟩⟩
/-- z comes up -/
theorem wpAnyZ_last {o : Oper} {fuel : Nat} {listed : Array Bool} {a : Act} {w : World} (hr : Region.ready md ops listed = [z]) (ho : ops[z]? = some o) (hw : Region.wanted o (yielded ops a.tmps) = true)
    (h : ∀ K' : Act → World → Prop, Shut (∀ a w, wpAnyZ P md ops Q S z fuel (listed.setIfInBounds z true) a w → K' a w) → Oper.wp P o a w K' Q) : wpAnyZ P md ops Q S z (fuel + 1) listed a w :=
  ⟨fun h0 => absurd (hr ▸ h0) (by simp), by
    rw [hr]
    intro j hj
    obtain rfl := List.mem_singleton.1 hj
    exact wpOp_step ho fun K' hK => by rw [if_pos hw]; exact h K' fun a w hW => hK a w ⟨fun e => absurd rfl e, hW⟩⟩
theorem wpAnyZ_done {listed : Array Bool} {a : Act} {w : World} (hr : Region.ready md ops listed = []) (h : Q .normal a w) : ∀ fuel, wpAnyZ P md ops Q S z fuel listed a w
  | 0 => ⟨hr, h⟩
  | _ + 1 => ⟨fun _ => h, by rw [hr]; simp⟩
theorem wp_region_z (S : World → Prop) (z : Nat) {id : Nat} {a : Act} {w : World} (hm : P.follows .mixedOrders = true) (hS : S w.drew)
    (h : S w.drew → wpAnyZ P .any ops Q S z ops.size (Array.replicate ops.size false) a w.drew) : (Code.region id ops true).wp P Q a w :=
  wp_region_any hm (wpAny_of_z _ _ _ _ (h hS))
/-- append whose run is known -/
theorem wp_app_run {P : Program} {W W' : World} {o : Oper} {a : Act} {K : Act → World → Prop} {Q : Exit → Act → World → Prop} (s x : Operand) (t tx : TypeId)
    (ho : o.op = .call { callee := .builtin .append, args := #[s, x], argTypes := #[t, tx] }) {v : Value} (hr : (Builtin.append_ #[t, tx] o.type #[a.eval s, a.eval x]).run P W = .ok v W') (h : K (a.put o.dst v) W') : Oper.wp P o a W K Q := by
  unfold Oper.wp execOp
  simp only [ho, resolve, invoke, builtin, Sem.run_bind, Sem.run_pure, Result.andThen_ok, List.map_toArray, List.map_cons, List.map_nil, hr]
  exact h
end
end Go.Proofs.YtnoeblnljfnecaaDoor
end
section
/- Layer 21: the answers' Watch. -/
namespace Go.Proofs.YtnoeblnljfnecaaDoor
set_option linter.unusedVariables false
set_option linter.unusedSimpArgs false
open Go Go.RowKit Go.Lib Go.Shelf

theorem add_any0 (g o j : Nat) : (⟨g, o, none⟩ : Addr).add j = ⟨g, o + j, none⟩ := by
  unfold Addr.add
  split
  · simp_all
  · rfl
set_option maxRecDepth 100000 in
set_option maxHeartbeats 16000000 in
theorem watchr_v (A : Option Addr) (c : Nat) (ps : List (List UInt8)) (w : World) (hl : ps.length ≤ 1000) (hp : ∀ p ∈ ps, p.length ≤ 1000) (hr : ReadsT w A ps) :
    Calls Tryd.prog 8 #[.slice A ps.length c] w (WatP (watchA ps) w) := by
  have mixed : (Tryd.prog).follows Departure.mixedOrders = true := by kernel_rfl
  obtain ⟨i0, hi0, hz0, hz1, hz2⟩ := info_parts Tryd.infoWi
  by_cases hps : ps = []
  · subst hps
    clear hr hp hl
    go_enter Tryd.func8, Tryd.ntmps8
    go_wp2_with fail
    go_ret
    refine ⟨⟨_, _, rfl, ⟨rfl, .inr ⟨w.heap.size, 1, _, rfl, Nat.le_refl _, heap_alloc_new _ _, by simp [watchA], by decide, by simp, rfl⟩⟩⟩, (Below.refl _ _).alloc (Nat.le_refl _) _⟩
  · have hpos : 0 < ps.length := List.length_pos_iff.2 hps
    have hwa : watchA ps = watchV ps := if_neg hps
    rw [hwa]
    obtain ⟨g, o, rfl, hg, hc⟩ := hr hpos
    have q0 : ((ps.length : Int) == 0) = false := by rw [beq_eq_false_iff_ne]; omega
    have HC := Lib.hid (And.intro hc (And.intro hp hg))
    have H0 : Hid (OwnW w.heap.size w (.slice none 0 0) (watchV (ps.take 0)) ∧ Below w.heap.size w w) := ⟨ownW_nil _ _, Below.refl _ _⟩
    clear hc hp hg hr hwa hps
    go_enter Tryd.func8, Tryd.ntmps8
    go_wp2_with fail
    go_loopw [3, 4] (fun l i wr => ∃ (k m : Nat) (A1 : Option Addr) (c1 : Nat), i = .int .i64 k ∧ k ≤ ps.length ∧ l = .slice A1 m c1 ∧ m ≤ k ∧ Hid (m = (watchV (ps.take k)).length ∧ OwnW w.heap.size wr (.slice A1 m c1) (watchV (ps.take k)) ∧ Below w.heap.size w wr)) (fun _ i _ => ps.length - (RowKit.intOf i).toNat)
    case atStart => exact ⟨0, 0, none, 0, rfl, Nat.zero_le _, rfl, Nat.le_refl _, rfl, H0.out.1, H0.out.2⟩
    case round =>
      obtain ⟨k, m, A1, c1, rfl, hk, rfl, hm, HG⟩ := hrel
      clear H0
      by_cases hlt : k < ps.length
      · obtain ⟨p, hpk⟩ : ∃ p, ps[k] = p := ⟨_, rfl⟩
        have c0 : wr.cell? ⟨g, o + k, none⟩ = some (.string (bs p)) := by rw [← hpk]; exact ((Fr.of_below HG.out.2.2).cell (X := fun _ => False) (p := ⟨g, o + k, none⟩) HC.out.2.2 fun e => e).trans (HC.out.1 k hlt)
        have hpl : p.length ≤ 1000 := HC.out.2.1 p (by rw [← hpk]; exact List.getElem_mem hlt)
        have htk : ps.take (k + 1) = ps.take k ++ [p] := by rw [List.take_succ_eq_append_getElem hlt, hpk]
        have hsn := watchV_snoc (ps.take k) p
        rw [← htk] at hsn
        have p0 : (k : Int) < (ps.length : Int) := by omega
        have hlet := fun W => letter_r (bs p) W
        simp only [bs_toList] at hlet
        obtain ⟨cc, hcc⟩ : ∃ cc, letV p = cc := ⟨_, rfl⟩
        simp only [hcc] at hlet
        have hzw := HG.out.2.2.size
        have hown : wr.ownsRow w.heap.size 30 2 (.slice A1 m c1) m ((watchV (ps.take k)).flatMap encW) := by
          have := HG.out.2.1
          unfold OwnW at this
          rwa [← HG.out.1] at this
        have HO := Lib.hid hown
        have HLT := Lib.hid hlet
        clear hown hlet htk
        have key : ∀ op nm, wishV p = some (op, nm) → ∀ A4 c4 W4, W4.ownsRow w.heap.size 30 2 (.slice A4 (m + 1) c4) (m + 1) ((watchV (ps.take k)).flatMap encW ++ [.int .u8 op.toNat, .string (bs nm)]) → Below w.heap.size w W4 → Hid (m + 1 = (watchV (ps.take (k + 1))).length ∧ OwnW w.heap.size W4 (.slice A4 (m + 1) c4) (watchV (ps.take (k + 1))) ∧ Below w.heap.size w W4) := fun op nm ho A4 c4 W4 o4 b4 => by
          have hnew : (watchV (ps.take (k + 1))).length = m + 1 := by rw [hsn, ho, List.length_append, ← HG.out.1]; rfl
          refine ⟨hnew.symm, ?_, b4⟩
          unfold OwnW
          rw [hnew, hsn, ho, List.flatMap_append]
          exact o4
        have keyN : wishV p = none → ∀ W4, Below w.heap.size w W4 → (∀ j, (Value.slice A1 m c1).ownBlock = some j → W4.heap[j]? = wr.heap[j]?) → Hid (m = (watchV (ps.take (k + 1))).length ∧ OwnW w.heap.size W4 (.slice A1 m c1) (watchV (ps.take (k + 1))) ∧ Below w.heap.size w W4) := fun ho W4 b4 h4 => by
          rw [hsn, ho]
          simp only [Option.toList, List.append_nil]
          exact ⟨HG.out.1, ownW_kept HG.out.2.1 h4, b4⟩
        have HK := Lib.hid (And.intro key keyN)
        clear key keyN hsn
        by_cases hc0 : cc = 0
        · subst hc0
          have hzz : ((0 : UInt8).toNat : Int) = 0 := rfl
          obtain ⟨s, hs⟩ : ∃ s, bs p = s := ⟨_, rfl⟩
          have hps2 : p = s.data.toList := by rw [← hs]; rfl
          have hsz : s.size ≤ 1000 := by rw [← hs, bs_size]; exact hpl
          rw [hs] at c0
          simp only [hs] at HLT
          by_cases hz : 1 < s.size
          · have hh := head_bs s (by omega)
            obtain ⟨x, hx⟩ : ∃ x, s[0] = x := ⟨_, rfl⟩
            rw [hx] at hh
            have hnk := fun W => nick_r (s.extract 1 s.size) W (by simp; omega)
            obtain ⟨nb, hnb⟩ : ∃ nb, dec (NickP (s.extract 1 s.size)) = nb := ⟨_, rfl⟩
            simp only [hnb] at hnk
            have hbs := tail_bs s
            have hv : wishV p = if (x = 43 ∨ x = 45) ∧ nb = true then some (x, s.data.toList.tail) else none := by
              unfold wishV
              rw [hcc, if_neg (by decide), hps2, hh]
              dsimp only
              unfold nickB
              rw [List.tail_cons, hbs, hnb]
            have HN := Lib.hid hnk
            have HV := Lib.hid (And.intro hv hbs)
            have q5 : (1 : Int) < (s.size : Int) := by omega
            have q6 : (0 : Int) < (s.size : Int) := by omega
            have q7 : (1 : Int) ≤ (s.size : Int) := by omega
            have q8 : 0 < s.size := by omega
            clear hv hbs hnk hnb hh hcc hps2 hs hpl hpk
            by_cases hm2 : x = 43 ∨ x = 45
            · rcases hm2 with rfl | rfl
              · cases nb with
                | false =>
                  have hv2 : wishV p = none := by rw [HV.out.1, if_neg (by simp)]
                  have HV2 := Lib.hid hv2
                  clear hv2
                  go_wp2_with fail
                  refine (HLT.out _).mono ?_
                  rintro e w' ⟨rfl, rfl⟩
                  go_wp2_with fail
                  refine (HN.out _).mono ?_
                  rintro e w' ⟨rfl, rfl⟩
                  go_wp2_with fail
                  go_roundw
                  case rel => exact ⟨k + 1, m, A1, c1, by go_num, by omega, rfl, by omega, HK.out.2 HV2.out _ HG.out.2.2 fun _ _ => rfl⟩
                  case measure => simp [RowKit.intOf] <;> omega
                | true =>
                  have hv2 : wishV p = some (43, s.data.toList.tail) := by rw [HV.out.1, if_pos ⟨.inl rfl, rfl⟩]
                  have HV2 := Lib.hid (And.intro hv2 HV.out.2)
                  clear hv2
                  go_wp2_with fail
                  refine (HLT.out _).mono ?_
                  rintro e w' ⟨rfl, rfl⟩
                  go_wp2_with fail
                  refine (HN.out _).mono ?_
                  rintro e w' ⟨rfl, rfl⟩
                  go_wp2_with fail
                  obtain ⟨W1, hW1⟩ : ∃ W1, (wr.alloc (.cells #[.int .u8 43, .string (s.extract 1 s.size)] 30)).drew = W1 := ⟨_, rfl⟩
                  have f1 : Fr (fun _ => False) wr W1 := by rw [← hW1]; exact ((Fr.refl _ _).alloc _).drew
                  have hsrc : Src Tryd.prog 2 26 (.slice (some ⟨wr.heap.size, 0, none⟩) 1 1) 1 [.int .u8 43, .string (s.extract 1 s.size)] W1 :=
                    Src.ofSlice W1 Tryd.underlying26 ⟨wr.heap.size, 0, none⟩ 1 1 _ rfl (fun j u hu => by
                      have hk : W1.heap[wr.heap.size]? = some (.cells #[.int .u8 43, .string (s.extract 1 s.size)] 30 (0, 0)) := by rw [← hW1]; exact blk_drew (heap_alloc_new wr _)
                      rw [add_any0]
                      exact (blk_cell hk (0 + j)).trans (by rw [Nat.zero_add]; simpa using hu)) (by intro u hu; simp at hu; rcases hu with rfl | rfl <;> rfl)
                  have hown1 : W1.ownsRow w.heap.size 30 2 (.slice A1 m c1) m ((watchV (ps.take k)).flatMap encW) := row_same HO.out fun j hj => f1.block j (HO.out.lt j hj).2 fun e => e
                  obtain ⟨v4, W4, hrun, o4, f4, t4⟩ := run_app_any (P := Tryd.prog) W1 w.heap.size 26 26 26 30 i0 _ 2 24 Tryd.underlying26 hi0 hz0 hz1 hz2 rfl _ m _ hown1 _ 1 _ hsrc (by unfold maxLen; omega) (by omega) (by have := f1.size; omega)
                  obtain ⟨A4, c4, ev4⟩ := row_slice o4
                  subst ev4
                  have HNew := HK.out.1 _ _ HV2.out.1 A4 c4 W4 (by rw [HV2.out.2]; exact o4) ((HG.out.2.2.trans (f1.below hzw fun _ _ e => e.elim)).trans (f4.below (by have := f1.size; omega) fun j hj e => (HO.out.lt j e).1))
                  rw [← hW1] at hrun
                  have HRUN := Lib.hid hrun
                  clear hW1 f1 hsrc hown1 hrun o4 f4 t4
                  refine wp_region_held_drew (S := fun _ => True) (by kernel_rfl) trivial (fun hHeld => ?_)
                  refine wpAnyH_read (i := 0) (oi := { dst := some 49, op := Go.Op.move (Go.Operand.tmp 3), type := 26, pos := "ref.go:141", after := #[], guard := none }) ?_ rfl (by kernel_rfl) (by kernel_rfl) (by kernel_rfl) (fun _ _ _ h => h) (by rfl) (by assumption) ?_ ?_
                  rotate_left
                  · (intro w0 hS0; go_simp <;> (try with_reducible rfl))
                  try simp only [Act.put, List.setIfInBounds_toArray, List.set_cons_zero, List.set_cons_succ]
                  refine wpAnyH_read (i := 1) (oi := { dst := some 50, op := Go.Op.move (Go.Operand.tmp 5), type := 9, pos := "ref.go:141", after := #[], guard := none }) ?_ rfl (by kernel_rfl) (by kernel_rfl) (by kernel_rfl) (fun _ _ _ h => h) (by rfl) (by assumption) ?_ ?_
                  rotate_left
                  · (intro w0 hS0; go_simp <;> (try with_reducible rfl))
                  try simp only [Act.put, List.setIfInBounds_toArray, List.set_cons_zero, List.set_cons_succ]
                  refine wpAnyH_read (i := 2) (oi := { dst := some 51, op := Go.Op.index 9 (Go.Operand.tmp 50) (Go.Operand.const (Go.Value.int Go.IntKind.i64 0)), type := 5, pos := "ref.go:141", after := #[{ on := 1, ground := Go.Ground.data }], guard := none }) ?_ rfl (by kernel_rfl) (by kernel_rfl) (by kernel_rfl) (fun _ _ _ h => h) (by rfl) (by assumption) ?_ ?_
                  rotate_left
                  · (intro w0 hS0; go_simp <;> (try with_reducible rfl))
                  try simp only [Act.put, List.setIfInBounds_toArray, List.set_cons_zero, List.set_cons_succ]
                  refine wpAnyH_read (i := 3) (oi := { dst := some 52, op := Go.Op.move (Go.Operand.tmp 5), type := 9, pos := "ref.go:141", after := #[], guard := none }) ?_ rfl (by kernel_rfl) (by kernel_rfl) (by kernel_rfl) (fun _ _ _ h => h) (by rfl) (by assumption) ?_ ?_
                  rotate_left
                  · (intro w0 hS0; go_simp <;> (try with_reducible rfl))
                  try simp only [Act.put, List.setIfInBounds_toArray, List.set_cons_zero, List.set_cons_succ]
                  refine wpAnyH_read (i := 4) (oi := { dst := some 53, op := Go.Op.slice 9 (Go.Operand.tmp 52) (some (Go.Operand.const (Go.Value.int Go.IntKind.i64 1))) none none, type := 9, pos := "ref.go:141", after := #[{ on := 3, ground := Go.Ground.data }], guard := none }) ?_ rfl (by kernel_rfl) (by kernel_rfl) (by kernel_rfl) (fun _ _ _ h => h) (by rfl) (by assumption) ?_ ?_
                  rotate_left
                  · (intro w0 hS0; go_simp <;> (try with_reducible rfl))
                  try simp only [Act.put, List.setIfInBounds_toArray, List.set_cons_zero, List.set_cons_succ]
                  refine wpAnyH_read (i := 5) (oi := { dst := some 54, op := Go.Op.build 30 #[(0, Go.Operand.tmp 51), (1, Go.Operand.tmp 53)], type := 30, pos := "ref.go:141", after := #[{ on := 2, ground := Go.Ground.data }, { on := 4, ground := Go.Ground.data }], guard := none }) ?_ rfl (by kernel_rfl) (by kernel_rfl) (by kernel_rfl) (fun _ _ _ h => h) (by rfl) (by assumption) ?_ ?_
                  rotate_left
                  · (intro w0 hS0; go_simp <;> (try with_reducible rfl))
                  try simp only [Act.put, List.setIfInBounds_toArray, List.set_cons_zero, List.set_cons_succ]
                  refine wpAnyH_one (i := 6) (o := { dst := some 55, op := Go.Op.buildSlice 26 1 #[(0, Go.Operand.tmp 54)], type := 26, pos := "ref.go:141", after := #[{ on := 5, ground := Go.Ground.data }], guard := none }) (by kernel_rfl) rfl (by rfl) (fun K hK => ?_)
                  go_simp
                  refine hK.out _ _ ?_ (fun hHeld => ?_)
                  · trivial
                  clear hK K
                  try simp only [Act.put, List.setIfInBounds_toArray, List.set_cons_zero, List.set_cons_succ]
                  refine wpAnyH_one (i := 7) (o := { dst := some 56, op := Go.Op.call { callee := Go.Callee.builtin Go.Builtin.append, args := #[Go.Operand.tmp 49, Go.Operand.tmp 55], argTypes := #[26, 26] }, type := 26, pos := "ref.go:141", after := #[{ on := 0, ground := Go.Ground.data }, { on := 6, ground := Go.Ground.data }], guard := none }) (by kernel_rfl) rfl (by rfl) (fun K hK => ?_)
                  refine wp_app_run _ _ _ _ rfl HRUN.out ?_
                  refine hK.out _ _ ?_ (fun hHeld => ?_)
                  · trivial
                  clear hK K
                  try simp only [Act.put, List.setIfInBounds_toArray, List.set_cons_zero, List.set_cons_succ]
                  refine wpAnyH_read (i := 8) (oi := { dst := some 3, op := Go.Op.assign (Go.Operand.tmp 56), type := 26, pos := "ref.go:141", after := #[{ on := 7, ground := Go.Ground.data }, { on := 7, ground := Go.Ground.chain }, { on := 0, ground := Go.Ground.phase }, { on := 1, ground := Go.Ground.phase }, { on := 2, ground := Go.Ground.phase }, { on := 3, ground := Go.Ground.phase }, { on := 4, ground := Go.Ground.phase }, { on := 5, ground := Go.Ground.phase }, { on := 6, ground := Go.Ground.phase }, { on := 7, ground := Go.Ground.phase }], guard := none }) ?_ rfl (by kernel_rfl) (by kernel_rfl) (by kernel_rfl) (fun _ _ _ h => h) (by rfl) (by assumption) ?_ ?_
                  rotate_left
                  · (intro w0 hS0; go_simp <;> (try with_reducible rfl))
                  try simp only [Act.put, List.setIfInBounds_toArray, List.set_cons_zero, List.set_cons_succ]
                  refine wpAnyH_done (by kernel_rfl) ?_ _
                  go_wp2_with fail
                  go_roundw
                  case rel => exact ⟨k + 1, m + 1, A4, c4, by go_num, by omega, rfl, by omega, HNew⟩
                  case measure => simp [RowKit.intOf] <;> omega
              · cases nb with
                | false =>
                  have hv2 : wishV p = none := by rw [HV.out.1, if_neg (by simp)]
                  have HV2 := Lib.hid hv2
                  clear hv2
                  go_wp2_with fail
                  refine (HLT.out _).mono ?_
                  rintro e w' ⟨rfl, rfl⟩
                  go_wp2_with fail
                  refine (HN.out _).mono ?_
                  rintro e w' ⟨rfl, rfl⟩
                  go_wp2_with fail
                  go_roundw
                  case rel => exact ⟨k + 1, m, A1, c1, by go_num, by omega, rfl, by omega, HK.out.2 HV2.out _ HG.out.2.2 fun _ _ => rfl⟩
                  case measure => simp [RowKit.intOf] <;> omega
                | true =>
                  have hv2 : wishV p = some (45, s.data.toList.tail) := by rw [HV.out.1, if_pos ⟨.inr rfl, rfl⟩]
                  have HV2 := Lib.hid (And.intro hv2 HV.out.2)
                  clear hv2
                  go_wp2_with fail
                  refine (HLT.out _).mono ?_
                  rintro e w' ⟨rfl, rfl⟩
                  go_wp2_with fail
                  refine (HN.out _).mono ?_
                  rintro e w' ⟨rfl, rfl⟩
                  go_wp2_with fail
                  obtain ⟨W1, hW1⟩ : ∃ W1, (wr.alloc (.cells #[.int .u8 45, .string (s.extract 1 s.size)] 30)).drew = W1 := ⟨_, rfl⟩
                  have f1 : Fr (fun _ => False) wr W1 := by rw [← hW1]; exact ((Fr.refl _ _).alloc _).drew
                  have hsrc : Src Tryd.prog 2 26 (.slice (some ⟨wr.heap.size, 0, none⟩) 1 1) 1 [.int .u8 45, .string (s.extract 1 s.size)] W1 :=
                    Src.ofSlice W1 Tryd.underlying26 ⟨wr.heap.size, 0, none⟩ 1 1 _ rfl (fun j u hu => by
                      have hk : W1.heap[wr.heap.size]? = some (.cells #[.int .u8 45, .string (s.extract 1 s.size)] 30 (0, 0)) := by rw [← hW1]; exact blk_drew (heap_alloc_new wr _)
                      rw [add_any0]
                      exact (blk_cell hk (0 + j)).trans (by rw [Nat.zero_add]; simpa using hu)) (by intro u hu; simp at hu; rcases hu with rfl | rfl <;> rfl)
                  have hown1 : W1.ownsRow w.heap.size 30 2 (.slice A1 m c1) m ((watchV (ps.take k)).flatMap encW) := row_same HO.out fun j hj => f1.block j (HO.out.lt j hj).2 fun e => e
                  obtain ⟨v4, W4, hrun, o4, f4, t4⟩ := run_app_any (P := Tryd.prog) W1 w.heap.size 26 26 26 30 i0 _ 2 24 Tryd.underlying26 hi0 hz0 hz1 hz2 rfl _ m _ hown1 _ 1 _ hsrc (by unfold maxLen; omega) (by omega) (by have := f1.size; omega)
                  obtain ⟨A4, c4, ev4⟩ := row_slice o4
                  subst ev4
                  have HNew := HK.out.1 _ _ HV2.out.1 A4 c4 W4 (by rw [HV2.out.2]; exact o4) ((HG.out.2.2.trans (f1.below hzw fun _ _ e => e.elim)).trans (f4.below (by have := f1.size; omega) fun j hj e => (HO.out.lt j e).1))
                  rw [← hW1] at hrun
                  have HRUN := Lib.hid hrun
                  clear hW1 f1 hsrc hown1 hrun o4 f4 t4
                  refine wp_region_held_drew (S := fun _ => True) (by kernel_rfl) trivial (fun hHeld => ?_)
                  refine wpAnyH_read (i := 0) (oi := { dst := some 49, op := Go.Op.move (Go.Operand.tmp 3), type := 26, pos := "ref.go:141", after := #[], guard := none }) ?_ rfl (by kernel_rfl) (by kernel_rfl) (by kernel_rfl) (fun _ _ _ h => h) (by rfl) (by assumption) ?_ ?_
                  rotate_left
                  · (intro w0 hS0; go_simp <;> (try with_reducible rfl))
                  try simp only [Act.put, List.setIfInBounds_toArray, List.set_cons_zero, List.set_cons_succ]
                  refine wpAnyH_read (i := 1) (oi := { dst := some 50, op := Go.Op.move (Go.Operand.tmp 5), type := 9, pos := "ref.go:141", after := #[], guard := none }) ?_ rfl (by kernel_rfl) (by kernel_rfl) (by kernel_rfl) (fun _ _ _ h => h) (by rfl) (by assumption) ?_ ?_
                  rotate_left
                  · (intro w0 hS0; go_simp <;> (try with_reducible rfl))
                  try simp only [Act.put, List.setIfInBounds_toArray, List.set_cons_zero, List.set_cons_succ]
                  refine wpAnyH_read (i := 2) (oi := { dst := some 51, op := Go.Op.index 9 (Go.Operand.tmp 50) (Go.Operand.const (Go.Value.int Go.IntKind.i64 0)), type := 5, pos := "ref.go:141", after := #[{ on := 1, ground := Go.Ground.data }], guard := none }) ?_ rfl (by kernel_rfl) (by kernel_rfl) (by kernel_rfl) (fun _ _ _ h => h) (by rfl) (by assumption) ?_ ?_
                  rotate_left
                  · (intro w0 hS0; go_simp <;> (try with_reducible rfl))
                  try simp only [Act.put, List.setIfInBounds_toArray, List.set_cons_zero, List.set_cons_succ]
                  refine wpAnyH_read (i := 3) (oi := { dst := some 52, op := Go.Op.move (Go.Operand.tmp 5), type := 9, pos := "ref.go:141", after := #[], guard := none }) ?_ rfl (by kernel_rfl) (by kernel_rfl) (by kernel_rfl) (fun _ _ _ h => h) (by rfl) (by assumption) ?_ ?_
                  rotate_left
                  · (intro w0 hS0; go_simp <;> (try with_reducible rfl))
                  try simp only [Act.put, List.setIfInBounds_toArray, List.set_cons_zero, List.set_cons_succ]
                  refine wpAnyH_read (i := 4) (oi := { dst := some 53, op := Go.Op.slice 9 (Go.Operand.tmp 52) (some (Go.Operand.const (Go.Value.int Go.IntKind.i64 1))) none none, type := 9, pos := "ref.go:141", after := #[{ on := 3, ground := Go.Ground.data }], guard := none }) ?_ rfl (by kernel_rfl) (by kernel_rfl) (by kernel_rfl) (fun _ _ _ h => h) (by rfl) (by assumption) ?_ ?_
                  rotate_left
                  · (intro w0 hS0; go_simp <;> (try with_reducible rfl))
                  try simp only [Act.put, List.setIfInBounds_toArray, List.set_cons_zero, List.set_cons_succ]
                  refine wpAnyH_read (i := 5) (oi := { dst := some 54, op := Go.Op.build 30 #[(0, Go.Operand.tmp 51), (1, Go.Operand.tmp 53)], type := 30, pos := "ref.go:141", after := #[{ on := 2, ground := Go.Ground.data }, { on := 4, ground := Go.Ground.data }], guard := none }) ?_ rfl (by kernel_rfl) (by kernel_rfl) (by kernel_rfl) (fun _ _ _ h => h) (by rfl) (by assumption) ?_ ?_
                  rotate_left
                  · (intro w0 hS0; go_simp <;> (try with_reducible rfl))
                  try simp only [Act.put, List.setIfInBounds_toArray, List.set_cons_zero, List.set_cons_succ]
                  refine wpAnyH_one (i := 6) (o := { dst := some 55, op := Go.Op.buildSlice 26 1 #[(0, Go.Operand.tmp 54)], type := 26, pos := "ref.go:141", after := #[{ on := 5, ground := Go.Ground.data }], guard := none }) (by kernel_rfl) rfl (by rfl) (fun K hK => ?_)
                  go_simp
                  refine hK.out _ _ ?_ (fun hHeld => ?_)
                  · trivial
                  clear hK K
                  try simp only [Act.put, List.setIfInBounds_toArray, List.set_cons_zero, List.set_cons_succ]
                  refine wpAnyH_one (i := 7) (o := { dst := some 56, op := Go.Op.call { callee := Go.Callee.builtin Go.Builtin.append, args := #[Go.Operand.tmp 49, Go.Operand.tmp 55], argTypes := #[26, 26] }, type := 26, pos := "ref.go:141", after := #[{ on := 0, ground := Go.Ground.data }, { on := 6, ground := Go.Ground.data }], guard := none }) (by kernel_rfl) rfl (by rfl) (fun K hK => ?_)
                  refine wp_app_run _ _ _ _ rfl HRUN.out ?_
                  refine hK.out _ _ ?_ (fun hHeld => ?_)
                  · trivial
                  clear hK K
                  try simp only [Act.put, List.setIfInBounds_toArray, List.set_cons_zero, List.set_cons_succ]
                  refine wpAnyH_read (i := 8) (oi := { dst := some 3, op := Go.Op.assign (Go.Operand.tmp 56), type := 26, pos := "ref.go:141", after := #[{ on := 7, ground := Go.Ground.data }, { on := 7, ground := Go.Ground.chain }, { on := 0, ground := Go.Ground.phase }, { on := 1, ground := Go.Ground.phase }, { on := 2, ground := Go.Ground.phase }, { on := 3, ground := Go.Ground.phase }, { on := 4, ground := Go.Ground.phase }, { on := 5, ground := Go.Ground.phase }, { on := 6, ground := Go.Ground.phase }, { on := 7, ground := Go.Ground.phase }], guard := none }) ?_ rfl (by kernel_rfl) (by kernel_rfl) (by kernel_rfl) (fun _ _ _ h => h) (by rfl) (by assumption) ?_ ?_
                  rotate_left
                  · (intro w0 hS0; go_simp <;> (try with_reducible rfl))
                  try simp only [Act.put, List.setIfInBounds_toArray, List.set_cons_zero, List.set_cons_succ]
                  refine wpAnyH_done (by kernel_rfl) ?_ _
                  go_wp2_with fail
                  go_roundw
                  case rel => exact ⟨k + 1, m + 1, A4, c4, by go_num, by omega, rfl, by omega, HNew⟩
                  case measure => simp [RowKit.intOf] <;> omega
            · have q1 : ((x.toNat : Int) == 43) = false := u8_ne (c := x) (n := 43) (by omega) (fun e => hm2 (.inl e))
              have q2 : ((x.toNat : Int) == 45) = false := u8_ne (c := x) (n := 45) (by omega) (fun e => hm2 (.inr e))
              have hv2 : wishV p = none := by rw [HV.out.1, if_neg (fun e => hm2 e.1)]
              have HV2 := Lib.hid hv2
              clear hm2 hv2
              go_wp2_with fail
              refine (HLT.out _).mono ?_
              rintro e w' ⟨rfl, rfl⟩
              go_wp2_with fail
              go_roundw
              case rel => exact ⟨k + 1, m, A1, c1, by go_num, by omega, rfl, by omega, HK.out.2 HV2.out _ HG.out.2.2 fun _ _ => rfl⟩
              case measure => simp [RowKit.intOf] <;> omega
          · have hv2 : wishV p = none := by
              unfold wishV
              rw [hcc, if_neg (by decide)]
              cases hp2 : p with
              | nil => rfl
              | cons a r =>
                have hr0 : r = [] := by
                  have h9 : p.length = s.size := by rw [hps2]; rfl
                  rw [hp2] at h9
                  simp at h9
                  exact List.length_eq_zero_iff.1 (by omega)
                subst hr0
                dsimp only
                rw [nickB_nil, if_neg (by simp)]
            have HV2 := Lib.hid hv2
            have q5 : ¬ (1 : Int) < (s.size : Int) := by omega
            have q7 : decide ((1 : Int) < (s.size : Int)) = false := by simp; omega
            clear hv2 hcc hps2 hs hpl hpk
            go_wp2_with fail
            refine (HLT.out _).mono ?_
            rintro e w' ⟨rfl, rfl⟩
            go_wp2_with fail
            go_roundw
            case rel => exact ⟨k + 1, m, A1, c1, by go_num, by omega, rfl, by omega, HK.out.2 HV2.out _ HG.out.2.2 fun _ _ => rfl⟩
            case measure => simp [RowKit.intOf] <;> omega
        · have q1 : ((cc.toNat : Int) == 0) = false := u8_ne (n := 0) (by omega) hc0
          have hv2 : wishV p = some (cc, []) := by unfold wishV; rw [hcc, if_pos hc0]
          have HV2 := Lib.hid hv2
          clear hv2 hc0 hcc hpl hpk
          go_wp2_with fail
          refine (HLT.out _).mono ?_
          rintro e w' ⟨rfl, rfl⟩
          go_wp2_with (at_builtin; refine Hid.out ?_)
          refine Lib.hid ?_
          refine wpList_one_t rfl _ _ 26 rfl w.heap.size 30 i0 _ 2 24 Tryd.underlying26 hi0 hz0 hz1 hz2 rfl (by decide) _ m ((watchV (ps.take k)).flatMap encW) rfl HO.out #[.int .u8 cc.toNat, .string ⟨#[]⟩] wr.heap.size rfl rfl rfl (by intro u hu; simp at hu; rcases hu with rfl | rfl <;> rfl) (by omega) (by decide) hzw ?_
          intro v4 W4 o4 f4 t4
          obtain ⟨A4, c4, ev4⟩ := row_slice o4
          subst ev4
          have HNew := HK.out.1 cc [] HV2.out A4 c4 W4 o4 (HG.out.2.2.trans (f4.below hzw fun j hj e => (HO.out.lt j e).1))
          clear o4 f4 t4
          go_wp2_with fail
          go_roundw
          case rel => exact ⟨k + 1, m + 1, A4, c4, by go_num, by omega, rfl, by omega, HNew⟩
          case measure => simp [RowKit.intOf] <;> omega
      · obtain rfl : k = ps.length := by omega
        have p1 : ¬ ((ps.length : Int) < (ps.length : Int)) := by omega
        go_wp2_with fail
        go_ret
        obtain ⟨h1, h2, h3⟩ := HG.out
        rw [List.take_length] at h1 h2
        exact ⟨⟨A1, c1, by rw [h1]; rfl, by rw [← h1]; exact h2⟩, h3⟩
end Go.Proofs.YtnoeblnljfnecaaDoor
end
