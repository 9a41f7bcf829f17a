/- Layer 13: WasPlays. -/
import Derived.Test.YtkifblbmppjicaaWasI
namespace Go.Proofs.Ytkifblbmppjicaa
set_option linter.unusedVariables false
set_option linter.unusedSimpArgs false
open Go.RowKit Go.Shelf

/-- all that went into a past of N places -/
def puts (N : Nat) (h : List Ent) : List Ent := if N = 0 then [] else h
theorem puts_succ (N : Nat) (l : List Ent) (i : Nat) (h : i < l.length) : went N (puts N (l.take i)) l[i] = puts N (l.take (i + 1)) := by
  unfold went puts
  by_cases h0 : N = 0
  · rw [if_pos h0, if_pos h0, if_pos h0]
  · rw [if_neg h0, if_neg h0, if_neg h0, List.take_succ_eq_append_getElem h]
theorem puts_told (N : Nat) (h : List Ent) (nm : ByteArray) (all : Bool) : toldE N (puts N h) nm all = toldE N h nm all := by
  unfold puts
  by_cases h0 : N = 0
  · subst h0; rw [toldE_sel, toldE_sel]; simp
  · rw [if_neg h0]
theorem puts_len (N : Nat) (l : List Ent) (i : Nat) (h : i ≤ l.length) : min (puts N (l.take i)).length N = min i N := by
  unfold puts
  by_cases h0 : N = 0
  · subst h0; simp
  · rw [if_neg h0, List.length_take]; omega
theorem puts_mem {N : Nat} {h : List Ent} {x : Ent} (hx : x ∈ puts N h) : x ∈ h := by
  unfold puts at hx
  split at hx
  · cases hx
  · exact hx
theorem told_len (N : Nat) (h : List Ent) (nm : ByteArray) (all : Bool) : (toldE N h nm all).length ≤ h.length := by
  rw [toldE_sel]
  exact Nat.le_trans (selE_len _ _ _) (by simp; omega)

set_option maxRecDepth 100000 in
set_option maxHeartbeats 8000000 in
theorem wasPlays_main (N : Nat) (hN : N ≤ 100000) (A : Option Addr) (l : List Ent) (c : Nat) (nm : ByteArray) (w : World) (hl : l.length ≤ 60) (hlc : l.length ≤ c) (hcm : c ≤ maxLen) (hnm : nm.size ≤ 30)
    (hc : 0 < l.length → ∃ g o, A = some ⟨g, o, none⟩ ∧ g < w.heap.size ∧ ∀ i (h : i < l.length), w.cell? ⟨g, o + i * 2, none⟩ = some (.string l[i].1) ∧ w.cell? ⟨g, o + i * 2 + 1, none⟩ = some (.int .i64 l[i].2)) :
    Calls Try.prog 3 #[.int .i64 N, .slice A l.length c, .string nm] w fun e w' => e = .returned (.bool true) ∧ Below w.heap.size w w' := by
  unfold maxLen at hcm
  have HC := Lib.hid hc
  have hl1 : ¬ (l.length : Int) > 60 := by omega
  have hn1 : ¬ (nm.size : Int) > 30 := by omega
  have hN1 : ¬ (N : Int) < 0 := by omega
  have hN2 : ¬ (N : Int) > 100000 := by omega
  clear hc
  go_enter Try.func3, Try.ntmps3
  go_wp2_with fail
  refine (awake13 _).mono ?_
  rintro e w1 ⟨rfl, q1⟩
  have H1 := Lib.hid q1
  have hz1 := q1.size
  clear q1
  go_wp2_with fail
  refine (was_new N hN _).mono ?_
  rintro e w2 ⟨rfl, hw2⟩
  have hP2 := past_fresh N w1
  rw [← hw2] at hP2
  have hB2 : Below w.heap.size w w2 := H1.out.trans ((by rw [hw2]; exact ((Below.refl _ w1).alloc (Nat.le_refl _) _).alloc (by simp) _ : Below w1.heap.size w1 w2).mono hz1)
  obtain ⟨R, hR⟩ : ∃ R, w1.heap.size = R := ⟨_, rfl⟩
  rw [hR] at hP2 hz1 ⊢
  have H2 := Lib.hid (And.intro hP2 hB2)
  clear hw2 hP2 hB2 hR H1
  go_wp2_with fail
  go_loopw [9] (fun v wr => ∃ i : Nat, v = .int .i64 i ∧ i ≤ l.length ∧ Hid ((∀ x ∈ l.take i, x.1.size ≤ 30) ∧ PastAt wr (R + 1) R N (puts N (l.take i)) ∧ Below w.heap.size w wr)) (fun v _ => l.length - (intOf v).toNat)
  case atStart => exact ⟨0, rfl, Nat.zero_le _, by simp, by have := H2.out.1; unfold puts; simpa using this, H2.out.2⟩
  case round =>
    obtain ⟨i, rfl, hi, HR⟩ := hrel
    by_cases hlt : i < l.length
    · obtain ⟨g, o, rfl, hg, hcell⟩ := HC.out (by omega)
      obtain ⟨e0, e1⟩ := hcell i hlt
      have hB := HR.out.2.2
      have d0 := hB.cell (p := ⟨g, o + i * 2, none⟩) hg
      have d1 := hB.cell (p := ⟨g, o + i * 2 + 1, none⟩) hg
      rw [e0] at d0
      rw [e1] at d1
      have hps := puts_succ N l i hlt
      have htk : l.take (i + 1) = l.take i ++ [l[i]] := List.take_succ_eq_append_getElem hlt
      obtain ⟨x, hx⟩ : ∃ x, l[i] = x := ⟨_, rfl⟩
      rw [hx] at d0 d1 hps htk
      have hlti : (i : Int) < (l.length : Int) := by omega
      have hic : (i : Int) + 1 ≤ (c : Int) := by omega
      by_cases hxs : x.1.size ≤ 30
      · have hxs1 : ¬ (x.1.size : Int) > 30 := by omega
        have hall : ∀ y ∈ l.take (i + 1), y.1.size ≤ 30 := by
          intro y hy
          rw [htk] at hy
          rcases List.mem_append.1 hy with h | h
          · exact HR.out.1 y h
          · rw [List.mem_singleton.1 h]; exact hxs
        have hlast : ∀ (W : World) (nm' : ByteArray) (all : Bool), Below w.heap.size w W → nm'.size ≤ 1000000 → Calls Try.prog 14 #[.slice (some ⟨g, o, none⟩) (i + 1) c, .int .i64 N, .string nm', .bool all] W (LastP (toldE N (l.take (i + 1)) nm' all) W) := fun W nm' all hW hn' => by
          have hlen : (l.take (i + 1)).length = i + 1 := by rw [List.length_take]; omega
          have := last_any (some ⟨g, o, none⟩) (l.take (i + 1)) c N nm' all W (by omega) hN hn' (fun y hy => by have := hall y hy; omega) (fun _ => ⟨g, o, rfl, by have := hW.size; omega, fun j hj => by
            have hj' : j < l.length := by omega
            obtain ⟨a, b⟩ := hcell j hj'
            rw [List.getElem_take]
            exact ⟨(hW.cell (p := ⟨g, o + j * 2, none⟩) hg).trans a, (hW.cell (p := ⟨g, o + j * 2 + 1, none⟩) hg).trans b⟩⟩)
          rwa [hlen] at this
        have HL := Lib.hid (And.intro hlast (And.intro hall hps))
        have hmi : (i : Int) + 1 ≤ (N : Int) ∧ i + 1 ≤ N ∨ (N : Int) < (i : Int) + 1 ∧ N < i + 1 := by omega
        clear hlast hall hps htk hx hcell e0 e1 hB hxs
        go_wp2_with fail
        go_region_with (first | (go_at_call 11; refine (past_put (past_drew HR.out.2.1) hN _ _).mono ?_; rintro e W1 ⟨rfl, hP1, hF1⟩) | fail)
        all_goals
          have hP : PastAt W1 (R + 1) R N (puts N (l.take (i + 1))) := by rw [← HL.out.2.2]; exact hP1
          have hBW : Below w.heap.size w W1 := HR.out.2.2.drew.trans (hF1.below (w := wr.drew) HR.out.2.2.size fun k _ hk => by rcases hk with rfl | rfl <;> omega)
          have hlen1 := past_len hP
          rw [puts_len _ _ _ (by omega)] at hlen1
          have H := Lib.hid (And.intro hP (And.intro hBW hlen1))
          clear hP hBW hlen1 hP1 hF1 d0 d1
          go_wp2_with fail
          refine H.out.2.2.mono ?_
          rintro e W2 ⟨rfl, rfl⟩
          have hsz : ∀ y ∈ puts N (l.take (i + 1)), y.1.size ≤ 1000000 := fun y hy => by have := HL.out.2.1 y (puts_mem hy); omega
          have hws : ∀ nm' all, (toldE N (l.take (i + 1)) nm' all).length ≤ 100000 := fun nm' all => Nat.le_trans (told_len _ _ _ _) (by rw [List.length_take]; omega)
          have HZ := Lib.hid (And.intro hsz hws)
          clear hsz hws
          rcases hmi with ⟨hm1, hm2⟩ | ⟨hm1, hm2⟩
          case' inl => rw [show min (i + 1) N = i + 1 by omega]
          case' inr => rw [show min (i + 1) N = N by omega]
          all_goals
            have hm3 := hm2
            have hm4 : (i : Int) + 1 = ((i + 1 : Nat) : Int) := by omega
            clear hm4 hm3 hm2
            go_wp2_with fail
            refine (HL.out.1 W1 _ true H.out.2.1 (by decide)).mono ?_
            rintro e W3 ⟨v3, rfl, hv3, hb3⟩
            have hz3 := hb3.size
            obtain ⟨A3, c3, rfl⟩ := row_slice hv3
            have hP3 : PastAt W3 (R + 1) R N _ := past_kept H.out.1 (hb3.block _ (blk_lt H.out.1.hd)) (by obtain ⟨cs, hr, _⟩ := H.out.1.row; exact hb3.block _ (blk_lt hr))
            have H3 := Lib.hid (And.intro hv3 (And.intro hP3 (H.out.2.1.trans (hb3.mono H.out.2.1.size))))
            clear hv3 hb3 hP3
            go_wp2_with fail
            refine (same13 (.inr ⟨_, _, rfl, H3.out.2.1⟩) hN HZ.out.1 _ true (by decide) (HZ.out.2 _ _) H3.out.1).mono ?_
            rintro e W4 ⟨rfl, hb4⟩
            rw [puts_told, decide_eq_true rfl]
            have hP4 : PastAt W4 (R + 1) R N _ := past_kept H3.out.2.1 (hb4.block _ (blk_lt H3.out.2.1.hd)) (by obtain ⟨cs, hr, _⟩ := H3.out.2.1.row; exact hb4.block _ (blk_lt hr))
            have H4 := Lib.hid (And.intro hP4 (H3.out.2.2.trans (hb4.mono H3.out.2.2.size)))
            clear hb4 hP4
            go_wp2_with fail
            refine (HL.out.1 W4 _ false H4.out.2 (by omega)).mono ?_
            rintro e W5 ⟨v5, rfl, hv5, hb5⟩
            obtain ⟨A5, c5, rfl⟩ := row_slice hv5
            have hP5 : PastAt W5 (R + 1) R N _ := past_kept H4.out.1 (hb5.block _ (blk_lt H4.out.1.hd)) (by obtain ⟨cs, hr, _⟩ := H4.out.1.row; exact hb5.block _ (blk_lt hr))
            have H5 := Lib.hid (And.intro hv5 (And.intro hP5 (H4.out.2.trans (hb5.mono H4.out.2.size))))
            clear hv5 hb5 hP5
            go_wp2_with fail
            refine (same13 (.inr ⟨_, _, rfl, H5.out.2.1⟩) hN HZ.out.1 _ false (by omega) (HZ.out.2 _ _) H5.out.1).mono ?_
            rintro e W6 ⟨rfl, hb6⟩
            rw [puts_told, decide_eq_true rfl]
            have hP6 : PastAt W6 (R + 1) R N _ := past_kept H5.out.2.1 (hb6.block _ (blk_lt H5.out.2.1.hd)) (by obtain ⟨cs, hr, _⟩ := H5.out.2.1.row; exact hb6.block _ (blk_lt hr))
            have H6 := Lib.hid (And.intro HL.out.2.1 (And.intro hP6 (H5.out.2.2.trans (hb6.mono H5.out.2.2.size))))
            clear hb6 hP6
            go_wp2_with fail
            go_roundw
            case rel => exact ⟨i + 1, by go_num, by omega, H6⟩
            case measure => simp [intOf]; omega
      · have hxs1 : (x.1.size : Int) > 30 := by omega
        have HB := Lib.hid hB
        clear hps htk hx hcell e0 e1 hB hxs
        go_wp2_with fail
        go_ret
        exact ⟨rfl, HB.out⟩
    · go_wp2_with fail
      go_ret
      exact ⟨rfl, HR.out.2.2⟩

set_option maxRecDepth 100000 in
set_option maxHeartbeats 2000000 in
theorem wasPlays_great (a : Int) (A : Option Addr) (n c : Nat) (nm : ByteArray) (w : World) (h : 60 < n ∨ 30 < nm.size) :
    Calls Try.prog 3 #[.int .i64 a, .slice A n c, .string nm] w fun e w' => e = .returned (.bool true) ∧ Below w.heap.size w w' := by
  by_cases h1 : 60 < n
  · have hl1 : (n : Int) > 60 := by omega
    clear h
    go_enter Try.func3, Try.ntmps3
    go_wp2_with fail
    refine (awake13 _).mono ?_
    rintro e w1 ⟨rfl, q1⟩
    have H1 := Lib.hid q1
    clear q1
    go_wp2_with fail
    go_ret
    exact ⟨rfl, H1.out⟩
  · have hl1 : ¬ (n : Int) > 60 := by omega
    have hl2 : (nm.size : Int) > 30 := by omega
    clear h
    go_enter Try.func3, Try.ntmps3
    go_wp2_with fail
    refine (awake13 _).mono ?_
    rintro e w1 ⟨rfl, q1⟩
    have H1 := Lib.hid q1
    clear q1
    go_wp2_with fail
    go_ret
    exact ⟨rfl, H1.out⟩
set_option maxRecDepth 100000 in
set_option maxHeartbeats 2000000 in
theorem wasPlays_bad (a : Int) (A : Option Addr) (n c : Nat) (nm : ByteArray) (w : World) (h1 : n ≤ 60) (h2 : nm.size ≤ 30) (ha : a < 0 ∨ 100000 < a) :
    Calls Try.prog 3 #[.int .i64 a, .slice A n c, .string nm] w fun e w' => e = .returned (.bool true) ∧ Below w.heap.size w w' := by
  have hl1 : ¬ (n : Int) > 60 := by omega
  have hl2 : ¬ (nm.size : Int) > 30 := by omega
  by_cases h0 : a < 0
  case' pos => clear ha
  case' neg =>
    have h3 : a > 100000 := by omega
    clear ha
  all_goals
    go_enter Try.func3, Try.ntmps3
    go_wp2_with fail
    refine (awake13 _).mono ?_
    rintro e w1 ⟨rfl, q1⟩
    have H1 := Lib.hid q1
    clear q1
    go_wp2_with fail
    refine (was_new_bad a (by omega) _).mono ?_
    rintro e w2 ⟨rfl, rfl⟩
    go_wp2_with fail
    go_ret
    exact ⟨ret_bool (by decide), H1.out⟩
theorem wasPlays_walk (a : Int) (A : Option Addr) (l : List zenT) (c : Nat) (nm : ByteArray) (w : World) (hlc : l.length ≤ c) (hcm : c ≤ maxLen) (hc : 0 < l.length → ∃ g o, A = some ⟨g, o, none⟩ ∧ g < w.heap.size ∧ ∀ i (h : i < l.length) j u, (zenL l[i])[j]? = some u → w.cell? ⟨g, o + i * 2 + j, none⟩ = some u) :
    Calls Try.prog 3 #[.int .i64 a, .slice A l.length c, .string nm] w fun e w' => e = .returned (.bool true) ∧ Below w.heap.size w w' := by
  by_cases hg : 60 < l.length ∨ 30 < nm.size
  · exact wasPlays_great a A l.length c nm w hg
  · by_cases ha : a < 0 ∨ 100000 < a
    · exact wasPlays_bad a A l.length c nm w (by omega) (by omega) ha
    · obtain ⟨N, rfl⟩ : ∃ N : Nat, a = N := ⟨a.toNat, by omega⟩
      refine wasPlays_main N (by omega) A l c nm w (by omega) hlc hcm (by omega) fun h => ?_
      obtain ⟨g, o, h1, h2, h3⟩ := hc h
      exact ⟨g, o, h1, h2, fun i hi => ⟨by have := h3 i hi 0 (.string l[i].1) rfl; simpa using this, h3 i hi 1 (.int .i64 l[i].2) rfl⟩⟩
end Go.Proofs.Ytkifblbmppjicaa
