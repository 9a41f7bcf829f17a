/- Layer 8: SendqWhole. -/
import Derived.Test.YtkcmlalinkngpaaSenH
namespace Go.Proofs.Ytkcmlalinkngpaa
set_option linter.unusedVariables false
set_option linter.unusedSimpArgs false
open Go Go.RowKit Go.Lib Go.Sort Go.Shelf

theorem wf16 {a : Int} (h : (Lit.int .u16 a).wf = true) : 0 ≤ a ∧ a ≤ 65535 := by
  simp only [Lit.wf, IntKind.has, Bool.and_eq_true, decide_eq_true_eq] at h
  exact ⟨h.1, h.2⟩
/-- what came, what went, what waits -/
def WholeG (w : World) (q : Nat) (a : Int) (k : Nat) (c d : ByteArray) (W : World) : Prop :=
  ∃ s : QS, QIs w.heap.size W q s ∧ RowKit.Below w.heap.size w W ∧ s.most = a ∧ (s.ws.length : Int) ≤ a ∧ c.data.toList = d.data.toList ++ s.ws ∧ s.sent = d.size ∧ c.size ≤ 602 * k
set_option maxRecDepth 100000 in
set_option maxHeartbeats 16000000 in
theorem sendqWhole_main (a : Int) (ha0 : 512 ≤ a) (ha1 : a ≤ 65535) (A : Option Addr) (l : List zsqT) (cc : Nat) (w : World) (hl : l.length ≤ 40) (hA : ActsQ w A l) :
    Calls Try.prog 4 #[.int .u16 a, .slice A l.length cc] w fun e w' => e = .returned (.bool true) ∧ RowKit.Below w.heap.size w w' := by
  have HA := Lib.hid hA
  clear hA
  go_enter Try.func4, Try.ntmps4
  go_wp2_with fail
  refine (awake8 w).mono ?_
  rintro e w1 ⟨rfl, b1⟩
  have z1 := b1.size
  have B1 := Lib.hid b1
  clear b1
  go_wp2_with fail
  refine (qi_new a ha0 (by omega) w1).mono ?_
  rintro e w2 ⟨⟨q, rfl, q2⟩, b2⟩
  have H0 : Hid (WholeG w q a 0 ⟨#[]⟩ ⟨#[]⟩ w2) := ⟨_, qi_base q2 z1, B1.out.trans (b2.mono z1), rfl, by simp; omega, rfl, rfl, Nat.le_refl _⟩
  clear q2 b2
  go_wp2_with fail
  go_loopw [7, 8, 9] (fun cv dv i wr => ∃ (k : Nat) (c d : ByteArray), i = .int .i64 k ∧ cv = .string c ∧ dv = .string d ∧ k ≤ l.length ∧ c.size ≤ 30000 ∧ d.size ≤ 30000 ∧ Hid (WholeG w q a k c d wr)) (fun _ _ i _ => l.length - (RowKit.intOf i).toNat)
  case atStart => exact ⟨0, ⟨#[]⟩, ⟨#[]⟩, rfl, rfl, rfl, Nat.zero_le _, by decide, by decide, H0⟩
  case round =>
    obtain ⟨k, c, d, rfl, rfl, rfl, hk, hc, hd, HQ⟩ := hrel
    clear H0
    by_cases hlt : k < l.length
    · obtain ⟨g, o, rfl, hat⟩ := actsQ_at HA.out hlt
      obtain ⟨s, q1, hb, hm, hwl, hcd, hse, hck⟩ := HQ.out
      obtain ⟨a0, a1, a2⟩ := hat wr hb
      obtain ⟨⟨κ, S, N⟩, hy⟩ : ∃ y, l[k] = y := ⟨_, rfl⟩
      rw [hy] at a0 a1 a2
      have HT := Lib.hid hat
      have HY := Lib.hid hy
      have hzb := hb.size
      have hws : s.ws.length ≤ 65535 := by omega
      have hcdl : c.size = d.size + s.ws.length := by have h1 := congrArg List.length hcd; rw [List.length_append] at h1; exact h1
      have p0 : (k : Int) < (l.length : Int) := by omega
      clear hat hy
      by_cases h6 : S.size ≤ 600
      · have p6 : ¬ ((600 : Int) < (S.size : Int)) := by omega
        by_cases hκ : κ = 1
        · subst hκ
          obtain ⟨ds, hds⟩ : ∃ ds, s.ws.take (goesQ s N) = ds := ⟨_, rfl⟩
          obtain ⟨s2, hs2⟩ : ∃ s2, drainS s N = s2 := ⟨_, rfl⟩
          have HD := Lib.hid (qi_drain q1 hzb (by omega) (by rw [hse]; omega) (by rw [hse]; omega) N hds hs2)
          have hdl : ds.length ≤ s.ws.length := by rw [← hds, List.length_take]; omega
          have e1 : s2.ws = s.ws.drop (goesQ s N) := by rw [← hs2, drain_ws]
          have e2 : s2.most = a := by rw [← hs2, drain_most, hm]
          have e3 : s2.sent = d.size + ds.length := by
            have := goes_le s N
            rw [← hs2, drain_sent, hse, ← hds, List.length_take, Nat.min_eq_left this]
          have e4 : s.ws = ds ++ s2.ws := by rw [← hds, e1, List.take_append_drop]
          have e5 : s2.ws.length ≤ s.ws.length := by rw [e1, List.length_drop]; omega
          have HE := Lib.hid (And.intro q1 (And.intro hb (And.intro hcd (And.intro hck (And.intro e2 (And.intro e3 e4))))))
          have p7 : ¬ (a < (s2.ws.length : Int)) := by omega
          have hbd : (bs ds).size ≤ 65535 := by rw [bs_size]; omega
          clear q1 hb hcd hck e1 e2 e3 e4 hds hs2 hm hse
          go_wp2_with fail
          refine HD.out.mono ?_
          rintro e w4 ⟨⟨v4, rfl, o4⟩, q4, b4⟩
          obtain ⟨A4, c4, ev4⟩ := row_slice o4
          subst ev4
          have hcv : (convert 34 9 (.slice A4 ds.length c4)).run Try.prog w4 = .ok (.string (bs ds)) w4 := conv_ownB o4
          have HL := Lib.hid (qi_len q4)
          have H4 := Lib.hid (And.intro q4 b4)
          clear o4 q4 b4 a0 a1 a2
          go_wp2_with fail
          refine HL.out.mono ?_
          rintro e w5 ⟨rfl, rfl⟩
          go_wp2_with fail
          go_roundw
          case rel =>
            obtain ⟨q1, hb, hcd, hck, e2, e3, e4⟩ := HE.out
            have hbs : (bs ds).data.toList = ds := rfl
            refine ⟨k + 1, c, d ++ bs ds, by go_num, rfl, rfl, by omega, hc, by rw [ByteArray.size_append, bs_size]; omega, s2, H4.out.1, hb.trans (H4.out.2.mono (Nat.le_refl _)), e2, by omega, ?_, ?_, by omega⟩
            · rw [ba_app, hbs, hcd, e4, List.append_assoc]
            · rw [e3, ByteArray.size_append, bs_size]; omega
          case measure => simp [RowKit.intOf]; omega
        · have hk1 : (κ == 1) = false := by simpa using hκ
          obtain ⟨b, hpb⟩ : ∃ b, pushB s S.data.toList = b := ⟨_, rfl⟩
          obtain ⟨s2, hs2⟩ : ∃ s2, pushS s S.data.toList = s2 := ⟨_, rfl⟩
          have HD := Lib.hid (qi_push q1 hzb (by omega) (by omega) (by omega) S (by omega) hpb hs2)
          have e1 : s2.ws = if b then s.ws ++ S.data.toList ++ [13, 10] else s.ws := by rw [← hs2, push_ws, hpb]
          have e2 : s2.most = a := by rw [← hs2, push_most, hm]
          have e3 : s2.sent = d.size := by rw [← hs2, push_sent, hse]
          have e4 : (s2.ws.length : Int) ≤ a := by rw [← hs2, ← hm]; exact push_len s _ (by omega)
          have HE := Lib.hid (And.intro q1 (And.intro hb (And.intro hcd (And.intro hck (And.intro e2 (And.intro e3 (And.intro e4 e1)))))))
          have p7 : ¬ (a < (s2.ws.length : Int)) := by omega
          have h8 : (S ++ (⟨#[13, 10]⟩ : ByteArray)).size = S.size + 2 := by rw [ByteArray.size_append]; rfl
          have h9 : (S ++ (⟨#[13, 10]⟩ : ByteArray)).size ≤ 602 := by omega
          have H8 := Lib.hid h8
          clear q1 hb hcd hck e1 e2 e3 e4 hs2 hm hse hpb h8
          cases b with
          | true =>
            go_wp2_with fail
            refine HD.out.mono ?_
            rintro e w4 ⟨rfl, q4, b4⟩
            obtain ⟨b0, b1, b2⟩ := HT.out w4 (HE.out.2.1.trans (b4.mono (Nat.le_refl _)))
            rw [HY.out] at b1
            have HL := Lib.hid (qi_len q4)
            have H4 := Lib.hid (And.intro q4 b4)
            clear q4 b4 a0 a1 a2 b0 b2
            go_wp2_with fail
            refine HL.out.mono ?_
            rintro e w5 ⟨rfl, rfl⟩
            go_wp2_with fail
            go_roundw
            case rel =>
              obtain ⟨q1, hb, hcd, hck, e2, e3, e4, e1⟩ := HE.out
              have h8 := H8.out
              refine ⟨k + 1, c ++ (S ++ ⟨#[13, 10]⟩), d, by go_num, rfl, rfl, by omega, by rw [ByteArray.size_append]; omega, hd, s2, H4.out.1, hb.trans (H4.out.2.mono (Nat.le_refl _)), e2, e4, ?_, e3, by rw [ByteArray.size_append]; omega⟩
              rw [ba_app, ba_app, hcd, e1]
              simp
            case measure => simp [RowKit.intOf]; omega
          | false =>
            go_wp2_with fail
            refine HD.out.mono ?_
            rintro e w4 ⟨rfl, q4, b4⟩
            have HL := Lib.hid (qi_len q4)
            have H4 := Lib.hid (And.intro q4 b4)
            clear q4 b4 a0 a1 a2
            go_wp2_with fail
            refine HL.out.mono ?_
            rintro e w5 ⟨rfl, rfl⟩
            go_wp2_with fail
            go_roundw
            case rel =>
              obtain ⟨q1, hb, hcd, hck, e2, e3, e4, e1⟩ := HE.out
              exact ⟨k + 1, c, d, by go_num, rfl, rfl, by omega, hc, hd, s2, H4.out.1, hb.trans (H4.out.2.mono (Nat.le_refl _)), e2, e4, by rw [hcd, e1]; rfl, e3, by omega⟩
            case measure => simp [RowKit.intOf]; omega
      · have p6 : (600 : Int) < (S.size : Int) := by omega
        have HB := Lib.hid hb
        clear q1 hb hm hwl hcd hse hck
        go_wp2_with fail
        go_ret
        exact ⟨rfl, HB.out⟩
    · obtain rfl : k = l.length := by omega
      have p1 : ¬ ((l.length : Int) < (l.length : Int)) := by omega
      obtain ⟨s, q1, hb, hm, hwl, hcd, hse, hck⟩ := HQ.out
      have hzb := hb.size
      have hws : s.ws.length ≤ 65535 := by omega
      obtain ⟨ws, hwe⟩ : ∃ ws, s.ws = ws := ⟨_, rfl⟩
      have HL := Lib.hid (qi_len q1)
      have htk := (take_all s (ws.length : Int) (by rw [hwe]; omega)).trans hwe
      obtain ⟨s2, hs2⟩ : ∃ s2, drainS s (ws.length : Int) = s2 := ⟨_, rfl⟩
      have e1 : s2.ws = [] := by rw [← hs2]; exact drop_all s _ (by rw [hwe]; omega)
      have e3 : s2.sent = d.size + ws.length := by rw [← hs2, drain_sent, hse, goes_all s _ (by rw [hwe]; omega), hwe]
      have HD := Lib.hid (qi_drain q1 hzb (by omega) (by rw [hse]; omega) (by rw [hse]; omega) (ws.length : Int) htk hs2)
      have heq : ((d ++ bs ws).toList == c.toList) = true := by rw [beq_ba, ba_app, hcd, hwe]; simp
      have hln : (bs ws).size ≤ 65535 := by rw [bs_size, ← hwe]; exact hws
      have hwz : ws.length ≤ 65535 := by rw [← hwe]; exact hws
      rw [hwe] at HL
      have HE := Lib.hid (And.intro hb (And.intro e1 e3))
      clear q1 hb hm hwl hcd hse hck htk hs2 e1 e3 hwe hws
      go_wp2_with fail
      refine HL.out.mono ?_
      rintro e w3 ⟨rfl, rfl⟩
      go_wp2_with fail
      refine HD.out.mono ?_
      rintro e w4 ⟨⟨v4, rfl, o4⟩, q4, b4⟩
      obtain ⟨A4, c4, ev4⟩ := row_slice o4
      subst ev4
      have hcv : (convert 34 9 (.slice A4 ws.length c4)).run Try.prog w4 = .ok (.string (bs ws)) w4 := conv_ownB o4
      have hl4 := qi_len q4
      rw [HE.out.2.1] at hl4
      have HL4 := Lib.hid hl4
      have z4 := b4.size
      have hd4 := qi_drain q4 (by omega) (by rw [HE.out.2.1]; decide) (by rw [HE.out.2.2]; omega) (by rw [HE.out.2.2]; omega) 1 (ds := []) (by rw [HE.out.2.1]; exact List.take_nil) rfl
      have HD4 := Lib.hid hd4
      have B4 := Lib.hid (HE.out.1.trans (b4.mono (Nat.le_refl _)))
      clear o4 q4 b4 hl4 hd4
      go_wp2_with fail
      refine HL4.out.mono ?_
      rintro e w5 ⟨rfl, rfl⟩
      go_wp2_with fail
      refine HD4.out.mono ?_
      rintro e w6 ⟨⟨v6, rfl, o6⟩, q6, b6⟩
      obtain ⟨A6, c6, ev6⟩ := row_slice o6
      subst ev6
      have B6 := Lib.hid (B4.out.trans b6)
      clear o6 q6 b6 hcv
      go_wp2_with fail
      go_ret
      exact ⟨by simp, B6.out⟩
set_option maxRecDepth 100000 in
set_option maxHeartbeats 4000000 in
theorem sendqWhole_walk (a : Int) (ha0 : 0 ≤ a) (ha1 : a ≤ 65535) (A : Option Addr) (l : List zsqT) (cc : Nat) (w : World) (hll : l.length ≤ 9223372036854775807) (hA : ActsQ w A l) :
    Calls Try.prog 4 #[.int .u16 a, .slice A l.length cc] w fun e w' => e = .returned (.bool true) ∧ RowKit.Below w.heap.size w w' := by
  by_cases h1 : a < 512
  · clear hA
    go_enter Try.func4, Try.ntmps4
    go_wp2_with fail
    refine (awake8 w).mono ?_
    rintro e w1 ⟨rfl, b1⟩
    have B1 := Lib.hid b1
    clear b1
    go_wp2_with fail
    refine (q_new_no a (.inl h1) w1).mono ?_
    rintro e w2 ⟨rfl, rfl⟩
    go_wp2_with fail
    go_ret
    exact ⟨rfl, B1.out⟩
  · by_cases h2 : l.length ≤ 40
    · exact sendqWhole_main a (by omega) ha1 A l cc w h2 hA
    · clear hA
      have p2 : (40 : Int) < (l.length : Int) := by omega
      go_enter Try.func4, Try.ntmps4
      go_wp2_with fail
      refine (awake8 w).mono ?_
      rintro e w1 ⟨rfl, b1⟩
      have z1 := b1.size
      have B1 := Lib.hid b1
      clear b1
      go_wp2_with fail
      refine (qi_new a (by omega) (by omega) w1).mono ?_
      rintro e w2 ⟨⟨q, rfl, q2⟩, b2⟩
      have B2 := Lib.hid (B1.out.trans (b2.mono z1))
      clear q2 b2
      go_wp2_with fail
      go_ret
      exact ⟨rfl, B2.out⟩
end Go.Proofs.Ytkcmlalinkngpaa
