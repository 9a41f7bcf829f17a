/- Layer 5: FrameEnds, walked. -/
import Derived.Test.YtaajfbbogihbnaaDoorFrQ
import Derived.Test.YtaajfbbogihbnaaDoorFrI
namespace Go.Proofs.YtaajfbbogihbnaaDoor
set_option linter.unusedVariables false
set_option linter.unusedSimpArgs false
open Go Go.RowKit Go.Lib

def tabB : Array Value := #[.string { data := #[13] }, .string { data := #[13, 10] }, .string { data := #[10, 13] }, .string { data := #[10, 10, 10] }]
theorem tab_cell {W : World} {k : Nat} (h : W.heap[k]? = some (.cells tabB 9 (0, 0))) (r : Nat) (hr : r < 4) : W.cell? ⟨k, r, none⟩ = some (.string (bs (endsB r))) := by
  rw [blk_cell h r]
  match r, hr with
  | 0, _ => rfl
  | 1, _ => rfl
  | 2, _ => rfl
  | 3, _ => rfl
theorem src_text (l : List UInt8) (W : World) : Src Tryd.prog 1 9 (.string (bs l)) l.length (l.map enc8) W := by
  have := Src.ofString W Tryd.underlying9 (bs l)
  have e : byteCells (bs l) = l.map enc8 := by unfold byteCells; simp [enc8]
  rw [e] at this
  simpa using this
/-- the row of bytes, and then some ends -/
theorem app_ends {base : Nat} {W : World} {A : Option Addr} {c n m : Nat} {L : List UInt8} {src : Value} {l : List UInt8} {tx : TypeId} (hn : L.length = n) (hm : l.length = m) (ho : Own8 base W (.slice A n c) L) (hs : Src Tryd.prog 1 tx src m (l.map enc8) W) (hl : n + m ≤ 1000000) (hb : base ≤ W.heap.size) :
    ∃ A' c' W', (Builtin.append_ #[26, tx] 26 #[.slice A n c, src]).run Tryd.prog W = .ok (.slice A' (n + m) c') W' ∧ Own8 base W' (.slice A' (n + m) c') (L ++ l) ∧ Fr (fun k => (Value.slice A n c).ownBlock = some k) W W' ∧ (∀ k, (Value.slice A' (n + m) c').ownBlock = some k → (Value.slice A n c).ownBlock = some k ∨ W.heap.size ≤ k) := by
  subst hn hm
  obtain ⟨i1, hi1, hy0, hy1, hy2⟩ := info_parts Tryd.info8
  obtain ⟨v', W', hrun, o, f, t⟩ := run_app_any (P := Tryd.prog) W base 26 tx 26 5 i1 _ 1 1 Tryd.underlying26 hi1 hy0 hy1 hy2 rfl _ L.length (L.map enc8) ho _ l.length (l.map enc8) hs (by unfold maxLen; omega) (by omega) hb
  obtain ⟨A', c', rfl⟩ := row_slice o
  exact ⟨A', c', W', hrun, own8_app o, f, t⟩
set_option maxRecDepth 1000000 in
set_option maxHeartbeats 32000000 in
theorem frameEnds_walk (v : Value) (E : Option Addr) (ec : Nat) (ps : List (List UInt8)) (es : List UInt8) (w : World) (hP : Pieces w v ps) (hE4 : Lie8 w E es) (hT : Tabs8 w) :
    Calls Tryd.prog 6 #[v, .slice E es.length ec] w fun e w' => e = .returned (.bool true) ∧ Below w.heap.size w w' := by
  obtain ⟨i1, hi1, hy0, hy1, hy2⟩ := info_parts Tryd.info8
  obtain ⟨A, c, rfl, hc⟩ := hP
  have hT3 := tabs8_lt hT
  have H := Lib.hid (And.intro hc (And.intro hT hE4))
  have HA := Lib.hid (awake05 w hT)
  clear hc hT hE4
  go_enter Tryd.func6, Tryd.ntmps6
  go_wp2_with fail
  refine HA.out.mono ?_
  rintro e w1 ⟨rfl, f1⟩
  clear HA
  have HF1 := Lib.hid f1
  have hz1 := f1.size
  clear f1
  by_cases h20 : ps.length ≤ 20
  · have h20' : ¬ ((20 : Int) < (ps.length : Int)) := by omega
    by_cases hle : es.length = ps.length
    · have hle' : ((es.length : Int) != (ps.length : Int)) = false := by rw [hle]; exact bne_self_eq_false _
      have HLE := Lib.hid hle
      clear hle
      have HN := Lib.hid (show Hid (EE w.heap.size [] [] (.slice none 0 0) (.slice none 0 0) w1 ∧ Fr (fun _ => False) w w1) from ⟨⟨own8_nil _ _, own8_nil _ _, fun k hk => by cases hk⟩, HF1.out⟩)
      go_wp2_with fail
      clear hle' h20'
      go_loopg [5, 6, 7, 8] ps.length (fun g s5 s6 s7 _ wr => ∃ (i : Nat) (A5 : Option Addr) (c5 : Nat) (A6 : Option Addr) (c6 : Nat) (La Lb : List UInt8), i + g = ps.length ∧ s7 = .int .i64 i ∧ s5 = .slice A5 La.length c5 ∧ s6 = .slice A6 Lb.length c6 ∧ La.length ≤ 601 * i ∧ Lb.length ≤ 603 * i ∧
        Hid (EE w.heap.size La Lb (.slice A5 La.length c5) (.slice A6 Lb.length c6) wr ∧ Fr (fun _ => False) w wr ∧ ∃ os, feedM ([], false) La = (os, ([], false)) ∧ feedM ([], false) Lb = (os, ([], false))))
      case atStart => exact ⟨0, none, 0, none, 0, [], [], by omega, rfl, rfl, rfl, Nat.zero_le _, Nat.zero_le _, HN.out.out.1, HN.out.out.2, [], rfl, rfl⟩
      case round =>
        obtain ⟨i, A5, c5, A6, c6, La, Lb, hig, rfl, rfl, rfl, hla, hlb, HX⟩ := hrel
        clear HN
        cases gk with
        | zero =>
          obtain rfl : i = ps.length := by omega
          have hiz : ¬ ((ps.length : Int) < (ps.length : Int)) := by omega
          go_wp2_with fail
          refine (newFr wr).mono ?_
          rintro e W2 ⟨rfl, r2, f2, z2⟩
          have HG2 := Lib.hid (And.intro r2 f2)
          clear r2 f2
          go_wp2_with fail
          refine (newFr W2).mono ?_
          rintro e W3 ⟨rfl, r3, f3, z3⟩
          obtain ⟨ee, fr, os, ha, hb⟩ := HX.out
          have hz := fr.size
          obtain ⟨r2, f2⟩ := HG2.out
          have f23 := f2.trans f3
          have ee3 := ee.fresh f23
          have fr3 := fr.trans f23
          have r23 := frA_kept r2 f3 (fun e => e) fun _ _ e => e
          have hfd := feedFr wr.heap.size _ _ _ La W3 (by omega) (own8_at ee3.oa) r23 good_new (tabs8_kept H.out.2.1 fr3 fun _ _ e => e) (by omega) (fun k hk => by cases hk) (fun _ e => by have := (own_lt8 ee.oa e).2; omega)
          have HFD := Lib.hid hfd
          have HG3 := Lib.hid (And.intro ee (And.intro ee3 (And.intro fr3 (And.intro r3 (And.intro ha hb)))))
          clear HG2 r2 f2 f3 f23 ee ee3 fr fr3 r23 r3 ha hb hfd
          go_wp2_with fail
          refine HFD.out.mono ?_
          rintro e W4 ⟨v4, r4, rfl, o4, k4, d4, f4⟩
          clear HFD
          obtain ⟨ee, ee3, fr3, r3, ha, hb⟩ := HG3.out
          rw [ha] at o4 k4
          have hz4 := f4.size
          have fr4 : Fr (fun _ => False) w W4 := fr3.trans3 f4 fun q hq e => by
            rcases e with e | e
            · omega
            · cases e
          have r34 : FrA W2.heap.size (.slice none 0 0) ([], false) W4 := frA_kept r3 f4 (fun e => by rcases e with e | e; omega; cases e) fun k hk => by cases hk
          have hbat := at8_kept (own8_at ee3.ob) f4 fun q _ hq e => by
            rcases e with e | e
            · have := (own_lt8 ee.ob hq).2; omega
            · cases e
          have hfd := feedFr W2.heap.size _ _ _ Lb W4 (by omega) hbat r34 good_new (tabs8_kept H.out.2.1 fr4 fun _ _ e => e) (by omega) (fun k hk => by cases hk) (fun _ e => by have := (own_lt8 ee.ob e).2; omega)
          have HFD := Lib.hid hfd
          obtain ⟨A4, c4, ev4⟩ := row_slice o4
          subst ev4
          have HG4 := Lib.hid (And.intro o4 (And.intro k4 (And.intro d4 (And.intro fr4 hb))))
          clear HG3 ee ee3 fr3 r3 ha hb o4 k4 d4 f4 fr4 r34 hbat hfd
          go_wp2_with fail
          refine HFD.out.mono ?_
          rintro e W5 ⟨v5, r5, rfl, o5, k5, d5, f5⟩
          clear HFD
          obtain ⟨o4, k4, d4, fr4, hb⟩ := HG4.out
          rw [hb] at o5 k5
          have hcnt := feedM_count Lb ([], false)
          rw [hb] at hcnt
          simp only at o5 k5 o4 k4 hcnt
          have o45 := ownLn_kept o4 fun q hq => f5.block q (o4.lt q hq).2 fun e => by
            rcases e with e | e
            · have := (o4.lt q hq).1; omega
            · cases e
          have k45 := frA_kept k4 f5 (fun e => by rcases e with e | e; omega; cases e) fun q hq e => by
            rcases e with e | e
            · rcases (d4 q hq).2 with e2 | e2
              · cases e2
              · omega
            · cases e
          have fr5 : Fr (fun _ => False) w W5 := fr4.trans3 f5 fun q hq e => by
            rcases e with e | e
            · omega
            · cases e
          have hsm := sameLn _ _ _ _ _ _ W5 o45 o5 (by omega) (by omega)
          simp only [decide_true] at hsm
          have HSM := Lib.hid hsm
          obtain ⟨A5', c5', ev5⟩ := row_slice o5
          subst ev5
          have HG5 := Lib.hid (And.intro k45 (And.intro k5 fr5))
          clear HG4 o4 k4 d4 fr4 hb o5 k5 d5 f5 o45 k45 fr5 hsm
          go_wp2_with fail
          refine HSM.out.mono ?_
          rintro e W6 ⟨rfl, f6⟩
          clear HSM
          obtain ⟨k45, k5, fr5⟩ := HG5.out
          have k46 := frA_kept k45 f6 (fun e => e) fun _ _ e => e
          have k56 := frA_kept k5 f6 (fun e => e) fun _ _ e => e
          have HR := Lib.hid (And.intro (And.intro (restFr _ _ _ W6 k46) (restFr _ _ _ W6 k56)) (And.intro (lostFr _ _ _ W6 k46) (lostFr _ _ _ W6 k56)))
          have HE := Lib.hid (fr5.trans f6)
          clear HG5 k45 k5 fr5 f6 k46 k56
          go_wp2_with (first
            | (go_at_call 12; first | ((with_reducible refine HR.out.1.1.mono ?_); rintro e W9 ⟨rfl, rfl⟩) | ((with_reducible refine HR.out.1.2.mono ?_); rintro e W9 ⟨rfl, rfl⟩))
            | (go_at_call 13; first | ((with_reducible refine HR.out.2.1.mono ?_); rintro e W9 ⟨rfl, rfl⟩) | ((with_reducible refine HR.out.2.2.mono ?_); rintro e W9 ⟨rfl, rfl⟩)))
          go_ret
          exact ⟨rfl, HE.out.below (Nat.le_refl _) fun _ _ e => e.elim⟩
        | succ gm =>
          have hi : i < ps.length := by omega
          have hiz : (i : Int) < (ps.length : Int) := by omega
          have hwi : IntKind.i64.wrap ((i : Int) + 1) = (i : Int) + 1 := IntWalk.i64_in _ (by omega)
          obtain ⟨g, o, rfl, hgl, hcc⟩ := H.out.1 (by omega)
          obtain ⟨B, d, hcell, hat⟩ := hcc i hi
          obtain ⟨g2, o2, rfl, hgl2, hcc2⟩ := H.out.2.2 (by have := HLE.out; omega)
          have hcell2 := hcc2 i (by have := HLE.out; omega)
          obtain ⟨p, hp⟩ : ∃ p, ps[i] = p := ⟨_, rfl⟩
          obtain ⟨e8, he8⟩ : ∃ x, es[i]'(by have := HLE.out; omega) = x := ⟨_, rfl⟩
          rw [he8] at hcell2
          rw [hp] at hcell hat
          have hci := (HX.out.2.1.cell (p := ⟨g, o + i, none⟩) hgl fun e => e).trans hcell
          have hpa := at8_kept hat HX.out.2.1 fun _ _ _ e => e
          by_cases h600 : p.length ≤ 600
          · have h6 : ¬ ((600 : Int) < (p.length : Int)) := by omega
            obtain ⟨B', d', e1, pc1, pc2, pc3, hlie⟩ := hpa
            cases e1
            have HP := Lib.hid (And.intro hcell (And.intro hat (And.intro hgl (And.intro hcell2 (And.intro hgl2 (And.intro hlie (And.intro pc2 pc3)))))))
            clear hcell hat hgl hcell2 hgl2 hlie hcc hcc2 hp he8 pc2 pc3
            go_wp2_with fail
            -- no end in it
            go_loopg [8] p.length (fun g8 s8 wx => ∃ j : Nat, j + g8 = p.length ∧ s8 = .int .i64 j ∧ wx = wr ∧ Hid (∀ b ∈ p.take j, ¬ isEnd b))
            case atStart => exact ⟨0, by omega, rfl, rfl, fun b hb => by simp at hb⟩
            case round =>
              obtain ⟨j, hjg, rfl, rfl, HJ⟩ := hrel
              by_cases hjl : j < p.length
              · have hjz : (j : Int) < (p.length : Int) := by omega
                have hwj : IntKind.i64.wrap ((j : Int) + 1) = (j : Int) + 1 := IntWalk.i64_in _ (by omega)
                obtain ⟨gb, ob, rfl, _, hbc⟩ := HP.out.2.2.2.2.2.1 (by omega)
                have hbj := hbc j hjl
                obtain ⟨x, hx⟩ : ∃ x : UInt8, p[j] = x := ⟨_, rfl⟩
                rw [hx] at hbj
                unfold enc8 at hbj
                have htj : p.take (j + 1) = p.take j ++ [x] := by rw [List.take_succ_eq_append_getElem hjl, hx]
                have HTJ := Lib.hid htj
                clear hbc hx htj
                by_cases he : isEnd x
                · obtain ⟨p1, p2, hp1, hp2⟩ : ∃ p1 p2 : Bool, ((x.toNat : Int) == 13) = p1 ∧ ((x.toNat : Int) == 10) = p2 := ⟨_, _, rfl, rfl⟩
                  have hpp : (p1 || p2) = true := by
                    rw [← hp1, ← hp2]
                    rcases he with e | e <;> subst e <;> rfl
                  clear he
                  cases p1 <;> cases p2 <;> first | (exact absurd hpp (by decide)) | skip
                  all_goals
                    clear hpp
                    go_wp2_with fail
                    go_ret
                    exact ⟨rfl, HX.out.2.1.below (Nat.le_refl _) fun _ _ e => e.elim⟩
                · have hp1 : ((x.toNat : Int) == 13) = false := by
                    rw [beq_eq_false_iff_ne]; intro e; exact he (.inl (by apply UInt8.toNat_inj.1; show x.toNat = 13; omega))
                  have hp2 : ((x.toNat : Int) == 10) = false := by
                    rw [beq_eq_false_iff_ne]; intro e; exact he (.inr (by apply UInt8.toNat_inj.1; show x.toNat = 10; omega))
                  have hN : Hid (∀ b ∈ p.take (j + 1), ¬ isEnd b) := fun b hb => by
                    rw [HTJ.out] at hb
                    rcases List.mem_append.1 hb with hb | hb
                    · exact HJ.out b hb
                    · rw [List.mem_singleton] at hb; rw [hb]; exact he
                  clear he
                  go_wp2_with fail
                  go_roundg (p.length - (j + 1))
                  case measure => omega
                  case rel => exact ⟨j + 1, by omega, by simp, rfl, hN⟩
              · obtain rfl : j = p.length := by omega
                have hjz : ¬ ((p.length : Int) < (p.length : Int)) := by omega
                have hno : ∀ b ∈ p, ¬ isEnd b := fun b hb => HJ.out b (by rw [List.take_length]; exact hb)
                have HNO := Lib.hid hno
                obtain ⟨ee, fr, os, ha, hb⟩ := HX.out
                obtain ⟨hcell, hat, hgl, hcell2, hgl2, hlie, pc2, pc3⟩ := HP.out
                have hpa := (⟨B, d, rfl, pc1, pc2, pc3, hlie⟩ : At8 _ (.slice B p.length d) p)
                have HO := Lib.hid ee.oa
                have HS := Lib.hid (src8 hpa)
                have HG := Lib.hid (And.intro ee (And.intro fr (And.intro ha hb)))
                have hwx := fr.size
                clear hno ee fr ha hb hcell hat hgl hcell2 hgl2 hlie pc2 pc3 hpa HJ
                go_wp2_with (at_builtin; refine Hid.out ?_)
                refine Lib.hid ?_
                refine wpList_app_u rfl _ _ 26 26 rfl w.heap.size 5 i1 _ 1 1 Tryd.underlying26 hi1 hy0 hy1 hy2 rfl _ La.length (La.map enc8) rfl HO.out (.slice B p.length d) p.length (p.map enc8) rfl HS.out (by omega) (by decide) hwx ?_
                intro v2 W2 o2 f2 t2
                have o2' : Own8 w.heap.size W2 v2 (La ++ p) := own8_app o2
                obtain ⟨A2, c2, ev2⟩ := row_slice o2
                subst ev2
                have hor : W2.ownsRow w.heap.size 5 1 (.slice A2 (La.length + p.length) c2) (La.length + p.length) ((La ++ p).map enc8) := by
                  have := o2'
                  unfold Own8 at this
                  rwa [List.length_append] at this
                have HO2 := Lib.hid hor
                have HG2 := Lib.hid (And.intro o2' (And.intro f2 t2))
                have hwx2 := f2.size
                clear o2 f2 t2 o2' hor HO HS
                go_wp2_with (at_builtin; refine Hid.out ?_)
                refine Lib.hid ?_
                refine wpList_one_t rfl _ _ 26 rfl w.heap.size 5 i1 _ 1 1 Tryd.underlying26 hi1 hy0 hy1 hy2 rfl (by decide) _ _ _ rfl HO2.out #[.int .u8 10] _ rfl rfl rfl (by intro u hu; simp at hu; subst hu; rfl) (by omega) (by decide) (by omega) ?_
                intro v4 W4 o4 f4 t4
                obtain ⟨ee, fr, ha, hb⟩ := HG.out
                obtain ⟨o2', f2, t2⟩ := HG2.out
                have o4' : Own8 w.heap.size W4 v4 (La ++ p ++ [10]) := own8_app (xs := La ++ p) (ys := [10]) (by rw [List.length_append]; exact o4)
                obtain ⟨A4, c4, ev4⟩ := row_slice o4
                subst ev4
                have ee4 := (ee.left o2' f2 t2).left o4' f4 t4
                have fr4 : Fr (fun _ => False) w W4 := (fr.trans3 f2 fun q hq e => by have := (own_lt8 ee.oa e).1; omega).trans3 f4 fun q hq e => by have := (own_lt8 o2' e).1; omega
                have hz4 := fr4.size
                -- the other row: in whatever order
                obtain ⟨hcell, hat, hgl, hcell2, hgl2, hlie, pc2, pc3⟩ := HP.out
                have Sat : ∀ W, Fr (fun _ => False) w W → W.cell? ⟨g, o + i, none⟩ = some (.slice B p.length d) ∧ W.cell? ⟨g2, o2 + i, none⟩ = some (.int .u8 (e8.toNat : Nat)) := fun W hW => ⟨(hW.cell (p := ⟨g, o + i, none⟩) hgl fun e => e).trans hcell, (hW.cell (p := ⟨g2, o2 + i, none⟩) hgl2 fun e => e).trans hcell2⟩
                obtain ⟨e, hee⟩ : ∃ e, e8.toNat = e := ⟨_, rfl⟩
                rw [hee] at Sat
                obtain ⟨r, hr⟩ : ∃ r, e % 4 = r := ⟨_, rfl⟩
                have hr4 : r < 4 := by omega
                have hrm : Int.tmod (e : Int) 4 = (r : Int) := by rw [Int.tmod_eq_emod_of_nonneg (by omega)]; omega
                have hrm2 : (e : Int) % 4 = (r : Int) := by omega
                have hr0 : (r : Int) < 4 := by omega
                have hie : (i : Int) < (es.length : Int) := by have := HLE.out; omega
                have hpl : p.length ≤ 600 := h600
                obtain ⟨m, hm⟩ : ∃ m, (endsB r).length = m := ⟨_, rfl⟩
                have hm3 : m ≤ 3 := by rw [← hm]; exact endsB_len r
                have fin : ∀ (A8 : Option Addr) (c8 : Nat) (W8 : World), EE w.heap.size (La ++ p ++ [10]) (Lb ++ p ++ endsB r) (.slice A4 (La.length + p.length + 1) c4) (.slice A8 (Lb.length + p.length + m) c8) W8 → Fr (fun _ => False) w W8 → Hid (EE w.heap.size (La ++ p ++ [10]) (Lb ++ p ++ endsB r) (.slice A4 (La ++ p ++ [10]).length c4) (.slice A8 (Lb ++ p ++ endsB r).length c8) W8 ∧ Fr (fun _ => False) w W8 ∧ ∃ os, feedM ([], false) (La ++ p ++ [10]) = (os, ([], false)) ∧ feedM ([], false) (Lb ++ p ++ endsB r) = (os, ([], false))) := fun A8 c8 W8 h1 h2 => by
                  refine ⟨?_, h2, os ++ outM (keepM ([], false) p), ?_, ?_⟩
                  · have e1 : (La ++ p ++ [(10 : UInt8)]).length = La.length + p.length + 1 := by simp; omega
                    have e2 : (Lb ++ p ++ endsB r).length = Lb.length + p.length + m := by simp [hm]; omega
                    rw [e1, e2]; exact h1
                  · rw [List.append_assoc]; exact feed_more ha (feed_nl HNO.out)
                  · rw [List.append_assoc]; exact feed_more hb (feed_ends HNO.out r)
                have hatW : ∀ W, Fr (fun _ => False) w W → At8 W (.slice B p.length d) p := fun W hW => at8_kept hat hW fun _ _ _ e => e
                -- first the piece
                have frd : Fr (fun _ => False) w W4.drew := fr4.drew
                have eed : EE w.heap.size (La ++ p ++ [10]) Lb (.slice A4 (La.length + p.length + 1) c4) (.slice A6 Lb.length c6) W4.drew := ee4.fresh (Fr.refl _ _).drew
                obtain ⟨A7, c7, W5, run5, o5, f5, t5⟩ := app_ends (n := Lb.length) (m := p.length) rfl rfl eed.ob (src8 (hatW _ frd)) (by omega) (by show w.heap.size ≤ W4.heap.size; omega)
                have ee5 := eed.right o5 f5 t5
                have fr5 : Fr (fun _ => False) w W5 := frd.trans3 f5 fun q hq e => by have := (own_lt8 eed.ob e).1; omega
                have fz : Fr (fun _ => False) W5 (W5.alloc (.cells tabB 9)) := (Fr.refl _ _).alloc _
                have ee6 := ee5.fresh fz
                have fr6 := fr5.trans fz
                have tz : (W5.alloc (.cells tabB 9)).cell? ⟨W5.heap.size, r, none⟩ = some (.string (bs (endsB r))) := tab_cell (World.alloc_heap_new W5 _) r hr4
                obtain ⟨A8, c8, W8, run8, o8, f8, t8⟩ := app_ends (n := Lb.length + p.length) (m := m) (by simp) hm ee6.ob (by have := src_text (endsB r) (W5.alloc (.cells tabB 9)); rwa [hm] at this) (by omega) (by have := fr6.size; omega)
                have ee8 := ee6.right o8 f8 t8
                have fr8 : Fr (fun _ => False) w W8 := fr6.trans3 f8 fun q hq e => by have := (own_lt8 ee6.ob e).1; omega
                have tz8 : W8.cell? ⟨W5.heap.size, r, none⟩ = some (.string (bs (endsB r))) := (f8.cell (p := ⟨W5.heap.size, r, none⟩) (by simp) fun e => Nat.lt_irrefl _ (own_lt8 ee5.ob e).2).trans tz
                have HA1 := Lib.hid (And.intro run5 (Sat _ fr5))
                have HA2 := Lib.hid (And.intro (Sat _ fr6) tz)
                have HA3 := Lib.hid (And.intro run8 (And.intro (And.intro (Sat _ fr8) tz8) (fin A8 c8 W8 ee8 fr8)))
                -- first the four ends
                have fy : Fr (fun _ => False) W4.drew (W4.drew.alloc (.cells tabB 9)) := (Fr.refl _ _).alloc _
                have ee9 := eed.fresh fy
                have fr9 := frd.trans fy
                have ty : (W4.drew.alloc (.cells tabB 9)).cell? ⟨W4.heap.size, r, none⟩ = some (.string (bs (endsB r))) := tab_cell (World.alloc_heap_new W4.drew _) r hr4
                obtain ⟨B7, e7, V5, vun5, u5, g5, s5⟩ := app_ends (n := Lb.length) (m := p.length) rfl rfl ee9.ob (src8 (hatW _ fr9)) (by omega) (by have := fr9.size; omega)
                have ff5 := ee9.right u5 g5 s5
                have gr5 : Fr (fun _ => False) w V5 := fr9.trans3 g5 fun q hq e => by have := (own_lt8 ee9.ob e).1; omega
                have ty5 : V5.cell? ⟨W4.heap.size, r, none⟩ = some (.string (bs (endsB r))) := (g5.cell (p := ⟨W4.heap.size, r, none⟩) (by simp) fun e => Nat.lt_irrefl _ (own_lt8 ee4.ob e).2).trans ty
                obtain ⟨B8, e9, V8, vun8, u8, g8', s8⟩ := app_ends (n := Lb.length + p.length) (m := m) (by simp) hm ff5.ob (by have := src_text (endsB r) V5; rwa [hm] at this) (by omega) (by have := gr5.size; omega)
                have ff8 := ff5.right u8 g8' s8
                have gr8 : Fr (fun _ => False) w V8 := gr5.trans3 g8' fun q hq e => by have := (own_lt8 ff5.ob e).1; omega
                have ty8 : V8.cell? ⟨W4.heap.size, r, none⟩ = some (.string (bs (endsB r))) := (g8'.cell (p := ⟨W4.heap.size, r, none⟩) (World.block_lt_of_cell? _ _ ty5) fun e => by
                  rcases s5 _ e with e2 | e2
                  · exact Nat.lt_irrefl _ (own_lt8 ee4.ob e2).2
                  · have e3 : (W4.drew.alloc (.cells tabB 9)).heap.size ≤ W4.heap.size := e2
                    rw [World.size_alloc] at e3
                    exact absurd e3 (by show ¬ (W4.heap.size + 1 ≤ W4.heap.size); omega)).trans ty5
                have HB1 := Lib.hid (And.intro (Sat _ fr9) ty)
                have HB2 := Lib.hid (And.intro vun5 (And.intro (Sat _ gr5) ty5))
                have HB3 := Lib.hid (And.intro vun8 (And.intro (And.intro (Sat _ gr8) ty8) (fin B8 e9 V8 ff8 gr8)))
                have HS0 := Lib.hid (Sat _ frd)
                have hci4 := (Sat _ fr4).1
                have HM := Lib.hid hm
                clear ee fr ha hb o2' f2 t2 o4 o4' f4 t4 ee4 fr4 hcell hat hgl hcell2 hgl2 hlie pc2 pc3 Sat hee fin hatW frd eed run5 o5 f5 t5 ee5 fr5 fz ee6 fr6 tz run8 o8 f8 t8 ee8 fr8 tz8 fy ee9 fr9 ty vun5 u5 g5 s5 ff5 gr5 ty5 vun8 u8 g8' s8 ff8 gr8 ty8 HG HG2 HO2 hm hr
                go_wp2_with fail
                refine wp_region_held_drew (S := fun W => W.cell? ⟨g, o + i, none⟩ = some (.slice B p.length d) ∧ W.cell? ⟨g2, o2 + i, none⟩ = some (.int .u8 (e : Nat))) (by kernel_rfl) HS0.out (fun hHeld => ?_)
                refine wpAnyH_read (i := 0) (oi := { dst := some 70, op := Go.Op.move (Go.Operand.tmp 6), type := 26, pos := "law.go:118", after := #[], guard := none }) ?_ rfl (by kernel_rfl) (by kernel_rfl) (by kernel_rfl) (fun _ _ _ h => h) (by rfl) (by assumption) ?_ ?_
                rotate_left
                · (intro w0 hS0; go_simp <;> (try with_reducible rfl))
                try simp only [Act.put, List.setIfInBounds_toArray, List.set_cons_zero, List.set_cons_succ]
                refine wpAnyH_read (i := 1) (oi := { dst := some 71, op := Go.Op.move (Go.Operand.tmp 0), type := 22, pos := "law.go:118", after := #[], guard := none }) ?_ rfl (by kernel_rfl) (by kernel_rfl) (by kernel_rfl) (fun _ _ _ h => h) (by rfl) (by assumption) ?_ ?_
                rotate_left
                · (intro w0 hS0; go_simp <;> (try with_reducible rfl))
                try simp only [Act.put, List.setIfInBounds_toArray, List.set_cons_zero, List.set_cons_succ]
                refine wpAnyH_read (i := 2) (oi := { dst := some 72, op := Go.Op.move (Go.Operand.tmp 7), type := 3, pos := "law.go:118", after := #[], guard := none }) ?_ rfl (by kernel_rfl) (by kernel_rfl) (by kernel_rfl) (fun _ _ _ h => h) (by rfl) (by assumption) ?_ ?_
                rotate_left
                · (intro w0 hS0; go_simp <;> (try with_reducible rfl))
                try simp only [Act.put, List.setIfInBounds_toArray, List.set_cons_zero, List.set_cons_succ]
                refine wpAnyH_read (i := 3) (oi := { dst := some 73, op := Go.Op.indexAddr 22 (Go.Operand.tmp 71) (Go.Operand.tmp 72), type := 0, pos := "law.go:118", after := #[{ on := 1, ground := Go.Ground.data }, { on := 2, ground := Go.Ground.data }], guard := none }) ?_ rfl (by kernel_rfl) (by kernel_rfl) (by kernel_rfl) (fun _ _ _ h => h) (by rfl) (by assumption) ?_ ?_
                rotate_left
                · (intro w0 hS0; go_simp <;> (try with_reducible rfl))
                try simp only [Act.put, List.setIfInBounds_toArray, List.set_cons_zero, List.set_cons_succ]
                refine wpAnyH_read (i := 4) (oi := { dst := some 74, op := Go.Op.load 26 (Go.Operand.tmp 73), type := 26, pos := "law.go:118", after := #[{ on := 3, ground := Go.Ground.data }], guard := none }) ?_ rfl (by kernel_rfl) (by kernel_rfl) (by kernel_rfl) (fun _ _ _ h => h) (by rfl) (by assumption) ?_ ?_
                rotate_left
                · (intro w0 hS0; have q1 := hS0.1; go_simp <;> (try with_reducible rfl))
                try simp only [Act.put, List.setIfInBounds_toArray, List.set_cons_zero, List.set_cons_succ]
                refine wpAnyH_read (i := 7) (oi := { dst := some 77, op := Go.Op.move (Go.Operand.tmp 1), type := 26, pos := "law.go:118", after := #[], guard := none }) ?_ rfl (by kernel_rfl) (by kernel_rfl) (by kernel_rfl) (fun _ _ _ h => h) (by rfl) (by assumption) ?_ ?_
                rotate_left
                · (intro w0 hS0; go_simp <;> (try with_reducible rfl))
                try simp only [Act.put, List.setIfInBounds_toArray, List.set_cons_zero, List.set_cons_succ]
                refine wpAnyH_read (i := 8) (oi := { dst := some 78, op := Go.Op.move (Go.Operand.tmp 7), type := 3, pos := "law.go:118", after := #[], guard := none }) ?_ rfl (by kernel_rfl) (by kernel_rfl) (by kernel_rfl) (fun _ _ _ h => h) (by rfl) (by assumption) ?_ ?_
                rotate_left
                · (intro w0 hS0; go_simp <;> (try with_reducible rfl))
                try simp only [Act.put, List.setIfInBounds_toArray, List.set_cons_zero, List.set_cons_succ]
                refine wpAnyH_read (i := 9) (oi := { dst := some 79, op := Go.Op.indexAddr 26 (Go.Operand.tmp 77) (Go.Operand.tmp 78), type := 0, pos := "law.go:118", after := #[{ on := 7, ground := Go.Ground.data }, { on := 8, ground := Go.Ground.data }], guard := none }) ?_ rfl (by kernel_rfl) (by kernel_rfl) (by kernel_rfl) (fun _ _ _ h => h) (by rfl) (by assumption) ?_ ?_
                rotate_left
                · (intro w0 hS0; go_simp <;> (try with_reducible rfl))
                try simp only [Act.put, List.setIfInBounds_toArray, List.set_cons_zero, List.set_cons_succ]
                refine wpAnyH_read (i := 10) (oi := { dst := some 80, op := Go.Op.load 5 (Go.Operand.tmp 79), type := 5, pos := "law.go:118", after := #[{ on := 9, ground := Go.Ground.data }], guard := none }) ?_ rfl (by kernel_rfl) (by kernel_rfl) (by kernel_rfl) (fun _ _ _ h => h) (by rfl) (by assumption) ?_ ?_
                rotate_left
                · (intro w0 hS0; have q1 := hS0.2; go_simp <;> (try with_reducible rfl))
                try simp only [Act.put, List.setIfInBounds_toArray, List.set_cons_zero, List.set_cons_succ]
                refine wpAnyH_read (i := 11) (oi := { dst := some 81, op := Go.Op.binOp Go.BinOp.rem 5 (Go.Operand.tmp 80) (Go.Operand.const (Go.Value.int Go.IntKind.u8 4)) 5, type := 5, pos := "law.go:118", after := #[{ on := 10, ground := Go.Ground.data }], guard := none }) ?_ rfl (by kernel_rfl) (by kernel_rfl) (by kernel_rfl) (fun _ _ _ h => h) (by rfl) (by assumption) ?_ ?_
                rotate_left
                · (intro w0 hS0; go_simp <;> (try with_reducible rfl))
                try simp only [Act.put, List.setIfInBounds_toArray, List.set_cons_zero, List.set_cons_succ]
                refine wpAnyH_two (i := 5) (j := 6) (o := { dst := some 75, op := Go.Op.call { callee := Go.Callee.builtin Go.Builtin.append, args := #[Go.Operand.tmp 70, Go.Operand.tmp 74], argTypes := #[26, 26] }, type := 26, pos := "law.go:118", after := #[{ on := 0, ground := Go.Ground.data }, { on := 4, ground := Go.Ground.data }], guard := none }) (o2 := { dst := some 76, op := Go.Op.buildSlice 40 4 #[(0, Go.Operand.const (Go.Value.string { data := #[13] })), (1, Go.Operand.const (Go.Value.string { data := #[13, 10] })), (2, Go.Operand.const (Go.Value.string { data := #[10, 13] })), (3, Go.Operand.const (Go.Value.string { data := #[10, 10, 10] }))], type := 40, pos := "law.go:118", after := #[], guard := none }) (by kernel_rfl) rfl rfl (by rfl) (by rfl) (fun K hK => ?_) (fun K hK => ?_)
                · refine wp_app_run _ _ _ _ rfl HA1.out.1 ?_
                  refine hK.out _ _ ?_ (fun hHeld => ?_)
                  · exact HA1.out.2
                  clear hK K
                  try simp only [Act.put, List.setIfInBounds_toArray, List.set_cons_zero, List.set_cons_succ]
                  refine wpAnyH_one (i := 6) (o := { dst := some 76, op := Go.Op.buildSlice 40 4 #[(0, Go.Operand.const (Go.Value.string { data := #[13] })), (1, Go.Operand.const (Go.Value.string { data := #[13, 10] })), (2, Go.Operand.const (Go.Value.string { data := #[10, 13] })), (3, Go.Operand.const (Go.Value.string { data := #[10, 10, 10] }))], type := 40, pos := "law.go:118", after := #[], guard := none }) (by kernel_rfl) rfl (by rfl) (fun K hK => ?_)
                  go_simp
                  refine hK.out _ _ ?_ (fun hHeld => ?_)
                  · exact HA2.out.1
                  clear hK K
                  try simp only [Act.put, List.setIfInBounds_toArray, List.set_cons_zero, List.set_cons_succ]
                  refine wpAnyH_more (T := fun W => (W.cell? ⟨g, o + i, none⟩ = some (.slice B p.length d) ∧ W.cell? ⟨g2, o2 + i, none⟩ = some (.int .u8 (e : Nat))) ∧ W.cell? ⟨W5.heap.size, r, none⟩ = some (.string (bs (endsB r)))) (fun w h => h.1) _ _ _ _ ?_
                  have hHeld2 := And.intro hHeld HA2.out.2
                  refine wpAnyH_read (i := 12) (oi := { dst := some 82, op := Go.Op.indexAddr 40 (Go.Operand.tmp 76) (Go.Operand.tmp 81), type := 0, pos := "law.go:118", after := #[{ on := 6, ground := Go.Ground.data }, { on := 11, ground := Go.Ground.data }], guard := none }) ?_ rfl (by kernel_rfl) (by kernel_rfl) (by kernel_rfl) (fun _ _ _ h => h) (by rfl) (by assumption) ?_ ?_
                  rotate_left
                  · (intro w0 hS0; go_simp <;> (try with_reducible rfl))
                  try simp only [Act.put, List.setIfInBounds_toArray, List.set_cons_zero, List.set_cons_succ]
                  refine wpAnyH_read (i := 13) (oi := { dst := some 83, op := Go.Op.load 9 (Go.Operand.tmp 82), type := 9, pos := "law.go:118", after := #[{ on := 12, ground := Go.Ground.data }], guard := none }) ?_ rfl (by kernel_rfl) (by kernel_rfl) (by kernel_rfl) (fun _ _ _ h => h) (by rfl) (by assumption) ?_ ?_
                  rotate_left
                  · (intro w0 hS0; have q1 := hS0.2; go_simp <;> (try with_reducible rfl))
                  try simp only [Act.put, List.setIfInBounds_toArray, List.set_cons_zero, List.set_cons_succ]
                  refine wpAnyH_one (i := 14) (o := { dst := some 84, op := Go.Op.call { callee := Go.Callee.builtin Go.Builtin.append, args := #[Go.Operand.tmp 75, Go.Operand.tmp 83], argTypes := #[26, 9] }, type := 26, pos := "law.go:118", after := #[{ on := 5, ground := Go.Ground.data }, { on := 13, ground := Go.Ground.data }, { on := 5, ground := Go.Ground.chain }], guard := none }) (by kernel_rfl) rfl (by rfl) (fun K hK => ?_)
                  refine wp_app_run _ _ _ _ rfl HA3.out.1 ?_
                  refine hK.out _ _ ?_ (fun hHeld => ?_)
                  · exact HA3.out.2.1
                  clear hK K
                  try simp only [Act.put, List.setIfInBounds_toArray, List.set_cons_zero, List.set_cons_succ]
                  refine wpAnyH_read (i := 15) (oi := { dst := some 6, op := Go.Op.assign (Go.Operand.tmp 84), type := 26, pos := "law.go:118", after := #[{ on := 14, ground := Go.Ground.data }, { on := 14, ground := Go.Ground.chain }, { on := 0, ground := Go.Ground.phase }, { on := 1, ground := Go.Ground.phase }, { on := 2, ground := Go.Ground.phase }, { on := 3, ground := Go.Ground.phase }, { on := 4, ground := Go.Ground.phase }, { on := 5, ground := Go.Ground.phase }, { on := 6, ground := Go.Ground.phase }, { on := 7, ground := Go.Ground.phase }, { on := 8, ground := Go.Ground.phase }, { on := 9, ground := Go.Ground.phase }, { on := 10, ground := Go.Ground.phase }, { on := 11, ground := Go.Ground.phase }, { on := 12, ground := Go.Ground.phase }, { on := 13, ground := Go.Ground.phase }, { on := 14, ground := Go.Ground.phase }], guard := none }) ?_ rfl (by kernel_rfl) (by kernel_rfl) (by kernel_rfl) (fun _ _ _ h => h) (by rfl) (by assumption) ?_ ?_
                  rotate_left
                  · (intro w0 hS0; go_simp <;> (try with_reducible rfl))
                  try simp only [Act.put, List.setIfInBounds_toArray, List.set_cons_zero, List.set_cons_succ]
                  refine wpAnyH_done (by kernel_rfl) ?_ _
                  go_wp2_with fail
                  go_roundg gm
                  case measure => omega
                  case rel => exact ⟨i + 1, A4, c4, A8, c8, La ++ p ++ [10], Lb ++ p ++ endsB r, by omega, by simp, by simp; omega, by simp [HM.out]; omega, by simp; omega, by simp [HM.out]; omega, HA3.out.2.2⟩
                · go_simp
                  refine hK.out _ _ ?_ (fun hHeld => ?_)
                  · exact HB1.out.1
                  clear hK K
                  try simp only [Act.put, List.setIfInBounds_toArray, List.set_cons_zero, List.set_cons_succ]
                  refine wpAnyH_more (T := fun W => (W.cell? ⟨g, o + i, none⟩ = some (.slice B p.length d) ∧ W.cell? ⟨g2, o2 + i, none⟩ = some (.int .u8 (e : Nat))) ∧ W.cell? ⟨W4.heap.size, r, none⟩ = some (.string (bs (endsB r)))) (fun w h => h.1) _ _ _ _ ?_
                  have hHeld2 := And.intro hHeld HB1.out.2
                  refine wpAnyH_read (i := 12) (oi := { dst := some 82, op := Go.Op.indexAddr 40 (Go.Operand.tmp 76) (Go.Operand.tmp 81), type := 0, pos := "law.go:118", after := #[{ on := 6, ground := Go.Ground.data }, { on := 11, ground := Go.Ground.data }], guard := none }) ?_ rfl (by kernel_rfl) (by kernel_rfl) (by kernel_rfl) (fun _ _ _ h => h) (by rfl) (by assumption) ?_ ?_
                  rotate_left
                  · (intro w0 hS0; go_simp <;> (try with_reducible rfl))
                  try simp only [Act.put, List.setIfInBounds_toArray, List.set_cons_zero, List.set_cons_succ]
                  refine wpAnyH_read (i := 13) (oi := { dst := some 83, op := Go.Op.load 9 (Go.Operand.tmp 82), type := 9, pos := "law.go:118", after := #[{ on := 12, ground := Go.Ground.data }], guard := none }) ?_ rfl (by kernel_rfl) (by kernel_rfl) (by kernel_rfl) (fun _ _ _ h => h) (by rfl) (by assumption) ?_ ?_
                  rotate_left
                  · (intro w0 hS0; have q1 := hS0.2; go_simp <;> (try with_reducible rfl))
                  try simp only [Act.put, List.setIfInBounds_toArray, List.set_cons_zero, List.set_cons_succ]
                  refine wpAnyH_one (i := 5) (o := { dst := some 75, op := Go.Op.call { callee := Go.Callee.builtin Go.Builtin.append, args := #[Go.Operand.tmp 70, Go.Operand.tmp 74], argTypes := #[26, 26] }, type := 26, pos := "law.go:118", after := #[{ on := 0, ground := Go.Ground.data }, { on := 4, ground := Go.Ground.data }], guard := none }) (by kernel_rfl) rfl (by rfl) (fun K hK => ?_)
                  refine wp_app_run _ _ _ _ rfl HB2.out.1 ?_
                  refine hK.out _ _ ?_ (fun hHeld => ?_)
                  · exact HB2.out.2
                  clear hK K
                  try simp only [Act.put, List.setIfInBounds_toArray, List.set_cons_zero, List.set_cons_succ]
                  refine wpAnyH_one (i := 14) (o := { dst := some 84, op := Go.Op.call { callee := Go.Callee.builtin Go.Builtin.append, args := #[Go.Operand.tmp 75, Go.Operand.tmp 83], argTypes := #[26, 9] }, type := 26, pos := "law.go:118", after := #[{ on := 5, ground := Go.Ground.data }, { on := 13, ground := Go.Ground.data }, { on := 5, ground := Go.Ground.chain }], guard := none }) (by kernel_rfl) rfl (by rfl) (fun K hK => ?_)
                  refine wp_app_run _ _ _ _ rfl HB3.out.1 ?_
                  refine hK.out _ _ ?_ (fun hHeld => ?_)
                  · exact HB3.out.2.1
                  clear hK K
                  try simp only [Act.put, List.setIfInBounds_toArray, List.set_cons_zero, List.set_cons_succ]
                  refine wpAnyH_read (i := 15) (oi := { dst := some 6, op := Go.Op.assign (Go.Operand.tmp 84), type := 26, pos := "law.go:118", after := #[{ on := 14, ground := Go.Ground.data }, { on := 14, ground := Go.Ground.chain }, { on := 0, ground := Go.Ground.phase }, { on := 1, ground := Go.Ground.phase }, { on := 2, ground := Go.Ground.phase }, { on := 3, ground := Go.Ground.phase }, { on := 4, ground := Go.Ground.phase }, { on := 5, ground := Go.Ground.phase }, { on := 6, ground := Go.Ground.phase }, { on := 7, ground := Go.Ground.phase }, { on := 8, ground := Go.Ground.phase }, { on := 9, ground := Go.Ground.phase }, { on := 10, ground := Go.Ground.phase }, { on := 11, ground := Go.Ground.phase }, { on := 12, ground := Go.Ground.phase }, { on := 13, ground := Go.Ground.phase }, { on := 14, ground := Go.Ground.phase }], guard := none }) ?_ rfl (by kernel_rfl) (by kernel_rfl) (by kernel_rfl) (fun _ _ _ h => h) (by rfl) (by assumption) ?_ ?_
                  rotate_left
                  · (intro w0 hS0; go_simp <;> (try with_reducible rfl))
                  try simp only [Act.put, List.setIfInBounds_toArray, List.set_cons_zero, List.set_cons_succ]
                  refine wpAnyH_done (by kernel_rfl) ?_ _
                  go_wp2_with fail
                  go_roundg gm
                  case measure => omega
                  case rel => exact ⟨i + 1, A4, c4, B8, e9, La ++ p ++ [10], Lb ++ p ++ endsB r, by omega, by simp, by simp; omega, by simp [HM.out]; omega, by simp; omega, by simp [HM.out]; omega, HB3.out.2.2⟩
          · have h6 : ((600 : Int) < (p.length : Int)) := by omega
            clear hpa hcell hat hcell2
            go_wp2_with fail
            go_ret
            exact ⟨rfl, HX.out.2.1.below (Nat.le_refl _) fun _ _ e => e.elim⟩
    · have hle' : ((es.length : Int) != (ps.length : Int)) = true := by rw [bne_iff_ne]; omega
      go_wp2_with fail
      go_ret
      exact ⟨rfl, HF1.out.below (Nat.le_refl _) fun _ _ e => e.elim⟩
  · have h20' : ((20 : Int) < (ps.length : Int)) := by omega
    go_wp2_with fail
    go_ret
    exact ⟨rfl, HF1.out.below (Nat.le_refl _) fun _ _ e => e.elim⟩
end Go.Proofs.YtaajfbbogihbnaaDoor
