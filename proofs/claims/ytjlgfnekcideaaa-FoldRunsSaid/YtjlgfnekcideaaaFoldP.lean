/- FoldRuns: the pieces of any text. -/
import Derived.Test.YtjlgfnekcideaaaFoldO
import Derived.Test.YtjlgfnekcideaaaRound
namespace Go.Proofs.Ytjlgfnekcideaaa
open Go.RowKit Go.Shelf
attribute [local go_sem] Oper.semAt_some

theorem runs_notnil (W : World) (a : Value) : (binOp .eql 29 (.func (.func 22) #[] #[a]) .nilFunc).run Try.prog W = .ok (.bool false) W := by kernel_rfl

/-- the sort of the last piece -/
def lastSort (pre : List Piece) : Bool := (pre.getLast?.map fun x => x.1.2).getD false
theorem lastSort_snoc (pre : List Piece) (x : Piece) : lastSort (pre ++ [x]) = x.1.2 := by simp [lastSort]
/-- are all bytes of each piece of its sort? -/
def goodP (x : Piece) : Bool := x.1.1.data.toList.all fun b => tb b == x.1.2
def goodAll (pre : List Piece) : Bool := pre.all goodP
theorem goodAll_snoc (pre : List Piece) (x : Piece) : goodAll (pre ++ [x]) = (goodAll pre && goodP x) := by simp [goodAll]
theorem goodAll_ok {pre : List Piece} (h : okAll pre) : goodAll pre = true := by
  unfold goodAll
  rw [List.all_eq_true]
  intro x hx
  obtain ⟨a, r, e⟩ := List.append_of_mem hx
  have := (h a x r e).2.1
  unfold goodP
  rw [List.all_eq_true]
  intro b hb
  rw [this b hb]; simp
theorem flat_pos {pre : List Piece} (h : okAll pre) {y : Piece} (hy : pre.getLast? = some y) : flat pre ≠ [] := by
  intro e
  have := flat_len h
  rw [e] at this
  cases pre with
  | nil => simp at hy
  | cons a r => simp at this

theorem keeps_dn (W : World) (n : Nat) : KeepsOthers W (W.drewN n) := ⟨Nat.le_refl _, fun _ _ h _ => h⟩
theorem byte_ne (b : UInt8) : tb b = (((foldB b).toNat : Int) != (b.toNat : Int)) := by
  unfold tb
  rw [Bool.eq_iff_iff]
  simp only [bne_iff_ne, ne_eq]
  constructor
  · intro h1 h2; exact h1 (UInt8.toNat_inj.mp (by omega))
  · intro h1 h2; exact h1 (by rw [h2])

set_option maxRecDepth 100000 in
set_option maxHeartbeats 2000000 in
theorem runs_walk (s : ByteArray) (hs : s.size ≤ 200) (w : World) : Calls Try.prog 6 #[.string s] w fun e w' => e = .returned (.bool true) ∧ Below w.heap.size w w' := by
  have hs1 : s.size ≤ 1000000 := by omega
  have hA : ¬ (200 : Int) < (s.size : Int) := by omega
  refine (callsIn_wide (n := 6)).1 ?_
  refine callsIn_of_wp_marks Try.func6 rfl trivial ?_ rfl
  simp only [Try.ntmps6, List.size_toArray, List.length_cons, List.length_nil, Nat.reduceAdd, Nat.reduceSub, Array.replicate_succ, Array.replicate_zero, List.push_toArray, List.append_toArray, List.nil_append, List.cons_append]
  gi_wp2_with fail
  refine ⟨trivial, ((callsIn_wide (n := 5)).2 (awake01 _)).mono ?_⟩
  rintro e w1 ⟨rfl, q1⟩
  have z1 : w.heap.size + 1 ≤ w1.heap.size := by simpa using q1.size
  have bS : Boxed w1 w.heap.size 9 (.string s) := (q1.block w.heap.size (by simp)).trans (Boxed.new w 9 (.string s))
  have cS := bS.cell
  have l0 : w.heap.size < w1.heap.size := by omega
  have l1 : w.heap.size < w1.heap.size + 1 := by omega
  have l2 : w.heap.size < w1.heap.size + 1 + 1 := by omega
  gi_wp2_with fail
  refine ⟨trivial, ((callsIn_wide (n := 5)).2 (runs_any _ _)).mono ?_⟩
  rintro e w2 ⟨rfl, hw2⟩
  have bW := ((Boxed.new w1 9 (.string ⟨#[]⟩)).alloc (.cells #[.bool false] 4)).alloc (.cells #[.bool true] 4)
  have bL := (Boxed.new (w1.alloc (.cells #[.string ⟨#[]⟩] 9)) 4 (.bool false)).alloc (.cells #[.bool true] 4)
  have bG := Boxed.new ((w1.alloc (.cells #[.string ⟨#[]⟩] 9)).alloc (.cells #[.bool false] 4)) 4 (.bool true)
  have bS3 := ((bS.alloc (.cells #[.string ⟨#[]⟩] 9)).alloc (.cells #[.bool false] 4)).alloc (.cells #[.bool true] 4)
  obtain ⟨V, hV⟩ : ∃ V, V = w1.heap.size := ⟨_, rfl⟩
  obtain ⟨B, hBs⟩ : ∃ B, B = w.heap.size := ⟨_, rfl⟩
  simp only [World.size_alloc] at bL bG ⊢
  have bW := bW.alloc (.cells #[.string s] 9)
  have bL := bL.alloc (.cells #[.string s] 9)
  have bG := bG.alloc (.cells #[.string s] 9)
  have bS4 := bS3.alloc (.cells #[.string s] 9)
  have bR := Boxed.new (((w1.alloc (.cells #[.string ⟨#[]⟩] 9)).alloc (.cells #[.bool false] 4)).alloc (.cells #[.bool true] 4)) 9 (.string s)
  simp only [World.size_alloc] at bR
  have hB2 : Below w.heap.size w w2 := by
    rw [hw2]
    exact ((((((Below.refl _ w).alloc (Nat.le_refl _) _).trans (q1.mono (by simp))).alloc (by omega) _).alloc (by simp; omega) _).alloc (by simp; omega) _).alloc (by simp; omega) _
  have hsz : w2.heap.size = w1.heap.size + 4 := by rw [hw2]; simp
  rw [← hw2] at bW bL bG bS4 bR
  rw [← hV] at bW bL bG bR hsz l0 l1 l2 ⊢
  rw [← hBs] at bS4 l0 l1 l2 hB2 ⊢
  have hle : V + 3 < w2.heap.size := by omega
  have hlw : B ≤ w.heap.size := by omega
  have HX := Lib.hid (And.intro hw2 (And.intro hsz (And.intro hV (And.intro hBs (And.intro q1 (And.intro bS (And.intro cS bS3)))))))
  clear hw2 hsz hV hBs q1 bS cS bS3 z1
  have hnn := runs_notnil
  gi_wp2_with fail
  clear hnn
  refine wpIn_rangeFunc_ownG rfl (by omega) (gf := 22) (lb := #[.pointer (some ⟨V + 1 + 1 + 1, 0, none⟩)]) rfl trivial (enters_of Try.func22 (by kernel_rfl) rfl)
    (runs_stops 5 (by omega) (V + 1 + 1 + 1) s w2 hs1 (by omega) bR.cell) (fun _ _ => trivial) (fun _ _ _ _ _ _ _ _ => trivial) (Below.refl _ _) (fun _ => rfl)
    (fun pre W => (Boxed W B 9 (.string s) ∧ Boxed W V 9 (.string (bs (flat pre))) ∧ Boxed W (V + 1) 4 (.bool (lastSort pre)) ∧ Boxed W (V + 1 + 1) 4 (.bool (goodAll pre))) ∧ Below B w W)
    (fun _ pre _ => ¬ (okAll pre ∧ (flat pre).length ≤ s.size))
    (OwnFrom.and (Own.from (fun pre A C row hh hg hr => by
      have ne : ∀ {b : Nat} {t : TypeId} {v : Value}, Boxed A b t v → some b ≠ row := fun {b t v} h e => by
        obtain ⟨o, ho, hc⟩ := hr b e.symm
        rw [show A.heap[b]? = _ from h] at ho; cases ho; cases hc
      exact ⟨hh.1.kept hg (ne hh.1), hh.2.1.kept hg (ne hh.2.1), hh.2.2.1.kept hg (ne hh.2.2.1), hh.2.2.2.kept hg (ne hh.2.2.2)⟩) _) (ownFrom_below (by omega) (by omega)))
    (fun _ _ _ _ _ hs _ _ => hs)
    ⟨⟨bS4, bW, bL, bG⟩, hB2⟩
    (fun x => { tmps := #[.string s, .pointer (some ⟨B, 0, none⟩), .bool false, .pointer (some ⟨V, 0, none⟩), .pointer (some ⟨V + 1, 0, none⟩), .pointer (some ⟨V + 1 + 1, 0, none⟩), .func (.func 22) #[] #[.pointer (some ⟨V + 1 + 1 + 1, 0, none⟩)], .string x.1.1, .bool x.1.2, undef,
      .bool true, .bool false, .string s, .int .i64 s.size, .bool (decide ((200 : Int) < s.size)), .string s, .func (.func 22) #[] #[.pointer (some ⟨V + 1 + 1 + 1, 0, none⟩)], .func (.func 22) #[] #[.pointer (some ⟨V + 1 + 1 + 1, 0, none⟩)], .bool false, .func (.func 22) #[] #[.pointer (some ⟨V + 1 + 1 + 1, 0, none⟩)], .string x.1.1, .bool x.1.2,
      undef, undef, undef, undef, undef, undef, undef, undef, undef, undef, undef, undef, undef, undef, undef, undef, undef, undef, undef, undef, undef, undef, undef, undef, undef, undef, undef, undef, undef, undef, undef, undef, undef, undef, undef, undef, undef, undef, undef, undef, undef, undef, undef, undef, undef, undef, undef, undef], defers := [] }) ?assign ?body ?done ?stop
  case assign =>
    intro l x W K hK
    gi_wp2
    exact hK
  case stop =>
    rintro D c pre W _ ⟨r, hS⟩ h _
    refine absurd ⟨hS.2.1, ?_⟩ h
    have := congrArg List.length hS.1
    simp at this
    omega
  case done =>
    rintro D xs W hD hS ⟨⟨b1, b2, b3, b4⟩, hB⟩ hK
    rw [goodAll_ok hS.2.1, show flat xs = s.data.toList from by have := hS.1; rwa [List.append_nil] at this, bs_of] at *
    have c1 := b1.cell
    have c2 := b2.cell
    have c4 := b4.cell
    have hBw : Below w.heap.size w W := by rw [← HX.out.2.2.2.1]; exact hB
    gi_wp2
    refine ⟨by simp, .inl ⟨_, _, rfl, run_takeDeferred hK, ?_⟩⟩
    exact ⟨_, results_tmp rfl _ _ _, rfl, hBw.trans (belowK_b (w := w) (Nat.le_refl _) W D _ _ (by have := HX.out.2.1; have := HX.out.2.2.2.1; omega) hK rfl rfl)⟩
  case body =>
    rintro l pre x W ⟨⟨b1, b2, b3, b4⟩, hB⟩ hlt
    obtain ⟨⟨p, t⟩, hp⟩ := x
    have hp' : p.size ≤ 1000000 := hp
    have c1 := b1.cell
    have c2 := b2.cell
    have c3 := b3.cell
    have c4 := b4.cell
    have f4 := b4.frozen
    by_cases h1 : p.size = 0
    · have h1b : ((p.size : Int) == 0) = true := by rw [h1]; rfl
      have H1 := Lib.hid h1
      clear h1
      gi_wp2_with fail
      refine ⟨(KeepsOthers.setCell _ _ _).from _, fun h => ?_⟩
      rw [okAll_snoc] at h
      exact h.1.2.1 H1.out
    · have h1b : ((p.size : Int) == 0) = false := by rw [beq_eq_false_iff_ne]; omega
      by_cases h2 : flat pre = []
      · have h2b : (bs (flat pre)).toList.isEmpty = true := by rw [ByteArray.toList_eq, h2]; rfl
        have h4 : (flat pre).length ≤ s.size := by rw [h2]; simp
        have h4b : decide (s.size < (flat pre).length) = false := by simp; omega
        have H2 := Lib.hid h2
        clear h2 h1
        gi_wp2_with fail
        gi_loopg [9] p.size (fun r i wr => ∃ k : Nat, r + k = p.size ∧ i = .int .i64 k ∧ Boxed wr B 9 (.string s) ∧ Boxed wr V 9 (.string (bs (flat pre))) ∧ Boxed wr (V + 1) 4 (.bool (lastSort pre)) ∧
          Boxed wr (V + 1 + 1) 4 (.bool (goodAll pre && (p.data.toList.take k).all fun b => tb b == t)) ∧ Hid (KeepsOthers W wr ∧ Below B W wr))
        case atStart => exact ⟨0, rfl, rfl, b1, b2, b3, by simpa using b4, KeepsOthers.refl _, Below.refl _ _⟩
        case round =>
          obtain ⟨k, hk, rfl, d1, d2, d3, d4, HK⟩ := hrel
          have hkl : k ≤ p.size := by omega
          have Hk := Lib.hid hk
          clear c1 c2 c3 c4 f4 b1 b2 b3 b4 hk
          by_cases hlt2 : k < p.size
          · obtain ⟨g, hg⟩ : ∃ g, g = (goodAll pre && (p.data.toList.take k).all fun b => tb b == t) := ⟨_, rfl⟩
            have hst : (goodAll pre && (p.data.toList.take (k + 1)).all fun b => tb b == t) = (g && (tb p[k] == t)) := by
              rw [hg, ba_take p k hlt2, List.all_append, Bool.and_assoc]; simp
            have Hst := Lib.hid hst
            rw [← hg] at d4
            have Hg := Lib.hid hg
            clear hst hg
            have e4 := d4.cell
            have f4 := d4.frozen
            cases g with
            | false =>
              gi_upto_region 19 with (fail)
              refine wpIn_quiet_tail 13 (by kernel_rfl) (by kernel_rfl) (by kernel_rfl) ?_
              simp only [List.take_succ_cons, List.take_zero, List.drop_succ_cons, List.drop_zero]
              repeat (refine quiet_step_w (fun _ => trivial) (fun K hK => ?_); go_simp; refine hK _ ?_; clear hK K)
              refine wpQuietIn_nil ?_
              intro _ hw'
              obtain ⟨nq, hw''⟩ := hw'
              subst hw''
              gi_wp2_with fail
              gi_roundg (gk - 1)
              case measure => have := Hk.out; omega
              case rel =>
                refine ⟨k + 1, by have := Hk.out; omega, by go_num, Boxed.other (show Boxed (wr.drewN nq) _ _ _ from d1) (by omega) _, Boxed.other (show Boxed (wr.drewN nq) _ _ _ from d2) (by omega) _, Boxed.other (show Boxed (wr.drewN nq) _ _ _ from d3) (by omega) _, ?_, HK.out.1.trans ((keeps_dn _ nq).trans (KeepsOthers.setCell _ _ _)), (below_dn HK.out.2 nq).setCell (p := ⟨V + 1 + 1, 0, none⟩) (show B ≤ V + 1 + 1 by omega) _⟩
                rw [Hst.out]
                exact Boxed.set _ (show Boxed (wr.drewN nq) _ _ _ from d4)
            | true =>
              gi_upto_region 19 with (fail)
              refine wpIn_quiet_tail 13 (by kernel_rfl) (by kernel_rfl) (by kernel_rfl) ?_
              simp only [List.take_succ_cons, List.take_zero, List.drop_succ_cons, List.drop_zero]
              repeat (refine quiet_step_w (fun _ => trivial) (fun K hK => ?_); go_simp; first | (refine hK _ ?_; clear hK K) | (apply Exists.intro; refine ⟨fun _ => CallsIn.quiet_of_same ((CallsIn.inRound l ((callsIn_wide (n := 3)).2 (byte_u8 _ _))).mono fun e w' h => ⟨h.1, h.2.symm⟩), hK _ ?_⟩; clear hK K))
              refine wpQuietIn_nil ?_
              intro _ hw'
              obtain ⟨nq, hw''⟩ := hw'
              subst hw''
              gi_wp2_with fail
              gi_roundg (gk - 1)
              case measure => have := Hk.out; omega
              case rel =>
                refine ⟨k + 1, by have := Hk.out; omega, by go_num, Boxed.other (show Boxed (wr.drewN nq) _ _ _ from d1) (by omega) _, Boxed.other (show Boxed (wr.drewN nq) _ _ _ from d2) (by omega) _, Boxed.other (show Boxed (wr.drewN nq) _ _ _ from d3) (by omega) _, ?_, HK.out.1.trans ((keeps_dn _ nq).trans (KeepsOthers.setCell _ _ _)), (below_dn HK.out.2 nq).setCell (p := ⟨V + 1 + 1, 0, none⟩) (show B ≤ V + 1 + 1 by omega) _⟩
                rw [Hst.out, byte_ne]
                exact Boxed.set _ (show Boxed (wr.drewN nq) _ _ _ from d4)
          · have hkp : k = p.size := by omega
            have Hkp := Lib.hid hkp
            have e1 := d1.cell
            have e2 := d2.cell
            have e3 := d3.cell
            have e4 := d4.cell
            have g2 := d2.frozen
            have g3 := d3.frozen
            have hn : (bs (flat pre)).size ≤ 200 := by simp; omega
            clear hkp
            gi_wp2_with fail
            have ef : flat (pre ++ [⟨(p, t), hp⟩]) = flat pre ++ p.data.toList := flat_snoc _ _
            have eg : goodAll (pre ++ [⟨(p, t), hp⟩]) = (goodAll pre && (p.data.toList.take k).all fun b => tb b == t) := by
              rw [goodAll_snoc, Hkp.out, List.take_of_length_le (by simp)]; rfl
            refine ⟨(HK.out.1.trans ((KeepsOthers.setCell _ _ _).trans (KeepsOthers.setCell _ _ _))).from _, trivial, ⟨(d1.other (by omega) _).other (by omega) _, ?_, ?_, ?_⟩, hB.trans ((HK.out.2.setCell (p := ⟨V, 0, none⟩) (show B ≤ V by omega) _).setCell (p := ⟨V + 1, 0, none⟩) (show B ≤ V + 1 by omega) _)⟩
            · rw [ef, ← bs_append]
              exact (d2.set _).other (by omega) _
            · rw [lastSort_snoc]
              exact (d3.other (by omega) _).set _
            · rw [eg]
              exact (d4.other (by omega) _).other (by omega) _
      · have h2b : (bs (flat pre)).toList.isEmpty = false := by
          rw [ByteArray.toList_eq, bs_toList, List.isEmpty_eq_false_iff]; exact h2
        by_cases h3 : t = lastSort pre
        · have h3b : (t == lastSort pre) = true := by rw [h3]; simp
          have H3 := Lib.hid h3
          have H2 := Lib.hid h2
          clear h3 h2 h1
          gi_wp2_with fail
          refine ⟨(KeepsOthers.setCell _ _ _).from _, fun h => ?_⟩
          rw [okAll_snoc] at h
          cases hg : pre.getLast? with
          | none =>
            rw [List.getLast?_eq_none_iff] at hg
            subst hg
            exact H2.out rfl
          | some y =>
            refine h.1.2.2.2 y hg ?_
            have := H3.out
            simp only [lastSort, hg, Option.map_some, Option.getD_some] at this
            exact this
        · have h3b : (t == lastSort pre) = false := by rw [beq_eq_false_iff_ne]; exact h3
          by_cases h4 : s.size < (flat pre).length
          · have h4b : decide ((s.size : Int) < ((flat pre).length : Int)) = true := by simp; omega
            have H3 := Lib.hid h3
            have H2 := Lib.hid h2
            clear h3 h2 h1
            gi_wp2_with fail
            refine ⟨(KeepsOthers.setCell _ _ _).from _, fun h => ?_⟩
            have := h.2
            rw [flat_snoc] at this
            simp at this
            omega
          · have h4b : decide ((s.size : Int) < ((flat pre).length : Int)) = false := by simp; omega
            have H3 := Lib.hid h3
            have H2 := Lib.hid h2
            clear h3 h2 h1
            gi_wp2_with fail
            gi_loopg [9] p.size (fun r i wr => ∃ k : Nat, r + k = p.size ∧ i = .int .i64 k ∧ Boxed wr B 9 (.string s) ∧ Boxed wr V 9 (.string (bs (flat pre))) ∧ Boxed wr (V + 1) 4 (.bool (lastSort pre)) ∧
              Boxed wr (V + 1 + 1) 4 (.bool (goodAll pre && (p.data.toList.take k).all fun b => tb b == t)) ∧ Hid (KeepsOthers W wr ∧ Below B W wr))
            case atStart => exact ⟨0, rfl, rfl, b1, b2, b3, by simpa using b4, KeepsOthers.refl _, Below.refl _ _⟩
            case round =>
              obtain ⟨k, hk, rfl, d1, d2, d3, d4, HK⟩ := hrel
              have hkl : k ≤ p.size := by omega
              have Hk := Lib.hid hk
              clear c1 c2 c3 c4 f4 b1 b2 b3 b4 hk
              by_cases hlt2 : k < p.size
              · obtain ⟨g, hg⟩ : ∃ g, g = (goodAll pre && (p.data.toList.take k).all fun b => tb b == t) := ⟨_, rfl⟩
                have hst : (goodAll pre && (p.data.toList.take (k + 1)).all fun b => tb b == t) = (g && (tb p[k] == t)) := by
                  rw [hg, ba_take p k hlt2, List.all_append, Bool.and_assoc]; simp
                have Hst := Lib.hid hst
                rw [← hg] at d4
                have Hg := Lib.hid hg
                clear hst hg
                have e4 := d4.cell
                have f4 := d4.frozen
                cases g with
                | false =>
                  gi_upto_region 19 with (fail)
                  refine wpIn_quiet_tail 13 (by kernel_rfl) (by kernel_rfl) (by kernel_rfl) ?_
                  simp only [List.take_succ_cons, List.take_zero, List.drop_succ_cons, List.drop_zero]
                  repeat (refine quiet_step_w (fun _ => trivial) (fun K hK => ?_); go_simp; refine hK _ ?_; clear hK K)
                  refine wpQuietIn_nil ?_
                  intro _ hw'
                  obtain ⟨nq, hw''⟩ := hw'
                  subst hw''
                  gi_wp2_with fail
                  gi_roundg (gk - 1)
                  case measure => have := Hk.out; omega
                  case rel =>
                    refine ⟨k + 1, by have := Hk.out; omega, by go_num, Boxed.other (show Boxed (wr.drewN nq) _ _ _ from d1) (by omega) _, Boxed.other (show Boxed (wr.drewN nq) _ _ _ from d2) (by omega) _, Boxed.other (show Boxed (wr.drewN nq) _ _ _ from d3) (by omega) _, ?_, HK.out.1.trans ((keeps_dn _ nq).trans (KeepsOthers.setCell _ _ _)), (below_dn HK.out.2 nq).setCell (p := ⟨V + 1 + 1, 0, none⟩) (show B ≤ V + 1 + 1 by omega) _⟩
                    rw [Hst.out]
                    exact Boxed.set _ (show Boxed (wr.drewN nq) _ _ _ from d4)
                | true =>
                  gi_upto_region 19 with (fail)
                  refine wpIn_quiet_tail 13 (by kernel_rfl) (by kernel_rfl) (by kernel_rfl) ?_
                  simp only [List.take_succ_cons, List.take_zero, List.drop_succ_cons, List.drop_zero]
                  repeat (refine quiet_step_w (fun _ => trivial) (fun K hK => ?_); go_simp; first | (refine hK _ ?_; clear hK K) | (apply Exists.intro; refine ⟨fun _ => CallsIn.quiet_of_same ((CallsIn.inRound l ((callsIn_wide (n := 3)).2 (byte_u8 _ _))).mono fun e w' h => ⟨h.1, h.2.symm⟩), hK _ ?_⟩; clear hK K))
                  refine wpQuietIn_nil ?_
                  intro _ hw'
                  obtain ⟨nq, hw''⟩ := hw'
                  subst hw''
                  gi_wp2_with fail
                  gi_roundg (gk - 1)
                  case measure => have := Hk.out; omega
                  case rel =>
                    refine ⟨k + 1, by have := Hk.out; omega, by go_num, Boxed.other (show Boxed (wr.drewN nq) _ _ _ from d1) (by omega) _, Boxed.other (show Boxed (wr.drewN nq) _ _ _ from d2) (by omega) _, Boxed.other (show Boxed (wr.drewN nq) _ _ _ from d3) (by omega) _, ?_, HK.out.1.trans ((keeps_dn _ nq).trans (KeepsOthers.setCell _ _ _)), (below_dn HK.out.2 nq).setCell (p := ⟨V + 1 + 1, 0, none⟩) (show B ≤ V + 1 + 1 by omega) _⟩
                    rw [Hst.out, byte_ne]
                    exact Boxed.set _ (show Boxed (wr.drewN nq) _ _ _ from d4)
              · have hkp : k = p.size := by omega
                have Hkp := Lib.hid hkp
                have e1 := d1.cell
                have e2 := d2.cell
                have e3 := d3.cell
                have e4 := d4.cell
                have g2 := d2.frozen
                have g3 := d3.frozen
                have hn : (bs (flat pre)).size ≤ 200 := by simp; omega
                clear hkp
                gi_wp2_with fail
                have ef : flat (pre ++ [⟨(p, t), hp⟩]) = flat pre ++ p.data.toList := flat_snoc _ _
                have eg : goodAll (pre ++ [⟨(p, t), hp⟩]) = (goodAll pre && (p.data.toList.take k).all fun b => tb b == t) := by
                  rw [goodAll_snoc, Hkp.out, List.take_of_length_le (by simp)]; rfl
                refine ⟨(HK.out.1.trans ((KeepsOthers.setCell _ _ _).trans (KeepsOthers.setCell _ _ _))).from _, trivial, ⟨(d1.other (by omega) _).other (by omega) _, ?_, ?_, ?_⟩, hB.trans ((HK.out.2.setCell (p := ⟨V, 0, none⟩) (show B ≤ V by omega) _).setCell (p := ⟨V + 1, 0, none⟩) (show B ≤ V + 1 by omega) _)⟩
                · rw [ef, ← bs_append]
                  exact (d2.set _).other (by omega) _
                · rw [lastSort_snoc]
                  exact (d3.other (by omega) _).set _
                · rw [eg]
                  exact (d4.other (by omega) _).other (by omega) _

theorem runs_law (s : ByteArray) (hs : s.size ≤ maxLen) (w : World) : Calls Try.prog 6 #[.string s] w fun e w' => e = .returned (.bool true) ∧ Below w.heap.size w w' := by
  unfold maxLen at hs
  by_cases h : s.size ≤ 200
  · exact runs_walk s h w
  · have h2 : (200 : Int) < s.size := by omega
    go_enter Try.func6, Try.ntmps6
    go_wp2_with fail
    refine (awake01 _).mono ?_
    rintro e w1 ⟨rfl, q1⟩
    have bS : Boxed w1 w.heap.size 9 (.string s) := (q1.block w.heap.size (by simp)).trans (Boxed.new w 9 (.string s))
    have cS := bS.cell
    go_wp2_with fail
    go_ret
    exact ⟨rfl, ((Below.refl _ w).alloc (Nat.le_refl _) _).trans (q1.mono (by simp))⟩
end Go.Proofs.Ytjlgfnekcideaaa
