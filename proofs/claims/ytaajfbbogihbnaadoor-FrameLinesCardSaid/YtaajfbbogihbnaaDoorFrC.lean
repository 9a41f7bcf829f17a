/- Layer 5: lines, walked. -/
import Derived.Test.YtaajfbbogihbnaaDoorFrB
namespace Go.Proofs.YtaajfbbogihbnaaDoor
set_option linter.unusedVariables false
set_option linter.unusedSimpArgs false
open Go Go.RowKit Go.Lib
attribute [local go_sem] Oper.semAt_some

set_option maxRecDepth 100000 in
set_option maxHeartbeats 8000000 in
theorem lines_seqD (B Fb F : Nat) (Rb : Nat → Prop) (bv0 v0 : Value) (l : List UInt8) (s0 : FSt) (w : World) (hl : l.length ≤ 1000000) (hb : At8 w bv0 l) (hf : FrA F v0 s0 w) (hg0 : good s0)
    (hB : w.heap[B]? = some (.cells #[bv0] 26 (0, 0))) (hp : w.heap[Fb]? = some (.cells #[.pointer (some ⟨F, 0, none⟩)] 24 (0, 0))) (hT : Tabs8 w) (hrb : ∀ k, 0 < l.length → bv0.ownBlock = some k → Rb k)
    (d1 : B ≠ F) (d2 : ¬ LnY Fb Rb B) (d3 : ¬ LnY Fb Rb F) (d4 : ∀ k, v0.ownBlock = some k → k ≠ B ∧ ¬ LnY Fb Rb k) (hYw : ∀ k, LnY Fb Rb k ∨ LnZ B F v0 k → k < w.heap.size) :
    SeqD Tryd.prog 19 #[.pointer (some ⟨B, 0, none⟩), .pointer (some ⟨Fb, 0, none⟩)] encLn (LnY Fb Rb) (LnZ B F v0) (LnD F v0 w (feedM s0 l).2) (feedM s0 l).1 w := fun l0 J Jx X V hwV hsm hYl hX hJ hJx hY h0 => by
  have hA : LnA B Fb F Rb v0 X V := ⟨d1, d2, d3, d4, hX, fun k hk => hYl k hk, (hsm Fb (.inl (.inl rfl))).trans hp, tabs8_same hT fun k hk => hsm k (.inl (.inr (.inr hk)))⟩
  have h00 : LnI B Fb F Rb v0 (feedM s0 l).1 X V J (feedM s0 l).1 l V X [] s0 v0 bv0 := {
    g := GrowX.refl fun k hk => (hX k hk).1
    f := Fr.refl _ _
    j := h0
    t := rfl
    b := (hsm B (.inr (.inl rfl))).trans hB
    bb := hrb
    a := at8_same hb fun k h0 hk => hsm k (.inl (.inr (.inl (hrb k h0 hk))))
    r := frA_same hf (hsm F (.inr (.inr (.inl rfl)))) fun k hk => hsm k (.inr (.inr (.inr hk)))
    rb := fun k hk => ⟨fun e => (hX k e).2 (.inr (.inr (.inr hk))), (d4 k hk).1, (d4 k hk).2, .inl hk⟩ }
  obtain ⟨xs, hxs⟩ : ∃ xs, (feedM s0 l).1 = xs := ⟨_, rfl⟩
  obtain ⟨sf, hsf⟩ : ∃ sf, (feedM s0 l).2 = sf := ⟨_, rfl⟩
  rw [hxs] at h00 hY ⊢
  rw [hsf]
  have H := Lib.hid (And.intro hA (And.intro hJ (And.intro hJx (And.intro hY hwV))))
  have H0 : Hid (∃ X1 pre s v bv, LnI B Fb F Rb v0 xs X V J (feedM s l).1 l V X1 pre s v bv ∧ (feedM s l).2 = sf ∧ good s) := ⟨X, [], s0, v0, bv0, by rw [hxs]; exact h00, hsf, hg0⟩
  clear hrb hb hf hg0 hB hp hT d1 d2 d3 d4 hYw hsm hYl hX hJ hJx hY h0 hA h00 hxs hsf hwV
  refine (callsIn_wide (n := 20)).1 ?_
  refine callsIn_of_wp Tryd.func19 rfl trivial ?_ rfl
  simp only [Tryd.ntmps19, List.size_toArray, List.length_cons, List.length_nil, Nat.reduceAdd, Nat.reduceSub, Array.replicate_succ, Array.replicate_zero, List.push_toArray, List.append_toArray, List.nil_append, List.cons_append]
  gi_wp2_with fail
  gi_loopg [4, 5] l.length (fun r _ _ wr => ∃ R : List UInt8, r = R.length ∧ R.length ≤ l.length ∧ Hid (∃ X1 pre s v bv, LnI B Fb F Rb v0 xs X V J (feedM s R).1 R wr X1 pre s v bv ∧ (feedM s R).2 = sf ∧ good s))
  case atStart => exact ⟨l, rfl, Nat.le_refl _, H0⟩
  case round =>
    clear H0
    obtain ⟨R, hr, hRl, HR⟩ := hrel
    have HG := Lib.hid hr
    clear hr
    obtain ⟨X1, pre, s, v, bv, h1, hsf, hgd⟩ := HR.out
    clear HR
    obtain ⟨hA, hJ, hJx, hY, hwV⟩ := H.out
    have ha := h1.a
    have hT := h1.tabs hA
    have kB := h1.b
    have kP := h1.ptr hA
    have c0 := blk_cell kB 0
    have p0 := blk_cell kP 0
    simp only [List.getElem?_toArray, List.getElem?_cons_zero, List.getElem?_cons_succ] at c0 p0
    have HIX := Lib.hid (idxFr bv R wr (by omega) ha hT)
    obtain ⟨A, c, rfl, ac1, ac2, ac3, ac4⟩ := ha
    have H1 := Lib.hid (And.intro h1 (And.intro hsf (And.intro hgd (And.intro ac2 (And.intro ac3 ac4)))))
    clear h1 hsf hgd hA hJ hJx hY hwV hT kB kP ac2 ac3 ac4
    gi_wp2_with fail
    refine ⟨trivial, (calls_wide (.inl rfl) HIX.out).mono ?_⟩
    rintro e W1 ⟨rfl, hW1⟩
    have f1 : Fr (fun _ => False) wr W1 := Fr.of_below hW1
    clear hW1 HIX
    obtain ⟨h1, hsf, hgd, ac2, ac3, ac4⟩ := H1.out
    obtain ⟨hA, hJ, hJx, hY, hwV⟩ := H.out
    have h2 := h1.fresh hA hJ f1
    clear h1 H1
    rcases end_cases R with ⟨hn, hno⟩ | ⟨a, e, r, hn, hRe, he, hno⟩
    · rw [hn]
      have kB := h2.b
      have kP := h2.ptr hA
      have c0 := blk_cell kB 0
      have p0 := blk_cell kP 0
      simp only [List.getElem?_toArray, List.getElem?_cons_zero, List.getElem?_cons_succ] at c0 p0
      have HK := Lib.hid (keepFr F v s (.slice A R.length c) R W1 h2.r h2.a (by omega))
      have H2 := Lib.hid (And.intro h2 (And.intro hsf (And.intro hgd hno)))
      clear h2 hsf hgd hno hA hJ hJx hY hwV kB kP ac2 ac3 ac4 f1 hn
      gi_wp2_with fail
      refine ⟨trivial, (calls_wide (.inl rfl) HK.out).mono ?_⟩
      rintro e W2 ⟨⟨x, rfl⟩, v2, k2, f2, t2⟩
      have HF := Lib.hid (And.intro k2 (And.intro f2 t2))
      clear k2 f2 t2 HK
      gi_wp2_with fail
      refine bodyPost_ret (results_none rfl _ _ _) rfl ?_
      obtain ⟨k2, f2, t2⟩ := HF.out
      obtain ⟨h2, hsf, hgd, hno⟩ := H2.out
      obtain ⟨hA, hJ, hJx, hY, hwV⟩ := H.out
      rw [feedM_none R s hgd hno] at h2 hsf
      have h3 := h2.keep hA hJ k2 f2 t2
      have hpre : pre = xs := by have := h3.t; simpa using this
      simp only at hsf
      rw [hsf] at h3
      exact ⟨⟨_, rfl⟩, X1, h3.g, h3.f, .inl ⟨hpre ▸ h3.j, h3.left hA hwV⟩⟩
    · rw [hn]
      have hRl2 : R.length = a.length + (r.length + 1) := by rw [hRe]; simp
      have kB := h2.b
      have kP := h2.ptr hA
      have c0 := blk_cell kB 0
      have p0 := blk_cell kP 0
      simp only [List.getElem?_toArray, List.getElem?_cons_zero, List.getElem?_cons_succ] at c0 p0
      have hneg : ¬ ((a.length : Int) < 0) := by omega
      have s1 : (0 : Int) ≤ (a.length : Int) := by omega
      have s2 : (a.length : Int) ≤ (c : Int) := by omega
      have h2d := h2.fresh hA hJ (Fr.refl (fun _ => False) W1).drew
      have htk : At8 W1.drew (.slice A a.length c) a := by
        rw [hRe] at ac1 ac4
        exact at8_pre ac1 ac2 ac3 (lie8_kept ac4 (f1.drew) fun _ _ _ e => e)
      have HK := Lib.hid (keepFr F v s (.slice A a.length c) a W1.drew h2d.r htk (by omega))
      have H2 := Lib.hid (And.intro h2d (And.intro hsf (And.intro hgd (And.intro hno (And.intro hRe (And.intro he (And.intro ac2 (And.intro ac3 hRl2))))))))
      clear h2 h2d htk hsf hgd hno hA hJ hJx hY hwV kB kP ac2 ac3 ac4 f1 hn hRe he hRl2
      gi_wp2_with fail
      refine wpIn_noPanic ?_
      gi_region_with (first | (refine ⟨trivial, ?_⟩; gi_at_call 21; refine (calls_wide (.inl rfl) HK.out).mono ?_; rintro e W2 ⟨⟨x, rfl⟩, v2, k2, f2, t2⟩; have HF := Lib.hid (And.intro k2 (And.intro f2 t2)); clear k2 f2 t2) | fail)
      all_goals
        dsimp only [NoPanic]
        obtain ⟨k2, f2, t2⟩ := HF.out
        obtain ⟨h2, hsf, hgd, hno, hRe, he, ac2, ac3, hRl2⟩ := H2.out
        obtain ⟨hA, hJ, hJx, hY, hwV⟩ := H.out
        have h3 := h2.keep hA hJ k2 f2 t2
        have kB := h3.b
        have kP := h3.ptr hA
        have c1 := blk_cell kB 0
        have z1 := blk_free kB 0
        have p1 := blk_cell kP 0
        simp only [List.getElem?_toArray, List.getElem?_cons_zero, List.getElem?_cons_succ] at c1 p1
        have hw1 : IntKind.i64.wrap ((a.length : Int) + 1) = (a.length : Int) + 1 := IntWalk.i64_in _ (by omega)
        obtain ⟨A2, hsl, hbv⟩ := run_drop8 (A := A) (c := c) (l := R) (a.length + 1) (by omega) (by omega)
        rw [show ((a.length + 1 : Nat) : Int) = (a.length : Int) + 1 by omega] at hsl
        obtain ⟨A', c', e1, e2, e3, e4, e5⟩ := h3.a
        cases e1
        have hbr : At8 W2 (.slice A2 (R.length - (a.length + 1)) (c - (a.length + 1))) r := by
          have := at8_drop e2 e3 e4 e5 (a.length + 1) (by omega)
          rw [← hbv] at this
          have hd : R.drop (a.length + 1) = r := by rw [hRe]; simp [List.drop_append]
          rwa [hd] at this
        have h4 := h3.setB hA hJ hbr (fun k h0 hk => by rw [hbv] at hk; exact h3.bb k (by omega) (sliced_block hk))
        have p4 := blk_cell (h4.ptr hA) 0
        simp only [List.getElem?_toArray, List.getElem?_cons_zero, List.getElem?_cons_succ] at p4
        have HE := Lib.hid (endFr F v2 (keepM s a) _ h4.r)
        have H4 := Lib.hid (And.intro h4 (And.intro hsf (And.intro hgd (And.intro hno (And.intro hRe (And.intro he hRl2))))))
        clear h2 h3 h4 hsf hgd hno hA hJ hJx hY hwV kB kP ac2 ac3 hRe he hRl2 k2 f2 t2 HF H2 HK c0 p0 p1 hbv hbr e2 e3 e4 e5
        gi_wp2_with fail
        refine ⟨trivial, (calls_wide (.inl rfl) HE.out).mono ?_⟩
        rintro e9 W4 ⟨rfl, v3, k3, b3, f3⟩
        have h5 : LnI B Fb F Rb v0 xs X V J (feedM s R).1 r W4 X1 pre ([], false) v3 (.slice A2 (R.length - (a.length + 1)) (c - (a.length + 1))) := (H4.out.1).keep H.out.1 H.out.2.1 k3 (f3.mono fun k _ e => .inl e) fun k hk => .inl (by rw [← b3]; exact hk)
        obtain ⟨h4, hsf, hgd, hno, hRe, he, hRl2⟩ := H4.out
        clear H4 HE k3 b3 f3 h4
        obtain ⟨hA, hJ, hJx, hY, hwV⟩ := H.out
        have hfc : feedM s R = (outM (keepM s a) ++ (feedM ([], false) r).1, (feedM ([], false) r).2) := by rw [hRe]; exact feedM_cut a e r s hgd hno he
        rw [hfc] at h5 hsf
        clear hfc
        simp only at h5 hsf
        have hks := keepM_good a hgd
        obtain ⟨k, hk⟩ : ∃ k, keepM s a = k := ⟨_, rfl⟩
        rw [hk] at h5 hks ⊢
        clear hk hno hRe he hgd
        obtain ⟨ys, b⟩ := k
        cases b with
        | true =>
          have hys := hks.2 rfl
          simp only at hys
          subst hys
          have h6 := (h5.fresh hA hJ ((Fr.refl (fun _ => False) W4).alloc (.cells #[.string (bs ([] : List UInt8)), .bool true] 38)))
          have ht6 := h6.t
          have hout : outM (([] : List UInt8), true) = [(([] : List UInt8), true)] := by unfold outM; rw [if_neg (by simp)]
          rw [hout] at ht6
          obtain ⟨fn, tmps, assign, body, hy, hRd⟩ := hY pre (([] : List UInt8), true) (feedM ([], false) r).1 X1 _ (by simpa using ht6) h6.g h6.j h6.f
          simp only [encLn, lineV] at hy
          have H6 := Lib.hid (And.intro h6 (And.intro hsf (And.intro ht6 (And.intro hRl2 hwV))))
          clear h5 h6 hsf hks hRl2 hA hJ hJx hY hwV ht6 hout
          unfold lineV
          dsimp only
          gi_wp2_with fail
          refine (round_wide (.inl rfl) hRd).mono ?_
          rintro e8 W5 ⟨X2, g2, f2, (⟨rfl, hJ3⟩ | ⟨rfl, hJx3⟩)⟩
          · obtain ⟨h6, hsf, ht6, hRl2, hwV⟩ := H6.out
            have h7 : LnI B Fb F Rb v0 xs X V J (feedM ([], false) r).1 r W5 X2 (pre ++ [(([] : List UInt8), true)]) ([], false) v3 (.slice A2 (R.length - (a.length + 1)) (c - (a.length + 1))) := h6.told H.out.1 g2 f2 hJ3 (by simpa using ht6)
            have HN : Hid (∃ X1 pre s v bv, LnI B Fb F Rb v0 xs X V J (feedM s r).1 r W5 X1 pre s v bv ∧ (feedM s r).2 = sf ∧ good s) := ⟨X2, _, ([], false), v3, _, h7, hsf, good_new⟩
            have hlt : r.length < R.length := by omega
            clear h6 h7 hsf ht6 hwV hRd hy g2 f2 hJ3 H6 hRl2
            gi_wp2_with fail
            gi_roundg r.length
            case measure => rw [HG.out]; exact hlt
            case rel => exact ⟨r, rfl, by omega, HN⟩
          · obtain ⟨h6, hsf, ht6, hRl2, hwV⟩ := H6.out
            have h7 : LnI B Fb F Rb v0 xs X V Jx (feedM ([], false) r).1 r W5 X2 (pre ++ [(([] : List UInt8), true)]) ([], false) v3 (.slice A2 (R.length - (a.length + 1)) (c - (a.length + 1))) := h6.told H.out.1 g2 f2 hJx3 (by simpa using ht6)
            have HN := Lib.hid h7
            clear h6 h7 hsf ht6 hwV hRd hy g2 f2 hJx3 H6 hRl2
            gi_wp2_with fail
            refine bodyPost_ret (results_none rfl _ _ _) rfl ?_
            have h7 := HN.out
            exact ⟨⟨_, rfl⟩, X2, h7.g, h7.f, .inr ⟨_, _, h7.t, h7.j⟩⟩
        | false =>
          cases ys with
          | nil =>
            have h6 := (h5.fresh hA hJ ((Fr.refl (fun _ => False) W4).alloc (.cells #[.string (({ data := #[] } : ByteArray)), .bool false] 38)))
            have hout : outM (([] : List UInt8), false) = [] := rfl
            rw [hout, List.nil_append] at h6
            have HN : Hid (∃ X1 pre s v bv, LnI B Fb F Rb v0 xs X V J (feedM s r).1 r (W4.alloc (.cells #[.string (({ data := #[] } : ByteArray)), .bool false] 38)) X1 pre s v bv ∧ (feedM s r).2 = sf ∧ good s) := ⟨X1, pre, ([], false), v3, _, h6, hsf, good_new⟩
            have hlt : r.length < R.length := by omega
            clear h5 h6 hsf hks hA hJ hJx hY hwV hout hRl2
            unfold lineV
            dsimp only
            rw [show bs ([] : List UInt8) = { data := #[] } from rfl]
            gi_wp2_with fail
            refine ⟨(fun _ h => by cases h), ?_⟩
            gi_wp2_with fail
            gi_roundg r.length
            case measure => rw [HG.out]; exact hlt
            case rel => exact ⟨r, rfl, by omega, HN⟩
          | cons y ys =>
            have hemp := str_ne (s := bs (y :: ys)) (by simp)
            have h6 := (h5.fresh hA hJ ((Fr.refl (fun _ => False) W4).alloc (.cells #[.string (bs (y :: ys)), .bool false] 38)))
            have ht6 := h6.t
            have hout : outM ((y :: ys), false) = [((y :: ys), false)] := by unfold outM; rw [if_neg (by simp)]
            rw [hout] at ht6
            obtain ⟨fn, tmps, assign, body, hy, hRd⟩ := hY pre ((y :: ys), false) (feedM ([], false) r).1 X1 _ (by simpa using ht6) h6.g h6.j h6.f
            simp only [encLn, lineV] at hy
            have H6 := Lib.hid (And.intro h6 (And.intro hsf (And.intro ht6 (And.intro hRl2 hwV))))
            clear h5 h6 hsf hks hRl2 hA hJ hJx hY hwV ht6 hout
            unfold lineV
            dsimp only
            gi_wp2_with fail
            refine (round_wide (.inl rfl) hRd).mono ?_
            rintro e8 W5 ⟨X2, g2, f2, (⟨rfl, hJ3⟩ | ⟨rfl, hJx3⟩)⟩
            · obtain ⟨h6, hsf, ht6, hRl2, hwV⟩ := H6.out
              have h7 : LnI B Fb F Rb v0 xs X V J (feedM ([], false) r).1 r W5 X2 (pre ++ [((y :: ys), false)]) ([], false) v3 (.slice A2 (R.length - (a.length + 1)) (c - (a.length + 1))) := h6.told H.out.1 g2 f2 hJ3 (by simpa using ht6)
              have HN : Hid (∃ X1 pre s v bv, LnI B Fb F Rb v0 xs X V J (feedM s r).1 r W5 X1 pre s v bv ∧ (feedM s r).2 = sf ∧ good s) := ⟨X2, _, ([], false), v3, _, h7, hsf, good_new⟩
              have hlt : r.length < R.length := by omega
              clear h6 h7 hsf ht6 hwV hRd hy g2 f2 hJ3 H6 hRl2
              gi_wp2_with fail
              gi_roundg r.length
              case measure => rw [HG.out]; exact hlt
              case rel => exact ⟨r, rfl, by omega, HN⟩
            · obtain ⟨h6, hsf, ht6, hRl2, hwV⟩ := H6.out
              have h7 : LnI B Fb F Rb v0 xs X V Jx (feedM ([], false) r).1 r W5 X2 (pre ++ [((y :: ys), false)]) ([], false) v3 (.slice A2 (R.length - (a.length + 1)) (c - (a.length + 1))) := h6.told H.out.1 g2 f2 hJx3 (by simpa using ht6)
              have HN := Lib.hid h7
              clear h6 h7 hsf ht6 hwV hRd hy g2 f2 hJx3 H6 hRl2
              gi_wp2_with fail
              refine bodyPost_ret (results_none rfl _ _ _) rfl ?_
              have h7 := HN.out
              exact ⟨⟨_, rfl⟩, X2, h7.g, h7.f, .inr ⟨_, _, h7.t, h7.j⟩⟩
end Go.Proofs.YtaajfbbogihbnaaDoor
