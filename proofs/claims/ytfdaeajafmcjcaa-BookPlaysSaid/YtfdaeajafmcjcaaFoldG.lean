/- fold.Text: what is folded. -/
import Derived.Test.YtfdaeajafmcjcaaFoldF
import Derived.Test.YtfdaeajafmcjcaaAppSrc
import Derived.Sort.CutIn
import Derived.Stop.RegionWithIn
namespace Go.Proofs.Ytfdaeajafmcjcaa
open Go.RowKit Go.Shelf
attribute [local go_sem] Oper.semAt_some

/-- bytes as cells -/
def u8s (l : List UInt8) : List Value := l.map fun b => Value.int .u8 b.toNat
theorem u8s_append (a b : List UInt8) : u8s (a ++ b) = u8s a ++ u8s b := by simp [u8s]
theorem u8s_bytes (s : ByteArray) : byteCells s = u8s s.data.toList := rfl

theorem u8s_step (a : List UInt8) (p : ByteArray) (k : Nat) (h : k < p.size) :
    u8s (a ++ (p.data.toList.map foldB).take (k + 1)) = u8s (a ++ (p.data.toList.map foldB).take k) ++ [.int .u8 (foldB p[k]).toNat] := by
  rw [← List.map_take, ba_take p k h, List.map_append, ← List.append_assoc, u8s_append, List.map_take]
  rfl

/-- what pieces are folded to -/
def tx (pre : List Piece) : List UInt8 := pre.flatMap fun x => if x.1.2 then x.1.1.data.toList.map foldB else x.1.1.data.toList
theorem tx_snoc (pre : List Piece) (x : Piece) : tx (pre ++ [x]) = tx pre ++ (if x.1.2 then x.1.1.data.toList.map foldB else x.1.1.data.toList) := by simp [tx]
theorem tx_len (pre : List Piece) : (tx pre).length ≤ pre.length * 1000000 := by
  induction pre using snoc_ind with
  | nil => simp [tx]
  | snoc l x ih =>
    rw [tx_snoc, List.length_append]
    have hx := x.2
    have e : (if x.1.2 then x.1.1.data.toList.map foldB else x.1.1.data.toList).length = x.1.1.size := by split <;> simp
    rw [e]
    simp only [List.length_append, List.length_cons, List.length_nil]
    omega
theorem tx_fold {pre : List Piece} (h : okAll pre) : tx pre = foldL (flat pre) := by
  induction pre using snoc_ind with
  | nil => rfl
  | snoc l x ih =>
    rw [okAll_snoc] at h
    rw [tx_snoc, flat_snoc, foldL_append, ih h.1]
    congr 1
    obtain ⟨_, hb, _⟩ := h.2
    cases hx : x.1.2 with
    | true => simp [foldL]
    | false =>
      rw [hx] at hb
      simp only [Bool.false_eq_true, if_false]
      unfold foldL
      have : ∀ l : List UInt8, (∀ b ∈ l, tb b = false) → l = l.map foldB := by
        intro l
        induction l with
        | nil => intro _; rfl
        | cons b r ih =>
          intro h
          have hb := h b (by simp)
          simp only [tb, bne_eq_false_iff_eq] at hb
          rw [List.map_cons, hb, ← ih fun c hc => h c (by simp [hc])]
      exact this _ hb

/-- 'out = append(out, ..)' onto a box's own row: what the walk owes. -/
theorem boxed_app {W w1 : World} {n₀ B : Nat} {t e : TypeId} {size g cap k m : Nat} {v' : Value} {xs ys : List Value} (hv : Boxed W B t (.slice (some ⟨g, 0, none⟩) k cap)) (hte : t ≠ e)
    (hrow : W.ownsRow n₀ e size (.slice (some ⟨g, 0, none⟩) k cap) k xs) (hn₀ : n₀ ≤ W.heap.size) (hB : n₀ ≤ B) (hown' : w1.ownsRow n₀ e size v' m ys) (hgrow : W.grownBy w1 (some g)) :
    Boxed w1 B t (.slice (some ⟨g, 0, none⟩) k cap) ∧ Boxed (w1.setCell ⟨B, 0, none⟩ v') B t v' ∧ (w1.setCell ⟨B, 0, none⟩ v').ownsRow n₀ e size v' m ys ∧ KeepsOthers W (w1.setCell ⟨B, 0, none⟩ v') ∧ Below n₀ W (w1.setCell ⟨B, 0, none⟩ v') := by
  have hv1 : Boxed w1 B t (.slice (some ⟨g, 0, none⟩) k cap) := hv.kept hgrow (hv.not_row hte hrow)
  rcases hrow.2 with ⟨h, _⟩ | ⟨g0, cap0, cur, h, hb, hgb, _⟩
  · cases h
  · simp only [Value.slice.injEq, Option.some.injEq, Addr.mk.injEq, true_and, and_true] at h
    obtain ⟨rfl, rfl⟩ := h
    refine ⟨hv1, hv1.set v', hown'.kept (grownBy_setCell' w1 B v') (.inr (hv1.not_row hte hown').symm), ?_, ?_⟩
    · refine (KeepsOthers.of_grownBy hgrow fun j o ej hj => ?_).trans (KeepsOthers.setCell _ _ _)
      cases ej
      rw [hgb] at hj; cases hj; rfl
    · refine ((Below.refl n₀ W).grown hgrow hn₀ fun j ej => ?_).setCell (p := ⟨B, 0, none⟩) hB v'
      cases ej
      exact hb

theorem conv_own {P : Program} (W : World) (src dst e : TypeId) (base g cap : Nat) (l : List UInt8) (hs : P.underlying src = some (.slice e)) (he : P.underlying e = some (.int .u8)) (hd : P.underlying dst = some .string)
    (h : W.ownsRow base e 1 (.slice (some ⟨g, 0, none⟩) l.length cap) l.length (u8s l)) :
    (convert src dst (.slice (some ⟨g, 0, none⟩) l.length cap)).run P W = .ok (.string (bs l)) W :=
  run_convert_bytes_back W src dst e ⟨g, 0, none⟩ cap l hs he hd fun j hj => h.cells (g := g) rfl j _ (by simp [u8s, hj])

theorem Try.infoU8 : (Try.prog.info? 5).map (fun i => (i.zero, i.size, i.bytes)) = some (some (.int .u8 0), 1, 1) := by kernel_rfl

set_option maxRecDepth 100000 in
set_option maxHeartbeats 2000000 in
theorem text_any (s : ByteArray) (w : World) (hs : s.size ≤ 1000000) :
    Calls Try.prog 32 #[.string s] w fun e w' => e = .returned (.string (bs (foldL s.data.toList))) ∧ Below w.heap.size w w' := by
  obtain ⟨i0, hi, hz0, hz1, hz2⟩ := info_parts Try.infoU8
  refine (callsIn_wide (n := 5)).1 ?_
  refine callsIn_of_wp_marks Try.func32 rfl trivial ?_ rfl
  simp only [Try.ntmps32, List.size_toArray, List.length_cons, List.length_nil, Nat.reduceAdd, Nat.reduceSub, Array.replicate_succ, Array.replicate_zero, List.push_toArray, List.append_toArray, List.nil_append, List.cons_append]
  gi_wp2_with (gi_at_make; refine wpListIn_make_own _ rfl _ _ 95 rfl w.heap.size 5 i0 (.int .u8 0) 1 Try.underlying95 hi hz0 hz1 .i64 .i64 (s.size : Int) s.size rfl rfl rfl (by rw [hz2]; omega) (by unfold maxLen; omega) (Nat.le_refl _) ?_; intro w1 hown hgrow)
  refine ⟨trivial, ((callsIn_wide (n := 4)).2 (runs_any _ _)).mono ?_⟩
  rintro e w2 ⟨rfl, hw2⟩
  have hwl : w.heap.size ≤ w1.heap.size := hgrow.size
  have hB1 : Below w.heap.size w w1 := ⟨hgrow.os, hgrow.tape, hgrow.output, hgrow.size, fun i hi => hgrow.block i hi (by simp)⟩
  have bO := (Boxed.new w1 95 (.slice (some ⟨w.heap.size, 0, none⟩) 0 s.size)).alloc (.cells #[.string s] 9)
  have bS := Boxed.new (w1.alloc (.cells #[.slice (some ⟨w.heap.size, 0, none⟩) 0 s.size] 95)) 9 (.string s)
  have hrow := (hown.alloc (.cells #[.slice (some ⟨w.heap.size, 0, none⟩) 0 s.size] 95)).alloc (.cells #[.string s] 9)
  have hB2 : Below w.heap.size w w2 := by rw [hw2]; exact (hB1.alloc hwl _).alloc (by simp; omega) _
  have hsz : w2.heap.size = w1.heap.size + 2 := by rw [hw2]; simp
  rw [World.size_alloc] at bS
  rw [← hw2] at bO bS hrow
  obtain ⟨B, hBd⟩ : ∃ B, B = w1.heap.size := ⟨_, rfl⟩
  simp only [World.size_alloc]
  rw [← hBd] at bO bS hsz hwl ⊢
  have hle : B + 2 ≤ w2.heap.size := by omega
  have HX := Lib.hid (And.intro hw2 (And.intro hsz hBd))
  clear hw2 hsz hBd hB1 hown hgrow
  gi_wp2_with fail
  refine wpIn_rangeFunc_ownG rfl (by omega) (gf := 51) (lb := #[.pointer (some ⟨B + 1, 0, none⟩)]) rfl trivial (enters_of Try.func51 (by kernel_rfl) rfl)
    (runs_stops 4 (by omega) (B + 1) s w2 hs (by omega) bS.cell) (fun _ _ => trivial) (fun _ _ _ _ _ _ _ _ => trivial) (Below.refl _ _) (fun _ => rfl)
    (fun pre W => (∃ v, Boxed W B 95 v ∧ W.ownsRow w.heap.size 5 1 v (tx pre).length (u8s (tx pre)) ∧ ∃ g cap, v = .slice (some ⟨g, 0, none⟩) (tx pre).length cap) ∧ Below w.heap.size w W)
    (fun _ _ _ => False)
    (OwnFrom.and (Own.from (holdsRow_own w.heap.size B 95 5 1 (fun pre => (tx pre).length) (fun pre => u8s (tx pre)) (fun pre v => ∃ g cap, v = .slice (some ⟨g, 0, none⟩) (tx pre).length cap)) _) (ownFrom_below (by omega) (by omega)))
    (fun _ _ _ _ _ hs _ _ => hs)
    ⟨⟨_, bO, hrow, _, _, rfl⟩, hB2⟩
    (fun x => { tmps := #[.string s, undef, .string ⟨#[]⟩, .pointer (some ⟨B, 0, none⟩), .string x.1.1, .bool x.1.2, undef, .string s, .int .i64 s.size, .slice (some ⟨w.heap.size, 0, none⟩) 0 s.size, .string s, .func (.func 51) #[] #[.pointer (some ⟨B + 1, 0, none⟩)], .string x.1.1, .bool x.1.2, undef, undef, undef, undef, undef, undef, undef, undef, undef, undef, undef, undef, undef, undef, undef, undef, undef, undef, undef, undef], defers := [] }) ?assign ?body ?done ?stop
  case assign =>
    intro l x W K hK
    gi_wp2
    exact hK
  case stop =>
    rintro D c pre W _ _ h _
    exact h.elim
  case done =>
    rintro D xs W hD hS ⟨⟨v, hv, hrow, g, cap, rfl⟩, hB⟩ hK
    have hc := hv.cell
    have hconv := conv_own W 95 9 5 w.heap.size g cap (tx xs) Try.underlying95 Try.underlying5 Try.underlying9 hrow
    have ht : tx xs = foldL s.data.toList := by rw [tx_fold hS.2.1]; have := hS.1; rw [List.append_nil] at this; rw [this]
    have Ht := Lib.hid ht
    clear ht
    gi_wp2
    refine ⟨by simp, .inl ⟨_, _, rfl, run_takeDeferred hK, ?_⟩⟩
    exact ⟨_, results_tmp rfl _ _ _, by rw [← Ht.out]; rfl, hB.trans (belowK_b (w := w) (Nat.le_refl _) W D _ _ (by omega) hK rfl rfl)⟩
  case body =>
    rintro l pre x W ⟨⟨v, hv, hrow, g, cap, rfl⟩, hB⟩ hlt
    have htl := tx_len pre
    have hts := tx_snoc pre x
    have Hts := Lib.hid hts
    clear hts
    obtain ⟨⟨p, t⟩, hp⟩ := x
    have hp' : p.size ≤ 1000000 := hp
    have hc := hv.cell
    cases t with
    | false =>
      have hsrc := Src.ofString (P := Try.prog) W (tx := 9) Try.underlying9 p
      gi_wp2_with (gi_at_builtin; refine wpListIn_app_src _ rfl _ _ 95 9 rfl w.heap.size 5 i0 (.int .u8 0) 1 1 Try.underlying95 hi hz0 hz1 hz2 rfl g cap _ _ rfl hrow _ p.size _ rfl hsrc (by unfold maxLen; omega) (by omega) hB.size ?_; intro g1 cap1 w3 hown3 hgrow3; obtain ⟨hv1, hv2, hr2, hk2, hb2⟩ := boxed_app hv (by decide) hrow hB.size hwl hown3 hgrow3; have hc1 := hv1.cell; have hf1 := hv1.frozen)
      have e : tx (pre ++ [⟨(p, false), hp⟩]) = tx pre ++ p.data.toList := Hts.out
      have e2 : (tx pre).length + p.size = (tx (pre ++ [⟨(p, false), hp⟩])).length := by rw [e]; simp
      refine ⟨hk2.from _, trivial, ⟨_, hv2, ?_, g1, cap1, by rw [e2]⟩, hB.trans hb2⟩
      rw [e, u8s_append, ← u8s_bytes]
      simpa using hr2
    | true =>
      gi_wp2_with fail
      gi_loopw [21] (fun i wr => ∃ (k g cap : Nat), i = .int .i64 k ∧ k ≤ p.size ∧ Boxed wr B 95 (.slice (some ⟨g, 0, none⟩) ((tx pre).length + k) cap) ∧
        wr.ownsRow w.heap.size 5 1 (.slice (some ⟨g, 0, none⟩) ((tx pre).length + k) cap) ((tx pre).length + k) (u8s (tx pre ++ (p.data.toList.map foldB).take k)) ∧ Hid (KeepsOthers W wr ∧ Below w.heap.size W wr)) (fun i _ => p.size - (intOf i).toNat)
      case atStart => exact ⟨0, g, cap, rfl, Nat.zero_le _, hv, by simpa using hrow, KeepsOthers.refl _, Below.refl _ _⟩
      case round =>
        obtain ⟨k, g2, cap2, rfl, hk, hv2, hrow2, HK⟩ := hrel
        clear hc hv hrow
        have hc2 := hv2.cell
        by_cases hlt2 : k < p.size
        · have hsrc := Src.ofSlice (P := Try.prog) (w := (wr.alloc (.cells #[.int .u8 (foldB p[k]).toNat] 5)).drew) (size := 1) (tx := 95) Try.underlying95 ⟨wr.heap.size, 0, none⟩ 1 1 [.int .u8 (foldB p[k]).toNat] rfl (cell_one_new wr _ _) (by simp [Value.oneCell'])
          have hv3 : Boxed (wr.alloc (.cells #[.int .u8 (foldB p[k]).toNat] 5)).drew B 95 _ := hv2.alloc (.cells #[.int .u8 (foldB p[k]).toNat] 5)
          have hrow3 : (wr.alloc (.cells #[.int .u8 (foldB p[k]).toNat] 5)).drew.ownsRow _ _ _ _ _ _ := hrow2.alloc (.cells #[.int .u8 (foldB p[k]).toNat] 5)
          obtain ⟨g4, cap4, w4, hrun, hown4, hgrow4⟩ := run_app_src (P := Try.prog) _ w.heap.size 95 95 95 5 i0 (.int .u8 0) 1 1 Try.underlying95 hi hz0 hz1 hz2 rfl g2 cap2 _ _ hrow3 _ 1 _ hsrc (by unfold maxLen; omega) (by omega) (by have := HK.out.2.size; have := hB.size; simp; omega)
          obtain ⟨hv5, hv6, hr6, hk6, hb6⟩ := boxed_app hv3 (by decide) hrow3 (by have := HK.out.2.size; have := hB.size; simp; omega) hwl hown4 hgrow4
          have hc3 := hv3.cell
          have hc5 := hv5.cell
          have hf5 := hv5.frozen
          have H6 := Lib.hid (And.intro hv6 (And.intro hr6 (And.intro hk6 hb6)))
          clear hv6 hr6 hk6 hb6 hown4 hgrow4 hrow3 hv3 hv5 hsrc
          have hrun2 : (Sem.run Try.prog (Builtin.append_ #[95, 95] 95 #[.slice (some ⟨g2, 0, none⟩) ((tx pre).length + k) cap2, .slice (some ⟨wr.heap.size, 0, none⟩) 1 1]) (wr.alloc (.cells #[.int .u8 (foldB p[k]).toNat] 5)).drew).andThen (fun a w' => Result.ok (Next.value a) w') = .ok (.value (.slice (some ⟨g4, 0, none⟩) ((tx pre).length + k + 1) cap4)) w4 := by rw [hrun]; rfl
          simp [go_sem] at hrun2
          gi_upto_region 10 with (fail)
          gi_region_with (first | (refine ⟨trivial, ?_⟩; gi_at_call 42; refine (CallsIn.inRound l ((callsIn_wide (n := 2)).2 (byte_u8 _ _))).mono ?_; rintro e w' ⟨rfl, rfl⟩)| (fail))
          all_goals
            clear hrun hrun2 hc2 hc3 hc5 hf5
            gi_wp2_with fail
            go_roundw
            case rel =>
              refine ⟨k + 1, g4, cap4, by go_num, by omega, H6.out.1, ?_, (HK.out.1.trans (((KeepsOthers.alloc wr _).trans (KeepsOthers.drew _)).trans H6.out.2.2.1)), HK.out.2.trans ((((Below.refl _ wr).alloc (by have := HK.out.2.size; have := hB.size; omega) _).drew).trans H6.out.2.2.2)⟩
              rw [u8s_step _ p k hlt2]
              exact H6.out.2.1
            case measure => simp [intOf]; omega
        · have hkp : k = p.size := by omega
          have Hkp := Lib.hid hkp
          clear hkp
          gi_wp2_with fail
          have e : tx (pre ++ [⟨(p, true), hp⟩]) = tx pre ++ p.data.toList.map foldB := Hts.out
          have e2 : (tx pre).length + k = (tx (pre ++ [⟨(p, true), hp⟩])).length := by rw [e, Hkp.out]; simp
          refine ⟨HK.out.1.from _, trivial, ⟨_, hv2, ?_, g2, cap2, by rw [e2]⟩, hB.trans HK.out.2⟩
          have e3 : (p.data.toList.map foldB).take k = p.data.toList.map foldB := List.take_of_length_le (by rw [Hkp.out]; simp)
          rw [e3] at hrow2
          rw [e] at e2 ⊢
          rw [← e2]
          exact hrow2
end Go.Proofs.Ytfdaeajafmcjcaa
