/- Layer 18: modes.Parse. -/
import Derived.Test.YtbpnaclnninndaaModeC
import Derived.RangeFuncWrites
import Derived.RangeFuncBox
import Derived.Sort.CutIn
import Derived.Stop.RegionWithIn
import Derived.Test.YtbpnaclnninndaaRound
namespace Go.Proofs.Ytbpnaclnninndaa
set_option linter.unusedVariables false
set_option linter.unusedSimpArgs false
open Go.RowKit Go.Shelf
attribute [local go_sem] Oper.semAt_some

/-- what is left of the arguments -/
def ArgsAt (pg po : Nat) (ps : List ByteArray) (a : Nat) (v : Value) : Prop :=
  ∃ g o c, v = .slice (some ⟨g, o, none⟩) (ps.length - a) c ∧ ps.length - a ≤ c ∧ (a < ps.length → g = pg ∧ o = po + a)

/-- where the letters have led -/
def stP (ps : List ByteArray) (pre : List Letter) : PSt := pre.foldl (stepP ps) ([], 1, 0)
theorem stP_snoc (ps : List ByteArray) (pre : List Letter) (x : Letter) : stP ps (pre ++ [x]) = stepP ps (stP ps pre) x := by simp [stP]
theorem stP_bounds (ps : List ByteArray) (h : 0 < ps.length) (pre : List Letter) : (stP ps pre).1.length ≤ pre.length ∧ 1 ≤ (stP ps pre).2.1 ∧ (stP ps pre).2.1 ≤ ps.length ∧ (stP ps pre).2.2 ≤ pre.length := by
  have key : ∀ (l : List Letter) (s : PSt) (k : Nat), (s.1.length ≤ k ∧ 1 ≤ s.2.1 ∧ s.2.1 ≤ ps.length ∧ s.2.2 ≤ k) → ((l.foldl (stepP ps) s).1.length ≤ k + l.length ∧ 1 ≤ (l.foldl (stepP ps) s).2.1 ∧ (l.foldl (stepP ps) s).2.1 ≤ ps.length ∧ (l.foldl (stepP ps) s).2.2 ≤ k + l.length) := by
    intro l
    induction l with
    | nil => intro s k hs; simpa using hs
    | cons x r ih =>
      intro s k hs
      have h2 := ih (stepP ps s x) (k + 1) (by
        obtain ⟨h1, h2, h3, h4⟩ := hs
        unfold stepP
        split
        · split
          · exact ⟨by omega, h2, h3, by omega⟩
          · split
            · refine ⟨by simp; omega, by simp, by simp; omega, by simp; omega⟩
            · split
              · exact ⟨by simp; omega, h2, h3, by simp; omega⟩
              · exact ⟨by omega, h2, h3, by omega⟩
        · exact ⟨by simp; omega, h2, h3, by simp; omega⟩)
      simp only [List.foldl_cons, List.length_cons]
      have e : k + 1 + r.length = k + (r.length + 1) := by omega
      rw [e] at h2
      exact h2
  have := key pre ([], 1, 0) 0 (by simp; omega)
  simpa [stP] using this
theorem holds_own {β : Type} (B : Nat) (t : TypeId) (G : β → Value → Prop) : Own (fun s W => ∃ v, Boxed W B t v ∧ G s v) := fun s X Y row ⟨v, hs, hg⟩ hgr hrow =>
  ⟨v, hs.kept hgr (fun e' => by obtain ⟨o, ho, hc⟩ := hrow B e'.symm; rw [show X.heap[B]? = _ from hs] at ho; cases ho; cases hc), hg⟩

theorem grownBy_setAt (W : World) (b o : Nat) (v : Value) : W.grownBy (W.setCell ⟨b, o, none⟩ v) (some b) :=
  ⟨rfl, rfl, rfl, (KeepsWalks.setCell W _ v).size, fun k _ hk => Below.heap_setCell _ _ _ k (fun e => hk (by rw [e]))⟩
theorem boxed_otherAt {W : World} {B B' : Nat} {t : TypeId} {v : Value} (h : Boxed W B t v) (hne : B ≠ B') (o : Nat) (u : Value) : Boxed (W.setCell ⟨B', o, none⟩ u) B t v :=
  h.kept (grownBy_setAt W B' o u) (fun e => hne (by simpa using e))

theorem below_dn' {B : Nat} {a w : World} (h : Below B a w) (n : Nat) : Below B a (w.drewN n) := ⟨h.os, h.tape, h.output, h.size, h.block⟩
theorem keeps_dn' (W : World) (n : Nat) : KeepsOthers W (W.drewN n) := ⟨Nat.le_refl _, fun _ _ h _ => h⟩

theorem slice_from (g o n c : Nat) (h : 1 ≤ n) (hc : n ≤ c) : ∃ g1 o1, (∀ W, (Instr.slice 22 (.slice (some ⟨g, o, none⟩) n c) (some (.int .i64 1)) none none).run Try.prog W = .ok (.slice (some ⟨g1, o1, none⟩) (n - 1) (c - 1)) W) ∧ (1 < n → g1 = g ∧ o1 = o + 1) := by
  have hu : Try.prog.underlying 22 = some (.slice (Try.prog.elem 22)) := by kernel_rfl
  have hz : (Try.prog.info? (Try.prog.elem 22)).map (·.size) = some 1 := by kernel_rfl
  cases hie : Try.prog.info? (Try.prog.elem 22) with
  | none => rw [hie] at hz; cases hz
  | some ie =>
    rw [hie] at hz
    simp only [Option.map_some, Option.some.injEq] at hz
    by_cases h1 : c = 1
    · subst h1
      refine ⟨g, o, fun W => ?_, fun h2 => by omega⟩
      rw [run_slice_l W 22 _ _ _ hu _ _ (by omega) (by omega)]
      simp [sliced, sizeOf, hie, hz, go_sem]
    · refine ⟨g, o + 1, fun W => ?_, fun h2 => ⟨rfl, rfl⟩⟩
      rw [run_slice_l W 22 _ _ _ hu _ _ (by omega) (by omega)]
      have h3 : ¬ (c - 1 = 0) := by omega
      simp [sliced, sizeOf, hie, hz, go_sem, h1, Addr.add, show Try.t9.size = 1 from rfl]

set_option maxRecDepth 100000 in
set_option maxHeartbeats 4000000 in
theorem parse_v (pg po cap : Nat) (ps : List ByteArray) (w : World) (hl : ps.length ≤ 100000) (hcap : ps.length ≤ cap) (h0 : ∀ h : 0 < ps.length, ps[0].size ≤ 1000000) (hpg : pg < w.heap.size)
    (hp : ∀ j (h : j < ps.length), w.cell? ⟨pg, po + j, none⟩ = some (.string ps[j])) :
    Calls Try.prog 9 #[.slice (some ⟨pg, po, none⟩) ps.length cap] w fun e w' => ∃ v, e = .returned v ∧ w'.ownsRow w.heap.size 29 3 v (parseM ps).length (chL (parseM ps)) ∧ Below w.heap.size w w' ∧ w.heap.size ≤ w'.heap.size := by
  obtain ⟨i0, hi, hz0, hz1, hz2⟩ := info_parts Try.infoChg
  unfold parseM
  by_cases hne : 0 < ps.length
  · have hp0 := h0 hne
    rw [dif_pos hne]
    have hc0 : w.cell? ⟨pg, po, none⟩ = some (.string ps[0]) := hp 0 hne
    have HP := Lib.hid hp
    have hne1 : ((ps.length : Int) == 0) = false := by rw [beq_eq_false_iff_ne]; omega
    clear hp h0
    obtain ⟨g1, o1, hs1, hg1⟩ := slice_from pg po ps.length cap hne hcap
    have HG := Lib.hid hg1
    clear hg1
    have hc3 : ∀ x y z, (((w.alloc x).alloc y).alloc z).cell? ⟨pg, po, none⟩ = some (.string ps[0]) := fun x y z =>
      ((((Below.refl _ w).alloc (Nat.le_refl _) x).alloc (by simp) y).alloc (by simp; omega) z |>.cell (p := ⟨pg, po, none⟩) hpg).trans hc0
    refine (callsIn_wide (n := 5)).1 ?_
    refine callsIn_of_wp_marks Try.func9 rfl trivial ?_ rfl
    simp only [Try.ntmps9, List.size_toArray, List.length_cons, List.length_nil, Nat.reduceAdd, Nat.reduceSub, Array.replicate_succ, Array.replicate_zero, List.push_toArray, List.append_toArray, List.nil_append, List.cons_append]
    gi_wp2
    refine wpIn_scope ?_
    gi_wp2
    refine wpIn_label ?_
    gi_wp2
    refine ⟨trivial, ((callsIn_wide (n := 4)).2 (seq_any _ _)).mono ?_⟩
    rintro e w2 ⟨rfl, hw2⟩
    have bL := (((Boxed.new w 25 (.slice none 0 0)).alloc (.cells #[.slice (some ⟨g1, o1, none⟩) (ps.length - 1) (cap - 1)] 22)).alloc (.cells #[.int .i64 0] 3)).alloc (.cells #[.string ps[0]] 9)
    have bA := ((Boxed.new (w.alloc (.cells #[.slice none 0 0] 25)) 22 (.slice (some ⟨g1, o1, none⟩) (ps.length - 1) (cap - 1))).alloc (.cells #[.int .i64 0] 3)).alloc (.cells #[.string ps[0]] 9)
    have bT := (Boxed.new ((w.alloc (.cells #[.slice none 0 0] 25)).alloc (.cells #[.slice (some ⟨g1, o1, none⟩) (ps.length - 1) (cap - 1)] 22)) 3 (.int .i64 0)).alloc (.cells #[.string ps[0]] 9)
    have bS := Boxed.new (((w.alloc (.cells #[.slice none 0 0] 25)).alloc (.cells #[.slice (some ⟨g1, o1, none⟩) (ps.length - 1) (cap - 1)] 22)).alloc (.cells #[.int .i64 0] 3)) 9 (.string ps[0])
    have hB2 : Below w.heap.size w w2 := by rw [hw2]; exact ((((Below.refl _ w).alloc (Nat.le_refl _) _).alloc (by simp) _).alloc (by simp; omega) _).alloc (by simp; omega) _
    have hsz : w2.heap.size = w.heap.size + 4 := by rw [hw2]; simp
    rw [← hw2] at bL bA bT bS
    simp only [World.size_alloc] at bL bA bT bS
    simp only [World.size_alloc]
    obtain ⟨B, hBd⟩ : ∃ B, B = w.heap.size := ⟨_, rfl⟩
    rw [← hBd] at bL bA bT bS hsz hB2 hpg ⊢
    have HX := Lib.hid (And.intro hw2 hBd)
    clear hw2 hBd hc3
    gi_wp2_with fail
    refine wpIn_rangeFunc_ownG rfl (by omega) (gf := 20) (lb := #[.pointer (some ⟨B + 1 + 1 + 1, 0, none⟩)]) rfl trivial (enters_of Try.func20 (by kernel_rfl) rfl)
      (seq_stops 4 (by omega) (B + 1 + 1 + 1) ps[0] w2 hp0 (by omega) bS.cell) (fun h1 h2 => h2.trans h1) (fun W l o o' hl _ _ _ => World.putObj_heap_other (w := W) (by omega)) (Below.refl _ _) (fun _ => rfl)
      (fun pre W => ((∃ v, Boxed W B 25 v ∧ W.ownsRow B 29 3 v (stP ps pre).1.length (chL (stP ps pre).1) ∧ True) ∧ (∃ v, Boxed W (B + 1) 22 v ∧ ArgsAt pg po ps (stP ps pre).2.1 v) ∧ Boxed W (B + 1 + 1) 3 (.int .i64 (stP ps pre).2.2) ∧ Boxed W (B + 1 + 1 + 1) 9 (.string ps[0])) ∧ Below B w W)
      (fun _ _ _ => False)
      (OwnFrom.and (OwnFrom.and (Own.from (holdsRow_own B B 25 29 3 (fun pre => (stP ps pre).1.length) (fun pre => chL (stP ps pre).1) (fun _ _ => True)) _) (OwnFrom.and (Own.from (holds_own (B + 1) 22 (fun pre v => ArgsAt pg po ps (stP ps pre).2.1 v)) _) (OwnFrom.and (Own.from (boxed_own (B + 1 + 1) 3 (fun pre => .int .i64 (stP ps pre).2.2)) _) (Own.from (boxed_own (B + 1 + 1 + 1) 9 (fun _ => .string ps[0])) _)))) (ownFrom_below (by have := HX.out.2; omega) (by omega)))
      (fun _ _ _ _ _ hs _ _ => hs)
      ⟨⟨⟨_, bL, World.ownsRow_nil _ _ _ _, trivial⟩, ⟨_, bA, _, _, _, rfl, Nat.sub_le_sub_right hcap 1, fun h => HG.out h⟩, bT, bS⟩, hB2⟩
      (fun x => { tmps := #[.slice (some ⟨pg, po, none⟩) ps.length cap, undef, .slice none 0 0, .pointer (some ⟨B, 0, none⟩), .pointer (some ⟨B + 1, 0, none⟩), .pointer (some ⟨B + 1 + 1, 0, none⟩), .int .u8 x.1.toNat, .bool x.2, undef, .slice (some ⟨pg, po, none⟩) ps.length cap, .int .i64 ps.length, .bool false, .slice (some ⟨pg, po, none⟩) ps.length cap, .slice (some ⟨g1, o1, none⟩) (ps.length - 1) (cap - 1), .slice (some ⟨pg, po, none⟩) ps.length cap, .pointer (some ⟨pg, po, none⟩), .string ps[0], .func (.func 20) #[] #[.pointer (some ⟨B + 1 + 1 + 1, 0, none⟩)], .int .u8 x.1.toNat, .bool x.2, undef, undef, undef, undef, undef, undef, undef, undef, undef, undef, undef, undef, undef, undef, undef, undef, undef, undef, undef, undef, undef, undef, undef, undef, undef, undef, undef, undef, undef], defers := [] }) ?assign ?body ?done ?stop
    case assign =>
      intro l x W K hK
      gi_wp2
      exact hK
    case stop =>
      rintro D c pre W _ _ h _
      exact h.elim
    case done =>
      rintro D xs W hD rfl ⟨⟨⟨v, hv, hrow, _⟩, _, _⟩, hB⟩ hK
      have hc := hv.cell
      gi_wp2
      rw [noGoto_ret']
      refine ⟨by simp, .inl ⟨_, _, rfl, run_takeDeferred hK, ?_⟩⟩
      refine ⟨_, results_tmp rfl _ _ _, v, rfl, ownsRow_putObj (HX.out.2 ▸ hrow) _ hK rfl, ?_, ?_⟩
      · have := hB.trans (belowK_b (w := w2) (n₀ := B) (by omega) W D _ (.deferred none) (by omega) hK rfl rfl)
        rw [HX.out.2] at this
        exact this
      · have := hB.size
        rw [World.putObj_size]
        have := HX.out.2
        omega
    case body =>
      rintro l pre ⟨c, o⟩ W ⟨⟨⟨v, hv, hrow, _⟩, ⟨va, hva, hav⟩, hvt, hvs⟩, hB⟩ hlt
      have hbd := stP_bounds ps hne pre
      have hsn := stP_snoc ps pre (c, o)
      obtain ⟨⟨out, a, n⟩, hst⟩ : ∃ s, stP ps pre = s := ⟨_, rfl⟩
      rw [hst] at hrow hav hvt hbd hsn
      simp only at hrow hav hvt hbd
      have HS := Lib.hid hsn
      have HA := Lib.hid hav
      have HB := Lib.hid hbd
      have ht : ∀ W, Calls Try.prog 10 #[.int .u8 ↑c.toNat, .bool o] W fun e w' => e = .returned (.bool (takesB c o)) ∧ W = w' := fun W => takes_b _ _ W
      clear hsn hst hav hbd
      cases htk : takesB c o
      · rw [htk] at ht
        have HT := Lib.hid htk
        clear htk
        have hBW : B ≤ W.heap.size := by have := hB.size; have := HX.out.2; omega
        have hcs := cells_new (W.alloc (.cells #[.bool o, .int .u8 c.toNat, .string ⟨#[]⟩] 29)) #[.bool o, .int .u8 c.toNat, .string ⟨#[]⟩] 29
        rw [World.size_alloc] at hcs
        have hc0 := (hv.alloc (.cells #[.bool o, .int .u8 c.toNat, .string ⟨#[]⟩] 29)).cell
        gi_wp2_with (first | (refine ⟨trivial, ?_⟩; gi_at_call 10; refine (CallsIn.inRound l ((callsIn_wide (n := 2)).2 (ht _))).mono ?_; rintro e w' ⟨rfl, rfl⟩) | (gi_at_builtin; refine wpListIn_append_own _ rfl _ _ 25 rfl B 29 i0 _ 3 24 Try.underlying25 hi hz0 hz1 hz2 rfl (by decide) _ _ _ rfl ((hrow.alloc _).alloc _) ⟨W.heap.size + 1, 0, none⟩ 1 1 [.bool o, .int .u8 c.toNat, .string ⟨#[]⟩] rfl rfl hcs (by intro u hu; simp at hu; rcases hu with rfl | rfl | rfl <;> rfl) (by have := HB.out; unfold maxLen; omega) (by have := HB.out; omega) (by simp; omega) ?_; intro v1 w3 hown3 hgrow3 _; obtain ⟨g3, cap3, rfl⟩ := ownsRow_succ hown3; obtain ⟨hv1, hv2, hr2, hk2, hb2⟩ := Boxed.appended (hv.alloc _) (by decide) (hrow.alloc _) (by simp; omega) (Nat.le_refl _) hown3 hgrow3; have hc1 := hv1.cell; have hf1 := hv1.frozen))
        have hva3 := (((hva.alloc (.cells #[.bool o, .int .u8 c.toNat, .string ⟨#[]⟩] 29)).alloc (.cells #[.bool o, .int .u8 c.toNat, .string ⟨#[]⟩] 29)).kept hgrow3 (hva.not_row (by decide) hrow)).other (B' := B) (by omega) (.slice (some ⟨g3, 0, none⟩) (out.length + 1) cap3)
        have hvt3 := (((hvt.alloc (.cells #[.bool o, .int .u8 c.toNat, .string ⟨#[]⟩] 29)).alloc (.cells #[.bool o, .int .u8 c.toNat, .string ⟨#[]⟩] 29)).kept hgrow3 (hvt.not_row (by decide) hrow)).other (B' := B) (by omega) (.slice (some ⟨g3, 0, none⟩) (out.length + 1) cap3)
        have hvs3 := (((hvs.alloc (.cells #[.bool o, .int .u8 c.toNat, .string ⟨#[]⟩] 29)).alloc (.cells #[.bool o, .int .u8 c.toNat, .string ⟨#[]⟩] 29)).kept hgrow3 (hvs.not_row (by decide) hrow)).other (B' := B) (by omega) (.slice (some ⟨g3, 0, none⟩) (out.length + 1) cap3)
        have he : stP ps (pre ++ [(c, o)]) = (out ++ [(o, c, noArg)], a, n) := by rw [HS.out, stepP_no HT.out]
        refine ⟨((KeepsOthers.alloc W _).trans hk2).from _, hvs3.trans hvs.symm, ⟨⟨_, hv2, ?_, trivial⟩, ⟨va, hva3, ?_⟩, ?_, hvs3⟩, hB.trans (((Below.refl _ W).alloc hBW _).trans hb2)⟩
        · rw [he, chL_snoc]
          simpa [noArg] using hr2
        · rw [he]; exact HA.out
        · rw [he]; exact hvt3
      · rw [htk] at ht
        have HT := Lib.hid htk
        clear htk
        have hBW : B ≤ W.heap.size := by have := hB.size; have := HX.out.2; omega
        have hct := (hvt.alloc (.cells #[.bool o, .int .u8 c.toNat, .string ⟨#[]⟩] 29)).cell
        by_cases hn4 : n = 4
        · subst hn4
          gi_wp2_with (first | (refine ⟨trivial, ?_⟩; gi_at_call 10; refine (CallsIn.inRound l ((callsIn_wide (n := 2)).2 (ht _))).mono ?_; rintro e w' ⟨rfl, rfl⟩))
          have he : stP ps (pre ++ [(c, o)]) = (out, a, 4) := by rw [HS.out, stepP_full HT.out]
          refine ⟨(KeepsOthers.alloc W _).from _, (hvs.alloc (.cells #[.bool o, .int .u8 c.toNat, .string ⟨#[]⟩] 29)).trans hvs.symm, ⟨⟨_, hv.alloc _, ?_, trivial⟩, ⟨_, hva.alloc _, ?_⟩, ?_, hvs.alloc _⟩, hB.trans ((Below.refl _ W).alloc hBW _)⟩
          · rw [he]; exact hrow.alloc _
          · rw [he]; exact HA.out
          · rw [he]; exact hvt.alloc _
        · have q1 : ((n : Int) == 4) = false := by rw [beq_eq_false_iff_ne]; omega
          obtain ⟨ga, oa, ca, rfl, hca, hga⟩ := HA.out
          have hcva := (hva.alloc (.cells #[.bool o, .int .u8 c.toNat, .string ⟨#[]⟩] 29)).cell
          by_cases hal : a < ps.length
          · have hnle : n ≤ 1000000 := by have := HB.out; omega
            obtain ⟨rfl, rfl⟩ := hga hal
            obtain ⟨g2, o2, hs2, hg2⟩ := slice_from ga (po + a) (ps.length - a) ca (by omega) hca
            have HG2 := Lib.hid hg2
            clear hg2 hga
            have q4 : 0 < ps.length - a := by omega
            have q5 : ((ps.length - a : Nat) : Int) > 0 := by omega
            have hcp : (W.alloc (.cells #[.bool o, .int .u8 c.toNat, .string ⟨#[]⟩] 29)).cell? ⟨ga, po + a, none⟩ = some (.string ps[a]) := by
              rw [(hB.trans ((Below.refl _ W).alloc hBW (.cells #[.bool o, .int .u8 c.toNat, .string ⟨#[]⟩] 29))).cell (p := ⟨ga, po + a, none⟩) hpg]; exact HP.out a hal
            have hfa := (hva.alloc (.cells #[.bool o, .int .u8 c.toNat, .string ⟨#[]⟩] 29)).frozen
            have hca1 := (hva.alloc (.cells #[.bool o, .int .u8 c.toNat, .string ⟨#[]⟩] 29)).cell
            gi_upto_region 12 with (first | (refine ⟨trivial, ?_⟩; gi_at_call 10; refine (CallsIn.inRound l ((callsIn_wide (n := 2)).2 (ht _))).mono ?_; rintro e w' ⟨rfl, rfl⟩))
            clear hcva hct
            have v1 : Boxed ((W.alloc (.cells #[.bool o, .int .u8 c.toNat, .string ⟨#[]⟩] 29)).drew) _ _ _ := hv.alloc (.cells #[.bool o, .int .u8 c.toNat, .string ⟨#[]⟩] 29)
            have a1 : Boxed ((W.alloc (.cells #[.bool o, .int .u8 c.toNat, .string ⟨#[]⟩] 29)).drew) _ _ _ := hva.alloc (.cells #[.bool o, .int .u8 c.toNat, .string ⟨#[]⟩] 29)
            have t1 : Boxed ((W.alloc (.cells #[.bool o, .int .u8 c.toNat, .string ⟨#[]⟩] 29)).drew) _ _ _ := hvt.alloc (.cells #[.bool o, .int .u8 c.toNat, .string ⟨#[]⟩] 29)
            have s1 : Boxed ((W.alloc (.cells #[.bool o, .int .u8 c.toNat, .string ⟨#[]⟩] 29)).drew) _ _ _ := hvs.alloc (.cells #[.bool o, .int .u8 c.toNat, .string ⟨#[]⟩] 29)
            have r1 : ((W.alloc (.cells #[.bool o, .int .u8 c.toNat, .string ⟨#[]⟩] 29)).drew).ownsRow _ _ _ _ _ _ := hrow.alloc (.cells #[.bool o, .int .u8 c.toNat, .string ⟨#[]⟩] 29)
            have c1 : ((W.alloc (.cells #[.bool o, .int .u8 c.toNat, .string ⟨#[]⟩] 29)).drew).heap[W.heap.size]? = some (.cells #[.bool o, .int .u8 c.toNat, .string ⟨#[]⟩] 29 (0, 0)) := World.alloc_heap_new W _
            have z1 : ((W.alloc (.cells #[.bool o, .int .u8 c.toNat, .string ⟨#[]⟩] 29)).drew).heap.size = W.heap.size + 1 := World.size_alloc W _
            have b1 : Below B W ((W.alloc (.cells #[.bool o, .int .u8 c.toNat, .string ⟨#[]⟩] 29)).drew) := ((Below.refl _ W).alloc hBW _).drew
            have k1 : KeepsOthers W ((W.alloc (.cells #[.bool o, .int .u8 c.toNat, .string ⟨#[]⟩] 29)).drew) := (KeepsOthers.alloc W (.cells #[.bool o, .int .u8 c.toNat, .string ⟨#[]⟩] 29)).trans (keeps_dn' _ 1)
            obtain ⟨W1, hW1⟩ : ∃ W1, (W.alloc (.cells #[.bool o, .int .u8 c.toNat, .string ⟨#[]⟩] 29)).drew = W1 := ⟨_, rfl⟩
            rw [hW1] at v1 a1 t1 s1 r1 c1 z1 b1 k1
            have lv := hv.lt; have la := hva.lt; have lt := hvt.lt; have ls := hvs.lt
            have hnb : ¬ W.heap.size = B + 1 := by omega
            have rn : v.ownBlock ≠ some W.heap.size := fun e => by have := (hrow.lt _ e).2; omega
            have ra : v.ownBlock ≠ some (B + 1) := (hva.not_row (by decide) hrow).symm
            have rt : v.ownBlock ≠ some (B + 1 + 1) := (hvt.not_row (by decide) hrow).symm
            have pN : W1.cell? ⟨ga, po + a, none⟩ = some (.string ps[a]) := ((hB.trans b1).cell (p := ⟨ga, po + a, none⟩) hpg).trans (HP.out a hal)
            have ga1 := a1.cell
            have cN := cell_of_row W1 W.heap.size 2 _ _ _ c1
            have fN := frozen_of_row W1 W.heap.size 2 _ _ c1
            have v2 := boxed_otherAt v1 (B' := W.heap.size) (by omega) 2 (.string ps[a])
            have a2 := boxed_otherAt a1 (B' := W.heap.size) (by omega) 2 (.string ps[a])
            have t2 := boxed_otherAt t1 (B' := W.heap.size) (by omega) 2 (.string ps[a])
            have s2 := boxed_otherAt s1 (B' := W.heap.size) (by omega) 2 (.string ps[a])
            have r2 := r1.kept (grownBy_setAt W1 W.heap.size 2 (.string ps[a])) (.inr rn)
            have c2 := heap_setCell_same W1 W.heap.size 2 _ _ (.string ps[a]) c1
            have b2 := b1.setCell (p := ⟨W.heap.size, 2, none⟩) hBW (.string ps[a])
            have k2 := k1.trans (KeepsOthers.setCell W1 ⟨W.heap.size, 2, none⟩ (.string ps[a]))
            have z2 : (W1.setCell ⟨W.heap.size, 2, none⟩ (.string ps[a])).heap.size = W.heap.size + 1 := by simpa [World.setCell] using z1
            obtain ⟨W2, hW2⟩ : ∃ W2, W1.setCell ⟨W.heap.size, 2, none⟩ (.string ps[a]) = W2 := ⟨_, rfl⟩
            rw [hW2] at v2 a2 t2 s2 r2 c2 b2 k2 z2
            have v3 := boxed_otherAt v2 (B' := B + 1) (by omega) 0 (.slice (some ⟨g2, o2, none⟩) (ps.length - a - 1) (ca - 1))
            have a3 := a2.set (.slice (some ⟨g2, o2, none⟩) (ps.length - a - 1) (ca - 1))
            have t3 := boxed_otherAt t2 (B' := B + 1) (by omega) 0 (.slice (some ⟨g2, o2, none⟩) (ps.length - a - 1) (ca - 1))
            have s3 := boxed_otherAt s2 (B' := B + 1) (by omega) 0 (.slice (some ⟨g2, o2, none⟩) (ps.length - a - 1) (ca - 1))
            have r3 := r2.kept (grownBy_setAt W2 (B + 1) 0 (.slice (some ⟨g2, o2, none⟩) (ps.length - a - 1) (ca - 1))) (.inr ra)
            have c3 := (heap_setCell_other W2 ⟨B + 1, 0, none⟩ W.heap.size (.slice (some ⟨g2, o2, none⟩) (ps.length - a - 1) (ca - 1)) hnb).trans c2
            have b3 := b2.setCell (p := ⟨B + 1, 0, none⟩) (show B ≤ B + 1 by omega) (.slice (some ⟨g2, o2, none⟩) (ps.length - a - 1) (ca - 1))
            have k3 := k2.trans (KeepsOthers.setCell W2 ⟨B + 1, 0, none⟩ (.slice (some ⟨g2, o2, none⟩) (ps.length - a - 1) (ca - 1)))
            have z3 : (W2.setCell ⟨B + 1, 0, none⟩ (.slice (some ⟨g2, o2, none⟩) (ps.length - a - 1) (ca - 1))).heap.size = W.heap.size + 1 := by simpa [World.setCell] using z2
            obtain ⟨W3, hW3⟩ : ∃ W3, W2.setCell ⟨B + 1, 0, none⟩ (.slice (some ⟨g2, o2, none⟩) (ps.length - a - 1) (ca - 1)) = W3 := ⟨_, rfl⟩
            rw [hW3] at v3 a3 t3 s3 r3 c3 b3 k3 z3
            have v4 := boxed_otherAt v3 (B' := B + 1 + 1) (by omega) 0 (.int .i64 (n + 1))
            have a4 := boxed_otherAt a3 (B' := B + 1 + 1) (by omega) 0 (.int .i64 (n + 1))
            have t4 := t3.set (.int .i64 (n + 1))
            have s4 := boxed_otherAt s3 (B' := B + 1 + 1) (by omega) 0 (.int .i64 (n + 1))
            have r4 := r3.kept (grownBy_setAt W3 (B + 1 + 1) 0 (.int .i64 (n + 1))) (.inr rt)
            have c4 := (heap_setCell_other W3 ⟨B + 1 + 1, 0, none⟩ W.heap.size (.int .i64 (n + 1)) (by simp; omega)).trans c3
            have b4 := b3.setCell (p := ⟨B + 1 + 1, 0, none⟩) (show B ≤ B + 1 + 1 by omega) (.int .i64 (n + 1))
            have k4 := k3.trans (KeepsOthers.setCell W3 ⟨B + 1 + 1, 0, none⟩ (.int .i64 (n + 1)))
            have z4 : (W3.setCell ⟨B + 1 + 1, 0, none⟩ (.int .i64 (n + 1))).heap.size = W.heap.size + 1 := by simpa [World.setCell] using z3
            obtain ⟨W4, hW4⟩ : ∃ W4, W3.setCell ⟨B + 1 + 1, 0, none⟩ (.int .i64 (n + 1)) = W4 := ⟨_, rfl⟩
            rw [hW4] at v4 a4 t4 s4 r4 c4 b4 k4 z4
            have d0 := cell_of_row W4 W.heap.size 0 _ _ _ c4
            have d1 := cell_of_row W4 W.heap.size 1 _ _ _ c4
            have d2 := cell_of_row W4 W.heap.size 2 _ _ _ c4
            have ea := a2.cell; have fa := a2.frozen; have et := t3.cell; have ft := t3.frozen; have ev := v4.cell
            have hcs := cells_new W4 #[.bool o, .int .u8 c.toNat, .string ps[a]] 29
            rw [z4] at hcs
            simp at cN d0 d1 d2
            have Z := Lib.hid (And.intro z1 (And.intro z2 z3))
            clear z1 z2 z3 c1 c2 c3 c4
            gi_region_with (fail)
            all_goals
              gi_wp2_with (first | (gi_at_builtin; refine wpListIn_append_own _ rfl _ _ 25 rfl B 29 i0 _ 3 24 Try.underlying25 hi hz0 hz1 hz2 rfl (by decide) _ _ _ rfl (r4.alloc _) ⟨W.heap.size + 1, 0, none⟩ 1 1 [.bool o, .int .u8 c.toNat, .string ps[a]] rfl rfl hcs (by intro u hu; simp at hu; rcases hu with rfl | rfl | rfl <;> rfl) (by have := HB.out; unfold maxLen; omega) (by have := HB.out; omega) (by rw [World.size_alloc]; omega) ?_; intro v1 w3 hown3 hgrow3 _; obtain ⟨g3, cap3, rfl⟩ := ownsRow_succ hown3; obtain ⟨hv3, hv4, hr2, hk2, hb2⟩ := Boxed.appended v4 (by decide) r4 (by omega) (Nat.le_refl _) hown3 hgrow3; have hc1 := hv3.cell; have hf1 := hv3.frozen))
              have hva3 := ((a4.alloc (.cells #[.bool o, .int .u8 c.toNat, .string ps[a]] 29)).kept hgrow3 (a4.not_row (by decide) r4)).other (B' := B) (by omega) (.slice (some ⟨g3, 0, none⟩) (out.length + 1) cap3)
              have hvt3 := ((t4.alloc (.cells #[.bool o, .int .u8 c.toNat, .string ps[a]] 29)).kept hgrow3 (t4.not_row (by decide) r4)).other (B' := B) (by omega) (.slice (some ⟨g3, 0, none⟩) (out.length + 1) cap3)
              have hvs3 := ((s4.alloc (.cells #[.bool o, .int .u8 c.toNat, .string ps[a]] 29)).kept hgrow3 (s4.not_row (by decide) r4)).other (B' := B) (by omega) (.slice (some ⟨g3, 0, none⟩) (out.length + 1) cap3)
              have he : stP ps (pre ++ [(c, o)]) = (out ++ [(o, c, ps[a])], a + 1, n + 1) := by rw [HS.out, stepP_arg HT.out hn4 hal]
              have hq : (w3.setCell ⟨B, 0, none⟩ (.slice (some ⟨g3, 0, none⟩) (out.length + 1) cap3)).ownsRow B 29 3 (.slice (some ⟨g3, 0, none⟩) (out.length + 1) cap3) (stP ps (pre ++ [(c, o)])).1.length (chL (stP ps (pre ++ [(c, o)])).1) := by
                rw [he, chL_snoc]; simpa using hr2
              have hA' : ArgsAt ga po ps (stP ps (pre ++ [(c, o)])).2.1 (.slice (some ⟨g2, o2, none⟩) (ps.length - a - 1) (ca - 1)) := by
                rw [he]
                show ArgsAt ga po ps (a + 1) _
                exact ⟨g2, o2, ca - 1, by rw [Nat.sub_sub], by omega, fun h => by have := HG2.out (by omega); exact ⟨this.1, by rw [this.2]; omega⟩⟩
              refine ⟨(k4.trans hk2).from _, hvs3.trans hvs.symm, ⟨⟨_, hv4, ?_⟩, ⟨_, hva3, hA'⟩, ?_, hvs3⟩, hB.trans (b4.trans hb2)⟩
              · first | exact hq | exact ⟨hq, trivial⟩
              · rw [he]; simpa using hvt3
          · have q2 : ¬ (((ps.length - a : Nat) : Int) > 0) := by omega
            by_cases h98 : c = 98
            · have hnle : n ≤ 1000000 := by have := HB.out; omega
              have q4 : ¬ (0 < ps.length - a) := by omega
              have q3 : ((c.toNat : Int) != 98) = false := by rw [h98]; rfl
              have H98 := Lib.hid h98
              clear h98
              have hnb : ¬ W.heap.size = B + 1 + 1 := by have h := hvt.lt; omega
              have hnb2 : ¬ B + 1 + 1 = W.heap.size := by omega
              have hv2 := (hv.alloc (.cells #[.bool o, .int .u8 c.toNat, .string ⟨#[]⟩] 29)).other (B' := B + 1 + 1) (by omega) (.int .i64 (n + 1))
              have hvt2 := (hvt.alloc (.cells #[.bool o, .int .u8 c.toNat, .string ⟨#[]⟩] 29)).set (.int .i64 (n + 1))
              have hva2 := (hva.alloc (.cells #[.bool o, .int .u8 c.toNat, .string ⟨#[]⟩] 29)).other (B' := B + 1 + 1) (by omega) (.int .i64 (n + 1))
              have hvs2 := (hvs.alloc (.cells #[.bool o, .int .u8 c.toNat, .string ⟨#[]⟩] 29)).other (B' := B + 1 + 1) (by omega) (.int .i64 (n + 1))
              have hrow2 := (hrow.alloc (.cells #[.bool o, .int .u8 c.toNat, .string ⟨#[]⟩] 29)).kept (grownBy_setCell' _ (B + 1 + 1) (.int .i64 (n + 1))) (.inr ((hvt.alloc (.cells #[.bool o, .int .u8 c.toNat, .string ⟨#[]⟩] 29)).not_row (by decide) (hrow.alloc (.cells #[.bool o, .int .u8 c.toNat, .string ⟨#[]⟩] 29))).symm)
              have hB3 : Below B W ((W.alloc (.cells #[.bool o, .int .u8 c.toNat, .string ⟨#[]⟩] 29)).setCell ⟨B + 1 + 1, 0, none⟩ (.int .i64 (n + 1))) := ((Below.refl _ W).alloc hBW _).setCell (p := ⟨B + 1 + 1, 0, none⟩) (show B ≤ B + 1 + 1 by omega) _
              have hKO : KeepsOthers W ((W.alloc (.cells #[.bool o, .int .u8 c.toNat, .string ⟨#[]⟩] 29)).setCell ⟨B + 1 + 1, 0, none⟩ (.int .i64 (n + 1))) := (KeepsOthers.alloc W (.cells #[.bool o, .int .u8 c.toNat, .string ⟨#[]⟩] 29)).trans (KeepsOthers.setCell _ _ _)
              have hs2 : ((W.alloc (.cells #[.bool o, .int .u8 c.toNat, .string ⟨#[]⟩] 29)).setCell ⟨B + 1 + 1, 0, none⟩ (.int .i64 (n + 1))).heap.size = W.heap.size + 1 := by simp [World.setCell]
              obtain ⟨W2, hW2⟩ : ∃ W2, (W.alloc (.cells #[.bool o, .int .u8 c.toNat, .string ⟨#[]⟩] 29)).setCell ⟨B + 1 + 1, 0, none⟩ (.int .i64 (n + 1)) = W2 := ⟨_, rfl⟩
              have hcc : W2.cell? ⟨W.heap.size, 0, none⟩ = some (.bool o) ∧ W2.cell? ⟨W.heap.size, 1, none⟩ = some (.int .u8 c.toNat) ∧ W2.cell? ⟨W.heap.size, 2, none⟩ = some (.string ⟨#[]⟩) := by
                have hb : W2.heap[W.heap.size]? = some (.cells #[.bool o, .int .u8 c.toNat, .string ⟨#[]⟩] 29) := by
                  rw [← hW2]
                  exact (Below.heap_setCell _ _ _ _ (by simpa using hnb)).trans (World.alloc_heap_new W _)
                simp [World.cell?, hb]
              obtain ⟨hcc0, hcc1, hcc2⟩ := hcc
              have hf := (hvt.alloc (.cells #[.bool o, .int .u8 c.toNat, .string ⟨#[]⟩] 29)).frozen
              have hcs := cells_new W2 #[.bool o, .int .u8 c.toNat, .string ⟨#[]⟩] 29
              rw [hW2] at hv2 hvt2 hva2 hvs2 hrow2 hB3 hKO hs2
              rw [hs2] at hcs
              have hc0 := hv2.cell
              gi_wp2_with (first | (refine ⟨trivial, ?_⟩; gi_at_call 10; refine (CallsIn.inRound l ((callsIn_wide (n := 2)).2 (ht _))).mono ?_; rintro e w' ⟨rfl, rfl⟩) | (gi_at_builtin; refine wpListIn_append_own _ rfl _ _ 25 rfl B 29 i0 _ 3 24 Try.underlying25 hi hz0 hz1 hz2 rfl (by decide) _ _ _ rfl (hrow2.alloc _) ⟨W.heap.size + 1, 0, none⟩ 1 1 [.bool o, .int .u8 c.toNat, .string ⟨#[]⟩] rfl rfl hcs (by intro u hu; simp at hu; rcases hu with rfl | rfl | rfl <;> rfl) (by have := HB.out; unfold maxLen; omega) (by have := HB.out; omega) (by rw [World.size_alloc]; omega) ?_; intro v1 w3 hown3 hgrow3 _; obtain ⟨g3, cap3, rfl⟩ := ownsRow_succ hown3; obtain ⟨hv3, hv4, hr2, hk2, hb2⟩ := Boxed.appended hv2 (by decide) hrow2 (by omega) (Nat.le_refl _) hown3 hgrow3; have hc1 := hv3.cell; have hf1 := hv3.frozen))
              have hva3 := ((hva2.alloc (.cells #[.bool o, .int .u8 c.toNat, .string ⟨#[]⟩] 29)).kept hgrow3 (hva2.not_row (by decide) hrow2)).other (B' := B) (by omega) (.slice (some ⟨g3, 0, none⟩) (out.length + 1) cap3)
              have hvt3 := ((hvt2.alloc (.cells #[.bool o, .int .u8 c.toNat, .string ⟨#[]⟩] 29)).kept hgrow3 (hvt2.not_row (by decide) hrow2)).other (B' := B) (by omega) (.slice (some ⟨g3, 0, none⟩) (out.length + 1) cap3)
              have hvs3 := ((hvs2.alloc (.cells #[.bool o, .int .u8 c.toNat, .string ⟨#[]⟩] 29)).kept hgrow3 (hvs2.not_row (by decide) hrow2)).other (B' := B) (by omega) (.slice (some ⟨g3, 0, none⟩) (out.length + 1) cap3)
              have he : stP ps (pre ++ [(c, o)]) = (out ++ [(o, c, noArg)], a, n + 1) := by
                have h8 := H98.out; have ht8 := HT.out
                rw [HS.out]; subst h8; exact stepP_list ht8 hn4 hal
              refine ⟨(hKO.trans hk2).from _, hvs3.trans hvs.symm, ⟨⟨_, hv4, ?_, trivial⟩, ⟨_, hva3, ?_⟩, ?_, hvs3⟩, hB.trans (hB3.trans hb2)⟩
              · rw [he, chL_snoc]; simpa [noArg] using hr2
              · rw [he]; exact HA.out
              · rw [he]; simpa using hvt3
            · have q3 : ((c.toNat : Int) != 98) = true := by
                rw [bne_iff_ne]; intro e; exact h98 (UInt8.toNat_inj.mp (by have : (98 : UInt8).toNat = 98 := rfl; omega))
              gi_wp2_with (first | (refine ⟨trivial, ?_⟩; gi_at_call 10; refine (CallsIn.inRound l ((callsIn_wide (n := 2)).2 (ht _))).mono ?_; rintro e w' ⟨rfl, rfl⟩))
              have he : stP ps (pre ++ [(c, o)]) = (out, a, n) := by rw [HS.out, stepP_drop HT.out hn4 hal h98]
              refine ⟨(KeepsOthers.alloc W _).from _, (hvs.alloc (.cells #[.bool o, .int .u8 c.toNat, .string ⟨#[]⟩] 29)).trans hvs.symm, ⟨⟨_, hv.alloc _, ?_, trivial⟩, ⟨_, hva.alloc _, ?_⟩, ?_, hvs.alloc _⟩, hB.trans ((Below.refl _ W).alloc hBW _)⟩
              · rw [he]; exact hrow.alloc _
              · rw [he]; exact HA.out
              · rw [he]; exact hvt.alloc _
  · have hn0 : ps.length = 0 := by omega
    rw [dif_neg hne]
    rw [hn0]
    refine (callsIn_wide (n := 5)).1 ?_
    refine callsIn_of_wp Try.func9 rfl trivial ?_ rfl
    simp only [Try.ntmps9, List.size_toArray, List.length_cons, List.length_nil, Nat.reduceAdd, Nat.reduceSub, Array.replicate_succ, Array.replicate_zero, List.push_toArray, List.append_toArray, List.nil_append, List.cons_append]
    gi_wp2
    refine wpIn_scope ?_
    gi_wp2
    rw [noGoto_ret']
    refine bodyPost_ret (results_tmp rfl _ _ _) rfl ?_
    exact ⟨_, rfl, World.ownsRow_nil _ _ _ _, Below.refl _ _, Nat.le_refl _⟩
end Go.Proofs.Ytbpnaclnninndaa
