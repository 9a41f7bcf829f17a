/- Layer 10: slices.Values and Without, in words of what is owned; the law's told; the document's All. -/
import Derived.Test.YteiiaocohpbanaaTellsF
import Derived.Test.YteiiaocohpbanaaSetU
namespace Go.Proofs.Yteiiaocohpbanaa
set_option linter.unusedVariables false
set_option linter.unusedSimpArgs false
open Go Go.RowKit Go.Lib Go.Sort Go.Shelf
attribute [local go_sem] Oper.semAt_some

set_option maxRecDepth 100000 in
set_option maxHeartbeats 4000000 in
theorem values_seqF (base B : Nat) (v : Value) (xs : List Int) (w : World) (hxs : xs.length ≤ 1000000) (hb : w.heap[B]? = some (.cells #[v] 26 (0, 0))) (hr : OwnI base w v xs) :
    SeqF Try.prog 33 #[.pointer (some ⟨B, 0, none⟩)] encI (rowY B v) xs w := fun l J Jx X V hs hYl hX hJ hJx hY h0 => by
  have hbV := (hs B (.inl rfl)).trans hb
  have hrV : OwnI base V v xs := own_kept hr fun g hg => hs g (.inr hg)
  obtain ⟨A, c, rfl⟩ := row_slice hr
  have c0 : V.cell? ⟨B, 0, none⟩ = some (.slice A xs.length c) := (blk_cell hbV 0).trans rfl
  have HR := Lib.hid (reads_own hrV)
  have HO := Lib.hid hrV
  have HY := Lib.hid hY
  have HX := Lib.hid hX
  have h00 : Hid (∃ X1, GrowX X X1 V V ∧ Fr X V V ∧ J [] X1 V) := ⟨X, GrowX.refl fun k hk => (hX k hk).1, Fr.refl _ _, h0⟩
  clear hb hr hs hrV hbV hY hX h0 hJ hJx hYl
  refine (callsIn_wide (n := 20)).1 ?_
  refine callsIn_of_wp Try.func33 rfl trivial ?_ rfl
  simp only [Try.ntmps33, List.size_toArray, List.length_cons, List.length_nil, Nat.reduceAdd, Nat.reduceSub, Array.replicate_succ, Array.replicate_zero, List.push_toArray, List.append_toArray, List.nil_append, List.cons_append]
  gi_wp2
  gi_loopw [7] (fun c1 wr => ∃ k : Nat, c1 = .int .i64 k ∧ k ≤ xs.length ∧ Hid (∃ X1, GrowX X X1 V wr ∧ Fr X V wr ∧ J (xs.take k) X1 wr)) (fun c1 _ => xs.length - (intOf c1).toNat)
  case atStart => exact ⟨0, rfl, Nat.zero_le _, h00⟩
  case round =>
    obtain ⟨k, rfl, hk, HJ⟩ := hrel
    clear h00
    obtain ⟨X1, hg1, hf1, hj1⟩ := HJ.out
    by_cases hlt : k < xs.length
    · obtain ⟨g, o, rfl, hg, hcell⟩ := HR.out (by omega)
      obtain ⟨x, hx⟩ : ∃ x, xs[k] = x := ⟨_, rfl⟩
      have hgY : rowY B (.slice (some ⟨g, o, none⟩) xs.length c) g := by
        rcases HO.out.2 with ⟨e, _⟩ | ⟨g2, cap, cur, e, _⟩
        · cases e
        · cases e; exact .inr rfl
      have e0 : wr.cell? ⟨g, o + k, none⟩ = some (.int .i64 x) := by
        rw [hf1.cell (p := ⟨g, o + k, none⟩) hg (fun e => (HX.out g e).2 hgY), hcell k hlt, hx]
      have hsp : xs.take k ++ x :: xs.drop (k + 1) = xs := by rw [← hx, ← List.drop_eq_getElem_cons hlt]; exact List.take_append_drop k xs
      have htk : xs.take (k + 1) = xs.take k ++ [x] := by rw [List.take_succ_eq_append_getElem hlt, hx]
      have hyy := HY.out (xs.take k) x (xs.drop (k + 1)) X1 wr hsp hg1 hj1 hf1
      obtain ⟨fn, tmps, assign, body, hy, hR⟩ := hyy
      dsimp only [encI] at hy
      have HT := Lib.hid (And.intro htk (And.intro hsp (And.intro hg1 hf1)))
      clear hx htk hsp hg hcell hg1 hf1 hj1 hgY
      gi_wp2_with fail
      refine (round_wide (.inl rfl) hR).mono ?_
      rintro e W3 ⟨X2, g2, f2, (⟨rfl, hJ3⟩ | ⟨rfl, hJx3⟩)⟩
      · obtain ⟨htk, hsp, hg1, hf1⟩ := HT.out
        have hN : Hid (∃ X1, GrowX X X1 V W3 ∧ Fr X V W3 ∧ J (xs.take (k + 1)) X1 W3) := ⟨X2, hg1.trans g2 hf1.size, hf1.trans3 f2 fun k hk e => (hg1 k e).2 hk, by rw [htk]; exact hJ3⟩
        clear htk hsp hg1 hf1 g2 f2 hJ3 hR hy
        gi_wp2_with fail
        go_roundw
        case rel => exact ⟨k + 1, by go_num, by omega, hN⟩
        case measure => simp [intOf]; omega
      · clear hR hy
        gi_wp2_with fail
        refine bodyPost_ret (results_none rfl _ _ _) rfl ?_
        obtain ⟨htk, hsp, hg1, hf1⟩ := HT.out
        exact ⟨⟨_, rfl⟩, X2, hg1.trans g2 hf1.size, hf1.trans3 f2 fun k hk e => (hg1 k e).2 hk, .inr ⟨_, xs.drop (k + 1), by simpa using hsp, hJx3⟩⟩
    · obtain rfl : k = xs.length := by omega
      rw [List.take_length] at hj1
      have HQ := Lib.hid (And.intro hg1 (And.intro hf1 hj1))
      clear hg1 hf1 hj1
      gi_wp2_with fail
      go_end0
      obtain ⟨hg1, hf1, hj1⟩ := HQ.out
      exact ⟨⟨_, rfl⟩, X1, hg1, hf1, .inl hj1⟩
theorem tellsF_tale {base : Nat} {w : World} {F : Value} {xs : List Int} (h : TaleAt base w F xs) (hl : xs.length ≤ 1000000) : ∃ Y, (∀ b, Y b → base ≤ b) ∧ TellsF Try.prog encI w F Y xs := by
  obtain ⟨B, v, h1, rfl, h3, h4, h5⟩ := h
  refine ⟨rowY B v, fun b hb => ?_, _, _, rfl, values_seqF base B v xs w hl h3 h5, fun b hb => ?_, enters_of Try.func33 (by kernel_rfl) rfl⟩
  · rcases hb with rfl | hb
    · exact h1
    · exact (h5.lt b hb).1
  · rcases hb with rfl | hb
    · exact blk_lt h3
    · exact (h5.lt b hb).2
set_option maxRecDepth 100000 in
set_option maxHeartbeats 4000000 in
theorem without_seqF {w : World} {B B2 : Nat} {F : Value} {Yf : Nat → Prop} {xs : List Int} {x : Int} (hb : w.heap[B]? = some (.cells #[F] 34 (0, 0))) (hb2 : w.heap[B2]? = some (.cells #[.int .i64 x] 3 (0, 0))) (hT : TellsF Try.prog encI w F Yf xs) :
    SeqF Try.prog 29 #[.pointer (some ⟨B, 0, none⟩), .pointer (some ⟨B2, 0, none⟩)] encI (fun b => b = B ∨ b = B2 ∨ Yf b) (xs.filter fun y => decide (y ≠ x)) w := fun l J Jx X V hs hYl hX hJ hJx hY h0 => by
  obtain ⟨gf, lb, rfl, hseq, hYf, heg⟩ := hT
  have kB := (hs B (.inl rfl)).trans hb
  have kB2 := (hs B2 (.inr (.inl rfl))).trans hb2
  obtain ⟨W0, hW0⟩ : ∃ W0, V.alloc (Obj.cells #[.func (.yield l) #[] #[]] 39) = W0 := ⟨_, rfl⟩
  have f0 : Fr (fun _ => False) V W0 := by rw [← hW0]; exact (Fr.refl _ V).alloc _
  have k3 : W0.heap[V.heap.size]? = some (.cells #[.func (.yield l) #[] #[]] 39 (0, 0)) := by rw [← hW0]; exact heap_alloc_new _ _
  have z0 : W0.heap.size = V.heap.size + 1 := by rw [← hW0]; simp
  have hsq : SeqF Try.prog gf lb encI Yf xs W0 := (hseq.same (fun b hb => hs b (.inr (.inr hb)))).same fun b hb => f0.block b (hYl b (.inr (.inr hb))) fun e => e
  have hj0 : J ([].filter fun y => decide (y ≠ x)) X W0 := hJ.fr h0 (fun k hk => (hX k hk).1) f0 fun _ e => e.elim
  have c0 : (V.alloc (Obj.cells #[.func (.yield l) #[] #[]] 39)).cell? ⟨B, 0, none⟩ = some (.func (.func gf) #[] lb) := by rw [hW0]; exact (blk_cell (f0.blk kB fun e => e) 0).trans rfl
  have H := Lib.hid (And.intro hX (And.intro hYl (And.intro hJ (And.intro hJx (And.intro hY (And.intro f0 (And.intro k3 (And.intro z0 (And.intro hsq (And.intro hj0 (And.intro heg (And.intro kB2 hYf))))))))))))
  have HW := Lib.hid hW0
  clear hb hb2 hs hYl hX hJ hJx hY h0 kB kB2 f0 k3 z0 hsq hj0 hseq heg hYf hW0
  have hnil : ∀ W, (binOp BinOp.eql 34 (.func (.func gf) #[] lb) Value.nilFunc).run Try.prog W = .ok (.bool false) W := fun W => by rfl
  refine (callsIn_wide (n := 20)).1 ?_
  refine callsIn_of_wp_marks Try.func29 rfl trivial ?_ rfl
  simp only [Try.ntmps29, List.size_toArray, List.length_cons, List.length_nil, Nat.reduceAdd, Nat.reduceSub, Array.replicate_succ, Array.replicate_zero, List.push_toArray, List.append_toArray, List.nil_append, List.cons_append]
  gi_wp2_with (simp only [hnil])
  rw [HW.out]
  obtain ⟨hX, hYl, hJ, hJx, hY, f0, k3, z0, hsq, hj0, heg, kB2, hYf⟩ := H.out
  have bx : ∀ k, X k → k < V.heap.size := fun k hk => (hX k hk).1
  refine wpIn_rangeF (X := X) (Y := Yf) (xs := xs) (encs := encI) (gf := gf) (lb := lb) (fun pre X1 W => J (pre.filter fun y => decide (y ≠ x)) X1 W) (fun c pre X1 W => c = .ret ∧ Jx (pre.filter fun y => decide (y ≠ x)) X1 W)
    rfl hsq (fun k hk => ⟨by have := bx k hk; omega, fun e => (hX k hk).2 (.inr (.inr e))⟩) (fun b hb => by have := hYl b (.inr (.inr hb)); omega) (by omega) heg (fun _ => rfl)
    (fun s => hJ _) (fun c s X1 V1 V2 h h1 h2 => ⟨h.1, hJx _ X1 V1 V2 h.2 h1 h2⟩) hj0 ?round ?done ?stop
  case round =>
    rintro l2 pre y r X1 V1 K rb hl2 hpx hI hG hxl hF hlV hK
    dsimp only [encI]
    have HK := Lib.hid hK
    have HV := Lib.hid (And.intro hpx (And.intro hI (And.intro hG (And.intro hxl (And.intro hF (And.intro hlV hl2))))))
    clear hK hX hYl hJ hJx hY f0 k3 z0 hsq hj0 heg kB2 hYf hpx hI hG hxl hF hlV hl2 bx c0
    gi_wp2_with fail
    refine HK.out _ _ (Fr.refl _ _) fun Vb hfb hzb hsb hrb => ?_
    clear HK K
    obtain ⟨hpx, hI, hG, hxl, hF, hlV, hl2⟩ := HV.out
    obtain ⟨hX, hYl, hJ, hJx, hY, f0, k3, z0, hsq, hj0, heg, kB2, hYf⟩ := H.out
    have hb1 : ∀ k, X1 k → k < V1.heap.size := fun k hk => (hG k hk).1
    have hlt : ∀ k, X k → k < V.heap.size := fun k hk => (hX k hk).1
    have at1 : ∀ {b : Nat} {o : Obj}, W0.heap[b]? = some o → ¬ X b → Vb.heap[b]? = some o := fun {b o} h hx => hfb.blk (hF.blk h hx) fun e => by have := blk_lt h; omega
    have k3b := at1 k3 fun e => by have := hlt _ e; omega
    have kB2b := at1 (f0.blk kB2 fun e => e) fun e => (hX _ e).2 (.inr (.inl rfl))
    have c3 := blk_cell k3b 0
    have c2 := blk_cell kB2b 0
    have hfw : Fr X V Vb := ((f0.mono (Y := X) fun _ _ h => h.elim).trans3 hF fun k _ e => e).trans3 hfb fun k hk e => by omega
    have hgw : GrowX X X1 V Vb := fun k hk => ⟨Nat.lt_of_lt_of_le (hb1 k hk) hfb.size, fun h => (hG k hk).2 (by omega)⟩
    have hjb : J (pre.filter fun z => decide (z ≠ x)) X1 Vb := hJ.fr hI hb1 hfb fun k e h => hxl (e ▸ h)
    have hzs : Vb.heap.size = V1.heap.size := hzb
    by_cases hyx : x = y
    · have hfl : (pre ++ [y]).filter (fun z => decide (z ≠ x)) = pre.filter fun z => decide (z ≠ x) := by rw [List.filter_append, hyx]; simp
      have HN : Hid (∃ X2, GrowX X1 X2 V1 Vb ∧ Fr (fun k => k = l2 ∨ X1 k) V1 Vb ∧ Vb.heap[l2]? = some (.loop rb) ∧ J ((pre ++ [y]).filter fun z => decide (z ≠ x)) X2 Vb) :=
        ⟨X1, fun k hk => ⟨by rw [hzs]; exact hb1 k hk, fun _ => hk⟩, hfb.mono fun k _ e => .inl e, hrb, by rw [hfl]; exact hjb⟩
      subst hyx
      clear hfl hpx hI hG hxl hF hlV hl2 hX hYl hJ hJx hY f0 k3 z0 hsq hj0 heg kB2 hYf hb1 hlt at1 k3b kB2b hfw hgw hjb hzs hfb hzb hsb hrb
      gi_wp2_with fail
      refine ⟨trivial, (calls_wide (.inr ⟨l2, rfl⟩) (same_yes _ _)).mono ?_⟩
      rintro e W4 ⟨rfl, rfl⟩
      gi_wp2_with fail
      refine ⟨(fun _ h => by cases h), ?_⟩
      gi_wp2_with fail
      exact HN.out
    · have hfl : (pre ++ [y]).filter (fun z => decide (z ≠ x)) = (pre.filter fun z => decide (z ≠ x)) ++ [y] := by
        have : y ≠ x := fun e => hyx e.symm
        rw [List.filter_append]; simp [this]
      have hsp : (pre.filter fun z => decide (z ≠ x)) ++ y :: (r.filter fun z => decide (z ≠ x)) = xs.filter fun z => decide (z ≠ x) := by
        have : y ≠ x := fun e => hyx e.symm
        rw [← hpx, List.filter_append, List.filter_cons]; simp [this]
      have hyy := hY _ y _ X1 Vb hsp hgw hjb hfw
      obtain ⟨fn, tmps, assign, body, hy, hR⟩ := hyy
      dsimp only [encI] at hy
      have HE := Lib.hid (And.intro hfl (And.intro hb1 (And.intro hfb (And.intro hrb (And.intro hxl (And.intro hzs hlV))))))
      clear hfl hsp hpx hI hG hxl hF hlV hl2 hX hYl hJ hJx hY f0 k3 z0 hsq hj0 heg kB2 hYf hb1 hlt at1 k3b kB2b hfw hgw hjb hzs hfb hzb hsb hrb
      gi_wp2_with fail
      refine ⟨trivial, (calls_wide (.inr ⟨l2, rfl⟩) (same_no _ _ hyx _)).mono ?_⟩
      rintro e W4 ⟨rfl, rfl⟩
      gi_wp2_with fail
      refine (round_wide (.inr ⟨l2, rfl⟩) hR).mono ?_
      rintro e W5 ⟨X2, g2, f2, (⟨rfl, hJ3⟩ | ⟨rfl, hJx3⟩)⟩
      all_goals
        clear hR hy
        gi_wp2_with fail
        obtain ⟨hfl, hb1, hfb, hrb, hxl, hzs, hlV⟩ := HE.out
        refine ⟨X2, fun k hk => ⟨(g2 k hk).1, fun h => (g2 k hk).2 (by omega)⟩, (hfb.mono (Y := fun k => k = l2 ∨ X1 k) fun k _ e => .inl e).trans3 f2 fun k _ e => .inr e, f2.blk hrb hxl, ?_⟩
      · rw [← hfl] at hJ3; exact hJ3
      · rw [← hfl] at hJx3; exact ⟨rfl, hJx3⟩
  case done =>
    rintro D X2 V2 hD hxD hG hF hI hdef
    have hfw : Fr X V V2 := (f0.mono (Y := X) fun _ _ h => h.elim).trans3 hF fun k _ e => e
    have hgw : GrowX X X2 V V2 := fun k hk => ⟨(hG k hk).1, fun h => (hG k hk).2 (by omega)⟩
    have HE := Lib.hid (And.intro hfw (And.intro hgw (And.intro hI (And.intro hdef (And.intro hxD (And.intro hJ hD))))))
    clear hfw hgw hX hYl hJ hJx hY f0 k3 hsq hj0 heg kB2 hYf hG hF hI hdef hxD c0 hD bx
    gi_wp2_with fail
    obtain ⟨hfw, hgw, hI, hdef, hxD, hJ, hD⟩ := HE.out
    refine leaves_one D _ hdef fun w' hf => ⟨_, results_none rfl _ _ _, ⟨_, rfl⟩, X2, fun k hk => ⟨Nat.lt_of_lt_of_le (hgw k hk).1 hf.size, (hgw k hk).2⟩, hfw.trans3 hf fun k hk e => by omega, .inl (hJ.fr hI (fun k hk => (hgw k hk).1) hf fun k e h => hxD (e ▸ h))⟩
  case stop =>
    rintro D c pre r X2 V2 hD hpr hxD hG hF ⟨rfl, hI⟩ hdef
    have hfw : Fr X V V2 := (f0.mono (Y := X) fun _ _ h => h.elim).trans3 hF fun k _ e => e
    have hgw : GrowX X X2 V V2 := fun k hk => ⟨(hG k hk).1, fun h => (hG k hk).2 (by omega)⟩
    refine wpIn_ret ?_
    refine leaves_one D _ hdef fun w' hf => ⟨_, results_none rfl _ _ _, ⟨_, rfl⟩, X2, fun k hk => ⟨Nat.lt_of_lt_of_le (hgw k hk).1 hf.size, (hgw k hk).2⟩, hfw.trans3 hf fun k hk e => by omega, .inr ⟨_, r.filter fun y => decide (y ≠ x), by rw [← List.filter_append, hpr], hJx.fr hI (fun k hk => (hgw k hk).1) hf fun k e h => hxD (e ▸ h)⟩⟩
end Go.Proofs.Yteiiaocohpbanaa
