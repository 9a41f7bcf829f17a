/- Layer 9, keys of kind int: items. -/
import Derived.Test.YtbgmjieagnmpkaaTimBI
import Derived.Shelf.Abstract
namespace Go.Proofs.Ytbgmjieagnmpkaa
set_option linter.unusedVariables false
set_option linter.unusedSimpArgs false
open Go Go.RowKit Go.Maps Go.Sort Go.Shelf
attribute [local go_sem] Oper.semAt_some

theorem mapall_callI (m : Option Nat) (w : World) : Calls Try.prog 66 #[.map m] w fun e w' => e = .returned (.func (.func 74) #[] #[.pointer (some ⟨w.heap.size, 0, none⟩)]) ∧ w' = w.alloc (.cells #[.map m] 98) := by
  go_enter Try.func66, Try.ntmps66
  go_wp2_with fail
  go_ret
  exact ⟨rfl, rfl⟩
theorem items_callI (p : Option Addr) (w : World) : Calls Try.prog 49 #[.pointer p] w fun e w' => e = .returned (.func (.func 65) #[] #[.pointer (some ⟨w.heap.size, 0, none⟩)]) ∧ w' = w.alloc (.cells #[.pointer p] 49) := by
  go_enter Try.func49, Try.ntmps49
  go_wp2_with fail
  go_ret
  exact ⟨rfl, rfl⟩
set_option maxRecDepth 100000 in
set_option maxHeartbeats 4000000 in
theorem items_seq_nilI (B : Nat) (w : World) (hb : w.heap[B]? = some (.cells #[.pointer none] 49 (0, 0))) :
    SeqP Try.prog 65 #[.pointer (some ⟨B, 0, none⟩)] encItI (fun k => k = B) [] w := fun l J Jx X V hs hYl hX hJ hJx hY h0 => by
  have c0 : (V.alloc (Obj.cells #[.func (.yield l) #[] #[]] 125)).cell? ⟨B, 0, none⟩ = some (.pointer none) := (blk_cell (blk_alloc ((hs B rfl).trans hb) _) 0).trans rfl
  obtain ⟨W0, hW0⟩ : ∃ W0, V.alloc (Obj.cells #[.func (.yield l) #[] #[]] 125) = W0 := ⟨_, rfl⟩
  have f0 : Fr (fun _ => False) V W0 := by rw [← hW0]; exact (Fr.refl _ V).alloc _
  have hlt : ∀ k, X k → k < V.heap.size := fun k hk => (hX k hk).1
  have H : Hid (Stays J ∧ GrowX X X V W0 ∧ Fr X V W0 ∧ J [] X W0) := ⟨hJ, fun k hk => ⟨Nat.lt_of_lt_of_le (hlt k hk) f0.size, fun _ => hk⟩, f0.mono (fun _ _ e => e.elim), hJ.fr h0 hlt f0 fun _ e => e.elim⟩
  have HW := Lib.hid hW0
  clear hb hs hYl hX hJ hJx hY h0 f0 hlt hW0
  refine (callsIn_wide (n := 20)).1 ?_
  refine callsIn_of_wp_marks Try.func65 rfl trivial ?_ rfl
  simp only [Try.ntmps65, List.size_toArray, List.length_cons, List.length_nil, Nat.reduceAdd, Nat.reduceSub, Array.replicate_succ, Array.replicate_zero, List.push_toArray, List.append_toArray, List.nil_append, List.cons_append]
  gi_wp2_with fail
  obtain ⟨hJ, a1, a2, a3⟩ := H.out
  rw [HW.out]
  refine leavesF [] _ (by simp) (by simp) fun w' hf => ⟨_, results_none rfl _ _ _, ⟨_, rfl⟩, X, fun k hk => ⟨Nat.lt_of_lt_of_le (a1 k hk).1 hf.size, (a1 k hk).2⟩, a2.trans3 hf (fun k _ e => by simp at e), .inl ⟨[], List.Perm.nil, hJ.fr a3 (fun k hk => (a1 k hk).1) hf fun k e => by simp at e⟩⟩
set_option maxRecDepth 100000 in
set_option maxHeartbeats 4000000 in
theorem items_seqI {base : Nat} (B t b : Nat) (T : List (KeyI × Int)) (w : World) (hb : w.heap[B]? = some (.cells #[.pointer (some ⟨t, 0, none⟩)] 49 (0, 0))) (ht : TabI base w t b T) :
    SeqP Try.prog 65 #[.pointer (some ⟨B, 0, none⟩)] encItI (fun k => k = B ∨ k = t ∨ k = b) T w := fun l J Jx X V hs hYl hX hJ hJx hY h0 => by
  have kB := (hs B (.inl rfl)).trans hb
  have kt := (hs t (.inr (.inl rfl))).trans ht.2.2.2.1
  have km := tabMI_same ht.2.2.2.2 (hs b (.inr (.inr rfl)))
  obtain ⟨W0, hW0⟩ : ∃ W0, V.alloc (Obj.cells #[.func (.yield l) #[] #[]] 125) = W0 := ⟨_, rfl⟩
  have f0 : Fr (fun _ => False) V W0 := by rw [← hW0]; exact (Fr.refl _ V).alloc _
  have k3 : W0.heap[V.heap.size]? = some (.cells #[.func (.yield l) #[] #[]] 125 (0, 0)) := by rw [← hW0]; exact heap_alloc_new _ _
  have z0 : W0.heap.size = V.heap.size + 1 := by rw [← hW0]; simp
  obtain ⟨W1, hW1⟩ : ∃ W1, W0.alloc (Obj.cells #[.map (some b)] 98) = W1 := ⟨_, rfl⟩
  have f1 : Fr (fun _ => False) W0 W1 := by rw [← hW1]; exact (Fr.refl _ W0).alloc _
  have k4 : W1.heap[V.heap.size + 1]? = some (.cells #[.map (some b)] 98 (0, 0)) := by rw [← hW1, ← z0]; exact heap_alloc_new _ _
  have z1 : W1.heap.size = V.heap.size + 2 := by rw [← hW1]; simp; omega
  have f01 : Fr (fun _ => False) V W1 := f0.trans f1
  have hbl := tabMI_lt km
  have hsq := mapall_seqI (V.heap.size + 1) b T W1 k4 (tabMI_same km (f01.block b hbl fun e => e))
  have hj0 : J [] X W1 := hJ.fr h0 (fun k hk => (hX k hk).1) f01 fun _ e => e.elim
  have c0 : W0.cell? ⟨B, 0, none⟩ = some (.pointer (some ⟨t, 0, none⟩)) := (blk_cell (f0.blk kB fun e => e) 0).trans rfl
  have c1 : W0.cell? ⟨t, 0, none⟩ = some (.map (some b)) := (blk_cell (f0.blk kt fun e => e) 0).trans rfl
  rw [← hW0] at c0 c1
  have hcall := mapall_callI (some b) W0
  rw [hW1, z0] at hcall
  have H := Lib.hid (And.intro hX (And.intro hYl (And.intro hJ (And.intro hJx (And.intro hY (And.intro f01 (And.intro (f1.blk k3 fun e => e) (And.intro z1 (And.intro hsq hj0)))))))))
  have HW := Lib.hid (And.intro hW0 hcall)
  clear hb ht hs hYl hX hJ hJx hY h0 kB kt km f0 k3 z0 f1 k4 z1 f01 hbl hsq hj0 hW0 hW1 hcall
  refine (callsIn_wide (n := 20)).1 ?_
  refine callsIn_of_wp_marks Try.func65 rfl trivial ?_ rfl
  simp only [Try.ntmps65, List.size_toArray, List.length_cons, List.length_nil, Nat.reduceAdd, Nat.reduceSub, Array.replicate_succ, Array.replicate_zero, List.push_toArray, List.append_toArray, List.nil_append, List.cons_append]
  gi_wp2_with fail
  rw [HW.out.1]
  refine ⟨trivial, (calls_wide (.inl rfl) HW.out.2).mono ?_⟩
  rintro e W2 ⟨rfl, rfl⟩
  clear c0 c1
  gi_wp2_with fail
  obtain ⟨hX, hYl, hJ, hJx, hY, f01, k3, z1, hsq, hj0⟩ := H.out
  have bx : ∀ k, X k → k < V.heap.size := fun k hk => (hX k hk).1
  have hxy : ∀ k, X k → k < W2.heap.size ∧ ¬ (k = V.heap.size + 1 ∨ k = b) := fun k hk => by
    have := bx k hk
    refine ⟨by omega, ?_⟩
    rintro (e | e)
    · omega
    · exact (hX k hk).2 (.inr (.inr e))
  have hyl : ∀ k, k = V.heap.size + 1 ∨ k = b → k < W2.heap.size := fun k hk => by
    have := hYl b (.inr (.inr rfl))
    rcases hk with e | e <;> omega
  refine wpIn_rangeP (X := X) (Y := fun k => k = V.heap.size + 1 ∨ k = b) (xs := T) (encs := encAI) (gf := 74) (lb := #[.pointer (some ⟨V.heap.size + 1, 0, none⟩)]) (fun pre X1 W => J pre X1 W) (fun c pre X1 W => c = .ret ∧ Jx pre X1 W)
    rfl hsq hxy hyl (by omega) (enters_of Try.func74 (by kernel_rfl) rfl) (fun _ => rfl)
    (fun s => hJ _) (fun c s X1 V1 V2 h h1 h2 => ⟨h.1, hJx _ X1 V1 V2 h.2 h1 h2⟩) hj0 ?round ?done ?stop
  case round =>
    rintro l2 pre ⟨y, at_⟩ r X1 V1 K rb hl2 hpx hI hG hxl hF hlV hK
    dsimp only [encAI, kVI]
    have HK := Lib.hid hK
    have HV := Lib.hid (And.intro hpx (And.intro hI (And.intro hG (And.intro hxl (And.intro hF (And.intro hlV hl2))))))
    clear hxy hyl hK hX hYl hJ hJx hY f01 k3 z1 hsq hj0 hpx hI hG hxl hF hlV hl2 bx
    gi_wp2_with fail
    refine HK.out _ _ (Fr.refl _ _) fun Vb hfb hzb hsb hrb => ?_
    clear HK K
    obtain ⟨hpx, hI, hG, hxl, hF, hlV, hl2⟩ := HV.out
    obtain ⟨hX, hYl, hJ, hJx, hY, f01, k3, z1, hsq, hj0⟩ := H.out
    have hb1 : ∀ k, X1 k → k < V1.heap.size := fun k hk => (hG k hk).1
    have hlt : ∀ k, X k → k < V.heap.size := fun k hk => (hX k hk).1
    have k3b := hfb.blk (hF.blk k3 fun e => by have := hlt _ e; omega) (fun e => by have := blk_lt k3; omega)
    have c3 := blk_cell k3b 0
    have hfw : Fr X V Vb := ((f01.mono (Y := X) fun _ _ h => h.elim).trans3 hF fun k _ e => e).trans3 hfb fun k hk e => by omega
    have hgw : GrowX X X1 V Vb := fun k hk => ⟨Nat.lt_of_lt_of_le (hb1 k hk) hfb.size, fun h => (hG k hk).2 (by omega)⟩
    have hjb : J pre X1 Vb := hJ.fr hI hb1 hfb fun k e h => hxl (e ▸ h)
    have hzs : Vb.heap.size = V1.heap.size := hzb
    have hyy := hY pre (y, at_) r X1 Vb hpx hgw hjb hfw
    obtain ⟨fn, tmps, assign, body, hy, hR⟩ := hyy
    dsimp only [encItI, kVI] at hy
    have HE := Lib.hid (And.intro hb1 (And.intro hfb (And.intro hrb (And.intro hxl (And.intro hzs hlV)))))
    clear hpx hI hG hxl hF hlV hl2 hX hYl hJ hJx hY f01 k3 z1 hsq hj0 hb1 hlt k3b hfw hgw hjb hzs hfb hzb hsb hrb
    gi_wp2_with fail
    refine (round_wide (.inr ⟨l2, rfl⟩) hR).mono ?_
    rintro e W5 ⟨X2, g2, f2, (⟨rfl, hJ3⟩ | ⟨rfl, hJx3⟩)⟩
    all_goals
      clear hR hy
      gi_wp2_with fail
      obtain ⟨hb1, hfb, hrb, hxl, hzs, hlV⟩ := HE.out
      refine ⟨X2, fun k hk => ⟨(g2 k hk).1, fun h => (g2 k hk).2 (by omega)⟩, (hfb.mono (Y := fun k => k = l2 ∨ X1 k) fun k _ e => .inl e).trans3 f2 fun k _ e => .inr e, f2.blk hrb hxl, ?_⟩
    · exact hJ3
    · exact ⟨rfl, hJx3⟩
  case done =>
    rintro D ys X2 V2 hys hD hxD hG hF hI hdef
    have hfw : Fr X V V2 := (f01.mono (Y := X) fun _ _ h => h.elim).trans3 hF fun k _ e => e
    have hgw : GrowX X X2 V V2 := fun k hk => ⟨(hG k hk).1, fun h => (hG k hk).2 (by omega)⟩
    have HE := Lib.hid (And.intro hfw (And.intro hgw (And.intro hI (And.intro hdef (And.intro hxD (And.intro hJ (And.intro hD (And.intro hys z1))))))))
    clear hxy hyl hfw hgw hX hYl hJ hJx hY f01 k3 z1 hsq hj0 hG hF hI hdef hxD hD bx hys
    gi_wp2_with fail
    obtain ⟨hfw, hgw, hI, hdef, hxD, hJ, hD, hys, z1⟩ := HE.out
    refine leaves_one D _ hdef fun w' hf => ⟨_, results_none rfl _ _ _, ⟨_, rfl⟩, X2, fun k hk => ⟨Nat.lt_of_lt_of_le (hgw k hk).1 hf.size, (hgw k hk).2⟩, hfw.trans3 hf fun k hk e => by omega, .inl ⟨ys, hys, hJ.fr hI (fun k hk => (hgw k hk).1) hf fun k e h => hxD (e ▸ h)⟩⟩
  case stop =>
    rintro D c pre r X2 V2 hD hpr hxD hG hF ⟨rfl, hI⟩ hdef
    have hfw : Fr X V V2 := (f01.mono (Y := X) fun _ _ h => h.elim).trans3 hF fun k _ e => e
    have hgw : GrowX X X2 V V2 := fun k hk => ⟨(hG k hk).1, fun h => (hG k hk).2 (by omega)⟩
    refine wpIn_ret ?_
    refine leaves_one D _ hdef fun w' hf => ⟨_, results_none rfl _ _ _, ⟨_, rfl⟩, X2, fun k hk => ⟨Nat.lt_of_lt_of_le (hgw k hk).1 hf.size, (hgw k hk).2⟩, hfw.trans3 hf fun k hk e => by omega, .inr ⟨_, r, hpr, hJx.fr hI (fun k hk => (hgw k hk).1) hf fun k e h => hxD (e ▸ h)⟩⟩
end Go.Proofs.Ytbgmjieagnmpkaa
