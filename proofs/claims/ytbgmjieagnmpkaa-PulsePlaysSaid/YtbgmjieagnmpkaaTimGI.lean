/- Layer 9, keys of kind int: Due, as a function that tells a known row. -/
import Derived.Test.YtbgmjieagnmpkaaTimFI
namespace Go.Proofs.Ytbgmjieagnmpkaa
set_option linter.unusedVariables false
set_option linter.unusedSimpArgs false
open Go Go.RowKit Go.Maps Go.Sort Go.Shelf Go.Lib
attribute [local go_sem] Oper.semAt_some

def ReadsRI (w : World) (A : Option Addr) (xs : List (KeyI × Int)) : Prop := 0 < xs.length → ∃ g o, A = some ⟨g, o, none⟩ ∧ g < w.heap.size ∧ ∀ j (h : j < xs.length), w.cell? ⟨g, o + j * 2, none⟩ = some (kVI xs[j].1) ∧ w.cell? ⟨g, o + j * 2 + 1, none⟩ = some (.int .i64 xs[j].2)
theorem reads_ownRI {base : Nat} {w : World} {A : Option Addr} {n c : Nat} {xs : List (KeyI × Int)} (h : OwnRI base w (.slice A n c) xs) : ReadsRI w A xs := fun h0 => by
  have h' := h
  rcases h.2 with ⟨h1, h2⟩ | ⟨g, cap, cur, h1, h3, h4, h5, _, h6, h7⟩
  · omega
  · injection h1 with q1 q2 q3
    subst q1
    have hadd : ∀ j, (⟨g, 0, none⟩ : Addr).add j = ⟨g, 0 + j, none⟩ := fun j => by
      unfold Addr.add
      split
      · simp_all
      · rfl
    have key : ∀ t u, (xs.flatMap encCI)[t]? = some u → w.cell? ⟨g, 0 + t, none⟩ = some u := fun t u ht => by
      have := h'.cells (g := g) rfl t u ht
      rwa [hadd] at this
    refine ⟨g, 0, rfl, blk_lt h4, fun j hj => ⟨key (j * 2) _ ?_, ?_⟩⟩
    · rw [flatMap_get encCI 2 (fun _ => rfl) (by decide) xs (j * 2) (by omega), Nat.mul_div_cancel j (by decide), Nat.mul_mod_left]
      simp [List.getD, hj, encCI]
    · have := key (j * 2 + 1) (.int .i64 xs[j].2) (by
        rw [flatMap_get encCI 2 (fun _ => rfl) (by decide) xs (j * 2 + 1) (by omega), show (j * 2 + 1) / 2 = j by omega, show (j * 2 + 1) % 2 = 1 by omega]
        simp [List.getD, hj, encCI])
      exact this
def rowYRI (B : Nat) (v : Value) : Nat → Prop := fun b => b = B ∨ v.ownBlock = some b
set_option maxRecDepth 100000 in
set_option maxHeartbeats 4000000 in
theorem due_seqI (base B : Nat) (v : Value) (xs : List (KeyI × Int)) (w : World) (hxs : xs.length ≤ 1000000) (hb : w.heap[B]? = some (.cells #[v] 123 (0, 0))) (hr : OwnRI base w v xs) :
    SeqF Try.prog 64 #[.pointer (some ⟨B, 0, none⟩)] encAI (rowYRI B v) xs w := fun l J Jx X V hs hYl hX hJ hJx hY h0 => by
  have hbV := (hs B (.inl rfl)).trans hb
  have hrV : OwnRI base V v xs := ownRI_kept hr fun g hg => hs g (.inr hg)
  obtain ⟨A, c, rfl⟩ := row_slice hr
  have c0 : V.cell? ⟨B, 0, none⟩ = some (.slice A xs.length c) := (blk_cell hbV 0).trans rfl
  have HR := Lib.hid (reads_ownRI hrV)
  have HO := Lib.hid hrV
  have HY := Lib.hid hY
  have HX := Lib.hid hX
  have HJ := Lib.hid hJ
  have h00 : Hid (∃ X1, GrowX X X1 V V ∧ Fr X V V ∧ J [] X1 V) := ⟨X, GrowX.refl fun k hk => (hX k hk).1, Fr.refl _ _, h0⟩
  clear hb hr hs hrV hbV hY hX h0 hJ hJx hYl
  refine (callsIn_wide (n := 20)).1 ?_
  refine callsIn_of_wp Try.func64 rfl trivial ?_ rfl
  simp only [Try.ntmps64, List.size_toArray, List.length_cons, List.length_nil, Nat.reduceAdd, Nat.reduceSub, Array.replicate_succ, Array.replicate_zero, List.push_toArray, List.append_toArray, List.nil_append, List.cons_append]
  gi_wp2
  gi_loopw [4, 7] (fun _ c1 wr => ∃ k : Nat, c1 = .int .i64 k ∧ k ≤ xs.length ∧ Hid (∃ X1, GrowX X X1 V wr ∧ Fr X V wr ∧ J (xs.take k) X1 wr)) (fun _ c1 _ => xs.length - (RowKit.intOf c1).toNat)
  case atStart => exact ⟨0, rfl, Nat.zero_le _, h00⟩
  case round =>
    obtain ⟨k, rfl, hk, HJ2⟩ := hrel
    clear h00
    obtain ⟨X1, hg1, hf1, hj1⟩ := HJ2.out
    by_cases hlt : k < xs.length
    · obtain ⟨g, o, rfl, hg, hcell⟩ := HR.out (by omega)
      obtain ⟨⟨x, at_⟩, hx⟩ : ∃ x, xs[k] = x := ⟨_, rfl⟩
      have hgY : rowYRI B (.slice (some ⟨g, o, none⟩) xs.length c) g := by
        rcases HO.out.2 with ⟨e, _⟩ | ⟨g2, cap, cur, e, _⟩
        · cases e
        · cases e; exact .inr rfl
      have hnx : ¬ X g := fun e => (HX.out g e).2 hgY
      have e0 : wr.cell? ⟨g, o + k * 2, none⟩ = some (.int .i64 x) := by
        rw [hf1.cell (p := ⟨g, o + k * 2, none⟩) hg hnx, (hcell k hlt).1, hx]; rfl
      have e1 : wr.cell? ⟨g, o + k * 2 + 1, none⟩ = some (.int .i64 at_) := by
        rw [hf1.cell (p := ⟨g, o + k * 2 + 1, none⟩) hg hnx, (hcell k hlt).2, hx]
      have hsp : xs.take k ++ (x, at_) :: xs.drop (k + 1) = xs := by rw [← hx, ← List.drop_eq_getElem_cons hlt]; exact List.take_append_drop k xs
      have htk : xs.take (k + 1) = xs.take k ++ [(x, at_)] := by rw [List.take_succ_eq_append_getElem hlt, hx]
      obtain ⟨wa, hwa⟩ : ∃ wa, wr.alloc (Obj.cells #[.int .i64 x, .int .i64 at_] 103) = wa := ⟨_, rfl⟩
      have ka : wa.heap[wr.heap.size]? = some (.cells #[.int .i64 x, .int .i64 at_] 103 (0, 0)) := by rw [← hwa]; exact heap_alloc_new _ _
      have c5 := blk_cell ka 0
      have c6 := blk_cell ka 1
      have fa : Fr (fun _ => False) wr wa := by rw [← hwa]; exact (Fr.refl _ wr).alloc _
      have hg2 : GrowX X X1 V wa := fun j hj => ⟨Nat.lt_of_lt_of_le (hg1 j hj).1 fa.size, (hg1 j hj).2⟩
      have hf2 : Fr X V wa := hf1.trans3 fa fun _ _ e => e.elim
      have hyy := HY.out (xs.take k) (x, at_) (xs.drop (k + 1)) X1 wa hsp hg2 (HJ.out.fr hj1 (fun j hj => (hg1 j hj).1) fa fun _ e => e.elim) hf2
      obtain ⟨fn, tmps, assign, body, hy, hR⟩ := hyy
      dsimp only [encAI, kVI] at hy
      have HT := Lib.hid (And.intro htk (And.intro hsp (And.intro hg2 hf2)))
      have HW := Lib.hid hwa
      clear hx htk hsp hg hcell hg1 hf1 hj1 hgY hnx fa hg2 hf2 hwa ka
      gi_wp2_with (rw [HW.out])
      refine (round_wide (.inl rfl) hR).mono ?_
      rintro e W3 ⟨X2, g2, f2, (⟨rfl, hJ3⟩ | ⟨rfl, hJx3⟩)⟩
      · obtain ⟨htk, hsp, hg1, hf1⟩ := HT.out
        have hN : Hid (∃ X1, GrowX X X1 V W3 ∧ Fr X V W3 ∧ J (xs.take (k + 1)) X1 W3) := ⟨X2, hg1.trans g2 hf1.size, hf1.trans3 f2 fun k hk e => (hg1 k e).2 hk, by rw [htk]; exact hJ3⟩
        clear htk hsp hg1 hf1 g2 f2 hJ3 hR hy
        gi_wp2_with fail
        go_roundw
        case rel => exact ⟨k + 1, by go_num, by omega, hN⟩
        case measure => simp [RowKit.intOf]; omega
      · clear hR hy
        gi_wp2_with fail
        refine bodyPost_ret (results_none rfl _ _ _) rfl ?_
        obtain ⟨htk, hsp, hg1, hf1⟩ := HT.out
        exact ⟨⟨_, rfl⟩, X2, hg1.trans g2 hf1.size, hf1.trans3 f2 fun k hk e => (hg1 k e).2 hk, .inr ⟨_, xs.drop (k + 1), by simpa using hsp, hJx3⟩⟩
    · obtain rfl : k = xs.length := by omega
      rw [List.take_length] at hj1
      have HQ := Lib.hid (And.intro hg1 (And.intro hf1 hj1))
      clear hg1 hf1 hj1
      gi_wp2_with fail
      go_end0
      obtain ⟨hg1, hf1, hj1⟩ := HQ.out
      exact ⟨⟨_, rfl⟩, X1, hg1, hf1, .inl hj1⟩
/-- what tells xs: a tale, its box, the row in it -/
def TaleRI (base : Nat) (w : World) (F : Value) (xs : List (KeyI × Int)) : Prop := ∃ B v, base ≤ B ∧ F = .func (.func 64) #[] #[.pointer (some ⟨B, 0, none⟩)] ∧ w.heap[B]? = some (.cells #[v] 123 (0, 0)) ∧ v.ownBlock ≠ some B ∧ OwnRI base w v xs
theorem taleRI_tells {base : Nat} {w : World} {F : Value} {xs : List (KeyI × Int)} (h : TaleRI base w F xs) (hl : xs.length ≤ 1000000) : ∃ Y, (∀ b, Y b → base ≤ b) ∧ TellsF Try.prog encAI w F Y xs := by
  obtain ⟨B, v, h1, rfl, h3, h4, h5⟩ := h
  refine ⟨rowYRI B v, fun b hb => ?_, _, _, rfl, due_seqI base B v xs w hl h3 h5, fun b hb => ?_, enters_of Try.func64 (by kernel_rfl) rfl⟩
  · rcases hb with rfl | hb
    · exact h1
    · exact (h5.lt b hb).1
  · rcases hb with rfl | hb
    · exact blk_lt h3
    · exact (h5.lt b hb).2
def DueFI (T : List (KeyI × Int)) (now : Int) (w : World) (e : Ending) (w' : World) : Prop := (∃ F, e = .returned F ∧ TaleRI w.heap.size w' F (dueMI T now)) ∧ RowKit.Below w.heap.size w w'
set_option maxHeartbeats 1000000 in
theorem tim_DueI {w : World} {p : Option Addr} {T : List (KeyI × Int)} (h : ItemsAtI w p T) (hnd : (T.map (·.1)).Nodup) (hl : T.length ≤ 1000000) (now : Int) :
    Calls Try.prog 47 #[.pointer p, .int .i64 now] w (DueFI T now w) := by
  have hd := tim_dueI h hnd hl now
  have HD := Lib.hid hd
  clear hd h hnd hl
  go_enter Try.func47, Try.ntmps47
  go_wp2_with fail
  refine HD.out.mono ?_
  rintro e w1 ⟨⟨v, rfl, o1⟩, b1⟩
  obtain ⟨A, c, ev⟩ := row_slice o1
  subst ev
  have HQ := Lib.hid (And.intro o1 b1)
  clear o1 b1 HD
  go_wp2_with fail
  go_ret
  obtain ⟨o1, b1⟩ := HQ.out
  have hk := heap_alloc_new w1 (Obj.cells #[Value.slice A (dueMI T now).length c] 123)
  refine ⟨⟨_, rfl, w1.heap.size, _, b1.size, rfl, hk, fun e => ?_, ownRI_kept o1 fun g hg => Below.heap_alloc _ _ _ (o1.lt g hg).2⟩, b1.alloc b1.size _⟩
  have := (o1.lt _ e).2; omega
end Go.Proofs.Ytbgmjieagnmpkaa
