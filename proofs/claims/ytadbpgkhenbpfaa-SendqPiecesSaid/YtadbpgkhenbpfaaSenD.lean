/- Layer 8: strings.Lines as a function that ranges. -/
import Derived.Test.YtadbpgkhenbpfaaSenC
import Derived.Test.YtadbpgkhenbpfaaRangeZ
import Derived.Test.YtadbpgkhenbpfaaRowT
import Derived.Test.YtadbpgkhenbpfaaScope
import Derived.Lib.IndexAny
import Derived.Lib.IndexLaws
import Derived.Sort.LoopGhostIn
import Derived.Stop.RegionWithIn
namespace Go.Proofs.Ytadbpgkhenbpfaa
set_option linter.unusedVariables false
set_option linter.unusedSimpArgs false
open Go Go.RowKit Go.Lib Go.Sort Go.Shelf
attribute [local go_sem] Oper.semAt_some

/-- the lines of bytes, each with what ends it -/
def linesAux : List UInt8 → List UInt8 → List (List UInt8)
  | cur, [] => if cur = [] then [] else [cur]
  | cur, b :: r => if b = 10 then (cur ++ [b]) :: linesAux [] r else linesAux (cur ++ [b]) r
def linesL (l : List UInt8) : List (List UInt8) := linesAux [] l
theorem linesAux_none : ∀ (l cur : List UInt8), (10 : UInt8) ∉ l → cur ++ l ≠ [] → linesAux cur l = [cur ++ l]
  | [], cur, _, h => by unfold linesAux; rw [List.append_nil] at h ⊢; rw [if_neg h]
  | b :: r, cur, h1, h2 => by
    rw [List.mem_cons, not_or] at h1
    unfold linesAux
    rw [if_neg (fun e => h1.1 e.symm), linesAux_none r _ h1.2 (by simp)]
    simp
theorem linesAux_some : ∀ (a cur r : List UInt8), (10 : UInt8) ∉ a → linesAux cur (a ++ 10 :: r) = (cur ++ a ++ [10]) :: linesL r
  | [], cur, r, _ => by rw [List.nil_append]; unfold linesAux; rw [if_pos rfl, List.append_nil]; rfl
  | b :: a, cur, r, h => by
    rw [List.mem_cons, not_or] at h
    rw [List.cons_append]
    unfold linesAux
    rw [if_neg (fun e => h.1 e.symm), linesAux_some a _ r h.2]
    simp
theorem linesL_none {l : List UInt8} (h : (10 : UInt8) ∉ l) (h0 : l ≠ []) : linesL l = [l] := linesAux_none l [] h (by simpa using h0)
theorem linesL_cut (a r : List UInt8) (h : (10 : UInt8) ∉ a) : linesL (a ++ 10 :: r) = (a ++ [10]) :: linesL r := by have := linesAux_some a [] r h; simpa [linesL] using this
theorem lines_none' (R : ByteArray) (h : Lib.indexByte R.data.toList 10 = -1) (h0 : 0 < R.size) : linesL R.data.toList = [R.data.toList] :=
  linesL_none (fun hm => by
    obtain ⟨k, hk⟩ := List.getElem?_of_mem hm
    exact Lib.indexByte_none h k hk) fun e => by have : R.data.toList.length = R.size := rfl; rw [e] at this; simp at this; omega
theorem lines_some' (R : ByteArray) (o : Nat) (h : Lib.indexByte R.data.toList 10 = o) : o < R.size ∧ linesL R.data.toList = (R.extract 0 (o + 1)).data.toList :: linesL (R.extract (o + 1) R.size).data.toList := by
  obtain ⟨h1, h2⟩ := Lib.indexByte_some h
  have ho : o < R.data.toList.length := (List.getElem?_eq_some_iff.1 h1).1
  have h4 : R.data.toList[o] = 10 := (List.getElem?_eq_some_iff.1 h1).2
  have e : R.data.toList = R.data.toList.take o ++ 10 :: R.data.toList.drop (o + 1) := by
    have h3 := List.drop_eq_getElem_cons ho
    rw [h4] at h3
    rw [← h3, List.take_append_drop]
  have hn : (10 : UInt8) ∉ R.data.toList.take o := fun hm => by
    obtain ⟨k, hk⟩ := List.getElem?_of_mem hm
    rw [List.getElem?_take] at hk
    split at hk
    · exact h2 k ‹_› hk
    · cases hk
  refine ⟨by simpa using ho, ?_⟩
  have e1 : (R.extract 0 (o + 1)).data.toList = R.data.toList.take o ++ [10] := by
    have : (R.extract 0 (o + 1)).data.toList = R.data.toList.take (o + 1) := by simp
    rw [this, List.take_succ_eq_append_getElem ho, h4]
  have e2 : (R.extract (o + 1) R.size).data.toList = R.data.toList.drop (o + 1) := by
    simp [List.take_of_length_le]
  rw [e1, e2]
  conv => lhs; rw [e]
  exact linesL_cut _ _ hn
set_option maxRecDepth 100000 in
set_option maxHeartbeats 4000000 in
theorem lines_seqZ (B : Nat) (s : ByteArray) (w : World) (hs : s.size ≤ 1000000) (hb : w.heap[B]? = some (.cells #[.string s] 9 (0, 0))) :
    SeqZ Try.prog 30 #[.pointer (some ⟨B, 0, none⟩)] encL (fun _ => False) (fun b => b = B) (linesL s.data.toList) w := fun l J Jx X V hsm hYl hX hJ hJx hY h0 => by
  have kB := (hsm B (.inr rfl)).trans hb
  have hXB : ¬ X B := fun e => (hX B e).2 (.inr rfl)
  have H := Lib.hid (And.intro hX (And.intro hJ (And.intro hJx (And.intro hY hXB))))
  have hBV := blk_lt kB
  have h00 : Hid (∃ X1 pre, GrowX X X1 V V ∧ Fr (fun k => X k ∨ k = B) V V ∧ J pre X1 V ∧ pre ++ linesL s.data.toList = linesL s.data.toList ∧ V.heap[B]? = some (.cells #[.string s] 9 (0, 0))) :=
    ⟨X, [], GrowX.refl fun k hk => (hX k hk).1, Fr.refl _ _, h0, rfl, kB⟩
  clear hb hsm hYl hX hJ hJx hY h0 kB hXB
  refine (callsIn_wide (n := 20)).1 ?_
  refine callsIn_of_wp Try.func30 rfl trivial ?_ rfl
  simp only [Try.ntmps30, List.size_toArray, List.length_cons, List.length_nil, Nat.reduceAdd, Nat.reduceSub, Array.replicate_succ, Array.replicate_zero, List.push_toArray, List.append_toArray, List.nil_append, List.cons_append]
  gi_wp2_with fail
  gi_loopg [3] s.size (fun r _ wr => ∃ R : ByteArray, r = R.size ∧ R.size ≤ s.size ∧ Hid (∃ X1 pre, GrowX X X1 V wr ∧ Fr (fun k => X k ∨ k = B) V wr ∧ J pre X1 wr ∧ pre ++ linesL R.data.toList = linesL s.data.toList ∧ wr.heap[B]? = some (.cells #[.string R] 9 (0, 0)))) 
  case atStart => exact ⟨s, rfl, Nat.le_refl _, h00⟩
  case round =>
    clear h00
    obtain ⟨R, hr, hRs, HR⟩ := hrel
    have HG := Lib.hid hr
    clear hr
    obtain ⟨X1, pre, g1, f1, j1, hsp, kB⟩ := HR.out
    have c0 := blk_cell kB 0
    have z0 := blk_free kB 0
    have HR1 := Lib.hid (And.intro g1 (And.intro f1 (And.intro j1 (And.intro hsp kB))))
    clear g1 f1 j1 hsp kB HR
    by_cases hpos : 0 < R.size
    · have hix := fun W => Try.strings_IndexByte R 10 W
      have h10 : ((10 : Int).toNat.toUInt8) = 10 := rfl
      simp only [h10] at hix
      have hge := Lib.indexByte_ge R.data.toList 10
      have hp0 : (0 : Int) < (R.size : Int) := by omega
      by_cases hno : Lib.indexByte R.data.toList 10 = -1
      · rw [hno] at hix
        have HIX := Lib.hid hix
        have HNO := Lib.hid (lines_none' R hno hpos)
        clear hno hge hix
        obtain ⟨hX, hJ, hJx, hY, hXB⟩ := H.out
        obtain ⟨g1, f1, j1, hsp, kB⟩ := HR1.out
        have hX1B : ¬ X1 B := fun e => hXB ((g1 B e).2 hBV)
        obtain ⟨W4, hW4⟩ : ∃ W4, wr.setCell ⟨B, 0, none⟩ (.string { data := #[] }) = W4 := ⟨_, rfl⟩
        have fB : Fr (fun k => k = B) wr W4 := by rw [← hW4]; exact Fr.setCell (X := fun k => k = B) (Fr.refl _ _) ⟨B, 0, none⟩ rfl _
        have zB : W4.heap.size = wr.heap.size := by rw [← hW4]; simp
        have kB4 : W4.heap[B]? = some (.cells #[.string ({ data := #[] } : ByteArray)] 9 (0, 0)) := by rw [← hW4]; exact blk_set kB 0 _
        have j4 : J pre X1 W4 := hJ.fr j1 (fun k hk => (g1 k hk).1) fB fun k e h => hX1B (e ▸ h)
        have g4 : GrowX X X1 V W4 := fun k hk => ⟨by rw [zB]; exact (g1 k hk).1, (g1 k hk).2⟩
        have f4 : Fr (fun k => X k ∨ k = B) V W4 := f1.trans3 fB fun k _ e => .inr e
        have hsp4 : pre ++ R.data.toList :: linesL ({ data := #[] } : ByteArray).data.toList = linesL s.data.toList := by rw [← hsp, HNO.out]; rfl
        have hyy := hY pre R.data.toList _ X1 W4 hsp4 g4 j4 f4
        obtain ⟨fn, tmps, assign, body, hy, hRd⟩ := hyy
        simp only [encL, bs_of] at hy
        rw [← hW4] at hy
        have HP := Lib.hid (And.intro g4 (And.intro f4 (And.intro hsp4 (And.intro kB4 (And.intro hX1B (And.intro hJx hW4))))))
        clear hX hJ hJx hY hXB g1 f1 j1 hsp kB hX1B hW4 fB zB kB4 j4 g4 f4 hsp4
        gi_wp2_with fail
        refine ⟨trivial, (calls_wide (.inl rfl) (HIX.out _)).mono ?_⟩
        rintro e w' ⟨rfl, rfl⟩
        gi_wp2_with fail
        rw [← HP.out.2.2.2.2.2.2] at hRd
        refine (round_wide (.inl rfl) hRd).mono ?_
        rintro e W5 ⟨X2, g2, f2, (⟨rfl, hJ3⟩ | ⟨rfl, hJx3⟩)⟩
        · obtain ⟨g4, f4, hsp4, kB4, hX1B, hJx, hW4⟩ := HP.out
          rw [hW4] at g2 f2
          have HN : Hid (∃ X1 pre, GrowX X X1 V W5 ∧ Fr (fun k => X k ∨ k = B) V W5 ∧ J pre X1 W5 ∧ pre ++ linesL ({ data := #[] } : ByteArray).data.toList = linesL s.data.toList ∧ W5.heap[B]? = some (.cells #[.string ({ data := #[] } : ByteArray)] 9 (0, 0))) :=
            ⟨X2, _, g4.trans g2 f4.size, f4.trans3 f2 fun k hk e => .inl ((g4 k e).2 hk), hJ3, by simpa using hsp4, f2.blk kB4 hX1B⟩
          clear g4 f4 hsp4 kB4 hX1B hJx hW4 g2 f2 hJ3 hRd hy
          gi_wp2_with fail
          gi_roundg ({ data := #[] } : ByteArray).size
          case measure => rw [HG.out]; first | exact hpos | (simp; omega)
          case rel => exact ⟨({ data := #[] } : ByteArray), rfl, by first | exact Nat.zero_le _ | (simp; omega), HN⟩
        · obtain ⟨g4, f4, hsp4, kB4, hX1B, hJx, hW4⟩ := HP.out
          rw [hW4] at g2 f2
          have HN : Hid (∃ X2, GrowX X X2 V W5 ∧ Fr (fun k => X k ∨ k = B) V W5 ∧ ∃ pre r, pre ++ r = linesL s.data.toList ∧ Jx pre X2 W5) :=
            ⟨X2, g4.trans g2 f4.size, f4.trans3 f2 fun k hk e => .inl ((g4 k e).2 hk), _, linesL ({ data := #[] } : ByteArray).data.toList, by simpa using hsp4, hJx3⟩
          clear g4 f4 hsp4 kB4 hX1B hJx hW4 g2 f2 hJx3 hRd hy
          gi_wp2_with fail
          refine bodyPost_ret (results_none rfl _ _ _) rfl ?_
          obtain ⟨X3, a1, a2, a3⟩ := HN.out
          exact ⟨⟨_, rfl⟩, X3, a1, a2, .inr a3⟩
      · obtain ⟨o, ho⟩ : ∃ o : Nat, Lib.indexByte R.data.toList 10 = o := ⟨(Lib.indexByte R.data.toList 10).toNat, by omega⟩
        rw [ho] at hix
        have HIX := Lib.hid hix
        have hls := lines_some' R o ho
        have hoR := hls.1
        have HLS := Lib.hid hls.2
        clear hno hge hix ho hls
        have hw1 : IntKind.i64.wrap ((o : Int) + 1) = (o : Int) + 1 := IntWalk.i64_in _ (by omega)
        have hw2 : 0 ≤ (o : Int) + 1 := by omega
        have hw3 : ((o : Int) + 1).toNat = o + 1 := by omega
        have hw4 : (o : Int) + 1 ≤ (R.size : Int) := by omega
        have hw5 : o + 1 ≤ R.size := by omega
        obtain ⟨hX, hJ, hJx, hY, hXB⟩ := H.out
        obtain ⟨g1, f1, j1, hsp, kB⟩ := HR1.out
        have hX1B : ¬ X1 B := fun e => hXB ((g1 B e).2 hBV)
        obtain ⟨W4, hW4⟩ : ∃ W4, (wr.setCell ⟨B, 0, none⟩ (.string (R.extract (o + 1) R.size))).drew = W4 := ⟨_, rfl⟩
        have fB : Fr (fun k => k = B) wr W4 := by rw [← hW4]; exact (Fr.setCell (X := fun k => k = B) (Fr.refl _ _) ⟨B, 0, none⟩ rfl _).drew
        have zB : W4.heap.size = wr.heap.size := by rw [← hW4]; simp
        have kB4 : W4.heap[B]? = some (.cells #[.string (R.extract (o + 1) R.size)] 9 (0, 0)) := by rw [← hW4]; exact blk_drew (blk_set kB 0 _)
        have j4 : J pre X1 W4 := hJ.fr j1 (fun k hk => (g1 k hk).1) fB fun k e h => hX1B (e ▸ h)
        have g4 : GrowX X X1 V W4 := fun k hk => ⟨by rw [zB]; exact (g1 k hk).1, (g1 k hk).2⟩
        have f4 : Fr (fun k => X k ∨ k = B) V W4 := f1.trans3 fB fun k _ e => .inr e
        have hsp4 : pre ++ (R.extract 0 (o + 1)).data.toList :: linesL (R.extract (o + 1) R.size).data.toList = linesL s.data.toList := by rw [← hsp, HLS.out]
        have hyy := hY pre (R.extract 0 (o + 1)).data.toList _ X1 W4 hsp4 g4 j4 f4
        obtain ⟨fn, tmps, assign, body, hy, hRd⟩ := hyy
        simp only [encL, bs_of] at hy
        rw [← hW4] at hy
        have HP := Lib.hid (And.intro g4 (And.intro f4 (And.intro hsp4 (And.intro kB4 (And.intro hX1B (And.intro hJx hW4))))))
        clear hX hJ hJx hY hXB g1 f1 j1 hsp kB hX1B hW4 fB zB kB4 j4 g4 f4 hsp4
        gi_wp2_with fail
        refine ⟨trivial, (calls_wide (.inl rfl) (HIX.out _)).mono ?_⟩
        rintro e w' ⟨rfl, rfl⟩
        gi_wp2_with fail
        gi_region
        clear hw1 hw2 hw3 hw4
        gi_wp2_with fail
        rw [← HP.out.2.2.2.2.2.2] at hRd
        refine (round_wide (.inl rfl) hRd).mono ?_
        rintro e W5 ⟨X2, g2, f2, (⟨rfl, hJ3⟩ | ⟨rfl, hJx3⟩)⟩
        · obtain ⟨g4, f4, hsp4, kB4, hX1B, hJx, hW4⟩ := HP.out
          rw [hW4] at g2 f2
          have HN : Hid (∃ X1 pre, GrowX X X1 V W5 ∧ Fr (fun k => X k ∨ k = B) V W5 ∧ J pre X1 W5 ∧ pre ++ linesL (R.extract (o + 1) R.size).data.toList = linesL s.data.toList ∧ W5.heap[B]? = some (.cells #[.string (R.extract (o + 1) R.size)] 9 (0, 0))) :=
            ⟨X2, _, g4.trans g2 f4.size, f4.trans3 f2 fun k hk e => .inl ((g4 k e).2 hk), hJ3, by simpa using hsp4, f2.blk kB4 hX1B⟩
          clear g4 f4 hsp4 kB4 hX1B hJx hW4 g2 f2 hJ3 hRd hy
          gi_wp2_with fail
          gi_roundg (R.extract (o + 1) R.size).size
          case measure => rw [HG.out]; first | exact hpos | (simp; omega)
          case rel => exact ⟨(R.extract (o + 1) R.size), rfl, by first | exact Nat.zero_le _ | (simp; omega), HN⟩
        · obtain ⟨g4, f4, hsp4, kB4, hX1B, hJx, hW4⟩ := HP.out
          rw [hW4] at g2 f2
          have HN : Hid (∃ X2, GrowX X X2 V W5 ∧ Fr (fun k => X k ∨ k = B) V W5 ∧ ∃ pre r, pre ++ r = linesL s.data.toList ∧ Jx pre X2 W5) :=
            ⟨X2, g4.trans g2 f4.size, f4.trans3 f2 fun k hk e => .inl ((g4 k e).2 hk), _, linesL (R.extract (o + 1) R.size).data.toList, by simpa using hsp4, hJx3⟩
          clear g4 f4 hsp4 kB4 hX1B hJx hW4 g2 f2 hJx3 hRd hy
          gi_wp2_with fail
          refine bodyPost_ret (results_none rfl _ _ _) rfl ?_
          obtain ⟨X3, a1, a2, a3⟩ := HN.out
          exact ⟨⟨_, rfl⟩, X3, a1, a2, .inr a3⟩
    · have hp0 : ¬ ((0 : Int) < (R.size : Int)) := by omega
      gi_wp2_with fail
      go_end0
      obtain ⟨g1, f1, j1, hsp, kB⟩ := HR1.out
      have hnil : R.data.toList = [] := str_nil (by omega)
      rw [hnil] at hsp
      have : linesL [] = [] := rfl
      rw [this, List.append_nil] at hsp
      exact ⟨⟨_, rfl⟩, X1, g1, f1, .inl (hsp ▸ j1)⟩
end Go.Proofs.Ytadbpgkhenbpfaa
