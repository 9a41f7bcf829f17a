/- Texts of this proof, one behind the other. -/
import Derived.Test.YtadbpgkhenbpfaaSendqPlaysG4
import Derived.Test.YtadbpgkhenbpfaaSendqPlaysG2
import Derived.Lib.IndexAny
import Derived.Lib.IndexLaws
import Derived.Sort.LoopGhostIn
import Derived.Stop.RegionWithIn
import Derived.Test.YtadbpgkhenbpfaaSendqPlaysG3
import Derived.Test.YtadbpgkhenbpfaaChecked
section
/- Layer 8: strings.Lines as a function that ranges. -/
namespace Go.Proofs.Ytadbpgkhenbpfaa
set_option linter.unusedVariables false
set_option linter.unusedSimpArgs false
open Go Go.RowKit Go.Lib Go.Sort Go.Shelf
attribute [local go_sem] Oper.semAt_some

/-- the lines of bytes, each with what ends it -/
def linesAux : List UInt8 → List UInt8 → List (List UInt8)
  | cur, [] => if cur = [] then [] else [cur]
  | cur, b :: r => if b = 10 then (cur ++ [b]) :: linesAux [] r else linesAux (cur ++ [b]) r
def linesL (l : List UInt8) : List (List UInt8) := linesAux [] l
theorem linesAux_none : ∀ (l cur : List UInt8), (10 : UInt8) ∉ l → cur ++ l ≠ [] → linesAux cur l = [cur ++ l]
  | [], cur, _, h => by unfold linesAux; rw [List.append_nil] at h ⊢; rw [if_neg h]
  | b :: r, cur, h1, h2 => by
    rw [List.mem_cons, not_or] at h1
    unfold linesAux
    rw [if_neg (fun e => h1.1 e.symm), linesAux_none r _ h1.2 (by simp)]
    simp
theorem linesAux_some : ∀ (a cur r : List UInt8), (10 : UInt8) ∉ a → linesAux cur (a ++ 10 :: r) = (cur ++ a ++ [10]) :: linesL r
  | [], cur, r, _ => by rw [List.nil_append]; unfold linesAux; rw [if_pos rfl, List.append_nil]; rfl
  | b :: a, cur, r, h => by
    rw [List.mem_cons, not_or] at h
    rw [List.cons_append]
    unfold linesAux
    rw [if_neg (fun e => h.1 e.symm), linesAux_some a _ r h.2]
    simp
theorem linesL_none {l : List UInt8} (h : (10 : UInt8) ∉ l) (h0 : l ≠ []) : linesL l = [l] := linesAux_none l [] h (by simpa using h0)
theorem linesL_cut (a r : List UInt8) (h : (10 : UInt8) ∉ a) : linesL (a ++ 10 :: r) = (a ++ [10]) :: linesL r := by have := linesAux_some a [] r h; simpa [linesL] using this
theorem lines_none' (R : ByteArray) (h : Lib.indexByte R.data.toList 10 = -1) (h0 : 0 < R.size) : linesL R.data.toList = [R.data.toList] :=
  linesL_none (fun hm => by
    obtain ⟨k, hk⟩ := List.getElem?_of_mem hm
    exact Lib.indexByte_none h k hk) fun e => by have : R.data.toList.length = R.size := rfl; rw [e] at this; simp at this; omega
theorem lines_some' (R : ByteArray) (o : Nat) (h : Lib.indexByte R.data.toList 10 = o) : o < R.size ∧ linesL R.data.toList = (R.extract 0 (o + 1)).data.toList :: linesL (R.extract (o + 1) R.size).data.toList := by
  obtain ⟨h1, h2⟩ := Lib.indexByte_some h
  have ho : o < R.data.toList.length := (List.getElem?_eq_some_iff.1 h1).1
  have h4 : R.data.toList[o] = 10 := (List.getElem?_eq_some_iff.1 h1).2
  have e : R.data.toList = R.data.toList.take o ++ 10 :: R.data.toList.drop (o + 1) := by
    have h3 := List.drop_eq_getElem_cons ho
    rw [h4] at h3
    rw [← h3, List.take_append_drop]
  have hn : (10 : UInt8) ∉ R.data.toList.take o := fun hm => by
    obtain ⟨k, hk⟩ := List.getElem?_of_mem hm
    rw [List.getElem?_take] at hk
    split at hk
    · exact h2 k ‹_› hk
    · cases hk
  refine ⟨by simpa using ho, ?_⟩
  have e1 : (R.extract 0 (o + 1)).data.toList = R.data.toList.take o ++ [10] := by
    have : (R.extract 0 (o + 1)).data.toList = R.data.toList.take (o + 1) := by simp
    rw [this, List.take_succ_eq_append_getElem ho, h4]
  have e2 : (R.extract (o + 1) R.size).data.toList = R.data.toList.drop (o + 1) := by
    simp [List.take_of_length_le]
  rw [e1, e2]
  conv => lhs; rw [e]
  exact linesL_cut _ _ hn
set_option maxRecDepth 100000 in
set_option maxHeartbeats 4000000 in
theorem lines_seqZ (B : Nat) (s : ByteArray) (w : World) (hs : s.size ≤ 1000000) (hb : w.heap[B]? = some (.cells #[.string s] 9 (0, 0))) :
    SeqZ Try.prog 30 #[.pointer (some ⟨B, 0, none⟩)] encL (fun _ => False) (fun b => b = B) (linesL s.data.toList) w := fun l J Jx X V hsm hYl hX hJ hJx hY h0 => by
  have kB := (hsm B (.inr rfl)).trans hb
  have hXB : ¬ X B := fun e => (hX B e).2 (.inr rfl)
  have H := Lib.hid (And.intro hX (And.intro hJ (And.intro hJx (And.intro hY hXB))))
  have hBV := blk_lt kB
  have h00 : Hid (∃ X1 pre, GrowX X X1 V V ∧ Fr (fun k => X k ∨ k = B) V V ∧ J pre X1 V ∧ pre ++ linesL s.data.toList = linesL s.data.toList ∧ V.heap[B]? = some (.cells #[.string s] 9 (0, 0))) :=
    ⟨X, [], GrowX.refl fun k hk => (hX k hk).1, Fr.refl _ _, h0, rfl, kB⟩
  clear hb hsm hYl hX hJ hJx hY h0 kB hXB
  refine (callsIn_wide (n := 20)).1 ?_
  refine callsIn_of_wp Try.func30 rfl trivial ?_ rfl
  simp only [Try.ntmps30, List.size_toArray, List.length_cons, List.length_nil, Nat.reduceAdd, Nat.reduceSub, Array.replicate_succ, Array.replicate_zero, List.push_toArray, List.append_toArray, List.nil_append, List.cons_append]
  gi_wp2_with fail
  gi_loopg [3] s.size (fun r _ wr => ∃ R : ByteArray, r = R.size ∧ R.size ≤ s.size ∧ Hid (∃ X1 pre, GrowX X X1 V wr ∧ Fr (fun k => X k ∨ k = B) V wr ∧ J pre X1 wr ∧ pre ++ linesL R.data.toList = linesL s.data.toList ∧ wr.heap[B]? = some (.cells #[.string R] 9 (0, 0)))) 
  case atStart => exact ⟨s, rfl, Nat.le_refl _, h00⟩
  case round =>
    clear h00
    obtain ⟨R, hr, hRs, HR⟩ := hrel
    have HG := Lib.hid hr
    clear hr
    obtain ⟨X1, pre, g1, f1, j1, hsp, kB⟩ := HR.out
    have c0 := blk_cell kB 0
    have z0 := blk_free kB 0
    have HR1 := Lib.hid (And.intro g1 (And.intro f1 (And.intro j1 (And.intro hsp kB))))
    clear g1 f1 j1 hsp kB HR
    by_cases hpos : 0 < R.size
    · have hix := fun W => Try.strings_IndexByte R 10 W
      have h10 : ((10 : Int).toNat.toUInt8) = 10 := rfl
      simp only [h10] at hix
      have hge := Lib.indexByte_ge R.data.toList 10
      have hp0 : (0 : Int) < (R.size : Int) := by omega
      by_cases hno : Lib.indexByte R.data.toList 10 = -1
      · rw [hno] at hix
        have HIX := Lib.hid hix
        have HNO := Lib.hid (lines_none' R hno hpos)
        clear hno hge hix
        obtain ⟨hX, hJ, hJx, hY, hXB⟩ := H.out
        obtain ⟨g1, f1, j1, hsp, kB⟩ := HR1.out
        have hX1B : ¬ X1 B := fun e => hXB ((g1 B e).2 hBV)
        obtain ⟨W4, hW4⟩ : ∃ W4, wr.setCell ⟨B, 0, none⟩ (.string { data := #[] }) = W4 := ⟨_, rfl⟩
        have fB : Fr (fun k => k = B) wr W4 := by rw [← hW4]; exact Fr.setCell (X := fun k => k = B) (Fr.refl _ _) ⟨B, 0, none⟩ rfl _
        have zB : W4.heap.size = wr.heap.size := by rw [← hW4]; simp
        have kB4 : W4.heap[B]? = some (.cells #[.string ({ data := #[] } : ByteArray)] 9 (0, 0)) := by rw [← hW4]; exact blk_set kB 0 _
        have j4 : J pre X1 W4 := hJ.fr j1 (fun k hk => (g1 k hk).1) fB fun k e h => hX1B (e ▸ h)
        have g4 : GrowX X X1 V W4 := fun k hk => ⟨by rw [zB]; exact (g1 k hk).1, (g1 k hk).2⟩
        have f4 : Fr (fun k => X k ∨ k = B) V W4 := f1.trans3 fB fun k _ e => .inr e
        have hsp4 : pre ++ R.data.toList :: linesL ({ data := #[] } : ByteArray).data.toList = linesL s.data.toList := by rw [← hsp, HNO.out]; rfl
        have hyy := hY pre R.data.toList _ X1 W4 hsp4 g4 j4 f4
        obtain ⟨fn, tmps, assign, body, hy, hRd⟩ := hyy
        simp only [encL, bs_of] at hy
        rw [← hW4] at hy
        have HP := Lib.hid (And.intro g4 (And.intro f4 (And.intro hsp4 (And.intro kB4 (And.intro hX1B (And.intro hJx hW4))))))
        clear hX hJ hJx hY hXB g1 f1 j1 hsp kB hX1B hW4 fB zB kB4 j4 g4 f4 hsp4
        gi_wp2_with fail
        refine ⟨trivial, (calls_wide (.inl rfl) (HIX.out _)).mono ?_⟩
        rintro e w' ⟨rfl, rfl⟩
        gi_wp2_with fail
        rw [← HP.out.2.2.2.2.2.2] at hRd
        refine (round_wide (.inl rfl) hRd).mono ?_
        rintro e W5 ⟨X2, g2, f2, (⟨rfl, hJ3⟩ | ⟨rfl, hJx3⟩)⟩
        · obtain ⟨g4, f4, hsp4, kB4, hX1B, hJx, hW4⟩ := HP.out
          rw [hW4] at g2 f2
          have HN : Hid (∃ X1 pre, GrowX X X1 V W5 ∧ Fr (fun k => X k ∨ k = B) V W5 ∧ J pre X1 W5 ∧ pre ++ linesL ({ data := #[] } : ByteArray).data.toList = linesL s.data.toList ∧ W5.heap[B]? = some (.cells #[.string ({ data := #[] } : ByteArray)] 9 (0, 0))) :=
            ⟨X2, _, g4.trans g2 f4.size, f4.trans3 f2 fun k hk e => .inl ((g4 k e).2 hk), hJ3, by simpa using hsp4, f2.blk kB4 hX1B⟩
          clear g4 f4 hsp4 kB4 hX1B hJx hW4 g2 f2 hJ3 hRd hy
          gi_wp2_with fail
          gi_roundg ({ data := #[] } : ByteArray).size
          case measure => rw [HG.out]; first | exact hpos | (simp; omega)
          case rel => exact ⟨({ data := #[] } : ByteArray), rfl, by first | exact Nat.zero_le _ | (simp; omega), HN⟩
        · obtain ⟨g4, f4, hsp4, kB4, hX1B, hJx, hW4⟩ := HP.out
          rw [hW4] at g2 f2
          have HN : Hid (∃ X2, GrowX X X2 V W5 ∧ Fr (fun k => X k ∨ k = B) V W5 ∧ ∃ pre r, pre ++ r = linesL s.data.toList ∧ Jx pre X2 W5) :=
            ⟨X2, g4.trans g2 f4.size, f4.trans3 f2 fun k hk e => .inl ((g4 k e).2 hk), _, linesL ({ data := #[] } : ByteArray).data.toList, by simpa using hsp4, hJx3⟩
          clear g4 f4 hsp4 kB4 hX1B hJx hW4 g2 f2 hJx3 hRd hy
          gi_wp2_with fail
          refine bodyPost_ret (results_none rfl _ _ _) rfl ?_
          obtain ⟨X3, a1, a2, a3⟩ := HN.out
          exact ⟨⟨_, rfl⟩, X3, a1, a2, .inr a3⟩
      · obtain ⟨o, ho⟩ : ∃ o : Nat, Lib.indexByte R.data.toList 10 = o := ⟨(Lib.indexByte R.data.toList 10).toNat, by omega⟩
        rw [ho] at hix
        have HIX := Lib.hid hix
        have hls := lines_some' R o ho
        have hoR := hls.1
        have HLS := Lib.hid hls.2
        clear hno hge hix ho hls
        have hw1 : IntKind.i64.wrap ((o : Int) + 1) = (o : Int) + 1 := IntWalk.i64_in _ (by omega)
        have hw2 : 0 ≤ (o : Int) + 1 := by omega
        have hw3 : ((o : Int) + 1).toNat = o + 1 := by omega
        have hw4 : (o : Int) + 1 ≤ (R.size : Int) := by omega
        have hw5 : o + 1 ≤ R.size := by omega
        obtain ⟨hX, hJ, hJx, hY, hXB⟩ := H.out
        obtain ⟨g1, f1, j1, hsp, kB⟩ := HR1.out
        have hX1B : ¬ X1 B := fun e => hXB ((g1 B e).2 hBV)
        obtain ⟨W4, hW4⟩ : ∃ W4, (wr.setCell ⟨B, 0, none⟩ (.string (R.extract (o + 1) R.size))).drew = W4 := ⟨_, rfl⟩
        have fB : Fr (fun k => k = B) wr W4 := by rw [← hW4]; exact (Fr.setCell (X := fun k => k = B) (Fr.refl _ _) ⟨B, 0, none⟩ rfl _).drew
        have zB : W4.heap.size = wr.heap.size := by rw [← hW4]; simp
        have kB4 : W4.heap[B]? = some (.cells #[.string (R.extract (o + 1) R.size)] 9 (0, 0)) := by rw [← hW4]; exact blk_drew (blk_set kB 0 _)
        have j4 : J pre X1 W4 := hJ.fr j1 (fun k hk => (g1 k hk).1) fB fun k e h => hX1B (e ▸ h)
        have g4 : GrowX X X1 V W4 := fun k hk => ⟨by rw [zB]; exact (g1 k hk).1, (g1 k hk).2⟩
        have f4 : Fr (fun k => X k ∨ k = B) V W4 := f1.trans3 fB fun k _ e => .inr e
        have hsp4 : pre ++ (R.extract 0 (o + 1)).data.toList :: linesL (R.extract (o + 1) R.size).data.toList = linesL s.data.toList := by rw [← hsp, HLS.out]
        have hyy := hY pre (R.extract 0 (o + 1)).data.toList _ X1 W4 hsp4 g4 j4 f4
        obtain ⟨fn, tmps, assign, body, hy, hRd⟩ := hyy
        simp only [encL, bs_of] at hy
        rw [← hW4] at hy
        have HP := Lib.hid (And.intro g4 (And.intro f4 (And.intro hsp4 (And.intro kB4 (And.intro hX1B (And.intro hJx hW4))))))
        clear hX hJ hJx hY hXB g1 f1 j1 hsp kB hX1B hW4 fB zB kB4 j4 g4 f4 hsp4
        gi_wp2_with fail
        refine ⟨trivial, (calls_wide (.inl rfl) (HIX.out _)).mono ?_⟩
        rintro e w' ⟨rfl, rfl⟩
        gi_wp2_with fail
        gi_region
        clear hw1 hw2 hw3 hw4
        gi_wp2_with fail
        rw [← HP.out.2.2.2.2.2.2] at hRd
        refine (round_wide (.inl rfl) hRd).mono ?_
        rintro e W5 ⟨X2, g2, f2, (⟨rfl, hJ3⟩ | ⟨rfl, hJx3⟩)⟩
        · obtain ⟨g4, f4, hsp4, kB4, hX1B, hJx, hW4⟩ := HP.out
          rw [hW4] at g2 f2
          have HN : Hid (∃ X1 pre, GrowX X X1 V W5 ∧ Fr (fun k => X k ∨ k = B) V W5 ∧ J pre X1 W5 ∧ pre ++ linesL (R.extract (o + 1) R.size).data.toList = linesL s.data.toList ∧ W5.heap[B]? = some (.cells #[.string (R.extract (o + 1) R.size)] 9 (0, 0))) :=
            ⟨X2, _, g4.trans g2 f4.size, f4.trans3 f2 fun k hk e => .inl ((g4 k e).2 hk), hJ3, by simpa using hsp4, f2.blk kB4 hX1B⟩
          clear g4 f4 hsp4 kB4 hX1B hJx hW4 g2 f2 hJ3 hRd hy
          gi_wp2_with fail
          gi_roundg (R.extract (o + 1) R.size).size
          case measure => rw [HG.out]; first | exact hpos | (simp; omega)
          case rel => exact ⟨(R.extract (o + 1) R.size), rfl, by first | exact Nat.zero_le _ | (simp; omega), HN⟩
        · obtain ⟨g4, f4, hsp4, kB4, hX1B, hJx, hW4⟩ := HP.out
          rw [hW4] at g2 f2
          have HN : Hid (∃ X2, GrowX X X2 V W5 ∧ Fr (fun k => X k ∨ k = B) V W5 ∧ ∃ pre r, pre ++ r = linesL s.data.toList ∧ Jx pre X2 W5) :=
            ⟨X2, g4.trans g2 f4.size, f4.trans3 f2 fun k hk e => .inl ((g4 k e).2 hk), _, linesL (R.extract (o + 1) R.size).data.toList, by simpa using hsp4, hJx3⟩
          clear g4 f4 hsp4 kB4 hX1B hJx hW4 g2 f2 hJx3 hRd hy
          gi_wp2_with fail
          refine bodyPost_ret (results_none rfl _ _ _) rfl ?_
          obtain ⟨X3, a1, a2, a3⟩ := HN.out
          exact ⟨⟨_, rfl⟩, X3, a1, a2, .inr a3⟩
    · have hp0 : ¬ ((0 : Int) < (R.size : Int)) := by omega
      gi_wp2_with fail
      go_end0
      obtain ⟨g1, f1, j1, hsp, kB⟩ := HR1.out
      have hnil : R.data.toList = [] := str_nil (by omega)
      rw [hnil] at hsp
      have : linesL [] = [] := rfl
      rw [this, List.append_nil] at hsp
      exact ⟨⟨_, rfl⟩, X1, g1, f1, .inl (hsp ▸ j1)⟩
end Go.Proofs.Ytadbpgkhenbpfaa
end
section
/- Layer 8: the lines that wait whole. -/
namespace Go.Proofs.Ytadbpgkhenbpfaa
set_option linter.unusedVariables false
set_option linter.unusedSimpArgs false
open Go Go.RowKit Go.Lib Go.Sort Go.Shelf
attribute [local go_sem] Oper.semAt_some

/-- a line without what ends it -/
def trimQ (x : List UInt8) : List UInt8 := Lib.trimSuffix x [13, 10]
/-- the lines that wait whole -/
def wholeQ (s : QS) : List (List UInt8) := ((linesL s.ws).drop (if s.parted then 1 else 0)).map trimQ
def LinesP (zs : List (List UInt8)) (w : World) (e : Ending) (w' : World) : Prop := (∃ F, e = .returned F ∧ TaleT w.heap.size w' F zs) ∧ RowKit.Below w.heap.size w w'
theorem q_lines_nil (w : World) : Calls Try.prog 20 #[.pointer none] w (LinesP [] w) := by
  go_enter Try.func20, Try.ntmps20
  go_wp2_with fail
  refine (values_callsT none 0 0 _).mono ?_
  intro e w1 h
  obtain ⟨F, rfl, h1, h2⟩ := tale_ofT (base := w.heap.size) (by simp) (ownT_nil _ _) h
  have hb : RowKit.Below w.heap.size w w1 := ((Below.refl _ w).alloc (Nat.le_refl _) _).trans (h2.mono (by simp))
  have H := Lib.hid (And.intro h1 hb)
  clear h h1 h2 hb
  go_wp2_with fail
  go_ret
  exact ⟨⟨F, rfl, H.out.1⟩, H.out.2⟩
theorem str_lines (s : ByteArray) (w : World) : Calls Try.prog 25 #[.string s] w fun e w' => e = .returned (.func (.func 30) #[] #[.pointer (some ⟨w.heap.size, 0, none⟩)]) ∧ w' = w.alloc (.cells #[.string s] 9) := by
  go_enter Try.func25, Try.ntmps25
  go_wp2_with fail
  go_ret
  exact ⟨rfl, rfl⟩
theorem trim_any (x : List UInt8) (hx : x.length ≤ 1000000) (w : World) : Calls Try.prog 26 #[.string (bs x), .string ⟨#[13, 10]⟩] w fun e w' => e = .returned (.string (bs (trimQ x))) ∧ w' = w :=
  Try.strings_TrimSuffix (bs x) ⟨#[13, 10]⟩ w (by rw [bs_size]; omega)
theorem lines_size : ∀ (l cur : List UInt8), ∀ x ∈ linesAux cur l, x.length ≤ cur.length + l.length
  | [], cur, x, hx => by
    unfold linesAux at hx
    split at hx
    · cases hx
    · rw [List.mem_singleton] at hx; subst hx; exact Nat.le_add_right _ _
  | b :: r, cur, x, hx => by
    unfold linesAux at hx
    split at hx
    · rcases List.mem_cons.1 hx with rfl | hx
      · first | (simp; done) | (simp; omega)
      · have := lines_size r [] x hx; simp at this ⊢; omega
    · have := lines_size r _ x hx; simp at this ⊢; omega
theorem lines_count : ∀ (l cur : List UInt8), (linesAux cur l).length ≤ l.length + 1
  | [], cur => by unfold linesAux; split <;> simp
  | b :: r, cur => by
    unfold linesAux
    split
    · have := lines_count r []; simp; omega
    · have := lines_count r (cur ++ [b]); simp; omega
theorem tale_markT {base D : Nat} {w w' : World} {F : Value} {xs : List (List UInt8)} {ds : List Deferred} (h : TaleT base w F xs) (hd : w.heap[D]? = some (.deferred (some ds))) (hf : Fr (fun k => k = D) w w') : TaleT base w' F xs := by
  obtain ⟨B, v, h1, h2, h3, h4, h5⟩ := h
  refine ⟨B, v, h1, h2, hf.blk h3 (fun e => by subst e; rw [h3] at hd; cases hd), h4, ownT_kept h5 fun g hg => hf.block g (h5.lt g hg).2 fun e => ?_⟩
  obtain ⟨o, a, b⟩ := own_cells h5 g hg
  subst e
  rw [hd] at a; cases a; cases b
/-- one text more, as the run of append -/
theorem app_text {W0 W : World} {base : Nat} {v : Value} {ys : List (List UInt8)} {N : Nat} {y : List UInt8} (ho : OwnT base W0 v ys) (hb : base ≤ W0.heap.size) (hl : ys.length ≤ 2000000)
    (hf : Fr (fun _ => False) W0 W) (hc : W.cell? ⟨N, 0, none⟩ = some (.string (bs y))) :
    ∃ A c W', (Builtin.append_ #[31, 31] 31 #[v, .slice (some ⟨N, 0, none⟩) 1 1]).run Try.prog W = .ok (.slice A (ys.length + 1) c) W' ∧ OwnT base W' (.slice A (ys.length + 1) c) (ys ++ [y]) ∧ Fr (fun k => v.ownBlock = some k) W0 W' ∧ ∀ k, (Value.slice A (ys.length + 1) c).ownBlock = some k → v.ownBlock = some k ∨ W0.heap.size ≤ k := by
  obtain ⟨i0, hi, hz0, hz1, hz2⟩ := info_parts Try.infoT
  have ho' : OwnT base W v ys := ownT_kept ho fun g hg => hf.block g (ho.lt g hg).2 fun e => e
  have hs := hf.size
  obtain ⟨v', w', hr, r1, r2, r3⟩ := run_app_any (P := Try.prog) W base 31 31 31 9 i0 _ 1 16 Try.underlying31 hi hz0 hz1 hz2 rfl v ys.length (ys.map encT) ho' (.slice (some ⟨N, 0, none⟩) 1 1) 1 [encT y]
    (Src.ofSlice W Try.underlying31 ⟨N, 0, none⟩ 1 1 [encT y] rfl (fun j u hu => by
      match j, hu with
      | 0, hu => simp at hu; subst hu; rw [add_at]; exact hc) (by intro u hu; simp at hu; subst hu; rfl)) (by unfold maxLen; omega) (by omega) (by omega)
  obtain ⟨A, c, rfl⟩ := row_slice r1
  exact ⟨A, c, w', hr, ownT_snoc r1, (hf.mono (Y := fun k => v.ownBlock = some k) fun _ _ e => e.elim).trans3 r2 fun _ _ e => e, fun k hk => (r3 k hk).imp id fun e => by omega⟩
/-- what the loop over the lines has come to -/
def WhG (S Pb : Nat) (parted : Bool) (pre : List (List UInt8)) (X : Nat → Prop) (W : World) : Prop :=
  ∃ v, W.heap[S]? = some (.cells #[v] 31 (0, 0)) ∧ W.heap[Pb]? = some (.cells #[.bool (parted && pre.isEmpty)] 4 (0, 0)) ∧ OwnT (Pb + 1) W v ((pre.drop (if parted then 1 else 0)).map trimQ) ∧ S < Pb ∧ ∀ k, X k ↔ (k = S ∨ k = Pb ∨ v.ownBlock = some k)
theorem whG_stays (S Pb : Nat) (parted : Bool) : Stays (WhG S Pb parted) := fun pre X V V' ⟨v, h1, h2, h3, h4, h5⟩ hl hf =>
  ⟨v, hf.blk h1 (fun e => e ((h5 S).2 (.inl rfl))), hf.blk h2 (fun e => e ((h5 Pb).2 (.inr (.inl rfl)))), ownT_kept h3 fun g hg => hf.block g (h3.lt g hg).2 fun e => e ((h5 g).2 (.inr (.inr hg))), h4, h5⟩
set_option maxRecDepth 100000 in
set_option maxHeartbeats 8000000 in
theorem q_lines {base : Nat} {w : World} {q : Nat} {ob : Option Nat} {s : QS} (h : QAt base w q ob s) (hl : s.ws.length ≤ 1000000) :
    Calls Try.prog 20 #[.pointer (some ⟨q, 0, none⟩)] w (LinesP (wholeQ s) w) := by
  obtain ⟨i0, hi, hz0, hz1, hz2⟩ := info_parts Try.infoT
  obtain ⟨most, ws, sent, parted, over⟩ := s
  obtain ⟨v, h1, ho, h3, h4⟩ := h
  obtain ⟨A, c, rfl⟩ := row_slice h3
  dsimp only at hl h1 h3
  obtain ⟨W2, hW2⟩ : ∃ W2, (w.alloc (.cells #[.slice none 0 0] 31)).alloc (.cells #[.bool parted] 4) = W2 := ⟨_, rfl⟩
  have f2 : Fr (fun _ => False) w W2 := by rw [← hW2]; exact ((Fr.refl _ _).alloc _).alloc _
  have z2 : W2.heap.size = w.heap.size + 2 := by rw [← hW2]; simp
  have kS : W2.heap[w.heap.size]? = some (.cells #[.slice none 0 0] 31 (0, 0)) := by rw [← hW2]; exact blk_alloc (heap_alloc_new w _) _
  have kP : W2.heap[w.heap.size + 1]? = some (.cells #[.bool parted] 4 (0, 0)) := by
    rw [← hW2]
    have := heap_alloc_new (w.alloc (.cells #[.slice none 0 0] 31)) (.cells #[.bool parted] 4)
    rwa [World.size_alloc] at this
  have hcv := conv_ownB (ownB_kept h3 fun g hg => f2.block g (h3.lt g hg).2 fun e => e : OwnB base W2 (.slice A ws.length c) ws)
  rw [← hW2] at hcv
  have d1 := blk_cell (blk_alloc (blk_alloc h1 (.cells #[.slice none 0 0] 31)) (.cells #[.bool parted] 4)) 1
  have d3 := blk_cell (blk_alloc h1 (.cells #[.slice none 0 0] 31)) 3
  have HL := Lib.hid (str_lines (bs ws) W2)
  have H := Lib.hid (And.intro f2 (And.intro z2 (And.intro kS (And.intro kP hW2))))
  clear h1 ho h3 h4 hW2 f2 z2 kS kP
  refine (callsIn_wide (n := 20)).1 ?_
  refine callsIn_of_wp_marks Try.func20 rfl trivial ?_ rfl
  simp only [Try.ntmps20, List.size_toArray, List.length_cons, List.length_nil, Nat.reduceAdd, Nat.reduceSub, Array.replicate_succ, Array.replicate_zero, List.push_toArray, List.append_toArray, List.nil_append, List.cons_append]
  gi_wp2_with fail
  rw [H.out.2.2.2.2]
  refine ⟨trivial, (calls_wide (.inl rfl) HL.out).mono ?_⟩
  rintro e w3 ⟨rfl, rfl⟩
  clear hcv d1 d3
  gi_wp2_with fail
  obtain ⟨f2, z2, kS, kP, hW2⟩ := H.out
  obtain ⟨W3, hW3⟩ : ∃ W3, W2.alloc (.cells #[.string (bs ws)] 9) = W3 := ⟨_, rfl⟩
  have kB : W3.heap[w.heap.size + 2]? = some (.cells #[.string (bs ws)] 9 (0, 0)) := by rw [← hW3, ← z2]; exact heap_alloc_new _ _
  have f3 : Fr (fun _ => False) W2 W3 := by rw [← hW3]; exact (Fr.refl _ _).alloc _
  have z3 : W3.heap.size = w.heap.size + 3 := by rw [← hW3]; simp [z2]
  have kS3 := f3.blk kS fun e => e
  have kP3 := f3.blk kP fun e => e
  have hseq := lines_seqZ (w.heap.size + 2) (bs ws) W3 (by rw [bs_size]; exact hl) kB
  rw [bs_toList] at hseq
  rw [hW3, z2]
  have HE := Lib.hid (And.intro f2 (And.intro f3 (And.intro z3 (And.intro kS3 kP3))))
  clear hW2 hW3 kS kP kB z2
  refine wpIn_rangeZ (X := fun k => k = w.heap.size ∨ k = w.heap.size + 1) (Y := fun _ => False) (Z := fun k => k = w.heap.size + 2) (xs := linesL ws) (encs := encL) (WhG w.heap.size (w.heap.size + 1) parted) (fun _ _ _ _ => False)
    rfl hseq (fun k hk => ⟨by omega, by rintro (e | e); exact e; omega⟩) (fun b hb => by rcases hb with e | e; exact e.elim; omega) (by omega) (enters_of Try.func30 (by kernel_rfl) rfl) (fun _ => rfl)
    (whG_stays _ _ _) (fun c s X1 V1 V2 h => h.elim) ⟨_, kS3, by simpa using kP3, by simpa using ownT_nil _ _, by omega, fun k => by simp [Value.ownBlock]⟩ ?round ?done (fun _ _ _ _ _ _ _ _ _ _ _ h => h.elim)
  case round =>
    rintro l pre x r X1 V K rb hl2 hpx hI hG hxl hF hlV hK
    dsimp only [encL]
    have HK := Lib.hid hK
    have HV := Lib.hid (And.intro hpx (And.intro hI (And.intro hG (And.intro hxl (And.intro hF (And.intro hlV hl2))))))
    clear hK hpx hI hG hxl hF hlV hl2 hseq f2 f3 z3 kS3 kP3
    gi_wp2_with fail
    refine HK.out _ _ (Fr.refl _ _) fun Vb hfb hzb hsb hrb => ?_
    clear HK K
    obtain ⟨hpx, ⟨vb, k3, k4, o3, hSP, hX1⟩, hG, hxl, hF, hlV, hl2⟩ := HV.out
    have z3 := HE.out.2.2.1
    have hxs : x.length ≤ 1000000 := by
      have := lines_size ws [] x (by show x ∈ linesL ws; rw [← hpx]; simp)
      simp at this; omega
    have k3b := hfb.blk k3 (by omega : ¬ w.heap.size = l)
    have k4b := hfb.blk k4 (by omega : ¬ w.heap.size + 1 = l)
    have o3b : OwnT (w.heap.size + 1 + 1) Vb vb ((pre.drop (if parted then 1 else 0)).map trimQ) := ownT_kept o3 fun g hg => hfb.block g (o3.lt g hg).2 fun e => hxl ((hX1 l).2 (.inr (.inr (e ▸ hg))))
    obtain ⟨b, hb⟩ : ∃ b, (parted && pre.isEmpty) = b := ⟨_, rfl⟩
    rw [hb] at k4b
    have c3 := blk_cell k3b 0
    have g3 := blk_free k3b 0
    have c4 := blk_cell k4b 0
    have g4 := blk_free k4b 0
    have hpl : pre.length ≤ 1000001 := by
      have h1 := lines_count ws []
      have h2 : (pre ++ x :: r).length = (linesAux [] ws).length := by rw [hpx]; rfl
      rw [List.length_append] at h2
      omega
    obtain ⟨ys, hys⟩ : ∃ ys, (pre.drop (if parted then 1 else 0)).map trimQ = ys := ⟨_, rfl⟩
    rw [hys] at o3b
    have hyl : ys.length ≤ 2000000 := by rw [← hys, List.length_map, List.length_drop]; omega
    have hzs : Vb.heap.size = V.heap.size := hzb
    have hbz : w.heap.size + 1 + 1 ≤ Vb.heap.size := by omega
    have HS := Lib.hid (And.intro hX1 (And.intro hG (And.intro hxl (And.intro hfb (And.intro hrb (And.intro k3b (And.intro k4b (And.intro o3b (And.intro hys (And.intro hb (And.intro hzs (And.intro hlV hl2))))))))))))
    have hvS : vb.ownBlock ≠ some w.heap.size := fun e => by have := (o3b.lt _ e).1; omega
    have hvP : vb.ownBlock ≠ some (w.heap.size + 1) := fun e => by have := (o3b.lt _ e).1; omega
    obtain ⟨A1, n1, W4, hrun, o4, f4, t4⟩ := app_text (W := (Vb.alloc (.cells #[.string (bs (trimQ x))] 9)).drew) (N := Vb.heap.size) (y := trimQ x) o3b hbz hyl ((Fr.refl _ _).alloc _).drew (blk_cell (blk_drew (heap_alloc_new _ _)) 0)
    have k5 := f4.blk k3b hvS
    have k6 := f4.blk k4b hvP
    obtain ⟨Av, cv, ev⟩ := row_slice o3b
    subst ev
    have k7 : ((Vb.alloc (.cells #[.string (bs (trimQ x))] 9)).drew).heap[w.heap.size]? = _ := blk_drew (blk_alloc k3b _)
    have c7 := blk_cell k7 0
    have c8 := blk_cell (blk_alloc k3b (.cells #[.string (bs (trimQ x))] 9)) 0
    have c5 := blk_cell k5 0
    have g5 := blk_free k5 0
    have c6 := blk_cell k6 0
    have g6 := blk_free k6 0
    have HA := Lib.hid (And.intro o4 (And.intro f4 (And.intro t4 (And.intro k5 k6))))
    have hrun2 : (Sem.run Try.prog (Builtin.append_ #[31, 31] 31 #[.slice Av ys.length cv, .slice (some ⟨Vb.heap.size, 0, none⟩) 1 1]) (Vb.alloc (.cells #[.string (bs (trimQ x))] 9)).drew).andThen (fun a w' => Result.ok (Next.value a) w') = .ok (.value (.slice A1 (ys.length + 1) n1)) W4 := by rw [hrun]; rfl
    simp [go_sem] at hrun2
    clear hpx k3 k4 o3 hSP hX1 hG hxl hF hlV hl2 k3b k4b o3b hb hys hfb hzb hsb hrb hzs hrun o4 f4 t4 k5 k6 k7 hvS hvP
    cases b with
    | true =>
      clear hrun2 c5 g5 c6 g6 c7 c8
      gi_wp2_with fail
      obtain ⟨hX1, hG, hxl, hfb, hrb, k3b, k4b, o3b, hys, hb, hzs, hlV, hl2⟩ := HS.out
      have hz0 := HE.out.2.2.1
      have hdrop : ((pre ++ [x]).drop (if parted then 1 else 0)).map trimQ = ys := by
        simp only [Bool.and_eq_true, List.isEmpty_iff] at hb
        obtain ⟨rfl, rfl⟩ := hb
        rw [← hys]; rfl
      have hem : (parted && (pre ++ [x]).isEmpty) = false := by simp
      have hne : ∀ j, (Value.slice Av ys.length cv).ownBlock = some j → j ≠ w.heap.size + 1 := fun j hj e => by have := (o3b.lt j hj).1; omega
      refine ⟨X1, fun k hk => ⟨by have := (hG k hk).1; simp; omega, fun _ => hk⟩, (hfb.mono (Y := fun k => k = l ∨ X1 k) fun k _ e => .inl e).setCell ⟨w.heap.size + 1, 0, none⟩ (.inr ((hX1 _).2 (.inr (.inl rfl)))) _, blk_other hrb _ (by simp; omega) _, .slice Av ys.length cv, blk_other k3b _ (by simp) _, ?_, ?_, by omega, hX1⟩
      · rw [hem]; exact blk_set k4b 0 (.bool false)
      · rw [hdrop]; exact ownT_kept o3b fun g hg => heap_setCell_other _ _ g _ (hne g hg)
    | false =>
      gi_wp2_with fail
      gi_region_with (first | (refine ⟨trivial, ?_⟩; gi_at_call 26; refine (calls_wide (.inr ⟨l, rfl⟩) (trim_any x hxs _)).mono ?_; rintro e w1 ⟨rfl, rfl⟩) | fail)
      all_goals
        clear hrun2
        gi_wp2_with fail
      all_goals
        obtain ⟨hX1, hG, hxl, hfb, hrb, k3b, k4b, o3b, hys, hb, hzs, hlV, hl2⟩ := HS.out
        obtain ⟨o4, f4, t4, k5, k6⟩ := HA.out
        have hz0 := HE.out.2.2.1
        have hdrop : ((pre ++ [x]).drop (if parted then 1 else 0)).map trimQ = ys ++ [trimQ x] := by
          rw [← hys]
          cases parted with
          | false => simp
          | true =>
            have hp : pre ≠ [] := fun e => by subst e; simp at hb
            have : 1 ≤ pre.length := by cases pre with | nil => exact absurd rfl hp | cons a r => simp
            simp only [if_true]
            rw [List.drop_append_of_le_length this, List.map_append]; rfl
        have hem : (parted && (pre ++ [x]).isEmpty) = false := by simp
        have hne : ∀ j, (Value.slice A1 (ys.length + 1) n1).ownBlock = some j → j ≠ w.heap.size ∧ j ≠ w.heap.size + 1 := fun j hj => by have := (o4.lt j hj).1; omega
        have hvl : (Value.slice Av ys.length cv).ownBlock ≠ some l := fun e => hxl ((hX1 l).2 (.inr (.inr e)))
        refine ⟨fun k => k = w.heap.size ∨ k = w.heap.size + 1 ∨ (Value.slice A1 (ys.length + 1) n1).ownBlock = some k, fun k hk => ?_, ?_, blk_other (blk_other (f4.blk hrb hvl) _ (by simp; omega) _) _ (by simp; omega) _, .slice A1 (ys.length + 1) n1, blk_other (blk_set k5 0 _) _ (by simp) _, ?_, ?_, by omega, fun k => Iff.rfl⟩
        · have hsz : ((W4.setCell ⟨w.heap.size, 0, none⟩ (.slice A1 (ys.length + 1) n1)).setCell ⟨w.heap.size + 1, 0, none⟩ (.bool false)).heap.size = W4.heap.size := by simp
          rw [hsz]
          rcases hk with rfl | rfl | hk
          · exact ⟨blk_lt k5, fun _ => (hX1 _).2 (.inl rfl)⟩
          · exact ⟨blk_lt k6, fun _ => (hX1 _).2 (.inr (.inl rfl))⟩
          · refine ⟨(o4.lt k hk).2, fun hlt => ?_⟩
            rcases t4 k hk with e | e
            · exact (hX1 k).2 (.inr (.inr e))
            · omega
        · exact ((((hfb.mono (Y := fun k => k = l ∨ X1 k) fun k _ e => .inl e).trans3 f4 fun k _ e => .inr ((hX1 k).2 (.inr (.inr e)))).setCell ⟨w.heap.size, 0, none⟩ (.inr ((hX1 _).2 (.inl rfl))) _)).setCell ⟨w.heap.size + 1, 0, none⟩ (.inr ((hX1 _).2 (.inr (.inl rfl)))) _
        · rw [hem]; exact blk_set (blk_other k6 _ (by simp) _) 0 (.bool false)
        · rw [hdrop]; exact ownT_kept o4 fun g hg => (heap_setCell_other _ _ g _ (hne g hg).2).trans (heap_setCell_other _ _ g _ (hne g hg).1)
  case done =>
    rintro D X2 V hD hxD hG hF ⟨v, k3, k4, o3, hSP, hX2⟩ hdef
    obtain ⟨f2, f3, z3, kS3, kP3⟩ := HE.out
    obtain ⟨zs, hzs⟩ : ∃ zs, ((linesL ws).drop (if parted then 1 else 0)).map trimQ = zs := ⟨_, rfl⟩
    rw [hzs] at o3
    have hwq : wholeQ ⟨most, ws, sent, parted, over⟩ = zs := hzs
    obtain ⟨Av, cv, ev⟩ := row_slice o3
    subst ev
    have c3 := blk_cell k3 0
    have hBV : RowKit.Below w.heap.size w V := ((((f2.trans3 f3 fun _ _ e => e).mono (Y := fun k => (k = w.heap.size ∨ k = w.heap.size + 1) ∨ k = w.heap.size + 2) fun _ _ e => e.elim)).trans3 hF fun k _ e => e).below (Nat.le_refl _) fun k hk e => by omega
    have HV := Lib.hid (values_callsT Av zs.length cv V)
    have HD := Lib.hid (And.intro o3 (And.intro hBV (And.intro hdef (And.intro hD (And.intro hwq z3)))))
    clear hseq f2 f3 z3 kS3 kP3 hzs hwq k3 k4 o3 hSP hX2 hdef hG hF hxD hBV hD
    gi_wp2_with fail
    refine ⟨trivial, (calls_wide (.inl rfl) HV.out).mono ?_⟩
    intro e w4 hv
    obtain ⟨o3, hBV, hdef, hD, hwq, z3⟩ := HD.out
    obtain ⟨F, rfl, hT, hb4⟩ := tale_ofT (base := w.heap.size) hBV.size (ownT_base o3 (by omega)) hv
    have hd4 := (hb4.block D (blk_lt hdef)).trans hdef
    have HF := Lib.hid (And.intro hT (And.intro (hBV.trans (hb4.mono hBV.size)) (And.intro hd4 (And.intro hD (And.intro hwq (And.intro o3 (And.intro z3 hv)))))))
    clear o3 hBV hdef hD hwq hT hb4 hd4 z3 hv
    gi_wp2_with fail
    obtain ⟨hT, hb, hd4, hD, hwq, o3, z3, hv⟩ := HF.out
    rw [hwq]
    exact leaves_one D _ hd4 fun w' hf => ⟨_, results_tmp rfl _ _ _, ⟨F, rfl, tale_markT hT hd4 hf⟩, hb.trans (hf.below hb.size fun k _ e => by omega)⟩
end Go.Proofs.Ytadbpgkhenbpfaa
end
section
/- Layer 8: awake; the law's lines. -/
namespace Go.Proofs.Ytadbpgkhenbpfaa
set_option linter.unusedVariables false
set_option linter.unusedSimpArgs false
open Go Go.RowKit Go.Lib Go.Sort Go.Shelf
attribute [local go_sem] Oper.semAt_some

/-- a queue at q, of whatever blocks above base -/
def QIs (base : Nat) (W : World) (q : Nat) (s : QS) : Prop := base ≤ q ∧ ∃ ob, QAt base W q ob s
theorem qi_push {base : Nat} {w : World} {q : Nat} {s : QS} (h : QIs base w q s) (hbw : base ≤ w.heap.size) (hm : 0 ≤ s.most) (hm2 : s.most ≤ 65536) (hl : s.ws.length ≤ 100000) (l : ByteArray) (hll : l.size ≤ 1000000) {b : Bool} {s' : QS} (hb : pushB s l.data.toList = b) (hs : pushS s l.data.toList = s') :
    Calls Try.prog 11 #[.pointer (some ⟨q, 0, none⟩), .string l] w fun e w' => e = .returned (.bool b) ∧ QIs base w' q s' ∧ RowKit.Below base w w' := by
  obtain ⟨h0, ob, h1⟩ := h
  have hbl := q_blocks h1
  refine (q_push h1 hbw hm hm2 hl l hll).mono ?_
  rintro e w' ⟨rfl, ob', h2, h3, h4⟩
  exact ⟨by rw [hb], ⟨h0, ob', hs ▸ h2⟩, h4.below hbw fun k _ e => by rcases e with rfl | e; exact h0; exact (hbl k e).1⟩
theorem qi_drain {base : Nat} {w : World} {q : Nat} {s : QS} (h : QIs base w q s) (hbw : base ≤ w.heap.size) (hl : s.ws.length ≤ 1000000) (hs0 : 0 ≤ s.sent) (hs1 : s.sent ≤ 1000000000000) (n : Int) {ds : List UInt8} {s' : QS} (hd : s.ws.take (goesQ s n) = ds) (hs : drainS s n = s') :
    Calls Try.prog 9 #[.pointer (some ⟨q, 0, none⟩), .int .i64 n] w fun e w' => (∃ v', e = .returned v' ∧ OwnB w.heap.size w' v' ds) ∧ QIs base w' q s' ∧ RowKit.Below base w w' := by
  obtain ⟨h0, ob, h1⟩ := h
  have hbl := q_blocks h1
  refine (q_drain h1 hl hs0 hs1 n).mono ?_
  rintro e w' ⟨⟨v', rfl, h2⟩, h3, h4⟩
  exact ⟨⟨v', rfl, hd ▸ h2⟩, ⟨h0, ob, hs ▸ h3⟩, h4.below hbw fun k _ e => by rcases e with rfl | e; exact h0; exact (hbl k e).1⟩
theorem qi_below {base : Nat} {W W' : World} {q : Nat} {s : QS} (h : QIs base W q s) (hb : RowKit.Below W.heap.size W W') : QIs base W' q s := by
  obtain ⟨h0, ob, h1⟩ := h
  exact ⟨h0, ob, q_below h1 hb⟩
theorem qi_len {base : Nat} {W : World} {q : Nat} {s : QS} (h : QIs base W q s) : Calls Try.prog 14 #[.pointer (some ⟨q, 0, none⟩)] W fun e w' => e = .returned (.int .i64 s.ws.length) ∧ w' = W := by
  obtain ⟨h0, ob, h1⟩ := h; exact q_len h1
theorem qi_sent {base : Nat} {W : World} {q : Nat} {s : QS} (h : QIs base W q s) : Calls Try.prog 16 #[.pointer (some ⟨q, 0, none⟩)] W fun e w' => e = .returned (.int .i64 s.sent) ∧ w' = W := by
  obtain ⟨h0, ob, h1⟩ := h; exact q_sent h1
theorem qi_over {base : Nat} {W : World} {q : Nat} {s : QS} (h : QIs base W q s) : Calls Try.prog 17 #[.pointer (some ⟨q, 0, none⟩)] W fun e w' => e = .returned (.bool s.over) ∧ w' = W := by
  obtain ⟨h0, ob, h1⟩ := h; exact q_over h1
theorem qi_lines {base : Nat} {W : World} {q : Nat} {s : QS} (h : QIs base W q s) (hl : s.ws.length ≤ 1000000) {zs : List (List UInt8)} (hz : wholeQ s = zs) : Calls Try.prog 20 #[.pointer (some ⟨q, 0, none⟩)] W (LinesP zs W) := by
  obtain ⟨h0, ob, h1⟩ := h; exact hz ▸ q_lines h1 hl
theorem qi_new (most : Int) (h1 : 512 ≤ most) (h2 : most ≤ 65536) (w : World) : Calls Try.prog 8 #[.int .i64 most] w fun e w' => (∃ q, e = .returned (.tuple #[.pointer (some ⟨q, 0, none⟩), .int .i64 0]) ∧ QIs w.heap.size w' q ⟨most, [], 0, false, false⟩) ∧ RowKit.Below w.heap.size w w' :=
  (q_new most h1 h2 w).mono fun e w' ⟨h1, h2, h3⟩ => ⟨⟨_, h1, Nat.le_refl _, _, h2⟩, h3⟩
theorem qi_base {base base' : Nat} {W : World} {q : Nat} {s : QS} (h : QIs base W q s) (hb : base' ≤ base) : QIs base' W q s := by
  obtain ⟨h0, ob, h1⟩ := h
  exact ⟨Nat.le_trans hb h0, ob, q_base h1 hb⟩
set_option maxRecDepth 100000 in
set_option maxHeartbeats 4000000 in
theorem awake8 (w : World) : Calls Try.prog 7 #[] w fun e w' => e = .returned (.bool true) ∧ RowKit.Below w.heap.size w w' := by
  refine (callsIn_wide (n := 20)).1 ?_
  refine callsIn_of_wp_marks Try.func7 rfl trivial ?_ rfl
  simp only [Try.ntmps7, List.size_toArray, List.length_cons, List.length_nil, Nat.reduceAdd, Nat.reduceSub, Array.replicate_succ, Array.replicate_zero, List.push_toArray, List.append_toArray, List.nil_append, List.cons_append]
  gi_wp2_with fail
  refine ⟨trivial, (calls_wide (.inl rfl) (qi_new 512 (by decide) (by decide) w)).mono ?_⟩
  rintro e w1 ⟨⟨q, rfl, q1⟩, b1⟩
  have z1 := b1.size
  have H1 := Lib.hid (And.intro q1 b1)
  clear q1 b1
  gi_wp2_with fail
  refine ⟨trivial, (calls_wide (.inl rfl) (qi_push H1.out.1 z1 (by decide) (by decide) (by decide) ⟨#[97]⟩ (by decide) (b := true) (by decide) (s' := ⟨512, [97, 13, 10], 0, false, false⟩) rfl)).mono ?_⟩
  rintro e w2 ⟨rfl, q2, b2⟩
  have H2 := Lib.hid (And.intro q2 (H1.out.2.trans b2))
  have z2 := b2.size
  clear q2 b2
  gi_wp2_with fail
  refine ⟨trivial, (calls_wide (.inl rfl) (qi_push H2.out.1 (by omega) (by decide) (by decide) (by decide) ⟨#[98, 99]⟩ (by decide) (b := true) (by decide) (s' := ⟨512, [97, 13, 10, 98, 99, 13, 10], 0, false, false⟩) rfl)).mono ?_⟩
  rintro e w3 ⟨rfl, q3, b3⟩
  have H3 := Lib.hid (And.intro q3 (H2.out.2.trans b3))
  have z3 := b3.size
  clear q3 b3
  gi_wp2_with fail
  refine ⟨trivial, (calls_wide (.inl rfl) (qi_drain H3.out.1 (by omega) (by decide) (by decide) (by decide) 4 (ds := [97, 13, 10, 98]) (by decide) (s' := ⟨512, [99, 13, 10], 4, true, false⟩) rfl)).mono ?_⟩
  rintro e w4 ⟨⟨v4, rfl, o4⟩, q4, b4⟩
  obtain ⟨A4, c4, e4⟩ := row_slice o4
  subst e4
  have hcv : (convert 34 9 (.slice A4 4 c4)).run Try.prog w4 = .ok (.string ⟨#[97, 13, 10, 98]⟩) w4 := conv_ownB o4
  have H4 := Lib.hid (And.intro q4 (H3.out.2.trans b4))
  have z4 := b4.size
  clear q4 b4 o4
  gi_wp2_with fail
  refine ⟨trivial, (calls_wide (.inl rfl) (qi_lines H4.out.1 (by decide) (zs := []) rfl)).mono ?_⟩
  rintro e w5 ⟨⟨F, rfl, t5⟩, b5⟩
  clear hcv
  obtain ⟨Y, hYb, gf, lb, rfl, hseq, hY, heg⟩ := tellsT_tale t5 (by decide)
  have H5 := Lib.hid (And.intro (qi_below H4.out.1 b5) (And.intro (H4.out.2.trans (b5.mono (by omega))) (And.intro hseq (And.intro hY heg))))
  have z5 := b5.size
  clear t5 b5 hseq hY heg hYb
  have hnil : ∀ W, (binOp BinOp.eql 50 (.func (.func gf) #[] lb) Value.nilFunc).run Try.prog W = .ok (.bool false) W := fun W => by rfl
  gi_wp2_with (simp only [hnil])
  obtain ⟨h5, hb5, hseq, hY, heg⟩ := H5.out
  obtain ⟨W6, hW6⟩ : ∃ W6, w5.alloc (.cells #[.int .i64 0] 3) = W6 := ⟨_, rfl⟩
  rw [hW6]
  have f6 : Fr (fun _ => False) w5 W6 := by rw [← hW6]; exact (Fr.refl _ _).alloc _
  have k6 : W6.heap[w5.heap.size]? = some (.cells #[.int .i64 0] 3 (0, 0)) := by rw [← hW6]; exact heap_alloc_new _ _
  have z6 : W6.heap.size = w5.heap.size + 1 := by rw [← hW6]; simp
  have hsq := hseq.same fun b hb => f6.block b (hY b hb) fun e => e
  have b6 : RowKit.Below w5.heap.size w5 W6 := f6.below (Nat.le_refl _) fun _ _ e => e.elim
  have H6 := Lib.hid (And.intro (qi_below h5 b6) (And.intro (hb5.trans (b6.mono (by omega))) (And.intro k6 z6)))
  clear hW6 hseq h5 hb5 b6
  refine wpIn_rangeF (X := fun _ => False) (Y := Y) (xs := ([] : List (List UInt8))) (encs := encL) (gf := gf) (lb := lb) (fun _ X1 _ => ∀ k, ¬ X1 k) (fun _ _ _ _ => False)
    rfl hsq (fun k hk => hk.elim) (fun b hb => by have := hY b hb; omega) (by omega) heg (fun _ => rfl)
    (fun s X V V' h _ _ => h) (fun c s X1 V1 V2 h => h.elim) (fun k hk => hk) ?round ?done (fun _ _ _ _ _ _ _ _ _ _ _ h => h.elim)
  case round =>
    rintro l pre x r X1 V K rb hl2 hpx
    exact absurd hpx (by simp)
  case done =>
    rintro D X2 V hD hxD hG hF hI hdef
    obtain ⟨h6, hb6, k6, z6⟩ := H6.out
    have bV : RowKit.Below W6.heap.size W6 V := hF.below (Nat.le_refl _) fun _ _ e => e.elim
    have kV := hF.blk k6 fun e => e
    have c4' := blk_cell kV 0
    have H7 := Lib.hid (And.intro (qi_below h6 bV) (And.intro (hb6.trans (bV.mono (by omega))) (And.intro hdef hD)))
    clear h6 hb6 k6 z6 bV kV hsq hY heg f6 hdef hG hF hI hxD hD
    gi_wp2_with fail
    refine ⟨trivial, (calls_wide (.inl rfl) (qi_len H7.out.1)).mono ?_⟩
    rintro e w8 ⟨rfl, rfl⟩
    gi_wp2_with fail
    refine ⟨trivial, (calls_wide (.inl rfl) (qi_sent H7.out.1)).mono ?_⟩
    rintro e w9 ⟨rfl, rfl⟩
    gi_wp2_with fail
    obtain ⟨h7, hb7, hdef, hD⟩ := H7.out
    have hz6 := H6.out.2.2.2
    exact leaves_one D _ hdef fun w' hf => ⟨_, results_tmp rfl _ _ _, by first | rfl | simp, hb7.trans (hf.below hb7.size fun k _ e => by omega)⟩
end Go.Proofs.Ytadbpgkhenbpfaa
end
section
/- Layer 8: the law's lines. -/
namespace Go.Proofs.Ytadbpgkhenbpfaa
set_option linter.unusedVariables false
set_option linter.unusedSimpArgs false
open Go Go.RowKit Go.Lib Go.Sort Go.Shelf
attribute [local go_sem] Oper.semAt_some

theorem results_box2 {P : Program} {fn : Func} {p q : Tmp} {ty ty2 : TypeId} (h : fn.results = #[.cell p ty, .cell q ty2]) (tmps : Array Value) (w : World) (g g2 : Nat) (v u : Value) (d d2 : TypeDesc) (hp : tmps.getD p undef = .pointer (some ⟨g, 0, none⟩)) (hc : w.cell? ⟨g, 0, none⟩ = some v)
    (hp2 : tmps.getD q undef = .pointer (some ⟨g2, 0, none⟩)) (hc2 : w.cell? ⟨g2, 0, none⟩ = some u)
    (hu : P.underlying ty = some d) (hd : (match d with | .struct _ | .array _ _ => true | _ => false) = false) (hu2 : P.underlying ty2 = some d2) (hd2 : (match d2 with | .struct _ | .array _ _ => true | _ => false) = false) : (results fn tmps).run P w = .ok (.tuple #[v, u]) w := by
  have hp' : tmps[p]?.getD undef = .pointer (some ⟨g, 0, none⟩) := by simpa using hp
  have hp2' : tmps[q]?.getD undef = .pointer (some ⟨g2, 0, none⟩) := by simpa using hp2
  have hagg : (isAgg ty).run P w = .ok false w := by
    unfold isAgg
    rw [Sem.run_bind, run_underlying hu w]
    cases d <;> simp_all
  have hagg2 : (isAgg ty2).run P w = .ok false w := by
    unfold isAgg
    rw [Sem.run_bind, run_underlying hu2 w]
    cases d2 <;> simp_all
  simp [results, h, hp', hp2', asAddr, loadVar, Sem.run_bind, hagg, hagg2, go_sem, hc, hc2]

def LinesL (xs : List (List UInt8)) (w : World) (e : Ending) (w' : World) : Prop := (∃ v', e = .returned (.tuple #[v', .bool true]) ∧ OwnT w.heap.size w' v' xs) ∧ RowKit.Below w.heap.size w w'
/-- a box with a row of texts: its blocks are X -/
def BoxT (S base : Nat) (pre : List (List UInt8)) (X : Nat → Prop) (W : World) : Prop := ∃ v, W.heap[S]? = some (.cells #[v] 31 (0, 0)) ∧ OwnT base W v pre ∧ S < base ∧ ∀ k, X k ↔ (k = S ∨ v.ownBlock = some k)
theorem boxT_stays (S base : Nat) : Stays (BoxT S base) := fun pre X V V' ⟨v, h1, h2, h3, h4⟩ hl hf =>
  ⟨v, hf.blk h1 (fun e => e ((h4 S).2 (.inl rfl))), ownT_kept h2 fun g hg => hf.block g (h2.lt g hg).2 fun e => e ((h4 g).2 (.inr hg)), h3, h4⟩
set_option maxRecDepth 100000 in
set_option maxHeartbeats 4000000 in
theorem lines8 {w : World} {p : Option Addr} {xs : List (List UInt8)} (hq : ∀ W, RowKit.Below w.heap.size w W → Calls Try.prog 20 #[.pointer p] W (LinesP xs W)) (hl : xs.length ≤ 1000000) (m : Nat) (hm : xs.length ≤ m + 1) (hm2 : m ≤ 1000000) : Calls Try.prog 13 #[.pointer p, .int .i64 m] w (LinesL xs w) := by
  obtain ⟨i0, hi, hz0, hz1, hz2⟩ := info_parts Try.infoT
  refine (callsIn_wide (n := 20)).1 ?_
  refine callsIn_of_wp_marks Try.func13 rfl trivial ?_ rfl
  simp only [Try.ntmps13, List.size_toArray, List.length_cons, List.length_nil, Nat.reduceAdd, Nat.reduceSub, Array.replicate_succ, Array.replicate_zero, List.push_toArray, List.append_toArray, List.nil_append, List.cons_append]
  gi_wp2_with fail
  obtain ⟨w1, hw1⟩ : ∃ w1, (((w.alloc (Obj.cells #[Value.int IntKind.i64 m] 3)).alloc (Obj.cells #[Value.slice none 0 0] 31)).alloc (Obj.cells #[Value.bool false] 4)).alloc (Obj.cells #[Value.slice none 0 0] 31) = w1 := ⟨_, rfl⟩
  rw [hw1]
  have z1 : w1.heap.size = w.heap.size + 4 := by rw [← hw1]; simp
  have f1 : Fr (fun _ => False) w w1 := by rw [← hw1]; exact ((((Fr.refl _ w).alloc _).alloc _).alloc _).alloc _
  have hb0 : w1.heap[w.heap.size]? = some (.cells #[.int .i64 m] 3 (0, 0)) := by rw [← hw1]; exact blk_alloc (blk_alloc (blk_alloc (heap_alloc_new w _) _) _) _
  have hb1 : w1.heap[w.heap.size + 1]? = some (.cells #[.slice none 0 0] 31 (0, 0)) := by rw [← hw1]; exact blk_alloc (blk_alloc (heap_alloc2_new w _ _) _) _
  have hb2 : w1.heap[w.heap.size + 2]? = some (.cells #[.bool false] 4 (0, 0)) := by rw [← hw1]; refine blk_alloc ?_ _; have := heap_alloc2_new (w.alloc (Obj.cells #[Value.int IntKind.i64 m] 3)) (Obj.cells #[Value.slice none 0 0] 31) (Obj.cells #[Value.bool false] 4); rwa [World.size_alloc] at this
  have hb3 : w1.heap[w.heap.size + 3]? = some (.cells #[.slice none 0 0] 31 (0, 0)) := by
    rw [← hw1]
    have := heap_alloc2_new ((w.alloc (Obj.cells #[Value.int IntKind.i64 m] 3)).alloc (Obj.cells #[Value.slice none 0 0] 31)) (Obj.cells #[Value.bool false] 4) (Obj.cells #[Value.slice none 0 0] 31)
    rwa [World.size_alloc, World.size_alloc] at this
  have hB0 : RowKit.Below w.heap.size w w1 := f1.below (Nat.le_refl _) fun _ _ e => e.elim
  have HQ := Lib.hid (hq w1 hB0)
  have H0 := Lib.hid (And.intro f1 (And.intro hb0 (And.intro hb1 (And.intro hb2 (And.intro hb3 z1)))))
  clear hw1 f1 hb0 hb1 hb2 hb3 hB0 hq z1
  refine ⟨trivial, (calls_wide (.inl rfl) HQ.out).mono ?_⟩
  rintro e w5 ⟨⟨F, rfl, t5⟩, b5⟩
  obtain ⟨Y, hYb, gf, lb, rfl, hseq, hY, heg⟩ := tellsT_tale t5 hl
  obtain ⟨f1, hb0, hb1, hb2, hb3, z1⟩ := H0.out
  have f5 : Fr (fun _ => False) w1 w5 := Fr.of_below b5
  replace hb0 := f5.blk hb0 fun e => e
  replace hb1 := f5.blk hb1 fun e => e
  replace hb2 := f5.blk hb2 fun e => e
  replace hb3 := f5.blk hb3 fun e => e
  replace f1 := f1.trans3 f5 fun _ _ e => e
  have z5 := f5.size
  have H := Lib.hid (And.intro f1 (And.intro hb0 (And.intro hb1 (And.intro hb2 z1))))
  have HS := Lib.hid (And.intro hb3 (And.intro hseq (And.intro hY (And.intro heg hYb))))
  clear t5 b5 f5 HQ H0 f1 hb0 hb1 hb2 hb3 hseq hY heg hYb z1
  have hnil : ∀ W, (binOp BinOp.eql 50 (.func (.func gf) #[] lb) Value.nilFunc).run Try.prog W = .ok (.bool false) W := fun W => by rfl
  gi_wp2_with (simp only [hnil])
  obtain ⟨hb3, hseq, hY, heg, hYb⟩ := HS.out
  obtain ⟨f1, hb0, hb1, hb2, z1⟩ := H.out
  refine wpIn_rangeF (X := fun k => k = w.heap.size + 3) (Y := Y) (xs := xs) (encs := encL) (gf := gf) (lb := lb) (BoxT (w.heap.size + 3) w1.heap.size) (fun _ _ _ _ => False)
    rfl hseq (fun k hk => ⟨by omega, fun e => by have := hYb k e; omega⟩) hY (by omega) heg (fun _ => rfl)
    (boxT_stays _ _) (fun c s X1 V1 V2 h => h.elim) ⟨_, hb3, ownT_nil _ _, by omega, fun k => by simp [Value.ownBlock]⟩ ?round ?done (fun _ _ _ _ _ _ _ _ _ _ _ h => h.elim)
  case round =>
    rintro l pre x r X1 V K rb hl2 hpx hI hG hxl hF hlV hK
    dsimp only [encL]
    have HK := Lib.hid hK
    have HV := Lib.hid (And.intro hpx (And.intro hI (And.intro hG (And.intro hxl (And.intro hF (And.intro hlV hl2))))))
    clear hK hpx hI hG hxl hF hlV hl2 hseq hY heg hYb f1 hb0 hb1 hb2 hb3 z1
    gi_wp2_with fail
    refine HK.out _ _ (Fr.refl _ _) fun Vb hfb hzb hsb hrb => ?_
    clear HK K
    obtain ⟨hpx, ⟨vb, k3, o3, hSl, hX1⟩, hG, hxl, hF, hlV, hl2⟩ := HV.out
    obtain ⟨f1, hb0, hb1, hb2, z1⟩ := H.out
    have hpl : pre.length + 1 ≤ xs.length := by
      have := congrArg List.length hpx
      simp at this; omega
    have c0 := blk_cell (hfb.blk (hF.blk hb0 (by omega)) (by omega)) 0
    have k3b := hfb.blk k3 (by omega : ¬ w.heap.size + 3 = l)
    have o3b : OwnT w1.heap.size Vb vb pre := ownT_kept o3 fun g hg => hfb.block g (o3.lt g hg).2 fun e => hxl ((hX1 l).2 (.inr (e ▸ hg)))
    have c3 := blk_cell k3b 0
    have hzs : Vb.heap.size = V.heap.size := hzb
    have hbz : w1.heap.size ≤ Vb.heap.size := by omega
    have hor : Vb.ownsRow w1.heap.size 9 1 vb pre.length (pre.map encT) := o3b
    have HO := Lib.hid hor
    have HE := Lib.hid (And.intro hX1 (And.intro hG (And.intro hxl (And.intro hfb (And.intro hrb (And.intro k3b (And.intro o3b (And.intro hzs (And.intro hlV (And.intro hSl hl2))))))))))
    clear hpx k3 o3 hSl hX1 hG hxl hF hlV hl2 f1 hb0 hb1 hb2 z1 k3b o3b hor hfb hzb hsb hrb hzs
    have hlen : ∀ W, (Builtin.len_ #[31] 3 #[vb]).run Try.prog W = .ok (.int .i64 pre.length) W := fun W => by obtain ⟨A, cp, rfl⟩ := row_slice HO.out; rfl
    gi_wp2_with (first | (gi_at_builtin; refine Hid.out ?_) | simp only [hlen])
    refine Lib.hid ?_
    refine wpListIn_one_t rfl _ _ 31 rfl w1.heap.size 9 i0 _ 1 16 Try.underlying31 hi hz0 hz1 hz2 rfl (by decide) _ _ _ rfl HO.out #[.string (bs x)] _ rfl rfl rfl (by intro u hu; simp at hu; subst hu; rfl) (by omega) (by decide) hbz ?_
    intro v1 W2 hown1 hfr1 htie
    obtain ⟨A1, c1', rfl⟩ := row_slice hown1
    have hn3 : ∀ k, vb.ownBlock = some k → k ≠ w.heap.size + 3 := fun k hk e => by have := (HO.out.lt k hk).1; have := HE.out.2.2.2.2.2.2.2.2.2.1; omega
    have e1 : W2.heap[w.heap.size + 3]? = some (.cells #[vb] 31 (0, 0)) := hfr1.blk HE.out.2.2.2.2.2.1 fun e => hn3 _ e rfl
    have g1 := blk_cell e1 0
    have g2 := blk_free e1 0
    have HN := Lib.hid hn3
    clear hn3
    gi_wp2_with fail
    obtain ⟨hX1, hG, hxl, hfb, hrb, k3b, o3b, hzs, hlV, hSl, hl2⟩ := HE.out
    have hn3 := HN.out
    have hown2 : OwnT w1.heap.size W2 (.slice A1 (pre.length + 1) c1') (pre ++ [x]) := by
      unfold OwnT; rw [List.length_append, List.map_append]; exact hown1
    have hnx : (Value.slice A1 (pre.length + 1) c1').ownBlock ≠ some (w.heap.size + 3) := fun e => by have := (hown2.lt _ e).1; omega
    have hfr : Fr (fun k => k = l ∨ X1 k) V (W2.setCell ⟨w.heap.size + 3, 0, none⟩ (.slice A1 (pre.length + 1) c1')) :=
      (((hfb.mono (Y := fun k => k = l ∨ X1 k) fun k _ e => .inl e).trans3 hfr1 fun k _ e => .inr ((hX1 k).2 (.inr e)))).setCell _ (.inr ((hX1 _).2 (.inl rfl))) _
    refine ⟨fun k => k = w.heap.size + 3 ∨ (Value.slice A1 (pre.length + 1) c1').ownBlock = some k, fun k hk => ?_, hfr, ?_, .slice A1 (pre.length + 1) c1', blk_set e1 0 _, ?_, hSl, fun k => Iff.rfl⟩
    · have hz2 := hfr1.size
      have hsz : (W2.setCell ⟨w.heap.size + 3, 0, none⟩ (.slice A1 (pre.length + 1) c1')).heap.size = W2.heap.size := by simp
      rw [hsz]
      rcases hk with rfl | hk
      · exact ⟨blk_lt e1, fun _ => (hX1 _).2 (.inl rfl)⟩
      · refine ⟨(hown2.lt k hk).2, fun hlt => ?_⟩
        rcases htie k hk with e | e
        · exact (hX1 k).2 (.inr e)
        · omega
    · have hl3 : ¬ vb.ownBlock = some l := fun e => hxl ((hX1 l).2 (.inr e))
      exact blk_other (hfr1.blk hrb hl3) _ (by simp; omega) _
    · exact ownT_kept hown2 fun g hg => heap_setCell_other W2 _ g _ fun e => by simp at e; exact hnx (e ▸ hg)
  case done =>
    rintro D X2 V hD hxD hG hF ⟨v, k3, o3, hSl, hX2⟩ hdef
    obtain ⟨A, cp, rfl⟩ := row_slice o3
    have k1 := hF.blk hb1 (by omega)
    have k2 := hF.blk hb2 (by omega)
    have c1 := blk_cell k1 0
    have f1' := blk_free k1 0
    have c2 := blk_cell k2 0
    have f2 := blk_free k2 0
    have c3 := blk_cell k3 0
    have HE := Lib.hid (And.intro k1 (And.intro k2 (And.intro k3 (And.intro o3 (And.intro hF (And.intro hdef (And.intro hxD (And.intro hX2 (And.intro hSl hD)))))))))
    clear k1 k2 k3 o3 hF hdef hxD hX2 hSl hD hG hseq hY heg hYb f1 hb0 hb1 hb2 hb3 z1
    gi_wp2_with fail
    obtain ⟨k1, k2, k3, o3, hF, hdef, hxD, hX2, hSl, hD⟩ := HE.out
    obtain ⟨f1, hb0, hb1, hb2, z1⟩ := H.out
    obtain ⟨W3, hW3⟩ : ∃ W3, (V.setCell ⟨w.heap.size + 1, 0, none⟩ (Value.slice A xs.length cp)).setCell ⟨w.heap.size + 1 + 1, 0, none⟩ (Value.bool true) = W3 := ⟨_, rfl⟩
    rw [hW3]
    have a1 : W3.heap[w.heap.size + 1]? = some (.cells #[.slice A xs.length cp] 31 (0, 0)) := by
      rw [← hW3]
      exact blk_other (blk_set k1 0 _) _ (by simp) _
    have a2 : W3.heap[w.heap.size + 2]? = some (.cells #[.bool true] 4 (0, 0)) := by
      rw [← hW3]
      exact blk_set (blk_other k2 _ (by simp) _) 0 _
    have a3 : W3.heap[D]? = some (.deferred (some [])) := by
      rw [← hW3]
      exact blk_other (blk_other hdef _ (by simp; omega) _) _ (by simp; omega) _
    have a4 : OwnT w1.heap.size W3 (.slice A xs.length cp) xs := ownT_kept o3 fun g hg => by
      have := (o3.lt g hg).1
      rw [← hW3]
      exact (heap_setCell_other _ _ g _ (by simp; omega)).trans (heap_setCell_other _ _ g _ (by simp; omega))
    have a5 : Below w.heap.size w W3 := by
      have h5 : Below w.heap.size w V := (f1.mono (Y := fun k => k = w.heap.size + 3) (fun _ _ h => h.elim)).trans3 hF (fun k _ e => e) |>.below (Nat.le_refl _) fun k hk e => by omega
      rw [← hW3]
      exact (h5.setCell (by simp) _).setCell (by simp; omega) _
    refine leaves_one D _ a3 fun w' hf => ?_
    have e1 := hf.blk a1 (by omega)
    have e2 := hf.blk a2 (by omega)
    refine ⟨_, results_box2 rfl _ _ (w.heap.size + 1) (w.heap.size + 2) _ _ _ _ rfl (blk_cell e1 0) rfl (blk_cell e2 0) Try.underlying31 rfl Try.underlying4 rfl, ⟨.slice A xs.length cp, rfl, ?_⟩, a5.trans (hf.below a5.size fun k _ e => by omega)⟩
    exact ownT_base (ownT_kept a4 fun g hg => hf.block g (a4.lt g hg).2 fun e => hxD ((hX2 D).2 (.inr (e ▸ hg)))) (by omega)
end Go.Proofs.Ytadbpgkhenbpfaa
end
section
/- An argument that is a slice of anything flat, opened. -/
namespace Go.Proofs.Ytadbpgkhenbpfaa
open Go Go.ChangeShapes Go.WideShapes Go.RowKit Go.Deep

section
variable {H : Type} {enc : TypeId × Value → H} {P : Program} {W : World}
theorem open_elems {α : Type} [Inhabited α] {t e : TypeId} {base k : Nat} {v : Value} {d : DataW H} {p : List MemPlace} (hk : 0 < k) (encf : α → List Value) (G : α → Prop) (ht : P.underlying t = some (.slice e)) (hc : P.cellsOf e = k)
    (hdec : ∀ n cs y, cs.length = k → DataW.trod enc P W 0 (fun _ => true) true n e cs = some y → ∃ x, cs = encf x ∧ G x)
    (hval : Value.okWide P W .any base t v) (h : DataW.Trod enc P W 0 (fun _ => true) true t v d p) :
    ∃ (A : Option Addr) (l : List α) (c : Nat), v = .slice A l.length c ∧ l.length ≤ c ∧ c ≤ maxLen ∧ (∀ x ∈ l, G x) ∧
      (0 < l.length → ∃ g o, A = some ⟨g, o, none⟩ ∧ g < W.heap.size ∧ ∀ i (h : i < l.length) j u, (encf l[i])[j]? = some u → W.cell? ⟨g, o + i * k + j, none⟩ = some u) := by
  obtain ⟨A, n, c, rfl⟩ := okWide_slice ht hval
  obtain ⟨fuel, hf⟩ := h
  rcases open_slice ht hf with ⟨hcs, _⟩ | ⟨a, len, cap, m, n', D, Pl, hcs, _, hl, hm, hmm, _, hel⟩
  · have h3 : A = none ∧ n = 0 ∧ c = 0 := by simpa [Value.cells] using hcs
    obtain ⟨rfl, rfl, rfl⟩ := h3
    exact ⟨none, [], 0, rfl, Nat.le_refl _, by unfold maxLen; omega, by simp, fun h => absurd h (by simp)⟩
  · have h3 : A = some a ∧ n = len ∧ c = cap := by simpa [Value.cells] using hcs
    obtain ⟨rfl, rfl, rfl⟩ := h3
    simp only [if_true] at hmm
    have each : ∀ i, i < n → ∃ x : α, G x ∧ (encf x).length = k ∧ ∀ j u, (encf x)[j]? = some u → W.cell? ((a.add (i * k)).add j) = some u := by
      intro i hi
      obtain ⟨cs', h1, h2⟩ := hel i (by omega)
      rw [hc] at h1
      obtain ⟨_, hlen, hat⟩ := World.cells?_some h1
      obtain ⟨x, rfl, hg⟩ := hdec _ _ _ hlen h2
      refine ⟨x, hg, hlen, fun j u hu => ?_⟩
      have hj : j < k := by
        rw [← hlen]; exact (List.getElem?_eq_some_iff.1 hu).1
      rw [hat j hj, hu]
    obtain ⟨F, hF⟩ := choose_lt each
    refine ⟨some a, (List.range n).map F, c, by simp, by simpa using hl, hm, ?_, ?_⟩
    · intro x hx
      simp only [List.mem_map, List.mem_range] at hx
      obtain ⟨i, hi, rfl⟩ := hx
      exact (hF i hi).1
    · intro hpos
      simp only [List.length_map, List.length_range] at hpos
      obtain ⟨_, hl0, h0⟩ := hF 0 hpos
      have hq := h0 0 ((encf (F 0))[0]'(by omega)) (List.getElem?_eq_getElem (by omega))
      have hq : W.cell? (a.add 0) = some ((encf (F 0))[0]'(by omega)) := by
        have e : (a.add (0 * k)).add 0 = a.add 0 := by
          obtain ⟨b, o, s⟩ := a
          cases s <;> simp [Addr.add]
        rwa [e] at hq
      obtain ⟨g, o, rfl⟩ := spot_of hq
      have hg : g < W.heap.size := by
        have := block_lt_of_cell hq
        simpa [add_at] using this
      refine ⟨g, o, rfl, hg, fun i hi j u hu => ?_⟩
      simp only [List.length_map, List.length_range] at hi
      obtain ⟨_, _, hh⟩ := hF i hi
      have := hh j u (by simpa using hu)
      rwa [add_at, add_at] at this
end
end Go.Proofs.Ytadbpgkhenbpfaa
end
section
/- Arguments that are slices of flat things, opened (by gendec.py). -/
namespace Go.Proofs.Ytadbpgkhenbpfaa
set_option linter.unusedVariables false
set_option linter.unusedSimpArgs false
open Go Go.ChangeShapes Go.WideShapes Go.RowKit

abbrev zsqT : Type := Int × ByteArray × Int
/-- its cells -/
def zsqL (x : zsqT) : List Value := [.int .i64 x.1, .string x.2.1, .int .i64 x.2.2]
def zsqG (x : zsqT) : Prop := (Lit.int .i64 x.1).wf = true ∧ x.2.1.size ≤ maxLen ∧ (Lit.int .i64 x.2.2).wf = true
set_option maxRecDepth 1000000 in
theorem dec_zsq {H : Type} {enc : TypeId × Value → H} {W : World} {base : Nat} {spare : Nat → Bool} {held : Bool} {fuel : Nat} {cs : List Value} {y : DataW H × List MemPlace} (hlen : cs.length = 3) (hf : DataW.trod enc Try.prog W base spare held fuel 25 cs = some y) : ∃ x, cs = zsqL x ∧ zsqG x := by
  have ks : Try.prog.cellsOf 9 = 1 := by kernel_rfl
  have ki : Try.prog.cellsOf 3 = 1 := by kernel_rfl
  match cs, hlen with
  | [c0, c1, c2], _ =>
    obtain ⟨xs, n, _, hx, _, hln, hg⟩ := DataW.trod_struct Try.underlying25 hf
    have hl : xs.length = 3 := hln
    have gs : ∀ i, i < 3 → ∃ y, xs[i]? = some y := fun i hi => ⟨xs[i]'(by omega), List.getElem?_eq_getElem (by omega)⟩
    obtain ⟨y0, e0⟩ := gs 0 (by omega)
    have g0 := hg 0 _ rfl
    rw [e0] at g0
    obtain ⟨m0, q0, _, z0⟩ := DataW.trod_int Try.underlying3 g0
    simp [ki] at q0
    obtain ⟨y1, e1⟩ := gs 1 (by omega)
    have g1 := hg 1 _ rfl
    rw [e1] at g1
    obtain ⟨s1, q1, _, z1⟩ := DataW.trod_string Try.underlying9 g1
    simp [ks] at q1
    obtain ⟨y2, e2⟩ := gs 2 (by omega)
    have g2 := hg 2 _ rfl
    rw [e2] at g2
    obtain ⟨m2, q2, _, z2⟩ := DataW.trod_int Try.underlying3 g2
    simp [ki] at q2
    subst q0 q1 q2
    exact ⟨(m0, s1, m2), rfl, ⟨z0, z1, z2⟩⟩
set_option maxRecDepth 1000000 in
theorem open_zsqs {H : Type} {enc : TypeId × Value → H} {W : World} {base : Nat} {v : Value} {d : DataW H} {p : List MemPlace} (hval : Value.okWide Try.prog W .any base 22 v) (h : DataW.Trod enc Try.prog W 0 (fun _ => true) true 22 v d p) :
    ∃ (A : Option Addr) (l : List zsqT) (c : Nat), v = .slice A l.length c ∧ l.length ≤ c ∧ c ≤ maxLen ∧ (∀ x ∈ l, zsqG x) ∧ (0 < l.length → ∃ g o, A = some ⟨g, o, none⟩ ∧ g < W.heap.size ∧ ∀ i (h : i < l.length) j u, (zsqL l[i])[j]? = some u → W.cell? ⟨g, o + i * 3 + j, none⟩ = some u) := by
  have hc : Try.prog.cellsOf 25 = 3 := by kernel_rfl
  exact open_elems (by decide) zsqL zsqG Try.underlying22 hc (fun _ _ _ hl hf => dec_zsq hl hf) hval h
abbrev zbyT : Type := Int
/-- its cells -/
def zbyL (x : zbyT) : List Value := [.int .u8 x]
def zbyG (x : zbyT) : Prop := (Lit.int .u8 x).wf = true
set_option maxRecDepth 1000000 in
theorem dec_zby {H : Type} {enc : TypeId × Value → H} {W : World} {base : Nat} {spare : Nat → Bool} {held : Bool} {fuel : Nat} {cs : List Value} {y : DataW H × List MemPlace} (hlen : cs.length = 1) (hf : DataW.trod enc Try.prog W base spare held fuel 5 cs = some y) : ∃ x, cs = zbyL x ∧ zbyG x := by
  obtain ⟨m0, q0, _, z0⟩ := DataW.trod_int Try.underlying5 hf
  exact ⟨m0, q0, z0⟩
set_option maxRecDepth 1000000 in
theorem open_zbys {H : Type} {enc : TypeId × Value → H} {W : World} {base : Nat} {v : Value} {d : DataW H} {p : List MemPlace} (hval : Value.okWide Try.prog W .any base 34 v) (h : DataW.Trod enc Try.prog W 0 (fun _ => true) true 34 v d p) :
    ∃ (A : Option Addr) (l : List zbyT) (c : Nat), v = .slice A l.length c ∧ l.length ≤ c ∧ c ≤ maxLen ∧ (∀ x ∈ l, zbyG x) ∧ (0 < l.length → ∃ g o, A = some ⟨g, o, none⟩ ∧ g < W.heap.size ∧ ∀ i (h : i < l.length) j u, (zbyL l[i])[j]? = some u → W.cell? ⟨g, o + i * 1 + j, none⟩ = some u) := by
  have hc : Try.prog.cellsOf 5 = 1 := by kernel_rfl
  exact open_elems (by decide) zbyL zbyG Try.underlying34 hc (fun _ _ _ hl hf => dec_zby hl hf) hval h
end Go.Proofs.Ytadbpgkhenbpfaa
end
section
/- Layer 8: what Push and Drain make of the bytes. -/
namespace Go.Proofs.Ytadbpgkhenbpfaa
set_option linter.unusedVariables false
set_option linter.unusedSimpArgs false
open Go Go.RowKit Go.Lib Go.Sort Go.Shelf

theorem push_ws (s : QS) (l : List UInt8) : (pushS s l).ws = if pushB s l then s.ws ++ l ++ [13, 10] else s.ws := by
  unfold pushS pushB
  cases fitQ s l <;> cases roomQ s l <;> rfl
theorem push_most (s : QS) (l : List UInt8) : (pushS s l).most = s.most := by
  unfold pushS; cases fitQ s l <;> cases roomQ s l <;> rfl
theorem push_sent (s : QS) (l : List UInt8) : (pushS s l).sent = s.sent := by
  unfold pushS; cases fitQ s l <;> cases roomQ s l <;> rfl
theorem push_len (s : QS) (l : List UInt8) (h : (s.ws.length : Int) ≤ s.most) : ((pushS s l).ws.length : Int) ≤ s.most := by
  rw [push_ws]
  cases hb : pushB s l with
  | false => exact h
  | true =>
    unfold pushB at hb
    rw [Bool.and_eq_true] at hb
    have := hb.2
    simp only [roomQ, decide_eq_true_eq] at this
    simp; omega
theorem drain_ws (s : QS) (n : Int) : (drainS s n).ws = s.ws.drop (goesQ s n) := by
  unfold drainS
  split
  · next h => rw [h]; rfl
  · rfl
theorem drain_most (s : QS) (n : Int) : (drainS s n).most = s.most := by unfold drainS; split <;> rfl
theorem drain_sent (s : QS) (n : Int) : (drainS s n).sent = s.sent + goesQ s n := by
  unfold drainS
  split
  · next h => rw [h]; simp
  · rfl
theorem drain_over (s : QS) (n : Int) : (drainS s n).over = s.over := by unfold drainS; split <;> rfl
theorem goes_all (s : QS) (n : Int) (h : (s.ws.length : Int) ≤ n) : goesQ s n = s.ws.length := by unfold goesQ; omega
theorem take_all (s : QS) (n : Int) (h : (s.ws.length : Int) ≤ n) : s.ws.take (goesQ s n) = s.ws := by rw [goes_all s n h, List.take_length]
theorem drop_all (s : QS) (n : Int) (h : (s.ws.length : Int) ≤ n) : (drainS s n).ws = [] := by rw [drain_ws, goes_all s n h, List.drop_length]
/-- the acts, as they lie -/
def ActsQ (w : World) (A : Option Addr) (l : List zsqT) : Prop := 0 < l.length → ∃ g o, A = some ⟨g, o, none⟩ ∧ g < w.heap.size ∧ ∀ i (h : i < l.length) j u, (zsqL l[i])[j]? = some u → w.cell? ⟨g, o + i * 3 + j, none⟩ = some u
theorem actsQ_at {w : World} {A : Option Addr} {l : List zsqT} (h : ActsQ w A l) {k : Nat} (hk : k < l.length) :
    ∃ (g o : Nat), A = some ⟨g, o, none⟩ ∧ ∀ W, RowKit.Below w.heap.size w W → W.cell? ⟨g, o + k * 3, none⟩ = some (.int .i64 l[k].1) ∧ W.cell? ⟨g, o + k * 3 + 1, none⟩ = some (.string l[k].2.1) ∧ W.cell? ⟨g, o + k * 3 + 2, none⟩ = some (.int .i64 l[k].2.2) := by
  obtain ⟨g, o, rfl, hg, ha⟩ := h (by omega)
  have hak := ha k hk
  refine ⟨g, o, rfl, fun W hb => ⟨?_, ?_, ?_⟩⟩
  · exact (World.cell?_of_block (w := w) (w' := W) (a := ⟨g, o + k * 3, none⟩) (hb.block g hg)).trans (hak 0 _ rfl)
  · exact (World.cell?_of_block (w := w) (w' := W) (a := ⟨g, o + k * 3 + 1, none⟩) (hb.block g hg)).trans (hak 1 _ rfl)
  · exact (World.cell?_of_block (w := w) (w' := W) (a := ⟨g, o + k * 3 + 2, none⟩) (hb.block g hg)).trans (hak 2 _ rfl)
theorem ba_app (a b : ByteArray) : (a ++ b).data.toList = a.data.toList ++ b.data.toList := by simp
end Go.Proofs.Ytadbpgkhenbpfaa
end
