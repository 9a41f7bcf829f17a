/- Texts of this proof, one behind the other. -/
import Derived.Test.YtmgnhbihfgpccaaGreatDoorRoomNoneG8
import Derived.Test.YtmgnhbihfgpccaaGreatDoorRoomNoneG2
import Derived.Test.YtmgnhbihfgpccaaGreatDoorRoomNoneG3
import Derived.Below
import Derived.Carry
import Derived.Deep.Strs
import Derived.ChangeSame
import Derived.DataReads
import Derived.ProofKit
import Derived.OpenShut
import Derived.Test.YtmgnhbihfgpccaaGreatDoorRoomNoneG1
section
/- Layer 19: members told: slices.Values, slices.Clone; Members, Bans. -/
namespace Go.Proofs.YtmgnhbihfgpccaaGreatDoor
set_option linter.unusedVariables false
set_option linter.unusedSimpArgs false
open Go Go.RowKit
attribute [local go_sem] Oper.semAt_some

def encMV (x : Mem) : Array Value := #[memV x]
set_option maxRecDepth 100000 in
set_option maxHeartbeats 4000000 in
theorem values_seqM (base B : Nat) (v : Value) (xs : List Mem) (w : World) (hxs : xs.length ≤ 1000000) (hb : w.heap[B]? = some (.cells #[v] 43 (0, 0))) (hr : OwnM base w v xs) :
    SeqF Tryz.prog 101 #[.pointer (some ⟨B, 0, none⟩)] encMV (rowYT B v) xs w := fun l J Jx X V hs hYl hX hJ hJx hY h0 => by
  have hbV := (hs B (.inl rfl)).trans hb
  have hrV : OwnM base V v xs := ownM_kept hr fun g hg => hs g (.inr hg)
  obtain ⟨A, c, rfl⟩ := row_slice hr
  have c0 : V.cell? ⟨B, 0, none⟩ = some (.slice A xs.length c) := (blk_cell hbV 0).trans rfl
  have HR := Lib.hid (reads_ownM hrV)
  have HO := Lib.hid hrV
  have HY := Lib.hid hY
  have HX := Lib.hid hX
  have HJS := Lib.hid hJ
  have h00 : Hid (∃ X1, GrowX X X1 V V ∧ Fr X V V ∧ J [] X1 V) := ⟨X, GrowX.refl fun k hk => (hX k hk).1, Fr.refl _ _, h0⟩
  clear hb hr hs hrV hbV hY hX h0 hJ hJx hYl
  refine (callsIn_wide (n := 20)).1 ?_
  refine callsIn_of_wp Tryz.func101 rfl trivial ?_ rfl
  simp only [Tryz.ntmps101, List.size_toArray, List.length_cons, List.length_nil, Nat.reduceAdd, Nat.reduceSub, Array.replicate_succ, Array.replicate_zero, List.push_toArray, List.append_toArray, List.nil_append, List.cons_append]
  gi_wp2
  gi_loopw [7] (fun c1 wr => ∃ k : Nat, c1 = .int .i64 k ∧ k ≤ xs.length ∧ Hid (∃ X1, GrowX X X1 V wr ∧ Fr X V wr ∧ J (xs.take k) X1 wr)) (fun c1 _ => xs.length - (Go.RowKit.intOf c1).toNat)
  case atStart => exact ⟨0, rfl, Nat.zero_le _, h00⟩
  case round =>
    obtain ⟨k, rfl, hk, HJ⟩ := hrel
    clear h00
    obtain ⟨X1, hg1, hf1, hj1⟩ := HJ.out
    by_cases hlt : k < xs.length
    · obtain ⟨g, o, rfl, hg, hcell⟩ := HR.out (by omega)
      obtain ⟨x, hx⟩ : ∃ x, xs[k] = x := ⟨_, rfl⟩
      have hgY : rowYT B (.slice (some ⟨g, o, none⟩) xs.length c) g := by
        rcases HO.out.2 with ⟨e, _⟩ | ⟨g2, cap, cur, e, _⟩
        · cases e
        · cases e; exact .inr rfl
      obtain ⟨r0, r1, r2⟩ := hcell k hlt
      rw [hx] at r0 r1 r2
      have e0 : wr.cell? ⟨g, o + k * 3, none⟩ = some (.int .i64 x.1) := (hf1.cell (p := ⟨g, o + k * 3, none⟩) hg fun e => (HX.out g e).2 hgY).trans r0
      have e1 : wr.cell? ⟨g, o + k * 3 + 1, none⟩ = some (.bool x.2.1) := (hf1.cell (p := ⟨g, o + k * 3 + 1, none⟩) hg fun e => (HX.out g e).2 hgY).trans r1
      have e2 : wr.cell? ⟨g, o + k * 3 + 2, none⟩ = some (.bool x.2.2) := (hf1.cell (p := ⟨g, o + k * 3 + 2, none⟩) hg fun e => (HX.out g e).2 hgY).trans r2
      clear r0 r1 r2
      have hsp : xs.take k ++ x :: xs.drop (k + 1) = xs := by rw [← hx, ← List.drop_eq_getElem_cons hlt]; exact List.take_append_drop k xs
      have htk : xs.take (k + 1) = xs.take k ++ [x] := by rw [List.take_succ_eq_append_getElem hlt, hx]
      obtain ⟨W2, hW2⟩ : ∃ W2, wr.alloc (Obj.cells #[Value.int IntKind.i64 x.1, Value.bool x.2.1, Value.bool x.2.2] 38) = W2 := ⟨_, rfl⟩
      have fW : Fr (fun _ => False) wr W2 := by rw [← hW2]; exact (Fr.refl _ _).alloc _
      have hf2 : Fr X V W2 := hf1.trans3 fW fun _ _ e => e.elim
      have hg2 : GrowX X X1 V W2 := fun k hk => ⟨Nat.lt_of_lt_of_le (hg1 k hk).1 fW.size, (hg1 k hk).2⟩
      have hj2 : J (xs.take k) X1 W2 := HJS.out.fr hj1 (fun k hk => (hg1 k hk).1) fW fun _ e => e.elim
      clear hf1 hg1 hj1
      have hf1 := hf2
      have hg1 := hg2
      have hj1 := hj2
      clear hf2 hg2 hj2 fW
      have hyy := HY.out (xs.take k) x (xs.drop (k + 1)) X1 W2 hsp hg1 hj1 hf1
      rw [← hW2] at hyy
      have HW2 := Lib.hid hW2
      clear hW2
      obtain ⟨fn, tmps, assign, body, hy, hR⟩ := hyy
      dsimp only [encMV] at hy
      have HT := Lib.hid (And.intro htk (And.intro hsp (And.intro hg1 hf1)))
      clear hx htk hsp hg hcell hg1 hf1 hj1 hgY
      gi_wp2_with fail
      refine (round_wide (.inl rfl) hR).mono ?_
      rintro e W3 ⟨X2, g2, f2, (⟨rfl, hJ3⟩ | ⟨rfl, hJx3⟩)⟩ <;> rw [HW2.out] at g2 f2
      · obtain ⟨htk, hsp, hg1, hf1⟩ := HT.out
        have hN : Hid (∃ X1, GrowX X X1 V W3 ∧ Fr X V W3 ∧ J (xs.take (k + 1)) X1 W3) := ⟨X2, hg1.trans g2 hf1.size, hf1.trans3 f2 fun k hk e => (hg1 k e).2 hk, by rw [htk]; exact hJ3⟩
        clear htk hsp hg1 hf1 g2 f2 hJ3 hR hy
        gi_wp2_with fail
        go_roundw
        case rel => exact ⟨k + 1, by go_num, by omega, hN⟩
        case measure => simp [Go.RowKit.intOf]; omega
      · clear hR hy
        gi_wp2_with fail
        refine bodyPost_ret (results_none rfl _ _ _) rfl ?_
        obtain ⟨htk, hsp, hg1, hf1⟩ := HT.out
        exact ⟨⟨_, rfl⟩, X2, hg1.trans g2 hf1.size, hf1.trans3 f2 fun k hk e => (hg1 k e).2 hk, .inr ⟨_, xs.drop (k + 1), by simpa using hsp, hJx3⟩⟩
    · obtain rfl : k = xs.length := by omega
      rw [List.take_length] at hj1
      have HQ := Lib.hid (And.intro hg1 (And.intro hf1 hj1))
      clear hg1 hf1 hj1
      gi_wp2_with fail
      go_end0
      obtain ⟨hg1, hf1, hj1⟩ := HQ.out
      exact ⟨⟨_, rfl⟩, X1, hg1, hf1, .inl hj1⟩
/-- what tells xs: a tale, its box, the value in it -/
def TaleM (base : Nat) (w : World) (F : Value) (xs : List Mem) : Prop := ∃ B v, base ≤ B ∧ F = .func (.func 101) #[] #[.pointer (some ⟨B, 0, none⟩)] ∧ w.heap[B]? = some (.cells #[v] 43 (0, 0)) ∧ v.ownBlock ≠ some B ∧ OwnM base w v xs
def ValsM (v : Value) (w : World) (e : Ending) (w' : World) : Prop :=
  e = .returned (.func (.func 101) #[] #[.pointer (some ⟨w.heap.size, 0, none⟩)]) ∧ w'.heap[w.heap.size]? = some (.cells #[v] 43 (0, 0)) ∧ Below w.heap.size w w'
theorem values_callsM (A : Option Addr) (l c : Nat) (w : World) : Calls Tryz.prog 71 #[.slice A l c] w (ValsM (.slice A l c) w) := by
  go_enter Tryz.func71, Tryz.ntmps71
  go_wp2_with fail
  go_ret
  exact ⟨rfl, heap_alloc_new _ _, (Below.refl _ _).alloc (Nat.le_refl _) _⟩
theorem tale_ofM -- of 71
    {base : Nat} {xs : List Mem} {w w1 : World} {v : Value} {e : Ending} (hb : base ≤ w.heap.size) (h1 : OwnM base w v xs) (h3 : ValsM v w e w1) : ∃ F, e = .returned F ∧ TaleM base w1 F xs ∧ Below w.heap.size w w1 := by
  obtain ⟨rfl, h4, h5⟩ := h3
  refine ⟨_, rfl, ⟨w.heap.size, v, hb, rfl, h4, fun e => ?_, ownM_kept h1 fun g hg => h5.block g (h1.lt g hg).2⟩, h5⟩
  have := (h1.lt _ e).2; omega
theorem tellsM_tale {base : Nat} {w : World} {F : Value} {xs : List Mem} (h : TaleM base w F xs) (hl : xs.length ≤ 1000000) : ∃ Y, (∀ b, Y b → base ≤ b) ∧ TellsF Tryz.prog encMV w F Y xs := by
  obtain ⟨B, v, h1, rfl, h3, h4, h5⟩ := h
  refine ⟨rowYT B v, fun b hb => ?_, _, _, rfl, values_seqM base B v xs w hl h3 h5, fun b hb => ?_, enters_of Tryz.func101 (by kernel_rfl) rfl⟩
  · rcases hb with rfl | hb
    · exact h1
    · exact (h5.lt b hb).1
  · rcases hb with rfl | hb
    · exact blk_lt h3
    · exact (h5.lt b hb).2
end Go.Proofs.YtmgnhbihfgpccaaGreatDoor
end
section
/- Layer 19: slices.Clone of members; Members, Bans. -/
namespace Go.Proofs.YtmgnhbihfgpccaaGreatDoor
set_option linter.unusedVariables false
set_option linter.unusedSimpArgs false
open Go Go.RowKit

theorem flatM_len (xs : List Mem) : (xs.flatMap encM).length = xs.length * 3 := by
  induction xs with
  | nil => rfl
  | cons x r ih => rw [List.flatMap_cons, List.length_append, ih]; simp [encM]; omega
theorem encM_one {u : Value} {xs : List Mem} (h : u ∈ xs.flatMap encM) : u.oneCell' = true := by
  obtain ⟨x, _, hx⟩ := List.mem_flatMap.1 h
  simp only [encM, List.mem_cons, List.not_mem_nil, or_false] at hx
  rcases hx with rfl | rfl | rfl <;> rfl
theorem flatM_cell {w : World} {g o : Nat} {xs : List Mem} (hc : ∀ j (h : j < xs.length), w.cell? ⟨g, o + j * 3, none⟩ = some (.int .i64 xs[j].1) ∧ w.cell? ⟨g, o + j * 3 + 1, none⟩ = some (.bool xs[j].2.1) ∧ w.cell? ⟨g, o + j * 3 + 2, none⟩ = some (.bool xs[j].2.2)) :
    ∀ t u, (xs.flatMap encM)[t]? = some u → w.cell? ⟨g, o + t, none⟩ = some u := fun t u hu => by
  have ht : t < xs.length * 3 := by rw [← flatM_len]; exact (List.getElem?_eq_some_iff.1 hu).1
  rw [flatMap_at encM 3 (fun _ => rfl) (by decide) xs t ht] at hu
  have h3 : t / 3 < xs.length := by omega
  have e1 : xs.getD (t / 3) default = xs[t / 3] := by simp [List.getD, h3]
  rw [e1] at hu
  obtain ⟨q0, q1, q2⟩ := hc (t / 3) h3
  have hm : t % 3 = 0 ∨ t % 3 = 1 ∨ t % 3 = 2 := by omega
  rcases hm with hm | hm | hm
  · rw [hm] at hu
    rw [show o + t = o + t / 3 * 3 by omega, q0, ← hu]; rfl
  · rw [hm] at hu
    rw [show o + t = o + t / 3 * 3 + 1 by omega, q1, ← hu]; rfl
  · rw [hm] at hu
    rw [show o + t = o + t / 3 * 3 + 2 by omega, q2, ← hu]; rfl
theorem srcM {w : World} {A : Option Addr} {c : Nat} {xs : List Mem} (h : ReadsM w A xs) : Src Tryz.prog 3 43 (.slice A xs.length c) xs.length (xs.flatMap encM) w := by
  cases A with
  | none =>
    have h0 : xs = [] := by
      rcases Nat.eq_zero_or_pos xs.length with h0 | h0
      · exact List.length_eq_zero_iff.1 h0
      · obtain ⟨_, _, e, _⟩ := h h0; cases e
    subst h0
    exact Src.ofNil w Tryz.underlying43 c
  | some a =>
    refine Src.ofSlice w Tryz.underlying43 a _ c _ (flatM_len xs) (fun j u hu => ?_) (fun u hu => encM_one hu)
    have hj : j < xs.length * 3 := by rw [← flatM_len]; exact (List.getElem?_eq_some_iff.1 hu).1
    obtain ⟨g, o, e, hg, hc⟩ := h (by omega)
    cases e
    have hadd : (⟨g, o, none⟩ : Addr).add j = ⟨g, o + j, none⟩ := by unfold Addr.add; split <;> simp_all
    rw [hadd]
    exact flatM_cell hc j u hu
/-- a row of members of the call's own is handed back -/
def RetM (xs : List Mem) (w : World) (e : Ending) (w' : World) : Prop := (∃ A c, e = .returned (.slice A xs.length c) ∧ OwnM w.heap.size w' (.slice A xs.length c) xs) ∧ RowKit.Below w.heap.size w w'
set_option maxRecDepth 100000 in
set_option maxHeartbeats 4000000 in
theorem clone_m (A : Option Addr) (c : Nat) (xs : List Mem) (w : World) (hR : ReadsM w A xs) (hl : xs.length ≤ 1000000) :
    Calls Tryz.prog 70 #[.slice A xs.length c] w (RetM xs w) := by
  obtain ⟨i0, hi0, hz0, hz1, hz2⟩ := info_parts Tryz.infoMb
  cases A with
  | none =>
    have h0 : xs = [] := by
      rcases Nat.eq_zero_or_pos xs.length with h0 | h0
      · exact List.length_eq_zero_iff.1 h0
      · obtain ⟨_, _, e, _⟩ := hR h0; cases e
    subst h0
    have hnil : ∀ W, (binOp .eql 43 (.slice none 0 c) (.slice none 0 0)).run Tryz.prog W = .ok (.bool true) W := fun W => by rfl
    rw [List.length_nil]
    go_enter Tryz.func70, Tryz.ntmps70
    go_wp2_with fail
    go_ret
    exact ⟨⟨_, _, rfl, ownM_nil _ _⟩, Below.refl _ _⟩
  | some a =>
    obtain ⟨W, hW⟩ : ∃ W, w.alloc (.cells #[] 38) = W := ⟨_, rfl⟩
    have hb : RowKit.Below w.heap.size w W := by rw [← hW]; exact (Below.refl _ w).alloc (Nat.le_refl _) _
    have ho : W.ownsRow w.heap.size 38 3 (.slice (some ⟨w.heap.size, 0, none⟩) 0 0) 0 [] := by
      rw [← hW]
      exact ⟨rfl, .inr ⟨w.heap.size, 0, #[], rfl, Nat.le_refl _, heap_alloc_new w _, Nat.le_refl _, Nat.zero_le _, rfl, rfl⟩⟩
    have HO := Lib.hid (And.intro ho (And.intro hb (srcM (c := c) (hR.below hb))))
    have hnil : ∀ W, (binOp .eql 43 (.slice (some a) xs.length c) (.slice none 0 0)).run Tryz.prog W = .ok (.bool false) W := fun W => by rfl
    clear hb ho hR
    go_enter Tryz.func70, Tryz.ntmps70
    go_wp2_with (at_builtin; refine wpList_app_u rfl _ _ 43 43 rfl w.heap.size 38 i0 _ 3 16 Tryz.underlying43 hi0 hz0 hz1 hz2 rfl (.slice (some ⟨w.heap.size, 0, none⟩) 0 0) 0 [] rfl HO.out.1 (.slice (some a) xs.length c) xs.length (xs.flatMap encM) rfl HO.out.2.2 (by omega) (by decide) HO.out.2.1.size ?_)
    intro v1 W1 h1 f1 t1
    obtain ⟨A1, c1, rfl⟩ := row_slice h1
    have H1 := Lib.hid (And.intro h1 f1)
    clear h1 f1 t1
    go_wp2_with fail
    go_ret
    refine ⟨⟨_, _, rfl, ?_⟩, ?_⟩
    · have := H1.out.1
      simpa [OwnM] using this
    · exact HO.out.2.1.trans (H1.out.2.below HO.out.2.1.size fun k _ e => by cases e; exact Nat.le_refl _)
/-- a function value that tells members is handed back -/
def RetSM (xs : List Mem) (w : World) (e : Ending) (w' : World) : Prop := (∃ F, e = .returned F ∧ TaleM w.heap.size w' F xs) ∧ RowKit.Below w.heap.size w w'
def RetST (xs : List (List UInt8)) (w : World) (e : Ending) (w' : World) : Prop := (∃ F, e = .returned F ∧ TaleT w.heap.size w' F xs) ∧ RowKit.Below w.heap.size w w'
theorem members_nil (w : World) : Calls Tryz.prog 39 #[.pointer none] w (RetSM [] w) := by
  have HV := Lib.hid (fun W => values_callsM none 0 0 W)
  go_enter Tryz.func39, Tryz.ntmps39
  go_wp2_with fail
  refine (HV.out w).mono ?_
  rintro e w1 hv
  obtain ⟨F, rfl, h1, h2⟩ := tale_ofM (Nat.le_refl _) (ownM_nil _ _) hv
  have H := Lib.hid (And.intro h1 h2)
  clear h1 h2 hv
  go_wp2_with fail
  go_ret
  exact ⟨⟨_, rfl, H.out.1⟩, H.out.2⟩
theorem bans_nil (w : World) : Calls Tryz.prog 37 #[.pointer none] w (RetST [] w) := by
  have HV := Lib.hid (fun W => values_callsT none 0 0 W)
  go_enter Tryz.func37, Tryz.ntmps37
  go_wp2_with fail
  refine (HV.out w).mono ?_
  rintro e w1 hv
  obtain ⟨F, rfl, h1, h2⟩ := tale_ofT (Nat.le_refl _) (ownT_nil _ _) hv
  have H := Lib.hid (And.intro h1 h2)
  clear h1 h2 hv
  go_wp2_with fail
  go_ret
  exact ⟨⟨_, rfl, H.out.1⟩, H.out.2⟩
theorem members_any {base B : Nat} {q : RmV} {r : Rm} {w : World} (h : RoomAt base B q r w) (hl : r.mem.length ≤ 1000000) : Calls Tryz.prog 39 #[.pointer (some ⟨B, 0, none⟩)] w (RetSM r.mem w) := by
  obtain ⟨A, c, hv⟩ := row_slice h.2.1
  have c1 : w.cell? ⟨B, 1, none⟩ = some (.slice A r.mem.length c) := by rw [← hv]; exact blk_cell h.1 1
  have ho := h.2.1
  rw [hv] at ho
  have HC := Lib.hid (clone_m A c r.mem w (reads_ownM ho) hl)
  clear h ho hv
  obtain ⟨n, hn⟩ : ∃ n, r.mem.length = n := ⟨_, rfl⟩
  unfold RetM at HC
  rw [hn] at c1 HC
  have HN := Lib.hid hn
  clear hn
  go_enter Tryz.func39, Tryz.ntmps39
  go_wp2_with fail
  refine HC.out.mono ?_
  rintro e w1 ⟨⟨A1, c2, rfl, o1⟩, b1⟩
  have H1 := Lib.hid (And.intro o1 b1)
  have HV := Lib.hid (values_callsM A1 n c2 w1)
  clear o1 b1
  go_wp2_with fail
  refine HV.out.mono ?_
  rintro e w2 hv
  obtain ⟨F, rfl, h1, h2⟩ := tale_ofM H1.out.2.size H1.out.1 hv
  have H := Lib.hid (And.intro h1 (H1.out.2.trans (h2.mono H1.out.2.size)))
  clear h1 h2 hv
  go_wp2_with fail
  go_ret
  exact ⟨⟨_, rfl, H.out.1⟩, H.out.2⟩
end Go.Proofs.YtmgnhbihfgpccaaGreatDoor
end
section
/- Layer 19: the law's members: are just these members told? -/
namespace Go.Proofs.YtmgnhbihfgpccaaGreatDoor
set_option linter.unusedVariables false
set_option linter.unusedSimpArgs false
open Go Go.RowKit
attribute [local go_sem] Oper.semAt_some

/-- two boxes: how many came; all well so far -/
def SameM (S base : Nat) (pre : List Mem) (X : Nat → Prop) (W : World) : Prop := W.heap[S]? = some (.cells #[.int .i64 (pre.length : Int)] 3 (0, 0)) ∧ W.heap[S + 1]? = some (.cells #[.bool true] 4 (0, 0)) ∧ S + 1 < base ∧ ∀ k, X k ↔ (k = S ∨ k = S + 1)
theorem sameM_stays (S base : Nat) : Stays (SameM S base) := fun pre X V V' ⟨h1, h2, h3, h4⟩ hl hf =>
  ⟨hf.blk h1 (fun e => e ((h4 S).2 (.inl rfl))), hf.blk h2 (fun e => e ((h4 _).2 (.inr rfl))), h3, h4⟩
set_option maxRecDepth 100000 in
set_option maxHeartbeats 8000000 in
theorem members_law {w : World} {p : Option Addr} {R : List Mem}
    (hM : ∀ W, Fr (fun _ => False) w W → Calls Tryz.prog 39 #[.pointer p] W (RetSM R W))
    (hL : ∀ W, Fr (fun _ => False) w W → Calls Tryz.prog 40 #[.pointer p] W fun e W' => e = .returned (.int .i64 R.length) ∧ W' = W)
    (hwl : R.length ≤ 1000000) (A : Option Addr) (c : Nat) (hA : ReadsM w A R) :
    Calls Tryz.prog 16 #[.pointer p, .slice A R.length c] w fun e w' => e = .returned (.bool true) ∧ Fr (fun _ => False) w w' := by
  obtain ⟨w1, hw1⟩ : ∃ w1, (((w.alloc (Obj.cells #[Value.slice A R.length c] 43)).alloc (Obj.cells #[Value.bool false] 4)).alloc (Obj.cells #[Value.int IntKind.i64 0] 3)).alloc (Obj.cells #[Value.bool true] 4) = w1 := ⟨_, rfl⟩
  have z1 : w1.heap.size = w.heap.size + 4 := by rw [← hw1]; simp
  have f1 : Fr (fun _ => False) w w1 := by rw [← hw1]; exact ((((Fr.refl _ w).alloc _).alloc _).alloc _).alloc _
  have hb0 : w1.heap[w.heap.size]? = some (.cells #[.slice A R.length c] 43 (0, 0)) := by rw [← hw1]; exact blk_alloc (blk_alloc (blk_alloc (heap_alloc_new w _) _) _) _
  have hb1 : w1.heap[w.heap.size + 1]? = some (.cells #[.bool false] 4 (0, 0)) := by rw [← hw1]; exact blk_alloc (blk_alloc (heap_alloc2_new w _ _) _) _
  have hb2 : w1.heap[w.heap.size + 2]? = some (.cells #[.int .i64 0] 3 (0, 0)) := by rw [← hw1]; refine blk_alloc ?_ _; have := heap_alloc2_new (w.alloc (Obj.cells #[Value.slice A R.length c] 43)) (Obj.cells #[Value.bool false] 4) (Obj.cells #[Value.int IntKind.i64 0] 3); rwa [World.size_alloc] at this
  have hb3 : w1.heap[w.heap.size + 3]? = some (.cells #[.bool true] 4 (0, 0)) := by
    rw [← hw1]
    have := heap_alloc2_new ((w.alloc (Obj.cells #[Value.slice A R.length c] 43)).alloc (Obj.cells #[Value.bool false] 4)) (Obj.cells #[Value.int IntKind.i64 0] 3) (Obj.cells #[Value.bool true] 4)
    rwa [World.size_alloc, World.size_alloc] at this
  have HW := Lib.hid (And.intro hw1 (hM w1 f1))
  have HL := Lib.hid hL
  have H0 := Lib.hid (And.intro f1 (And.intro hb0 (And.intro hb1 (And.intro hb2 (And.intro hb3 (And.intro z1 hA))))))
  clear hw1 hM hL hb0 hb1 hb2 hb3 z1 f1 hA
  refine (callsIn_wide (n := 20)).1 ?_
  refine callsIn_of_wp_marks Tryz.func16 rfl trivial ?_ rfl
  simp only [Tryz.ntmps16, List.size_toArray, List.length_cons, List.length_nil, Nat.reduceAdd, Nat.reduceSub, Array.replicate_succ, Array.replicate_zero, List.push_toArray, List.append_toArray, List.nil_append, List.cons_append]
  gi_wp2_with fail
  rw [HW.out.1]
  refine ⟨trivial, (calls_wide (.inl rfl) HW.out.2).mono ?_⟩
  rintro e W2 ⟨⟨F, rfl, hT⟩, hfZ0⟩
  clear HW
  have hfZ : Fr (fun _ => False) w1 W2 := Fr.of_below hfZ0
  obtain ⟨Y, hYb, gf, lb, rfl, hseq, hYl, heg⟩ := tellsM_tale hT hwl
  have hnil : ∀ W, (binOp BinOp.eql 76 (.func (.func gf) #[] lb) Value.nilFunc).run Tryz.prog W = .ok (.bool false) W := fun W => by rfl
  gi_wp2_with (simp only [hnil])
  obtain ⟨f1, hb0, hb1, hb2, hb3, z1, hA⟩ := H0.out
  have hzz := hfZ.size
  have f12 : Fr (fun _ => False) w W2 := f1.trans hfZ
  have hb0 := hfZ.blk hb0 (fun e => e)
  have hb1 := hfZ.blk hb1 (fun e => e)
  have hb2 := hfZ.blk hb2 (fun e => e)
  have hb3 := hfZ.blk hb3 (fun e => e)
  have H := Lib.hid (And.intro f12 (And.intro hb0 (And.intro hb1 (And.intro z1 hA))))
  refine wpIn_rangeF (X := fun k => k = w.heap.size + 2 ∨ k = w.heap.size + 2 + 1) (Y := Y) (xs := R) (encs := encMV) (gf := gf) (lb := lb) (SameM (w.heap.size + 2) W2.heap.size) (fun _ _ _ _ => False)
    rfl hseq (fun k hk => ⟨by omega, fun e => by have := hYb k e; omega⟩) hYl (by omega) heg (fun _ => rfl)
    (sameM_stays _ _) (fun c s X1 V1 V2 h => h.elim) ⟨hb2, hb3, by omega, fun k => Iff.rfl⟩ ?round ?done (fun _ _ _ _ _ _ _ _ _ _ _ h => h.elim)
  case round =>
    rintro l pre ⟨y, op, vo⟩ r X1 V K rb hl2 hpx hI hG2 hxl hF hlV hK
    dsimp only [encMV]
    have HK := Lib.hid hK
    have HV := Lib.hid (And.intro hpx (And.intro hI (And.intro hG2 (And.intro hxl (And.intro hF (And.intro hlV hl2))))))
    clear hK hpx hI hG2 hxl hF hlV hl2 hseq hYb hYl heg f1 f12 hb0 hb1 hb2 hb3 z1 hT hfZ hfZ0 H0 hA
    gi_wp2_with fail
    obtain ⟨Va, hVa⟩ : ∃ Va, V.alloc (Obj.cells #[Value.int IntKind.i64 y, Value.bool op, Value.bool vo] 38) = Va := ⟨_, rfl⟩
    have fVa : Fr (fun _ => False) V Va := by rw [← hVa]; exact (Fr.refl _ _).alloc _
    have hm0 : Va.heap[V.heap.size]? = some (.cells #[.int .i64 y, .bool op, .bool vo] 38 (0, 0)) := by rw [← hVa]; exact heap_alloc_new _ _
    rw [hVa]
    refine HK.out _ _ fVa fun Vb hfb hzb hsb hrb => ?_
    clear HK K
    obtain ⟨hpx, ⟨k1, k2, hSl, hX1⟩, hG2, hxl, hF, hlV, hl2⟩ := HV.out
    obtain ⟨f12, hb0, hb1, z1, hA⟩ := H.out
    have hpl : pre.length < R.length := by
      have := congrArg List.length hpx
      simp at this; omega
    have hgx : R[pre.length] = (y, op, vo) := by simp [← hpx]
    obtain ⟨g, o, rfl, hg, hcell⟩ := hA (by omega)
    have hVb : Fr (fun k => k = l) V Vb := hfb
    have hfw : Vb.heap[g]? = w.heap[g]? := (hVb.block g (by have := hF.size; omega) (by omega)).trans ((hF.block g (by omega) (by omega)).trans (f12.block g hg fun e => e))
    obtain ⟨p0, p1, p2⟩ := hcell _ hpl
    rw [hgx] at p0 p1 p2
    have kc : ∀ i, Vb.cell? ⟨g, i, none⟩ = w.cell? ⟨g, i, none⟩ := fun i => World.cell?_of_block (w := w) (w' := Vb) (a := ⟨g, i, none⟩) hfw
    rw [← kc] at p0 p1 p2
    have k1b := hVb.blk k1 (by omega : ¬ w.heap.size + 2 = l)
    have k2b := hVb.blk k2 (by omega : ¬ w.heap.size + 2 + 1 = l)
    have hm1 := (hsb V.heap.size (by omega)).trans hm0
    have m0 := blk_cell hm1 0
    have m1 := blk_cell hm1 1
    have m2 := blk_cell hm1 2
    have c0 := blk_cell (hVb.blk (hF.blk hb0 (by omega)) (by omega)) 0
    have c1 := blk_cell k1b 0
    have c2 := blk_cell k2b 0
    have d1 := blk_free k1b 0
    have d2 := blk_free k2b 0
    have n0 : ¬ ((R.length : Int) ≤ (pre.length : Int)) := by omega
    have n1 : ((pre.length : Int) < (R.length : Int)) := by omega
    have hzs : w.heap.size + 2 + 1 < Vb.heap.size := blk_lt k2b
    have hMS : V.heap.size < Vb.heap.size := blk_lt hm1
    have HE := Lib.hid (And.intro k1b (And.intro k2b (And.intro hSl (And.intro hX1 (And.intro hG2 (And.intro hxl (And.intro hlV (And.intro hVb hrb))))))))
    have hpl2 : (pre.length : Int) ≤ 1000000 := by omega
    clear hpx k1 k2 hSl hX1 hG2 hxl hF hlV hl2 f12 hb0 hb1 z1 hA hgx hcell hfw k1b k2b hfb hrb hzb hsb hm0 hm1 fVa hVa hVb kc
    gi_wp2_with fail
    refine wpIn_quiet_tail 9 (by kernel_rfl) (by kernel_rfl) (by kernel_rfl) ?_
    simp only [List.take_succ_cons, List.take_zero, List.drop_succ_cons, List.drop_zero]
    repeat (refine quiet_step_w (fun _ => trivial) (fun K hK => ?_); go_simp; refine hK _ ?_; clear hK K)
    refine wpQuietIn_nil ?_
    intro _ hw'
    obtain ⟨nq, hw''⟩ := hw'
    subst hw''
    gi_wp2_with fail
    obtain ⟨k1b, k2b, hSl, hX1, hG2, hxl, hlV, hfb, hrb⟩ := HE.out
    have hll : ¬ (l = w.heap.size + 2 ∨ l = w.heap.size + 2 + 1) := fun e => hxl ((hX1 l).2 e)
    have hf3 : Fr X1 Vb (((Vb.drewN nq).setCell ⟨w.heap.size + 1 + 1 + 1, 0, none⟩ (Value.bool true)).setCell ⟨w.heap.size + 1 + 1, 0, none⟩ (Value.int IntKind.i64 ((pre.length : Int) + 1))) := (((Fr.refl X1 Vb).drewN nq).setCell _ ((hX1 _).2 (.inr rfl)) _).setCell _ ((hX1 _).2 (.inl rfl)) _
    have k1q : (Vb.drewN nq).heap[w.heap.size + 2]? = _ := k1b
    have k2q : (Vb.drewN nq).heap[w.heap.size + 2 + 1]? = _ := k2b
    refine ⟨X1, fun k hk => ⟨Nat.lt_of_lt_of_le (hG2 k hk).1 (Nat.le_trans hfb.size hf3.size), fun _ => hk⟩, (hfb.mono (Y := fun k => k = l ∨ X1 k) fun k _ e => .inl e).trans3 hf3 fun k _ e => .inr e, hf3.blk hrb hxl, ?_, ?_, hSl, hX1⟩
    · rw [List.length_append]
      exact blk_set (blk_other k1q _ (by simp) _) 0 _
    · exact blk_other (blk_set k2q 0 _) _ (by simp) _
  case done =>
    rintro D X2 V hD hxD hG2 hF ⟨k1, k2, hSl, hX2⟩ hdef
    have k0 := hF.blk hb0 (by omega)
    have kr := hF.blk hb1 (by omega)
    have c0 := blk_cell k0 0
    have c1 := blk_cell k1 0
    have c2 := blk_cell k2 0
    have c3 := blk_cell kr 0
    have d3 := blk_free kr 0
    have b4 : Fr (fun _ => False) w V := f12.trans3 hF fun k hk e => by omega
    have hzs : w.heap.size + 1 < V.heap.size := blk_lt kr
    have hlen := fun n => HL.out (V.drewN n) (b4.drewN n)
    have HLEN := Lib.hid hlen
    have HQ := Lib.hid (And.intro hdef (And.intro b4 (And.intro hD (And.intro kr (And.intro z1 hzz)))))
    clear k0 k1 k2 kr hSl hX2 hdef hxD hG2 hF b4 hD hseq hYb hYl heg f1 f12 hb0 hb1 hb2 hb3 z1 hT hfZ hfZ0 H0 hA H hzz HL hlen
    gi_wp2_with fail
    refine wpIn_quiet_tail 13 (by kernel_rfl) (by kernel_rfl) (by kernel_rfl) ?_
    simp only [List.take_succ_cons, List.take_zero, List.drop_succ_cons, List.drop_zero]
    repeat (refine quiet_step_w (fun _ => trivial) (fun K hK => ?_); go_simp; first | (refine hK _ ?_; clear hK K) | (apply Exists.intro; refine ⟨fun _ => CallsIn.quiet_of_same (calls_wide (.inl rfl) (HLEN.out _)), ?_⟩; refine hK _ ?_; clear hK K))
    refine wpQuietIn_nil ?_
    intro _ hw'
    obtain ⟨nq, hw''⟩ := hw'
    subst hw''
    gi_wp2_with fail
    obtain ⟨hdef, b4, hD, kr, z1, hzz⟩ := HQ.out
    have hdq : (V.drewN nq).heap[D]? = some (.deferred (some [])) := hdef
    have krq : (V.drewN nq).heap[w.heap.size + 1]? = some (.cells #[.bool false] 4 (0, 0)) := kr
    have d5 := blk_other hdq ⟨w.heap.size + 1, 0, none⟩ (by simp; omega) (Value.bool true)
    have f5 : Fr (fun k => k = w.heap.size + 1) V ((V.drewN nq).setCell ⟨w.heap.size + 1, 0, none⟩ (Value.bool true)) := Fr.setCell (X := fun k => k = w.heap.size + 1) ((Fr.refl _ V).drewN nq) ⟨w.heap.size + 1, 0, none⟩ rfl _
    have kr5 := blk_set krq 0 (Value.bool true)
    refine leaves_one D _ d5 fun w' hf => ⟨_, results_box rfl _ _ (w.heap.size + 1) (.bool true) _ rfl (blk_cell (hf.blk kr5 (by omega)) 0) Tryz.underlying4 rfl, rfl, (b4.trans3 f5 fun k hk e => by omega).trans3 hf fun k hk e => by omega⟩
end Go.Proofs.YtmgnhbihfgpccaaGreatDoor
end
section
/- A box with a row of texts of the call's own. -/
namespace Go.Proofs.YtmgnhbihfgpccaaGreatDoor
open Go Go.RowKit

/-- box S holds the row; its blocks are X -/
def BoxB (S base : Nat) (xs : List (List UInt8)) (X : Nat → Prop) (W : World) : Prop := ∃ v, W.heap[S]? = some (.cells #[v] 34 (0, 0)) ∧ OwnT base W v xs ∧ S < base ∧ ∀ k, X k ↔ (k = S ∨ v.ownBlock = some k)
theorem boxB_stays (S base : Nat) (xs : List (List UInt8)) : ∀ X V V', BoxB S base xs X V → (∀ k, X k → k < V.heap.size) → Fr (fun k => ¬ X k) V V' → BoxB S base xs X V' := fun X V V' ⟨v, h1, h2, h3, h4⟩ hl hf =>
  ⟨v, hf.blk h1 (fun e => e ((h4 S).2 (.inl rfl))), ownT_kept h2 fun g hg => hf.block g (h2.lt g hg).2 fun e => e ((h4 g).2 (.inr hg)), h3, h4⟩
/-- a text is put behind the row: what the round leaves -/
theorem boxB_put {S base l : Nat} {rb : Loop} {xs : List (List UInt8)} {x : List UInt8} {X1 : Nat → Prop} {V Vb W2 : World} {vb v1 : Value} (hG : ∀ k, X1 k → k < V.heap.size) (hX1 : ∀ k, X1 k ↔ (k = S ∨ vb.ownBlock = some k)) (hxl : ¬ X1 l) (hfb : Fr (fun k => k = l) V Vb) (hrb : Vb.heap[l]? = some (.loop rb)) (k3b : Vb.heap[S]? = some (.cells #[vb] 34 (0, 0))) (o3b : OwnT base Vb vb xs) (hzs : V.heap.size ≤ Vb.heap.size) (hSl : S < base)
    (hown1 : W2.ownsRow base 9 1 v1 (xs.length + 1) (xs.map encT ++ [encT x])) (hfr1 : Fr (fun k => vb.ownBlock = some k) Vb W2) (htie : ∀ k, v1.ownBlock = some k → vb.ownBlock = some k ∨ Vb.heap.size ≤ k) :
    ∃ X2, GrowX X1 X2 V (W2.setCell ⟨S, 0, none⟩ v1) ∧ Fr (fun k => k = l ∨ X1 k) V (W2.setCell ⟨S, 0, none⟩ v1) ∧ (W2.setCell ⟨S, 0, none⟩ v1).heap[l]? = some (.loop rb) ∧ BoxB S base (xs ++ [x]) X2 (W2.setCell ⟨S, 0, none⟩ v1) := by
  have hn3 : ∀ k, vb.ownBlock = some k → k ≠ S := fun k hk e => by have := (o3b.lt k hk).1; omega
  have e1 : W2.heap[S]? = some (.cells #[vb] 34 (0, 0)) := hfr1.blk k3b fun e => hn3 _ e rfl
  have hown2 : OwnT base W2 v1 (xs ++ [x]) := ownT_snoc hown1
  have hnx : v1.ownBlock ≠ some S := fun e => by have := (hown2.lt _ e).1; omega
  have hlS : l ≠ S := fun e => hxl ((hX1 l).2 (.inl e))
  have hl3 : ¬ vb.ownBlock = some l := fun e => hxl ((hX1 l).2 (.inr e))
  have hsz : (W2.setCell ⟨S, 0, none⟩ v1).heap.size = W2.heap.size := by simp
  refine ⟨fun k => k = S ∨ v1.ownBlock = some k, fun k hk => ?_, (((hfb.mono (Y := fun k => k = l ∨ X1 k) fun k _ e => .inl e).trans3 hfr1 fun k _ e => .inr ((hX1 k).2 (.inr e)))).setCell _ (.inr ((hX1 _).2 (.inl rfl))) _, blk_other (hfr1.blk hrb hl3) _ (by simpa using hlS) _, v1, blk_set e1 0 _, ?_, hSl, fun k => Iff.rfl⟩
  · rw [hsz]
    rcases hk with rfl | hk
    · exact ⟨blk_lt e1, fun _ => (hX1 _).2 (.inl rfl)⟩
    · refine ⟨(hown2.lt k hk).2, fun hlt => ?_⟩
      rcases htie k hk with e | e
      · exact (hX1 k).2 (.inr e)
      · omega
  · exact ownT_kept hown2 fun g hg => heap_setCell_other W2 _ g _ fun e => by simp at e; exact hnx (e ▸ hg)
/-- nothing is put -/
theorem boxB_skip {S base l : Nat} {rb : Loop} {xs : List (List UInt8)} {X1 : Nat → Prop} {V Vb : World} {vb : Value} (hG : ∀ k, X1 k → k < V.heap.size) (hX1 : ∀ k, X1 k ↔ (k = S ∨ vb.ownBlock = some k)) (hfb : Fr (fun k => k = l) V Vb) (hrb : Vb.heap[l]? = some (.loop rb)) (k3b : Vb.heap[S]? = some (.cells #[vb] 34 (0, 0))) (o3b : OwnT base Vb vb xs) (hSl : S < base) :
    ∃ X2, GrowX X1 X2 V Vb ∧ Fr (fun k => k = l ∨ X1 k) V Vb ∧ Vb.heap[l]? = some (.loop rb) ∧ BoxB S base xs X2 Vb :=
  ⟨X1, fun k hk => ⟨Nat.lt_of_lt_of_le (hG k hk) hfb.size, fun _ => hk⟩, hfb.mono (Y := fun k => k = l ∨ X1 k) fun k _ e => .inl e, hrb, vb, k3b, o3b, hSl, hX1⟩
end Go.Proofs.YtmgnhbihfgpccaaGreatDoor
end
section
/- Layer 19: the law's bans: what a room's Bans tell. -/
namespace Go.Proofs.YtmgnhbihfgpccaaGreatDoor
set_option linter.unusedVariables false
set_option linter.unusedSimpArgs false
open Go Go.RowKit
attribute [local go_sem] Oper.semAt_some

theorem res_in2R {P : Program} {fn : Func} {p q : Tmp} {ty tz : TypeId} (h : fn.results = #[.cell p ty, .cell q tz]) (tmps : Array Value) (w : World) (g k : Nat) (v u : Value) (d d' : TypeDesc) (hp : tmps.getD p undef = .pointer (some ⟨g, 0, none⟩)) (hq : tmps.getD q undef = .pointer (some ⟨k, 0, none⟩)) (hc : w.cell? ⟨g, 0, none⟩ = some v) (hc' : w.cell? ⟨k, 0, none⟩ = some u)
    (hu : P.underlying ty = some d) (hd : (match d with | .struct _ | .array _ _ => true | _ => false) = false) (hu' : P.underlying tz = some d') (hd' : (match d' with | .struct _ | .array _ _ => true | _ => false) = false) : (results fn tmps).run P w = .ok (.tuple #[v, u]) w := by
  have hp' : tmps[p]?.getD undef = .pointer (some ⟨g, 0, none⟩) := by simpa using hp
  have hq' : tmps[q]?.getD undef = .pointer (some ⟨k, 0, none⟩) := by simpa using hq
  have hagg : (isAgg ty).run P w = .ok false w := by
    unfold isAgg
    rw [Sem.run_bind, run_underlying hu w]
    cases d <;> simp_all
  have hagg' : (isAgg tz).run P w = .ok false w := by
    unfold isAgg
    rw [Sem.run_bind, run_underlying hu' w]
    cases d' <;> simp_all
  simp [results, h, hp', hq', asAddr, loadVar, Sem.run_bind, hagg, hagg', go_sem, hc, hc', Result.andThen]
/-- what is told, in a row of the call's own, and that it was told -/
def RetTB (xs : List (List UInt8)) (w : World) (e : Ending) (w' : World) : Prop := (∃ A c, e = .returned (.tuple #[.slice A xs.length c, .bool true]) ∧ OwnT w.heap.size w' (.slice A xs.length c) xs) ∧ RowKit.Below w.heap.size w w'
set_option maxRecDepth 100000 in
set_option maxHeartbeats 8000000 in
theorem bans_law {w : World} {p : Option Addr} {R : List (List UInt8)}
    (hM : ∀ W, Fr (fun _ => False) w W → Calls Tryz.prog 37 #[.pointer p] W (RetST R W)) (hwl : R.length ≤ 100) :
    Calls Tryz.prog 12 #[.pointer p] w (RetTB R w) := by
  obtain ⟨i0, hi, hz0, hz1, hz2⟩ := info_parts Tryz.infoT
  obtain ⟨w1, hw1⟩ : ∃ w1, ((w.alloc (Obj.cells #[Value.slice none 0 0] 34)).alloc (Obj.cells #[Value.bool false] 4)).alloc (Obj.cells #[Value.slice none 0 0] 34) = w1 := ⟨_, rfl⟩
  have z1 : w1.heap.size = w.heap.size + 3 := by rw [← hw1]; simp
  have f1 : Fr (fun _ => False) w w1 := by rw [← hw1]; exact (((Fr.refl _ w).alloc _).alloc _).alloc _
  have hb0 : w1.heap[w.heap.size]? = some (.cells #[.slice none 0 0] 34 (0, 0)) := by rw [← hw1]; exact blk_alloc (blk_alloc (heap_alloc_new w _) _) _
  have hb1 : w1.heap[w.heap.size + 1]? = some (.cells #[.bool false] 4 (0, 0)) := by rw [← hw1]; exact blk_alloc (heap_alloc2_new w _ _) _
  have hb2 : w1.heap[w.heap.size + 2]? = some (.cells #[.slice none 0 0] 34 (0, 0)) := by rw [← hw1]; have := heap_alloc2_new (w.alloc (Obj.cells #[Value.slice none 0 0] 34)) (Obj.cells #[Value.bool false] 4) (Obj.cells #[Value.slice none 0 0] 34); rwa [World.size_alloc] at this
  have HW := Lib.hid (And.intro hw1 (hM w1 f1))
  have H0 := Lib.hid (And.intro f1 (And.intro hb0 (And.intro hb1 (And.intro hb2 z1))))
  clear hw1 hM hb0 hb1 hb2 z1 f1
  refine (callsIn_wide (n := 20)).1 ?_
  refine callsIn_of_wp_marks Tryz.func12 rfl trivial ?_ rfl
  simp only [Tryz.ntmps12, List.size_toArray, List.length_cons, List.length_nil, Nat.reduceAdd, Nat.reduceSub, Array.replicate_succ, Array.replicate_zero, List.push_toArray, List.append_toArray, List.nil_append, List.cons_append]
  gi_wp2_with fail
  rw [HW.out.1]
  refine ⟨trivial, (calls_wide (.inl rfl) HW.out.2).mono ?_⟩
  rintro e W2 ⟨⟨F, rfl, hT⟩, hfZ0⟩
  clear HW
  have hfZ : Fr (fun _ => False) w1 W2 := Fr.of_below hfZ0
  obtain ⟨Y, hYb, gf, lb, rfl, hseq, hYl, heg⟩ := tellsT_tale hT (by omega)
  have hnil : ∀ W, (binOp BinOp.eql 71 (.func (.func gf) #[] lb) Value.nilFunc).run Tryz.prog W = .ok (.bool false) W := fun W => by rfl
  gi_wp2_with (simp only [hnil])
  obtain ⟨f1, hb0, hb1, hb2, z1⟩ := H0.out
  have hzz := hfZ.size
  have f12 : Fr (fun _ => False) w W2 := f1.trans hfZ
  have hb0 := hfZ.blk hb0 (fun e => e)
  have hb1 := hfZ.blk hb1 (fun e => e)
  have hb2 := hfZ.blk hb2 (fun e => e)
  have H := Lib.hid (And.intro f12 (And.intro hb0 (And.intro hb1 (And.intro z1 hzz))))
  refine wpIn_rangeF (X := fun k => k = w.heap.size + 2) (Y := Y) (xs := R) (encs := encL) (gf := gf) (lb := lb) (fun pre X W => BoxB (w.heap.size + 2) W2.heap.size pre X W) (fun _ _ _ _ => False)
    rfl hseq (fun k hk => ⟨by omega, fun e => by have := hYb k e; omega⟩) hYl (by omega) heg (fun _ => rfl)
    (fun s => boxB_stays _ _ _) (fun c s X1 V1 V2 h => h.elim) ⟨_, hb2, ownT_nil _ _, by omega, fun k => by simp [Value.ownBlock]⟩ ?round ?done (fun _ _ _ _ _ _ _ _ _ _ _ h => h.elim)
  case round =>
    rintro l pre x r X1 V K rb hl2 hpx hI hG hxl hF hlV hK
    dsimp only [encL]
    have HK := Lib.hid hK
    have HV := Lib.hid (And.intro hpx (And.intro hI (And.intro hG (And.intro hxl (And.intro hF (And.intro hlV hl2))))))
    clear hK hpx hI hG hxl hF hlV hl2 hseq hYb hYl heg f1 f12 hb0 hb1 hb2 z1 hT hfZ hfZ0 H0
    gi_wp2_with fail
    refine HK.out _ _ (Fr.refl _ _) fun Vb hfb hzb hsb hrb => ?_
    clear HK K
    obtain ⟨hpx, ⟨vb, k3, o3, hSl, hX1⟩, hG, hxl, hF, hlV, hl2⟩ := HV.out
    obtain ⟨f12, hb0, hb1, z1, hzz⟩ := H.out
    have hpl : pre.length < R.length := by
      have := congrArg List.length hpx
      simp at this; omega
    have k3b := hfb.blk k3 (fun e => hxl ((hX1 l).2 (.inl e.symm)))
    have o3b : OwnT W2.heap.size Vb vb pre := ownT_kept o3 fun g hg => hfb.block g (o3.lt g hg).2 fun e => hxl ((hX1 l).2 (.inr (e ▸ hg)))
    have hzs : Vb.heap.size = V.heap.size := hzb
    have hbz : W2.heap.size ≤ Vb.heap.size := by omega
    have hSz : w.heap.size + 2 < Vb.heap.size := blk_lt k3b
    have hor : Vb.ownsRow W2.heap.size 9 1 vb pre.length (pre.map encT) := o3b
    obtain ⟨Av, cv, hvb⟩ := row_slice hor
    subst hvb
    have c3 := blk_cell k3b 0
    have d3 := blk_free k3b 0
    have HO := Lib.hid hor
    have HE := Lib.hid (And.intro hX1 (And.intro hG (And.intro hxl (And.intro hfb (And.intro hrb (And.intro k3b (And.intro o3b (And.intro hzs (And.intro hlV hSl)))))))))
    have n0 : ¬ ((100 : Int) < (pre.length : Int)) := by omega
    clear hpx k3 o3 hSl hX1 hG hxl hF hlV hl2 f12 hb0 hb1 z1 k3b o3b hfb hzb hsb hrb hzs hor hzz
    gi_wp2_with (gi_at_builtin; refine Hid.out ?_)
    refine Lib.hid ?_
    refine wpListIn_one_t rfl _ _ 34 rfl W2.heap.size 9 i0 _ 1 16 Tryz.underlying34 hi hz0 hz1 hz2 rfl (by decide) _ _ _ rfl HO.out #[.string (bs x)] _ rfl rfl rfl (by intro u hu; simp at hu; subst hu; rfl) (by omega) (by decide) hbz ?_
    intro v1 W3 hown1 hfr1 htie
    obtain ⟨A1, c1', rfl⟩ := row_slice hown1
    have hn3 : ∀ k, (Value.slice Av pre.length cv).ownBlock = some k → k ≠ w.heap.size + 2 := fun k hk e => by have := (HO.out.lt k hk).1; have := HE.out.2.2.2.2.2.2.2.2.2; omega
    have e1 : W3.heap[w.heap.size + 2]? = some (.cells #[.slice Av pre.length cv] 34 (0, 0)) := hfr1.blk HE.out.2.2.2.2.2.1 fun e => hn3 _ e rfl
    have g1 := blk_cell e1 0
    have g2 := blk_free e1 0
    clear hn3
    gi_wp2_with fail
    obtain ⟨hX1, hG, hxl, hfb, hrb, k3b, o3b, hzs, hlV, hSl⟩ := HE.out
    exact boxB_put (fun k hk => (hG k hk).1) hX1 hxl hfb hrb k3b o3b (by omega) hSl hown1 hfr1 htie
  case done =>
    rintro D X2 V hD hxD hG hF ⟨u, k3, o3, hSl, hX2⟩ hdef
    obtain ⟨A, cp, rfl⟩ := row_slice o3
    have k0 := hF.blk hb0 (by omega)
    have k1 := hF.blk hb1 (by omega)
    have c3 := blk_cell k3 0
    have c0 := blk_cell k0 0
    have c1 := blk_cell k1 0
    have d0 := blk_free k0 0
    have d1 := blk_free k1 0
    have b4 : Fr (fun k => w.heap.size ≤ k) w V := (f12.mono (Y := fun k => w.heap.size ≤ k) fun _ _ e => e.elim).trans3 hF fun k hk e => by omega
    have hl1 : w.heap.size + 1 < V.heap.size := blk_lt k1
    have HE := Lib.hid (And.intro b4 (And.intro hdef (And.intro o3 (And.intro k0 (And.intro k1 (And.intro hD (And.intro hxD (And.intro hX2 (And.intro z1 hzz)))))))))
    obtain ⟨n3, hn3⟩ : ∃ n3, R.length = n3 := ⟨_, rfl⟩
    rw [hn3] at c3
    have HN3 := Lib.hid hn3
    clear k3 o3 hF hdef hxD hX2 hSl hG f12 hb0 hb1 hb2 z1 hT hfZ hfZ0 H0 H k0 k1 hD b4 hzz hseq hYb hYl heg f1 hn3
    gi_wp2_with fail
    obtain ⟨b4, hdef, o3, k0, k1, hD, hxD, hX2, z1, hzz⟩ := HE.out
    have hn3 := HN3.out
    have q0 := blk_set k0 0 (.slice A n3 cp)
    have q1 := blk_set (blk_other k1 ⟨w.heap.size, 0, none⟩ (by simp) (.slice A n3 cp)) 0 (.bool true)
    have q0' := blk_other q0 ⟨w.heap.size + 1, 0, none⟩ (by simp) (.bool true)
    have hd5 := blk_other (blk_other hdef ⟨w.heap.size, 0, none⟩ (by simp; omega) (.slice A n3 cp)) ⟨w.heap.size + 1, 0, none⟩ (by simp; omega) (.bool true)
    have f5 : Fr (fun k => k = w.heap.size ∨ k = w.heap.size + 1) V ((V.setCell ⟨w.heap.size, 0, none⟩ (.slice A n3 cp)).setCell ⟨w.heap.size + 1, 0, none⟩ (.bool true)) := Fr.setCell (Fr.setCell (Fr.refl (fun k => k = w.heap.size ∨ k = w.heap.size + 1) V) ⟨w.heap.size, 0, none⟩ (.inl rfl) _) ⟨w.heap.size + 1, 0, none⟩ (.inr rfl) _
    refine leaves_one D _ hd5 fun w' hf => ⟨_, res_in2R rfl _ _ (w.heap.size) (w.heap.size + 1) (.slice A n3 cp) (.bool true) _ _ rfl rfl (blk_cell (hf.blk q0' (by omega)) 0) (blk_cell (hf.blk q1 (by omega)) 0) Tryz.underlying34 rfl Tryz.underlying4 rfl, ⟨A, cp, by rw [hn3], ?_⟩, ?_⟩
    · refine ownT_base (ownT_kept o3 fun g hg => ?_) (show w.heap.size ≤ W2.heap.size by omega)
      have hg1 := (o3.lt g hg).1
      have hgl := (o3.lt g hg).2
      exact (hf.block g (Nat.lt_of_lt_of_le hgl f5.size) fun e => hxD ((hX2 D).2 (.inr (e ▸ hg)))).trans (f5.block g hgl (by omega))
    · exact ((b4.trans3 f5 fun k hk e => by omega).trans3 hf fun k hk e => by omega).below (Nat.le_refl _) fun k hk e => by omega
end Go.Proofs.YtmgnhbihfgpccaaGreatDoor
end
section
/- Layer 19: a nil room takes nothing; acts; Great. -/
namespace Go.Proofs.YtmgnhbihfgpccaaGreatDoor
set_option linter.unusedVariables false
set_option linter.unusedSimpArgs false
open Go Go.RowKit

theorem add_nil (id : Int) (op : Bool) (w : World) : Calls Tryz.prog 25 #[.pointer none, .int .i64 id, .bool op] w fun e w' => (∃ v, e = .returned v) ∧ w' = w := by
  go_enter Tryz.func25, Tryz.ntmps25
  go_wp2_with (go_at_call 38; refine (place_nil _ _).mono ?_; rintro e w' ⟨rfl, rfl⟩)
  first | exact bodyPost_ret (results_none rfl _ _ _) rfl ⟨⟨_, rfl⟩, rfl⟩ | (go_end0; exact ⟨⟨_, rfl⟩, rfl⟩)
theorem drop_nil (id : Int) (w : World) : Calls Tryz.prog 28 #[.pointer none, .int .i64 id] w fun e w' => e = .returned (.bool false) ∧ w' = w := by
  go_enter Tryz.func28, Tryz.ntmps28
  go_wp2_with (go_at_call 38; refine (place_nil _ _).mono ?_; rintro e w' ⟨rfl, rfl⟩)
  go_ret
  exact ⟨rfl, rfl⟩
theorem setTopic_nil (s : ByteArray) (w : World) : Calls Tryz.prog 26 #[.pointer none, .string s] w fun e w' => (∃ v, e = .returned v) ∧ w' = w := by
  go_enter Tryz.func26, Tryz.ntmps26
  go_wp2_with fail
  first | exact bodyPost_ret (results_none rfl _ _ _) rfl ⟨⟨_, rfl⟩, rfl⟩ | (go_end0; exact ⟨⟨_, rfl⟩, rfl⟩)
theorem invite_nil (id : Int) (w : World) : Calls Tryz.prog 27 #[.pointer none, .int .i64 id] w fun e w' => (∃ v, e = .returned v) ∧ w' = w := by
  go_enter Tryz.func27, Tryz.ntmps27
  go_wp2_with fail
  first | exact bodyPost_ret (results_none rfl _ _ _) rfl ⟨⟨_, rfl⟩, rfl⟩ | (go_end0; exact ⟨⟨_, rfl⟩, rfl⟩)
theorem member_nil (id : Int) (w : World) : Calls Tryz.prog 13 #[.pointer none, .int .i64 id] w fun e w' => e = .returned (.tuple #[memV (0, false, false), .bool false]) ∧ RowKit.Below w.heap.size w w' := by
  go_enter Tryz.func13, Tryz.ntmps13
  go_wp2_with (go_at_call 38; refine (place_nil _ _).mono ?_; rintro e w' ⟨rfl, rfl⟩)
  have k := fun j => blk_cell (heap_alloc_new w (Obj.cells #[Value.int IntKind.i64 0, Value.bool false, Value.bool false] 38)) j
  exact bodyPost_ret (res_three rfl rfl (Tryz.isAgg38 _) (Tryz.sizeOf38 _) (k 0) (k 1) (k 2)) rfl ⟨rfl, (Below.refl _ _).alloc (Nat.le_refl _) _⟩
theorem mayJoin_nil (id : Int) (who key : ByteArray) (w : World) : Calls Tryz.prog 29 #[.pointer none, .int .i64 id, .string who, .string key] w fun e w' => e = .returned (.int .i64 403) ∧ w' = w := by
  go_enter Tryz.func29, Tryz.ntmps29
  go_wp2_with fail
  go_ret
  exact ⟨rfl, rfl⟩
theorem maySpeak_nil (id : Int) (who : ByteArray) (w : World) : Calls Tryz.prog 30 #[.pointer none, .int .i64 id, .string who] w fun e w' => e = .returned (.bool false) ∧ w' = w := by
  go_enter Tryz.func30, Tryz.ntmps30
  go_wp2_with fail
  go_ret
  exact ⟨rfl, rfl⟩
/-- an act -/
structure Act19 where
  k : Int
  id : Int
  op : Bool
  s : List UInt8
  on : Bool
  l : UInt8
  arg : List UInt8
def encA (a : Act19) : List Value := [.int .i64 a.k, .int .i64 a.id, .bool a.op, .string (bs a.s), .bool a.on, .int .u8 a.l.toNat, .string (bs a.arg)]
def actV (a : Act19) : Value := .agg #[.int .i64 a.k, .int .i64 a.id, .bool a.op, .string (bs a.s), .bool a.on, .int .u8 a.l.toNat, .string (bs a.arg)]
/-- what a slice of acts reads -/
def ReadsA (w : World) (A : Option Addr) (xs : List Act19) : Prop := 0 < xs.length → ∃ g o, A = some ⟨g, o, none⟩ ∧ g < w.heap.size ∧ ∀ j (h : j < xs.length) i, i < 7 → w.cell? ⟨g, o + j * 7 + i, none⟩ = (encA xs[j])[i]?
theorem ReadsA.below {w W : World} {A : Option Addr} {xs : List Act19} (h : ReadsA w A xs) {n : Nat} (hb : RowKit.Below n w W) (hn : w.heap.size ≤ n := by exact Nat.le_refl _) : ReadsA W A xs := fun h0 => by
  obtain ⟨g, o, h1, h2, h3⟩ := h h0
  exact ⟨g, o, h1, Nat.lt_of_lt_of_le h2 hb.size, fun j hj i hi => (World.cell?_of_block (w := w) (w' := W) (a := ⟨g, o + j * 7 + i, none⟩) (hb.block g (Nat.lt_of_lt_of_le h2 hn))).trans (h3 j hj i hi)⟩
/-- more than is looked at? -/
def grA (xs : List Act19) : Bool := decide (40 < xs.length) || xs.any fun a => decide (250 < a.s.length) || decide (250 < a.arg.length)
theorem grA_mem {xs : List Act19} (h : grA xs = false) : xs.length ≤ 40 ∧ ∀ a ∈ xs, a.s.length ≤ 250 ∧ a.arg.length ≤ 250 := by
  unfold grA at h
  rw [Bool.or_eq_false_iff] at h
  refine ⟨by simpa using h.1, fun a ha => ?_⟩
  have := List.any_eq_false.1 h.2 a ha
  simp at this; omega
set_option maxHeartbeats 4000000 in
theorem great19 (A : Option Addr) (c : Nat) (xs : List Act19) (w : World) (hR : ReadsA w A xs) (hl : xs.length ≤ 9223372036854775807) :
    Calls Tryz.prog 8 #[.slice A xs.length c] w fun e w' => e = .returned (.bool (grA xs)) ∧ w' = w := by
  by_cases h20 : 40 < xs.length
  · have hq : (40 : Int) < xs.length := by omega
    have HG : Hid (grA xs = true) := by show grA xs = true; unfold grA; rw [decide_eq_true h20]; rfl
    clear h20
    go_enter Tryz.func8, Tryz.ntmps8
    go_wp2_with fail
    go_ret
    exact ⟨ret_bool HG.out.symm, rfl⟩
  · have hq : ¬ (40 : Int) < xs.length := by omega
    have HR := Lib.hid hR
    have H20 := Lib.hid h20
    clear hR h20
    go_enter Tryz.func8, Tryz.ntmps8
    go_wp2_with fail
    go_loopw [3] (fun i wr => ∃ k : Nat, k ≤ xs.length ∧ i = .int .i64 k ∧ (∀ j (h : j < xs.length), j < k → xs[j].s.length ≤ 250 ∧ xs[j].arg.length ≤ 250) ∧ w = wr) (fun i _ => xs.length - (RowKit.intOf i).toNat)
    case atStart => exact ⟨0, Nat.zero_le _, rfl, fun _ _ h => absurd h (Nat.not_lt_zero _), rfl⟩
    case round =>
      obtain ⟨k, hk, rfl, hall, rfl⟩ := hrel
      have HALL := Lib.hid hall
      clear hall
      by_cases hlt : k < xs.length
      · obtain ⟨g, o, hA, hg, hc⟩ := HR.out (by omega)
        have c3 := hc k hlt 3 (by decide)
        have c6 := hc k hlt 6 (by decide)
        obtain ⟨a, ha⟩ : ∃ a, xs[k] = a := ⟨_, rfl⟩
        rw [ha] at c3 c6
        have d3 : w.cell? ⟨g, o + k * 7 + 3, none⟩ = some (.string (bs a.s)) := c3
        have d6 : w.cell? ⟨g, o + k * 7 + 6, none⟩ = some (.string (bs a.arg)) := c6
        have d6' : w.cell? ⟨g, o + k * 7 + 4 + 2, none⟩ = some (.string (bs a.arg)) := c6
        have HA := Lib.hid ha
        subst hA
        clear hc ha c3 c6
        by_cases hb1 : 250 < a.s.length
        · have hb2 : (250 : Int) < a.s.length := by omega
          have HG : Hid (grA xs = true) := by
            show grA xs = true
            unfold grA
            rw [Bool.or_eq_true]
            exact .inr (List.any_eq_true.2 ⟨a, HA.out ▸ List.getElem_mem hlt, by rw [decide_eq_true hb1]; rfl⟩)
          clear hb1
          go_wp2_with fail
          go_ret
          exact ⟨ret_bool HG.out.symm, rfl⟩
        · have hb2 : ¬ (250 : Int) < a.s.length := by omega
          by_cases hb3 : 250 < a.arg.length
          · have hb4 : (250 : Int) < a.arg.length := by omega
            have HG : Hid (grA xs = true) := by
              show grA xs = true
              unfold grA
              rw [Bool.or_eq_true]
              exact .inr (List.any_eq_true.2 ⟨a, HA.out ▸ List.getElem_mem hlt, by rw [decide_eq_true hb3, Bool.or_true]⟩)
            clear hb1 hb3
            go_wp2_with fail
            go_ret
            exact ⟨ret_bool HG.out.symm, rfl⟩
          · have hb4 : ¬ (250 : Int) < a.arg.length := by omega
            have HB := Lib.hid (And.intro hb1 hb3)
            clear hb1 hb3
            go_wp2_with fail
            refine ⟨⟨k + 1, by omega, by push_cast; rfl, fun j hj hjk => ?_, by simp⟩, by simp only [RowKit.intOf]; omega⟩
            rcases Nat.lt_or_ge j k with h | h
            · exact HALL.out j hj h
            · obtain rfl : j = k := by omega
              have e1 := HA.out; have e2 := HB.out
              rw [e1]; omega
      · obtain rfl : k = xs.length := by omega
        go_wp2_with fail
        go_ret
        refine ⟨ret_bool ?_, rfl⟩
        unfold grA
        rw [decide_eq_false H20.out, Bool.false_or]
        symm
        rw [List.any_eq_false]
        intro p hp
        obtain ⟨j, hj, rfl⟩ := List.getElem_of_mem hp
        have := HALL.out j hj hj
        simp; omega
end Go.Proofs.YtmgnhbihfgpccaaGreatDoor
end
section
/- Layer 19: RoomNone. -/
namespace Go.Proofs.YtmgnhbihfgpccaaGreatDoor
set_option linter.unusedVariables false
set_option linter.unusedSimpArgs false
open Go Go.RowKit

theorem box7_below {w W : World} {N : Nat} {cs : Array Value} {T : TypeId} (h : w.heap[N]? = some (.cells cs T (0, 0))) (hb : RowKit.Below w.heap.size w W) : W.heap[N]? = some (.cells cs T (0, 0)) := (hb.block N (blk_lt h)).trans h
set_option maxRecDepth 100000 in
set_option maxHeartbeats 8000000 in
theorem roomNone_walk (a : Act19) (w : World) (hr : Rowed w) (hp : PowR w) (hs : a.s.length ≤ 9223372036854775807) (ha : a.arg.length ≤ 9223372036854775807) :
    Calls Tryz.prog 5 #[actV a] w fun e w' => e = .returned (.bool true) ∧ RowKit.Below w.heap.size w w' := by
  obtain ⟨N, hN⟩ : ∃ N, w.heap.size = N := ⟨_, rfl⟩
  obtain ⟨w0, hw0⟩ : ∃ w0, w.alloc (Obj.cells #[.int .i64 a.k, .int .i64 a.id, .bool a.op, .string (bs a.s), .bool a.on, .int .u8 a.l.toNat, .string (bs a.arg)] 33) = w0 := ⟨_, rfl⟩
  have b0 : RowKit.Below w.heap.size w w0 := by rw [← hw0]; exact (Below.refl _ _).alloc (Nat.le_refl _) _
  have k0 : w0.heap[N]? = some (.cells #[.int .i64 a.k, .int .i64 a.id, .bool a.op, .string (bs a.s), .bool a.on, .int .u8 a.l.toNat, .string (bs a.arg)] 33 (0, 0)) := by rw [← hw0, ← hN]; exact heap_alloc_new w _
  have hcs : ∀ W, RowKit.Below w0.heap.size w0 W → W.cell? ⟨N, 0, none⟩ = some (.int .i64 a.k) ∧ W.cell? ⟨N, 1, none⟩ = some (.int .i64 a.id) ∧ W.cell? ⟨N, 2, none⟩ = some (.bool a.op) ∧ W.cell? ⟨N, 3, none⟩ = some (.string (bs a.s)) ∧ W.cell? ⟨N, 4, none⟩ = some (.bool a.on) ∧ W.cell? ⟨N, 5, none⟩ = some (.int .u8 a.l.toNat) ∧ W.cell? ⟨N, 6, none⟩ = some (.string (bs a.arg)) := fun W hb => by
    have k := box7_below k0 hb
    exact ⟨blk_cell k 0, blk_cell k 1, blk_cell k 2, blk_cell k 3, blk_cell k 4, blk_cell k 5, blk_cell k 6⟩
  have hg : ∀ W, Calls Tryz.prog 8 #[.slice (some ⟨W.heap.size, 0, none⟩) 1 1] (W.alloc (Obj.cells #[.int .i64 a.k, .int .i64 a.id, .bool a.op, .string (bs a.s), .bool a.on, .int .u8 a.l.toNat, .string (bs a.arg)] 33)) fun e w' => e = .returned (.bool (grA [a])) ∧ RowKit.Below W.heap.size W w' := fun W => by
    have hra : ReadsA (W.alloc (Obj.cells #[.int .i64 a.k, .int .i64 a.id, .bool a.op, .string (bs a.s), .bool a.on, .int .u8 a.l.toNat, .string (bs a.arg)] 33)) (some ⟨W.heap.size, 0, none⟩) [a] := fun _ => ⟨_, 0, rfl, by simp, fun j hj i hi => by
      obtain rfl : j = 0 := by simpa using hj
      rw [show 0 + 0 * 7 + i = i by omega, blk_cell (heap_alloc_new W _) i]
      simp [encA]⟩
    exact (great19 _ 1 [a] _ hra (by simp)).mono fun e w' ⟨h1, h2⟩ => ⟨h1, by rw [h2]; exact (Below.refl _ _).alloc (Nat.le_refl _) _⟩
  obtain ⟨gr, hgr⟩ : ∃ gr, grA [a] = gr := ⟨_, rfl⟩
  rw [hgr] at hg
  have HCS := Lib.hid hcs
  have HG := Lib.hid hg
  have H0 := Lib.hid (And.intro hw0 b0)
  have HA := Lib.hid (awake19 w0 (hr.keep b0) (hp.below b0))
  clear hcs hg hw0 b0 k0 hr hp hgr
  have HN := Lib.hid hN
  clear hN
  unfold actV
  go_enter Tryz.func5, Tryz.ntmps5
  go_wp2_with fail
  rw [H0.out.1, HN.out]
  refine HA.out.mono ?_
  rintro e w1 ⟨rfl, b1⟩
  have B1 := Lib.hid b1
  obtain ⟨c0, c1, c2, c3, c4, c5, c6⟩ := HCS.out _ B1.out
  clear b1
  go_wp2_with fail
  refine (HG.out w1).mono ?_
  rintro e w2 ⟨rfl, b2⟩
  have B2 := Lib.hid (B1.out.trans (b2.mono B1.out.size))
  clear b2 c0 c1 c2 c3 c4 c5 c6
  obtain ⟨c0, c1, c2, c3, c4, c5, c6⟩ := HCS.out _ B2.out
  cases gr with
  | true =>
    clear c0 c1 c2 c3 c4 c5 c6
    go_wp2_with fail
    go_ret
    exact ⟨rfl, H0.out.2.trans (B2.out.mono H0.out.2.size)⟩
  | false =>
    go_wp2_with (first
      | (go_at_call 25; refine (add_nil _ _ _).mono ?_; rintro e w' ⟨⟨_, rfl⟩, rfl⟩)
      | (go_at_call 26; refine (setTopic_nil _ _).mono ?_; rintro e w' ⟨⟨_, rfl⟩, rfl⟩)
      | (go_at_call 27; refine (invite_nil _ _).mono ?_; rintro e w' ⟨⟨_, rfl⟩, rfl⟩))
    refine (member_nil _ _).mono ?_
    rintro e w3 ⟨rfl, b3⟩
    have B3 := Lib.hid (B2.out.trans (b3.mono B2.out.size))
    clear b3 c0 c1 c2 c3 c4 c5 c6
    obtain ⟨c0, c1, c2, c3, c4, c5, c6⟩ := HCS.out _ B3.out
    have hz3 := B3.out.size
    obtain ⟨w4, hw4⟩ : ∃ w4, w3.alloc (Obj.cells #[Value.int IntKind.i64 0, Value.bool false, Value.bool false] 38) = w4 := ⟨_, rfl⟩
    have b4 : RowKit.Below w3.heap.size w3 w4 := by rw [← hw4]; exact (Below.refl _ _).alloc (Nat.le_refl _) _
    have B4 := Lib.hid (B3.out.trans (b4.mono B3.out.size))
    clear b4 c0 c1 c2 c3 c4 c5 c6
    obtain ⟨c0, c1, c2, c3, c4, c5, c6⟩ := HCS.out _ B4.out
    rw [← hw4] at c1 c4 c5 c6
    have HW4 := Lib.hid hw4
    clear c0 c2 c3 hw4
    go_wp2_with fail
    rw [HW4.out]
    clear HW4 c1 c4 c5 c6
    refine (change_nil (.int .i64 0) a.id w4 a.on a.l a.arg).mono ?_
    rintro e w5 ⟨rfl, b5⟩
    have B5 := Lib.hid (B4.out.trans (b5.mono B4.out.size))
    clear b5
    obtain ⟨c0, c1, c2, c3, c4, c5, c6⟩ := HCS.out _ B5.out
    dsimp only [Told.val, noT, chgV]
    go_wp2_with fail
    clear c0 c1 c2 c3 c4 c5 c6
    obtain ⟨M, hM⟩ : ∃ M, w5.heap.size = M := ⟨_, rfl⟩
    obtain ⟨w6, hw6⟩ : ∃ w6, w5.alloc (Obj.cells #[Value.bool false, Value.int IntKind.u8 0, Value.string (bs [])] 31) = w6 := ⟨_, rfl⟩
    have b6 : RowKit.Below w5.heap.size w5 w6 := by rw [← hw6]; exact (Below.refl _ _).alloc (Nat.le_refl _) _
    have k6 : w6.heap[M]? = some (.cells #[.bool false, .int .u8 0, .string (bs [])] 31 (0, 0)) := by rw [← hw6, ← hM]; exact heap_alloc_new w5 _
    have B6 := Lib.hid (B5.out.trans (b6.mono B5.out.size))
    have K6 := Lib.hid k6
    rw [hw6, hM]
    clear hw6 b6 k6 hM
    refine (bans_law (w := w6) (p := none) (R := []) (fun W _ => bans_nil W) (by simp)).mono ?_
    rintro e w7 ⟨⟨A7, c7, rfl, o7⟩, b7⟩
    have B7 := Lib.hid (B6.out.trans (b7.mono B6.out.size))
    have k7 := box7_below K6.out b7
    have K7 := Lib.hid k7
    clear k7 b7 o7
    obtain ⟨c0, c1, c2, c3, c4, c5, c6⟩ := HCS.out _ B7.out
    have e0 := blk_cell K7.out 0
    have e1 := blk_cell K7.out 1
    have e2 := blk_cell K7.out 2
    have hx0 : ((bs []).toList == ([] : List UInt8)) = true := by decide +kernel
    have hx1 : (bs []).toList = ([] : List UInt8) := by decide +kernel
    go_wp2_with fail
    refine (drop_nil _ _).mono ?_
    rintro e w8 ⟨rfl, hw8⟩
    rw [hw8]
    clear hw8
    go_wp2_with fail
    refine (members_law (w := w7) (p := none) (R := []) (fun W _ => members_nil W) (fun W _ => rlen_nil W) (by simp) none 0 (fun h => by simp at h)).mono ?_
    rintro e w9 ⟨rfl, f9⟩
    have B9 := Lib.hid (B7.out.trans (f9.below B7.out.size fun _ _ e => e.elim))
    have k9 := f9.blk K7.out fun e => e
    have K9 := Lib.hid k9
    clear k9 f9 c0 c1 c2 c3 c4 c5 c6 e0 e1 e2
    obtain ⟨c0, c1, c2, c3, c4, c5, c6⟩ := HCS.out _ B9.out
    have e0 := blk_cell K9.out 0
    have e1 := blk_cell K9.out 1
    have e2 := blk_cell K9.out 2
    go_wp2_with fail
    refine (name_nil _).mono ?_
    rintro e w10 ⟨rfl, hw⟩
    rw [hw]
    clear hw
    go_wp2_with fail
    refine (topic_nil _).mono ?_
    rintro e w11 ⟨rfl, hw⟩
    rw [hw]
    clear hw
    go_wp2_with fail
    refine (flag_nil 110 _).mono ?_
    rintro e w12 ⟨rfl, n12, rfl⟩
    have B12 := Lib.hid (B9.out.trans (((Fr.refl (fun _ => False) w9).drewN n12).below B9.out.size fun _ _ e => e.elim))
    clear c0 c1 c2 c3 c4 c5 c6 e0 e1 e2
    obtain ⟨c0, c1, c2, c3, c4, c5, c6⟩ := HCS.out _ B12.out
    go_wp2_with fail
    refine (modes_nil true _).mono ?_
    rintro e w13 ⟨rfl, hw⟩
    rw [hw]
    clear hw
    go_wp2_with fail
    refine (mayJoin_nil _ _ _ _).mono ?_
    rintro e w14 ⟨rfl, hw⟩
    rw [hw]
    clear hw
    go_wp2_with fail
    refine (maySpeak_nil _ _ _).mono ?_
    rintro e w15 ⟨rfl, hw⟩
    rw [hw]
    clear hw
    go_wp2_with fail
    go_ret
    exact ⟨rfl, H0.out.2.trans (B12.out.mono H0.out.2.size)⟩
end Go.Proofs.YtmgnhbihfgpccaaGreatDoor
end
section
/- A law's arguments: slices of texts, of structs, opened; what was only read reads as it read. -/
namespace Go.Proofs.YtmgnhbihfgpccaaGreatDoor
open Go Go.ChangeShapes Go.WideShapes Go.RowKit Go.Deep

section
variable {H : Type} {enc : TypeId × Value → H} {P : Program} {W W' : World}

/-- is each of these types one that can be read again? -/
def readAll (P : Program) (ts : List TypeId) : Bool := ts.all fun t => P.readableRec t && decide (t < P.types.size)
theorem stays_all (hl : laidOutB P = true) (hB : Below W.heap.size W W') {sp : Nat → Bool} : ∀ (ts : List TypeId) (vs : List Value) (ds : List (DataW H)) (ps : List MemPlace), readAll P ts = true →
    DataW.TrodAll enc P W 0 (fun _ => true) true ts vs ds ps → (∀ x ∈ ps, x.block < W.heap.size) → (∀ x ∈ ps, sp x.block = true) → DataW.TrodAll enc P W' 0 sp true ts vs ds ps
  | [], vs, ds, ps, _, h, _, _ => by
    obtain ⟨rfl, rfl, rfl⟩ := trodAll_nil h
    exact trodAll_mk0
  | t :: ts, vs, ds, ps, hr, h, hlt, hs => by
    obtain ⟨v, vs1, d, ds1, p, q, rfl, rfl, rfl, h1, h2⟩ := trodAll_cons h
    unfold readAll at hr
    rw [List.all_cons, Bool.and_eq_true, Bool.and_eq_true] at hr
    obtain ⟨⟨hr1, hr2⟩, hr3⟩ := hr
    refine trodAll_cons_mk ?_ (stays_all hl hB ts vs1 ds1 q hr3 h2 (fun x hx => hlt x (by simp [hx])) (fun x hx => hs x (by simp [hx])))
    exact WideElems.Trod_stays hl hr1 (of_decide_eq_true hr2) h1 (fun x hx => hB.same (hlt x (by simp [hx]))) (fun x hx => hs x (by simp [hx]))

theorem spot_of {a : Addr} {v : Value} (h : W.cell? (a.add 0) = some v) : ∃ g o, a = ⟨g, o, none⟩ := by
  have := World.cell?_spot h
  obtain ⟨g, o, s⟩ := a
  simp [Addr.add] at this
  subst this
  exact ⟨g, o, rfl⟩
theorem add_at (g o n : Nat) : (⟨g, o, none⟩ : Addr).add n = ⟨g, o + n, none⟩ := by
  unfold Addr.add
  split
  · simp_all
  · rfl

theorem open_texts {t e : TypeId} {base : Nat} {v : Value} {d : DataW H} {p : List MemPlace} (ht : P.underlying t = some (.slice e)) (he : P.underlying e = some .string) (hc : P.cellsOf e = 1)
    (hval : Value.okWide P W .any base t v) (h : DataW.Trod enc P W 0 (fun _ => true) true t v d p) :
    ∃ (A : Option Addr) (ss : List ByteArray) (c : Nat), v = .slice A ss.length c ∧ ss.length ≤ c ∧ c ≤ maxLen ∧ (∀ s ∈ ss, s.size ≤ maxLen) ∧ (0 < ss.length → ∃ g o, A = some ⟨g, o, none⟩ ∧ ∀ i (h : i < ss.length), W.cell? ⟨g, o + i, none⟩ = some (.string ss[i])) := by
  obtain ⟨A, n, c, rfl⟩ := okWide_slice ht hval
  obtain ⟨fuel, hf⟩ := h
  rcases open_strs ht he hc hf with ⟨hcs, _⟩ | ⟨a, len, cap, m, Sx, hcs, _, hl, hm, hmm, _, hcell⟩
  · have h3 : A = none ∧ n = 0 ∧ c = 0 := by simpa [Value.cells] using hcs
    obtain ⟨rfl, rfl, rfl⟩ := h3
    exact ⟨none, [], 0, rfl, Nat.le_refl _, by unfold maxLen; omega, by simp, fun h => absurd h (by simp)⟩
  · have h3 : A = some a ∧ n = len ∧ c = cap := by simpa [Value.cells] using hcs
    obtain ⟨rfl, rfl, rfl⟩ := h3
    simp only [if_true] at hmm
    refine ⟨some a, (List.range n).map Sx, c, by simp, by simpa using hl, hm, ?_, ?_⟩
    · intro s hs
      simp only [List.mem_map, List.mem_range] at hs
      obtain ⟨i, hi, rfl⟩ := hs
      exact (hcell i (by omega)).2
    · intro hpos
      simp only [List.length_map, List.length_range] at hpos
      obtain ⟨g, o, rfl⟩ := spot_of (hcell 0 (by omega)).1
      refine ⟨g, o, rfl, fun i hi => ?_⟩
      simp only [List.length_map, List.length_range] at hi
      have := (hcell i (by omega)).1
      rw [add_at] at this
      simpa using this

/-- structs of three fields: a boolean, a byte, a text -/
theorem open_bus {t e tb tu ts : TypeId} {fs : Array Field} {base : Nat} {v : Value} {d : DataW H} {p : List MemPlace} (ht : P.underlying t = some (.slice e)) (he : P.underlying e = some (.struct fs)) (hc : P.cellsOf e = 3)
    (hfs : fs.toList.map (fun f => (f.type, f.offset)) = [(tb, 0), (tu, 1), (ts, 2)]) (ub : P.underlying tb = some .bool) (uu : P.underlying tu = some (.int .u8)) (us : P.underlying ts = some .string) (kb : P.cellsOf tb = 1) (ku : P.cellsOf tu = 1) (ks : P.cellsOf ts = 1)
    (hval : Value.okWide P W .any base t v) (h : DataW.Trod enc P W 0 (fun _ => true) true t v d p) :
    ∃ (A : Option Addr) (l : List (Bool × UInt8 × ByteArray)) (c : Nat), v = .slice A l.length c ∧ l.length ≤ c ∧ c ≤ maxLen ∧ (∀ x ∈ l, x.2.2.size ≤ maxLen) ∧
      (0 < l.length → ∃ g o, A = some ⟨g, o, none⟩ ∧ ∀ i (h : i < l.length), W.cell? ⟨g, o + i * 3, none⟩ = some (.bool l[i].1) ∧ W.cell? ⟨g, o + i * 3 + 1, none⟩ = some (.int .u8 l[i].2.1.toNat) ∧ W.cell? ⟨g, o + i * 3 + 2, none⟩ = some (.string l[i].2.2)) := by
  obtain ⟨A, n, c, rfl⟩ := okWide_slice ht hval
  obtain ⟨fuel, hf⟩ := h
  rcases open_slice ht hf with ⟨hcs, _⟩ | ⟨a, len, cap, m, k, D, Pl, hcs, _, hl, hm, hmm, _, hel⟩
  · have h3 : A = none ∧ n = 0 ∧ c = 0 := by simpa [Value.cells] using hcs
    obtain ⟨rfl, rfl, rfl⟩ := h3
    exact ⟨none, [], 0, rfl, Nat.le_refl _, by unfold maxLen; omega, by simp, fun h => absurd h (by simp)⟩
  · have h3 : A = some a ∧ n = len ∧ c = cap := by simpa [Value.cells] using hcs
    obtain ⟨rfl, rfl, rfl⟩ := h3
    simp only [if_true] at hmm
    have each : ∀ i, i < n → ∃ x : Bool × UInt8 × ByteArray, x.2.2.size ≤ maxLen ∧ W.cell? ((a.add (i * 3)).add 0) = some (.bool x.1) ∧ W.cell? ((a.add (i * 3)).add 1) = some (.int .u8 x.2.1.toNat) ∧ W.cell? ((a.add (i * 3)).add 2) = some (.string x.2.2) := by
      intro i hi
      obtain ⟨cs', h1, h2⟩ := hel i (by omega)
      rw [hc] at h1
      obtain ⟨_, hlen, hat⟩ := World.cells?_some h1
      obtain ⟨xs, k', _, _, _, hxl, hx⟩ := DataW.trod_struct he h2
      obtain ⟨fl⟩ := fs
      rcases fl with _ | ⟨f0, _ | ⟨f1, _ | ⟨f2, _ | ⟨f3, fl⟩⟩⟩⟩
      all_goals simp only [List.map_nil, List.map_cons, List.cons.injEq, Prod.mk.injEq, reduceCtorEq, and_false, and_true, false_and] at hfs
      obtain ⟨⟨t0, z0⟩, ⟨t1, z1⟩, t2, z2⟩ := hfs
      match cs', hlen with
      | [v0, v1, v2], _ =>
        match xs, hxl with
        | [y0, y1, y2], _ =>
          have g0 := hx 0 f0 rfl
          have g1 := hx 1 f1 rfl
          have g2 := hx 2 f2 rfl
          rw [t0, z0, kb] at g0
          rw [t1, z1, ku] at g1
          rw [t2, z2, ks] at g2
          obtain ⟨b, e0, _⟩ := DataW.trod_bool ub g0
          obtain ⟨u, e1, _, hw⟩ := DataW.trod_int uu g1
          obtain ⟨s, e2, _, hs⟩ := DataW.trod_string us g2
          simp only [List.drop_zero, List.drop_succ_cons, List.take_succ_cons, List.take_zero, List.cons.injEq, and_true] at e0 e1 e2
          subst e0; subst e1; subst e2
          simp only [Lit.wf, IntKind.has, Bool.and_eq_true, decide_eq_true_eq] at hw
          have hu0 : 0 ≤ u ∧ u ≤ 255 := ⟨hw.1, hw.2⟩
          have hu : ((UInt8.ofNat u.toNat).toNat : Int) = u := by
            rw [UInt8.toNat_ofNat']
            have : u.toNat < 256 := by omega
            rw [Nat.mod_eq_of_lt (by simpa using this)]
            omega
          refine ⟨(b, UInt8.ofNat u.toNat, s), hs, (hat 0 (by omega)).trans rfl, (hat 1 (by omega)).trans ?_, (hat 2 (by omega)).trans rfl⟩
          show some (Value.int .u8 u) = some (.int .u8 ((UInt8.ofNat u.toNat).toNat : Int))
          rw [hu]
    obtain ⟨F, hF⟩ := choose_lt each
    refine ⟨some a, (List.range n).map F, c, by simp, by simpa using hl, hm, ?_, ?_⟩
    · intro x hx
      simp only [List.mem_map, List.mem_range] at hx
      obtain ⟨i, hi, rfl⟩ := hx
      exact (hF i hi).1
    · intro hpos
      simp only [List.length_map, List.length_range] at hpos
      have h00 := (hF 0 hpos).2.1
      have h000 : W.cell? (a.add 0) = some (.bool (F 0).1) := by simpa [Addr.add] using h00
      obtain ⟨g, o, rfl⟩ := spot_of h000
      refine ⟨g, o, rfl, fun i hi => ?_⟩
      simp only [List.length_map, List.length_range] at hi
      obtain ⟨_, q0, q1, q2⟩ := hF i hi
      rw [add_at, add_at] at q0 q1 q2
      simpa using ⟨q0, q1, q2⟩
end
end Go.Proofs.YtmgnhbihfgpccaaGreatDoor
end
section
/- An argument that is a slice of anything flat, opened. -/
namespace Go.Proofs.YtmgnhbihfgpccaaGreatDoor
open Go Go.ChangeShapes Go.WideShapes Go.RowKit Go.Deep

section
variable {H : Type} {enc : TypeId × Value → H} {P : Program} {W : World}
theorem open_elems {α : Type} [Inhabited α] {t e : TypeId} {base k : Nat} {v : Value} {d : DataW H} {p : List MemPlace} (hk : 0 < k) (encf : α → List Value) (G : α → Prop) (ht : P.underlying t = some (.slice e)) (hc : P.cellsOf e = k)
    (hdec : ∀ n cs y, cs.length = k → DataW.trod enc P W 0 (fun _ => true) true n e cs = some y → ∃ x, cs = encf x ∧ G x)
    (hval : Value.okWide P W .any base t v) (h : DataW.Trod enc P W 0 (fun _ => true) true t v d p) :
    ∃ (A : Option Addr) (l : List α) (c : Nat), v = .slice A l.length c ∧ l.length ≤ c ∧ c ≤ maxLen ∧ (∀ x ∈ l, G x) ∧
      (0 < l.length → ∃ g o, A = some ⟨g, o, none⟩ ∧ g < W.heap.size ∧ ∀ i (h : i < l.length) j u, (encf l[i])[j]? = some u → W.cell? ⟨g, o + i * k + j, none⟩ = some u) := by
  obtain ⟨A, n, c, rfl⟩ := okWide_slice ht hval
  obtain ⟨fuel, hf⟩ := h
  rcases open_slice ht hf with ⟨hcs, _⟩ | ⟨a, len, cap, m, n', D, Pl, hcs, _, hl, hm, hmm, _, hel⟩
  · have h3 : A = none ∧ n = 0 ∧ c = 0 := by simpa [Value.cells] using hcs
    obtain ⟨rfl, rfl, rfl⟩ := h3
    exact ⟨none, [], 0, rfl, Nat.le_refl _, by unfold maxLen; omega, by simp, fun h => absurd h (by simp)⟩
  · have h3 : A = some a ∧ n = len ∧ c = cap := by simpa [Value.cells] using hcs
    obtain ⟨rfl, rfl, rfl⟩ := h3
    simp only [if_true] at hmm
    have each : ∀ i, i < n → ∃ x : α, G x ∧ (encf x).length = k ∧ ∀ j u, (encf x)[j]? = some u → W.cell? ((a.add (i * k)).add j) = some u := by
      intro i hi
      obtain ⟨cs', h1, h2⟩ := hel i (by omega)
      rw [hc] at h1
      obtain ⟨_, hlen, hat⟩ := World.cells?_some h1
      obtain ⟨x, rfl, hg⟩ := hdec _ _ _ hlen h2
      refine ⟨x, hg, hlen, fun j u hu => ?_⟩
      have hj : j < k := by
        rw [← hlen]; exact (List.getElem?_eq_some_iff.1 hu).1
      rw [hat j hj, hu]
    obtain ⟨F, hF⟩ := choose_lt each
    refine ⟨some a, (List.range n).map F, c, by simp, by simpa using hl, hm, ?_, ?_⟩
    · intro x hx
      simp only [List.mem_map, List.mem_range] at hx
      obtain ⟨i, hi, rfl⟩ := hx
      exact (hF i hi).1
    · intro hpos
      simp only [List.length_map, List.length_range] at hpos
      obtain ⟨_, hl0, h0⟩ := hF 0 hpos
      have hq := h0 0 ((encf (F 0))[0]'(by omega)) (List.getElem?_eq_getElem (by omega))
      have hq : W.cell? (a.add 0) = some ((encf (F 0))[0]'(by omega)) := by
        have e : (a.add (0 * k)).add 0 = a.add 0 := by
          obtain ⟨b, o, s⟩ := a
          cases s <;> simp [Addr.add]
        rwa [e] at hq
      obtain ⟨g, o, rfl⟩ := spot_of hq
      have hg : g < W.heap.size := by
        have := block_lt_of_cell hq
        simpa [add_at] using this
      refine ⟨g, o, rfl, hg, fun i hi j u hu => ?_⟩
      simp only [List.length_map, List.length_range] at hi
      obtain ⟨_, _, hh⟩ := hF i hi
      have := hh j u (by simpa using hu)
      rwa [add_at, add_at] at this
end
end Go.Proofs.YtmgnhbihfgpccaaGreatDoor
end
