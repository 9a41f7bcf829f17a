/- Texts of this proof, one behind the other. -/
import Derived.Test.YtmgnhbihfgpccaaGreatDoorRoomPlaysG8
import Derived.Test.YtmgnhbihfgpccaaGreatDoorRoomPlaysG2
import Derived.Test.YtmgnhbihfgpccaaGreatDoorRoomPlaysG3
import Derived.Deep.RegionHeld3
import Derived.Deep.DrawnRows
import Derived.WalkKit
set_option linter.unusedVariables false
set_option linter.unusedSimpArgs false
section
/- Layer 19: members told: slices.Values, slices.Clone; Members, Bans. -/
namespace Go.Proofs.YtmgnhbihfgpccaaGreatDoor
open Go Go.RowKit
attribute [local go_sem] Oper.semAt_some

def encMV (x : Mem) : Array Value := #[memV x]
set_option maxRecDepth 100000 in
set_option maxHeartbeats 4000000 in
theorem values_seqM (base B : Nat) (v : Value) (xs : List Mem) (w : World) (hxs : xs.length ≤ 1000000) (hb : w.heap[B]? = some (.cells #[v] 43 (0, 0))) (hr : OwnM base w v xs) :
    SeqF Tryz.prog 101 #[.pointer (some ⟨B, 0, none⟩)] encMV (rowYT B v) xs w := fun l J Jx X V hs hYl hX hJ hJx hY h0 => by
  have hbV := (hs B (.inl rfl)).trans hb
  have hrV : OwnM base V v xs := ownM_kept hr fun g hg => hs g (.inr hg)
  obtain ⟨A, c, rfl⟩ := row_slice hr
  have c0 : V.cell? ⟨B, 0, none⟩ = some (.slice A xs.length c) := (blk_cell hbV 0).trans rfl
  have HR := Lib.hid (reads_ownM hrV)
  have HO := Lib.hid hrV
  have HY := Lib.hid hY
  have HX := Lib.hid hX
  have HJS := Lib.hid hJ
  have h00 : Hid (∃ X1, GrowX X X1 V V ∧ Fr X V V ∧ J [] X1 V) := ⟨X, GrowX.refl fun k hk => (hX k hk).1, Fr.refl _ _, h0⟩
  clear hb hr hs hrV hbV hY hX h0 hJ hJx hYl
  refine (callsIn_wide (n := 20)).1 ?_
  refine callsIn_of_wp Tryz.func101 rfl trivial ?_ rfl
  simp only [Tryz.ntmps101, List.size_toArray, List.length_cons, List.length_nil, Nat.reduceAdd, Nat.reduceSub, Array.replicate_succ, Array.replicate_zero, List.push_toArray, List.append_toArray, List.nil_append, List.cons_append]
  gi_wp2
  gi_loopw [7] (fun c1 wr => ∃ k : Nat, c1 = .int .i64 k ∧ k ≤ xs.length ∧ Hid (∃ X1, GrowX X X1 V wr ∧ Fr X V wr ∧ J (xs.take k) X1 wr)) (fun c1 _ => xs.length - (Go.RowKit.intOf c1).toNat)
  case atStart => exact ⟨0, rfl, Nat.zero_le _, h00⟩
  case round =>
    obtain ⟨k, rfl, hk, HJ⟩ := hrel
    clear h00
    obtain ⟨X1, hg1, hf1, hj1⟩ := HJ.out
    by_cases hlt : k < xs.length
    · obtain ⟨g, o, rfl, hg, hcell⟩ := HR.out (by omega)
      obtain ⟨x, hx⟩ : ∃ x, xs[k] = x := ⟨_, rfl⟩
      have hgY : rowYT B (.slice (some ⟨g, o, none⟩) xs.length c) g := by
        rcases HO.out.2 with ⟨e, _⟩ | ⟨g2, cap, cur, e, _⟩
        · cases e
        · cases e; exact .inr rfl
      obtain ⟨r0, r1, r2⟩ := hcell k hlt
      rw [hx] at r0 r1 r2
      have e0 : wr.cell? ⟨g, o + k * 3, none⟩ = some (.int .i64 x.1) := (hf1.cell (p := ⟨g, o + k * 3, none⟩) hg fun e => (HX.out g e).2 hgY).trans r0
      have e1 : wr.cell? ⟨g, o + k * 3 + 1, none⟩ = some (.bool x.2.1) := (hf1.cell (p := ⟨g, o + k * 3 + 1, none⟩) hg fun e => (HX.out g e).2 hgY).trans r1
      have e2 : wr.cell? ⟨g, o + k * 3 + 2, none⟩ = some (.bool x.2.2) := (hf1.cell (p := ⟨g, o + k * 3 + 2, none⟩) hg fun e => (HX.out g e).2 hgY).trans r2
      clear r0 r1 r2
      have hsp : xs.take k ++ x :: xs.drop (k + 1) = xs := by rw [← hx, ← List.drop_eq_getElem_cons hlt]; exact List.take_append_drop k xs
      have htk : xs.take (k + 1) = xs.take k ++ [x] := by rw [List.take_succ_eq_append_getElem hlt, hx]
      obtain ⟨W2, hW2⟩ : ∃ W2, wr.alloc (Obj.cells #[Value.int IntKind.i64 x.1, Value.bool x.2.1, Value.bool x.2.2] 38) = W2 := ⟨_, rfl⟩
      have fW : Fr (fun _ => False) wr W2 := by rw [← hW2]; exact (Fr.refl _ _).alloc _
      have hf2 : Fr X V W2 := hf1.trans3 fW fun _ _ e => e.elim
      have hg2 : GrowX X X1 V W2 := fun k hk => ⟨Nat.lt_of_lt_of_le (hg1 k hk).1 fW.size, (hg1 k hk).2⟩
      have hj2 : J (xs.take k) X1 W2 := HJS.out.fr hj1 (fun k hk => (hg1 k hk).1) fW fun _ e => e.elim
      clear hf1 hg1 hj1
      have hf1 := hf2
      have hg1 := hg2
      have hj1 := hj2
      clear hf2 hg2 hj2 fW
      have hyy := HY.out (xs.take k) x (xs.drop (k + 1)) X1 W2 hsp hg1 hj1 hf1
      rw [← hW2] at hyy
      have HW2 := Lib.hid hW2
      clear hW2
      obtain ⟨fn, tmps, assign, body, hy, hR⟩ := hyy
      dsimp only [encMV] at hy
      have HT := Lib.hid (And.intro htk (And.intro hsp (And.intro hg1 hf1)))
      clear hx htk hsp hg hcell hg1 hf1 hj1 hgY
      gi_wp2_with fail
      refine (round_wide (.inl rfl) hR).mono ?_
      rintro e W3 ⟨X2, g2, f2, (⟨rfl, hJ3⟩ | ⟨rfl, hJx3⟩)⟩ <;> rw [HW2.out] at g2 f2
      · obtain ⟨htk, hsp, hg1, hf1⟩ := HT.out
        have hN : Hid (∃ X1, GrowX X X1 V W3 ∧ Fr X V W3 ∧ J (xs.take (k + 1)) X1 W3) := ⟨X2, hg1.trans g2 hf1.size, hf1.trans3 f2 fun k hk e => (hg1 k e).2 hk, by rw [htk]; exact hJ3⟩
        clear htk hsp hg1 hf1 g2 f2 hJ3 hR hy
        gi_wp2_with fail
        go_roundw
        case rel => exact ⟨k + 1, by go_num, by omega, hN⟩
        case measure => simp [Go.RowKit.intOf]; omega
      · clear hR hy
        gi_wp2_with fail
        refine bodyPost_ret (results_none rfl _ _ _) rfl ?_
        obtain ⟨htk, hsp, hg1, hf1⟩ := HT.out
        exact ⟨⟨_, rfl⟩, X2, hg1.trans g2 hf1.size, hf1.trans3 f2 fun k hk e => (hg1 k e).2 hk, .inr ⟨_, xs.drop (k + 1), by simpa using hsp, hJx3⟩⟩
    · obtain rfl : k = xs.length := by omega
      rw [List.take_length] at hj1
      have HQ := Lib.hid (And.intro hg1 (And.intro hf1 hj1))
      clear hg1 hf1 hj1
      gi_wp2_with fail
      go_end0
      obtain ⟨hg1, hf1, hj1⟩ := HQ.out
      exact ⟨⟨_, rfl⟩, X1, hg1, hf1, .inl hj1⟩
/-- what tells xs: a tale, its box, the value in it -/
def TaleM (base : Nat) (w : World) (F : Value) (xs : List Mem) : Prop := ∃ B v, base ≤ B ∧ F = .func (.func 101) #[] #[.pointer (some ⟨B, 0, none⟩)] ∧ w.heap[B]? = some (.cells #[v] 43 (0, 0)) ∧ v.ownBlock ≠ some B ∧ OwnM base w v xs
def ValsM (v : Value) (w : World) (e : Ending) (w' : World) : Prop :=
  e = .returned (.func (.func 101) #[] #[.pointer (some ⟨w.heap.size, 0, none⟩)]) ∧ w'.heap[w.heap.size]? = some (.cells #[v] 43 (0, 0)) ∧ Below w.heap.size w w'
theorem values_callsM (A : Option Addr) (l c : Nat) (w : World) : Calls Tryz.prog 71 #[.slice A l c] w (ValsM (.slice A l c) w) := by
  go_enter Tryz.func71, Tryz.ntmps71
  go_wp2_with fail
  go_ret
  exact ⟨rfl, heap_alloc_new _ _, (Below.refl _ _).alloc (Nat.le_refl _) _⟩
theorem tale_ofM -- of 71
    {base : Nat} {xs : List Mem} {w w1 : World} {v : Value} {e : Ending} (hb : base ≤ w.heap.size) (h1 : OwnM base w v xs) (h3 : ValsM v w e w1) : ∃ F, e = .returned F ∧ TaleM base w1 F xs ∧ Below w.heap.size w w1 := by
  obtain ⟨rfl, h4, h5⟩ := h3
  refine ⟨_, rfl, ⟨w.heap.size, v, hb, rfl, h4, fun e => ?_, ownM_kept h1 fun g hg => h5.block g (h1.lt g hg).2⟩, h5⟩
  have := (h1.lt _ e).2; omega
theorem tellsM_tale {base : Nat} {w : World} {F : Value} {xs : List Mem} (h : TaleM base w F xs) (hl : xs.length ≤ 1000000) : ∃ Y, (∀ b, Y b → base ≤ b) ∧ TellsF Tryz.prog encMV w F Y xs := by
  obtain ⟨B, v, h1, rfl, h3, h4, h5⟩ := h
  refine ⟨rowYT B v, fun b hb => ?_, _, _, rfl, values_seqM base B v xs w hl h3 h5, fun b hb => ?_, enters_of Tryz.func101 (by kernel_rfl) rfl⟩
  · rcases hb with rfl | hb
    · exact h1
    · exact (h5.lt b hb).1
  · rcases hb with rfl | hb
    · exact blk_lt h3
    · exact (h5.lt b hb).2
end Go.Proofs.YtmgnhbihfgpccaaGreatDoor
end
section
/- Layer 19: slices.Clone of members; Members, Bans. -/
namespace Go.Proofs.YtmgnhbihfgpccaaGreatDoor
open Go Go.RowKit

theorem flatM_len (xs : List Mem) : (xs.flatMap encM).length = xs.length * 3 := by
  induction xs with
  | nil => rfl
  | cons x r ih => rw [List.flatMap_cons, List.length_append, ih]; simp [encM]; omega
theorem encM_one {u : Value} {xs : List Mem} (h : u ∈ xs.flatMap encM) : u.oneCell' = true := by
  obtain ⟨x, _, hx⟩ := List.mem_flatMap.1 h
  simp only [encM, List.mem_cons, List.not_mem_nil, or_false] at hx
  rcases hx with rfl | rfl | rfl <;> rfl
theorem flatM_cell {w : World} {g o : Nat} {xs : List Mem} (hc : ∀ j (h : j < xs.length), w.cell? ⟨g, o + j * 3, none⟩ = some (.int .i64 xs[j].1) ∧ w.cell? ⟨g, o + j * 3 + 1, none⟩ = some (.bool xs[j].2.1) ∧ w.cell? ⟨g, o + j * 3 + 2, none⟩ = some (.bool xs[j].2.2)) :
    ∀ t u, (xs.flatMap encM)[t]? = some u → w.cell? ⟨g, o + t, none⟩ = some u := fun t u hu => by
  have ht : t < xs.length * 3 := by rw [← flatM_len]; exact (List.getElem?_eq_some_iff.1 hu).1
  rw [flatMap_at encM 3 (fun _ => rfl) (by decide) xs t ht] at hu
  have h3 : t / 3 < xs.length := by omega
  have e1 : xs.getD (t / 3) default = xs[t / 3] := by simp [List.getD, h3]
  rw [e1] at hu
  obtain ⟨q0, q1, q2⟩ := hc (t / 3) h3
  have hm : t % 3 = 0 ∨ t % 3 = 1 ∨ t % 3 = 2 := by omega
  rcases hm with hm | hm | hm
  · rw [hm] at hu
    rw [show o + t = o + t / 3 * 3 by omega, q0, ← hu]; rfl
  · rw [hm] at hu
    rw [show o + t = o + t / 3 * 3 + 1 by omega, q1, ← hu]; rfl
  · rw [hm] at hu
    rw [show o + t = o + t / 3 * 3 + 2 by omega, q2, ← hu]; rfl
theorem srcM {w : World} {A : Option Addr} {c : Nat} {xs : List Mem} (h : ReadsM w A xs) : Src Tryz.prog 3 43 (.slice A xs.length c) xs.length (xs.flatMap encM) w := by
  cases A with
  | none =>
    have h0 : xs = [] := by
      rcases Nat.eq_zero_or_pos xs.length with h0 | h0
      · exact List.length_eq_zero_iff.1 h0
      · obtain ⟨_, _, e, _⟩ := h h0; cases e
    subst h0
    exact Src.ofNil w Tryz.underlying43 c
  | some a =>
    refine Src.ofSlice w Tryz.underlying43 a _ c _ (flatM_len xs) (fun j u hu => ?_) (fun u hu => encM_one hu)
    have hj : j < xs.length * 3 := by rw [← flatM_len]; exact (List.getElem?_eq_some_iff.1 hu).1
    obtain ⟨g, o, e, hg, hc⟩ := h (by omega)
    cases e
    have hadd : (⟨g, o, none⟩ : Addr).add j = ⟨g, o + j, none⟩ := by unfold Addr.add; split <;> simp_all
    rw [hadd]
    exact flatM_cell hc j u hu
/-- a row of members of the call's own is handed back -/
def RetM (xs : List Mem) (w : World) (e : Ending) (w' : World) : Prop := (∃ A c, e = .returned (.slice A xs.length c) ∧ OwnM w.heap.size w' (.slice A xs.length c) xs) ∧ RowKit.Below w.heap.size w w'
set_option maxRecDepth 100000 in
set_option maxHeartbeats 4000000 in
theorem clone_m (A : Option Addr) (c : Nat) (xs : List Mem) (w : World) (hR : ReadsM w A xs) (hl : xs.length ≤ 1000000) :
    Calls Tryz.prog 70 #[.slice A xs.length c] w (RetM xs w) := by
  obtain ⟨i0, hi0, hz0, hz1, hz2⟩ := info_parts Tryz.infoMb
  cases A with
  | none =>
    have h0 : xs = [] := by
      rcases Nat.eq_zero_or_pos xs.length with h0 | h0
      · exact List.length_eq_zero_iff.1 h0
      · obtain ⟨_, _, e, _⟩ := hR h0; cases e
    subst h0
    have hnil : ∀ W, (binOp .eql 43 (.slice none 0 c) (.slice none 0 0)).run Tryz.prog W = .ok (.bool true) W := fun W => by rfl
    rw [List.length_nil]
    go_enter Tryz.func70, Tryz.ntmps70
    go_wp2_with fail
    go_ret
    exact ⟨⟨_, _, rfl, ownM_nil _ _⟩, Below.refl _ _⟩
  | some a =>
    obtain ⟨W, hW⟩ : ∃ W, w.alloc (.cells #[] 38) = W := ⟨_, rfl⟩
    have hb : RowKit.Below w.heap.size w W := by rw [← hW]; exact (Below.refl _ w).alloc (Nat.le_refl _) _
    have ho : W.ownsRow w.heap.size 38 3 (.slice (some ⟨w.heap.size, 0, none⟩) 0 0) 0 [] := by
      rw [← hW]
      exact ⟨rfl, .inr ⟨w.heap.size, 0, #[], rfl, Nat.le_refl _, heap_alloc_new w _, Nat.le_refl _, Nat.zero_le _, rfl, rfl⟩⟩
    have HO := Lib.hid (And.intro ho (And.intro hb (srcM (c := c) (hR.below hb))))
    have hnil : ∀ W, (binOp .eql 43 (.slice (some a) xs.length c) (.slice none 0 0)).run Tryz.prog W = .ok (.bool false) W := fun W => by rfl
    clear hb ho hR
    go_enter Tryz.func70, Tryz.ntmps70
    go_wp2_with (at_builtin; refine wpList_app_u rfl _ _ 43 43 rfl w.heap.size 38 i0 _ 3 16 Tryz.underlying43 hi0 hz0 hz1 hz2 rfl (.slice (some ⟨w.heap.size, 0, none⟩) 0 0) 0 [] rfl HO.out.1 (.slice (some a) xs.length c) xs.length (xs.flatMap encM) rfl HO.out.2.2 (by omega) (by decide) HO.out.2.1.size ?_)
    intro v1 W1 h1 f1 t1
    obtain ⟨A1, c1, rfl⟩ := row_slice h1
    have H1 := Lib.hid (And.intro h1 f1)
    clear h1 f1 t1
    go_wp2_with fail
    go_ret
    refine ⟨⟨_, _, rfl, ?_⟩, ?_⟩
    · have := H1.out.1
      simpa [OwnM] using this
    · exact HO.out.2.1.trans (H1.out.2.below HO.out.2.1.size fun k _ e => by cases e; exact Nat.le_refl _)
/-- a function value that tells members is handed back -/
def RetSM (xs : List Mem) (w : World) (e : Ending) (w' : World) : Prop := (∃ F, e = .returned F ∧ TaleM w.heap.size w' F xs) ∧ RowKit.Below w.heap.size w w'
def RetST (xs : List (List UInt8)) (w : World) (e : Ending) (w' : World) : Prop := (∃ F, e = .returned F ∧ TaleT w.heap.size w' F xs) ∧ RowKit.Below w.heap.size w w'
theorem members_nil (w : World) : Calls Tryz.prog 39 #[.pointer none] w (RetSM [] w) := by
  have HV := Lib.hid (fun W => values_callsM none 0 0 W)
  go_enter Tryz.func39, Tryz.ntmps39
  go_wp2_with fail
  refine (HV.out w).mono ?_
  rintro e w1 hv
  obtain ⟨F, rfl, h1, h2⟩ := tale_ofM (Nat.le_refl _) (ownM_nil _ _) hv
  have H := Lib.hid (And.intro h1 h2)
  clear h1 h2 hv
  go_wp2_with fail
  go_ret
  exact ⟨⟨_, rfl, H.out.1⟩, H.out.2⟩
theorem bans_nil (w : World) : Calls Tryz.prog 37 #[.pointer none] w (RetST [] w) := by
  have HV := Lib.hid (fun W => values_callsT none 0 0 W)
  go_enter Tryz.func37, Tryz.ntmps37
  go_wp2_with fail
  refine (HV.out w).mono ?_
  rintro e w1 hv
  obtain ⟨F, rfl, h1, h2⟩ := tale_ofT (Nat.le_refl _) (ownT_nil _ _) hv
  have H := Lib.hid (And.intro h1 h2)
  clear h1 h2 hv
  go_wp2_with fail
  go_ret
  exact ⟨⟨_, rfl, H.out.1⟩, H.out.2⟩
theorem members_any {base B : Nat} {q : RmV} {r : Rm} {w : World} (h : RoomAt base B q r w) (hl : r.mem.length ≤ 1000000) : Calls Tryz.prog 39 #[.pointer (some ⟨B, 0, none⟩)] w (RetSM r.mem w) := by
  obtain ⟨A, c, hv⟩ := row_slice h.2.1
  have c1 : w.cell? ⟨B, 1, none⟩ = some (.slice A r.mem.length c) := by rw [← hv]; exact blk_cell h.1 1
  have ho := h.2.1
  rw [hv] at ho
  have HC := Lib.hid (clone_m A c r.mem w (reads_ownM ho) hl)
  clear h ho hv
  obtain ⟨n, hn⟩ : ∃ n, r.mem.length = n := ⟨_, rfl⟩
  unfold RetM at HC
  rw [hn] at c1 HC
  have HN := Lib.hid hn
  clear hn
  go_enter Tryz.func39, Tryz.ntmps39
  go_wp2_with fail
  refine HC.out.mono ?_
  rintro e w1 ⟨⟨A1, c2, rfl, o1⟩, b1⟩
  have H1 := Lib.hid (And.intro o1 b1)
  have HV := Lib.hid (values_callsM A1 n c2 w1)
  clear o1 b1
  go_wp2_with fail
  refine HV.out.mono ?_
  rintro e w2 hv
  obtain ⟨F, rfl, h1, h2⟩ := tale_ofM H1.out.2.size H1.out.1 hv
  have H := Lib.hid (And.intro h1 (H1.out.2.trans (h2.mono H1.out.2.size)))
  clear h1 h2 hv
  go_wp2_with fail
  go_ret
  exact ⟨⟨_, rfl, H.out.1⟩, H.out.2⟩
end Go.Proofs.YtmgnhbihfgpccaaGreatDoor
end
section
/- Layer 19: the law's members: are just these members told? -/
namespace Go.Proofs.YtmgnhbihfgpccaaGreatDoor
open Go Go.RowKit
attribute [local go_sem] Oper.semAt_some

/-- two boxes: how many came; all well so far -/
def SameM (S base : Nat) (pre : List Mem) (X : Nat → Prop) (W : World) : Prop := W.heap[S]? = some (.cells #[.int .i64 (pre.length : Int)] 3 (0, 0)) ∧ W.heap[S + 1]? = some (.cells #[.bool true] 4 (0, 0)) ∧ S + 1 < base ∧ ∀ k, X k ↔ (k = S ∨ k = S + 1)
theorem sameM_stays (S base : Nat) : Stays (SameM S base) := fun pre X V V' ⟨h1, h2, h3, h4⟩ hl hf =>
  ⟨hf.blk h1 (fun e => e ((h4 S).2 (.inl rfl))), hf.blk h2 (fun e => e ((h4 _).2 (.inr rfl))), h3, h4⟩
set_option maxRecDepth 100000 in
set_option maxHeartbeats 8000000 in
theorem members_law {w : World} {p : Option Addr} {R : List Mem}
    (hM : ∀ W, Fr (fun _ => False) w W → Calls Tryz.prog 39 #[.pointer p] W (RetSM R W))
    (hL : ∀ W, Fr (fun _ => False) w W → Calls Tryz.prog 40 #[.pointer p] W fun e W' => e = .returned (.int .i64 R.length) ∧ W' = W)
    (hwl : R.length ≤ 1000000) (A : Option Addr) (c : Nat) (hA : ReadsM w A R) :
    Calls Tryz.prog 16 #[.pointer p, .slice A R.length c] w fun e w' => e = .returned (.bool true) ∧ Fr (fun _ => False) w w' := by
  obtain ⟨w1, hw1⟩ : ∃ w1, (((w.alloc (Obj.cells #[Value.slice A R.length c] 43)).alloc (Obj.cells #[Value.bool false] 4)).alloc (Obj.cells #[Value.int IntKind.i64 0] 3)).alloc (Obj.cells #[Value.bool true] 4) = w1 := ⟨_, rfl⟩
  have z1 : w1.heap.size = w.heap.size + 4 := by rw [← hw1]; simp
  have f1 : Fr (fun _ => False) w w1 := by rw [← hw1]; exact ((((Fr.refl _ w).alloc _).alloc _).alloc _).alloc _
  have hb0 : w1.heap[w.heap.size]? = some (.cells #[.slice A R.length c] 43 (0, 0)) := by rw [← hw1]; exact blk_alloc (blk_alloc (blk_alloc (heap_alloc_new w _) _) _) _
  have hb1 : w1.heap[w.heap.size + 1]? = some (.cells #[.bool false] 4 (0, 0)) := by rw [← hw1]; exact blk_alloc (blk_alloc (heap_alloc2_new w _ _) _) _
  have hb2 : w1.heap[w.heap.size + 2]? = some (.cells #[.int .i64 0] 3 (0, 0)) := by rw [← hw1]; refine blk_alloc ?_ _; have := heap_alloc2_new (w.alloc (Obj.cells #[Value.slice A R.length c] 43)) (Obj.cells #[Value.bool false] 4) (Obj.cells #[Value.int IntKind.i64 0] 3); rwa [World.size_alloc] at this
  have hb3 : w1.heap[w.heap.size + 3]? = some (.cells #[.bool true] 4 (0, 0)) := by
    rw [← hw1]
    have := heap_alloc2_new ((w.alloc (Obj.cells #[Value.slice A R.length c] 43)).alloc (Obj.cells #[Value.bool false] 4)) (Obj.cells #[Value.int IntKind.i64 0] 3) (Obj.cells #[Value.bool true] 4)
    rwa [World.size_alloc, World.size_alloc] at this
  have HW := Lib.hid (And.intro hw1 (hM w1 f1))
  have HL := Lib.hid hL
  have H0 := Lib.hid (And.intro f1 (And.intro hb0 (And.intro hb1 (And.intro hb2 (And.intro hb3 (And.intro z1 hA))))))
  clear hw1 hM hL hb0 hb1 hb2 hb3 z1 f1 hA
  refine (callsIn_wide (n := 20)).1 ?_
  refine callsIn_of_wp_marks Tryz.func16 rfl trivial ?_ rfl
  simp only [Tryz.ntmps16, List.size_toArray, List.length_cons, List.length_nil, Nat.reduceAdd, Nat.reduceSub, Array.replicate_succ, Array.replicate_zero, List.push_toArray, List.append_toArray, List.nil_append, List.cons_append]
  gi_wp2_with fail
  rw [HW.out.1]
  refine ⟨trivial, (calls_wide (.inl rfl) HW.out.2).mono ?_⟩
  rintro e W2 ⟨⟨F, rfl, hT⟩, hfZ0⟩
  clear HW
  have hfZ : Fr (fun _ => False) w1 W2 := Fr.of_below hfZ0
  obtain ⟨Y, hYb, gf, lb, rfl, hseq, hYl, heg⟩ := tellsM_tale hT hwl
  have hnil : ∀ W, (binOp BinOp.eql 76 (.func (.func gf) #[] lb) Value.nilFunc).run Tryz.prog W = .ok (.bool false) W := fun W => by rfl
  gi_wp2_with (simp only [hnil])
  obtain ⟨f1, hb0, hb1, hb2, hb3, z1, hA⟩ := H0.out
  have hzz := hfZ.size
  have f12 : Fr (fun _ => False) w W2 := f1.trans hfZ
  have hb0 := hfZ.blk hb0 (fun e => e)
  have hb1 := hfZ.blk hb1 (fun e => e)
  have hb2 := hfZ.blk hb2 (fun e => e)
  have hb3 := hfZ.blk hb3 (fun e => e)
  have H := Lib.hid (And.intro f12 (And.intro hb0 (And.intro hb1 (And.intro z1 hA))))
  refine wpIn_rangeF (X := fun k => k = w.heap.size + 2 ∨ k = w.heap.size + 2 + 1) (Y := Y) (xs := R) (encs := encMV) (gf := gf) (lb := lb) (SameM (w.heap.size + 2) W2.heap.size) (fun _ _ _ _ => False)
    rfl hseq (fun k hk => ⟨by omega, fun e => by have := hYb k e; omega⟩) hYl (by omega) heg (fun _ => rfl)
    (sameM_stays _ _) (fun c s X1 V1 V2 h => h.elim) ⟨hb2, hb3, by omega, fun k => Iff.rfl⟩ ?round ?done (fun _ _ _ _ _ _ _ _ _ _ _ h => h.elim)
  case round =>
    rintro l pre ⟨y, op, vo⟩ r X1 V K rb hl2 hpx hI hG2 hxl hF hlV hK
    dsimp only [encMV]
    have HK := Lib.hid hK
    have HV := Lib.hid (And.intro hpx (And.intro hI (And.intro hG2 (And.intro hxl (And.intro hF (And.intro hlV hl2))))))
    clear hK hpx hI hG2 hxl hF hlV hl2 hseq hYb hYl heg f1 f12 hb0 hb1 hb2 hb3 z1 hT hfZ hfZ0 H0 hA
    gi_wp2_with fail
    obtain ⟨Va, hVa⟩ : ∃ Va, V.alloc (Obj.cells #[Value.int IntKind.i64 y, Value.bool op, Value.bool vo] 38) = Va := ⟨_, rfl⟩
    have fVa : Fr (fun _ => False) V Va := by rw [← hVa]; exact (Fr.refl _ _).alloc _
    have hm0 : Va.heap[V.heap.size]? = some (.cells #[.int .i64 y, .bool op, .bool vo] 38 (0, 0)) := by rw [← hVa]; exact heap_alloc_new _ _
    rw [hVa]
    refine HK.out _ _ fVa fun Vb hfb hzb hsb hrb => ?_
    clear HK K
    obtain ⟨hpx, ⟨k1, k2, hSl, hX1⟩, hG2, hxl, hF, hlV, hl2⟩ := HV.out
    obtain ⟨f12, hb0, hb1, z1, hA⟩ := H.out
    have hpl : pre.length < R.length := by
      have := congrArg List.length hpx
      simp at this; omega
    have hgx : R[pre.length] = (y, op, vo) := by simp [← hpx]
    obtain ⟨g, o, rfl, hg, hcell⟩ := hA (by omega)
    have hVb : Fr (fun k => k = l) V Vb := hfb
    have hfw : Vb.heap[g]? = w.heap[g]? := (hVb.block g (by have := hF.size; omega) (by omega)).trans ((hF.block g (by omega) (by omega)).trans (f12.block g hg fun e => e))
    obtain ⟨p0, p1, p2⟩ := hcell _ hpl
    rw [hgx] at p0 p1 p2
    have kc : ∀ i, Vb.cell? ⟨g, i, none⟩ = w.cell? ⟨g, i, none⟩ := fun i => World.cell?_of_block (w := w) (w' := Vb) (a := ⟨g, i, none⟩) hfw
    rw [← kc] at p0 p1 p2
    have k1b := hVb.blk k1 (by omega : ¬ w.heap.size + 2 = l)
    have k2b := hVb.blk k2 (by omega : ¬ w.heap.size + 2 + 1 = l)
    have hm1 := (hsb V.heap.size (by omega)).trans hm0
    have m0 := blk_cell hm1 0
    have m1 := blk_cell hm1 1
    have m2 := blk_cell hm1 2
    have c0 := blk_cell (hVb.blk (hF.blk hb0 (by omega)) (by omega)) 0
    have c1 := blk_cell k1b 0
    have c2 := blk_cell k2b 0
    have d1 := blk_free k1b 0
    have d2 := blk_free k2b 0
    have n0 : ¬ ((R.length : Int) ≤ (pre.length : Int)) := by omega
    have n1 : ((pre.length : Int) < (R.length : Int)) := by omega
    have hzs : w.heap.size + 2 + 1 < Vb.heap.size := blk_lt k2b
    have hMS : V.heap.size < Vb.heap.size := blk_lt hm1
    have HE := Lib.hid (And.intro k1b (And.intro k2b (And.intro hSl (And.intro hX1 (And.intro hG2 (And.intro hxl (And.intro hlV (And.intro hVb hrb))))))))
    have hpl2 : (pre.length : Int) ≤ 1000000 := by omega
    clear hpx k1 k2 hSl hX1 hG2 hxl hF hlV hl2 f12 hb0 hb1 z1 hA hgx hcell hfw k1b k2b hfb hrb hzb hsb hm0 hm1 fVa hVa hVb kc
    gi_wp2_with fail
    refine wpIn_quiet_tail 9 (by kernel_rfl) (by kernel_rfl) (by kernel_rfl) ?_
    simp only [List.take_succ_cons, List.take_zero, List.drop_succ_cons, List.drop_zero]
    repeat (refine quiet_step_w (fun _ => trivial) (fun K hK => ?_); go_simp; refine hK _ ?_; clear hK K)
    refine wpQuietIn_nil ?_
    intro _ hw'
    obtain ⟨nq, hw''⟩ := hw'
    subst hw''
    gi_wp2_with fail
    obtain ⟨k1b, k2b, hSl, hX1, hG2, hxl, hlV, hfb, hrb⟩ := HE.out
    have hll : ¬ (l = w.heap.size + 2 ∨ l = w.heap.size + 2 + 1) := fun e => hxl ((hX1 l).2 e)
    have hf3 : Fr X1 Vb (((Vb.drewN nq).setCell ⟨w.heap.size + 1 + 1 + 1, 0, none⟩ (Value.bool true)).setCell ⟨w.heap.size + 1 + 1, 0, none⟩ (Value.int IntKind.i64 ((pre.length : Int) + 1))) := (((Fr.refl X1 Vb).drewN nq).setCell _ ((hX1 _).2 (.inr rfl)) _).setCell _ ((hX1 _).2 (.inl rfl)) _
    have k1q : (Vb.drewN nq).heap[w.heap.size + 2]? = _ := k1b
    have k2q : (Vb.drewN nq).heap[w.heap.size + 2 + 1]? = _ := k2b
    refine ⟨X1, fun k hk => ⟨Nat.lt_of_lt_of_le (hG2 k hk).1 (Nat.le_trans hfb.size hf3.size), fun _ => hk⟩, (hfb.mono (Y := fun k => k = l ∨ X1 k) fun k _ e => .inl e).trans3 hf3 fun k _ e => .inr e, hf3.blk hrb hxl, ?_, ?_, hSl, hX1⟩
    · rw [List.length_append]
      exact blk_set (blk_other k1q _ (by simp) _) 0 _
    · exact blk_other (blk_set k2q 0 _) _ (by simp) _
  case done =>
    rintro D X2 V hD hxD hG2 hF ⟨k1, k2, hSl, hX2⟩ hdef
    have k0 := hF.blk hb0 (by omega)
    have kr := hF.blk hb1 (by omega)
    have c0 := blk_cell k0 0
    have c1 := blk_cell k1 0
    have c2 := blk_cell k2 0
    have c3 := blk_cell kr 0
    have d3 := blk_free kr 0
    have b4 : Fr (fun _ => False) w V := f12.trans3 hF fun k hk e => by omega
    have hzs : w.heap.size + 1 < V.heap.size := blk_lt kr
    have hlen := fun n => HL.out (V.drewN n) (b4.drewN n)
    have HLEN := Lib.hid hlen
    have HQ := Lib.hid (And.intro hdef (And.intro b4 (And.intro hD (And.intro kr (And.intro z1 hzz)))))
    clear k0 k1 k2 kr hSl hX2 hdef hxD hG2 hF b4 hD hseq hYb hYl heg f1 f12 hb0 hb1 hb2 hb3 z1 hT hfZ hfZ0 H0 hA H hzz HL hlen
    gi_wp2_with fail
    refine wpIn_quiet_tail 13 (by kernel_rfl) (by kernel_rfl) (by kernel_rfl) ?_
    simp only [List.take_succ_cons, List.take_zero, List.drop_succ_cons, List.drop_zero]
    repeat (refine quiet_step_w (fun _ => trivial) (fun K hK => ?_); go_simp; first | (refine hK _ ?_; clear hK K) | (apply Exists.intro; refine ⟨fun _ => CallsIn.quiet_of_same (calls_wide (.inl rfl) (HLEN.out _)), ?_⟩; refine hK _ ?_; clear hK K))
    refine wpQuietIn_nil ?_
    intro _ hw'
    obtain ⟨nq, hw''⟩ := hw'
    subst hw''
    gi_wp2_with fail
    obtain ⟨hdef, b4, hD, kr, z1, hzz⟩ := HQ.out
    have hdq : (V.drewN nq).heap[D]? = some (.deferred (some [])) := hdef
    have krq : (V.drewN nq).heap[w.heap.size + 1]? = some (.cells #[.bool false] 4 (0, 0)) := kr
    have d5 := blk_other hdq ⟨w.heap.size + 1, 0, none⟩ (by simp; omega) (Value.bool true)
    have f5 : Fr (fun k => k = w.heap.size + 1) V ((V.drewN nq).setCell ⟨w.heap.size + 1, 0, none⟩ (Value.bool true)) := Fr.setCell (X := fun k => k = w.heap.size + 1) ((Fr.refl _ V).drewN nq) ⟨w.heap.size + 1, 0, none⟩ rfl _
    have kr5 := blk_set krq 0 (Value.bool true)
    refine leaves_one D _ d5 fun w' hf => ⟨_, results_box rfl _ _ (w.heap.size + 1) (.bool true) _ rfl (blk_cell (hf.blk kr5 (by omega)) 0) Tryz.underlying4 rfl, rfl, (b4.trans3 f5 fun k hk e => by omega).trans3 hf fun k hk e => by omega⟩
end Go.Proofs.YtmgnhbihfgpccaaGreatDoor
end
section
/- A box with a row of texts of the call's own. -/
namespace Go.Proofs.YtmgnhbihfgpccaaGreatDoor
open Go Go.RowKit

/-- box S holds the row; its blocks are X -/
def BoxB (S base : Nat) (xs : List (List UInt8)) (X : Nat → Prop) (W : World) : Prop := ∃ v, W.heap[S]? = some (.cells #[v] 34 (0, 0)) ∧ OwnT base W v xs ∧ S < base ∧ ∀ k, X k ↔ (k = S ∨ v.ownBlock = some k)
theorem boxB_stays (S base : Nat) (xs : List (List UInt8)) : ∀ X V V', BoxB S base xs X V → (∀ k, X k → k < V.heap.size) → Fr (fun k => ¬ X k) V V' → BoxB S base xs X V' := fun X V V' ⟨v, h1, h2, h3, h4⟩ hl hf =>
  ⟨v, hf.blk h1 (fun e => e ((h4 S).2 (.inl rfl))), ownT_kept h2 fun g hg => hf.block g (h2.lt g hg).2 fun e => e ((h4 g).2 (.inr hg)), h3, h4⟩
/-- a text is put behind the row: what the round leaves -/
theorem boxB_put {S base l : Nat} {rb : Loop} {xs : List (List UInt8)} {x : List UInt8} {X1 : Nat → Prop} {V Vb W2 : World} {vb v1 : Value} (hG : ∀ k, X1 k → k < V.heap.size) (hX1 : ∀ k, X1 k ↔ (k = S ∨ vb.ownBlock = some k)) (hxl : ¬ X1 l) (hfb : Fr (fun k => k = l) V Vb) (hrb : Vb.heap[l]? = some (.loop rb)) (k3b : Vb.heap[S]? = some (.cells #[vb] 34 (0, 0))) (o3b : OwnT base Vb vb xs) (hzs : V.heap.size ≤ Vb.heap.size) (hSl : S < base)
    (hown1 : W2.ownsRow base 9 1 v1 (xs.length + 1) (xs.map encT ++ [encT x])) (hfr1 : Fr (fun k => vb.ownBlock = some k) Vb W2) (htie : ∀ k, v1.ownBlock = some k → vb.ownBlock = some k ∨ Vb.heap.size ≤ k) :
    ∃ X2, GrowX X1 X2 V (W2.setCell ⟨S, 0, none⟩ v1) ∧ Fr (fun k => k = l ∨ X1 k) V (W2.setCell ⟨S, 0, none⟩ v1) ∧ (W2.setCell ⟨S, 0, none⟩ v1).heap[l]? = some (.loop rb) ∧ BoxB S base (xs ++ [x]) X2 (W2.setCell ⟨S, 0, none⟩ v1) := by
  have hn3 : ∀ k, vb.ownBlock = some k → k ≠ S := fun k hk e => by have := (o3b.lt k hk).1; omega
  have e1 : W2.heap[S]? = some (.cells #[vb] 34 (0, 0)) := hfr1.blk k3b fun e => hn3 _ e rfl
  have hown2 : OwnT base W2 v1 (xs ++ [x]) := ownT_snoc hown1
  have hnx : v1.ownBlock ≠ some S := fun e => by have := (hown2.lt _ e).1; omega
  have hlS : l ≠ S := fun e => hxl ((hX1 l).2 (.inl e))
  have hl3 : ¬ vb.ownBlock = some l := fun e => hxl ((hX1 l).2 (.inr e))
  have hsz : (W2.setCell ⟨S, 0, none⟩ v1).heap.size = W2.heap.size := by simp
  refine ⟨fun k => k = S ∨ v1.ownBlock = some k, fun k hk => ?_, (((hfb.mono (Y := fun k => k = l ∨ X1 k) fun k _ e => .inl e).trans3 hfr1 fun k _ e => .inr ((hX1 k).2 (.inr e)))).setCell _ (.inr ((hX1 _).2 (.inl rfl))) _, blk_other (hfr1.blk hrb hl3) _ (by simpa using hlS) _, v1, blk_set e1 0 _, ?_, hSl, fun k => Iff.rfl⟩
  · rw [hsz]
    rcases hk with rfl | hk
    · exact ⟨blk_lt e1, fun _ => (hX1 _).2 (.inl rfl)⟩
    · refine ⟨(hown2.lt k hk).2, fun hlt => ?_⟩
      rcases htie k hk with e | e
      · exact (hX1 k).2 (.inr e)
      · omega
  · exact ownT_kept hown2 fun g hg => heap_setCell_other W2 _ g _ fun e => by simp at e; exact hnx (e ▸ hg)
/-- nothing is put -/
theorem boxB_skip {S base l : Nat} {rb : Loop} {xs : List (List UInt8)} {X1 : Nat → Prop} {V Vb : World} {vb : Value} (hG : ∀ k, X1 k → k < V.heap.size) (hX1 : ∀ k, X1 k ↔ (k = S ∨ vb.ownBlock = some k)) (hfb : Fr (fun k => k = l) V Vb) (hrb : Vb.heap[l]? = some (.loop rb)) (k3b : Vb.heap[S]? = some (.cells #[vb] 34 (0, 0))) (o3b : OwnT base Vb vb xs) (hSl : S < base) :
    ∃ X2, GrowX X1 X2 V Vb ∧ Fr (fun k => k = l ∨ X1 k) V Vb ∧ Vb.heap[l]? = some (.loop rb) ∧ BoxB S base xs X2 Vb :=
  ⟨X1, fun k hk => ⟨Nat.lt_of_lt_of_le (hG k hk) hfb.size, fun _ => hk⟩, hfb.mono (Y := fun k => k = l ∨ X1 k) fun k _ e => .inl e, hrb, vb, k3b, o3b, hSl, hX1⟩
end Go.Proofs.YtmgnhbihfgpccaaGreatDoor
end
section
/- Layer 19: the law's bans: what a room's Bans tell. -/
namespace Go.Proofs.YtmgnhbihfgpccaaGreatDoor
open Go Go.RowKit
attribute [local go_sem] Oper.semAt_some

theorem res_in2R {P : Program} {fn : Func} {p q : Tmp} {ty tz : TypeId} (h : fn.results = #[.cell p ty, .cell q tz]) (tmps : Array Value) (w : World) (g k : Nat) (v u : Value) (d d' : TypeDesc) (hp : tmps.getD p undef = .pointer (some ⟨g, 0, none⟩)) (hq : tmps.getD q undef = .pointer (some ⟨k, 0, none⟩)) (hc : w.cell? ⟨g, 0, none⟩ = some v) (hc' : w.cell? ⟨k, 0, none⟩ = some u)
    (hu : P.underlying ty = some d) (hd : (match d with | .struct _ | .array _ _ => true | _ => false) = false) (hu' : P.underlying tz = some d') (hd' : (match d' with | .struct _ | .array _ _ => true | _ => false) = false) : (results fn tmps).run P w = .ok (.tuple #[v, u]) w := by
  have hp' : tmps[p]?.getD undef = .pointer (some ⟨g, 0, none⟩) := by simpa using hp
  have hq' : tmps[q]?.getD undef = .pointer (some ⟨k, 0, none⟩) := by simpa using hq
  have hagg : (isAgg ty).run P w = .ok false w := by
    unfold isAgg
    rw [Sem.run_bind, run_underlying hu w]
    cases d <;> simp_all
  have hagg' : (isAgg tz).run P w = .ok false w := by
    unfold isAgg
    rw [Sem.run_bind, run_underlying hu' w]
    cases d' <;> simp_all
  simp [results, h, hp', hq', asAddr, loadVar, Sem.run_bind, hagg, hagg', go_sem, hc, hc', Result.andThen]
/-- what is told, in a row of the call's own, and that it was told -/
def RetTB (xs : List (List UInt8)) (w : World) (e : Ending) (w' : World) : Prop := (∃ A c, e = .returned (.tuple #[.slice A xs.length c, .bool true]) ∧ OwnT w.heap.size w' (.slice A xs.length c) xs) ∧ RowKit.Below w.heap.size w w'
set_option maxRecDepth 100000 in
set_option maxHeartbeats 8000000 in
theorem bans_law {w : World} {p : Option Addr} {R : List (List UInt8)}
    (hM : ∀ W, Fr (fun _ => False) w W → Calls Tryz.prog 37 #[.pointer p] W (RetST R W)) (hwl : R.length ≤ 100) :
    Calls Tryz.prog 12 #[.pointer p] w (RetTB R w) := by
  obtain ⟨i0, hi, hz0, hz1, hz2⟩ := info_parts Tryz.infoT
  obtain ⟨w1, hw1⟩ : ∃ w1, ((w.alloc (Obj.cells #[Value.slice none 0 0] 34)).alloc (Obj.cells #[Value.bool false] 4)).alloc (Obj.cells #[Value.slice none 0 0] 34) = w1 := ⟨_, rfl⟩
  have z1 : w1.heap.size = w.heap.size + 3 := by rw [← hw1]; simp
  have f1 : Fr (fun _ => False) w w1 := by rw [← hw1]; exact (((Fr.refl _ w).alloc _).alloc _).alloc _
  have hb0 : w1.heap[w.heap.size]? = some (.cells #[.slice none 0 0] 34 (0, 0)) := by rw [← hw1]; exact blk_alloc (blk_alloc (heap_alloc_new w _) _) _
  have hb1 : w1.heap[w.heap.size + 1]? = some (.cells #[.bool false] 4 (0, 0)) := by rw [← hw1]; exact blk_alloc (heap_alloc2_new w _ _) _
  have hb2 : w1.heap[w.heap.size + 2]? = some (.cells #[.slice none 0 0] 34 (0, 0)) := by rw [← hw1]; have := heap_alloc2_new (w.alloc (Obj.cells #[Value.slice none 0 0] 34)) (Obj.cells #[Value.bool false] 4) (Obj.cells #[Value.slice none 0 0] 34); rwa [World.size_alloc] at this
  have HW := Lib.hid (And.intro hw1 (hM w1 f1))
  have H0 := Lib.hid (And.intro f1 (And.intro hb0 (And.intro hb1 (And.intro hb2 z1))))
  clear hw1 hM hb0 hb1 hb2 z1 f1
  refine (callsIn_wide (n := 20)).1 ?_
  refine callsIn_of_wp_marks Tryz.func12 rfl trivial ?_ rfl
  simp only [Tryz.ntmps12, List.size_toArray, List.length_cons, List.length_nil, Nat.reduceAdd, Nat.reduceSub, Array.replicate_succ, Array.replicate_zero, List.push_toArray, List.append_toArray, List.nil_append, List.cons_append]
  gi_wp2_with fail
  rw [HW.out.1]
  refine ⟨trivial, (calls_wide (.inl rfl) HW.out.2).mono ?_⟩
  rintro e W2 ⟨⟨F, rfl, hT⟩, hfZ0⟩
  clear HW
  have hfZ : Fr (fun _ => False) w1 W2 := Fr.of_below hfZ0
  obtain ⟨Y, hYb, gf, lb, rfl, hseq, hYl, heg⟩ := tellsT_tale hT (by omega)
  have hnil : ∀ W, (binOp BinOp.eql 71 (.func (.func gf) #[] lb) Value.nilFunc).run Tryz.prog W = .ok (.bool false) W := fun W => by rfl
  gi_wp2_with (simp only [hnil])
  obtain ⟨f1, hb0, hb1, hb2, z1⟩ := H0.out
  have hzz := hfZ.size
  have f12 : Fr (fun _ => False) w W2 := f1.trans hfZ
  have hb0 := hfZ.blk hb0 (fun e => e)
  have hb1 := hfZ.blk hb1 (fun e => e)
  have hb2 := hfZ.blk hb2 (fun e => e)
  have H := Lib.hid (And.intro f12 (And.intro hb0 (And.intro hb1 (And.intro z1 hzz))))
  refine wpIn_rangeF (X := fun k => k = w.heap.size + 2) (Y := Y) (xs := R) (encs := encL) (gf := gf) (lb := lb) (fun pre X W => BoxB (w.heap.size + 2) W2.heap.size pre X W) (fun _ _ _ _ => False)
    rfl hseq (fun k hk => ⟨by omega, fun e => by have := hYb k e; omega⟩) hYl (by omega) heg (fun _ => rfl)
    (fun s => boxB_stays _ _ _) (fun c s X1 V1 V2 h => h.elim) ⟨_, hb2, ownT_nil _ _, by omega, fun k => by simp [Value.ownBlock]⟩ ?round ?done (fun _ _ _ _ _ _ _ _ _ _ _ h => h.elim)
  case round =>
    rintro l pre x r X1 V K rb hl2 hpx hI hG hxl hF hlV hK
    dsimp only [encL]
    have HK := Lib.hid hK
    have HV := Lib.hid (And.intro hpx (And.intro hI (And.intro hG (And.intro hxl (And.intro hF (And.intro hlV hl2))))))
    clear hK hpx hI hG hxl hF hlV hl2 hseq hYb hYl heg f1 f12 hb0 hb1 hb2 z1 hT hfZ hfZ0 H0
    gi_wp2_with fail
    refine HK.out _ _ (Fr.refl _ _) fun Vb hfb hzb hsb hrb => ?_
    clear HK K
    obtain ⟨hpx, ⟨vb, k3, o3, hSl, hX1⟩, hG, hxl, hF, hlV, hl2⟩ := HV.out
    obtain ⟨f12, hb0, hb1, z1, hzz⟩ := H.out
    have hpl : pre.length < R.length := by
      have := congrArg List.length hpx
      simp at this; omega
    have k3b := hfb.blk k3 (fun e => hxl ((hX1 l).2 (.inl e.symm)))
    have o3b : OwnT W2.heap.size Vb vb pre := ownT_kept o3 fun g hg => hfb.block g (o3.lt g hg).2 fun e => hxl ((hX1 l).2 (.inr (e ▸ hg)))
    have hzs : Vb.heap.size = V.heap.size := hzb
    have hbz : W2.heap.size ≤ Vb.heap.size := by omega
    have hSz : w.heap.size + 2 < Vb.heap.size := blk_lt k3b
    have hor : Vb.ownsRow W2.heap.size 9 1 vb pre.length (pre.map encT) := o3b
    obtain ⟨Av, cv, hvb⟩ := row_slice hor
    subst hvb
    have c3 := blk_cell k3b 0
    have d3 := blk_free k3b 0
    have HO := Lib.hid hor
    have HE := Lib.hid (And.intro hX1 (And.intro hG (And.intro hxl (And.intro hfb (And.intro hrb (And.intro k3b (And.intro o3b (And.intro hzs (And.intro hlV hSl)))))))))
    have n0 : ¬ ((100 : Int) < (pre.length : Int)) := by omega
    clear hpx k3 o3 hSl hX1 hG hxl hF hlV hl2 f12 hb0 hb1 z1 k3b o3b hfb hzb hsb hrb hzs hor hzz
    gi_wp2_with (gi_at_builtin; refine Hid.out ?_)
    refine Lib.hid ?_
    refine wpListIn_one_t rfl _ _ 34 rfl W2.heap.size 9 i0 _ 1 16 Tryz.underlying34 hi hz0 hz1 hz2 rfl (by decide) _ _ _ rfl HO.out #[.string (bs x)] _ rfl rfl rfl (by intro u hu; simp at hu; subst hu; rfl) (by omega) (by decide) hbz ?_
    intro v1 W3 hown1 hfr1 htie
    obtain ⟨A1, c1', rfl⟩ := row_slice hown1
    have hn3 : ∀ k, (Value.slice Av pre.length cv).ownBlock = some k → k ≠ w.heap.size + 2 := fun k hk e => by have := (HO.out.lt k hk).1; have := HE.out.2.2.2.2.2.2.2.2.2; omega
    have e1 : W3.heap[w.heap.size + 2]? = some (.cells #[.slice Av pre.length cv] 34 (0, 0)) := hfr1.blk HE.out.2.2.2.2.2.1 fun e => hn3 _ e rfl
    have g1 := blk_cell e1 0
    have g2 := blk_free e1 0
    clear hn3
    gi_wp2_with fail
    obtain ⟨hX1, hG, hxl, hfb, hrb, k3b, o3b, hzs, hlV, hSl⟩ := HE.out
    exact boxB_put (fun k hk => (hG k hk).1) hX1 hxl hfb hrb k3b o3b (by omega) hSl hown1 hfr1 htie
  case done =>
    rintro D X2 V hD hxD hG hF ⟨u, k3, o3, hSl, hX2⟩ hdef
    obtain ⟨A, cp, rfl⟩ := row_slice o3
    have k0 := hF.blk hb0 (by omega)
    have k1 := hF.blk hb1 (by omega)
    have c3 := blk_cell k3 0
    have c0 := blk_cell k0 0
    have c1 := blk_cell k1 0
    have d0 := blk_free k0 0
    have d1 := blk_free k1 0
    have b4 : Fr (fun k => w.heap.size ≤ k) w V := (f12.mono (Y := fun k => w.heap.size ≤ k) fun _ _ e => e.elim).trans3 hF fun k hk e => by omega
    have hl1 : w.heap.size + 1 < V.heap.size := blk_lt k1
    have HE := Lib.hid (And.intro b4 (And.intro hdef (And.intro o3 (And.intro k0 (And.intro k1 (And.intro hD (And.intro hxD (And.intro hX2 (And.intro z1 hzz)))))))))
    obtain ⟨n3, hn3⟩ : ∃ n3, R.length = n3 := ⟨_, rfl⟩
    rw [hn3] at c3
    have HN3 := Lib.hid hn3
    clear k3 o3 hF hdef hxD hX2 hSl hG f12 hb0 hb1 hb2 z1 hT hfZ hfZ0 H0 H k0 k1 hD b4 hzz hseq hYb hYl heg f1 hn3
    gi_wp2_with fail
    obtain ⟨b4, hdef, o3, k0, k1, hD, hxD, hX2, z1, hzz⟩ := HE.out
    have hn3 := HN3.out
    have q0 := blk_set k0 0 (.slice A n3 cp)
    have q1 := blk_set (blk_other k1 ⟨w.heap.size, 0, none⟩ (by simp) (.slice A n3 cp)) 0 (.bool true)
    have q0' := blk_other q0 ⟨w.heap.size + 1, 0, none⟩ (by simp) (.bool true)
    have hd5 := blk_other (blk_other hdef ⟨w.heap.size, 0, none⟩ (by simp; omega) (.slice A n3 cp)) ⟨w.heap.size + 1, 0, none⟩ (by simp; omega) (.bool true)
    have f5 : Fr (fun k => k = w.heap.size ∨ k = w.heap.size + 1) V ((V.setCell ⟨w.heap.size, 0, none⟩ (.slice A n3 cp)).setCell ⟨w.heap.size + 1, 0, none⟩ (.bool true)) := Fr.setCell (Fr.setCell (Fr.refl (fun k => k = w.heap.size ∨ k = w.heap.size + 1) V) ⟨w.heap.size, 0, none⟩ (.inl rfl) _) ⟨w.heap.size + 1, 0, none⟩ (.inr rfl) _
    refine leaves_one D _ hd5 fun w' hf => ⟨_, res_in2R rfl _ _ (w.heap.size) (w.heap.size + 1) (.slice A n3 cp) (.bool true) _ _ rfl rfl (blk_cell (hf.blk q0' (by omega)) 0) (blk_cell (hf.blk q1 (by omega)) 0) Tryz.underlying34 rfl Tryz.underlying4 rfl, ⟨A, cp, by rw [hn3], ?_⟩, ?_⟩
    · refine ownT_base (ownT_kept o3 fun g hg => ?_) (show w.heap.size ≤ W2.heap.size by omega)
      have hg1 := (o3.lt g hg).1
      have hgl := (o3.lt g hg).2
      exact (hf.block g (Nat.lt_of_lt_of_le hgl f5.size) fun e => hxD ((hX2 D).2 (.inr (e ▸ hg)))).trans (f5.block g hgl (by omega))
    · exact ((b4.trans3 f5 fun k hk e => by omega).trans3 hf fun k hk e => by omega).below (Nat.le_refl _) fun k hk e => by omega
end Go.Proofs.YtmgnhbihfgpccaaGreatDoor
end
section
/- Layer 19: a nil room takes nothing; acts; Great. -/
namespace Go.Proofs.YtmgnhbihfgpccaaGreatDoor
open Go Go.RowKit

theorem add_nil (id : Int) (op : Bool) (w : World) : Calls Tryz.prog 25 #[.pointer none, .int .i64 id, .bool op] w fun e w' => (∃ v, e = .returned v) ∧ w' = w := by
  go_enter Tryz.func25, Tryz.ntmps25
  go_wp2_with (go_at_call 38; refine (place_nil _ _).mono ?_; rintro e w' ⟨rfl, rfl⟩)
  first | exact bodyPost_ret (results_none rfl _ _ _) rfl ⟨⟨_, rfl⟩, rfl⟩ | (go_end0; exact ⟨⟨_, rfl⟩, rfl⟩)
theorem drop_nil (id : Int) (w : World) : Calls Tryz.prog 28 #[.pointer none, .int .i64 id] w fun e w' => e = .returned (.bool false) ∧ w' = w := by
  go_enter Tryz.func28, Tryz.ntmps28
  go_wp2_with (go_at_call 38; refine (place_nil _ _).mono ?_; rintro e w' ⟨rfl, rfl⟩)
  go_ret
  exact ⟨rfl, rfl⟩
theorem setTopic_nil (s : ByteArray) (w : World) : Calls Tryz.prog 26 #[.pointer none, .string s] w fun e w' => (∃ v, e = .returned v) ∧ w' = w := by
  go_enter Tryz.func26, Tryz.ntmps26
  go_wp2_with fail
  first | exact bodyPost_ret (results_none rfl _ _ _) rfl ⟨⟨_, rfl⟩, rfl⟩ | (go_end0; exact ⟨⟨_, rfl⟩, rfl⟩)
theorem invite_nil (id : Int) (w : World) : Calls Tryz.prog 27 #[.pointer none, .int .i64 id] w fun e w' => (∃ v, e = .returned v) ∧ w' = w := by
  go_enter Tryz.func27, Tryz.ntmps27
  go_wp2_with fail
  first | exact bodyPost_ret (results_none rfl _ _ _) rfl ⟨⟨_, rfl⟩, rfl⟩ | (go_end0; exact ⟨⟨_, rfl⟩, rfl⟩)
theorem member_nil (id : Int) (w : World) : Calls Tryz.prog 13 #[.pointer none, .int .i64 id] w fun e w' => e = .returned (.tuple #[memV (0, false, false), .bool false]) ∧ RowKit.Below w.heap.size w w' := by
  go_enter Tryz.func13, Tryz.ntmps13
  go_wp2_with (go_at_call 38; refine (place_nil _ _).mono ?_; rintro e w' ⟨rfl, rfl⟩)
  have k := fun j => blk_cell (heap_alloc_new w (Obj.cells #[Value.int IntKind.i64 0, Value.bool false, Value.bool false] 38)) j
  exact bodyPost_ret (res_three rfl rfl (Tryz.isAgg38 _) (Tryz.sizeOf38 _) (k 0) (k 1) (k 2)) rfl ⟨rfl, (Below.refl _ _).alloc (Nat.le_refl _) _⟩
theorem mayJoin_nil (id : Int) (who key : ByteArray) (w : World) : Calls Tryz.prog 29 #[.pointer none, .int .i64 id, .string who, .string key] w fun e w' => e = .returned (.int .i64 403) ∧ w' = w := by
  go_enter Tryz.func29, Tryz.ntmps29
  go_wp2_with fail
  go_ret
  exact ⟨rfl, rfl⟩
theorem maySpeak_nil (id : Int) (who : ByteArray) (w : World) : Calls Tryz.prog 30 #[.pointer none, .int .i64 id, .string who] w fun e w' => e = .returned (.bool false) ∧ w' = w := by
  go_enter Tryz.func30, Tryz.ntmps30
  go_wp2_with fail
  go_ret
  exact ⟨rfl, rfl⟩
/-- an act -/
structure Act19 where
  k : Int
  id : Int
  op : Bool
  s : List UInt8
  on : Bool
  l : UInt8
  arg : List UInt8
def encA (a : Act19) : List Value := [.int .i64 a.k, .int .i64 a.id, .bool a.op, .string (bs a.s), .bool a.on, .int .u8 a.l.toNat, .string (bs a.arg)]
def actV (a : Act19) : Value := .agg #[.int .i64 a.k, .int .i64 a.id, .bool a.op, .string (bs a.s), .bool a.on, .int .u8 a.l.toNat, .string (bs a.arg)]
/-- what a slice of acts reads -/
def ReadsA (w : World) (A : Option Addr) (xs : List Act19) : Prop := 0 < xs.length → ∃ g o, A = some ⟨g, o, none⟩ ∧ g < w.heap.size ∧ ∀ j (h : j < xs.length) i, i < 7 → w.cell? ⟨g, o + j * 7 + i, none⟩ = (encA xs[j])[i]?
theorem ReadsA.below {w W : World} {A : Option Addr} {xs : List Act19} (h : ReadsA w A xs) {n : Nat} (hb : RowKit.Below n w W) (hn : w.heap.size ≤ n := by exact Nat.le_refl _) : ReadsA W A xs := fun h0 => by
  obtain ⟨g, o, h1, h2, h3⟩ := h h0
  exact ⟨g, o, h1, Nat.lt_of_lt_of_le h2 hb.size, fun j hj i hi => (World.cell?_of_block (w := w) (w' := W) (a := ⟨g, o + j * 7 + i, none⟩) (hb.block g (Nat.lt_of_lt_of_le h2 hn))).trans (h3 j hj i hi)⟩
/-- more than is looked at? -/
def grA (xs : List Act19) : Bool := decide (40 < xs.length) || xs.any fun a => decide (250 < a.s.length) || decide (250 < a.arg.length)
theorem grA_mem {xs : List Act19} (h : grA xs = false) : xs.length ≤ 40 ∧ ∀ a ∈ xs, a.s.length ≤ 250 ∧ a.arg.length ≤ 250 := by
  unfold grA at h
  rw [Bool.or_eq_false_iff] at h
  refine ⟨by simpa using h.1, fun a ha => ?_⟩
  have := List.any_eq_false.1 h.2 a ha
  simp at this; omega
set_option maxHeartbeats 4000000 in
theorem great19 (A : Option Addr) (c : Nat) (xs : List Act19) (w : World) (hR : ReadsA w A xs) (hl : xs.length ≤ 9223372036854775807) :
    Calls Tryz.prog 8 #[.slice A xs.length c] w fun e w' => e = .returned (.bool (grA xs)) ∧ w' = w := by
  by_cases h20 : 40 < xs.length
  · have hq : (40 : Int) < xs.length := by omega
    have HG : Hid (grA xs = true) := by show grA xs = true; unfold grA; rw [decide_eq_true h20]; rfl
    clear h20
    go_enter Tryz.func8, Tryz.ntmps8
    go_wp2_with fail
    go_ret
    exact ⟨ret_bool HG.out.symm, rfl⟩
  · have hq : ¬ (40 : Int) < xs.length := by omega
    have HR := Lib.hid hR
    have H20 := Lib.hid h20
    clear hR h20
    go_enter Tryz.func8, Tryz.ntmps8
    go_wp2_with fail
    go_loopw [3] (fun i wr => ∃ k : Nat, k ≤ xs.length ∧ i = .int .i64 k ∧ (∀ j (h : j < xs.length), j < k → xs[j].s.length ≤ 250 ∧ xs[j].arg.length ≤ 250) ∧ w = wr) (fun i _ => xs.length - (RowKit.intOf i).toNat)
    case atStart => exact ⟨0, Nat.zero_le _, rfl, fun _ _ h => absurd h (Nat.not_lt_zero _), rfl⟩
    case round =>
      obtain ⟨k, hk, rfl, hall, rfl⟩ := hrel
      have HALL := Lib.hid hall
      clear hall
      by_cases hlt : k < xs.length
      · obtain ⟨g, o, hA, hg, hc⟩ := HR.out (by omega)
        have c3 := hc k hlt 3 (by decide)
        have c6 := hc k hlt 6 (by decide)
        obtain ⟨a, ha⟩ : ∃ a, xs[k] = a := ⟨_, rfl⟩
        rw [ha] at c3 c6
        have d3 : w.cell? ⟨g, o + k * 7 + 3, none⟩ = some (.string (bs a.s)) := c3
        have d6 : w.cell? ⟨g, o + k * 7 + 6, none⟩ = some (.string (bs a.arg)) := c6
        have d6' : w.cell? ⟨g, o + k * 7 + 4 + 2, none⟩ = some (.string (bs a.arg)) := c6
        have HA := Lib.hid ha
        subst hA
        clear hc ha c3 c6
        by_cases hb1 : 250 < a.s.length
        · have hb2 : (250 : Int) < a.s.length := by omega
          have HG : Hid (grA xs = true) := by
            show grA xs = true
            unfold grA
            rw [Bool.or_eq_true]
            exact .inr (List.any_eq_true.2 ⟨a, HA.out ▸ List.getElem_mem hlt, by rw [decide_eq_true hb1]; rfl⟩)
          clear hb1
          go_wp2_with fail
          go_ret
          exact ⟨ret_bool HG.out.symm, rfl⟩
        · have hb2 : ¬ (250 : Int) < a.s.length := by omega
          by_cases hb3 : 250 < a.arg.length
          · have hb4 : (250 : Int) < a.arg.length := by omega
            have HG : Hid (grA xs = true) := by
              show grA xs = true
              unfold grA
              rw [Bool.or_eq_true]
              exact .inr (List.any_eq_true.2 ⟨a, HA.out ▸ List.getElem_mem hlt, by rw [decide_eq_true hb3, Bool.or_true]⟩)
            clear hb1 hb3
            go_wp2_with fail
            go_ret
            exact ⟨ret_bool HG.out.symm, rfl⟩
          · have hb4 : ¬ (250 : Int) < a.arg.length := by omega
            have HB := Lib.hid (And.intro hb1 hb3)
            clear hb1 hb3
            go_wp2_with fail
            refine ⟨⟨k + 1, by omega, by push_cast; rfl, fun j hj hjk => ?_, by simp⟩, by simp only [RowKit.intOf]; omega⟩
            rcases Nat.lt_or_ge j k with h | h
            · exact HALL.out j hj h
            · obtain rfl : j = k := by omega
              have e1 := HA.out; have e2 := HB.out
              rw [e1]; omega
      · obtain rfl : k = xs.length := by omega
        go_wp2_with fail
        go_ret
        refine ⟨ret_bool ?_, rfl⟩
        unfold grA
        rw [decide_eq_false H20.out, Bool.false_or]
        symm
        rw [List.any_eq_false]
        intro p hp
        obtain ⟨j, hj, rfl⟩ := List.getElem_of_mem hp
        have := HALL.out j hj hj
        simp; omega
end Go.Proofs.YtmgnhbihfgpccaaGreatDoor
end
section
/- Layer 19: a room that is there: place, Member, SetTopic, Invite. -/
namespace Go.Proofs.YtmgnhbihfgpccaaGreatDoor
open Go Go.RowKit

theorem ownM_slice {base : Nat} {W : World} {v : Value} {xs : List Mem} (h : OwnM base W v xs) : ∃ A c, v = .slice A xs.length c := by
  rcases h.2 with ⟨h1, h2⟩ | ⟨g, cap, cur, h1, _⟩
  · exact ⟨none, 0, by rw [h1]; simp [h2]⟩
  · exact ⟨_, _, h1⟩
theorem place_any {base B : Nat} {q : RmV} {r : Rm} {w : World} (h : RoomAt base B q r w) (id : Int) (hl : r.mem.length ≤ 1000000) :
    Calls Tryz.prog 38 #[.pointer (some ⟨B, 0, none⟩), .int .i64 id] w fun e w' => e = .returned (.tuple #[.int .i64 (ixM r.mem id), .bool (hasM r.mem id)]) ∧ Below w.heap.size w w' := by
  have c1 : w.cell? ⟨B, 1, none⟩ = some q.vm := blk_cell h.1 1
  obtain ⟨A, c, hv⟩ := ownM_slice h.2.1
  rw [hv] at c1
  have hown := h.2.1
  rw [hv] at hown
  have HS := Lib.hid (search_any A c r.mem h.2.2.2.2.2.2 id w (reads_ownM hown) hl)
  obtain ⟨i, hi⟩ : ∃ i, ixM r.mem id = i := ⟨_, rfl⟩
  obtain ⟨b, hb⟩ : ∃ b, hasM r.mem id = b := ⟨_, rfl⟩
  rw [hi, hb] at HS ⊢
  clear h hv hown hi hb
  go_enter Tryz.func38, Tryz.ntmps38
  go_wp2_with fail
  refine HS.out.mono ?_
  rintro e w1 ⟨rfl, hb1⟩
  have HB := Lib.hid hb1
  clear hb1
  go_wp2_with fail
  go_ret2
  exact ⟨rfl, HB.out⟩
/-- a topic -/
def topL (s : List UInt8) : List UInt8 := (cleanL s).take 200
set_option maxRecDepth 100000 in
set_option maxHeartbeats 4000000 in
theorem setTopic_any {base B : Nat} {q : RmV} {r : Rm} {w : World} (h : RoomAt base B q r w) (s : List UInt8) (hs : s.length ≤ 1000000) :
    Calls Tryz.prog 26 #[.pointer (some ⟨B, 0, none⟩), .string (bs s)] w fun e w' => (∃ v, e = .returned v) ∧ ChgW base B q { r with tp := topL s } w w' := by
  have HC := Lib.hid (clean_v (bs s) 200 w (by simpa using hs))
  have H := Lib.hid h
  have hz : cleanV (bs s) 200 = bs (topL s) := rfl
  rw [hz] at HC
  clear h hz
  go_enter Tryz.func26, Tryz.ntmps26
  go_wp2_with fail
  refine HC.out.mono ?_
  rintro e w1 ⟨rfl, hb1⟩
  have HB := Lib.hid hb1
  have h1 := H.out.below hb1
  have c2 : w1.cell? ⟨B, 2, none⟩ = some (.string (bs r.tp)) := blk_cell h1.1 2
  have f2 : w1.frozen? ⟨B, 2, none⟩ = false := blk_free h1.1 2
  have H1 := Lib.hid h1
  clear hb1 h1
  go_wp2_with fail
  go_end0
  refine ⟨⟨_, rfl⟩, ChgW.around (W := w1) ⟨q, H1.out.upd 2 _ rfl rfl rfl rfl, (Fr.refl (RmX B q) w1).setCell ⟨B, 2, none⟩ (.inl rfl) _, fun _ hk _ => hk⟩ HB.out (Below.refl _ _)⟩
set_option maxRecDepth 100000 in
set_option maxHeartbeats 4000000 in
theorem member_any2 {base B : Nat} {q : RmV} {r : Rm} {w : World} (h : RoomAt base B q r w) (id : Int) (hl : r.mem.length ≤ 1000000) :
    Calls Tryz.prog 13 #[.pointer (some ⟨B, 0, none⟩), .int .i64 id] w fun e w' => e = .returned (.tuple #[memV (if hasM r.mem id then r.mem.getD (ixM r.mem id) default else (0, false, false)), .bool (hasM r.mem id)]) ∧ Below w.heap.size w w' := by
  obtain ⟨W0, hW0⟩ : ∃ W0, w.alloc (.cells #[.int .i64 0, .bool false, .bool false] 38) = W0 := ⟨_, rfl⟩
  have b0 : RowKit.Below w.heap.size w W0 := by rw [← hW0]; exact (Below.refl _ w).alloc (Nat.le_refl _) _
  have k0 : W0.heap[w.heap.size]? = some (.cells #[.int .i64 0, .bool false, .bool false] 38 (0, 0)) := by rw [← hW0]; exact heap_alloc_new w _
  have hBl := blk_lt h.1
  have h0 := h.below b0
  have HP := Lib.hid (place_any h0 id hl)
  have HW := Lib.hid hW0
  have H := Lib.hid (And.intro h0 (And.intro b0 k0))
  clear h b0 k0 h0 hW0
  cases hb : hasM r.mem id with
  | false =>
    rw [hb] at HP
    rw [if_neg (by simp)]
    clear hb
    obtain ⟨N, hN⟩ : ∃ N, w.heap.size = N := ⟨_, rfl⟩
    have HN := Lib.hid hN
    obtain ⟨i, hi⟩ : ∃ i, ixM r.mem id = i := ⟨_, rfl⟩
    rw [hi] at HP
    clear hi
    have hW0 := HW.out
    go_enter Tryz.func13, Tryz.ntmps13
    go_wp2_with fail
    refine HP.out.mono ?_
    rintro e w1 ⟨rfl, hb1⟩
    have k1 := (Fr.of_below (X := fun _ => False) hb1).blk H.out.2.2 fun e => e
    rw [HN.out] at k1
    have HB := Lib.hid (H.out.2.1.trans (hb1.mono H.out.2.1.size))
    have HK := Lib.hid k1
    have q0 := blk_cell k1 0; have q1 := blk_cell k1 1; have q2 := blk_cell k1 2; have g0 := blk_free k1 0; have g1 := blk_free k1 1; have g2 := blk_free k1 2
    clear hb1 k1 hN hW0
    go_wp2_with fail
    have k := fun j => blk_cell (set3R (x := .int .i64 0) (y := .bool false) (z := .bool false) HK.out) j
    refine bodyPost_ret (res_three rfl rfl (Tryz.isAgg38 _) (Tryz.sizeOf38 _) (k 0) (k 1) (k 2)) rfl ⟨rfl, ?_⟩
    exact HB.out.trans (set3R_fr.below (B := w.heap.size) HB.out.size fun k hk e => by have := HN.out; omega)
  | true =>
    rw [hb] at HP
    rw [if_pos rfl]
    obtain ⟨hix, _⟩ := ixM_at H.out.1.2.2.2.2.2.2 hb
    obtain ⟨N, hN⟩ : ∃ N, w.heap.size = N := ⟨_, rfl⟩
    have HN := Lib.hid hN
    obtain ⟨m, hm⟩ : ∃ m, r.mem.getD (ixM r.mem id) default = m := ⟨_, rfl⟩
    obtain ⟨A, c, hv⟩ := ownM_slice H.out.1.2.1
    have hown := H.out.1.2.1
    rw [hv] at hown
    obtain ⟨g, o, rfl, hg, hcl⟩ := reads_ownM hown (by omega)
    have hme : r.mem[ixM r.mem id] = m := by rw [← hm, List.getD_eq_getElem?_getD, List.getElem?_eq_getElem hix]; rfl
    have hcm := hcl _ hix
    rw [hme] at hcm
    rw [hm]
    obtain ⟨i, hi⟩ : ∃ i, ixM r.mem id = i := ⟨_, rfl⟩
    obtain ⟨nl, hnl⟩ : ∃ nl, r.mem.length = nl := ⟨_, rfl⟩
    rw [hi] at HP hcm hix
    rw [hnl] at hix hv
    have HC := Lib.hid (And.intro hg hcm)
    have c1 : W0.cell? ⟨B, 1, none⟩ = some (.slice (some ⟨g, o, none⟩) nl c) := by rw [← hv]; exact blk_cell H.out.1.1 1
    have HC1 := Lib.hid (And.intro (blk_lt H.out.1.1) c1)
    clear hi hm hme hcl hown hv hnl hg hcm hb c1 hl
    have hW0 := HW.out
    go_enter Tryz.func13, Tryz.ntmps13
    go_wp2_with fail
    refine HP.out.mono ?_
    rintro e w1 ⟨rfl, hb1⟩
    have k1 := (Fr.of_below (X := fun _ => False) hb1).blk H.out.2.2 fun e => e
    rw [HN.out] at k1
    have HB := Lib.hid (H.out.2.1.trans (hb1.mono H.out.2.1.size))
    have HK := Lib.hid k1
    have q0 := blk_cell k1 0; have q1 := blk_cell k1 1; have q2 := blk_cell k1 2; have g0 := blk_free k1 0; have g1 := blk_free k1 1; have g2 := blk_free k1 2
    have c1 := (hb1.cell (p := ⟨B, 1, none⟩) HC1.out.1).trans HC1.out.2
    have e0 := (hb1.cell (p := ⟨g, o + i * 3, none⟩) HC.out.1).trans HC.out.2.1
    have e1 := (hb1.cell (p := ⟨g, o + i * 3 + 1, none⟩) HC.out.1).trans HC.out.2.2.1
    have e2 := (hb1.cell (p := ⟨g, o + i * 3 + 2, none⟩) HC.out.1).trans HC.out.2.2.2
    clear hb1 k1 hN hW0
    go_wp2_with fail
    have k := fun j => blk_cell (set3R (x := .int .i64 m.1) (y := .bool m.2.1) (z := .bool m.2.2) HK.out) j
    refine bodyPost_ret (res_three rfl rfl (Tryz.isAgg38 _) (Tryz.sizeOf38 _) (k 0) (k 1) (k 2)) rfl ⟨rfl, ?_⟩
    exact HB.out.trans (set3R_fr.below (B := w.heap.size) HB.out.size fun k hk e => by have := HN.out; omega)
end Go.Proofs.YtmgnhbihfgpccaaGreatDoor
end
section
/- Layer 19: Invite; a change of a flag. -/
namespace Go.Proofs.YtmgnhbihfgpccaaGreatDoor
open Go Go.RowKit

theorem RoomAt.toSet {base B : Nat} {q : RmV} {r : Rm} {W W' : World} (h : RoomAt base B q r W) {ob' : Option Nat} {inv' : List Int} (hs : SetAt base W' q.S ob' inv') (hf : Fr (fun k => k = q.S ∨ q.ob = some k) W W') :
    RoomAt base B { q with ob := ob' } { r with inv := inv' } W' := by
  have ha := h.apart
  have hl := h.lt
  obtain ⟨g1, g2, g3, g4, g5, g6, g7⟩ := h
  refine ⟨hf.blk g1 ?_, ownM_kept g2 fun g hg => hf.block g (g2.lt g hg).2 ?_, ownT_kept g3 fun g hg => hf.block g (g3.lt g hg).2 ?_, hs, g5, g6, g7⟩
  · rintro (e | e)
    · exact ha.1.2.2.1 e.symm
    · exact ha.1.2.2.2 e
  · rintro (e | e)
    · exact (ha.2.1 g hg).2.1 e.symm
    · exact (ha.2.1 g hg).2.2 e
  · rintro (e | e)
    · exact (ha.2.2 g hg).1 e.symm
    · exact (ha.2.2 g hg).2 e
theorem chgW_set {base B : Nat} {q : RmV} {r : Rm} {W W' : World} (h : RoomAt base B q r W) {ob' : Option Nat} {inv' : List Int} (hs : SetAt base W' q.S ob' inv') (ho : ∀ k, ob' = some k → k < W.heap.size → q.ob = some k) (hf : Fr (fun k => k = q.S ∨ q.ob = some k) W W') :
    ChgW base B q { r with inv := inv' } W W' := by
  refine ⟨{ q with ob := ob' }, h.toSet hs hf, hf.mono fun k _ e => ?_, fun k hk hlt => ?_⟩
  · rcases e with e | e
    · exact .inr (.inr (.inr (.inl e)))
    · exact .inr (.inr (.inr (.inr e)))
  · rcases hk with e | e | e | e | e
    · exact .inl e
    · exact .inr (.inl e)
    · exact .inr (.inr (.inl e))
    · exact .inr (.inr (.inr (.inl e)))
    · exact .inr (.inr (.inr (.inr (ho k e hlt))))
set_option maxRecDepth 100000 in
set_option maxHeartbeats 4000000 in
theorem invite_any {base B : Nat} {q : RmV} {r : Rm} {w : World} (h : RoomAt base B q r w) (id : Int) (hl : r.inv.length ≤ 100000) :
    Calls Tryz.prog 27 #[.pointer (some ⟨B, 0, none⟩), .int .i64 id] w fun e w' => (∃ v, e = .returned v) ∧ ChgW base B q { r with inv := insAll r.inv [id] } w w' := by
  have b1 : RowKit.Below w.heap.size w (w.alloc (.cells #[.int .i64 id] 3)) := (Below.refl _ w).alloc (Nat.le_refl _) _
  have h1 := h.below b1
  have hlt := h.lt
  have hS := (hlt q.S (.inr (.inr (.inr (.inl rfl)))))
  have hSA := set_add h1.2.2.2.1 (by have := h.2.2.2.2.1; have := blk_lt h.1; simp; omega) (some ⟨w.heap.size, 0, none⟩) [id] 1 (by simp; omega) (fun _ => ⟨w.heap.size, 0, rfl, by simp, by omega, fun e => by have := (hlt _ (.inr (.inr (.inr (.inr e))))).2; omega, fun j hj => by
    obtain rfl : j = 0 := by simpa using hj
    exact blk_cell (heap_alloc_new w _) 0⟩)
  have c8 : w.cell? ⟨B, 8, none⟩ = some (.pointer (some ⟨q.S, 0, none⟩)) := blk_cell h.1 8
  have HS := Lib.hid hSA
  have H := Lib.hid (And.intro h1 b1)
  obtain ⟨n, hn⟩ : ∃ n : Int, (((insAll r.inv [id]).length - r.inv.length : Nat) : Int) = n := ⟨_, rfl⟩
  rw [hn] at HS
  clear h h1 b1 hlt hS hSA hn
  go_enter Tryz.func27, Tryz.ntmps27
  go_wp2_with fail
  refine HS.out.mono ?_
  rintro e w1 ⟨rfl, ha⟩
  have HA := Lib.hid ha
  clear ha
  go_wp2_with fail
  go_end0
  obtain ⟨ob', a1, a2, a3⟩ := HA.out
  exact ⟨⟨_, rfl⟩, (chgW_set H.out.1 a1 a2 a3).around H.out.2 (Below.refl _ _)⟩
end Go.Proofs.YtmgnhbihfgpccaaGreatDoor
end
section
/- Regions that draw their order, walked op by op in one way: what is held may grow on the way. -/
namespace Go.Proofs.YtmgnhbihfgpccaaGreatDoor
open Go Go.RowKit

section
variable {P : Program} {md : Region.Mode} {ops : Array Oper} {Q : Exit → Act → World → Prop} {S T : World → Prop}
/-- what is held may be more from here on -/
theorem wpAnyH_more (hST : ∀ w, T w → S w) : ∀ (fuel : Nat) (listed : Array Bool) (a : Act) (w : World), wpAnyH P md ops Q T fuel listed a w → wpAnyH P md ops Q S fuel listed a w
  | 0, _, _, _, h => h
  | fuel + 1, _, _, _, h => ⟨h.1, fun i hi => wpOp_mono (fun a' w' h' => ⟨hST w' h'.1, wpAnyH_more hST fuel _ a' w' h'.2⟩) (h.2 i hi)⟩
/-- one alone may come up: a call, a store -/
theorem wpAnyH_one {i : Nat} {o : Oper} {fuel : Nat} {listed : Array Bool} {a : Act} {w : World} (hr : Region.ready md ops listed = [i]) (ho : ops[i]? = some o) (hw : Region.wanted o (yielded ops a.tmps) = true)
    (h : ∀ K' : Act → World → Prop, Shut (∀ a w, S w → (S w → wpAnyH P md ops Q S fuel (listed.setIfInBounds i true) a w) → K' a w) → Oper.wp P o a w K' Q) : wpAnyH P md ops Q S (fuel + 1) listed a w :=
  wpAnyH_ready hr (by simp) (AllReadyH.cons ho (fun K hK => by rw [if_pos hw]; exact h K hK) AllReadyH.nil)
/-- what yields in every world that is held -/
theorem wpAnyH_read {i : Nat} {oi : Oper} (v : Value) {fuel : Nat} {listed : Array Bool} {a : Act} {w : World} (hi : ops[i]? = some oi)
    (hs : Region.noSelect ops = true) (hf : Region.free md ops listed i = true) (hr : (Region.ready md ops listed).contains i = true)
    (hQ : ∀ c a w, Q (.panic c) (a.put oi.dst v) w → Q (.panic c) a w) (hw : Region.wanted oi (yielded ops a.tmps) = true) (hS : S w)
    (hy : ∀ w, S w → (execOp a.eval oi).run P w = .ok (.value v) w)
    (h : wpAnyH P md ops Q S fuel (listed.setIfInBounds i true) (a.put oi.dst v) w) : wpAnyH P md ops Q S (fuel + 1) listed a w :=
  wpAnyH_take hi hs hf hr hQ (Or.inl ⟨hw, hy⟩) hS h
/-- what is guarded, and not wanted -/
theorem wpAnyH_pass {i : Nat} {oi : Oper} {fuel : Nat} {listed : Array Bool} {a : Act} {w : World} (hi : ops[i]? = some oi)
    (hs : Region.noSelect ops = true) (hf : Region.free md ops listed i = true) (hr : (Region.ready md ops listed).contains i = true)
    (hQ : ∀ c a w, Q (.panic c) (a.put oi.dst undef) w → Q (.panic c) a w) (hw : Region.wanted oi (yielded ops a.tmps) = false) (hS : S w)
    (h : wpAnyH P md ops Q S fuel (listed.setIfInBounds i true) (a.put oi.dst undef) w) : wpAnyH P md ops Q S (fuel + 1) listed a w :=
  wpAnyH_take hi hs hf hr hQ (Or.inr ⟨hw, rfl⟩) hS h
end
end Go.Proofs.YtmgnhbihfgpccaaGreatDoor
end
section
/- Regions that draw their order, whose last operation (number z: a store) waits for what reads: what is held need not hold behind it. -/
namespace Go.Proofs.YtmgnhbihfgpccaaGreatDoor
open Go Go.RowKit

/-- does z wait for i? -/
def waitsFor (md : Region.Mode) (ops : Array Oper) (z i : Nat) : Bool := match ops[z]? with
  | some o => o.after.any fun e => Region.binds md e && e.on == i
  | none => false
section
variable {P : Program} {md : Region.Mode} {ops : Array Oper} {Q : Exit → Act → World → Prop} {S : World → Prop} {z : Nat}
/-- whatever order is picked; S holds behind all but z -/
def wpAnyZ (P : Program) (md : Region.Mode) (ops : Array Oper) (Q : Exit → Act → World → Prop) (S : World → Prop) (z : Nat) : Nat → Array Bool → Act → World → Prop
  | 0, listed, a, w => Region.ready md ops listed = [] ∧ Q .normal a w
  | fuel + 1, listed, a, w => (Region.ready md ops listed = [] → Q .normal a w) ∧
    ∀ i ∈ Region.ready md ops listed, wpOp P ops Q i (fun a' w' => (i ≠ z → S w') ∧ wpAnyZ P md ops Q S z fuel (listed.setIfInBounds i true) a' w') a w
theorem wpAny_of_z : ∀ (fuel : Nat) (listed : Array Bool) (a : Act) (w : World), wpAnyZ P md ops Q S z fuel listed a w → wpAny P md ops Q fuel listed a w
  | 0, _, _, _, h => h
  | fuel + 1, _, _, _, h => ⟨h.1, fun i hi => wpOp_mono (fun _ _ h' => wpAny_of_z fuel _ _ _ h'.2) (h.2 i hi)⟩
theorem waits_not {i j : Nat} {listed : Array Bool} (hz : waitsFor md ops z i = true) (hr : i ∈ Region.ready md ops listed) (hj : j ∈ Region.ready md ops listed) : j ≠ z := by
  rintro rfl
  obtain ⟨_, oj, hoj, hall⟩ := mem_ready.1 hj
  unfold waitsFor at hz
  rw [hoj] at hz
  simp only [Array.any_eq_true'] at hz
  obtain ⟨e, he, hb⟩ := hz
  rw [Bool.and_eq_true, beq_iff_eq] at hb
  have h1 := hall e he hb.1
  have h0 := (mem_ready.1 hr).1
  rw [hb.2] at h1
  rcases Nat.lt_or_ge i listed.size with h' | h'
  · simp [h'] at h0 h1; rw [h0] at h1; cases h1
  · simp [Array.getElem?_eq_none h'] at h1
theorem wpAnyZ_first {i : Nat} {oi : Oper} {v : Value} (hi : ops[i]? = some oi) (hsel : ∀ (j : Nat) (o : Oper) cs b, ops[j]? = some o → o.op ≠ .select cs b)
    (hQ : ∀ c a w, Q (.panic c) (a.put oi.dst v) w → Q (.panic c) a w) (hz : waitsFor md ops z i = true) : ∀ (fuel : Nat) (listed : Array Bool) (a : Act) (w : World),
      (∀ j oj, ops[j]? = some oj → j ≠ i → listed.getD j true = false → (∀ e ∈ oj.after, Region.binds md e = true → e.on ≠ i) → oi.apart ops oj = true) →
      i ∈ Region.ready md ops listed → YieldsIf P ops S oi v a → S w → wpAnyZ P md ops Q S z fuel (listed.setIfInBounds i true) (a.put oi.dst v) w → wpAnyZ P md ops Q S z (fuel + 1) listed a w := by
  intro fuel
  induction fuel with
  | zero =>
    intro listed a w _ hr hy hS H
    refine ⟨fun h => (by rw [h] at hr; cases hr), fun j hj => ?_⟩
    by_cases hji : j = i
    · subst hji
      exact hy.wpOp hi hS ⟨fun _ => hS, H⟩
    · have h1 := ready_mono hj hji
      rw [H.1] at h1
      cases h1
  | succ fuel ih =>
    intro listed a w hfree hr hy hS H
    refine ⟨fun h => (by rw [h] at hr; cases hr), fun j hj => ?_⟩
    by_cases hji : j = i
    · subst hji
      exact hy.wpOp hi hS ⟨fun _ => hS, H⟩
    · have hjz := waits_not hz hr hj
      have h1 := H.2 j (ready_mono hj hji)
      obtain ⟨hjun, oj, hoj, hall⟩ := mem_ready.1 hj
      have hnot : ∀ e ∈ oj.after, Region.binds md e = true → e.on ≠ i := fun e he hb heq => by
        have h1 := hall e he hb
        have h0 := (mem_ready.1 hr).1
        rw [heq] at h1
        rcases Nat.lt_or_ge i listed.size with h' | h'
        · simp [h'] at h0 h1; rw [h0] at h1; cases h1
        · simp [Array.getElem?_eq_none h'] at h1
      have h2 := wpOp_putIf hoj (hfree j oj hoj hji hjun hnot) (fun cs b => hsel i oi cs b hi) (fun cs b => hsel j oj cs b hoj) hQ hy h1
      refine wpOp_mono (fun a' w' h3 => ⟨h3.2.1, ih (listed.setIfInBounds j true) a' w' (fun k ok hk hki hun hno => hfree k ok hk hki ?_ hno) (ready_mono hr (Ne.symm hji)) h3.1 (h3.2.1 hjz) ?_⟩) h2
      · by_cases hjk : j = k
        · subst hjk; exact hjun
        · rw [getD_set_ne true hjk] at hun; exact hun
      · rw [Array.setIfInBounds_comm _ _ hji]
        exact h3.2.2
/-- what yields in every world that is held -/
theorem wpAnyZ_read {i : Nat} {oi : Oper} (v : Value) {fuel : Nat} {listed : Array Bool} {a : Act} {w : World} (hi : ops[i]? = some oi)
    (hs : Region.noSelect ops = true) (hf : Region.free md ops listed i = true) (hr : (Region.ready md ops listed).contains i = true) (hz : waitsFor md ops z i = true)
    (hQ : ∀ c a w, Q (.panic c) (a.put oi.dst v) w → Q (.panic c) a w) (hw : Region.wanted oi (yielded ops a.tmps) = true) (hS : S w)
    (hy : ∀ w, S w → (execOp a.eval oi).run P w = .ok (.value v) w)
    (h : wpAnyZ P md ops Q S z fuel (listed.setIfInBounds i true) (a.put oi.dst v) w) : wpAnyZ P md ops Q S z (fuel + 1) listed a w :=
  wpAnyZ_first hi (Region.noSelect_spec hs) hQ hz fuel listed a w (Region.free_spec hi hf) (by simpa using hr) (Or.inl ⟨hw, hy⟩) hS h
/-- one alone may come up: a call, a slice that is made -/
theorem wpAnyZ_one {i : Nat} {o : Oper} {fuel : Nat} {listed : Array Bool} {a : Act} {w : World} (hr : Region.ready md ops listed = [i]) (ho : ops[i]? = some o) (hw : Region.wanted o (yielded ops a.tmps) = true)
    (h : ∀ K' : Act → World → Prop, Shut (∀ a w, S w → (S w → wpAnyZ P md ops Q S z fuel (listed.setIfInBounds i true) a w) → K' a w) → Oper.wp P o a w K' Q) : wpAnyZ P md ops Q S z (fuel + 1) listed a w :=
  ⟨fun h0 => absurd (hr ▸ h0) (by simp), by
    rw [hr]
    intro j hj
    obtain rfl := List.mem_singleton.1 hj
    exact wpOp_step ho fun K' hK => by rw [if_pos hw]; exact h K' fun a w hS hW => hK a w ⟨fun _ => hS, hW hS⟩⟩
/-- z comes up -/
theorem wpAnyZ_last {o : Oper} {fuel : Nat} {listed : Array Bool} {a : Act} {w : World} (hr : Region.ready md ops listed = [z]) (ho : ops[z]? = some o) (hw : Region.wanted o (yielded ops a.tmps) = true)
    (h : ∀ K' : Act → World → Prop, Shut (∀ a w, wpAnyZ P md ops Q S z fuel (listed.setIfInBounds z true) a w → K' a w) → Oper.wp P o a w K' Q) : wpAnyZ P md ops Q S z (fuel + 1) listed a w :=
  ⟨fun h0 => absurd (hr ▸ h0) (by simp), by
    rw [hr]
    intro j hj
    obtain rfl := List.mem_singleton.1 hj
    exact wpOp_step ho fun K' hK => by rw [if_pos hw]; exact h K' fun a w hW => hK a w ⟨fun e => absurd rfl e, hW⟩⟩
theorem wpAnyZ_done {listed : Array Bool} {a : Act} {w : World} (hr : Region.ready md ops listed = []) (h : Q .normal a w) : ∀ fuel, wpAnyZ P md ops Q S z fuel listed a w
  | 0 => ⟨hr, h⟩
  | _ + 1 => ⟨fun _ => h, by rw [hr]; simp⟩
theorem wp_region_z (S : World → Prop) (z : Nat) {id : Nat} {a : Act} {w : World} (hm : P.follows .mixedOrders = true) (hS : S w.drew)
    (h : S w.drew → wpAnyZ P .any ops Q S z ops.size (Array.replicate ops.size false) a w.drew) : (Code.region id ops true).wp P Q a w :=
  wp_region_any hm (wpAny_of_z _ _ _ _ (h hS))
/-- append whose run is known -/
theorem wp_app_run {P : Program} {W W' : World} {o : Oper} {a : Act} {K : Act → World → Prop} {Q : Exit → Act → World → Prop} (s x : Operand) (t tx : TypeId)
    (ho : o.op = .call { callee := .builtin .append, args := #[s, x], argTypes := #[t, tx] }) {v : Value} (hr : (Builtin.append_ #[t, tx] o.type #[a.eval s, a.eval x]).run P W = .ok v W') (h : K (a.put o.dst v) W') : Oper.wp P o a W K Q := by
  unfold Oper.wp execOp
  simp only [ho, resolve, invoke, builtin, Sem.run_bind, Sem.run_pure, Result.andThen_ok, List.map_toArray, List.map_cons, List.map_nil, hr]
  exact h
end
end Go.Proofs.YtmgnhbihfgpccaaGreatDoor
end
