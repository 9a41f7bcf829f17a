/- Layer 16: the document's connections: At, Leave, Join. -/
import Derived.Test.YtbgmjieagnmpkaaPulE
import Derived.Test.YtbgmjieagnmpkaaAppU
import Derived.Test.YtbgmjieagnmpkaaRegZ
namespace Go.Proofs.Ytbgmjieagnmpkaa
set_option linter.unusedVariables false
set_option linter.unusedSimpArgs false
open Go Go.RowKit Go.Maps Go.Sort Go.Shelf Go.Lib

theorem Try.infoK : (Try.prog.info? 75).map (fun i => (i.zero, i.size, i.bytes)) = some (some (.agg #[.int .i64 0, .int .i64 0, .bool false, .bool false]), 4, 24) := by kernel_rfl
instance : Inhabited Cn := ⟨⟨0, 0, false, false⟩⟩
def encK (c : Cn) : List Value := [.int .i64 c.id, .int .i64 c.at_, .bool c.inn, .bool c.ask]
/-- a row of the document's connections, of the call's own -/
def OwnK (base : Nat) (W : World) (v : Value) (xs : List Cn) : Prop := W.ownsRow base 75 4 v xs.length (xs.flatMap encK)
theorem ownK_nil (base : Nat) (w : World) : OwnK base w (.slice none 0 0) [] := World.ownsRow_nil _ _ _ _
theorem ownK_kept {base : Nat} {w W : World} {v : Value} {xs : List Cn} (h : OwnK base w v xs) (hs : ∀ g, v.ownBlock = some g → W.heap[g]? = w.heap[g]?) : OwnK base W v xs := row_same h hs
theorem ownK_base {W : World} {base base' : Nat} {v : Value} {xs : List Cn} (h : OwnK base W v xs) (hb : base' ≤ base) : OwnK base' W v xs := by
  obtain ⟨h1, h2⟩ := h
  refine ⟨h1, ?_⟩
  rcases h2 with h2 | ⟨g, cap, cur, h3, h4, h5⟩
  · exact .inl h2
  · exact .inr ⟨g, cap, cur, h3, by omega, h5⟩
def ReadsC (w : World) (A : Option Addr) (xs : List Cn) : Prop := 0 < xs.length → ∃ g o, A = some ⟨g, o, none⟩ ∧ g < w.heap.size ∧ ∀ j (h : j < xs.length), w.cell? ⟨g, o + j * 4, none⟩ = some (.int .i64 xs[j].id) ∧ w.cell? ⟨g, o + j * 4 + 1, none⟩ = some (.int .i64 xs[j].at_) ∧ w.cell? ⟨g, o + j * 4 + 2, none⟩ = some (.bool xs[j].inn) ∧ w.cell? ⟨g, o + j * 4 + 3, none⟩ = some (.bool xs[j].ask)
theorem reads_ownK {base : Nat} {w : World} {A : Option Addr} {n c : Nat} {xs : List Cn} (h : OwnK base w (.slice A n c) xs) : ReadsC w A xs := fun h0 => by
  have h' := h
  rcases h.2 with ⟨h1, h2⟩ | ⟨g, cap, cur, h1, h3, h4, h5, _, h6, h7⟩
  · omega
  · injection h1 with q1 q2 q3
    subst q1
    have hadd : ∀ j, (⟨g, 0, none⟩ : Addr).add j = ⟨g, 0 + j, none⟩ := fun j => by
      unfold Addr.add
      split
      · simp_all
      · rfl
    have key : ∀ t u, (xs.flatMap encK)[t]? = some u → w.cell? ⟨g, 0 + t, none⟩ = some u := fun t u ht => by
      have := h'.cells (g := g) rfl t u ht
      rwa [hadd] at this
    have one : ∀ j (hj : j < xs.length) i (hi : i < 4) u, (encK xs[j])[i]? = some u → w.cell? ⟨g, 0 + j * 4 + i, none⟩ = some u := fun j hj i hi u hu => by
      rw [Nat.add_assoc]
      refine key _ _ ?_
      rw [flatMap_get encK 4 (fun _ => rfl) (by decide) xs (j * 4 + i) (by omega), show (j * 4 + i) / 4 = j by omega, show (j * 4 + i) % 4 = i by omega]
      simpa [List.getD, hj] using hu
    exact ⟨g, 0, rfl, blk_lt h4, fun j hj => ⟨one j hj 0 (by decide) _ rfl, one j hj 1 (by decide) _ rfl, one j hj 2 (by decide) _ rfl, one j hj 3 (by decide) _ rfl⟩⟩
/-- the document's pulse as it lies -/
def RefC (base : Nat) (w : World) (x : Nat) (pg gr rg : Int) (C : List Cn) : Prop := base ≤ x ∧ ∃ A c, w.heap[x]? = some (.cells #[.int .i64 pg, .int .i64 gr, .int .i64 rg, .slice A C.length c] 65 (0, 0)) ∧ OwnK base w (.slice A C.length c) C ∧ (Value.slice A C.length c).ownBlock ≠ some x
theorem refC_fr {base : Nat} {w w' : World} {x : Nat} {pg gr rg : Int} {C : List Cn} {X : Nat → Prop} (h : RefC base w x pg gr rg C) (hf : Fr X w w') (h1 : ∀ b, base ≤ b → b < w.heap.size → ¬ X b) : RefC base w' x pg gr rg C := by
  obtain ⟨h0, A, c, h2, h3, h4⟩ := h
  exact ⟨h0, A, c, hf.blk h2 (h1 x h0 (blk_lt h2)), ownK_kept h3 fun g hg => hf.block g (h3.lt g hg).2 (h1 g (h3.lt g hg).1 (h3.lt g hg).2), h4⟩
/-- what the document's pulse may write: itself, its row -/
def DocX (w : World) (x : Nat) : Nat → Prop := fun j => j = x ∨ ∃ A n c, w.cell? ⟨x, 3, none⟩ = some (.slice A n c) ∧ (Value.slice A n c).ownBlock = some j
theorem docX_ge {base : Nat} {w : World} {x : Nat} {pg gr rg : Int} {C : List Cn} (h : RefC base w x pg gr rg C) {j : Nat} (hj : DocX w x j) : base ≤ j ∧ j < w.heap.size := by
  obtain ⟨h0, A, c, h2, h3, h4⟩ := h
  rcases hj with rfl | ⟨A', n, c', e1, e2⟩
  · exact ⟨h0, blk_lt h2⟩
  · have e3 := (blk_cell h2 3).symm.trans e1
    have e4 : Value.slice A C.length c = Value.slice A' n c' := Option.some.inj e3
    rw [← e4] at e2
    exact h3.lt j e2
def AtC (C : List Cn) (id n : Int) : Prop := (n = -1 ∧ findC C id = none) ∨ ∃ i, ∃ h : i < C.length, n = (i : Int) ∧ C[i].id = id
def AtCP (C : List Cn) (id : Int) (w : World) (e : Ending) (w' : World) : Prop := (∃ n, e = .returned (.int .i64 n) ∧ AtC C id n) ∧ w' = w
set_option maxRecDepth 100000 in
set_option maxHeartbeats 8000000 in
theorem refc_at {base : Nat} {w : World} {x : Nat} {pg gr rg : Int} {C : List Cn} (h : RefC base w x pg gr rg C) (hlen : C.length ≤ 1000000) (id : Int) :
    Calls Try.prog 41 #[.pointer (some ⟨x, 0, none⟩), .int .i64 id] w (AtCP C id w) := by
  obtain ⟨h0, A, c, h2, h3, h4⟩ := h
  have hrd := reads_ownK h3
  have hc0 : w.cell? ⟨x, 3, none⟩ = some (.slice A C.length c) := (blk_cell h2 3).trans rfl
  have HR := Lib.hid (And.intro hrd hlen)
  clear hrd h2 h3 h4 h0 hlen
  go_enter Try.func41, Try.ntmps41
  go_wp2_with fail
  go_loopw [5] (fun i wr => ∃ j : Nat, i = .int .i64 j ∧ j ≤ C.length ∧ wr = w ∧ ∀ q (hq : q < C.length), q < j → C[q].id ≠ id) (fun i _ => C.length - (RowKit.intOf i).toNat)
  case atStart => exact ⟨0, rfl, Nat.zero_le _, rfl, fun q _ hq => by omega⟩
  case round =>
    obtain ⟨j, rfl, hj, rfl, hno⟩ := hrel
    by_cases hlt : j < C.length
    · obtain ⟨g, o, rfl, hg, hcell⟩ := HR.out.1 (by omega)
      obtain ⟨c1, _⟩ := hcell j hlt
      have hl := HR.out.2
      obtain ⟨kj, hkj⟩ : ∃ kj, C[j].id = kj := ⟨_, rfl⟩
      rw [hkj] at c1
      have HK := Lib.hid (And.intro hkj hno)
      clear hkj hcell hno
      by_cases he : kj = id
      · go_wp2_with fail
        go_ret
        exact ⟨⟨_, rfl, .inr ⟨j, hlt, rfl, HK.out.1.trans he⟩⟩, rfl⟩
      · go_wp2_with fail
        go_roundw
        case rel =>
          refine ⟨j + 1, by go_num, by omega, trivial, fun q hq hqj => ?_⟩
          by_cases e : q = j
          · subst e
            rw [HK.out.1]
            exact he
          · exact HK.out.2 q hq (by omega)
        case measure => simp [RowKit.intOf]; omega
    · obtain rfl : j = C.length := by omega
      have p1 : ¬ ((C.length : Int) < (C.length : Int)) := by omega
      go_wp2_with fail
      go_ret
      refine ⟨⟨_, rfl, .inl ⟨rfl, findC_none.2 fun c hc => ?_⟩⟩, rfl⟩
      obtain ⟨q, hq, e⟩ := List.mem_iff_getElem.1 hc
      rw [← e]
      exact hno q hq hq
theorem leaveC_at {C : List Cn} (hd : (C.map (·.id)).Nodup) {i : Nat} (hi : i < C.length) : leaveC C C[i].id = C.take i ++ C.drop (i + 1) := by
  have hsp : C = C.take i ++ C[i] :: C.drop (i + 1) := by rw [← List.drop_eq_getElem_cons hi, List.take_append_drop]
  obtain ⟨c, hc⟩ : ∃ c, C[i] = c := ⟨_, rfl⟩
  rw [hc] at hsp ⊢
  have hd2 := hd
  rw [hsp, List.map_append, List.map_cons, List.nodup_append, List.nodup_cons] at hd2
  obtain ⟨_, ⟨h2, _⟩, h3⟩ := hd2
  unfold leaveC
  conv => lhs; rw [hsp]
  rw [List.filter_append, List.filter_cons_of_neg (by simp)]
  congr 1
  · rw [List.filter_eq_self]
    intro d hd
    simp
    exact fun e => h3 _ (List.mem_map_of_mem hd) _ (List.mem_cons_self ..) e
  · rw [List.filter_eq_self]
    intro d hd
    simp
    exact fun e => h2 (by rw [← e]; exact List.mem_map_of_mem hd)
theorem leaveC_none {C : List Cn} {id : Int} (h : findC C id = none) : leaveC C id = C := by
  rw [findC_none] at h
  unfold leaveC
  rw [List.filter_eq_self]
  intro c hc
  simpa using h c hc
theorem findC_at {C : List Cn} (hd : (C.map (·.id)).Nodup) {i : Nat} (hi : i < C.length) : findC C C[i].id = some C[i] := (findC_some hd).2 ⟨List.getElem_mem hi, rfl⟩
theorem add_any (g o j : Nat) : (⟨g, o, none⟩ : Addr).add j = ⟨g, o + j, none⟩ := by
  unfold Addr.add
  split
  · simp_all
  · rfl
theorem encK_len (T : List Cn) : (T.flatMap encK).length = T.length * 4 := by
  induction T with
  | nil => rfl
  | cons a r ih => rw [List.flatMap_cons, List.length_append, ih, List.length_cons]; simp [encK]; omega
theorem encK_one (T : List Cn) : ∀ u ∈ T.flatMap encK, u.oneCell' = true := by
  intro u hu
  obtain ⟨p, _, hp⟩ := List.mem_flatMap.1 hu
  simp only [encK, List.mem_cons, List.not_mem_nil, or_false] at hp
  rcases hp with rfl | rfl | rfl | rfl <;> rfl
theorem slice_conns (g o n c : Nat) (hc : n ≤ c) (i : Nat) (hi : i < n) :
    (∀ W, (Instr.slice 63 (.slice (some ⟨g, o, none⟩) n c) none (some (.int .i64 i)) none).run Try.prog W = .ok (.slice (some ⟨g, o, none⟩) i c) W) ∧
    ∃ g1 o1, (∀ W, (Instr.slice 63 (.slice (some ⟨g, o, none⟩) n c) (some (.int .i64 ((i : Int) + 1))) none none).run Try.prog W = .ok (.slice (some ⟨g1, o1, none⟩) (n - (i + 1)) (c - (i + 1))) W) ∧ (i + 1 < n → g1 = g ∧ o1 = o + (i + 1) * 4) := by
  have hu : Try.prog.underlying 63 = some (.slice (Try.prog.elem 63)) := by kernel_rfl
  obtain ⟨i0, hi0, _, hz1, _⟩ := info_parts Try.infoK
  have ht : ((i : Int) + 1).toNat = i + 1 := by omega
  refine ⟨fun W => ?_, ?_⟩
  · rw [run_slice_h W 63 _ _ _ hu _ _ (by omega) (by omega)]
    have h3 : ¬ (c = 0) := by omega
    simp [sliced, sizeOf, hi0, hz1, go_sem, h3, add_any, typeInfo]
  · by_cases h1 : c = i + 1
    · refine ⟨g, o, fun W => ?_, fun h2 => by omega⟩
      rw [run_slice_l W 63 _ _ _ hu _ _ (by omega) (by omega)]
      simp [sliced, sizeOf, hi0, hz1, go_sem, h1, ht, typeInfo]
    · refine ⟨g, o + (i + 1) * 4, fun W => ?_, fun h2 => ⟨rfl, rfl⟩⟩
      rw [run_slice_l W 63 _ _ _ hu _ _ (by omega) (by omega)]
      have h2 : ¬ c - (i + 1) = 0 := by omega
      simp [sliced, sizeOf, hi0, hz1, go_sem, h1, h2, ht, add_any, typeInfo]
theorem ownK_of {base : Nat} {W : World} {v : Value} {xs : List Cn} {n : Nat} {cs : List Value} (h : W.ownsRow base 75 4 v n cs) (hn : n = xs.length) (hc : cs = xs.flatMap encK) : OwnK base W v xs := by
  subst hn; subst hc; exact h
theorem del_conns {base : Nat} {w : World} {A : Option Addr} {c : Nat} {T : List Cn} (h3 : OwnK base w (.slice A T.length c) T) {i : Nat} (hi : i < T.length) (hl : T.length ≤ 1000000) :
    ∃ g g1 o1 A1 c1 A2 c2 W2 W3, A = some ⟨g, 0, none⟩ ∧ T.length ≤ c ∧
      (∀ W, (Instr.slice 63 (.slice (some ⟨g, 0, none⟩) T.length c) none (some (.int .i64 i)) none).run Try.prog W = .ok (.slice (some ⟨g, 0, none⟩) i c) W) ∧
      (∀ W, (Instr.slice 63 (.slice (some ⟨g, 0, none⟩) T.length c) (some (.int .i64 ((i : Int) + 1))) none none).run Try.prog W = .ok (.slice (some ⟨g1, o1, none⟩) (T.length - (i + 1)) (c - (i + 1))) W) ∧
      (Builtin.append_ #[63, 63] 63 #[.slice (some ⟨w.heap.size, 0, none⟩) 0 0, .slice (some ⟨g, 0, none⟩) i c]).run Try.prog (w.drew.alloc (.cells #[] 75)) = .ok (.slice A1 i c1) W2 ∧
      (Builtin.append_ #[63, 63] 63 #[.slice A1 i c1, .slice (some ⟨g1, o1, none⟩) (T.length - (i + 1)) (c - (i + 1))]).run Try.prog W2 = .ok (.slice A2 (T.take i ++ T.drop (i + 1)).length c2) W3 ∧
      OwnK w.heap.size W3 (.slice A2 (T.take i ++ T.drop (i + 1)).length c2) (T.take i ++ T.drop (i + 1)) ∧ Fr (fun _ => False) w W2 ∧ Fr (fun _ => False) w W3 := by
  obtain ⟨i0, hi0, hz0, hz1, hz2⟩ := info_parts Try.infoK
  have h3' := h3
  rcases h3.2 with ⟨_, hn⟩ | ⟨g, cap, cur, hv, hbg, hg, hnc, hcm, hcs, htake⟩
  · omega
  injection hv with q1 q2 q3
  subst q1
  subst q3
  obtain ⟨hs1, g1, o1, hs2, hg1⟩ := slice_conns g 0 T.length c hnc i hi
  obtain ⟨W1, hW1⟩ : ∃ W1, w.drew.alloc (.cells #[] 75) = W1 := ⟨_, rfl⟩
  have f1 : Fr (fun _ => False) w W1 := by rw [← hW1]; exact (Fr.refl _ w).drew.alloc _
  have z1 : W1.heap.size = w.heap.size + 1 := by rw [← hW1]; simp
  have kN : W1.heap[w.heap.size]? = some (.cells #[] 75 (0, 0)) := by rw [← hW1]; exact heap_alloc_new w.drew _
  have hown : W1.ownsRow w.heap.size 75 4 (.slice (some ⟨w.heap.size, 0, none⟩) 0 0) 0 [] := ⟨by simp, .inr ⟨w.heap.size, 0, #[], rfl, Nat.le_refl _, kN, by simp, by decide, by simp, by simp⟩⟩
  have hgl : g < w.heap.size := blk_lt hg
  have hcell : ∀ (W : World), Fr (fun _ => False) w W → ∀ j u, (T.flatMap encK)[j]? = some u → W.cell? ⟨g, 0 + j, none⟩ = some u := fun W hf j u hu => by
    rw [hf.cell (p := ⟨g, 0 + j, none⟩) hgl (fun e => e)]
    have := h3'.cells (g := g) rfl j u hu
    rwa [add_any] at this
  have hsp1 : T.flatMap encK = (T.take i).flatMap encK ++ (T.drop i).flatMap encK := by rw [← List.flatMap_append, List.take_append_drop]
  have hsp2 : T.flatMap encK = (T.take (i + 1)).flatMap encK ++ (T.drop (i + 1)).flatMap encK := by rw [← List.flatMap_append, List.take_append_drop]
  have l1 : ((T.take i).flatMap encK).length = i * 4 := by rw [encK_len, List.length_take]; omega
  have l2 : ((T.take (i + 1)).flatMap encK).length = (i + 1) * 4 := by rw [encK_len, List.length_take]; omega
  have l3 : ((T.drop (i + 1)).flatMap encK).length = (T.length - (i + 1)) * 4 := by rw [encK_len, List.length_drop]
  have src1 : Src Try.prog 4 63 (.slice (some ⟨g, 0, none⟩) i c) i ((T.take i).flatMap encK) W1 :=
    Src.ofSlice W1 Try.underlying63 ⟨g, 0, none⟩ i c _ l1 (fun j u hu => by
      rw [add_any]
      refine hcell W1 f1 j u ?_
      rw [hsp1, List.getElem?_append_left (by have := (List.getElem?_eq_some_iff.1 hu).1; omega)]
      exact hu) (encK_one _)
  obtain ⟨v1, W2, hr1, r1, r2, r3⟩ := run_app_any (P := Try.prog) W1 w.heap.size 63 63 63 75 i0 _ 4 24 Try.underlying63 hi0 hz0 hz1 hz2 rfl _ 0 [] hown _ i _ src1 (by unfold maxLen; omega) (by omega) (by omega)
  obtain ⟨A1, c1, rfl⟩ := row_slice r1
  rw [Nat.zero_add, List.nil_append] at r1
  rw [Nat.zero_add] at hr1 r3
  have f2 : Fr (fun _ => False) w W2 := f1.trans3 r2 fun k hk e => by have : w.heap.size = k := Option.some.inj e; omega
  have src2 : Src Try.prog 4 63 (.slice (some ⟨g1, o1, none⟩) (T.length - (i + 1)) (c - (i + 1))) (T.length - (i + 1)) ((T.drop (i + 1)).flatMap encK) W2 :=
    Src.ofSlice W2 Try.underlying63 ⟨g1, o1, none⟩ _ _ _ l3 (fun j u hu => by
      have hj := (List.getElem?_eq_some_iff.1 hu).1
      obtain ⟨rfl, rfl⟩ := hg1 (by omega)
      rw [add_any]
      have := hcell W2 f2 ((i + 1) * 4 + j) u (by rw [hsp2, List.getElem?_append_right (by omega), l2, Nat.add_sub_cancel_left]; exact hu)
      rwa [← Nat.add_assoc] at this) (encK_one _)
  have hz2' := r2.size
  obtain ⟨v2, W3, hr2, s1, s2, s3⟩ := run_app_any (P := Try.prog) W2 w.heap.size 63 63 63 75 i0 _ 4 24 Try.underlying63 hi0 hz0 hz1 hz2 rfl _ i _ r1 _ (T.length - (i + 1)) _ src2 (by unfold maxLen; omega) (by omega) (by omega)
  obtain ⟨A2, c2, rfl⟩ := row_slice s1
  have hlen : (T.take i ++ T.drop (i + 1)).length = i + (T.length - (i + 1)) := by rw [List.length_append, List.length_take, List.length_drop]; omega
  have hfm : (T.take i ++ T.drop (i + 1)).flatMap encK = (T.take i).flatMap encK ++ (T.drop (i + 1)).flatMap encK := List.flatMap_append
  refine ⟨g, g1, o1, A1, c1, A2, c2, W2, W3, rfl, hnc, hs1, hs2, hW1 ▸ hr1, by rw [hlen]; exact hr2, ?_, f2, ?_⟩
  · rw [hlen]
    exact ownK_of s1 hlen.symm hfm.symm
  · exact f2.trans3 s2 fun k hk e => by
      rcases r3 k e with e2 | e2
      · have : w.heap.size = k := Option.some.inj e2; omega
      · omega
/-- a step of the document's pulse -/
def DocP (base x : Nat) (pg gr rg : Int) (C : List Cn) (w : World) (e : Ending) (w' : World) : Prop := e = .returned (.tuple #[]) ∧ RefC base w' x pg gr rg C ∧ Fr (DocX w x) w w'
set_option maxRecDepth 100000 in
set_option maxHeartbeats 16000000 in
theorem refc_leave {base : Nat} {w : World} {x : Nat} {pg gr rg : Int} {C : List Cn} (h : RefC base w x pg gr rg C) (hb : base ≤ w.heap.size) (hnd : (C.map (·.id)).Nodup) (hl : C.length ≤ 1000000) (id : Int) :
    Calls Try.prog 35 #[.pointer (some ⟨x, 0, none⟩), .int .i64 id] w (DocP base x pg gr rg (leaveC C id) w) := by
  have hat := refc_at h hl id
  have HH := Lib.hid (And.intro h hnd)
  obtain ⟨h0, A, c, h2, h3, h4⟩ := h
  have H3 := Lib.hid (And.intro h2 (And.intro h3 h4))
  clear h2 h3 h4
  go_enter Try.func35, Try.ntmps35
  go_wp2_with fail
  refine hat.mono ?_
  rintro e w' ⟨⟨n, rfl, hix⟩, rfl⟩
  rcases hix with ⟨rfl, hl1⟩ | ⟨i, hi, rfl, hk⟩
  · have HL := Lib.hid hl1
    clear hl1
    go_wp2_with fail
    go_end0
    exact ⟨rfl, by rw [leaveC_none HL.out]; exact HH.out.1, Fr.refl _ _⟩
  · obtain ⟨h2, h3, h4⟩ := H3.out
    have HL := Lib.hid hk
    obtain ⟨g, g1, o1, A1, c1, A2, c2, W2, W3, rfl, hnc, hs1, hs2, hr1, hr2, ho, f2, f3⟩ := del_conns h3 hi hl
    have k1 := blk_alloc (blk_drew h2) (.cells #[] 75)
    have d0 : w'.drew.cell? ⟨x, 3, none⟩ = some (.slice (some ⟨g, 0, none⟩) C.length c) := blk_cell (blk_drew h2) 3
    have d1 := blk_cell k1 3
    have k2 := f2.blk h2 fun e => e
    have d2 := blk_cell k2 3
    have k3 := f3.blk h2 fun e => e
    have d3 := blk_cell k3 3
    have g3 := blk_free k3 3
    have hp1 : ¬ ((i : Int) < 0) := by omega
    have HK := Lib.hid (And.intro k3 (And.intro ho f3))
    have hlt : IntKind.i64.wrap ((i : Int) + 1) = (i : Int) + 1 := IntWalk.i64_in _ ⟨by omega, by omega⟩
    have e1 : (Sem.run Try.prog (Builtin.append_ #[63, 63] 63 #[.slice (some ⟨w'.heap.size, 0, none⟩) 0 0, .slice (some ⟨g, 0, none⟩) i c]) (w'.alloc (.cells #[] 75)).drew).andThen (fun a w' => Result.ok (Next.value a) w') = .ok (.value (.slice A1 i c1)) W2 := by
      have e0 : (w'.alloc (.cells #[] 75)).drew = w'.drew.alloc (.cells #[] 75) := rfl
      rw [e0, hr1]; rfl
    have e2 : (Sem.run Try.prog (Builtin.append_ #[63, 63] 63 #[.slice A1 i c1, .slice (some ⟨g1, o1, none⟩) (C.length - (i + 1)) (c - (i + 1))]) W2).andThen (fun a w' => Result.ok (Next.value a) w') = .ok (.value (.slice A2 (C.take i ++ C.drop (i + 1)).length c2)) W3 := by rw [hr2]; rfl
    obtain ⟨W1, hW1⟩ : ∃ W1, (w'.alloc (.cells #[] 75)).drew = W1 := ⟨_, rfl⟩
    have hr1 : (Builtin.append_ #[63, 63] 63 #[.slice (some ⟨w'.heap.size, 0, none⟩) 0 0, .slice (some ⟨g, 0, none⟩) i c]).run Try.prog W1 = .ok (.slice A1 i c1) W2 := by rw [← hW1]; exact hr1
    have d1 : W1.cell? ⟨x, 3, none⟩ = some (.slice (some ⟨g, 0, none⟩) C.length c) := by rw [← hW1]; exact d1
    have d2 : W2.cell? ⟨x, 3, none⟩ = some (.slice (some ⟨g, 0, none⟩) C.length c) := d2
    have d3 : W3.cell? ⟨x, 3, none⟩ = some (.slice (some ⟨g, 0, none⟩) C.length c) := d3
    have HW := Lib.hid hW1
    clear hW1
    obtain ⟨m, hm⟩ : ∃ m, C.length - (i + 1) = m := ⟨_, rfl⟩
    obtain ⟨m2, hm2⟩ : ∃ m2, c - (i + 1) = m2 := ⟨_, rfl⟩
    obtain ⟨m3, hm3⟩ : ∃ m3, (C.take i ++ C.drop (i + 1)).length = m3 := ⟨_, rfl⟩
    rw [hm, hm2] at hs2 e2 hr2
    rw [hm3] at e2 hr2
    have HM := Lib.hid (And.intro hm (And.intro hm2 hm3))
    clear hm hm2 hm3 k1 k2 k3 ho f2 f3 h2 h3 h4 hk
    go_wp2_with fail
    clear e1 e2 hat
    refine wp_region_z (S := fun V => V.cell? ⟨x, 3, none⟩ = some (.slice (some ⟨g, 0, none⟩) C.length c)) (z := 19) (by kernel_rfl) (by exact d0) (fun hHeld => ?_)
    refine wpAnyZ_read (i := 0) (oi := { dst := some 10, op := Go.Op.move (Go.Operand.tmp 0), type := 62, pos := "ref.go:29", after := #[], guard := none }) ?_ rfl (by kernel_rfl) (by kernel_rfl) (by kernel_rfl) (by kernel_rfl) (fun _ _ _ h => h) (by rfl) (by assumption) ?_ ?_
    rotate_left
    · (intro w0 hS0; go_simp <;> (try with_reducible rfl))
    try simp only [Act.put, List.setIfInBounds_toArray, List.set_cons_zero, List.set_cons_succ]
    refine wpAnyZ_read (i := 2) (oi := { dst := some 12, op := Go.Op.move (Go.Operand.tmp 0), type := 62, pos := "ref.go:29", after := #[], guard := none }) ?_ rfl (by kernel_rfl) (by kernel_rfl) (by kernel_rfl) (by kernel_rfl) (fun _ _ _ h => h) (by rfl) (by assumption) ?_ ?_
    rotate_left
    · (intro w0 hS0; go_simp <;> (try with_reducible rfl))
    try simp only [Act.put, List.setIfInBounds_toArray, List.set_cons_zero, List.set_cons_succ]
    refine wpAnyZ_read (i := 3) (oi := { dst := some 13, op := Go.Op.nilCheck (Go.Operand.tmp 12), type := 0, pos := "ref.go:29", after := #[{ on := 2, ground := Go.Ground.data }], guard := none }) ?_ rfl (by kernel_rfl) (by kernel_rfl) (by kernel_rfl) (by kernel_rfl) (fun _ _ _ h => h) (by rfl) (by assumption) ?_ ?_
    rotate_left
    · (intro w0 hS0; go_simp <;> (try with_reducible rfl))
    try simp only [Act.put, List.setIfInBounds_toArray, List.set_cons_zero, List.set_cons_succ]
    refine wpAnyZ_read (i := 4) (oi := { dst := some 14, op := Go.Op.fieldAddr 65 (Go.Operand.tmp 13) 3, type := 0, pos := "ref.go:29", after := #[{ on := 3, ground := Go.Ground.data }], guard := none }) ?_ rfl (by kernel_rfl) (by kernel_rfl) (by kernel_rfl) (by kernel_rfl) (fun _ _ _ h => h) (by rfl) (by assumption) ?_ ?_
    rotate_left
    · (intro w0 hS0; go_simp <;> (try with_reducible rfl))
    try simp only [Act.put, List.setIfInBounds_toArray, List.set_cons_zero, List.set_cons_succ]
    refine wpAnyZ_read (i := 6) (oi := { dst := some 16, op := Go.Op.move (Go.Operand.tmp 4), type := 3, pos := "ref.go:29", after := #[], guard := none }) ?_ rfl (by kernel_rfl) (by kernel_rfl) (by kernel_rfl) (by kernel_rfl) (fun _ _ _ h => h) (by rfl) (by assumption) ?_ ?_
    rotate_left
    · (intro w0 hS0; go_simp <;> (try with_reducible rfl))
    try simp only [Act.put, List.setIfInBounds_toArray, List.set_cons_zero, List.set_cons_succ]
    refine wpAnyZ_read (i := 9) (oi := { dst := some 19, op := Go.Op.move (Go.Operand.tmp 0), type := 62, pos := "ref.go:29", after := #[], guard := none }) ?_ rfl (by kernel_rfl) (by kernel_rfl) (by kernel_rfl) (by kernel_rfl) (fun _ _ _ h => h) (by rfl) (by assumption) ?_ ?_
    rotate_left
    · (intro w0 hS0; go_simp <;> (try with_reducible rfl))
    try simp only [Act.put, List.setIfInBounds_toArray, List.set_cons_zero, List.set_cons_succ]
    refine wpAnyZ_read (i := 10) (oi := { dst := some 20, op := Go.Op.nilCheck (Go.Operand.tmp 19), type := 0, pos := "ref.go:29", after := #[{ on := 9, ground := Go.Ground.data }], guard := none }) ?_ rfl (by kernel_rfl) (by kernel_rfl) (by kernel_rfl) (by kernel_rfl) (fun _ _ _ h => h) (by rfl) (by assumption) ?_ ?_
    rotate_left
    · (intro w0 hS0; go_simp <;> (try with_reducible rfl))
    try simp only [Act.put, List.setIfInBounds_toArray, List.set_cons_zero, List.set_cons_succ]
    refine wpAnyZ_read (i := 11) (oi := { dst := some 21, op := Go.Op.fieldAddr 65 (Go.Operand.tmp 20) 3, type := 0, pos := "ref.go:29", after := #[{ on := 10, ground := Go.Ground.data }], guard := none }) ?_ rfl (by kernel_rfl) (by kernel_rfl) (by kernel_rfl) (by kernel_rfl) (fun _ _ _ h => h) (by rfl) (by assumption) ?_ ?_
    rotate_left
    · (intro w0 hS0; go_simp <;> (try with_reducible rfl))
    try simp only [Act.put, List.setIfInBounds_toArray, List.set_cons_zero, List.set_cons_succ]
    refine wpAnyZ_read (i := 13) (oi := { dst := some 23, op := Go.Op.move (Go.Operand.tmp 4), type := 3, pos := "ref.go:29", after := #[], guard := none }) ?_ rfl (by kernel_rfl) (by kernel_rfl) (by kernel_rfl) (by kernel_rfl) (fun _ _ _ h => h) (by rfl) (by assumption) ?_ ?_
    rotate_left
    · (intro w0 hS0; go_simp <;> (try with_reducible rfl))
    try simp only [Act.put, List.setIfInBounds_toArray, List.set_cons_zero, List.set_cons_succ]
    refine wpAnyZ_read (i := 14) (oi := { dst := some 24, op := Go.Op.binOp Go.BinOp.add 3 (Go.Operand.tmp 23) (Go.Operand.const (Go.Value.int Go.IntKind.i64 1)) 3, type := 3, pos := "ref.go:29", after := #[{ on := 13, ground := Go.Ground.data }], guard := none }) ?_ rfl (by kernel_rfl) (by kernel_rfl) (by kernel_rfl) (by kernel_rfl) (fun _ _ _ h => h) (by rfl) (by assumption) ?_ ?_
    rotate_left
    · (intro w0 hS0; go_simp <;> (try with_reducible rfl))
    try simp only [Act.put, List.setIfInBounds_toArray, List.set_cons_zero, List.set_cons_succ]
    refine wpAnyZ_read (i := 5) (oi := { dst := some 15, op := Go.Op.load 63 (Go.Operand.tmp 14), type := 63, pos := "ref.go:29", after := #[{ on := 4, ground := Go.Ground.data }], guard := none }) ?_ rfl (by kernel_rfl) (by kernel_rfl) (by kernel_rfl) (by kernel_rfl) (fun _ _ _ h => h) (by rfl) (by assumption) ?_ ?_
    rotate_left
    · (intro w0 hS0; go_simp <;> (try with_reducible rfl))
    try simp only [Act.put, List.setIfInBounds_toArray, List.set_cons_zero, List.set_cons_succ]
    refine wpAnyZ_read (i := 7) (oi := { dst := some 17, op := Go.Op.slice 63 (Go.Operand.tmp 15) none (some (Go.Operand.tmp 16)) none, type := 63, pos := "ref.go:29", after := #[{ on := 5, ground := Go.Ground.data }, { on := 6, ground := Go.Ground.data }], guard := none }) ?_ rfl (by kernel_rfl) (by kernel_rfl) (by kernel_rfl) (by kernel_rfl) (fun _ _ _ h => h) (by rfl) (by assumption) ?_ ?_
    rotate_left
    · (intro w0 hS0; go_simp <;> (try with_reducible rfl))
    try simp only [Act.put, List.setIfInBounds_toArray, List.set_cons_zero, List.set_cons_succ]
    refine wpAnyZ_read (i := 12) (oi := { dst := some 22, op := Go.Op.load 63 (Go.Operand.tmp 21), type := 63, pos := "ref.go:29", after := #[{ on := 11, ground := Go.Ground.data }], guard := none }) ?_ rfl (by kernel_rfl) (by kernel_rfl) (by kernel_rfl) (by kernel_rfl) (fun _ _ _ h => h) (by rfl) (by assumption) ?_ ?_
    rotate_left
    · (intro w0 hS0; go_simp <;> (try with_reducible rfl))
    try simp only [Act.put, List.setIfInBounds_toArray, List.set_cons_zero, List.set_cons_succ]
    refine wpAnyZ_read (i := 15) (oi := { dst := some 25, op := Go.Op.slice 63 (Go.Operand.tmp 22) (some (Go.Operand.tmp 24)) none none, type := 63, pos := "ref.go:29", after := #[{ on := 12, ground := Go.Ground.data }, { on := 14, ground := Go.Ground.data }], guard := none }) ?_ rfl (by kernel_rfl) (by kernel_rfl) (by kernel_rfl) (by kernel_rfl) (fun _ _ _ h => h) (by rfl) (by assumption) ?_ ?_
    rotate_left
    · (intro w0 hS0; go_simp <;> (try with_reducible rfl))
    try simp only [Act.put, List.setIfInBounds_toArray, List.set_cons_zero, List.set_cons_succ]
    refine wpAnyZ_one (i := 1) (o := { dst := some 11, op := Go.Op.buildSlice 63 0 #[], type := 63, pos := "ref.go:29", after := #[], guard := none }) (by kernel_rfl) rfl (by rfl) (fun K hK => ?_)
    go_simp
    rw [HW.out]
    refine hK.out _ _ ?_ (fun hHeld => ?_)
    · exact d1
    clear hK K
    try simp only [Act.put, List.setIfInBounds_toArray, List.set_cons_zero, List.set_cons_succ]
    refine wpAnyZ_one (i := 8) (o := { dst := some 18, op := Go.Op.call { callee := Go.Callee.builtin Go.Builtin.append, args := #[Go.Operand.tmp 11, Go.Operand.tmp 17], argTypes := #[63, 63] }, type := 63, pos := "ref.go:29", after := #[{ on := 1, ground := Go.Ground.data }, { on := 7, ground := Go.Ground.data }], guard := none }) (by kernel_rfl) rfl (by rfl) (fun K hK => ?_)
    refine wp_app_run _ _ _ _ rfl hr1 ?_
    refine hK.out _ _ ?_ (fun hHeld => ?_)
    · exact d2
    clear hK K
    try simp only [Act.put, List.setIfInBounds_toArray, List.set_cons_zero, List.set_cons_succ]
    refine wpAnyZ_one (i := 16) (o := { dst := some 26, op := Go.Op.call { callee := Go.Callee.builtin Go.Builtin.append, args := #[Go.Operand.tmp 18, Go.Operand.tmp 25], argTypes := #[63, 63] }, type := 63, pos := "ref.go:29", after := #[{ on := 8, ground := Go.Ground.data }, { on := 15, ground := Go.Ground.data }, { on := 8, ground := Go.Ground.chain }], guard := none }) (by kernel_rfl) rfl (by rfl) (fun K hK => ?_)
    refine wp_app_run _ _ _ _ rfl hr2 ?_
    refine hK.out _ _ ?_ (fun hHeld => ?_)
    · exact d3
    clear hK K
    try simp only [Act.put, List.setIfInBounds_toArray, List.set_cons_zero, List.set_cons_succ]
    refine wpAnyZ_one (i := 17) (o := { dst := some 27, op := Go.Op.nilCheck (Go.Operand.tmp 10), type := 0, pos := "ref.go:29", after := #[{ on := 0, ground := Go.Ground.data }, { on := 0, ground := Go.Ground.phase }, { on := 1, ground := Go.Ground.phase }, { on := 2, ground := Go.Ground.phase }, { on := 3, ground := Go.Ground.phase }, { on := 4, ground := Go.Ground.phase }, { on := 5, ground := Go.Ground.phase }, { on := 6, ground := Go.Ground.phase }, { on := 7, ground := Go.Ground.phase }, { on := 8, ground := Go.Ground.phase }, { on := 9, ground := Go.Ground.phase }, { on := 10, ground := Go.Ground.phase }, { on := 11, ground := Go.Ground.phase }, { on := 12, ground := Go.Ground.phase }, { on := 13, ground := Go.Ground.phase }, { on := 14, ground := Go.Ground.phase }, { on := 15, ground := Go.Ground.phase }, { on := 16, ground := Go.Ground.phase }], guard := none }) (by kernel_rfl) rfl (by rfl) (fun K hK => ?_)
    go_simp
    refine hK.out _ _ ?_ (fun hHeld => ?_)
    · (first | assumption | trivial)
    clear hK K
    try simp only [Act.put, List.setIfInBounds_toArray, List.set_cons_zero, List.set_cons_succ]
    refine wpAnyZ_read (i := 18) (oi := { dst := some 28, op := Go.Op.fieldAddr 65 (Go.Operand.tmp 27) 3, type := 0, pos := "ref.go:29", after := #[{ on := 17, ground := Go.Ground.data }, { on := 0, ground := Go.Ground.phase }, { on := 1, ground := Go.Ground.phase }, { on := 2, ground := Go.Ground.phase }, { on := 3, ground := Go.Ground.phase }, { on := 4, ground := Go.Ground.phase }, { on := 5, ground := Go.Ground.phase }, { on := 6, ground := Go.Ground.phase }, { on := 7, ground := Go.Ground.phase }, { on := 8, ground := Go.Ground.phase }, { on := 9, ground := Go.Ground.phase }, { on := 10, ground := Go.Ground.phase }, { on := 11, ground := Go.Ground.phase }, { on := 12, ground := Go.Ground.phase }, { on := 13, ground := Go.Ground.phase }, { on := 14, ground := Go.Ground.phase }, { on := 15, ground := Go.Ground.phase }, { on := 16, ground := Go.Ground.phase }], guard := none }) ?_ rfl (by kernel_rfl) (by kernel_rfl) (by kernel_rfl) (by kernel_rfl) (fun _ _ _ h => h) (by rfl) (by assumption) ?_ ?_
    rotate_left
    · (intro w0 hS0; go_simp <;> (try with_reducible rfl))
    try simp only [Act.put, List.setIfInBounds_toArray, List.set_cons_zero, List.set_cons_succ]
    refine wpAnyZ_last (o := { dst := none, op := Go.Op.store 63 (Go.Operand.tmp 28) (Go.Operand.tmp 26), type := 0, pos := "ref.go:29", after := #[{ on := 18, ground := Go.Ground.data }, { on := 16, ground := Go.Ground.data }, { on := 16, ground := Go.Ground.chain }, { on := 0, ground := Go.Ground.phase }, { on := 1, ground := Go.Ground.phase }, { on := 2, ground := Go.Ground.phase }, { on := 3, ground := Go.Ground.phase }, { on := 4, ground := Go.Ground.phase }, { on := 5, ground := Go.Ground.phase }, { on := 6, ground := Go.Ground.phase }, { on := 7, ground := Go.Ground.phase }, { on := 8, ground := Go.Ground.phase }, { on := 9, ground := Go.Ground.phase }, { on := 10, ground := Go.Ground.phase }, { on := 11, ground := Go.Ground.phase }, { on := 12, ground := Go.Ground.phase }, { on := 13, ground := Go.Ground.phase }, { on := 14, ground := Go.Ground.phase }, { on := 15, ground := Go.Ground.phase }, { on := 16, ground := Go.Ground.phase }], guard := none }) (by kernel_rfl) rfl (by rfl) (fun K hK => ?_)
    go_simp
    refine hK.out _ _ ?_
    clear hK K
    try simp only [Act.put, List.setIfInBounds_toArray, List.set_cons_zero, List.set_cons_succ]
    refine wpAnyZ_done (by kernel_rfl) ?_ _
    go_wp2_with fail
    go_end0
    obtain ⟨k3, ho, f3⟩ := HK.out
    have hxl := blk_lt H3.out.1
    obtain ⟨hm, hm2, hm3⟩ := HM.out
    have hne : ∀ j, (Value.slice A2 m3 c2).ownBlock = some j → j ≠ x := fun j hj e => by
      rw [← hm3] at hj
      have := (ho.lt j hj).1
      omega
    refine ⟨rfl, ?_, Fr.setCell (X := DocX w' x) (f3.mono fun _ _ e => e.elim) ⟨x, 3, none⟩ (.inl rfl) _⟩
    rw [← HL.out, leaveC_at HH.out.2 hi]
    refine ⟨h0, A2, c2, ?_, ?_, ?_⟩
    · rw [hm3]
      exact (blk_set k3 3 _).trans rfl
    · rw [hm3]
      exact ownK_base (ownK_kept (by rw [hm3] at ho; exact ho) fun j hj => heap_setCell_other W3 _ j _ fun e => hne j hj (by simpa using e)) hb
    · rw [hm3]
      exact fun e => hne x e rfl
theorem srcK {w : World} {base : Nat} {A : Option Addr} {c : Nat} {xs : List Cn} (h : OwnK base w (.slice A xs.length c) xs) : Src Try.prog 4 63 (.slice A xs.length c) xs.length (xs.flatMap encK) w := by
  rcases h.2 with ⟨h1, h2⟩ | ⟨g, cap, cur, h1, h3, h4, h5, _, h6, h7⟩
  · have h3 : xs = [] := List.length_eq_zero_iff.1 h2
    subst h3
    injection h1 with q1 q2 q3
    subst q1
    exact Src.ofNil w Try.underlying63 c
  · injection h1 with q1 q2 q3
    subst q1
    exact Src.ofSlice w Try.underlying63 ⟨g, 0, none⟩ xs.length c (xs.flatMap encK) (encK_len xs) (fun j u hu => h.cells (g := g) rfl j u hu) (encK_one xs)
set_option maxRecDepth 100000 in
set_option maxHeartbeats 16000000 in
theorem refc_join {base : Nat} {w : World} {x : Nat} {pg gr rg : Int} {C : List Cn} (h : RefC base w x pg gr rg C) (hb : base ≤ w.heap.size) (hnd : (C.map (·.id)).Nodup) (hl : C.length ≤ 1000000) (id now : Int) :
    Calls Try.prog 39 #[.pointer (some ⟨x, 0, none⟩), .int .i64 id, .int .i64 now] w (DocP base x pg gr rg (joinC C id now) w) := by
  obtain ⟨i0, hi0, hz0, hz1, hz2⟩ := info_parts Try.infoK
  have hst := refc_leave h hb hnd hl id
  have hxl : x < w.heap.size := by obtain ⟨_, _, _, h2, _⟩ := h; exact blk_lt h2
  clear h hnd
  go_enter Try.func39, Try.ntmps39
  go_wp2_with fail
  refine hst.mono ?_
  rintro e w1 ⟨rfl, h1, f1⟩
  have hDl : (leaveC C id).length ≤ 1000000 := Nat.le_trans (List.length_filter_le _ _) hl
  have hset : joinC C id now = leaveC C id ++ [⟨id, now, false, false⟩] := rfl
  obtain ⟨D, hD⟩ : ∃ D, leaveC C id = D := ⟨_, rfl⟩
  rw [hD] at h1 hDl hset
  have hz1' := f1.size
  have HS := Lib.hid (And.intro hset f1)
  clear hset hD hst f1
  obtain ⟨h0, A, c, h2, h3, h4⟩ := h1
  have kN := heap_alloc_new w1 (.cells #[] 75)
  have kx := blk_alloc h2 (.cells #[] 75)
  have d1 := blk_cell kx 3
  have hxw1 : x < w1.heap.size := blk_lt h2
  have H3 := Lib.hid (And.intro h3 h4)
  clear h2 h3 h4
  go_wp2_with (at_builtin; refine Hid.out ?_)
  refine Lib.hid ?_
  obtain ⟨W2, hW2⟩ : ∃ W2, w1.alloc (.cells #[] 75) = W2 := ⟨_, rfl⟩
  have f2 : Fr (fun _ => False) w1 W2 := by rw [← hW2]; exact (Fr.refl _ _).alloc _
  have z2 : W2.heap.size = w1.heap.size + 1 := by rw [← hW2]; simp
  obtain ⟨h3, h4⟩ := H3.out
  have o2 : OwnK base W2 (.slice A D.length c) D := ownK_kept h3 fun g hg => f2.block g (h3.lt g hg).2 fun e => e
  rw [hW2] at kN kx ⊢
  have hown : W2.ownsRow w1.heap.size 75 4 (.slice (some ⟨w1.heap.size, 0, none⟩) 0 0) 0 [] := ⟨by simp, .inr ⟨w1.heap.size, 0, #[], rfl, Nat.le_refl _, kN, by simp, by decide, by simp, by simp⟩⟩
  refine wpList_app_u rfl _ _ 63 63 rfl w1.heap.size 75 i0 _ 4 24 Try.underlying63 hi0 hz0 hz1 hz2 rfl _ 0 [] rfl hown (.slice A D.length c) D.length (D.flatMap encK) rfl (srcK o2) (by omega) (by decide) (by omega) ?_
  intro v3 W3 o3 f3 t3
  obtain ⟨A3, c3, ev3⟩ := row_slice o3
  subst ev3
  rw [Nat.zero_add, List.nil_append] at o3
  rw [Nat.zero_add] at t3 ⊢
  have k3 := f3.blk kx (fun e => by have : w1.heap.size = x := Option.some.inj e; omega)
  have hz3 := f3.size
  have t3' : ∀ j, (Value.slice A3 D.length c3).ownBlock = some j → w1.heap.size ≤ j := fun j hj => by
    rcases t3 j hj with e | e
    · have : w1.heap.size = j := Option.some.inj e; omega
    · omega
  have H3 := Lib.hid (And.intro o3 (And.intro f2 (And.intro f3 t3')))
  clear hW2 o2 hown f3 t3 t3' d1 kN kx h3 h4 o3 f2
  go_wp2_with (at_builtin; refine Hid.out ?_)
  refine Lib.hid ?_
  refine wpList_one_t rfl _ _ 63 rfl w1.heap.size 75 i0 _ 4 24 Try.underlying63 hi0 hz0 hz1 hz2 rfl (by decide) _ D.length (D.flatMap encK) rfl H3.out.1 #[.int .i64 id, .int .i64 now, .bool false, .bool false] W3.heap.size rfl rfl rfl (by intro u hu; simp at hu; rcases hu with rfl | rfl | rfl | rfl <;> rfl) (by omega) (by decide) (by omega) ?_
  intro v4 W4 o4 f4 t4
  obtain ⟨A4, c4, ev4⟩ := row_slice o4
  subst ev4
  obtain ⟨o3, f2, f3, t3'⟩ := H3.out
  have hlen : (D ++ [(⟨id, now, false, false⟩ : Cn)]).length = D.length + 1 := by simp
  have o4' : OwnK w1.heap.size W4 (.slice A4 (D.length + 1) c4) (D ++ [(⟨id, now, false, false⟩ : Cn)]) := ownK_of o4 hlen.symm (by rw [List.flatMap_append]; simp [encK])
  have k4 := f4.blk k3 (fun e => by have := t3' x e; omega)
  have h4x : ∀ j, (Value.slice A4 (D.length + 1) c4).ownBlock = some j → w1.heap.size ≤ j := fun j hj => (o4'.lt j hj).1
  have fall : Fr (fun j => j = x) w1 W4 := ((f2.mono (Y := fun j => j = x) fun _ _ e => e.elim).trans3 f3 fun j hj e => by have : w1.heap.size = j := Option.some.inj e; omega).trans3 f4 fun j hj e => by have := t3' j e; omega
  have d4 := blk_cell k4 3
  have g4 := blk_free k4 3
  have H4 := Lib.hid (And.intro o4' (And.intro k4 (And.intro h4x fall)))
  clear o4 o4' t4 f4 o3 f2 f3 t3' h4x fall k4 k3 H3
  go_wp2_with fail
  go_end0
  obtain ⟨o4', k4, h4x, fall⟩ := H4.out
  obtain ⟨hset, f1⟩ := HS.out
  have hne : ∀ j, (Value.slice A4 (D.length + 1) c4).ownBlock = some j → j ≠ x := fun j hj e => by have := h4x j hj; omega
  refine ⟨rfl, ?_, Fr.setCell (X := DocX w x) (f1.trans3 fall fun _ _ e => .inl e) ⟨x, 3, none⟩ (.inl rfl) _⟩
  rw [hset]
  refine ⟨h0, A4, c4, ?_, ?_, ?_⟩
  · rw [hlen]
    exact (blk_set k4 3 _).trans rfl
  · rw [hlen]
    exact ownK_base (ownK_kept o4' fun j hj => heap_setCell_other W4 _ j _ fun e => hne j hj (by simpa using e)) (by omega)
  · rw [hlen]
    exact fun e => hne x e rfl
end Go.Proofs.Ytbgmjieagnmpkaa
