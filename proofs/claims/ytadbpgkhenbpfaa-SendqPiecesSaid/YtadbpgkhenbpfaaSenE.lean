/- Layer 8: the lines that wait whole. -/
import Derived.Test.YtadbpgkhenbpfaaSenD
namespace Go.Proofs.Ytadbpgkhenbpfaa
set_option linter.unusedVariables false
set_option linter.unusedSimpArgs false
open Go Go.RowKit Go.Lib Go.Sort Go.Shelf
attribute [local go_sem] Oper.semAt_some

/-- a line without what ends it -/
def trimQ (x : List UInt8) : List UInt8 := Lib.trimSuffix x [13, 10]
/-- the lines that wait whole -/
def wholeQ (s : QS) : List (List UInt8) := ((linesL s.ws).drop (if s.parted then 1 else 0)).map trimQ
def LinesP (zs : List (List UInt8)) (w : World) (e : Ending) (w' : World) : Prop := (∃ F, e = .returned F ∧ TaleT w.heap.size w' F zs) ∧ RowKit.Below w.heap.size w w'
theorem q_lines_nil (w : World) : Calls Try.prog 20 #[.pointer none] w (LinesP [] w) := by
  go_enter Try.func20, Try.ntmps20
  go_wp2_with fail
  refine (values_callsT none 0 0 _).mono ?_
  intro e w1 h
  obtain ⟨F, rfl, h1, h2⟩ := tale_ofT (base := w.heap.size) (by simp) (ownT_nil _ _) h
  have hb : RowKit.Below w.heap.size w w1 := ((Below.refl _ w).alloc (Nat.le_refl _) _).trans (h2.mono (by simp))
  have H := Lib.hid (And.intro h1 hb)
  clear h h1 h2 hb
  go_wp2_with fail
  go_ret
  exact ⟨⟨F, rfl, H.out.1⟩, H.out.2⟩
theorem str_lines (s : ByteArray) (w : World) : Calls Try.prog 25 #[.string s] w fun e w' => e = .returned (.func (.func 30) #[] #[.pointer (some ⟨w.heap.size, 0, none⟩)]) ∧ w' = w.alloc (.cells #[.string s] 9) := by
  go_enter Try.func25, Try.ntmps25
  go_wp2_with fail
  go_ret
  exact ⟨rfl, rfl⟩
theorem trim_any (x : List UInt8) (hx : x.length ≤ 1000000) (w : World) : Calls Try.prog 26 #[.string (bs x), .string ⟨#[13, 10]⟩] w fun e w' => e = .returned (.string (bs (trimQ x))) ∧ w' = w :=
  Try.strings_TrimSuffix (bs x) ⟨#[13, 10]⟩ w (by rw [bs_size]; omega)
theorem lines_size : ∀ (l cur : List UInt8), ∀ x ∈ linesAux cur l, x.length ≤ cur.length + l.length
  | [], cur, x, hx => by
    unfold linesAux at hx
    split at hx
    · cases hx
    · rw [List.mem_singleton] at hx; subst hx; exact Nat.le_add_right _ _
  | b :: r, cur, x, hx => by
    unfold linesAux at hx
    split at hx
    · rcases List.mem_cons.1 hx with rfl | hx
      · first | (simp; done) | (simp; omega)
      · have := lines_size r [] x hx; simp at this ⊢; omega
    · have := lines_size r _ x hx; simp at this ⊢; omega
theorem lines_count : ∀ (l cur : List UInt8), (linesAux cur l).length ≤ l.length + 1
  | [], cur => by unfold linesAux; split <;> simp
  | b :: r, cur => by
    unfold linesAux
    split
    · have := lines_count r []; simp; omega
    · have := lines_count r (cur ++ [b]); simp; omega
theorem tale_markT {base D : Nat} {w w' : World} {F : Value} {xs : List (List UInt8)} {ds : List Deferred} (h : TaleT base w F xs) (hd : w.heap[D]? = some (.deferred (some ds))) (hf : Fr (fun k => k = D) w w') : TaleT base w' F xs := by
  obtain ⟨B, v, h1, h2, h3, h4, h5⟩ := h
  refine ⟨B, v, h1, h2, hf.blk h3 (fun e => by subst e; rw [h3] at hd; cases hd), h4, ownT_kept h5 fun g hg => hf.block g (h5.lt g hg).2 fun e => ?_⟩
  obtain ⟨o, a, b⟩ := own_cells h5 g hg
  subst e
  rw [hd] at a; cases a; cases b
/-- one text more, as the run of append -/
theorem app_text {W0 W : World} {base : Nat} {v : Value} {ys : List (List UInt8)} {N : Nat} {y : List UInt8} (ho : OwnT base W0 v ys) (hb : base ≤ W0.heap.size) (hl : ys.length ≤ 2000000)
    (hf : Fr (fun _ => False) W0 W) (hc : W.cell? ⟨N, 0, none⟩ = some (.string (bs y))) :
    ∃ A c W', (Builtin.append_ #[31, 31] 31 #[v, .slice (some ⟨N, 0, none⟩) 1 1]).run Try.prog W = .ok (.slice A (ys.length + 1) c) W' ∧ OwnT base W' (.slice A (ys.length + 1) c) (ys ++ [y]) ∧ Fr (fun k => v.ownBlock = some k) W0 W' ∧ ∀ k, (Value.slice A (ys.length + 1) c).ownBlock = some k → v.ownBlock = some k ∨ W0.heap.size ≤ k := by
  obtain ⟨i0, hi, hz0, hz1, hz2⟩ := info_parts Try.infoT
  have ho' : OwnT base W v ys := ownT_kept ho fun g hg => hf.block g (ho.lt g hg).2 fun e => e
  have hs := hf.size
  obtain ⟨v', w', hr, r1, r2, r3⟩ := run_app_any (P := Try.prog) W base 31 31 31 9 i0 _ 1 16 Try.underlying31 hi hz0 hz1 hz2 rfl v ys.length (ys.map encT) ho' (.slice (some ⟨N, 0, none⟩) 1 1) 1 [encT y]
    (Src.ofSlice W Try.underlying31 ⟨N, 0, none⟩ 1 1 [encT y] rfl (fun j u hu => by
      match j, hu with
      | 0, hu => simp at hu; subst hu; rw [add_at]; exact hc) (by intro u hu; simp at hu; subst hu; rfl)) (by unfold maxLen; omega) (by omega) (by omega)
  obtain ⟨A, c, rfl⟩ := row_slice r1
  exact ⟨A, c, w', hr, ownT_snoc r1, (hf.mono (Y := fun k => v.ownBlock = some k) fun _ _ e => e.elim).trans3 r2 fun _ _ e => e, fun k hk => (r3 k hk).imp id fun e => by omega⟩
/-- what the loop over the lines has come to -/
def WhG (S Pb : Nat) (parted : Bool) (pre : List (List UInt8)) (X : Nat → Prop) (W : World) : Prop :=
  ∃ v, W.heap[S]? = some (.cells #[v] 31 (0, 0)) ∧ W.heap[Pb]? = some (.cells #[.bool (parted && pre.isEmpty)] 4 (0, 0)) ∧ OwnT (Pb + 1) W v ((pre.drop (if parted then 1 else 0)).map trimQ) ∧ S < Pb ∧ ∀ k, X k ↔ (k = S ∨ k = Pb ∨ v.ownBlock = some k)
theorem whG_stays (S Pb : Nat) (parted : Bool) : Stays (WhG S Pb parted) := fun pre X V V' ⟨v, h1, h2, h3, h4, h5⟩ hl hf =>
  ⟨v, hf.blk h1 (fun e => e ((h5 S).2 (.inl rfl))), hf.blk h2 (fun e => e ((h5 Pb).2 (.inr (.inl rfl)))), ownT_kept h3 fun g hg => hf.block g (h3.lt g hg).2 fun e => e ((h5 g).2 (.inr (.inr hg))), h4, h5⟩
set_option maxRecDepth 100000 in
set_option maxHeartbeats 8000000 in
theorem q_lines {base : Nat} {w : World} {q : Nat} {ob : Option Nat} {s : QS} (h : QAt base w q ob s) (hl : s.ws.length ≤ 1000000) :
    Calls Try.prog 20 #[.pointer (some ⟨q, 0, none⟩)] w (LinesP (wholeQ s) w) := by
  obtain ⟨i0, hi, hz0, hz1, hz2⟩ := info_parts Try.infoT
  obtain ⟨most, ws, sent, parted, over⟩ := s
  obtain ⟨v, h1, ho, h3, h4⟩ := h
  obtain ⟨A, c, rfl⟩ := row_slice h3
  dsimp only at hl h1 h3
  obtain ⟨W2, hW2⟩ : ∃ W2, (w.alloc (.cells #[.slice none 0 0] 31)).alloc (.cells #[.bool parted] 4) = W2 := ⟨_, rfl⟩
  have f2 : Fr (fun _ => False) w W2 := by rw [← hW2]; exact ((Fr.refl _ _).alloc _).alloc _
  have z2 : W2.heap.size = w.heap.size + 2 := by rw [← hW2]; simp
  have kS : W2.heap[w.heap.size]? = some (.cells #[.slice none 0 0] 31 (0, 0)) := by rw [← hW2]; exact blk_alloc (heap_alloc_new w _) _
  have kP : W2.heap[w.heap.size + 1]? = some (.cells #[.bool parted] 4 (0, 0)) := by
    rw [← hW2]
    have := heap_alloc_new (w.alloc (.cells #[.slice none 0 0] 31)) (.cells #[.bool parted] 4)
    rwa [World.size_alloc] at this
  have hcv := conv_ownB (ownB_kept h3 fun g hg => f2.block g (h3.lt g hg).2 fun e => e : OwnB base W2 (.slice A ws.length c) ws)
  rw [← hW2] at hcv
  have d1 := blk_cell (blk_alloc (blk_alloc h1 (.cells #[.slice none 0 0] 31)) (.cells #[.bool parted] 4)) 1
  have d3 := blk_cell (blk_alloc h1 (.cells #[.slice none 0 0] 31)) 3
  have HL := Lib.hid (str_lines (bs ws) W2)
  have H := Lib.hid (And.intro f2 (And.intro z2 (And.intro kS (And.intro kP hW2))))
  clear h1 ho h3 h4 hW2 f2 z2 kS kP
  refine (callsIn_wide (n := 20)).1 ?_
  refine callsIn_of_wp_marks Try.func20 rfl trivial ?_ rfl
  simp only [Try.ntmps20, List.size_toArray, List.length_cons, List.length_nil, Nat.reduceAdd, Nat.reduceSub, Array.replicate_succ, Array.replicate_zero, List.push_toArray, List.append_toArray, List.nil_append, List.cons_append]
  gi_wp2_with fail
  rw [H.out.2.2.2.2]
  refine ⟨trivial, (calls_wide (.inl rfl) HL.out).mono ?_⟩
  rintro e w3 ⟨rfl, rfl⟩
  clear hcv d1 d3
  gi_wp2_with fail
  obtain ⟨f2, z2, kS, kP, hW2⟩ := H.out
  obtain ⟨W3, hW3⟩ : ∃ W3, W2.alloc (.cells #[.string (bs ws)] 9) = W3 := ⟨_, rfl⟩
  have kB : W3.heap[w.heap.size + 2]? = some (.cells #[.string (bs ws)] 9 (0, 0)) := by rw [← hW3, ← z2]; exact heap_alloc_new _ _
  have f3 : Fr (fun _ => False) W2 W3 := by rw [← hW3]; exact (Fr.refl _ _).alloc _
  have z3 : W3.heap.size = w.heap.size + 3 := by rw [← hW3]; simp [z2]
  have kS3 := f3.blk kS fun e => e
  have kP3 := f3.blk kP fun e => e
  have hseq := lines_seqZ (w.heap.size + 2) (bs ws) W3 (by rw [bs_size]; exact hl) kB
  rw [bs_toList] at hseq
  rw [hW3, z2]
  have HE := Lib.hid (And.intro f2 (And.intro f3 (And.intro z3 (And.intro kS3 kP3))))
  clear hW2 hW3 kS kP kB z2
  refine wpIn_rangeZ (X := fun k => k = w.heap.size ∨ k = w.heap.size + 1) (Y := fun _ => False) (Z := fun k => k = w.heap.size + 2) (xs := linesL ws) (encs := encL) (WhG w.heap.size (w.heap.size + 1) parted) (fun _ _ _ _ => False)
    rfl hseq (fun k hk => ⟨by omega, by rintro (e | e); exact e; omega⟩) (fun b hb => by rcases hb with e | e; exact e.elim; omega) (by omega) (enters_of Try.func30 (by kernel_rfl) rfl) (fun _ => rfl)
    (whG_stays _ _ _) (fun c s X1 V1 V2 h => h.elim) ⟨_, kS3, by simpa using kP3, by simpa using ownT_nil _ _, by omega, fun k => by simp [Value.ownBlock]⟩ ?round ?done (fun _ _ _ _ _ _ _ _ _ _ _ h => h.elim)
  case round =>
    rintro l pre x r X1 V K rb hl2 hpx hI hG hxl hF hlV hK
    dsimp only [encL]
    have HK := Lib.hid hK
    have HV := Lib.hid (And.intro hpx (And.intro hI (And.intro hG (And.intro hxl (And.intro hF (And.intro hlV hl2))))))
    clear hK hpx hI hG hxl hF hlV hl2 hseq f2 f3 z3 kS3 kP3
    gi_wp2_with fail
    refine HK.out _ _ (Fr.refl _ _) fun Vb hfb hzb hsb hrb => ?_
    clear HK K
    obtain ⟨hpx, ⟨vb, k3, k4, o3, hSP, hX1⟩, hG, hxl, hF, hlV, hl2⟩ := HV.out
    have z3 := HE.out.2.2.1
    have hxs : x.length ≤ 1000000 := by
      have := lines_size ws [] x (by show x ∈ linesL ws; rw [← hpx]; simp)
      simp at this; omega
    have k3b := hfb.blk k3 (by omega : ¬ w.heap.size = l)
    have k4b := hfb.blk k4 (by omega : ¬ w.heap.size + 1 = l)
    have o3b : OwnT (w.heap.size + 1 + 1) Vb vb ((pre.drop (if parted then 1 else 0)).map trimQ) := ownT_kept o3 fun g hg => hfb.block g (o3.lt g hg).2 fun e => hxl ((hX1 l).2 (.inr (.inr (e ▸ hg))))
    obtain ⟨b, hb⟩ : ∃ b, (parted && pre.isEmpty) = b := ⟨_, rfl⟩
    rw [hb] at k4b
    have c3 := blk_cell k3b 0
    have g3 := blk_free k3b 0
    have c4 := blk_cell k4b 0
    have g4 := blk_free k4b 0
    have hpl : pre.length ≤ 1000001 := by
      have h1 := lines_count ws []
      have h2 : (pre ++ x :: r).length = (linesAux [] ws).length := by rw [hpx]; rfl
      rw [List.length_append] at h2
      omega
    obtain ⟨ys, hys⟩ : ∃ ys, (pre.drop (if parted then 1 else 0)).map trimQ = ys := ⟨_, rfl⟩
    rw [hys] at o3b
    have hyl : ys.length ≤ 2000000 := by rw [← hys, List.length_map, List.length_drop]; omega
    have hzs : Vb.heap.size = V.heap.size := hzb
    have hbz : w.heap.size + 1 + 1 ≤ Vb.heap.size := by omega
    have HS := Lib.hid (And.intro hX1 (And.intro hG (And.intro hxl (And.intro hfb (And.intro hrb (And.intro k3b (And.intro k4b (And.intro o3b (And.intro hys (And.intro hb (And.intro hzs (And.intro hlV hl2))))))))))))
    have hvS : vb.ownBlock ≠ some w.heap.size := fun e => by have := (o3b.lt _ e).1; omega
    have hvP : vb.ownBlock ≠ some (w.heap.size + 1) := fun e => by have := (o3b.lt _ e).1; omega
    obtain ⟨A1, n1, W4, hrun, o4, f4, t4⟩ := app_text (W := (Vb.alloc (.cells #[.string (bs (trimQ x))] 9)).drew) (N := Vb.heap.size) (y := trimQ x) o3b hbz hyl ((Fr.refl _ _).alloc _).drew (blk_cell (blk_drew (heap_alloc_new _ _)) 0)
    have k5 := f4.blk k3b hvS
    have k6 := f4.blk k4b hvP
    obtain ⟨Av, cv, ev⟩ := row_slice o3b
    subst ev
    have k7 : ((Vb.alloc (.cells #[.string (bs (trimQ x))] 9)).drew).heap[w.heap.size]? = _ := blk_drew (blk_alloc k3b _)
    have c7 := blk_cell k7 0
    have c8 := blk_cell (blk_alloc k3b (.cells #[.string (bs (trimQ x))] 9)) 0
    have c5 := blk_cell k5 0
    have g5 := blk_free k5 0
    have c6 := blk_cell k6 0
    have g6 := blk_free k6 0
    have HA := Lib.hid (And.intro o4 (And.intro f4 (And.intro t4 (And.intro k5 k6))))
    have hrun2 : (Sem.run Try.prog (Builtin.append_ #[31, 31] 31 #[.slice Av ys.length cv, .slice (some ⟨Vb.heap.size, 0, none⟩) 1 1]) (Vb.alloc (.cells #[.string (bs (trimQ x))] 9)).drew).andThen (fun a w' => Result.ok (Next.value a) w') = .ok (.value (.slice A1 (ys.length + 1) n1)) W4 := by rw [hrun]; rfl
    simp [go_sem] at hrun2
    clear hpx k3 k4 o3 hSP hX1 hG hxl hF hlV hl2 k3b k4b o3b hb hys hfb hzb hsb hrb hzs hrun o4 f4 t4 k5 k6 k7 hvS hvP
    cases b with
    | true =>
      clear hrun2 c5 g5 c6 g6 c7 c8
      gi_wp2_with fail
      obtain ⟨hX1, hG, hxl, hfb, hrb, k3b, k4b, o3b, hys, hb, hzs, hlV, hl2⟩ := HS.out
      have hz0 := HE.out.2.2.1
      have hdrop : ((pre ++ [x]).drop (if parted then 1 else 0)).map trimQ = ys := by
        simp only [Bool.and_eq_true, List.isEmpty_iff] at hb
        obtain ⟨rfl, rfl⟩ := hb
        rw [← hys]; rfl
      have hem : (parted && (pre ++ [x]).isEmpty) = false := by simp
      have hne : ∀ j, (Value.slice Av ys.length cv).ownBlock = some j → j ≠ w.heap.size + 1 := fun j hj e => by have := (o3b.lt j hj).1; omega
      refine ⟨X1, fun k hk => ⟨by have := (hG k hk).1; simp; omega, fun _ => hk⟩, (hfb.mono (Y := fun k => k = l ∨ X1 k) fun k _ e => .inl e).setCell ⟨w.heap.size + 1, 0, none⟩ (.inr ((hX1 _).2 (.inr (.inl rfl)))) _, blk_other hrb _ (by simp; omega) _, .slice Av ys.length cv, blk_other k3b _ (by simp) _, ?_, ?_, by omega, hX1⟩
      · rw [hem]; exact blk_set k4b 0 (.bool false)
      · rw [hdrop]; exact ownT_kept o3b fun g hg => heap_setCell_other _ _ g _ (hne g hg)
    | false =>
      gi_wp2_with fail
      gi_region_with (first | (refine ⟨trivial, ?_⟩; gi_at_call 26; refine (calls_wide (.inr ⟨l, rfl⟩) (trim_any x hxs _)).mono ?_; rintro e w1 ⟨rfl, rfl⟩) | fail)
      all_goals
        clear hrun2
        gi_wp2_with fail
      all_goals
        obtain ⟨hX1, hG, hxl, hfb, hrb, k3b, k4b, o3b, hys, hb, hzs, hlV, hl2⟩ := HS.out
        obtain ⟨o4, f4, t4, k5, k6⟩ := HA.out
        have hz0 := HE.out.2.2.1
        have hdrop : ((pre ++ [x]).drop (if parted then 1 else 0)).map trimQ = ys ++ [trimQ x] := by
          rw [← hys]
          cases parted with
          | false => simp
          | true =>
            have hp : pre ≠ [] := fun e => by subst e; simp at hb
            have : 1 ≤ pre.length := by cases pre with | nil => exact absurd rfl hp | cons a r => simp
            simp only [if_true]
            rw [List.drop_append_of_le_length this, List.map_append]; rfl
        have hem : (parted && (pre ++ [x]).isEmpty) = false := by simp
        have hne : ∀ j, (Value.slice A1 (ys.length + 1) n1).ownBlock = some j → j ≠ w.heap.size ∧ j ≠ w.heap.size + 1 := fun j hj => by have := (o4.lt j hj).1; omega
        have hvl : (Value.slice Av ys.length cv).ownBlock ≠ some l := fun e => hxl ((hX1 l).2 (.inr (.inr e)))
        refine ⟨fun k => k = w.heap.size ∨ k = w.heap.size + 1 ∨ (Value.slice A1 (ys.length + 1) n1).ownBlock = some k, fun k hk => ?_, ?_, blk_other (blk_other (f4.blk hrb hvl) _ (by simp; omega) _) _ (by simp; omega) _, .slice A1 (ys.length + 1) n1, blk_other (blk_set k5 0 _) _ (by simp) _, ?_, ?_, by omega, fun k => Iff.rfl⟩
        · have hsz : ((W4.setCell ⟨w.heap.size, 0, none⟩ (.slice A1 (ys.length + 1) n1)).setCell ⟨w.heap.size + 1, 0, none⟩ (.bool false)).heap.size = W4.heap.size := by simp
          rw [hsz]
          rcases hk with rfl | rfl | hk
          · exact ⟨blk_lt k5, fun _ => (hX1 _).2 (.inl rfl)⟩
          · exact ⟨blk_lt k6, fun _ => (hX1 _).2 (.inr (.inl rfl))⟩
          · refine ⟨(o4.lt k hk).2, fun hlt => ?_⟩
            rcases t4 k hk with e | e
            · exact (hX1 k).2 (.inr (.inr e))
            · omega
        · exact ((((hfb.mono (Y := fun k => k = l ∨ X1 k) fun k _ e => .inl e).trans3 f4 fun k _ e => .inr ((hX1 k).2 (.inr (.inr e)))).setCell ⟨w.heap.size, 0, none⟩ (.inr ((hX1 _).2 (.inl rfl))) _)).setCell ⟨w.heap.size + 1, 0, none⟩ (.inr ((hX1 _).2 (.inr (.inl rfl)))) _
        · rw [hem]; exact blk_set (blk_other k6 _ (by simp) _) 0 (.bool false)
        · rw [hdrop]; exact ownT_kept o4 fun g hg => (heap_setCell_other _ _ g _ (hne g hg).2).trans (heap_setCell_other _ _ g _ (hne g hg).1)
  case done =>
    rintro D X2 V hD hxD hG hF ⟨v, k3, k4, o3, hSP, hX2⟩ hdef
    obtain ⟨f2, f3, z3, kS3, kP3⟩ := HE.out
    obtain ⟨zs, hzs⟩ : ∃ zs, ((linesL ws).drop (if parted then 1 else 0)).map trimQ = zs := ⟨_, rfl⟩
    rw [hzs] at o3
    have hwq : wholeQ ⟨most, ws, sent, parted, over⟩ = zs := hzs
    obtain ⟨Av, cv, ev⟩ := row_slice o3
    subst ev
    have c3 := blk_cell k3 0
    have hBV : RowKit.Below w.heap.size w V := ((((f2.trans3 f3 fun _ _ e => e).mono (Y := fun k => (k = w.heap.size ∨ k = w.heap.size + 1) ∨ k = w.heap.size + 2) fun _ _ e => e.elim)).trans3 hF fun k _ e => e).below (Nat.le_refl _) fun k hk e => by omega
    have HV := Lib.hid (values_callsT Av zs.length cv V)
    have HD := Lib.hid (And.intro o3 (And.intro hBV (And.intro hdef (And.intro hD (And.intro hwq z3)))))
    clear hseq f2 f3 z3 kS3 kP3 hzs hwq k3 k4 o3 hSP hX2 hdef hG hF hxD hBV hD
    gi_wp2_with fail
    refine ⟨trivial, (calls_wide (.inl rfl) HV.out).mono ?_⟩
    intro e w4 hv
    obtain ⟨o3, hBV, hdef, hD, hwq, z3⟩ := HD.out
    obtain ⟨F, rfl, hT, hb4⟩ := tale_ofT (base := w.heap.size) hBV.size (ownT_base o3 (by omega)) hv
    have hd4 := (hb4.block D (blk_lt hdef)).trans hdef
    have HF := Lib.hid (And.intro hT (And.intro (hBV.trans (hb4.mono hBV.size)) (And.intro hd4 (And.intro hD (And.intro hwq (And.intro o3 (And.intro z3 hv)))))))
    clear o3 hBV hdef hD hwq hT hb4 hd4 z3 hv
    gi_wp2_with fail
    obtain ⟨hT, hb, hd4, hD, hwq, o3, z3, hv⟩ := HF.out
    rw [hwq]
    exact leaves_one D _ hd4 fun w' hf => ⟨_, results_tmp rfl _ _ _, ⟨F, rfl, tale_markT hT hd4 hf⟩, hb.trans (hf.below hb.size fun k _ e => by omega)⟩
end Go.Proofs.Ytadbpgkhenbpfaa
