/- Layer 12: CapsTexts. -/
import Derived.Test.YtadojlmjapmbhaaDoorCapI
import Derived.Test.YtadojlmjapmbhaaDoorCapF
import Derived.Test.YtadojlmjapmbhaaDoorRoundC
import Derived.IntWalk
namespace Go.Proofs.YtadojlmjapmbhaaDoor
set_option linter.unusedVariables false
set_option linter.unusedSimpArgs false
open Go Go.RowKit Go.Shelf Go.Lib
attribute [local go_sem] Oper.semAt_some

def mB (b0 b1 b2 : Bool) : BitVec 64 := (if b0 then 1#64 else 0#64) ||| (if b1 then 2#64 else 0#64) ||| (if b2 then 4#64 else 0#64)
theorem cap_tx (b0 b1 b2 : Bool) : capV 0#64 (txB b0 b1 b2 3) = (mB b0 b1 b2, true) := by cases b0 <;> cases b1 <;> cases b2 <;> decide +kernel
theorem and_seven (v : BitVec 64) : v &&& 7#64 = mB (hasV v 1#64) (hasV v 2#64) (hasV v 4#64) := by
  have h7 : (7#64 : BitVec 64) = 1#64 ||| 2#64 ||| 4#64 := by decide +kernel
  have hb := bit_has v
  have two : ∀ m : BitVec 64, m ≠ 0#64 → (v &&& m = m ∨ v &&& m = 0#64) → v &&& m = if ((v &&& m) == m) then m else 0#64 := fun m hm h => by
    rcases h with h | h
    · rw [h]; simp
    · rw [h, if_neg (by simpa using fun e => hm e.symm)]
  have a1 := two 1#64 (by decide +kernel) (by rw [and_two v 0 1#64 (by decide +kernel)]; cases v.getLsbD 0 <;> simp)
  have a2 := two 2#64 (by decide +kernel) (by rw [and_two v 1 2#64 (by decide +kernel)]; cases v.getLsbD 1 <;> simp)
  have a4 := two 4#64 (by decide +kernel) (by rw [and_two v 2 4#64 (by decide +kernel)]; cases v.getLsbD 2 <;> simp)
  rw [hb.1] at a1
  rw [hb.2.1] at a2
  rw [hb.2.2] at a4
  unfold mB
  rw [← a1, ← a2, ← a4, h7]
  ext i hi
  simp only [BitVec.getElem_and, BitVec.getElem_or]
  cases v[i] <;> simp
def sumC (pre : List CapE) : Int := (pre.map (·.2)).foldl (· + ·) 0
theorem sumC_snoc (pre : List CapE) (x : CapE) : sumC (pre ++ [x]) = sumC pre + x.2 := by
  unfold sumC
  rw [List.map_append, List.foldl_append]
  rfl
/-- of each of them, in its turn -/
theorem cap_turn {pre r : List CapE} {x : CapE} (h : pre ++ x :: r = knownC) : 0 ≤ sumC pre ∧ sumC pre < x.2 ∧ x.2 ≤ 4 ∧ IV (numV x.1.data.toList) = x.2 ∧ hasV 7#64 (BitVec.ofInt 64 x.2) = true ∧ ∀ v, hasV v (BitVec.ofInt 64 x.2) = ((v &&& BitVec.ofInt 64 x.2) != 0#64) := by
  have hx : x ∈ knownC := by rw [← h]; exact List.mem_append_right _ List.mem_cons_self
  have hk : ∀ v, hasV v (BitVec.ofInt 64 x.2) = ((v &&& BitVec.ofInt 64 x.2) != 0#64) := fun v => by
    unfold hasV
    rw [List.any_eq_true.2 ⟨x, hx, by rw [cap_num hx]; simp⟩, Bool.true_and]
  have key : 0 ≤ sumC pre ∧ sumC pre < x.2 ∧ x.2 ≤ 4 ∧ IV (numV x.1.data.toList) = x.2 ∧ hasV 7#64 (BitVec.ofInt 64 x.2) = true := by
    unfold knownC at h
    rcases pre with _ | ⟨a, _ | ⟨b, _ | ⟨c, p⟩⟩⟩
    · simp only [List.nil_append, List.cons.injEq] at h
      obtain ⟨rfl, _⟩ := h
      decide +kernel
    · simp only [List.cons_append, List.nil_append, List.cons.injEq] at h
      obtain ⟨rfl, rfl, _⟩ := h
      decide +kernel
    · simp only [List.cons_append, List.nil_append, List.cons.injEq] at h
      obtain ⟨rfl, rfl, rfl, _⟩ := h
      decide +kernel
    · have := congrArg List.length h
      simp at this
  exact ⟨key.1, key.2.1, key.2.2.1, key.2.2.2.1, key.2.2.2.2, hk⟩
def SumI (S : Nat) (pre : List CapE) (X : Nat → Prop) (W : World) : Prop := W.heap[S]? = some (.cells #[.int .i64 (sumC pre)] 3 (0, 0)) ∧ X S
theorem sumI_stays (S : Nat) : Stays (SumI S) := fun pre X V V' ⟨h2, h3⟩ hl hf => ⟨hf.blk h2 fun e => e h3, h3⟩
theorem number_is {name : ByteArray} {n : Int} (h : IV (numV name.data.toList) = n) (w : World) (hK : Known w) : Calls Tryd.prog 7 #[.string name] w fun e w' => e = .returned (.int .i64 n) ∧ RowKit.Below w.heap.size w w' := by
  subst h
  exact number_any name w hK
theorem has_is {h o : BitVec 64} {a b : Int} {c : Bool} (ha : IV h = a) (hb : IV o = b) (hc : hasV h o = c) (w : World) (hK : Known w) : Calls Tryd.prog 12 #[.int .i64 a, .int .i64 b] w fun e w' => e = .returned (.bool c) ∧ RowKit.Below w.heap.size w w' := by
  subst ha hb hc
  exact has_any h o w hK
set_option maxRecDepth 100000 in
set_option maxHeartbeats 1500000 in
theorem capsTexts_walk (n : Int) (s : ByteArray) (w : World) (hn : (Lit.int .i64 n).wf = true) (hs : s.size ≤ maxLen) (hK : Known w) :
    Calls Tryd.prog 3 #[.int .i64 n, .string s] w fun e w' => e = .returned (.bool true) ∧ RowKit.Below w.heap.size w w' := by
  unfold maxLen at hs
  obtain ⟨h, hh⟩ : ∃ h, IV h = n := ⟨_, IV_of n hn⟩
  subst hh
  clear hn
  have hKl := hK.lt
  obtain ⟨w0, hw0⟩ : ∃ w0, (w.alloc (.cells #[.int .i64 (IV h)] 3)).alloc (.cells #[.bool false] 4) = w0 := ⟨_, rfl⟩
  have f0 : Fr (fun _ => False) w w0 := by rw [← hw0]; exact ((Fr.refl _ w).alloc _).alloc _
  have z0 : w0.heap.size = w.heap.size + 2 := by rw [← hw0]; simp
  have a0 : w0.heap[w.heap.size]? = some (.cells #[.int .i64 (IV h)] 3 (0, 0)) := by rw [← hw0]; exact blk_alloc (heap_alloc_new w _) _
  have a1 : w0.heap[w.heap.size + 1]? = some (.cells #[.bool false] 4 (0, 0)) := by rw [← hw0]; exact heap_alloc2_new w _ _
  have K0 : Known w0 := hK.kept (f0.below (Nat.le_refl _) fun _ _ e => e.elim)
  have HW := Lib.hid hw0
  have hAw := Lib.hid (awake12 w0 K0)
  obtain ⟨N, hN⟩ : ∃ N, w.heap.size = N := ⟨_, rfl⟩
  rw [hN] at a0 a1
  have HN := Lib.hid hN
  have H0 := Lib.hid (And.intro f0 (And.intro z0 (And.intro a0 (And.intro a1 (And.intro K0 hKl)))))
  -- all that lay, lies
  have hat : ∀ W, Fr (fun _ => False) w0 W → W.heap[N]? = some (.cells #[.int .i64 (IV h)] 3 (0, 0)) ∧ W.heap[N + 1]? = some (.cells #[.bool false] 4 (0, 0)) ∧ Known W := fun W hf => ⟨hf.blk a0 fun e => e, hf.blk a1 fun e => e, K0.same (hf.block _ K0.lt fun e => e)⟩
  have HAT := Lib.hid hat
  clear hw0 f0 z0 a0 a1 K0 hK hKl hat
  refine (callsIn_wide (n := 20)).1 ?_
  refine callsIn_of_wp_marks Tryd.func3 rfl trivial ?_ rfl
  simp only [Tryd.ntmps3, List.size_toArray, List.length_cons, List.length_nil, Nat.reduceAdd, Nat.reduceSub, Array.replicate_succ, Array.replicate_zero, List.push_toArray, List.append_toArray, List.nil_append, List.cons_append]
  gi_wp2_with fail
  rw [HW.out]
  try rw [hN]
  clear hN
  refine ⟨trivial, (calls_wide (.inl rfl) hAw.out).mono ?_⟩
  rintro e w1 ⟨rfl, q1⟩
  have F1 : Hid (Fr (fun _ => False) w0 w1) := Fr.of_below q1
  clear q1
  obtain ⟨k0, k1, K1⟩ := HAT.out _ F1.out
  by_cases h40 : 40 < s.size
  · have p1 : (s.size : Int) > 40 := by omega
    have g1 := blk_free k1 0
    have d1 := blk_cell k1 0
    have HE := Lib.hid k1
    clear k0 K1 k1 h40
    gi_wp2_with fail
    refine leavesF [] _ List.nodup_nil (by simp) fun w' hf => ?_
    have hf' : Fr (fun _ => False) _ w' := hf.mono fun k _ e => by simp at e
    obtain ⟨f0, z0, _, _, _, _⟩ := H0.out
    refine ⟨_, res_in rfl _ _ (N + 1) (.bool true) _ rfl (blk_cell (hf'.blk (blk_set HE.out 0 _) fun e => e) 0) Tryd.underlying4 rfl, rfl, ?_⟩
    refine Fr.below (X := fun k => N ≤ k) ?_ (Nat.le_refl _) fun k hk (e : N ≤ k) => by have := HN.out; omega
    exact (((f0.mono (Y := fun k => N ≤ k) fun _ _ e => e.elim).trans3 F1.out fun _ _ e => e.elim).setCell _ (show N ≤ N + 1 by omega) _).trans3 hf' fun _ _ e => e.elim
  · have p1 : ¬ ((s.size : Int) > 40) := by omega
    have d0 := blk_cell k0 0
    have HTX := Lib.hid (And.intro (cap_tx (hasV h 1#64) (hasV h 2#64) (hasV h 4#64)) (And.intro (and_seven h) (tx_len (hasV h 1#64) (hasV h 2#64) (hasV h 4#64) 3 (by omega))))
    have HTC := Lib.hid (textC_any h w1 K1)
    have HTR := Lib.hid (fun W => textR_any h W)
    obtain ⟨b0, hb0⟩ : ∃ b, hasV h 1#64 = b := ⟨_, rfl⟩
    obtain ⟨b1, hb1⟩ : ∃ b, hasV h 2#64 = b := ⟨_, rfl⟩
    obtain ⟨b2, hb2⟩ : ∃ b, hasV h 4#64 = b := ⟨_, rfl⟩
    rw [hb0, hb1, hb2] at HTX HTC
    simp only [hb0, hb1, hb2] at HTR
    obtain ⟨ct, cs⟩ := HTX.out
    obtain ⟨cs, cl⟩ := cs
    obtain ⟨tx, htx⟩ : ∃ tx, txB b0 b1 b2 3 = tx := ⟨_, rfl⟩
    rw [htx] at ct cl HTC
    simp only [htx] at HTR
    have hAp := fun W (hk : Known W) => apply_any 0#64 (bs tx) W (by have : (bs tx).size = tx.length := rfl; omega) hk
    rw [show (bs tx).data.toList = tx from rfl, ct, show IV 0#64 = 0 by decide +kernel] at hAp
    simp only at hAp
    have hnd := bits_and_v h 7#64
    rw [show IV 7#64 = 7 by decide +kernel, cs] at hnd
    obtain ⟨m, hm⟩ : ∃ m, IV (mB b0 b1 b2) = m := ⟨_, rfl⟩
    rw [hm] at hnd hAp
    obtain ⟨nn, hnn⟩ : ∃ nn, IV (numV s.data.toList) = nn := ⟨_, rfl⟩
    have HNB := Lib.hid (And.intro (fun W (hk : Known W) => number_is hnn W hk) (fun W => numr_is hnn W))
    have HAP := Lib.hid hAp
    have hms : m = 0 ∨ m = 1 ∨ m = 2 ∨ m = 3 ∨ m = 4 ∨ m = 5 ∨ m = 6 ∨ m = 7 := by rw [← hm]; cases b0 <;> cases b1 <;> cases b2 <;> decide +kernel
    have HMS := Lib.hid hms
    obtain ⟨sx, hsx⟩ : ∃ sx, bs tx = sx := ⟨_, rfl⟩
    rw [hsx] at HTC HAP
    simp only [hsx] at HTR
    have HND := Lib.hid hnd
    clear k0 k1 K1 h40 HTX ct cs cl hAp hnd hb0 hb1 hb2 htx hm hnn hms hsx hs
    gi_wp2_with fail
    refine ⟨trivial, (calls_wide (.inl rfl) HTC.out).mono ?_⟩
    rintro e w2 ⟨rfl, q2⟩
    have F2 : Hid (Fr (fun _ => False) w0 w2) := F1.out.trans (Fr.of_below q2)
    clear q2 d0
    obtain ⟨k0, k1, K2⟩ := HAT.out _ F2.out
    clear k0 k1
    gi_wp2_with fail
    refine ⟨trivial, (calls_wide (.inl rfl) (HNB.out.1 _ K2)).mono ?_⟩
    rintro e w3 ⟨rfl, q3⟩
    have F3 : Hid (Fr (fun _ => False) w0 w3) := F2.out.trans (Fr.of_below q3)
    clear q3 K2
    obtain ⟨k0, k1, K3⟩ := HAT.out _ F3.out
    clear k0 k1
    gi_wp2_with fail
    refine ⟨trivial, (calls_wide (.inl rfl) (HAP.out _ K3)).mono ?_⟩
    rintro e w4 ⟨rfl, q4⟩
    have F4 : Hid (Fr (fun _ => False) w0 w4) := F3.out.trans (Fr.of_below q4)
    clear q4 K3
    obtain ⟨k0, k1, K4⟩ := HAT.out _ F4.out
    have d0 := blk_cell k0 0
    clear k0 k1 K4
    gi_wp2_with fail
    refine ⟨trivial, (calls_wide (.inl rfl) (HTR.out _)).mono ?_⟩
    rintro e w5 ⟨rfl, q5⟩
    have F5 : Hid (Fr (fun _ => False) w0 w5) := F4.out.trans (Fr.of_below q5)
    clear q5 d0
    gi_wp2_with fail
    refine ⟨trivial, (calls_wide (.inl rfl) (HNB.out.2 _)).mono ?_⟩
    rintro e w6 ⟨rfl, q6⟩
    have F6 : Hid (Fr (fun _ => False) w0 w6) := F5.out.trans (Fr.of_below q6)
    clear q6
    obtain ⟨k0, k1, K6⟩ := HAT.out _ F6.out
    have d0 := blk_cell k0 0
    have hnd := HND.out
    clear k0 k1 K6
    gi_wp2_with fail
    refine ⟨trivial, (calls_wide (.inl rfl) (all_any _)).mono ?_⟩
    rintro e w7 ⟨rfl, hw7⟩
    subst hw7
    have hnil : ∀ W, (binOp BinOp.eql 28 (.func (.func 22) #[] #[]) Value.nilFunc).run Tryd.prog W = .ok (.bool false) W := fun W => by rfl
    obtain ⟨S, hS⟩ : ∃ S, w7.heap.size = S := ⟨_, rfl⟩
    obtain ⟨w8, hw8⟩ : ∃ w8, w7.alloc (.cells #[.int .i64 0] 3) = w8 := ⟨_, rfl⟩
    have hbS := heap_alloc_new w7 (.cells #[.int .i64 0] 3)
    have dS := blk_cell hbS 0
    have gS := blk_free hbS 0
    have k8 : w8.heap[S]? = some (.cells #[.int .i64 0] 3 (0, 0)) := by rw [← hw8]; rw [hS] at hbS; exact hbS
    have f68 : Fr (fun _ => False) w7 w8 := by rw [← hw8]; exact (Fr.refl (fun _ => False) w7).alloc _
    have z8 : w8.heap.size = S + 1 := by rw [← hw8]; simp [hS]
    have F8 : Hid (Fr (fun _ => False) w0 w8) := F6.out.trans f68
    have hSN : N + 2 ≤ S := by obtain ⟨f0, z0, _, _, _, _⟩ := H0.out; have := F6.out.size; have := HN.out; omega
    have HS8 := Lib.hid (And.intro k8 (And.intro z8 hSN))
    rw [hS] at dS gS
    have HW8 := Lib.hid hw8
    clear hbS k8 f68 z8 hSN hw8 d0 hnd
    gi_wp2_with (simp only [hnil])
    rw [HW8.out]
    clear dS gS
    obtain ⟨k8, z8, hSN⟩ := HS8.out
    obtain ⟨k0, k1, K8⟩ := HAT.out _ F8.out
    have hKS := K8.lt
    refine wpIn_rangeF (X := fun k => k = S) (Y := knownY) (xs := knownC) (encs := encCap) (gf := 22) (lb := #[]) (SumI S) (fun _ _ _ _ => False)
      rfl (all_seqF w8 K8) (fun k hk => ⟨by omega, fun e => by unfold knownY at e; obtain ⟨_, _, _, _, _, hKl⟩ := H0.out; have := HN.out; omega⟩) (fun k hk => by unfold knownY at hk; omega) (by omega) (enters_of Tryd.func22 (by kernel_rfl) rfl) (fun _ => rfl)
      (sumI_stays _) (fun c s X1 V1 V2 h => h.elim) ⟨k8, rfl⟩ ?round ?done (fun _ _ _ _ _ _ _ _ _ _ _ h => h.elim)
    case round =>
      rintro l pre ⟨cn, cm⟩ r X1 V K rb hl2 hpx ⟨hI1, hI2⟩ hG hxl hF hlV hK
      dsimp only [encCap]
      have HK := Lib.hid hK
      have HV := Lib.hid (And.intro hpx (And.intro hI1 (And.intro hI2 (And.intro hG (And.intro hxl (And.intro hF (And.intro hlV hl2)))))))
      clear hK hpx hI1 hI2 hG hxl hF hlV hl2 k8 z8 k0 k1 K8 hKS
      gi_wp2_with fail
      refine HK.out _ _ (Fr.refl _ _) fun Vb hfb hzb hsb hrb => ?_
      clear HK K
      obtain ⟨hpx, hI1, hI2, hG, hxl, hF, hlV, hl2⟩ := HV.out
      obtain ⟨k8, z8, hSN⟩ := HS8.out
      obtain ⟨c1, c2, c3, c4, c5, c6⟩ := cap_turn hpx
      dsimp only at c1 c2 c3 c4 c5 c6
      obtain ⟨sm, hsm⟩ : ∃ sm, sumC pre = sm := ⟨_, rfl⟩
      rw [hsm] at c1 c2 hI1
      have hne : S ≠ l := fun e => hxl (e ▸ hI2)
      obtain ⟨_, _, _, _, _, hKl⟩ := H0.out
      have hNn := HN.out
      have hsb' : ∀ W, Fr (fun _ => False) Vb W → W.heap[N]? = some (.cells #[.int .i64 (IV h)] 3 (0, 0)) ∧ W.heap[S]? = some (.cells #[.int .i64 sm] 3 (0, 0)) ∧ Known W := fun W hf => by
        obtain ⟨k0, k1, K8⟩ := HAT.out _ F8.out
        have hKS := K8.lt
        exact ⟨hf.blk (hfb.blk (hF.blk k0 (by omega)) (by omega)) fun e => e, hf.blk (hfb.blk hI1 hne) fun e => e, K8.same ((hf.block _ (by have := hfb.size; have := hF.size; omega) fun e => e).trans ((hfb.block _ (by have := hF.size; omega) (by omega)).trans (hF.block _ hKS (by omega))))⟩
      have HSB := Lib.hid hsb'
      have o1 := cap_num (show ((cn, cm) : CapE) ∈ knownC by rw [← hpx]; exact List.mem_append_right _ List.mem_cons_self)
      dsimp only at o1
      have hh7 := fun W (hk : Known W) => has_is (h := 7#64) (o := BitVec.ofInt 64 cm) (show IV 7#64 = 7 by decide +kernel) o1 c5 W hk
      obtain ⟨hb, hhb⟩ : ∃ hb, hasV h (BitVec.ofInt 64 cm) = hb := ⟨_, rfl⟩
      have hhh := fun W (hk : Known W) => has_is (h := h) (o := BitVec.ofInt 64 cm) rfl o1 hhb W hk
      have hand := bits_and_v h (BitVec.ofInt 64 cm)
      rw [o1] at hand
      have hnz : (IV (h &&& BitVec.ofInt 64 cm) == 0) = !hb := by rw [iv_zero, ← hhb, c6 h, bne, Bool.not_not]
      obtain ⟨ia, hia⟩ : ∃ ia, IV (h &&& BitVec.ofInt 64 cm) = ia := ⟨_, rfl⟩
      rw [hia] at hand hnz
      have hnz2 : (ia != 0) = hb := by rw [bne, hnz, Bool.not_not]
      have hnn := fun W => numr_is c4 W
      obtain ⟨s0, s1, s2⟩ := hsb' Vb (Fr.refl _ _)
      have d0 := blk_cell s0 0
      have d1 := blk_cell s1 0
      have q1 : decide (cm ≤ sm) = false := by simp; omega
      have q2 : ¬ cm ≤ sm := by omega
      have HCC := Lib.hid (And.intro hh7 (And.intro hhh hnn))
      have HE := Lib.hid (And.intro hpx (And.intro hI2 (And.intro hG (And.intro hxl (And.intro hfb (And.intro hrb (And.intro hzb (And.intro hsm hne))))))))
      clear hpx hI1 hI2 hG hxl hF hlV hl2 k8 z8 hfb hzb hsb hrb hsm hne c4 c5 c6 o1 hh7 hhh hnn s0 s1 s2 hia hhb hKl hNn hsb'
      gi_wp2_with fail
      clear d0
      refine wpIn_class_all (C := fun W => Fr (fun _ => False) Vb W) (by kernel_rfl) (by kernel_rfl) (by kernel_rfl) ((Fr.refl (fun _ => False) Vb).drew) ?_
      refine quiet_step_w (fun _ => trivial) (fun K hK => ?_)
      go_simp
      first | refine ⟨_, fun _ _ => rfl, hK _ ?_⟩ | refine hK _ ?_
      clear hK K
      refine quiet_step_w (fun _ => trivial) (fun K hK => ?_)
      go_simp
      refine ⟨.int .i64 cm, fun W hW => ?_, hK _ ?_⟩
      · refine ((calls_wide (.inr ⟨l, rfl⟩) (HCC.out.2.2 _))).mono ?_
        rintro e W2 ⟨rfl, b⟩; exact ⟨rfl, hW.trans (Fr.of_below b)⟩
      clear hK K
      refine quiet_step_w (fun _ => trivial) (fun K hK => ?_)
      go_simp
      first | refine ⟨_, fun _ _ => rfl, hK _ ?_⟩ | refine hK _ ?_
      clear hK K
      refine quiet_step_w (fun _ => trivial) (fun K hK => ?_)
      go_simp
      first | refine ⟨_, fun _ _ => rfl, hK _ ?_⟩ | refine hK _ ?_
      clear hK K
      refine quiet_step_w (fun _ => trivial) (fun K hK => ?_)
      go_simp
      first | refine ⟨_, fun _ _ => rfl, hK _ ?_⟩ | refine hK _ ?_
      clear hK K
      refine quiet_step_w (fun _ => trivial) (fun K hK => ?_)
      go_simp
      first | refine ⟨_, fun _ _ => rfl, hK _ ?_⟩ | refine hK _ ?_
      clear hK K
      refine quiet_step_w (fun _ => trivial) (fun K hK => ?_)
      go_simp
      refine ⟨.int .i64 sm, fun W hW => ?_, hK _ ?_⟩
      · obtain ⟨s0, s1, s2⟩ := HSB.out W hW; have d0 := blk_cell s0 0; have d1 := blk_cell s1 0; go_simp
      clear hK K
      refine quiet_step_w (fun _ => trivial) (fun K hK => ?_)
      go_simp
      first | refine ⟨_, fun _ _ => rfl, hK _ ?_⟩ | refine hK _ ?_
      clear hK K
      refine quiet_step_w (fun _ => trivial) (fun K hK => ?_)
      go_simp
      first | refine ⟨_, fun _ _ => rfl, hK _ ?_⟩ | refine hK _ ?_
      clear hK K
      refine quiet_step_w (fun _ => trivial) (fun K hK => ?_)
      go_simp
      first | refine ⟨_, fun _ _ => rfl, hK _ ?_⟩ | refine hK _ ?_
      clear hK K
      refine quiet_step_w (fun _ => trivial) (fun K hK => ?_)
      go_simp
      first | refine ⟨_, fun _ _ => rfl, hK _ ?_⟩ | refine hK _ ?_
      clear hK K
      refine quiet_step_w (fun _ => trivial) (fun K hK => ?_)
      go_simp
      refine ⟨.bool true, fun W hW => ?_, hK _ ?_⟩
      · refine ((calls_wide (.inr ⟨l, rfl⟩) (HCC.out.1 _ (HSB.out _ hW).2.2))).mono ?_
        rintro e W2 ⟨rfl, b⟩; exact ⟨rfl, hW.trans (Fr.of_below b)⟩
      clear hK K
      refine quiet_step_w (fun _ => trivial) (fun K hK => ?_)
      go_simp
      first | refine ⟨_, fun _ _ => rfl, hK _ ?_⟩ | refine hK _ ?_
      clear hK K
      refine quiet_step_w (fun _ => trivial) (fun K hK => ?_)
      go_simp
      first | refine ⟨_, fun _ _ => rfl, hK _ ?_⟩ | refine hK _ ?_
      clear hK K
      refine quiet_step_w (fun _ => trivial) (fun K hK => ?_)
      go_simp
      first | refine ⟨_, fun _ _ => rfl, hK _ ?_⟩ | refine hK _ ?_
      clear hK K
      refine quiet_step_w (fun _ => trivial) (fun K hK => ?_)
      go_simp
      refine ⟨.int .i64 (IV h), fun W hW => ?_, hK _ ?_⟩
      · obtain ⟨s0, s1, s2⟩ := HSB.out W hW; have d0 := blk_cell s0 0; have d1 := blk_cell s1 0; go_simp
      clear hK K
      refine quiet_step_w (fun _ => trivial) (fun K hK => ?_)
      go_simp
      first | refine ⟨_, fun _ _ => rfl, hK _ ?_⟩ | refine hK _ ?_
      clear hK K
      refine quiet_step_w (fun _ => trivial) (fun K hK => ?_)
      go_simp
      refine ⟨.bool hb, fun W hW => ?_, hK _ ?_⟩
      · refine ((calls_wide (.inr ⟨l, rfl⟩) (HCC.out.2.1 _ (HSB.out _ hW).2.2))).mono ?_
        rintro e W2 ⟨rfl, b⟩; exact ⟨rfl, hW.trans (Fr.of_below b)⟩
      clear hK K
      refine quiet_step_w (fun _ => trivial) (fun K hK => ?_)
      go_simp
      refine ⟨.int .i64 (IV h), fun W hW => ?_, hK _ ?_⟩
      · obtain ⟨s0, s1, s2⟩ := HSB.out W hW; have d0 := blk_cell s0 0; have d1 := blk_cell s1 0; go_simp
      clear hK K
      refine quiet_step_w (fun _ => trivial) (fun K hK => ?_)
      go_simp
      first | refine ⟨_, fun _ _ => rfl, hK _ ?_⟩ | refine hK _ ?_
      clear hK K
      refine quiet_step_w (fun _ => trivial) (fun K hK => ?_)
      go_simp
      first | refine ⟨_, fun _ _ => rfl, hK _ ?_⟩ | refine hK _ ?_
      clear hK K
      refine quiet_step_w (fun _ => trivial) (fun K hK => ?_)
      go_simp
      first | refine ⟨_, fun _ _ => rfl, hK _ ?_⟩ | refine hK _ ?_
      clear hK K
      refine quiet_step_w (fun _ => trivial) (fun K hK => ?_)
      go_simp
      first | refine ⟨_, fun _ _ => rfl, hK _ ?_⟩ | refine hK _ ?_
      clear hK K
      refine quiet_step_w (fun _ => trivial) (fun K hK => ?_)
      go_simp
      first | refine ⟨_, fun _ _ => rfl, hK _ ?_⟩ | refine hK _ ?_
      clear hK K
      refine wpQuietIn_nil ?_
      intro W hW
      obtain ⟨s0, s1, s2⟩ := HSB.out W hW
      have d1 := blk_cell s1 0
      have g1 := blk_free s1 0
      have hsum : IntKind.i64.wrap (sm + cm) = sm + cm := IntWalk.i64_in _ ⟨by omega, by omega⟩
      have HWW := Lib.hid (And.intro hW s1)
      clear hW s0 s1 s2
      gi_wp2_with fail
      obtain ⟨hpx, hI2, hG, hxl, hfb, hrb, hzb, hsm, hne⟩ := HE.out
      obtain ⟨hW, s1⟩ := HWW.out
      have hzs : Vb.heap.size = V.heap.size := hzb
      have hws := hW.size
      refine ⟨X1, fun k hk => ⟨by rw [World.size_setCell]; have := (hG k hk).1; omega, fun _ => hk⟩, ((hfb.mono (Y := fun k => k = l ∨ X1 k) fun k _ e => .inl e).trans3 hW fun _ _ e => e.elim).setCell _ (.inr hI2) _, blk_other (hW.blk hrb fun e => e) _ (by simpa using fun e => hne e.symm) _, ?_, hI2⟩
      rw [sumC_snoc, hsm]
      exact blk_set s1 0 _
    case done =>
      rintro D X2 V hD hxD hG hF ⟨hI1, hI2⟩ hdef
      have h7 : sumC knownC = 7 := by decide +kernel
      rw [h7] at hI1
      have hNn := HN.out
      have hat2 : ∀ W, Fr (fun _ => False) V W → W.heap[N]? = some (.cells #[.int .i64 (IV h)] 3 (0, 0)) ∧ W.heap[N + 1]? = some (.cells #[.bool false] 4 (0, 0)) ∧ Known W := fun W hf => by
        exact ⟨hf.blk (hF.blk k0 (by omega)) fun e => e, hf.blk (hF.blk k1 (by omega)) fun e => e, K8.same ((hf.block _ (by have := hF.size; omega) fun e => e).trans (hF.block _ hKS (by obtain ⟨_, _, _, _, _, hKl⟩ := H0.out; omega)))⟩
      have HA2 := Lib.hid hat2
      have no : ∀ (o : BitVec 64) (c : Int), IV o = c → (knownC.any fun x => x.2 == IV o) = false → ∀ W, Known W → Calls Tryd.prog 12 #[.int .i64 (IV h), .int .i64 c] W fun e w' => e = .returned (.bool false) ∧ RowKit.Below W.heap.size W w' := fun o c ho hk W hK => has_is rfl ho (by unfold hasV; rw [hk, Bool.false_and]) W hK
      have HC := Lib.hid (And.intro (no 0#64 0 (by decide +kernel) (by decide +kernel)) (And.intro (no 3#64 3 (by decide +kernel) (by decide +kernel)) (no 8#64 8 (by decide +kernel) (by decide +kernel))))
      have dS := blk_cell hI1 0
      obtain ⟨t0, t1, t2⟩ := hat2 V (Fr.refl _ _)
      have d0 := blk_cell t0 0
      have HK0 := Lib.hid t2
      have HE := Lib.hid (And.intro hF (And.intro hdef hD))
      have HZ := Lib.hid (And.intro z8 hSN)
      clear hI1 hI2 hF hdef hG hxD hat2 no t0 t1 t2 k0 k1 K8 hKS k8 z8 hSN hNn hD
      gi_wp2_with fail
      refine ⟨trivial, (calls_wide (.inl rfl) (HC.out.1 _ HK0.out)).mono ?_⟩
      rintro e W1 ⟨rfl, b1⟩
      have G1 : Hid (Fr (fun _ => False) V W1) := Fr.of_below b1
      clear b1
      obtain ⟨t0, t1, t2⟩ := HA2.out _ G1.out
      have d0 := blk_cell t0 0
      have HK1 := Lib.hid t2
      clear t0 t1 t2 dS
      gi_wp2_with fail
      refine ⟨trivial, (calls_wide (.inl rfl) (HC.out.2.1 _ HK1.out)).mono ?_⟩
      rintro e W2 ⟨rfl, b2⟩
      have G2 : Hid (Fr (fun _ => False) V W2) := G1.out.trans (Fr.of_below b2)
      clear b2
      obtain ⟨t0, t1, t2⟩ := HA2.out _ G2.out
      have d0 := blk_cell t0 0
      have HK2 := Lib.hid t2
      clear t0 t1 t2
      gi_wp2_with fail
      refine ⟨trivial, (calls_wide (.inl rfl) (HC.out.2.2 _ HK2.out)).mono ?_⟩
      rintro e W3 ⟨rfl, b3⟩
      have G3 : Hid (Fr (fun _ => False) V W3) := G2.out.trans (Fr.of_below b3)
      clear b3
      obtain ⟨t0, t1, t2⟩ := HA2.out _ G3.out
      have d1 := blk_cell t1 0
      have g1 := blk_free t1 0
      have HT := Lib.hid t1
      clear t0 t1 t2 d0
      gi_wp2_with fail
      obtain ⟨hF, hdef, hD⟩ := HE.out
      obtain ⟨z8, hSN⟩ := HZ.out
      have hne : D ≠ N + 1 := by omega
      obtain ⟨f0, z0, _, _, _, _⟩ := H0.out
      refine leaves_one D _ (blk_other (G3.out.blk hdef fun e => e) _ (by simpa using hne) _) fun w' hf => ⟨_, res_in rfl _ _ (N + 1) (.bool true) _ rfl (blk_cell (hf.blk (blk_set HT.out 0 _) fun e => hne e.symm) 0) Tryd.underlying4 rfl, rfl, ?_⟩
      refine Fr.below (X := fun k => N ≤ k) ?_ (Nat.le_refl _) fun k hk (e : N ≤ k) => by have := HN.out; omega
      exact ((((((f0.mono (Y := fun k => N ≤ k) fun _ _ e => e.elim).trans3 F8.out fun _ _ e => e.elim).trans3 hF fun k _ e => by rw [show k = S from e]; omega).trans3 G3.out fun _ _ e => e.elim).setCell _ (show N ≤ N + 1 by omega) _).trans3 hf fun k _ e => by rw [show k = D from e]; omega)
end Go.Proofs.YtadojlmjapmbhaaDoor
