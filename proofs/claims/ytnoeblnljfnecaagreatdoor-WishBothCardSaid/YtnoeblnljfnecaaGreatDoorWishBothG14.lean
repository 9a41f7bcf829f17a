/- Texts of this proof, one behind the other. -/
import Derived.Test.YtnoeblnljfnecaaGreatDoorWishBothG13
import Derived.Test.YtnoeblnljfnecaaGreatDoorWishBothG8
import Derived.Test.YtnoeblnljfnecaaGreatDoorWishBothG1
import Derived.Deep.RegionWith
import Derived.Test.YtnoeblnljfnecaaGreatDoorWishBothG4
import Derived.Shelf.RegionOpenPlain
import Derived.Deep.QuietTactic
import Derived.Test.YtnoeblnljfnecaaGreatDoorChecked
import Derived.RangeFuncKeeps
import Derived.Outline
import Derived.BigQuiet
import Derived.Laws.StructEq
import Derived.ChangeKeysEq
import Derived.Test.YtnoeblnljfnecaaGreatDoorWishBothG3
import Derived.RangeFuncWrites
import Derived.RangeFuncBox
import Derived.Sort.CutIn
import Derived.Stop.RegionWithIn
import Derived.Test.YtnoeblnljfnecaaGreatDoorWishBothG9
section
/- ValidAlike, walked. -/
namespace Go.Proofs.YtnoeblnljfnecaaGreatDoor
open Go.RowKit

theorem Rowed.below {w w' : World} {B : Nat} (h : Rowed w) (hB : w.heap.size ≤ B) (hb : Below B w w') : Rowed w' := by
  intro i hi
  obtain ⟨s, h1, h2⟩ := h i hi
  refine ⟨s, ?_, h2⟩
  rw [← h1]
  exact hb.cell (Nat.lt_of_lt_of_le (World.block_lt_of_cell? _ _ h1) hB)



theorem nickAt_fold0 (b : UInt8) : (decide (b = 126) || (nickAt 0 b == nickAt 0 (foldB b))) = true := all256 (p := fun b => decide (b = 126) || (nickAt 0 b == nickAt 0 (foldB b))) (by kernel_rfl) b
theorem nickAt_fold1 (b : UInt8) : (decide (b = 126) || (nickAt 1 b == nickAt 1 (foldB b))) = true := all256 (p := fun b => decide (b = 126) || (nickAt 1 b == nickAt 1 (foldB b))) (by kernel_rfl) b
theorem nickAt_fold (i : Nat) {b : UInt8} (h : b ≠ 126) : nickAt i b = nickAt i (foldB b) := by
  by_cases e : i = 0
  · subst e; have := nickAt_fold0 b; simpa [h] using this
  · have := nickAt_fold1 b
    have e1 : ∀ b, nickAt i b = nickAt 1 b := fun b => by unfold nickAt; rw [decide_eq_true e]; rfl
    rw [e1 b, e1 (foldB b)]; simpa [h] using this
theorem nick_tilde {s : ByteArray} (h : NickP s) : inB s.data.toList 126 = false := by
  symm
  refine inB_no (Nat.le_refl _) fun i _ hi e => ?_
  have := h.2 i hi
  rw [e] at this
  unfold nickAt at this
  rw [show letterB 126 = false from rfl, show signB 126 = false from rfl, show digitB 126 = false from rfl, show decide ((126 : UInt8).toNat = 45) = false from rfl] at this
  simp at this
theorem nick_fold {a b : ByteArray} (h : foldL a.data.toList = foldL b.data.toList) (ha : inB a.data.toList 126 = false) (hb : inB b.data.toList 126 = false) (hn : NickP a) : NickP b := by
  have hl : a.size = b.size := by
    have := congrArg List.length h
    simpa using this
  have no : ∀ {s : ByteArray}, inB s.data.toList 126 = false → ∀ i (hi : i < s.size), s[i] ≠ 126 := by
    intro s hs i hi e
    have := inB_yes hi e
    rw [hs] at this; cases this
  refine ⟨by rw [← hl]; exact hn.1, fun i hi => ?_⟩
  have hi' : i < a.size := by omega
  have := hn.2 i hi'
  rw [nickAt_fold i (no ha i hi')] at this
  rw [nickAt_fold i (no hb i hi)]
  have e : foldB a[i] = foldB b[i] := by
    have h0 : (foldL a.data.toList)[i]? = (foldL b.data.toList)[i]? := by rw [h]
    unfold foldL at h0
    rw [List.getElem?_map, List.getElem?_map, List.getElem?_eq_getElem (by simpa using hi'), List.getElem?_eq_getElem (by simpa using hi)] at h0
    exact Option.some.inj h0
  rw [← e]; exact this
theorem nick_chan {s : ByteArray} (h : NickP s) : ¬ ChanP s := by
  rintro ⟨_, ⟨h0, e⟩, _⟩
  have := h.2 0 h0
  have e' : s[0] = 35 := UInt8.toNat_inj.mp e
  rw [e'] at this
  revert this; decide

end Go.Proofs.YtnoeblnljfnecaaGreatDoor
end
section
/- Layer 21: what one parameter of WATCH asks for. -/
namespace Go.Proofs.YtnoeblnljfnecaaGreatDoor
set_option linter.unusedVariables false
set_option linter.unusedSimpArgs false
open Go Go.RowKit Go.Lib

theorem res_two {P : Program} {fn : Func} {p : Tmp} {ty : TypeId} {tmps : Array Value} {V : World} {N : Nat} {a b : Value} (h : fn.results = #[.cell p ty]) (hp : tmps.getD p undef = .pointer (some ⟨N, 0, none⟩)) (hg : (isAgg ty).run P V = .ok true V) (hz : (sizeOf ty).run P V = .ok 2 V)
    (h0 : V.cell? ⟨N, 0, none⟩ = some a) (h1 : V.cell? ⟨N, 1, none⟩ = some b) : (results fn tmps).run P V = .ok (.agg #[a, b]) V := by
  have hp' : tmps[p]?.getD undef = .pointer (some ⟨N, 0, none⟩) := by simpa using hp
  simp [results, h, hp', asAddr, loadVar, Sem.run_bind, hg, hz, loadCells, loadCellsFrom, h0, h1, Result.andThen, go_sem]
def wishR (o : Option WishV) : Value := match o with
  | none => .agg #[.int .u8 0, .string ⟨#[]⟩]
  | some (c, l) => .agg #[.int .u8 c.toNat, .string (bs l)]
theorem u8_ne {c : UInt8} {n : Nat} (hn : n < 256) (h : c ≠ UInt8.ofNat n) : ((c.toNat : Int) == (n : Int)) = false := by
  rw [beq_eq_false_iff_ne]
  intro e
  apply h
  have : c.toNat = n := by omega
  rw [← this]
  simp
theorem tail_bs (s : ByteArray) : bs s.data.toList.tail = s.extract 1 s.size := ba_ext (by
  rw [bs_toList, ba_extract_to]
  cases s.data.toList <;> rfl)
theorem head_bs (s : ByteArray) (h : 0 < s.size) : s.data.toList = s[0] :: s.data.toList.tail := by
  cases hl : s.data.toList with
  | nil => have : s.data.toList.length = s.size := rfl; rw [hl] at this; simp at this; omega
  | cons a r =>
    have : s[0] = s.data.toList[0]'(by rw [hl]; simp) := rfl
    rw [this]
    simp [hl]
set_option maxRecDepth 100000 in
set_option maxHeartbeats 8000000 in
theorem wish_v (s : ByteArray) (w : World) (hs : s.size ≤ 1000000) (hR : Rowed w) :
    Calls Tryz.prog 44 #[.string s] w fun e w' => e = .returned (wishR (wishV s.data.toList)) ∧ Below w.heap.size w w' := by
  have mixed : (Tryz.prog).follows Departure.mixedOrders = true := by kernel_rfl
  have hlet := letter_w s
  obtain ⟨c, hc⟩ : ∃ c, letV s.data.toList = c := ⟨_, rfl⟩
  rw [hc] at hlet
  have hnew := heap_alloc_new w (.cells #[.int .u8 0, .string ⟨#[]⟩] 58)
  obtain ⟨w1, hw1⟩ : ∃ w1, w.alloc (.cells #[.int .u8 0, .string ⟨#[]⟩] 58) = w1 := ⟨_, rfl⟩
  rw [hw1] at hnew
  have b1 : Below w.heap.size w w1 := by rw [← hw1]; exact (Below.refl _ _).alloc (Nat.le_refl _) _
  have HR := Lib.hid (hR.below (Nat.le_refl _) b1)
  have HB := Lib.hid (And.intro b1 hnew)
  have d0 := blk_cell hnew 0
  have d1 := blk_cell hnew 1
  have g0 := blk_free hnew 0
  have g1 := blk_free hnew 1
  have HW := Lib.hid hw1
  have HLT := Lib.hid hlet
  clear hR hw1 b1 hnew hlet
  by_cases h0 : c = 0
  · subst h0
    have hc0 : ((0 : UInt8).toNat : Int) = 0 := rfl
    by_cases hz : 0 < s.size
    · have hh := head_bs s hz
      obtain ⟨x, hx⟩ : ∃ x, s[0] = x := ⟨_, rfl⟩
      rw [hx] at hh
      have hsz1 : (s.extract 1 s.size).size ≤ 1000000 := by simp; omega
      have HN := Lib.hid (nick_v (s.extract 1 s.size) w1 hsz1 HR.out)
      obtain ⟨nb, hnb⟩ : ∃ nb, dec (NickP (s.extract 1 s.size)) = nb := ⟨_, rfl⟩
      rw [hnb] at HN
      have hse := str_ne hz
      have hse2 : (!s.toList.isEmpty) = true := by rw [hse]; rfl
      have hbs := tail_bs s
      have hv : wishV s.data.toList = if (x = 43 ∨ x = 45) ∧ nb = true then some (x, s.data.toList.tail) else none := by
        unfold wishV
        rw [hc, if_neg (by decide)]
        rw [hh]
        dsimp only
        unfold nickB
        rw [List.tail_cons, hbs, hnb]
      have HV := Lib.hid (And.intro hv hbs)
      clear hv hh hbs hnb hc
      by_cases hm : x = 43 ∨ x = 45
      · rcases hm with hm | hm
        · subst hm
          cases nb with
          | true =>
            have hv2 : wishV s.data.toList = some (43, s.data.toList.tail) := by rw [HV.out.1, if_pos ⟨.inl rfl, rfl⟩]
            have HV2 := Lib.hid (And.intro hv2 HV.out.2)
            clear hv2
            go_enter Tryz.func44, Tryz.ntmps44
            go_wp2_with fail
            rw [HW.out]
            refine (HLT.out _).mono ?_
            rintro e w' ⟨rfl, rfl⟩
            go_wp2_with fail
            refine HN.out.mono ?_
            rintro e w' ⟨rfl, rfl⟩
            go_wp2_with fail
            go_region_with (fail)
            all_goals go_wp2_with fail
            all_goals
              obtain ⟨b1, hnew⟩ := HB.out
              obtain ⟨hv, hbs⟩ := HV2.out
              rw [hv]
              have hk := blk_set (blk_set (blk_drew hnew) 0 (.int .u8 43)) 1 (.string (s.extract 1 s.size))
              refine bodyPost_ret (v := .agg #[.int .u8 43, .string (s.extract 1 s.size)]) (res_two rfl rfl (by kernel_rfl) (by kernel_rfl) (blk_cell hk 0) (blk_cell hk 1)) rfl ⟨by rw [← hbs]; rfl, ?_⟩
              exact (b1.drew.setCell (Nat.le_refl _) _).setCell (Nat.le_refl _) _
          | false =>
            have hv2 : wishV s.data.toList = none := by rw [HV.out.1, if_neg (by simp)]
            have HV2 := Lib.hid hv2
            clear hv2
            go_enter Tryz.func44, Tryz.ntmps44
            go_wp2_with fail
            rw [HW.out]
            refine (HLT.out _).mono ?_
            rintro e w' ⟨rfl, rfl⟩
            go_wp2_with fail
            refine HN.out.mono ?_
            rintro e w' ⟨rfl, rfl⟩
            go_wp2_with fail
            obtain ⟨b1, hnew⟩ := HB.out
            rw [HV2.out]
            refine bodyPost_ret (v := .agg #[.int .u8 0, .string ⟨#[]⟩]) (res_two rfl rfl (by kernel_rfl) (by kernel_rfl) (by first | exact blk_cell hnew 0 | exact blk_cell (blk_set (blk_set hnew 0 (.int .u8 0)) 1 (.string ⟨#[]⟩)) 0) (by first | exact blk_cell hnew 1 | exact blk_cell (blk_set (blk_set hnew 0 (.int .u8 0)) 1 (.string ⟨#[]⟩)) 1)) rfl ⟨rfl, ?_⟩
            first | exact b1 | exact (b1.setCell (Nat.le_refl _) _).setCell (Nat.le_refl _) _
        · subst hm
          cases nb with
          | true =>
            have hv2 : wishV s.data.toList = some (45, s.data.toList.tail) := by rw [HV.out.1, if_pos ⟨.inr rfl, rfl⟩]
            have HV2 := Lib.hid (And.intro hv2 HV.out.2)
            clear hv2
            go_enter Tryz.func44, Tryz.ntmps44
            go_wp2_with fail
            rw [HW.out]
            refine (HLT.out _).mono ?_
            rintro e w' ⟨rfl, rfl⟩
            go_wp2_with fail
            refine HN.out.mono ?_
            rintro e w' ⟨rfl, rfl⟩
            go_wp2_with fail
            go_region_with (fail)
            all_goals go_wp2_with fail
            all_goals
              obtain ⟨b1, hnew⟩ := HB.out
              obtain ⟨hv, hbs⟩ := HV2.out
              rw [hv]
              have hk := blk_set (blk_set (blk_drew hnew) 0 (.int .u8 45)) 1 (.string (s.extract 1 s.size))
              refine bodyPost_ret (v := .agg #[.int .u8 45, .string (s.extract 1 s.size)]) (res_two rfl rfl (by kernel_rfl) (by kernel_rfl) (blk_cell hk 0) (blk_cell hk 1)) rfl ⟨by rw [← hbs]; rfl, ?_⟩
              exact (b1.drew.setCell (Nat.le_refl _) _).setCell (Nat.le_refl _) _
          | false =>
            have hv2 : wishV s.data.toList = none := by rw [HV.out.1, if_neg (by simp)]
            have HV2 := Lib.hid hv2
            clear hv2
            go_enter Tryz.func44, Tryz.ntmps44
            go_wp2_with fail
            rw [HW.out]
            refine (HLT.out _).mono ?_
            rintro e w' ⟨rfl, rfl⟩
            go_wp2_with fail
            refine HN.out.mono ?_
            rintro e w' ⟨rfl, rfl⟩
            go_wp2_with fail
            obtain ⟨b1, hnew⟩ := HB.out
            rw [HV2.out]
            refine bodyPost_ret (v := .agg #[.int .u8 0, .string ⟨#[]⟩]) (res_two rfl rfl (by kernel_rfl) (by kernel_rfl) (by first | exact blk_cell hnew 0 | exact blk_cell (blk_set (blk_set hnew 0 (.int .u8 0)) 1 (.string ⟨#[]⟩)) 0) (by first | exact blk_cell hnew 1 | exact blk_cell (blk_set (blk_set hnew 0 (.int .u8 0)) 1 (.string ⟨#[]⟩)) 1)) rfl ⟨rfl, ?_⟩
            first | exact b1 | exact (b1.setCell (Nat.le_refl _) _).setCell (Nat.le_refl _) _
      · have q1 : ((x.toNat : Int) == 43) = false := u8_ne (c := x) (n := 43) (by omega) (fun e => hm (.inl e))
        have q2 : ((x.toNat : Int) == 45) = false := u8_ne (c := x) (n := 45) (by omega) (fun e => hm (.inr e))
        have hv2 : wishV s.data.toList = none := by rw [HV.out.1, if_neg (fun e => hm e.1)]
        have HV2 := Lib.hid hv2
        clear hm hv2
        go_enter Tryz.func44, Tryz.ntmps44
        go_wp2_with fail
        rw [HW.out]
        refine (HLT.out _).mono ?_
        rintro e w' ⟨rfl, rfl⟩
        go_wp2_with fail
        obtain ⟨b1, hnew⟩ := HB.out
        rw [HV2.out]
        refine bodyPost_ret (v := .agg #[.int .u8 0, .string ⟨#[]⟩]) (res_two rfl rfl (by kernel_rfl) (by kernel_rfl) (by first | exact blk_cell hnew 0 | exact blk_cell (blk_set (blk_set hnew 0 (.int .u8 0)) 1 (.string ⟨#[]⟩)) 0) (by first | exact blk_cell hnew 1 | exact blk_cell (blk_set (blk_set hnew 0 (.int .u8 0)) 1 (.string ⟨#[]⟩)) 1)) rfl ⟨rfl, ?_⟩
        first | exact b1 | exact (b1.setCell (Nat.le_refl _) _).setCell (Nat.le_refl _) _
    · have hs0 : s = ⟨#[]⟩ := ba_ext (by
        have : s.data.toList.length = s.size := rfl
        have h2 : s.data.toList = [] := List.length_eq_zero_iff.1 (by omega)
        rw [h2])
      subst hs0
      clear hc
      go_enter Tryz.func44, Tryz.ntmps44
      go_wp2_with fail
      rw [HW.out]
      refine (HLT.out _).mono ?_
      rintro e w' ⟨rfl, rfl⟩
      go_wp2_with fail
      obtain ⟨b1, hnew⟩ := HB.out
      rw [show wishV (⟨#[]⟩ : ByteArray).data.toList = none by unfold wishV; rw [if_neg (by decide)]]
      refine bodyPost_ret (v := .agg #[.int .u8 0, .string ⟨#[]⟩]) (res_two rfl rfl (by kernel_rfl) (by kernel_rfl) (by first | exact blk_cell hnew 0 | exact blk_cell (blk_set (blk_set hnew 0 (.int .u8 0)) 1 (.string ⟨#[]⟩)) 0) (by first | exact blk_cell hnew 1 | exact blk_cell (blk_set (blk_set hnew 0 (.int .u8 0)) 1 (.string ⟨#[]⟩)) 1)) rfl ⟨rfl, ?_⟩
      first | exact b1 | exact (b1.setCell (Nat.le_refl _) _).setCell (Nat.le_refl _) _
  · have q1 : ((c.toNat : Int) == 0) = false := u8_ne (n := 0) (by omega) h0
    have hv : wishV s.data.toList = some (c, []) := by unfold wishV; rw [hc, if_pos h0]
    have HV := Lib.hid hv
    clear hv h0 hc
    go_enter Tryz.func44, Tryz.ntmps44
    go_wp2_with fail
    rw [HW.out]
    refine (HLT.out _).mono ?_
    rintro e w' ⟨rfl, rfl⟩
    go_wp2_with fail
    obtain ⟨b1, hnew⟩ := HB.out
    have hk := blk_set (blk_set hnew 0 (.int .u8 c.toNat)) 1 (.string ⟨#[]⟩)
    rw [HV.out]
    refine bodyPost_ret (v := .agg #[.int .u8 c.toNat, .string ⟨#[]⟩]) (res_two rfl rfl (by kernel_rfl) (by kernel_rfl) (blk_cell hk 0) (blk_cell hk 1)) rfl ⟨rfl, ?_⟩
    exact (b1.setCell (Nat.le_refl _) _).setCell (Nat.le_refl _) _
end Go.Proofs.YtnoeblnljfnecaaGreatDoor
end
section
/- A box with a row of texts of the call's own. -/
namespace Go.Proofs.YtnoeblnljfnecaaGreatDoor
open Go Go.RowKit

/-- box S holds the row; its blocks are X -/
def BoxB (S base : Nat) (xs : List (List UInt8)) (X : Nat → Prop) (W : World) : Prop := ∃ v, W.heap[S]? = some (.cells #[v] 38 (0, 0)) ∧ OwnT base W v xs ∧ S < base ∧ ∀ k, X k ↔ (k = S ∨ v.ownBlock = some k)
theorem boxB_stays (S base : Nat) (xs : List (List UInt8)) : ∀ X V V', BoxB S base xs X V → (∀ k, X k → k < V.heap.size) → Fr (fun k => ¬ X k) V V' → BoxB S base xs X V' := fun X V V' ⟨v, h1, h2, h3, h4⟩ hl hf =>
  ⟨v, hf.blk h1 (fun e => e ((h4 S).2 (.inl rfl))), ownT_kept h2 fun g hg => hf.block g (h2.lt g hg).2 fun e => e ((h4 g).2 (.inr hg)), h3, h4⟩
/-- a text is put behind the row: what the round leaves -/
theorem boxB_put {S base l : Nat} {rb : Loop} {xs : List (List UInt8)} {x : List UInt8} {X1 : Nat → Prop} {V Vb W2 : World} {vb v1 : Value} (hG : ∀ k, X1 k → k < V.heap.size) (hX1 : ∀ k, X1 k ↔ (k = S ∨ vb.ownBlock = some k)) (hxl : ¬ X1 l) (hfb : Fr (fun k => k = l) V Vb) (hrb : Vb.heap[l]? = some (.loop rb)) (k3b : Vb.heap[S]? = some (.cells #[vb] 38 (0, 0))) (o3b : OwnT base Vb vb xs) (hzs : V.heap.size ≤ Vb.heap.size) (hSl : S < base)
    (hown1 : W2.ownsRow base 9 1 v1 (xs.length + 1) (xs.map encT ++ [encT x])) (hfr1 : Fr (fun k => vb.ownBlock = some k) Vb W2) (htie : ∀ k, v1.ownBlock = some k → vb.ownBlock = some k ∨ Vb.heap.size ≤ k) :
    ∃ X2, GrowX X1 X2 V (W2.setCell ⟨S, 0, none⟩ v1) ∧ Fr (fun k => k = l ∨ X1 k) V (W2.setCell ⟨S, 0, none⟩ v1) ∧ (W2.setCell ⟨S, 0, none⟩ v1).heap[l]? = some (.loop rb) ∧ BoxB S base (xs ++ [x]) X2 (W2.setCell ⟨S, 0, none⟩ v1) := by
  have hn3 : ∀ k, vb.ownBlock = some k → k ≠ S := fun k hk e => by have := (o3b.lt k hk).1; omega
  have e1 : W2.heap[S]? = some (.cells #[vb] 38 (0, 0)) := hfr1.blk k3b fun e => hn3 _ e rfl
  have hown2 : OwnT base W2 v1 (xs ++ [x]) := ownT_snoc hown1
  have hnx : v1.ownBlock ≠ some S := fun e => by have := (hown2.lt _ e).1; omega
  have hlS : l ≠ S := fun e => hxl ((hX1 l).2 (.inl e))
  have hl3 : ¬ vb.ownBlock = some l := fun e => hxl ((hX1 l).2 (.inr e))
  have hsz : (W2.setCell ⟨S, 0, none⟩ v1).heap.size = W2.heap.size := by simp
  refine ⟨fun k => k = S ∨ v1.ownBlock = some k, fun k hk => ?_, (((hfb.mono (Y := fun k => k = l ∨ X1 k) fun k _ e => .inl e).trans3 hfr1 fun k _ e => .inr ((hX1 k).2 (.inr e)))).setCell _ (.inr ((hX1 _).2 (.inl rfl))) _, blk_other (hfr1.blk hrb hl3) _ (by simpa using hlS) _, v1, blk_set e1 0 _, ?_, hSl, fun k => Iff.rfl⟩
  · rw [hsz]
    rcases hk with rfl | hk
    · exact ⟨blk_lt e1, fun _ => (hX1 _).2 (.inl rfl)⟩
    · refine ⟨(hown2.lt k hk).2, fun hlt => ?_⟩
      rcases htie k hk with e | e
      · exact (hX1 k).2 (.inr e)
      · omega
  · exact ownT_kept hown2 fun g hg => heap_setCell_other W2 _ g _ fun e => by simp at e; exact hnx (e ▸ hg)
/-- nothing is put -/
theorem boxB_skip {S base l : Nat} {rb : Loop} {xs : List (List UInt8)} {X1 : Nat → Prop} {V Vb : World} {vb : Value} (hG : ∀ k, X1 k → k < V.heap.size) (hX1 : ∀ k, X1 k ↔ (k = S ∨ vb.ownBlock = some k)) (hfb : Fr (fun k => k = l) V Vb) (hrb : Vb.heap[l]? = some (.loop rb)) (k3b : Vb.heap[S]? = some (.cells #[vb] 38 (0, 0))) (o3b : OwnT base Vb vb xs) (hSl : S < base) :
    ∃ X2, GrowX X1 X2 V Vb ∧ Fr (fun k => k = l ∨ X1 k) V Vb ∧ Vb.heap[l]? = some (.loop rb) ∧ BoxB S base xs X2 Vb :=
  ⟨X1, fun k hk => ⟨Nat.lt_of_lt_of_le (hG k hk) hfb.size, fun _ => hk⟩, hfb.mono (Y := fun k => k = l ∨ X1 k) fun k _ e => .inl e, hrb, vb, k3b, o3b, hSl, hX1⟩
end Go.Proofs.YtnoeblnljfnecaaGreatDoor
end
section
/- Layer 21: the nicknames between commas. -/
namespace Go.Proofs.YtnoeblnljfnecaaGreatDoor
set_option linter.unusedVariables false
set_option linter.unusedSimpArgs false
open Go Go.RowKit Go.Lib Go.Shelf
attribute [local go_sem] Oper.semAt_some

/-- a row of texts of the call's own is returned -/
def RowR (xs : List (List UInt8)) (w : World) (e : Ending) (w' : World) : Prop := (∃ A c, e = .returned (.slice A xs.length c) ∧ OwnT w.heap.size w' (.slice A xs.length c) xs) ∧ RowKit.Below w.heap.size w w'
theorem Rowed.same {w w' : World} (h : Rowed w) (hs : w'.heap[(0 : Nat)]? = w.heap[(0 : Nat)]?) : Rowed w' := fun i hi => by
  obtain ⟨s, h1, h2⟩ := h i hi
  exact ⟨s, (World.cell?_of_block (w := w) (w' := w') (a := ⟨_, i, none⟩) hs).trans h1, h2⟩
theorem Rowed.lt {w : World} (h : Rowed w) : 0 < w.heap.size := by
  obtain ⟨s, h1, _⟩ := h 0 (by decide)
  unfold World.cell? at h1
  cases hb : w.heap[(0 : Nat)]? with
  | none => simp [hb] at h1
  | some o => exact (Array.getElem?_eq_some_iff.1 hb).1
set_option maxRecDepth 100000 in
set_option maxHeartbeats 8000000 in
theorem nicks_v (s : ByteArray) (w : World) (hs : s.size ≤ 1000) (hR : Rowed w) : Calls Tryz.prog 42 #[.string s] w (RowR (nicksV s.data.toList) w) := by
  obtain ⟨i0, hi, hz0, hz1, hz2⟩ := info_parts Tryz.infoT
  refine (callsIn_wide (n := 20)).1 ?_
  refine callsIn_of_wp_marks Tryz.func42 rfl trivial ?_ rfl
  simp only [Tryz.ntmps42, List.size_toArray, List.length_cons, List.length_nil, Nat.reduceAdd, Nat.reduceSub, Array.replicate_succ, Array.replicate_zero, List.push_toArray, List.append_toArray, List.nil_append, List.cons_append]
  gi_wp2_with fail
  refine wpIn_scope ?_
  gi_wp2_with fail
  refine wpIn_label ?_
  gi_wp2_with fail
  refine ⟨trivial, (calls_wide (.inl rfl) (splitc_any s 44 _)).mono ?_⟩
  rintro e w2 ⟨rfl, hw2⟩
  obtain ⟨S, hS⟩ : ∃ S, w.heap.size = S := ⟨_, rfl⟩
  rw [World.size_alloc, hS]
  have kS : w2.heap[S]? = some (.cells #[.slice none 0 0] 38 (0, 0)) := by rw [hw2, ← hS]; exact blk_alloc (blk_alloc (blk_alloc (heap_alloc_new w _) _) _) _
  have kB : SplB (S + 1) 44 s w2 := by
    rw [hw2]
    obtain ⟨u, hu⟩ : ∃ u, w.alloc (.cells #[.slice none 0 0] 38) = u := ⟨_, rfl⟩
    have hz : u.heap.size = S + 1 := by rw [← hu, ← hS]; simp
    rw [hu, ← hz]
    refine ⟨blk_alloc (blk_alloc (heap_alloc_new u _) _) _, blk_alloc (heap_alloc2_new u _ _) _, ?_⟩
    have := heap_alloc2_new (u.alloc (.cells #[.string s] 9)) (.cells #[.string ⟨#[44]⟩] 9) (.cells #[.int .i64 0] 3)
    rwa [World.size_alloc] at this
  have f2 : Fr (fun _ => False) w w2 := by rw [hw2]; exact ((((Fr.refl _ w).alloc _).alloc _).alloc _).alloc _
  have z2 : w2.heap.size = S + 4 := by rw [hw2, ← hS]; simp
  have hR2 := hR.same (f2.block _ hR.lt fun e => e)
  have hRl := hR.lt
  rw [hS] at hRl
  have H := Lib.hid (And.intro kS (And.intro kB (And.intro f2 (And.intro z2 (And.intro hR2 (And.intro hRl hS))))))
  have hlen : (splitC 44 s.data.toList).length ≤ 1001 := Nat.le_trans (splitC_len 44 _) (by have : s.data.toList.length = s.size := rfl; omega)
  have hpl : ∀ p ∈ splitC 44 s.data.toList, p.length ≤ 1000 := fun p hp => Nat.le_trans (splitC_mem_len 44 _ p hp) hs
  have HL := Lib.hid (And.intro hlen hpl)
  clear hw2 kS kB f2 z2 hR2 hRl hS hR hlen hpl
  gi_wp2_with fail
  obtain ⟨kS, kB, f2, z2, hR2, hRl, hS⟩ := H.out
  refine wpIn_rangeZ (X := fun k => k = S) (Y := fun b => b = S + 1 + 1 ∨ b = S + 1 + 1 + 1) (Z := fun b => b = S + 1) (xs := splitC 44 s.data.toList) (encs := encL) (gf := 88) (lb := #[.pointer (some ⟨S + 1 + 1, 0, none⟩), .pointer (some ⟨S + 1, 0, none⟩), .pointer (some ⟨S + 1 + 1 + 1, 0, none⟩)]) (fun pre X W => BoxB S w2.heap.size (pre.filter nickB) X W) (fun _ _ _ _ => False)
    rfl (split_seqZ (S + 1) 44 s w2 (by omega) kB) (fun k hk => ⟨by omega, fun e => by omega⟩) (fun b hb => by omega) (by omega) (enters_of Tryz.func88 (by kernel_rfl) rfl) (fun _ => rfl)
    (fun s => boxB_stays _ _ _) (fun c s X1 V1 V2 h => h.elim) ⟨_, kS, ownT_nil _ _, by omega, fun k => by simp [Value.ownBlock]⟩ ?round ?done (fun _ _ _ _ _ _ _ _ _ _ _ h => h.elim)
  case round =>
    rintro l pre x r X1 V K rb hl2 hpx hI hG hxl hF hlV hK
    dsimp only [encL]
    have HK := Lib.hid hK
    have HV := Lib.hid (And.intro hpx (And.intro hI (And.intro hG (And.intro hxl (And.intro hF (And.intro hlV hl2))))))
    clear hK hpx hI hG hxl hF hlV hl2 f2 kS kB z2 hR2 hRl hS
    gi_wp2_with fail
    refine HK.out _ _ (Fr.refl _ _) fun Vb hfb hzb hsb hrb => ?_
    clear HK K
    obtain ⟨hpx, ⟨vb, k3, o3, hSl, hX1⟩, hG, hxl, hF, hlV, hl2⟩ := HV.out
    obtain ⟨kS, kB, f2, z2, hR2, hRl, hS⟩ := H.out
    have hmem : x ∈ splitC 44 s.data.toList := by rw [← hpx]; exact List.mem_append_right _ List.mem_cons_self
    have hxs := HL.out.2 x hmem
    have hpl : (pre.filter nickB).length ≤ 1001 := by
      have h1 := List.length_filter_le nickB pre
      have h2 := congrArg List.length hpx
      rw [List.length_append] at h2
      have := HL.out.1
      omega
    have k3b := hfb.blk k3 (fun e => hxl ((hX1 l).2 (.inl e.symm)))
    have o3b : OwnT w2.heap.size Vb vb (pre.filter nickB) := ownT_kept o3 fun g hg => hfb.block g (o3.lt g hg).2 fun e => hxl ((hX1 l).2 (.inr (e ▸ hg)))
    have c3 := blk_cell k3b 0
    have hzs : Vb.heap.size = V.heap.size := hzb
    have hbz : w2.heap.size ≤ Vb.heap.size := by omega
    have hRb : Rowed Vb := hR2.same ((hfb.block _ (by have := hF.size; omega) (by omega)).trans (hF.block _ (by omega) (by omega)))
    have hnk := nick_v (bs x) Vb (by rw [bs_size]; omega) hRb
    obtain ⟨b, hb⟩ : ∃ b, nickB x = b := ⟨_, rfl⟩
    rw [show dec (NickP (bs x)) = b from hb] at hnk
    have HN := Lib.hid hnk
    have HE := Lib.hid (And.intro hX1 (And.intro hG (And.intro hxl (And.intro hfb (And.intro hrb (And.intro k3b (And.intro o3b (And.intro hzs (And.intro hlV (And.intro hSl (And.intro hl2 hb)))))))))))
    clear hpx k3 o3 hSl hX1 hG hxl hF hlV hl2 f2 kS kB z2 hR2 hRl hS k3b o3b hfb hzb hsb hrb hzs hRb hnk hmem hxs hb
    gi_wp2_with fail
    refine ⟨trivial, (calls_wide (.inr ⟨l, rfl⟩) HN.out).mono ?_⟩
    rintro e W5 ⟨rfl, rfl⟩
    cases b with
    | false =>
      gi_wp2_with fail
      obtain ⟨hX1, hG, hxl, hfb, hrb, k3b, o3b, hzs, hlV, hSl, hl2, hb⟩ := HE.out
      obtain ⟨X2, a1, a2, a3, a4⟩ := boxB_skip (fun k hk => (hG k hk).1) hX1 hfb hrb k3b o3b hSl
      refine ⟨X2, a1, a2, a3, ?_⟩
      dsimp only
      rw [List.filter_append, List.filter_cons_of_neg (by rw [hb]; decide), List.filter_nil, List.append_nil]
      exact a4
    | true =>
      have hor : Vb.ownsRow w2.heap.size 9 1 vb (pre.filter nickB).length ((pre.filter nickB).map encT) := HE.out.2.2.2.2.2.2.1
      have HO := Lib.hid hor
      clear hor
      gi_wp2_with (gi_at_builtin; refine Hid.out ?_)
      refine Lib.hid ?_
      refine wpListIn_one_t rfl _ _ 38 rfl w2.heap.size 9 i0 _ 1 16 Tryz.underlying38 hi hz0 hz1 hz2 rfl (by decide) _ _ _ rfl HO.out #[.string (bs x)] _ rfl rfl rfl (by intro u hu; simp at hu; subst hu; rfl) (by omega) (by decide) hbz ?_
      intro v1 W2 hown1 hfr1 htie
      obtain ⟨A1, c1', rfl⟩ := row_slice hown1
      have hn3 : ∀ k, vb.ownBlock = some k → k ≠ S := fun k hk e => by have := (HO.out.lt k hk).1; have := HE.out.2.2.2.2.2.2.2.2.2.1; omega
      have e1 : W2.heap[S]? = some (.cells #[vb] 38 (0, 0)) := hfr1.blk HE.out.2.2.2.2.2.1 fun e => hn3 _ e rfl
      have g1 := blk_cell e1 0
      have g2 := blk_free e1 0
      clear hn3
      gi_wp2_with fail
      obtain ⟨hX1, hG, hxl, hfb, hrb, k3b, o3b, hzs, hlV, hSl, hl2, hb⟩ := HE.out
      obtain ⟨X2, a1, a2, a3, a4⟩ := boxB_put (fun k hk => (hG k hk).1) hX1 hxl hfb hrb k3b o3b (by omega) hSl hown1 hfr1 htie
      refine ⟨X2, a1, a2, a3, ?_⟩
      dsimp only
      rw [List.filter_append, List.filter_cons_of_pos (by rw [hb]), List.filter_nil]
      exact a4
  case done =>
    rintro D X2 V hD hxD hG hF ⟨u, k3, o3, hSl, hX2⟩ hdef
    obtain ⟨A, cp, rfl⟩ := row_slice o3
    have c3 := blk_cell k3 0
    have hbV : RowKit.Below w.heap.size w V := ((f2.mono (Y := fun k => S ≤ k) fun _ _ e => e.elim).trans3 hF fun k _ e => by omega).below (Nat.le_refl _) fun k hk e => absurd (show S ≤ k from e) (by omega)
    have HE := Lib.hid (And.intro hbV (And.intro hdef (And.intro o3 (And.intro z2 (And.intro hxD hX2)))))
    obtain ⟨n3, hn3⟩ : ∃ n3, (List.filter nickB (splitC 44 s.data.toList)).length = n3 := ⟨_, rfl⟩
    rw [hn3] at c3
    have HN3 := Lib.hid hn3
    clear k3 o3 hF hdef hxD hX2 hSl hG f2 kS kB z2 hR2 hRl hbV hn3
    gi_wp2_with fail
    rw [noGoto_ret']
    obtain ⟨hbV, hdef, o3, z2, hxD, hX2⟩ := HE.out
    refine leaves_one D _ hdef fun w' hf => ⟨_, results_tmp rfl _ _ _, ⟨A, cp, ?_, ?_⟩, hbV.trans (hf.below hbV.size fun k hk e => by omega)⟩
    · unfold nicksV
      rw [HN3.out]
      rfl
    · exact ownT_base (ownT_kept o3 fun g hg => hf.block g (o3.lt g hg).2 fun e => hxD ((hX2 D).2 (.inr (e ▸ hg)))) (by omega)
end Go.Proofs.YtnoeblnljfnecaaGreatDoor
end
section
/- Layer 21: Monitor. -/
namespace Go.Proofs.YtnoeblnljfnecaaGreatDoor
set_option linter.unusedVariables false
set_option linter.unusedSimpArgs false
open Go Go.RowKit Go.Lib Go.Shelf

theorem undrew {W W' : World} (h : RowKit.Below W.drew.heap.size W.drew W') : RowKit.Below W.heap.size W W' := ⟨h.os, h.tape, h.output, h.size, h.block⟩
theorem names_ops {p q : List UInt8} {r : List (List UInt8)} (h : p = [43] ∨ p = [45]) : namesM (p :: q :: r) = nicksV q := if_pos h
def MonP (ps : List (List UInt8)) (w : World) (e : Ending) (w' : World) : Prop := (∃ A c, e = .returned (.tuple #[.int .u8 (opM ps).toNat, .slice A (namesM ps).length c]) ∧ OwnT w.heap.size w' (.slice A (namesM ps).length c) (namesM ps)) ∧ RowKit.Below w.heap.size w w'
theorem mon_nil {ps : List (List UInt8)} {w : World} {op : Int} (h1 : namesM ps = []) (h2 : ((opM ps).toNat : Int) = op) : MonP ps w (.returned (.tuple #[.int .u8 op, .slice none 0 0])) w := by
  subst h2
  refine ⟨⟨none, 0, by rw [h1]; rfl, ?_⟩, Below.refl _ _⟩
  rw [h1]
  exact ownT_nil _ _
set_option maxRecDepth 100000 in
set_option maxHeartbeats 8000000 in
theorem mon_v (A : Option Addr) (c : Nat) (ps : List (List UInt8)) (w : World) (hl : ps.length ≤ 1000) (hp : ∀ p ∈ ps, p.length ≤ 1000) (hr : ReadsT w A ps) (hR : Rowed w) :
    Calls Tryz.prog 26 #[.slice A ps.length c] w (MonP ps w) := by
  have mixed : (Tryz.prog).follows Departure.mixedOrders = true := by kernel_rfl
  obtain ⟨R, hRR⟩ : ∃ R, MonP ps w = R := ⟨_, rfl⟩
  rw [hRR]
  have HR := Lib.hid hRR
  clear hRR
  rcases ps with _ | ⟨p, r⟩
  · clear hr hR hp hl
    go_enter Tryz.func26, Tryz.ntmps26
    go_wp2_with fail
    rw [← HR.out]
    exact mon_nil rfl rfl
  · obtain ⟨g, o, rfl, hg, hc⟩ := hr (by simp)
    have c0 := hc 0 (by simp)
    rw [Nat.add_zero] at c0
    simp only [List.getElem_cons_zero] at c0
    obtain ⟨n, hn⟩ : ∃ n, (p :: r).length = n := ⟨_, rfl⟩
    have hn0 : (0 : Int) < (n : Int) := by rw [← hn]; simp
    have hn1 : ¬ (n : Int) = 0 := by omega
    have hn2 : ((n : Int) == 0) = false := by simpa using hn1
    have HC := Lib.hid (And.intro hc (And.intro hp hn))
    rw [hn] at hl ⊢
    by_cases h43 : p = [43] ∨ p = [45]
    · rcases h43 with rfl | rfl
      · replace c0 : w.cell? ⟨g, o, none⟩ = some (.string ⟨#[43]⟩) := c0
        rcases r with _ | ⟨q, r⟩
        · obtain rfl : n = 1 := hn.symm
          clear hc hg hp hn hn1 hr hR
          go_enter Tryz.func26, Tryz.ntmps26
          go_wp2_with fail
          rw [← HR.out]
          exact mon_nil rfl rfl
        · have c1 := hc 1 (by simp)
          simp only [List.getElem_cons_succ, List.getElem_cons_zero] at c1
          have hq := hp q (by simp)
          have hn3 : (1 : Int) < (n : Int) := by rw [← hn]; simp; omega
          have hn4 : ((n : Int) == 1) = false := by rw [beq_eq_false_iff_ne]; omega
          have hn5 : ¬ (n : Int) = 1 := by omega
          have hRd : Rowed w.drew := hR.same rfl
          have hnk := nicks_v (bs q) w.drew (by rw [bs_size]; omega) hRd
          rw [bs_toList] at hnk
          have HN := Lib.hid hnk
          have HRw := Lib.hid hRd
          clear hc hg hp hn hn1 hr hR hq hnk hRd
          go_enter Tryz.func26, Tryz.ntmps26
          go_wp2_with fail
          go_region_with (first | ((with_reducible refine HN.out.mono ?_); rintro e w5 ⟨⟨A5, c5, rfl, o5⟩, b5⟩; have H5 := Lib.hid (And.intro o5 b5); clear o5 b5) | fail)
          all_goals
            go_wp2_with fail
            rw [← HR.out]
            go_ret2
            exact ⟨⟨A5, c5, by rw [names_ops (by simp)]; rfl, by rw [names_ops (by simp)]; exact H5.out.1⟩, undrew H5.out.2⟩
      · replace c0 : w.cell? ⟨g, o, none⟩ = some (.string ⟨#[45]⟩) := c0
        rcases r with _ | ⟨q, r⟩
        · obtain rfl : n = 1 := hn.symm
          clear hc hg hp hn hn1 hr hR
          go_enter Tryz.func26, Tryz.ntmps26
          go_wp2_with fail
          rw [← HR.out]
          exact mon_nil rfl rfl
        · have c1 := hc 1 (by simp)
          simp only [List.getElem_cons_succ, List.getElem_cons_zero] at c1
          have hq := hp q (by simp)
          have hn3 : (1 : Int) < (n : Int) := by rw [← hn]; simp; omega
          have hn4 : ((n : Int) == 1) = false := by rw [beq_eq_false_iff_ne]; omega
          have hn5 : ¬ (n : Int) = 1 := by omega
          have hRd : Rowed w.drew := hR.same rfl
          have hnk := nicks_v (bs q) w.drew (by rw [bs_size]; omega) hRd
          rw [bs_toList] at hnk
          have HN := Lib.hid hnk
          have HRw := Lib.hid hRd
          clear hc hg hp hn hn1 hr hR hq hnk hRd
          go_enter Tryz.func26, Tryz.ntmps26
          go_wp2_with fail
          go_region_with (first | ((with_reducible refine HN.out.mono ?_); rintro e w5 ⟨⟨A5, c5, rfl, o5⟩, b5⟩; have H5 := Lib.hid (And.intro o5 b5); clear o5 b5) | fail)
          all_goals
            go_wp2_with fail
            rw [← HR.out]
            go_ret2
            exact ⟨⟨A5, c5, by rw [names_ops (by simp)]; rfl, by rw [names_ops (by simp)]; exact H5.out.1⟩, undrew H5.out.2⟩
    · have hs0 : bs p ≠ ⟨#[43]⟩ := fun e => h43 (.inl (by have := congrArg (fun x : ByteArray => x.data.toList) e; simpa using this))
      have hs1 : bs p ≠ ⟨#[45]⟩ := fun e => h43 (.inr (by have := congrArg (fun x : ByteArray => x.data.toList) e; simpa using this))
      have hlet := fun W => letter_w (bs p) W
      rw [bs_toList] at hlet
      have hM1 : namesM (p :: r) = [] := by
        unfold namesM
        cases r with
        | nil => rfl
        | cons q r' => dsimp only; rw [if_neg h43]
      have hM2 : opM (p :: r) = letV p := by
        unfold opM
        dsimp only
        rw [if_neg (fun e => h43 (.inl e)), if_neg (fun e => h43 (.inr e))]
      obtain ⟨sp, hsp⟩ : ∃ sp, bs p = sp := ⟨_, rfl⟩
      rw [hsp] at c0 hs0 hs1
      simp only [hsp] at hlet
      have q1 : (sp.toList == [43]) = false := by
        rw [beq_eq_false_iff_ne, ByteArray.toList_eq]
        exact fun e => hs0 (ba_ext e)
      have q2 : (sp.toList == [45]) = false := by
        rw [beq_eq_false_iff_ne, ByteArray.toList_eq]
        exact fun e => hs1 (ba_ext e)
      have HL := Lib.hid hlet
      have HM := Lib.hid (And.intro hM1 hM2)
      clear hc hg hp hn hn1 hr hR hs0 hs1 hsp hlet hM1 hM2 h43
      go_enter Tryz.func26, Tryz.ntmps26
      go_wp2_with fail
      refine (HL.out _).mono ?_
      rintro e w' ⟨rfl, rfl⟩
      go_wp2_with fail
      rw [← HR.out]
      exact mon_nil HM.out.1 (by rw [HM.out.2])
end Go.Proofs.YtnoeblnljfnecaaGreatDoor
end
section
/- Layer 21: Watch. -/
namespace Go.Proofs.YtnoeblnljfnecaaGreatDoor
set_option linter.unusedVariables false
set_option linter.unusedSimpArgs false
open Go Go.RowKit Go.Lib Go.Shelf

theorem Tryz.infoWi : (Tryz.prog.info? 58).map (fun i => (i.zero, i.size, i.bytes)) = some (some (.agg #[.int .u8 0, .string ByteArray.empty]), 2, 24) := by kernel_rfl
def encW (x : WishV) : List Value := [.int .u8 x.1.toNat, .string (bs x.2)]
def OwnW (base : Nat) (W : World) (v : Value) (xs : List WishV) : Prop := W.ownsRow base 58 2 v xs.length (xs.flatMap encW)
theorem ownW_nil (base : Nat) (w : World) : OwnW base w (.slice none 0 0) [] := World.ownsRow_nil _ _ _ _
theorem ownW_kept {base : Nat} {w W : World} {v : Value} {xs : List WishV} (h : OwnW base w v xs) (hs : ∀ g, v.ownBlock = some g → W.heap[g]? = w.heap[g]?) : OwnW base W v xs := row_same h hs
def ReadsWi (w : World) (A : Option Addr) (xs : List WishV) : Prop := 0 < xs.length → ∃ g o, A = some ⟨g, o, none⟩ ∧ g < w.heap.size ∧ ∀ j (h : j < xs.length), w.cell? ⟨g, o + j * 2, none⟩ = some (.int .u8 xs[j].1.toNat) ∧ w.cell? ⟨g, o + j * 2 + 1, none⟩ = some (.string (bs xs[j].2))
theorem reads_ownW {base : Nat} {w : World} {A : Option Addr} {n c : Nat} {xs : List WishV} (h : OwnW base w (.slice A n c) xs) : ReadsWi w A xs := fun h0 => by
  have h' := h
  rcases h.2 with ⟨h1, h2⟩ | ⟨g, cap, cur, h1, h3, h4, h5, _, h6, h7⟩
  · omega
  · injection h1 with q1 q2 q3
    subst q1
    have hadd : ∀ j, (⟨g, 0, none⟩ : Addr).add j = ⟨g, 0 + j, none⟩ := fun j => by
      unfold Addr.add
      split
      · simp_all
      · rfl
    have key : ∀ t u, (xs.flatMap encW)[t]? = some u → w.cell? ⟨g, 0 + t, none⟩ = some u := fun t u ht => by
      have := h'.cells (g := g) rfl t u ht
      rwa [hadd] at this
    have fm : ∀ (xs : List WishV) t, t < xs.length * 2 → (xs.flatMap encW)[t]? = (encW (xs.getD (t / 2) (0, [])))[t % 2]? := fun xs => by
      induction xs with
      | nil => intro t ht; simp at ht
      | cons a r ih =>
        intro t ht
        rw [List.flatMap_cons]
        by_cases h2 : t < 2
        · have : t = 0 ∨ t = 1 := by omega
          rcases this with rfl | rfl <;> simp [encW]
        · obtain ⟨u, rfl⟩ : ∃ u, t = u + 2 := ⟨t - 2, by omega⟩
          rw [List.getElem?_append_right (by simp [encW])]
          have e1 : u + 2 - (encW a).length = u := by simp [encW]
          rw [e1, ih u (by simp at ht; omega), show (u + 2) / 2 = u / 2 + 1 by omega, show (u + 2) % 2 = u % 2 by omega]
          rfl
    refine ⟨g, 0, rfl, blk_lt h4, fun j hj => ⟨key (j * 2) _ ?_, ?_⟩⟩
    · rw [fm xs (j * 2) (by omega), Nat.mul_div_cancel j (by decide), Nat.mul_mod_left]
      simp [List.getD, hj, encW]
    · have := key (j * 2 + 1) (.string (bs xs[j].2)) (by
        rw [fm xs (j * 2 + 1) (by omega), show (j * 2 + 1) / 2 = j by omega, show (j * 2 + 1) % 2 = 1 by omega]
        simp [List.getD, hj, encW])
      exact this
def WatP (xs : List WishV) (w : World) (e : Ending) (w' : World) : Prop := (∃ A c, e = .returned (.slice A xs.length c) ∧ OwnW w.heap.size w' (.slice A xs.length c) xs) ∧ RowKit.Below w.heap.size w w'
def sliceLn (v : Value) : Nat := match v with | .slice _ n _ => n | _ => 0
theorem wishV_ne {l : List UInt8} {c : UInt8} {n : List UInt8} (h : wishV l = some (c, n)) : c ≠ 0 := by
  unfold wishV at h
  split at h
  · rename_i h0; cases h; exact h0
  · split at h
    · cases h
    · split at h
      · rename_i h0
        cases h
        rcases h0.1 with rfl | rfl <;> decide
      · cases h
set_option maxRecDepth 100000 in
set_option maxHeartbeats 8000000 in
theorem watch_v (A : Option Addr) (c : Nat) (ps : List (List UInt8)) (w : World) (hl : ps.length ≤ 1000) (hp : ∀ p ∈ ps, p.length ≤ 1000) (hr : ReadsT w A ps) (hR : Rowed w) :
    Calls Tryz.prog 27 #[.slice A ps.length c] w (WatP (watchA ps) w) := by
  obtain ⟨i0, hi0, hz0, hz1, hz2⟩ := info_parts Tryz.infoWi
  by_cases hps : ps = []
  · subst hps
    clear hr hR hp hl
    go_enter Tryz.func27, Tryz.ntmps27
    go_wp2_with fail
    go_ret
    refine ⟨⟨_, _, rfl, ⟨rfl, .inr ⟨w.heap.size, 1, _, rfl, Nat.le_refl _, heap_alloc_new _ _, by simp [watchA], by decide, by simp, rfl⟩⟩⟩, (Below.refl _ _).alloc (Nat.le_refl _) _⟩
  · have hpos : 0 < ps.length := List.length_pos_iff.2 hps
    have hwa : watchA ps = watchV ps := if_neg hps
    rw [hwa]
    obtain ⟨g, o, rfl, hg, hc⟩ := hr hpos
    have q0 : ((ps.length : Int) == 0) = false := by rw [beq_eq_false_iff_ne]; omega
    have HC := Lib.hid (And.intro hc (And.intro hp (And.intro hR hg)))
    have H0 : Hid (OwnW w.heap.size w (.slice none 0 0) (watchV (ps.take 0)) ∧ Below w.heap.size w w) := ⟨ownW_nil _ _, Below.refl _ _⟩
    clear hc hp hR hg hr hwa hps
    go_enter Tryz.func27, Tryz.ntmps27
    go_wp2_with fail
    go_loopw [3, 14] (fun l i wr => ∃ (k m : Nat) (A1 : Option Addr) (c1 : Nat), i = .int .i64 k ∧ k ≤ ps.length ∧ l = .slice A1 m c1 ∧ m ≤ k ∧ Hid (m = (watchV (ps.take k)).length ∧ OwnW w.heap.size wr (.slice A1 m c1) (watchV (ps.take k)) ∧ Below w.heap.size w wr)) (fun _ i _ => ps.length - (RowKit.intOf i).toNat)
    case atStart => exact ⟨0, 0, none, 0, rfl, Nat.zero_le _, rfl, Nat.le_refl _, rfl, H0.out.1, H0.out.2⟩
    case round =>
      obtain ⟨k, m, A1, c1, rfl, hk, rfl, hm, HG⟩ := hrel
      clear H0
      by_cases hlt : k < ps.length
      · obtain ⟨p, hpk⟩ : ∃ p, ps[k] = p := ⟨_, rfl⟩
        have c0 : wr.cell? ⟨g, o + k, none⟩ = some (.string (bs p)) := by rw [← hpk]; exact ((Fr.of_below HG.out.2.2).cell (X := fun _ => False) (p := ⟨g, o + k, none⟩) HC.out.2.2.2 fun e => e).trans (HC.out.1 k hlt)
        have hpl : p.length ≤ 1000 := HC.out.2.1 p (by rw [← hpk]; exact List.getElem_mem hlt)
        have hRw : Rowed wr := HC.out.2.2.1.below (Nat.le_refl _) HG.out.2.2
        have htk : ps.take (k + 1) = ps.take k ++ [p] := by rw [List.take_succ_eq_append_getElem hlt, hpk]
        have hw := wish_v (bs p) wr (by rw [bs_size]; omega) hRw
        rw [bs_toList] at hw
        have hsn := watchV_snoc (ps.take k) p
        rw [← htk] at hsn
        have p0 : (k : Int) < (ps.length : Int) := by omega
        cases ho : wishV p with
        | none =>
          rw [ho] at hw hsn
          unfold wishR at hw
          dsimp only at hw
          have HW := Lib.hid hw
          have HS := Lib.hid hsn
          clear hw hsn htk hRw hpl hpk ho
          go_wp2_with fail
          refine HW.out.mono ?_
          rintro e w5 ⟨rfl, b5⟩
          have B5 := Lib.hid b5
          clear b5 c0
          go_wp2_with fail
          go_roundw
          case rel => exact ⟨k + 1, m, A1, c1, by go_num, by omega, rfl, by omega, by rw [HS.out]; simpa using HG.out.1, by
            rw [HS.out]
            simp only [Option.toList, List.append_nil]
            exact ownW_kept HG.out.2.1 fun j hj => ((Fr.of_below B5.out).alloc (X := fun _ => False) _).block j (HG.out.2.1.lt j hj).2 fun e => e, (HG.out.2.2.trans (B5.out.mono HG.out.2.2.size)).alloc (Nat.le_trans HG.out.2.2.size B5.out.size) _⟩
          case measure => simp [RowKit.intOf]; omega
        | some x =>
          obtain ⟨op, nm⟩ := x
          rw [ho] at hw hsn
          have hne := wishV_ne ho
          have q1 : ((op.toNat : Int) == 0) = false := u8_ne (n := 0) (by omega) hne
          unfold wishR at hw
          dsimp only at hw
          have HW := Lib.hid hw
          have HS := Lib.hid (And.intro hsn hne)
          clear hw hsn htk hRw hpl hpk ho hne
          go_wp2_with fail
          refine HW.out.mono ?_
          rintro e w5 ⟨rfl, b5⟩
          have B5 := Lib.hid b5
          have hz5 := b5.size
          have hzG := HG.out.2.2.size
          clear b5 c0
          have hown : w5.ownsRow w.heap.size 58 2 (.slice A1 m c1) m ((watchV (ps.take k)).flatMap encW) := by
            have := ownW_kept (W := w5) HG.out.2.1 fun j hj => (Fr.of_below (X := fun _ => False) B5.out).block j (HG.out.2.1.lt j hj).2 fun e => e
            unfold OwnW at this
            rwa [← HG.out.1] at this
          obtain ⟨W6, hW6⟩ : ∃ W6, w5.alloc (.cells #[.int .u8 op.toNat, .string (bs nm)] 58) = W6 := ⟨_, rfl⟩
          have f6 : Fr (fun _ => False) w5 W6 := by rw [← hW6]; exact (Fr.refl _ _).alloc _
          have hown6 : W6.ownsRow w.heap.size 58 2 (.slice A1 m c1) m ((watchV (ps.take k)).flatMap encW) := row_same hown fun j hj => f6.block j (hown.lt j hj).2 fun e => e
          have z6 : w.heap.size ≤ W6.heap.size := by have := f6.size; omega
          have HO := Lib.hid (And.intro hown6 (And.intro f6 z6))
          have HW6 := Lib.hid hW6
          clear hown hW6 f6 hown6
          go_wp2_with (at_builtin; refine Hid.out ?_)
          refine Lib.hid ?_
          have z65 : w5.heap.size + 1 = W6.heap.size := by rw [← HW6.out]; simp
          rw [HW6.out, z65]
          refine wpList_one_t rfl _ _ 55 rfl w.heap.size 58 i0 _ 2 24 Tryz.underlying55 hi0 hz0 hz1 hz2 rfl (by decide) _ m ((watchV (ps.take k)).flatMap encW) rfl HO.out.1 #[.int .u8 op.toNat, .string (bs nm)] W6.heap.size rfl rfl rfl (by intro u hu; simp at hu; rcases hu with rfl | rfl <;> rfl) (by omega) (by decide) z6 ?_
          intro v4 W4 o4 f4 t4
          obtain ⟨A4, c4, ev4⟩ := row_slice o4
          subst ev4
          have hnew : (watchV (ps.take (k + 1))).length = m + 1 := by rw [HS.out.1, List.length_append, ← HG.out.1]; rfl
          have HNew : Hid (m + 1 = (watchV (ps.take (k + 1))).length ∧ OwnW w.heap.size W4 (.slice A4 (m + 1) c4) (watchV (ps.take (k + 1))) ∧ Below w.heap.size w W4) := by
            refine ⟨hnew.symm, ?_, ?_⟩
            · unfold OwnW
              rw [hnew, HS.out.1, List.flatMap_append]
              exact o4
            · exact ((HG.out.2.2.trans (B5.out.mono HG.out.2.2.size)).trans (HO.out.2.1.below (by omega) fun _ _ e => e.elim)).trans (f4.below z6 fun j hj e => (HO.out.1.lt j e).1)
          clear o4 f4 t4 hnew
          go_wp2_with fail
          go_roundw
          case rel => exact ⟨k + 1, m + 1, A4, c4, by go_num, by omega, rfl, by omega, HNew⟩
          case measure => simp [RowKit.intOf]; omega
      · obtain rfl : k = ps.length := by omega
        have p1 : ¬ ((ps.length : Int) < (ps.length : Int)) := by omega
        go_wp2_with fail
        go_ret
        obtain ⟨h1, h2, h3⟩ := HG.out
        rw [List.take_length] at h1 h2
        exact ⟨⟨A1, c1, by rw [h1]; rfl, by rw [← h1]; exact h2⟩, h3⟩
end Go.Proofs.YtnoeblnljfnecaaGreatDoor
end
section
/- Layer 21: the answers' Monitor. -/
namespace Go.Proofs.YtnoeblnljfnecaaGreatDoor
set_option linter.unusedVariables false
set_option linter.unusedSimpArgs false
open Go Go.RowKit Go.Lib Go.Shelf

def AtN (l : List UInt8) (k f : Nat) (xs : List (List UInt8)) : Prop := f ≤ k ∧ ∃ dn, dn ++ splitC 44 (l.drop f) = splitC 44 l ∧ (∀ j (h : j < l.length), f ≤ j → j < k → l[j] ≠ 44) ∧ xs = dn.filter nickB
theorem atN_zero (l : List UInt8) : AtN l 0 0 [] := ⟨Nat.le_refl _, [], rfl, fun j h _ h2 => by omega, rfl⟩
theorem AtN.more {l : List UInt8} {k f : Nat} {xs : List (List UInt8)} (h : AtN l k f xs) (hk : k < l.length) (hc : l[k] ≠ 44) : AtN l (k + 1) f xs := by
  obtain ⟨h1, dn, h2, h3, h4⟩ := h
  refine ⟨by omega, dn, h2, fun j hj h5 h6 => ?_, h4⟩
  by_cases e : j = k
  · subst e; exact hc
  · exact h3 j hj h5 (by omega)
theorem at_piece {l : List UInt8} {k f : Nat} (hf : f ≤ k) (hk : k ≤ l.length) (h3 : ∀ j (h : j < l.length), f ≤ j → j < k → l[j] ≠ 44) : (44 : UInt8) ∉ (l.drop f).take (k - f) := fun hm => by
  obtain ⟨i, hi, e⟩ := List.mem_iff_getElem.1 hm
  rw [List.getElem_take, List.getElem_drop] at e
  have hi2 : i < k - f := by rw [List.length_take] at hi; omega
  exact h3 (f + i) (by omega) (by omega) (by omega) e
theorem AtN.cut {l : List UInt8} {k f : Nat} {xs : List (List UInt8)} (h : AtN l k f xs) (hk : k < l.length) (hc : l[k] = 44) : AtN l (k + 1) (k + 1) (xs ++ if nickB ((l.drop f).take (k - f)) then [(l.drop f).take (k - f)] else []) := by
  obtain ⟨h1, dn, h2, h3, h4⟩ := h
  have hp := at_piece h1 (by omega) h3
  have hd : l.drop f = (l.drop f).take (k - f) ++ 44 :: l.drop (k + 1) := by
    have e1 : (l.drop f).drop (k - f) = l.drop k := by rw [List.drop_drop]; congr 1; omega
    have e2 : l.drop k = 44 :: l.drop (k + 1) := by rw [List.drop_eq_getElem_cons hk, hc]
    rw [← e2, ← e1, List.take_append_drop]
  refine ⟨Nat.le_refl _, dn ++ [(l.drop f).take (k - f)], ?_, fun j hj h5 h6 => by omega, ?_⟩
  · rw [← h2]
    conv => rhs; rw [hd]
    rw [splitC_cut _ _ _ hp, List.append_assoc]
    rfl
  · rw [List.filter_append, h4]
    cases hn : nickB ((l.drop f).take (k - f)) <;> simp [List.filter, hn]
theorem AtN.last {l : List UInt8} {f : Nat} {xs : List (List UInt8)} (h : AtN l l.length f xs) : nicksV l = xs ++ if nickB ((l.drop f).take (l.length - f)) then [(l.drop f).take (l.length - f)] else [] := by
  obtain ⟨h1, dn, h2, h3, h4⟩ := h
  have hp := at_piece h1 (Nat.le_refl _) h3
  have hd : (l.drop f).take (l.length - f) = l.drop f := List.take_of_length_le (by rw [List.length_drop]; omega)
  rw [hd] at hp ⊢
  unfold nicksV
  rw [← h2, splitC_none _ _ hp, List.filter_append, h4]
  cases hn : nickB (l.drop f) <;> simp [List.filter, hn]
theorem AtN.len {l : List UInt8} {k f : Nat} {xs : List (List UInt8)} (h : AtN l k f xs) : xs.length ≤ l.length + 1 := by
  obtain ⟨h1, dn, h2, h3, h4⟩ := h
  have a := splitC_len 44 l
  have b := congrArg List.length h2
  rw [List.length_append] at b
  have c := List.length_filter_le nickB dn
  rw [h4]
  omega
theorem ext_list (s : ByteArray) (f k : Nat) : (s.extract f k).data.toList = (s.data.toList.drop f).take (k - f) := by simp [List.extract_eq_take_drop]
def RowG (l : List UInt8) (k f m : Nat) (v : Value) (w W : World) : Prop := ∃ xs, m = xs.length ∧ OwnT w.heap.size W v xs ∧ Below w.heap.size w W ∧ ((k ≤ l.length ∧ AtN l k f xs) ∨ (k = l.length + 1 ∧ xs = nicksV l))
theorem rowG_next {l : List UInt8} {k f : Nat} {xs : List (List UInt8)} (h : AtN l k f xs) (hk : k ≤ l.length) (hc : ∀ h : k < l.length, l[k] = 44) {b : Bool} (hb : nickB ((l.drop f).take (k - f)) = b) {ys : List (List UInt8)} (hy : ys = xs ++ if b then [(l.drop f).take (k - f)] else []) :
    (k + 1 ≤ l.length ∧ AtN l (k + 1) (k + 1) ys) ∨ (k + 1 = l.length + 1 ∧ ys = nicksV l) := by
  subst hb
  subst hy
  by_cases hlt : k < l.length
  · exact .inl ⟨hlt, h.cut hlt (hc hlt)⟩
  · obtain rfl : k = l.length := by omega
    exact .inr ⟨rfl, h.last.symm⟩
end Go.Proofs.YtnoeblnljfnecaaGreatDoor
end
section
/- Layer 21: the answers' Watch. -/
namespace Go.Proofs.YtnoeblnljfnecaaGreatDoor
set_option linter.unusedVariables false
set_option linter.unusedSimpArgs false
open Go Go.RowKit Go.Lib Go.Shelf

theorem add_any0 (g o j : Nat) : (⟨g, o, none⟩ : Addr).add j = ⟨g, o + j, none⟩ := by
  unfold Addr.add
  split
  · simp_all
  · rfl
end Go.Proofs.YtnoeblnljfnecaaGreatDoor
end
section
/- Layer 18: modes.Seq, the letters of a row, as a function that ranges; Takes on both sides. -/
namespace Go.Proofs.YtnoeblnljfnecaaGreatDoor
set_option linter.unusedVariables false
set_option linter.unusedSimpArgs false
open Go.RowKit Go.Shelf
attribute [local go_sem] Oper.semAt_some

/-- a letter, and whether it is on -/
abbrev Letter := UInt8 × Bool
abbrev encLet (x : Letter) : Array Value := #[.int .u8 x.1.toNat, .bool x.2]
/-- the letters of a row, from a sign on -/
def seqL (on : Bool) : List UInt8 → List Letter
  | [] => []
  | c :: r => if c = 43 then seqL true r else if c = 45 then seqL false r else (c, on) :: seqL on r
theorem seqL_len (on : Bool) (l : List UInt8) : (seqL on l).length ≤ l.length := by
  induction l generalizing on with
  | nil => simp [seqL]
  | cons c r ih =>
    unfold seqL
    split
    · have := ih true; simp; omega
    · split
      · have := ih false; simp; omega
      · have := ih on; simp; omega
theorem seqL_at (on : Bool) (s : ByteArray) (k : Nat) (h : k < s.size) : seqL on (s.data.toList.drop k) = if s[k] = 43 then seqL true (s.data.toList.drop (k + 1)) else if s[k] = 45 then seqL false (s.data.toList.drop (k + 1)) else (s[k], on) :: seqL on (s.data.toList.drop (k + 1)) := by
  rw [List.drop_eq_getElem_cons (by simpa using h)]
  rfl





/-- block B lies as it lay -/
def KeptAt (B : Nat) (W1 W' : World) : Prop := W'.heap[B]? = W1.heap[B]?
theorem KeptAt.cell {B : Nat} {W1 W' : World} (h : KeptAt B W1 W') : W'.cell? ⟨B, 0, none⟩ = W1.cell? ⟨B, 0, none⟩ := World.cell?_of_block (w := W1) h

end Go.Proofs.YtnoeblnljfnecaaGreatDoor
end
section
/- Layer 18: changes as data; Lists, the answers' Takes and Same. -/
namespace Go.Proofs.YtnoeblnljfnecaaGreatDoor
set_option linter.unusedVariables false
set_option linter.unusedSimpArgs false
open Go.RowKit

/-- does a letter take an argument? -/
def takesB (c : UInt8) (on : Bool) : Bool := c == 111 || c == 118 || c == 98 || c == 107 || (c == 108 && on)



/-- a change: on, its letter, its argument -/
abbrev Chg := Bool × UInt8 × ByteArray
def chV (x : Chg) : Value := .agg #[.bool x.1, .int .u8 x.2.1.toNat, .string x.2.2]
def listsB (x : Chg) : Bool := x.2.1 == 98 && x.2.2.toList.isEmpty





def eqB (x y : Chg) : Bool := x.1 == y.1 && (x.2.1 == y.2.1 && x.2.2.toList == y.2.2.toList)
theorem eqB_iff {x y : Chg} : eqB x y = true ↔ x = y := by
  obtain ⟨a, b, c⟩ := x
  obtain ⟨a', b', c'⟩ := y
  unfold eqB
  simp only [Bool.and_eq_true, beq_iff_eq, Prod.mk.injEq]
  rw [ByteArray.toList_eq, ByteArray.toList_eq]
  constructor
  · rintro ⟨h1, h2, h3⟩; exact ⟨h1, h2, ba_ext h3⟩
  · rintro ⟨h1, h2, h3⟩; exact ⟨h1, h2, by rw [h3]⟩

def ReadsC (W : World) (v : Value) (l : List Chg) : Prop :=
  (v = .slice none 0 0 ∧ l = []) ∨ ∃ g off cap, v = .slice (some ⟨g, off, none⟩) l.length cap ∧ ∀ i (h : i < l.length), W.cell? ⟨g, off + i * 3, none⟩ = some (.bool l[i].1) ∧ W.cell? ⟨g, off + i * 3 + 1, none⟩ = some (.int .u8 l[i].2.1.toNat) ∧ W.cell? ⟨g, off + i * 3 + 2, none⟩ = some (.string l[i].2.2)

end Go.Proofs.YtnoeblnljfnecaaGreatDoor
end
section
/- Layer 18: the answers' Parse. -/
namespace Go.Proofs.YtnoeblnljfnecaaGreatDoor
set_option linter.unusedVariables false
set_option linter.unusedSimpArgs false
open Go.RowKit

/-- one letter more: the changes, the next argument, how many took one -/
abbrev PSt := List Chg × Nat × Nat
def noArg : ByteArray := ⟨#[]⟩
def stepP (ps : List ByteArray) (st : PSt) (x : Letter) : PSt :=
  if takesB x.1 x.2 = true then
    if st.2.2 = 4 then st
    else if h : st.2.1 < ps.length then (st.1 ++ [(x.2, x.1, ps[st.2.1])], st.2.1 + 1, st.2.2 + 1)
    else if x.1 = 98 then (st.1 ++ [(x.2, x.1, noArg)], st.2.1, st.2.2 + 1)
    else st
  else (st.1 ++ [(x.2, x.1, noArg)], st.2.1, st.2.2)
theorem stepP_no {ps : List ByteArray} {out : List Chg} {a n : Nat} {c : UInt8} {o : Bool} (h : takesB c o = false) : stepP ps (out, a, n) (c, o) = (out ++ [(o, c, noArg)], a, n) := by simp [stepP, h]
theorem stepP_full {ps : List ByteArray} {out : List Chg} {a : Nat} {c : UInt8} {o : Bool} (h : takesB c o = true) : stepP ps (out, a, 4) (c, o) = (out, a, 4) := by simp [stepP, h]
theorem stepP_arg {ps : List ByteArray} {out : List Chg} {a n : Nat} {c : UInt8} {o : Bool} (h : takesB c o = true) (hn : n ≠ 4) (ha : a < ps.length) : stepP ps (out, a, n) (c, o) = (out ++ [(o, c, ps[a])], a + 1, n + 1) := by simp [stepP, h, hn, ha]
theorem stepP_list {ps : List ByteArray} {out : List Chg} {a n : Nat} {o : Bool} (h : takesB 98 o = true) (hn : n ≠ 4) (ha : ¬ a < ps.length) : stepP ps (out, a, n) (98, o) = (out ++ [(o, 98, noArg)], a, n + 1) := by simp [stepP, h, hn, ha]
theorem stepP_drop {ps : List ByteArray} {out : List Chg} {a n : Nat} {c : UInt8} {o : Bool} (h : takesB c o = true) (hn : n ≠ 4) (ha : ¬ a < ps.length) (hc : c ≠ 98) : stepP ps (out, a, n) (c, o) = (out, a, n) := by simp [stepP, h, hn, ha, hc]
def parseM (ps : List ByteArray) : List Chg := if h : 0 < ps.length then ((seqL true ps[0].data.toList).foldl (stepP ps) ([], 1, 0)).1 else []
/-- changes as cells -/
def chL (l : List Chg) : List Value := l.flatMap fun x => [.bool x.1, .int .u8 x.2.1.toNat, .string x.2.2]
theorem chL_snoc (l : List Chg) (x : Chg) : chL (l ++ [x]) = chL l ++ [.bool x.1, .int .u8 x.2.1.toNat, .string x.2.2] := by simp [chL]



end Go.Proofs.YtnoeblnljfnecaaGreatDoor
end
section
/- Layer 18: modes.Parse. -/
namespace Go.Proofs.YtnoeblnljfnecaaGreatDoor
set_option linter.unusedVariables false
set_option linter.unusedSimpArgs false
open Go.RowKit Go.Shelf
attribute [local go_sem] Oper.semAt_some

/-- what is left of the arguments -/
def ArgsAt (pg po : Nat) (ps : List ByteArray) (a : Nat) (v : Value) : Prop :=
  ∃ g o c, v = .slice (some ⟨g, o, none⟩) (ps.length - a) c ∧ ps.length - a ≤ c ∧ (a < ps.length → g = pg ∧ o = po + a)

/-- where the letters have led -/
def stP (ps : List ByteArray) (pre : List Letter) : PSt := pre.foldl (stepP ps) ([], 1, 0)
theorem stP_snoc (ps : List ByteArray) (pre : List Letter) (x : Letter) : stP ps (pre ++ [x]) = stepP ps (stP ps pre) x := by simp [stP]
theorem stP_bounds (ps : List ByteArray) (h : 0 < ps.length) (pre : List Letter) : (stP ps pre).1.length ≤ pre.length ∧ 1 ≤ (stP ps pre).2.1 ∧ (stP ps pre).2.1 ≤ ps.length ∧ (stP ps pre).2.2 ≤ pre.length := by
  have key : ∀ (l : List Letter) (s : PSt) (k : Nat), (s.1.length ≤ k ∧ 1 ≤ s.2.1 ∧ s.2.1 ≤ ps.length ∧ s.2.2 ≤ k) → ((l.foldl (stepP ps) s).1.length ≤ k + l.length ∧ 1 ≤ (l.foldl (stepP ps) s).2.1 ∧ (l.foldl (stepP ps) s).2.1 ≤ ps.length ∧ (l.foldl (stepP ps) s).2.2 ≤ k + l.length) := by
    intro l
    induction l with
    | nil => intro s k hs; simpa using hs
    | cons x r ih =>
      intro s k hs
      have h2 := ih (stepP ps s x) (k + 1) (by
        obtain ⟨h1, h2, h3, h4⟩ := hs
        unfold stepP
        split
        · split
          · exact ⟨by omega, h2, h3, by omega⟩
          · split
            · refine ⟨by simp; omega, by simp, by simp; omega, by simp; omega⟩
            · split
              · exact ⟨by simp; omega, h2, h3, by simp; omega⟩
              · exact ⟨by omega, h2, h3, by omega⟩
        · exact ⟨by simp; omega, h2, h3, by simp; omega⟩)
      simp only [List.foldl_cons, List.length_cons]
      have e : k + 1 + r.length = k + (r.length + 1) := by omega
      rw [e] at h2
      exact h2
  have := key pre ([], 1, 0) 0 (by simp; omega)
  simpa [stP] using this
theorem holds_own {β : Type} (B : Nat) (t : TypeId) (G : β → Value → Prop) : Own (fun s W => ∃ v, Boxed W B t v ∧ G s v) := fun s X Y row ⟨v, hs, hg⟩ hgr hrow =>
  ⟨v, hs.kept hgr (fun e' => by obtain ⟨o, ho, hc⟩ := hrow B e'.symm; rw [show X.heap[B]? = _ from hs] at ho; cases ho; cases hc), hg⟩

theorem grownBy_setAt (W : World) (b o : Nat) (v : Value) : W.grownBy (W.setCell ⟨b, o, none⟩ v) (some b) :=
  ⟨rfl, rfl, rfl, (KeepsWalks.setCell W _ v).size, fun k _ hk => Below.heap_setCell _ _ _ k (fun e => hk (by rw [e]))⟩
theorem boxed_otherAt {W : World} {B B' : Nat} {t : TypeId} {v : Value} (h : Boxed W B t v) (hne : B ≠ B') (o : Nat) (u : Value) : Boxed (W.setCell ⟨B', o, none⟩ u) B t v :=
  h.kept (grownBy_setAt W B' o u) (fun e => hne (by simpa using e))

theorem below_dn' {B : Nat} {a w : World} (h : Below B a w) (n : Nat) : Below B a (w.drewN n) := ⟨h.os, h.tape, h.output, h.size, h.block⟩
theorem keeps_dn' (W : World) (n : Nat) : KeepsOthers W (W.drewN n) := ⟨Nat.le_refl _, fun _ _ h _ => h⟩

theorem slice_from (g o n c : Nat) (h : 1 ≤ n) (hc : n ≤ c) : ∃ g1 o1, (∀ W, (Instr.slice 38 (.slice (some ⟨g, o, none⟩) n c) (some (.int .i64 1)) none none).run Tryz.prog W = .ok (.slice (some ⟨g1, o1, none⟩) (n - 1) (c - 1)) W) ∧ (1 < n → g1 = g ∧ o1 = o + 1) := by
  have hu : Tryz.prog.underlying 38 = some (.slice (Tryz.prog.elem 38)) := by kernel_rfl
  have hz : (Tryz.prog.info? (Tryz.prog.elem 38)).map (·.size) = some 1 := by kernel_rfl
  cases hie : Tryz.prog.info? (Tryz.prog.elem 38) with
  | none => rw [hie] at hz; cases hz
  | some ie =>
    rw [hie] at hz
    simp only [Option.map_some, Option.some.injEq] at hz
    by_cases h1 : c = 1
    · subst h1
      refine ⟨g, o, fun W => ?_, fun h2 => by omega⟩
      rw [run_slice_l W 38 _ _ _ hu _ _ (by omega) (by omega)]
      simp [sliced, sizeOf, hie, hz, go_sem]
    · refine ⟨g, o + 1, fun W => ?_, fun h2 => ⟨rfl, rfl⟩⟩
      rw [run_slice_l W 38 _ _ _ hu _ _ (by omega) (by omega)]
      have h3 : ¬ (c - 1 = 0) := by omega
      simp [sliced, sizeOf, hie, hz, go_sem, h1, Addr.add, show Tryz.t9.size = 1 from rfl]

end Go.Proofs.YtnoeblnljfnecaaGreatDoor
end
section
/- Layer 18: what is written, as data; what is read is good; what is good comes back. -/
namespace Go.Proofs.YtnoeblnljfnecaaGreatDoor
set_option linter.unusedVariables false
set_option linter.unusedSimpArgs false
open Go.RowKit

/-- what is written: the row, the arguments, the sign that stands last -/
abbrev TSt := List UInt8 × List ByteArray × Option Bool
def sgn (on : Bool) : UInt8 := if on then 43 else 45
def stepT (st : TSt) (x : Chg) : TSt :=
  (st.1 ++ (if st.2.2 = some x.1 then [] else [sgn x.1]) ++ [x.2.1], if takesB x.2.1 x.1 = true then st.2.1 ++ [x.2.2] else st.2.1, some x.1)
def textS (l : List Chg) : TSt := l.foldl stepT ([], [], none)
def textM (l : List Chg) : List ByteArray := if l = [] then [] else bs (textS l).1 :: (textS l).2.1
theorem textS_take (l : List Chg) (k : Nat) (h : k < l.length) : textS (l.take (k + 1)) = stepT (textS (l.take k)) l[k] := by
  unfold textS
  rw [List.take_succ_eq_append_getElem h, List.foldl_append]
  rfl
theorem textS_last (l : List Chg) (k : Nat) (h : k < l.length) : (textS (l.take (k + 1))).2.2 = some l[k].1 := by
  rw [textS_take l k h]; rfl

def rowR (p : Option Bool) : List Chg → List UInt8
  | [] => []
  | x :: r => (if p = some x.1 then [] else [sgn x.1]) ++ x.2.1 :: rowR (some x.1) r
def tk (x : Chg) : Bool := takesB x.2.1 x.1
def argsR (l : List Chg) : List ByteArray := (l.filter tk).map (·.2.2)
def manyT (l : List Chg) : Nat := (l.filter tk).length
theorem fold_text : ∀ (l : List Chg) (r : List UInt8) (a : List ByteArray) (p : Option Bool), (l.foldl stepT (r, a, p)).1 = r ++ rowR p l ∧ (l.foldl stepT (r, a, p)).2.1 = a ++ argsR l
  | [], r, a, p => by simp [rowR, argsR]
  | x :: l, r, a, p => by
    have h := fold_text l (stepT (r, a, p) x).1 (stepT (r, a, p) x).2.1 (some x.1)
    have e : (x :: l).foldl stepT (r, a, p) = l.foldl stepT ((stepT (r, a, p) x).1, (stepT (r, a, p) x).2.1, some x.1) := rfl
    rw [e, h.1, h.2]
    refine ⟨by simp [stepT, rowR], ?_⟩
    cases ht : tk x with
    | true =>
      have ht' : takesB x.2.1 x.1 = true := ht
      simp [stepT, argsR, List.filter_cons, ht, ht']
    | false =>
      have ht' : takesB x.2.1 x.1 = false := ht
      simp [stepT, argsR, List.filter_cons, ht, ht']
theorem textS_row (l : List Chg) : (textS l).1 = rowR none l := by unfold textS; simpa using (fold_text l [] [] none).1
theorem textS_args (l : List Chg) : (textS l).2.1 = argsR l := by unfold textS; simpa using (fold_text l [] [] none).2
theorem rowR_len : ∀ (l : List Chg) (p : Option Bool), (rowR p l).length ≤ 2 * l.length
  | [], p => by simp [rowR]
  | x :: r, p => by
    have := rowR_len r (some x.1)
    unfold rowR
    split <;> simp <;> omega
theorem argsR_len (l : List Chg) : (argsR l).length = manyT l := by simp [argsR, manyT]
theorem manyT_le (l : List Chg) : manyT l ≤ l.length := List.length_filter_le _ _
theorem textS_len (l : List Chg) : (textS l).1.length ≤ 2 * l.length ∧ (textS l).2.1.length ≤ l.length := by
  rw [textS_row, textS_args, argsR_len]
  exact ⟨rowR_len l none, manyT_le l⟩

/-! what is read is good -/
def goodC (x : Chg) : Prop := x.2.1 ≠ 43 ∧ x.2.1 ≠ 45 ∧ (tk x = false → x.2.2 = noArg)
theorem seqL_mem : ∀ (l : List UInt8) (on : Bool) (x : Letter), x ∈ seqL on l → x.1 ≠ 43 ∧ x.1 ≠ 45
  | [], on, x, h => by simp [seqL] at h
  | c :: r, on, x, h => by
    unfold seqL at h
    split at h
    · exact seqL_mem r _ x h
    · split at h
      · exact seqL_mem r _ x h
      · rcases List.mem_cons.1 h with rfl | h
        · exact ⟨‹_›, ‹_›⟩
        · exact seqL_mem r _ x h
theorem manyT_snoc (l : List Chg) (x : Chg) : manyT (l ++ [x]) = manyT l + if tk x = true then 1 else 0 := by
  unfold manyT
  rw [List.filter_append, List.length_append]
  cases h : tk x <;> simp [List.filter_cons, h]
def okP (st : PSt) : Prop := (∀ x ∈ st.1, goodC x) ∧ manyT st.1 = st.2.2 ∧ st.2.2 ≤ 4
theorem okP_step (ps : List ByteArray) (st : PSt) (x : Letter) (h1 : x.1 ≠ 43) (h2 : x.1 ≠ 45) (h : okP st) : okP (stepP ps st x) := by
  obtain ⟨out, a, n⟩ := st
  obtain ⟨c, on⟩ := x
  obtain ⟨hg, hm, hn⟩ := h
  simp only at hg hm hn h1 h2
  have snoc : ∀ y : Chg, goodC y → ∀ z ∈ out ++ [y], goodC z := fun y hy z hz => by
    rcases List.mem_append.1 hz with hz | hz
    · exact hg z hz
    · rw [List.mem_singleton.1 hz]; exact hy
  cases ht : takesB c on with
  | false =>
    rw [stepP_no ht]
    have hk : ∀ b, tk (on, c, b) = false := fun b => ht
    exact ⟨snoc _ ⟨h1, h2, fun _ => rfl⟩, by show manyT (out ++ [_]) = n; rw [manyT_snoc, hk]; simpa using hm, hn⟩
  | true =>
    have hk : ∀ b, tk (on, c, b) = true := fun b => ht
    have good : ∀ b, goodC (on, c, b) := fun b => ⟨h1, h2, fun h => by rw [hk] at h; cases h⟩
    have many : ∀ b, manyT (out ++ [(on, c, b)]) = n + 1 := fun b => by rw [manyT_snoc, hk, hm]; rfl
    by_cases h4 : n = 4
    · subst h4; rw [stepP_full ht]; exact ⟨hg, hm, hn⟩
    · by_cases ha : a < ps.length
      · rw [stepP_arg ht h4 ha]; exact ⟨snoc _ (good _), many _, by show n + 1 ≤ 4; omega⟩
      · by_cases hc : c = 98
        · subst hc; rw [stepP_list ht h4 ha]; exact ⟨snoc _ (good _), many _, by show n + 1 ≤ 4; omega⟩
        · rw [stepP_drop ht h4 ha hc]; exact ⟨hg, hm, hn⟩
theorem okP_fold (ps : List ByteArray) : ∀ (l : List Letter) (st : PSt), (∀ x ∈ l, x.1 ≠ 43 ∧ x.1 ≠ 45) → okP st → okP (l.foldl (stepP ps) st)
  | [], st, _, h => h
  | x :: l, st, hl, h => okP_fold ps l _ (fun y hy => hl y (List.mem_cons_of_mem _ hy)) (okP_step ps st x (hl x List.mem_cons_self).1 (hl x List.mem_cons_self).2 h)
theorem parse_good (ps : List ByteArray) : (∀ x ∈ parseM ps, goodC x) ∧ manyT (parseM ps) ≤ 4 := by
  unfold parseM
  split
  · have h := okP_fold ps _ ([], 1, 0) (seqL_mem ps[0].data.toList true) ⟨by simp, rfl, by decide⟩
    exact ⟨h.1, by rw [h.2.1]; exact h.2.2⟩
  · exact ⟨by simp, by decide⟩

/-! what is good comes back -/
theorem seqL_row : ∀ (l : List Chg) (p : Option Bool) (on : Bool), (p = none ∨ p = some on) → (∀ x ∈ l, goodC x) → seqL on (rowR p l) = l.map fun x => (x.2.1, x.1)
  | [], p, on, _, _ => by simp [rowR, seqL]
  | x :: r, p, on, hp, hg => by
    have hx := hg x List.mem_cons_self
    have ih := fun o => seqL_row r (some x.1) o
    have rest := ih x.1 (.inr rfl) fun y hy => hg y (List.mem_cons_of_mem _ hy)
    unfold rowR
    by_cases h : p = some x.1
    · rw [if_pos h]
      have ho : on = x.1 := by
        rcases hp with hp | hp
        · rw [hp] at h; cases h
        · rw [hp] at h; injection h
      subst ho
      show seqL x.1 (x.2.1 :: rowR (some x.1) r) = _
      unfold seqL
      rw [if_neg hx.1, if_neg hx.2.1, rest]
      rfl
    · rw [if_neg h]
      have hs : seqL on (sgn x.1 :: x.2.1 :: rowR (some x.1) r) = seqL x.1 (x.2.1 :: rowR (some x.1) r) := by
        obtain ⟨o, c, b⟩ := x
        cases o
        · rfl
        · rfl
      show seqL on (sgn x.1 :: x.2.1 :: rowR (some x.1) r) = _
      rw [hs]
      show seqL x.1 (x.2.1 :: rowR (some x.1) r) = _
      conv => lhs; unfold seqL
      rw [if_neg hx.1, if_neg hx.2.1, rest]
      rfl
theorem manyT_app (a b : List Chg) : manyT (a ++ b) = manyT a + manyT b := by simp [manyT]
theorem back_fold (row : ByteArray) (l : List Chg) (hg : ∀ x ∈ l, goodC x) (h4 : manyT l ≤ 4) : ∀ (suf pre : List Chg), l = pre ++ suf →
    (suf.map fun x => (x.2.1, x.1)).foldl (stepP (row :: argsR l)) (pre, 1 + manyT pre, manyT pre) = (l, 1 + manyT l, manyT l)
  | [], pre, h => by
    have : l = pre := by simpa using h
    subst this; rfl
  | x :: suf, pre, h => by
    have hl : l = (pre ++ [x]) ++ suf := by rw [h]; simp
    have ih := back_fold row l hg h4 suf (pre ++ [x]) hl
    have hx := hg x (by rw [h]; simp)
    have hm := manyT_snoc pre x
    have hml : manyT l = manyT (pre ++ [x]) + manyT suf := by rw [← manyT_app, ← hl]
    rw [List.map_cons, List.foldl_cons]
    have step : stepP (row :: argsR l) (pre, 1 + manyT pre, manyT pre) (x.2.1, x.1) = (pre ++ [x], 1 + manyT (pre ++ [x]), manyT (pre ++ [x])) := by
      cases ht : tk x with
      | false =>
        have ht' : takesB x.2.1 x.1 = false := ht
        rw [stepP_no ht', hm, ht]
        have : x = (x.1, x.2.1, noArg) := by rw [← hx.2.2 ht]
        rw [← this]; rfl
      | true =>
        have ht' : takesB x.2.1 x.1 = true := ht
        rw [ht] at hm
        simp only [if_true] at hm
        have ha : 1 + manyT pre < (row :: argsR l).length := by rw [List.length_cons, argsR_len]; omega
        have hget : (row :: argsR l)[1 + manyT pre]'ha = x.2.2 := by
          have e1 : argsR l = argsR pre ++ x.2.2 :: argsR suf := by
            rw [h]; unfold argsR; simp [List.filter_append, List.filter_cons, ht]
          have e2 : (row :: argsR l)[1 + manyT pre]? = some x.2.2 := by
            rw [show 1 + manyT pre = manyT pre + 1 by omega, List.getElem?_cons_succ, e1, List.getElem?_append_right (by rw [argsR_len]; exact Nat.le_refl _), argsR_len, Nat.sub_self]
            rfl
          rw [List.getElem?_eq_getElem ha] at e2
          exact Option.some.inj e2
        rw [stepP_arg ht' (by omega) ha, hget, hm, show 1 + manyT pre + 1 = 1 + (manyT pre + 1) by omega]
    rw [step]
    exact ih
theorem back (l : List Chg) (hg : ∀ x ∈ l, goodC x) (h4 : manyT l ≤ 4) : parseM (textM l) = l := by
  by_cases h : l = []
  · subst h; rfl
  · have e : textM l = bs (rowR none l) :: argsR l := by unfold textM; rw [if_neg h, textS_row, textS_args]
    rw [e]
    unfold parseM
    rw [dif_pos (by simp)]
    have := back_fold (bs (rowR none l)) l hg h4 l [] (by simp)
    simp only [List.getElem_cons_zero, bs_toList]
    rw [seqL_row l none true (.inl rfl) hg]
    have h0 : ([], 1, 0) = (([] : List Chg), 1 + manyT [], manyT []) := rfl
    rw [h0, this]
theorem back_parse (ps : List ByteArray) : parseM (textM (parseM ps)) = parseM ps := back _ (parse_good ps).1 (parse_good ps).2
end Go.Proofs.YtnoeblnljfnecaaGreatDoor
end
