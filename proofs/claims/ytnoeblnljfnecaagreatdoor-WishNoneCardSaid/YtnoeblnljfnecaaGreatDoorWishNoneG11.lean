/- Texts of this proof, one behind the other. -/
import Derived.Test.YtnoeblnljfnecaaGreatDoorWishNoneG10
import Derived.Test.YtnoeblnljfnecaaGreatDoorWishNoneG7
import Derived.Test.YtnoeblnljfnecaaGreatDoorWishNoneG4
import Derived.Laws.Entries
import Derived.WalkKit
import Derived.Deep.QuietTactic
import Derived.BigQuiet
import Derived.Outline
import Derived.Lib.Strings
import Derived.Lib.Bytealg
import Derived.Lib.IndexLaws
import Derived.Lib.Walk
import Derived.Test.YtnoeblnljfnecaaGreatDoorWishNoneG3
import Derived.Test.YtnoeblnljfnecaaGreatDoorWishNoneG2
import Derived.Lib.IndexAny
import Derived.Sort.LoopGhostIn
import Derived.IntWalk
section
/- Layer 21: the law's clients. -/
namespace Go.Proofs.YtnoeblnljfnecaaGreatDoor
set_option linter.unusedVariables false
set_option linter.unusedSimpArgs false
open Go Go.RowKit Go.Lib Go.Sort Go.Shelf
attribute [local go_sem] Oper.semAt_some

/-- a box with a row of numbers: its blocks are X -/
def Box21L (S base : Nat) (pre : List Int) (X : Nat → Prop) (W : World) : Prop := ∃ v, W.heap[S]? = some (.cells #[v] 41 (0, 0)) ∧ OwnI base W v pre ∧ S < base ∧ ∀ k, X k ↔ (k = S ∨ v.ownBlock = some k)
theorem box21L_stays (S base : Nat) : Stays (Box21L S base) := fun pre X V V' ⟨v, h1, h2, h3, h4⟩ hl hf =>
  ⟨v, hf.blk h1 (fun e => e ((h4 S).2 (.inl rfl))), own_kept h2 fun g hg => hf.block g (h2.lt g hg).2 fun e => e ((h4 g).2 (.inr hg)), h3, h4⟩
/-- what was told: a row of the call's own, and that it was all -/
def Told21L (xs : List Int) (w : World) (e : Ending) (w' : World) : Prop := (∃ v, e = .returned (.tuple #[v, .bool true]) ∧ OwnI w.heap.size w' v xs) ∧ Below w.heap.size w w'
set_option maxRecDepth 100000 in
set_option maxHeartbeats 4000000 in
theorem clients21 {w : World} {po : Option Addr} {a : List UInt8} {xs : List Int} (hOf : ∀ V, Fr (fun _ => False) w V → Calls Tryz.prog 36 #[.pointer po, .string (bs a)] V (AllP xs V)) (hm : xs.length ≤ 99) : Calls Tryz.prog 16 #[.pointer po, .string (bs a)] w (Told21L xs w) := by
  obtain ⟨i0, hi, hz0, hz1, hz2⟩ := info_parts Tryz.infoI
  have HOf := Lib.hid hOf
  clear hOf
  refine (callsIn_wide (n := 20)).1 ?_
  refine callsIn_of_wp_marks Tryz.func16 rfl trivial ?_ rfl
  simp only [Tryz.ntmps16, List.size_toArray, List.length_cons, List.length_nil, Nat.reduceAdd, Nat.reduceSub, Array.replicate_succ, Array.replicate_zero, List.push_toArray, List.append_toArray, List.nil_append, List.cons_append]
  gi_wp2_with fail
  obtain ⟨w1, hw1⟩ : ∃ w1, ((w.alloc (Obj.cells #[Value.slice none 0 0] 41)).alloc (Obj.cells #[Value.bool false] 4)).alloc (Obj.cells #[Value.slice none 0 0] 41) = w1 := ⟨_, rfl⟩
  rw [hw1]
  have f0 : Fr (fun _ => False) w w1 := by rw [← hw1]; exact (((Fr.refl _ w).alloc _).alloc _).alloc _
  have HO0 := Lib.hid (HOf.out w1 f0)
  have HF0 := Lib.hid (And.intro hw1 f0)
  clear hw1 f0
  refine ⟨trivial, (calls_wide (.inl rfl) HO0.out).mono ?_⟩
  rintro e w2 ⟨⟨F, rfl, hT⟩, hb20⟩
  obtain ⟨Y, hYb, gf, lb, rfl, hseq, hY, heg⟩ := tellsI_tale (base := w1.heap.size) hT (by omega)
  have hnil : ∀ W, (binOp BinOp.eql 75 (.func (.func gf) #[] lb) Value.nilFunc).run Tryz.prog W = .ok (.bool false) W := fun W => by rfl
  have H20 := Lib.hid (And.intro hb20 (And.intro hYb (And.intro hseq (And.intro hY heg))))
  clear hb20 hYb hseq hY heg hT
  gi_wp2_with (simp only [hnil])
  obtain ⟨hw1, f0⟩ := HF0.out
  obtain ⟨hb20, hYb, hseq, hY, heg⟩ := H20.out
  have hfr20 : Fr (fun _ => False) w1 w2 := Fr.of_below hb20
  have z1 : w1.heap.size = w.heap.size + 3 := by rw [← hw1]; simp
  have f1 : Fr (fun _ => False) w w1 := by rw [← hw1]; exact (((Fr.refl _ w).alloc _).alloc _).alloc _
  have hb1 : w1.heap[w.heap.size]? = some (.cells #[.slice none 0 0] 41 (0, 0)) := by rw [← hw1]; exact blk_alloc (blk_alloc (heap_alloc_new w _) _) _
  have hb2 : w1.heap[w.heap.size + 1]? = some (.cells #[.bool false] 4 (0, 0)) := by rw [← hw1]; exact blk_alloc (heap_alloc2_new w _ _) _
  have hb3 : w1.heap[w.heap.size + 2]? = some (.cells #[.slice none 0 0] 41 (0, 0)) := by
    rw [← hw1]
    have := heap_alloc2_new (w.alloc (Obj.cells #[Value.slice none 0 0] 41)) (Obj.cells #[Value.bool false] 4) (Obj.cells #[Value.slice none 0 0] 41)
    rwa [World.size_alloc] at this
  have z2 : w1.heap.size ≤ w2.heap.size := hb20.size
  replace f1 := f1.trans hfr20
  replace hb1 := hfr20.blk hb1 fun e => e
  replace hb2 := hfr20.blk hb2 fun e => e
  replace hb3 := hfr20.blk hb3 fun e => e
  clear hw1 hfr20 hb20 f0
  have H := Lib.hid (And.intro f1 (And.intro hb1 (And.intro hb2 (And.intro z1 z2))))
  refine wpIn_rangeF (X := fun k => k = w.heap.size + 2) (Y := Y) (xs := xs) (encs := encI) (gf := gf) (lb := lb) (Box21L (w.heap.size + 2) w1.heap.size) (fun _ _ _ _ => False)
    rfl hseq (fun k hk => ⟨by omega, fun e => by have := hYb k e; omega⟩) hY (by omega) heg (fun _ => rfl)
    (box21L_stays _ _) (fun c s X1 V1 V2 h => h.elim) ⟨_, hb3, own_nil _ _, by omega, fun k => by simp [Value.ownBlock]⟩ ?round ?done (fun _ _ _ _ _ _ _ _ _ _ _ h => h.elim)
  case round =>
    rintro l pre x r X1 V K rb hl2 hpx hI hG hxl hF hlV hK
    dsimp only [encI]
    have HK := Lib.hid hK
    have HV := Lib.hid (And.intro hpx (And.intro hI (And.intro hG (And.intro hxl (And.intro hF (And.intro hlV hl2))))))
    clear hK hpx hI hG hxl hF hlV hl2 hYb hseq hY heg f1  hb1 hb2 hb3 z1 z2
    gi_wp2_with fail
    refine HK.out _ _ (Fr.refl _ _) fun Vb hfb hzb hsb hrb => ?_
    clear HK K
    obtain ⟨hpx, ⟨vb, k3, o3, hSl, hX1⟩, hG, hxl, hF, hlV, hl2⟩ := HV.out
    obtain ⟨f1, hb1, hb2, z1, z2⟩ := H.out
    have hpl : pre.length + 1 ≤ xs.length := by
      have := congrArg List.length hpx
      simp at this; omega
    have p2 : ¬ ((99 : Int) < (pre.length : Int)) := by omega
    have q2 : decide ((99 : Int) < (pre.length : Int)) = false := decide_eq_false p2
    have k3b := hfb.blk k3 (by omega : ¬ w.heap.size + 2 = l)
    have o3b : OwnI w1.heap.size Vb vb pre := own_kept o3 fun g hg => hfb.block g (o3.lt g hg).2 fun e => hxl ((hX1 l).2 (.inr (e ▸ hg)))
    have c3 := blk_cell k3b 0
    have hzs : Vb.heap.size = V.heap.size := hzb
    have hbz : w1.heap.size ≤ Vb.heap.size := by omega
    have hor : Vb.ownsRow w1.heap.size 3 1 vb pre.length (pre.map (Value.int .i64)) := o3b
    have HO := Lib.hid hor
    have HE := Lib.hid (And.intro hX1 (And.intro hG (And.intro hxl (And.intro hfb (And.intro hrb (And.intro k3b (And.intro o3b (And.intro hzs (And.intro hlV (And.intro hSl hl2))))))))))
    clear hpx k3 o3 hSl hX1 hG hxl hF hlV hl2 f1  hb1 hb2 z1 z2 k3b o3b hor hfb hzb hsb hrb hzs
    have hlen : ∀ W, (Builtin.len_ #[41] 3 #[vb]).run Tryz.prog W = .ok (.int .i64 pre.length) W := fun W => by obtain ⟨A, cp, rfl⟩ := row_slice HO.out; rfl
    gi_wp2_with (first | (gi_at_builtin; refine Hid.out ?_) | simp only [hlen])
    refine Lib.hid ?_
    refine wpListIn_one_t rfl _ _ 41 rfl w1.heap.size 3 i0 _ 1 8 Tryz.underlying41 hi hz0 hz1 hz2 rfl (by decide) _ _ _ rfl HO.out #[.int .i64 x] _ rfl rfl rfl (by intro u hu; simp at hu; subst hu; rfl) (by omega) (by decide) hbz ?_
    intro v1 W2 hown1 hfr1 htie
    obtain ⟨A1, c1', rfl⟩ := row_slice hown1
    have hn3 : ∀ k, vb.ownBlock = some k → k ≠ w.heap.size + 2 := fun k hk e => by have := (HO.out.lt k hk).1; have := HE.out.2.2.2.2.2.2.2.2.2.1; omega
    have e1 : W2.heap[w.heap.size + 2]? = some (.cells #[vb] 41 (0, 0)) := hfr1.blk HE.out.2.2.2.2.2.1 fun e => hn3 _ e rfl
    have g1 := blk_cell e1 0
    have g2 := blk_free e1 0
    have HN := Lib.hid hn3
    clear hn3
    gi_wp2_with fail
    obtain ⟨hX1, hG, hxl, hfb, hrb, k3b, o3b, hzs, hlV, hSl, hl2⟩ := HE.out
    have hn3 := HN.out
    have z2 := H.out.2.2.2.2
    have z1 := H.out.2.2.2.1
    have hown2 : OwnI w1.heap.size W2 (.slice A1 (pre.length + 1) c1') (pre ++ [x]) := by
      unfold OwnI; rw [List.length_append, List.map_append]; exact hown1
    have hnx : (Value.slice A1 (pre.length + 1) c1').ownBlock ≠ some (w.heap.size + 2) := fun e => by have := (hown2.lt _ e).1; omega
    have hfr : Fr (fun k => k = l ∨ X1 k) V (W2.setCell ⟨w.heap.size + 2, 0, none⟩ (.slice A1 (pre.length + 1) c1')) :=
      (((hfb.mono (Y := fun k => k = l ∨ X1 k) fun k _ e => .inl e).trans3 hfr1 fun k _ e => .inr ((hX1 k).2 (.inr e)))).setCell _ (.inr ((hX1 _).2 (.inl rfl))) _
    refine ⟨fun k => k = w.heap.size + 2 ∨ (Value.slice A1 (pre.length + 1) c1').ownBlock = some k, fun k hk => ?_, hfr, ?_, .slice A1 (pre.length + 1) c1', blk_set e1 0 _, ?_, hSl, fun k => Iff.rfl⟩
    · have hz2 := hfr1.size
      have hsz : (W2.setCell ⟨w.heap.size + 2, 0, none⟩ (.slice A1 (pre.length + 1) c1')).heap.size = W2.heap.size := by simp
      rw [hsz]
      rcases hk with rfl | hk
      · exact ⟨blk_lt e1, fun _ => (hX1 _).2 (.inl rfl)⟩
      · refine ⟨(hown2.lt k hk).2, fun hlt => ?_⟩
        rcases htie k hk with e | e
        · exact (hX1 k).2 (.inr e)
        · omega
    · have hl3 : ¬ vb.ownBlock = some l := fun e => hxl ((hX1 l).2 (.inr e))
      exact blk_other (hfr1.blk hrb hl3) _ (by simp; omega) _
    · exact own_kept hown2 fun g hg => heap_setCell_other W2 _ g _ fun e => by simp at e; exact hnx (e ▸ hg)
  case done =>
    rintro D X2 V hD hxD hG hF ⟨v, k3, o3, hSl, hX2⟩ hdef
    obtain ⟨A, cp, rfl⟩ := row_slice o3
    have k1 := hF.blk hb1 (by omega)
    have k2 := hF.blk hb2 (by omega)
    have c1 := blk_cell k1 0
    have f1' := blk_free k1 0
    have c2 := blk_cell k2 0
    have f2 := blk_free k2 0
    have c3 := blk_cell k3 0
    have HE := Lib.hid (And.intro k1 (And.intro k2 (And.intro k3 (And.intro o3 (And.intro hF (And.intro hdef (And.intro hxD (And.intro hX2 (And.intro hSl hD)))))))))
    clear k1 k2 k3 o3 hF hdef hxD hX2 hSl hD hG hYb hseq hY heg f1  hb1 hb2 hb3 z1 z2
    gi_wp2_with fail
    obtain ⟨k1, k2, k3, o3, hF, hdef, hxD, hX2, hSl, hD⟩ := HE.out
    obtain ⟨f1, hb1, hb2, z1, z2⟩ := H.out
    obtain ⟨W3, hW3⟩ : ∃ W3, (V.setCell ⟨w.heap.size, 0, none⟩ (Value.slice A xs.length cp)).setCell ⟨w.heap.size + 1, 0, none⟩ (Value.bool true) = W3 := ⟨_, rfl⟩
    rw [hW3]
    have a1 : W3.heap[w.heap.size]? = some (.cells #[.slice A xs.length cp] 41 (0, 0)) := by
      rw [← hW3]
      exact blk_other (blk_set k1 0 _) _ (by simp) _
    have a2 : W3.heap[w.heap.size + 1]? = some (.cells #[.bool true] 4 (0, 0)) := by
      rw [← hW3]
      exact blk_set (blk_other k2 _ (by simp) _) 0 _
    have a3 : W3.heap[D]? = some (.deferred (some [])) := by
      rw [← hW3]
      exact blk_other (blk_other hdef _ (by simp; omega) _) _ (by simp; omega) _
    have a4 : OwnI w1.heap.size W3 (.slice A xs.length cp) xs := own_kept o3 fun g hg => by
      have := (o3.lt g hg).1
      rw [← hW3]
      exact (heap_setCell_other _ _ g _ (by simp; omega)).trans (heap_setCell_other _ _ g _ (by simp; omega))
    have a5 : Below w.heap.size w W3 := by
      have h5 : Below w.heap.size w V := (f1.mono (Y := fun k => k = w.heap.size + 2) (fun _ _ h => h.elim)).trans3 hF (fun k _ e => e) |>.below (Nat.le_refl _) fun k hk e => by omega
      rw [← hW3]
      exact (h5.setCell (by simp) _).setCell (by simp) _
    refine leaves_one D _ a3 fun w' hf => ?_
    have e1 := hf.blk a1 (by omega)
    have e2 := hf.blk a2 (by omega)
    refine ⟨_, results_box2 rfl _ _ (w.heap.size) (w.heap.size + 1) _ _ _ _ rfl (blk_cell e1 0) rfl (blk_cell e2 0) Tryz.underlying41 rfl Tryz.underlying4 rfl, ⟨.slice A xs.length cp, rfl, ?_⟩, a5.trans (hf.below a5.size fun k _ e => by omega)⟩
    exact row_baseP (own_kept a4 fun g hg => hf.block g (a4.lt g hg).2 fun e => hxD ((hX2 D).2 (.inr (e ▸ hg)))) (by omega)
end Go.Proofs.YtnoeblnljfnecaaGreatDoor
end
section
/- Layer 12, as mathematics: words between blanks; what requests make of capabilities, bit by bit. -/
namespace Go.Proofs.YtnoeblnljfnecaaGreatDoor
open Go

/-- the pieces between blanks -/
def splitL : List UInt8 → List (List UInt8)
  | [] => [[]]
  | c :: r => if c = 32 then [] :: splitL r else match splitL r with
    | [] => [[c]]
    | p :: ps => (c :: p) :: ps
theorem splitL_ne : ∀ l, splitL l ≠ []
  | [] => by simp [splitL]
  | c :: r => by
    unfold splitL
    split
    · simp
    · split <;> simp
theorem splitL_none : ∀ p : List UInt8, (32 : UInt8) ∉ p → splitL p = [p]
  | [], _ => rfl
  | c :: r, h => by
    have h1 : c ≠ 32 := fun e => h (by rw [e]; exact List.mem_cons_self)
    unfold splitL
    rw [if_neg h1, splitL_none r (fun e => h (List.mem_cons_of_mem _ e))]
theorem splitL_cut : ∀ (p q : List UInt8), (32 : UInt8) ∉ p → splitL (p ++ 32 :: q) = p :: splitL q
  | [], q, _ => by simp [splitL]
  | c :: r, q, h => by
    have h1 : c ≠ 32 := fun e => h (by rw [e]; exact List.mem_cons_self)
    rw [List.cons_append]
    conv => lhs; unfold splitL
    rw [if_neg h1, splitL_cut r q (fun e => h (List.mem_cons_of_mem _ e))]
theorem splitL_blank (r : List UInt8) : splitL (32 :: r) = [] :: splitL r := by
  conv => lhs; unfold splitL
  rw [if_pos rfl]
theorem splitL_more {c : UInt8} {r p : List UInt8} {ps : List (List UInt8)} (h : c ≠ 32) (hs : splitL r = p :: ps) : splitL (c :: r) = (c :: p) :: ps := by
  conv => lhs; unfold splitL
  rw [if_neg h, hs]
theorem splitL_append : ∀ (a b : List UInt8), splitL (a ++ 32 :: b) = splitL a ++ splitL b
  | [], b => by rw [List.nil_append, splitL_blank]; rfl
  | c :: r, b => by
    have ih := splitL_append r b
    rw [List.cons_append]
    by_cases hc : c = 32
    · subst hc; rw [splitL_blank, splitL_blank, ih]; rfl
    · cases hs : splitL r with
      | nil => exact absurd hs (splitL_ne r)
      | cons p ps =>
        rw [hs] at ih
        rw [splitL_more hc hs, splitL_more hc (by rw [ih]; rfl)]
        rfl
theorem splitL_len : ∀ l : List UInt8, (splitL l).length ≤ l.length + 1
  | [] => by simp [splitL]
  | c :: r => by
    have := splitL_len r
    unfold splitL
    split
    · simp; omega
    · split
      · simp
      · rename_i h; rw [h] at this; simp at this ⊢; omega

/-! whole numbers of 64 bits -/
theorem wrap_nat (v : BitVec 64) : IntKind.i64.wrap ((v.toNat : Nat) : Int) = v.toInt := by
  have h := v.isLt
  rw [IntKind.wrap_i64, BitVec.toInt_eq_toNat_cond]
  split <;> omega
/-- what a whole number is, of 64 bits -/
def IV (v : BitVec 64) : Int := v.toInt
theorem of_toInt (v : BitVec 64) : BitVec.ofInt 64 v.toInt = v := BitVec.ofInt_toInt
theorem bits_or_v (v m : BitVec 64) : bits .or .i64 (IV v) (IV m) = IV (v ||| m) := by
  show IntKind.i64.wrap (((BitVec.ofInt 64 v.toInt ||| BitVec.ofInt 64 m.toInt).toNat : Nat) : Int) = _
  rw [of_toInt, of_toInt, wrap_nat]; rfl
theorem bits_and_v (v m : BitVec 64) : bits .and .i64 (IV v) (IV m) = IV (v &&& m) := by
  show IntKind.i64.wrap (((BitVec.ofInt 64 v.toInt &&& BitVec.ofInt 64 m.toInt).toNat : Nat) : Int) = _
  rw [of_toInt, of_toInt, wrap_nat]; rfl
theorem bits_xor_v (v m : BitVec 64) : bits .xor .i64 (IV v) (IV m) = IV (v ^^^ m) := by
  show IntKind.i64.wrap (((BitVec.ofInt 64 v.toInt ^^^ BitVec.ofInt 64 m.toInt).toNat : Nat) : Int) = _
  rw [of_toInt, of_toInt, wrap_nat]; rfl
theorem bits_andNot_v (v m : BitVec 64) : bits .andNot .i64 (IV v) (IV m) = IV (v &&& ~~~m) := by
  show IntKind.i64.wrap (((BitVec.ofInt 64 v.toInt &&& ~~~BitVec.ofInt 64 m.toInt).toNat : Nat) : Int) = _
  rw [of_toInt, of_toInt, wrap_nat]; rfl
theorem IV_beq (v m : BitVec 64) : (IV v == IV m) = (v == m) := by
  unfold IV
  rw [Bool.eq_iff_iff, beq_iff_eq, beq_iff_eq]
  exact ⟨fun h => BitVec.eq_of_toInt_eq h, fun h => by rw [h]⟩
theorem bit_eq {v m : BitVec 64} (h : ∀ i, v.getLsbD i = m.getLsbD i) : v = m := BitVec.eq_of_getLsbD_eq fun i _ => h i
theorem toggle_set {v m : BitVec 64} (h : v &&& m = m) : v ||| m = v ∧ v ^^^ m = v &&& ~~~m := by
  have hb : ∀ i, (v.getLsbD i && m.getLsbD i) = m.getLsbD i := fun i => by rw [← BitVec.getLsbD_and, h]
  refine ⟨BitVec.eq_of_getLsbD_eq fun i hi => ?_, BitVec.eq_of_getLsbD_eq fun i hi => ?_⟩
  · have := hb i
    rw [BitVec.getLsbD_or]
    cases hv : v.getLsbD i <;> cases hm : m.getLsbD i <;> simp_all
  · have := hb i
    rw [BitVec.getLsbD_xor, BitVec.getLsbD_and, BitVec.getLsbD_not]
    cases hv : v.getLsbD i <;> cases hm : m.getLsbD i <;> simp_all
theorem toggle_clear {v m : BitVec 64} (h : v &&& m = 0#64) : v ||| m = v ^^^ m ∧ v &&& ~~~m = v := by
  have hb : ∀ i, (v.getLsbD i && m.getLsbD i) = false := fun i => by rw [← BitVec.getLsbD_and, h]; simp
  refine ⟨BitVec.eq_of_getLsbD_eq fun i hi => ?_, BitVec.eq_of_getLsbD_eq fun i hi => ?_⟩
  · have := hb i
    rw [BitVec.getLsbD_or, BitVec.getLsbD_xor]
    cases hv : v.getLsbD i <;> cases hm : m.getLsbD i <;> simp_all
  · have := hb i
    rw [BitVec.getLsbD_and, BitVec.getLsbD_not]
    cases hv : v.getLsbD i <;> cases hm : m.getLsbD i <;> simp_all

/-! capabilities -/
def awayL : List UInt8 := [97, 119, 97, 121, 45, 110, 111, 116, 105, 102, 121]
def echoL : List UInt8 := [101, 99, 104, 111, 45, 109, 101, 115, 115, 97, 103, 101]
def multiL : List UInt8 := [109, 117, 108, 116, 105, 45, 112, 114, 101, 102, 105, 120]
/-- a name's number -/
def numV (l : List UInt8) : BitVec 64 := if l = awayL then 1#64 else if l = echoL then 2#64 else if l = multiL then 4#64 else 0#64
theorem numV_bit (l : List UInt8) (h : numV l ≠ 0#64) (v : BitVec 64) : v &&& numV l = numV l ∨ v &&& numV l = 0#64 := by
  have two : ∀ i, v &&& BitVec.twoPow 64 i = BitVec.twoPow 64 i ∨ v &&& BitVec.twoPow 64 i = 0#64 := fun i => by
    rw [BitVec.and_twoPow]
    split
    · exact .inl rfl
    · exact .inr rfl
  unfold numV at h ⊢
  split
  · exact two 0
  · split
    · exact two 1
    · split
      · exact two 2
      · simp_all
/-- a word's name, and whether it is taken off -/
def cutV : List UInt8 → List UInt8 × Bool
  | [] => ([], false)
  | c :: r => if c = 45 then (r, true) else (c :: r, false)
def stepV (v m : BitVec 64) (off : Bool) : BitVec 64 := if off then v &&& ~~~m else v ||| m
def appV (h : BitVec 64) : BitVec 64 → List (List UInt8) → BitVec 64 × Bool
  | v, [] => (v, true)
  | v, w :: r => if w = [] then appV h v r else if numV (cutV w).1 = 0#64 then (h, false) else appV h (stepV v (numV (cutV w).1) (cutV w).2) r
theorem appV_skip {h v : BitVec 64} {r : List (List UInt8)} : appV h v ([] :: r) = appV h v r := by simp [appV]
theorem appV_bad {h v : BitVec 64} {w : List UInt8} {r : List (List UInt8)} (hw : w ≠ []) (hn : numV (cutV w).1 = 0#64) : appV h v (w :: r) = (h, false) := by simp [appV, hw, hn]
theorem appV_good {h v : BitVec 64} {w : List UInt8} {r : List (List UInt8)} (hw : w ≠ []) (hn : numV (cutV w).1 ≠ 0#64) : appV h v (w :: r) = appV h (stepV v (numV (cutV w).1) (cutV w).2) r := by simp [appV, hw, hn]
/-- the document's step is the same -/
theorem step_same (l : List UInt8) (hl : numV l ≠ 0#64) (v : BitVec 64) (on : Bool) : (if ((v &&& numV l) == numV l) != on then v ^^^ numV l else v) = stepV v (numV l) (!on) := by
  unfold stepV
  rcases numV_bit l hl v with h | h
  · have := toggle_set h
    rw [h, this.1, ← this.2]
    cases on <;> simp
  · have := toggle_clear h
    rw [h, this.1, this.2]
    have h0 : (0#64 == numV l) = false := by rw [beq_eq_false_iff_ne]; exact fun e => hl e.symm
    rw [h0]
    cases on <;> simp
theorem form_off (v m M S : BitVec 64) : ((v &&& ~~~m) &&& ~~~M) ||| S = (v &&& ~~~(m ||| M)) ||| S := BitVec.eq_of_getLsbD_eq fun i hi => by
  simp only [BitVec.getLsbD_or, BitVec.getLsbD_and, BitVec.getLsbD_not, hi]
  cases v.getLsbD i <;> cases m.getLsbD i <;> cases M.getLsbD i <;> cases S.getLsbD i <;> rfl
theorem form_on (v m M S : BitVec 64) : ((v ||| m) &&& ~~~M) ||| S = (v &&& ~~~M) ||| ((m &&& ~~~M) ||| S) := BitVec.eq_of_getLsbD_eq fun i hi => by
  simp only [BitVec.getLsbD_or, BitVec.getLsbD_and, BitVec.getLsbD_not, hi]
  cases v.getLsbD i <;> cases m.getLsbD i <;> cases M.getLsbD i <;> cases S.getLsbD i <;> rfl
theorem form_twice (v M S : BitVec 64) : ((((v &&& ~~~M) ||| S) &&& ~~~M) ||| S) = (v &&& ~~~M) ||| S := BitVec.eq_of_getLsbD_eq fun i hi => by
  simp only [BitVec.getLsbD_or, BitVec.getLsbD_and, BitVec.getLsbD_not, hi]
  cases v.getLsbD i <;> cases M.getLsbD i <;> cases S.getLsbD i <;> rfl
theorem appV_form : ∀ ws : List (List UInt8), (∃ M S : BitVec 64, ∀ h v, appV h v ws = ((v &&& ~~~M) ||| S, true)) ∨ (∀ h v, appV h v ws = (h, false))
  | [] => .inl ⟨0#64, 0#64, fun h v => by
      have : (v &&& ~~~(0#64)) ||| 0#64 = v := BitVec.eq_of_getLsbD_eq fun i hi => by
        have h0 : (0#64).getLsbD i = false := by simp
        rw [BitVec.getLsbD_or, BitVec.getLsbD_and, BitVec.getLsbD_not, h0]
        simp only [hi, decide_true, Bool.true_and, Bool.not_false, Bool.and_true, Bool.or_false]
      rw [this]; rfl⟩
  | w :: r => by
    by_cases hw : w = []
    · subst hw
      rcases appV_form r with ⟨M, S, hf⟩ | hf
      · exact .inl ⟨M, S, fun h v => by rw [appV_skip, hf]⟩
      · exact .inr fun h v => by rw [appV_skip, hf]
    · by_cases hn : numV (cutV w).1 = 0#64
      · exact .inr fun h v => appV_bad hw hn
      · rcases appV_form r with ⟨M, S, hf⟩ | hf
        · cases ho : (cutV w).2 with
          | true => exact .inl ⟨numV (cutV w).1 ||| M, S, fun h v => by rw [appV_good hw hn, hf, ho]; unfold stepV; rw [if_pos rfl, form_off]⟩
          | false => exact .inl ⟨M, (numV (cutV w).1 &&& ~~~M) ||| S, fun h v => by rw [appV_good hw hn, hf, ho]; unfold stepV; rw [if_neg (by simp), form_on]⟩
        · exact .inr fun h v => by rw [appV_good hw hn, hf]
theorem appV_append (h : BitVec 64) : ∀ (a b : List (List UInt8)) (v : BitVec 64), appV h v (a ++ b) = if (appV h v a).2 then appV h (appV h v a).1 b else (h, false)
  | [], b, v => by simp [appV]
  | w :: r, b, v => by
    rw [List.cons_append]
    by_cases hw : w = []
    · subst hw; rw [appV_skip, appV_skip, appV_append h r b v]
    · by_cases hn : numV (cutV w).1 = 0#64
      · rw [appV_bad hw hn, appV_bad hw hn]; simp
      · rw [appV_good hw hn, appV_good hw hn, appV_append h r b]
/-- what a request makes of capabilities -/
def capV (h : BitVec 64) (l : List UInt8) : BitVec 64 × Bool := appV h h (splitL l)
theorem cap_again (h : BitVec 64) (l : List UInt8) : capV (capV h l).1 l = capV h l := by
  unfold capV
  rcases appV_form (splitL l) with ⟨M, S, hf⟩ | hf
  · rw [hf, hf, form_twice]
  · rw [hf, hf]
theorem cap_two (h : BitVec 64) (a b : List UInt8) :
    ((capV h a).2 = true ∧ (capV (capV h a).1 b).2 = true → capV h (a ++ 32 :: b) = ((capV (capV h a).1 b).1, true)) ∧
    (¬ ((capV h a).2 = true ∧ (capV (capV h a).1 b).2 = true) → capV h (a ++ 32 :: b) = (h, false)) ∧ ((capV h a).2 = false → (capV h a).1 = h) ∧ ((capV (capV h a).1 b).2 = false → (capV (capV h a).1 b).1 = (capV h a).1) := by
  unfold capV
  rw [splitL_append, appV_append]
  rcases appV_form (splitL a) with ⟨M, S, hf⟩ | hf <;> rcases appV_form (splitL b) with ⟨M', S', hg⟩ | hg <;> simp only [hf, hg] <;> simp
end Go.Proofs.YtnoeblnljfnecaaGreatDoor
end
section
/- valid.kindOf: what a byte is, where the rows of bytes lie as they are laid. -/
namespace Go.Proofs.YtnoeblnljfnecaaGreatDoor
open Go.RowKit

set_option maxRecDepth 100000 in
theorem idxByte0 (s : ByteArray) (c : Int) (w : World) :
    Calls Tryz.prog 118 #[.string s, .int .u8 c] w fun e w' => e = .returned (.int .i64 (Lib.indexByte s.data.toList c.toNat.toUInt8)) ∧ w = w' := by
  go_enter Tryz.func118, Tryz.ntmps118
  go_wp2
  rw [run_callFunc_extern Tryz.func142 (by kernel_rfl) (by kernel_rfl) (by kernel_rfl) (e := Extern.BytealgIndexByte.indexByte) (by kernel_rfl), Lib.run_indexByteString]
  simp only [Result.andThen]
  rw [Oper.upon_value]
  go_wp2
  go_ret
  exact ⟨rfl, rfl⟩
theorem idxByte (s : ByteArray) (c : Int) (w : World) :
    Calls Tryz.prog 109 #[.string s, .int .u8 c] w fun e w' => e = .returned (.int .i64 (Lib.indexByte s.data.toList c.toNat.toUInt8)) ∧ w = w' := by
  go_enter Tryz.func109, Tryz.ntmps109
  go_wp2_with (go_at_call 118; refine (idxByte0 _ _ _).mono ?_; rintro e w' ⟨rfl, rfl⟩)
  go_ret
  exact ⟨rfl, rfl⟩

/-- the rows of bytes, as they are laid -/
def laidRow (i : Nat) : List UInt8 := ([[65, 66, 67, 68, 69, 70, 71, 72, 73, 74, 75, 76, 77, 78, 79, 80, 81, 82, 83, 84, 85, 86, 87, 88, 89, 90, 97, 98, 99, 100, 101, 102, 103, 104, 105, 106, 107, 108, 109, 110, 111, 112, 113, 114, 115, 116, 117, 118, 119, 120, 121, 122], [48, 49, 50, 51, 52, 53, 54, 55, 56, 57], [91, 93, 92, 95, 94, 123, 124, 125, 96], [45], [46], [58], [44], [33, 64, 42, 63], [0, 13, 10], [7], [32]] : List (List UInt8)).getD i []
def Rowed (w : World) : Prop := ∀ i, i < 11 → ∃ s : ByteArray, w.cell? ⟨0, i, none⟩ = some (.string s) ∧ s.data.toList = laidRow i

/-- what a byte is, by the first rows -/
def kAcc (b : UInt8) : Nat → Int
  | 0 => 0
  | k + 1 => if 0 ≤ Lib.indexByte (laidRow k) b then bits .or .i64 (kAcc b k) (2 ^ k) else kAcc b k

theorem kAcc_yes {b : UInt8} {k : Nat} (hk : k < 11) (h : 0 ≤ Lib.indexByte (laidRow k) b) : bits .or .i64 (kAcc b k) (wrap64 (2 ^ k)) = kAcc b (k + 1) := by
  have e : wrap64 (2 ^ k) = 2 ^ k := by
    rcases (by omega : k = 0 ∨ k = 1 ∨ k = 2 ∨ k = 3 ∨ k = 4 ∨ k = 5 ∨ k = 6 ∨ k = 7 ∨ k = 8 ∨ k = 9 ∨ k = 10) with rfl|rfl|rfl|rfl|rfl|rfl|rfl|rfl|rfl|rfl|rfl <;> decide +kernel
  rw [e, kAcc, if_pos h]
theorem kAcc_no {b : UInt8} {k : Nat} (h : Lib.indexByte (laidRow k) b < 0) : kAcc b k = kAcc b (k + 1) := by
  rw [kAcc, if_neg (by omega)]

set_option maxHeartbeats 1000000 in
theorem kind_any (b : UInt8) (w : World) (hr : Rowed w) :
    Calls Tryz.prog 91 #[.int .u8 ↑b.toNat] w fun e w' => e = .returned (.int .i64 (kAcc b 11)) ∧ w = w' := by
  go_enter Tryz.func91, Tryz.ntmps91
  go_wp2_with fail
  go_loopw [3, 4, 5] (fun v _ i wr => ∃ k : Nat, k ≤ 11 ∧ i = .int .i64 k ∧ v = .int .i64 (kAcc b k) ∧ wr = w) (fun _ _ i _ => 11 - (Go.RowKit.intOf i).toNat)
  case atStart => exact ⟨0, by omega, rfl, rfl, rfl⟩
  case round =>
    obtain ⟨k, hk, rfl, rfl, rfl⟩ := hrel
    by_cases hlt : k < 11
    · obtain ⟨s, hs, hl⟩ := hr k hlt
      go_wp2_with (go_at_call 109; refine (idxByte _ _ _).mono ?_; rintro e w' ⟨rfl, rfl⟩)
      all_goals rename_i _h0 hx
      all_goals try (rw [show ((b.toNat : Int)).toNat.toUInt8 = b from by simp] at hx)
      all_goals refine ⟨⟨k + 1, by omega, by push_cast; rfl, ?_, by simp⟩, by simp only [Go.RowKit.intOf]; omega⟩
      all_goals first | rw [kAcc_yes hlt hx] | rw [kAcc_no hx]
    · obtain rfl : k = 11 := by omega
      go_wp2_with fail
      go_ret
      exact ⟨rfl, rfl⟩
end Go.Proofs.YtnoeblnljfnecaaGreatDoor
end
section
/- valid.sized, only, none, plain, and the answers' in, Letter, Digit, Sign: what each tells. -/
namespace Go.Proofs.YtnoeblnljfnecaaGreatDoor
open Go.RowKit

/-- all bytes of a text, with their places, are so -/
noncomputable def allI (s : ByteArray) (p : Nat → UInt8 → Bool) : Bool := @decide (∀ i (h : i < s.size), p i s[i] = true) (Classical.propDecidable _)
theorem allI_iff {s : ByteArray} {p : Nat → UInt8 → Bool} : allI s p = true ↔ ∀ i (h : i < s.size), p i s[i] = true := by
  unfold allI; exact @decide_eq_true_iff _ (Classical.propDecidable _)
theorem allI_no {s : ByteArray} {p : Nat → UInt8 → Bool} {k : Nat} (h : k < s.size) (hp : p k s[k] = false) : false = allI s p := by
  cases e : allI s p with
  | false => rfl
  | true => rw [allI_iff.1 e k h] at hp; cases hp
theorem allI_yes {s : ByteArray} {p : Nat → UInt8 → Bool} {k : Nat} (hk : s.size ≤ k) (h : ∀ i, i < k → ∀ (hi : i < s.size), p i s[i] = true) : true = allI s p :=
  (allI_iff.2 fun i hi => h i (by omega) hi).symm
theorem all_step {s : ByteArray} {p : Nat → UInt8 → Bool} {k : Nat} (h : ∀ i, i < k → ∀ (hi : i < s.size), p i s[i] = true) (hk : k < s.size) (hp : p k s[k] = true) :
    ∀ i, i < k + 1 → ∀ (hi : i < s.size), p i s[i] = true := by
  intro i h1 h2
  by_cases e : i = k
  · subst e; exact hp
  · exact h i (by omega) h2

/-- is a byte of one of some kinds? -/
def isK (kinds : Int) (b : UInt8) : Bool := !(bits .and .i64 (kAcc b 11) kinds == 0)

set_option maxHeartbeats 1000000 in
theorem only_any (s : ByteArray) (kinds : Int) (w : World) (hs : s.size ≤ 1000000) (hr : Rowed w) :
    Calls Tryz.prog 75 #[.string s, .int .i64 kinds] w fun e w' => e = .returned (.bool (allI s fun _ b => isK kinds b)) ∧ w = w' := by
  go_enter Tryz.func75, Tryz.ntmps75
  go_wp2_with fail
  go_loopw [8] (fun i wr => ∃ k : Nat, k ≤ s.size ∧ i = .int .i64 k ∧ (∀ i, i < k → ∀ (hi : i < s.size), (fun _ b => isK kinds b) i s[i] = true) ∧ wr = w) (fun i _ => s.size - (Go.RowKit.intOf i).toNat)
  case atStart => exact ⟨0, Nat.zero_le _, rfl, fun _ h => absurd h (Nat.not_lt_zero _), rfl⟩
  case round =>
    obtain ⟨k, hk, rfl, hq, rfl⟩ := hrel
    have Hq := Lib.hid hq
    clear hq
    by_cases hlt : k < s.size
    · cases hb : (bits .and .i64 (kAcc s[k] 11) kinds == 0)
      · go_wp2_with (go_at_call 91; refine (kind_any _ _ (by assumption)).mono ?_; rintro e w' ⟨rfl, rfl⟩)
        exact ⟨⟨k + 1, by omega, by push_cast; rfl, all_step Hq.out hlt (by simp only [isK, hb]; rfl), by simp⟩, by simp only [Go.RowKit.intOf]; omega⟩
      · go_wp2_with (go_at_call 91; refine (kind_any _ _ (by assumption)).mono ?_; rintro e w' ⟨rfl, rfl⟩)
        go_ret
        exact ⟨ret_bool (allI_no hlt (by simp only [isK, hb]; rfl)), rfl⟩
    · obtain rfl : k = s.size := by omega
      go_wp2_with fail
      go_ret
      exact ⟨ret_bool (allI_yes (Nat.le_refl _) Hq.out), rfl⟩



/-- can a byte be seen? -/
def seen (b : UInt8) : Bool := decide (33 ≤ b.toNat ∧ b.toNat ≤ 126)


def sizedB (n : Nat) (a b : Int) : Bool := decide (a ≤ n ∧ (n : Int) ≤ b)
theorem sized_any (s : ByteArray) (a b : Int) (w : World) :
    Calls Tryz.prog 74 #[.string s, .int .i64 a, .int .i64 b] w fun e w' => e = .returned (.bool (sizedB s.size a b)) ∧ w = w' := by
  by_cases h : a ≤ s.size
  · go_enter Tryz.func74, Tryz.ntmps74
    go_wp2_with fail
    go_ret
    exact ⟨ret_bool (by unfold sizedB; rw [Bool.eq_iff_iff]; simp; try omega), rfl⟩
  · go_enter Tryz.func74, Tryz.ntmps74
    go_wp2_with fail
    go_ret
    exact ⟨ret_bool (by unfold sizedB; rw [Bool.eq_iff_iff]; simp; try omega), rfl⟩
/-- is a byte one of a row? -/
def inB (l : List UInt8) (b : UInt8) : Bool := l.contains b
theorem at_mem (s : ByteArray) (k : Nat) (h : k < s.size) : s[k] ∈ s.data.toList := by
  have : s[k] = s.data.toList[k]'(by simpa using h) := rfl
  rw [this]; exact List.getElem_mem _
theorem mem_at {s : ByteArray} {b : UInt8} (h : b ∈ s.data.toList) : ∃ k, ∃ h : k < s.size, s[k] = b := by
  obtain ⟨k, hk, e⟩ := List.mem_iff_getElem.1 h
  exact ⟨k, by simpa using hk, e⟩
theorem inB_yes {s : ByteArray} {b : UInt8} {k : Nat} (h : k < s.size) (e : s[k] = b) : true = inB s.data.toList b := by
  unfold inB; symm; rw [List.contains_iff_mem, ← e]; exact at_mem s k h
theorem inB_no {s : ByteArray} {b : UInt8} {k : Nat} (hk : s.size ≤ k) (h : ∀ i, i < k → ∀ (hi : i < s.size), s[i] ≠ b) : false = inB s.data.toList b := by
  unfold inB; symm
  rw [Bool.eq_false_iff, ne_eq, List.contains_iff_mem]
  intro hm
  obtain ⟨i, hi, e⟩ := mem_at hm
  exact h i (by omega) hi e



def letterB (b : UInt8) : Bool := decide ((65 ≤ b.toNat ∧ b.toNat ≤ 90) ∨ (97 ≤ b.toNat ∧ b.toNat ≤ 122))
def digitB (b : UInt8) : Bool := decide (48 ≤ b.toNat ∧ b.toNat ≤ 57)
def signB (b : UInt8) : Bool := decide (b.toNat = 96) || inB [91, 93, 92, 95, 94, 123, 124, 125] b


end Go.Proofs.YtnoeblnljfnecaaGreatDoor
end
section
/- What the kinds of bytes are, byte by byte. -/
namespace Go.Proofs.YtnoeblnljfnecaaGreatDoor
open Go.RowKit

theorem all256 {p : UInt8 → Bool} (h : ((List.range 256).all fun n => p n.toUInt8) = true) (b : UInt8) : p b = true := by
  have := List.all_eq_true.1 h b.toNat (List.mem_range.2 b.toNat_lt)
  simpa using this
theorem isK5 (b : UInt8) : isK 5 b = (letterB b || signB b) := by
  have := all256 (p := fun b => isK 5 b == (letterB b || signB b)) (by kernel_rfl) b
  simpa using this
theorem isK15 (b : UInt8) : isK 15 b = (letterB b || signB b || digitB b || decide (b.toNat = 45)) := by
  have := all256 (p := fun b => isK 15 b == (letterB b || signB b || digitB b || decide (b.toNat = 45))) (by kernel_rfl) b
  simpa using this
/-- may a byte stand in a channel? -/
def chanB (b : UInt8) : Bool := !(decide (b.toNat = 0 ∨ b.toNat = 7 ∨ b.toNat = 10 ∨ b.toNat = 13 ∨ b.toNat = 32 ∨ b.toNat = 44 ∨ b.toNat = 58))
theorem isK1888 (b : UInt8) : isK 1888 b = !chanB b := by
  have := all256 (p := fun b => isK 1888 b == !chanB b) (by kernel_rfl) b
  simpa using this
theorem isK160 (b : UInt8) : isK 160 b = inB [33, 64, 42, 63, 58] b := by
  have := all256 (p := fun b => isK 160 b == inB [33, 64, 42, 63, 58] b) (by kernel_rfl) b
  simpa using this

end Go.Proofs.YtnoeblnljfnecaaGreatDoor
end
section
/- valid.Nick, Channel, User and the answers' ones: both tell the same of any text. -/
namespace Go.Proofs.YtnoeblnljfnecaaGreatDoor
open Go.RowKit

noncomputable def dec (p : Prop) : Bool := @decide p (Classical.propDecidable _)
theorem dec_iff {p : Prop} : dec p = true ↔ p := by unfold dec; exact @decide_eq_true_iff _ (Classical.propDecidable _)
theorem dec_yes {p : Prop} (h : p) : true = dec p := (dec_iff.2 h).symm
theorem dec_no {p : Prop} (h : ¬ p) : false = dec p := by
  cases e : dec p with
  | false => rfl
  | true => exact absurd (dec_iff.1 e) h
theorem dec_of {b : Bool} {p : Prop} (h : b = true ↔ p) : b = dec p := by
  rw [Bool.eq_iff_iff, h, dec_iff]

theorem sized_yes (s : ByteArray) (a b : Int) (w : World) (h : a ≤ s.size ∧ (s.size : Int) ≤ b) :
    Calls Tryz.prog 74 #[.string s, .int .i64 a, .int .i64 b] w fun e w' => e = .returned (.bool true) ∧ w = w' :=
  (sized_any s a b w).mono fun _ _ hh => by rw [show sizedB s.size a b = true from decide_eq_true h] at hh; exact hh
theorem sized_no (s : ByteArray) (a b : Int) (w : World) (h : ¬ (a ≤ s.size ∧ (s.size : Int) ≤ b)) :
    Calls Tryz.prog 74 #[.string s, .int .i64 a, .int .i64 b] w fun e w' => e = .returned (.bool false) ∧ w = w' :=
  (sized_any s a b w).mono fun _ _ hh => by rw [show sizedB s.size a b = false from decide_eq_false h] at hh; exact hh

/-- may a byte stand so in a nickname? -/
def nickAt (i : Nat) (b : UInt8) : Bool := letterB b || signB b || (decide (i ≠ 0) && (digitB b || decide (b.toNat = 45)))
def NickP (s : ByteArray) : Prop := (1 ≤ s.size ∧ s.size ≤ 16) ∧ ∀ i (h : i < s.size), nickAt i s[i] = true
def ChanP (s : ByteArray) : Prop := (2 ≤ s.size ∧ s.size ≤ 50) ∧ (∃ h : 0 < s.size, s[0].toNat = 35) ∧ ∀ i (h : i < s.size), chanB s[i] = true
def UserP (s : ByteArray) : Prop := (1 ≤ s.size ∧ s.size ≤ 10) ∧ ∀ i (h : i < s.size), (seen s[i] && !inB [33, 64, 42, 63, 58] s[i]) = true

theorem extract_one (s : ByteArray) (h : 1 ≤ s.size) (p : Nat → UInt8 → Bool) : allI (s.extract 0 1) p = p 0 s[0] := by
  rw [Bool.eq_iff_iff, allI_iff]
  have hs : (s.extract 0 1).size = 1 := by simp [ByteArray.size_extract]; omega
  have e : ∀ i (hi : i < (s.extract 0 1).size), (s.extract 0 1)[i] = s[0] := by
    intro i hi
    obtain rfl : i = 0 := by omega
    simp [ByteArray.getElem_extract]
  constructor
  · intro hh; have := hh 0 (by omega); rwa [e] at this
  · intro hh i hi; rw [e]; obtain rfl : i = 0 := by omega
    exact hh

set_option maxHeartbeats 1000000 in
theorem nick_v (s : ByteArray) (w : World) (hs : s.size ≤ 1000000) (hr : Rowed w) :
    Calls Tryz.prog 59 #[.string s] w fun e w' => e = .returned (.bool (dec (NickP s))) ∧ w = w' := by
  by_cases h : 1 ≤ s.size ∧ s.size ≤ 16
  · have h1 := h.1
    go_enter Tryz.func59, Tryz.ntmps59
    go_wp2_with (first | (go_at_call 74; refine (sized_yes _ _ _ _ (by omega)).mono ?_; rintro e w' ⟨rfl, rfl⟩) | (go_at_call 75; refine (only_any _ _ _ (by first | assumption | (simp [ByteArray.size_extract]; omega)) (by assumption)).mono ?_; rintro e w' ⟨rfl, rfl⟩))
    all_goals go_ret
    all_goals rename_i hx
    · rw [extract_one s h1] at hx
      refine ⟨ret_bool (dec_of ?_), rfl⟩
      rw [allI_iff]
      constructor
      · intro hh
        refine ⟨h, fun i hi => ?_⟩
        have a := hh i hi
        rw [isK15] at a; rw [isK5] at hx
        unfold nickAt
        by_cases e : i = 0
        · subst e; rw [hx]; rfl
        · rw [decide_eq_true e, Bool.true_and, ← Bool.or_assoc]; exact a
      · intro hh i hi
        have a := hh.2 i hi
        rw [isK15]
        unfold nickAt at a
        simp only [Bool.or_eq_true, Bool.and_eq_true] at a ⊢
        rcases a with a | ⟨_, a | a⟩
        · exact .inl (.inl a)
        · exact .inl (.inr a)
        · exact .inr a
    · rw [extract_one s h1, isK5] at hx
      refine ⟨ret_bool (dec_no fun hh => hx ?_), rfl⟩
      have a := hh.2 0 (by omega)
      unfold nickAt at a
      simpa using a
  · go_enter Tryz.func59, Tryz.ntmps59
    go_wp2_with (go_at_call 74; refine (sized_no _ _ _ _ (by omega)).mono ?_; rintro e w' ⟨rfl, rfl⟩)
    go_ret
    exact ⟨ret_bool (dec_no fun hh => h hh.1), rfl⟩









end Go.Proofs.YtnoeblnljfnecaaGreatDoor
end
section
/- valid.Host, Server, Key and the answers' ones: both tell the same of any text. -/
namespace Go.Proofs.YtnoeblnljfnecaaGreatDoor
set_option linter.unusedVariables false
set_option linter.unusedSimpArgs false
open Go.RowKit

theorem isK59 (b : UInt8) : isK 59 b = (letterB b || digitB b || decide (b.toNat = 46) || decide (b.toNat = 45) || decide (b.toNat = 58)) := by
  have := all256 (p := fun b => isK 59 b == (letterB b || digitB b || decide (b.toNat = 46) || decide (b.toNat = 45) || decide (b.toNat = 58))) (by kernel_rfl) b
  simpa using this
theorem isK32 (b : UInt8) : isK 32 b = decide (b.toNat = 58) := by
  have := all256 (p := fun b => isK 32 b == decide (b.toNat = 58)) (by kernel_rfl) b
  simpa using this
theorem isK16 (b : UInt8) : isK 16 b = decide (b.toNat = 46) := by
  have := all256 (p := fun b => isK 16 b == decide (b.toNat = 46)) (by kernel_rfl) b
  simpa using this
theorem isK1 (b : UInt8) : isK 1 b = letterB b := by
  have := all256 (p := fun b => isK 1 b == letterB b) (by kernel_rfl) b
  simpa using this
theorem isK64 (b : UInt8) : isK 64 b = decide (b.toNat = 44) := by
  have := all256 (p := fun b => isK 64 b == decide (b.toNat = 44)) (by kernel_rfl) b
  simpa using this

/-- may a byte stand so in a host? -/
def hostAt (i : Nat) (b : UInt8) : Bool := letterB b || digitB b || decide (b.toNat = 46) || decide (b.toNat = 45) || (decide (b.toNat = 58) && decide (i ≠ 0))
def HostP (s : ByteArray) : Prop := (1 ≤ s.size ∧ s.size ≤ 63) ∧ ∀ i (h : i < s.size), hostAt i s[i] = true
def ServP (s : ByteArray) : Prop := HostP s ∧ (∃ h : 0 < s.size, letterB s[0] = true) ∧ inB s.data.toList 46 = true ∧ inB s.data.toList 58 = false
def KeyP (s : ByteArray) : Prop := (1 ≤ s.size ∧ s.size ≤ 23) ∧ (∀ i (h : i < s.size), (seen s[i] && !decide (s[i].toNat = 44)) = true) ∧ ∃ h : 0 < s.size, s[0].toNat ≠ 58
theorem u8_eq {b : UInt8} {n : Nat} (hn : n < 256) : b.toNat = n ↔ b = n.toUInt8 := by
  constructor
  · intro h; rw [← h]; simp
  · intro h; rw [h]; simp; omega
theorem allI_noneB (s : ByteArray) (c : UInt8) : allI s (fun _ b => !decide (b.toNat = c.toNat)) = !inB s.data.toList c := by
  rw [Bool.eq_iff_iff, allI_iff]
  constructor
  · intro h
    rw [Bool.not_eq_true']
    symm
    exact inB_no (Nat.le_refl _) fun i _ hi e => by have := h i hi; rw [e] at this; simp at this
  · intro h i hi
    rw [Bool.not_eq_true'] at h
    by_cases e : s[i] = c
    · have := inB_yes hi e; rw [h] at this; cases this
    · simp; intro e2; exact e (UInt8.toNat_inj.mp e2)







end Go.Proofs.YtnoeblnljfnecaaGreatDoor
end
section
/- Layer 15: what may be a password, on both sides; the answers' Check. -/
namespace Go.Proofs.YtnoeblnljfnecaaGreatDoor
set_option linter.unusedVariables false
set_option linter.unusedSimpArgs false
open Go.RowKit

theorem rowed_below {w w' : World} {B : Nat} (h : Rowed w) (hB : w.heap.size ≤ B) (hb : Below B w w') : Rowed w' := by
  intro i hi
  obtain ⟨s, h1, h2⟩ := h i hi
  refine ⟨s, ?_, h2⟩
  rw [← h1]
  exact hb.cell (Nat.lt_of_lt_of_le (World.block_lt_of_cell? _ _ h1) hB)
def PassP (s : ByteArray) : Prop := (∀ i (h : i < s.size), seen s[i] = true) ∧ s.size ≤ 50 ∧ ∀ h : 0 < s.size, s[0].toNat ≠ 58
/-- does a text begin with a byte? -/
def headB (s : ByteArray) (c : UInt8) : Bool := s.data.toList.head? == some c
theorem head_at {s : ByteArray} {c : UInt8} (h : 0 < s.size) : headB s c = (s[0] == c) := by
  unfold headB
  have : s.data.toList.head? = some s[0] := by
    rw [List.head?_eq_getElem?, List.getElem?_eq_getElem (by simpa using h)]; rfl
  rw [this]; rfl
theorem head_em {s : ByteArray} {c : UInt8} (h : s.size = 0) : headB s c = false := by
  unfold headB
  rw [str_nil h]; rfl
theorem extract1 (s : ByteArray) (c : UInt8) (h : 0 < s.size) : ((s.extract 0 1).toList == (⟨#[c]⟩ : ByteArray).toList) = (s[0] == c) := by
  have e : (s.extract 0 1).data.toList = [s[0]] := by
    rw [Lib.extract_data, List.drop_zero]
    have := List.take_succ_eq_append_getElem (l := s.data.toList) (i := 0) (by simpa using h)
    rw [Nat.sub_zero]
    rw [this]; rfl
  rw [beq_ba, e]
  show ([s[0]] == [c]) = _
  simp










def inR (n a b : Int) : Bool := decide (a ≤ n ∧ n ≤ b)
end Go.Proofs.YtnoeblnljfnecaaGreatDoor
end
section
/- Layer 12: strings.Index with one byte, CutPrefix, SplitSeq at a blank as a function that ranges. -/
namespace Go.Proofs.YtnoeblnljfnecaaGreatDoor
set_option linter.unusedVariables false
set_option linter.unusedSimpArgs false
open Go.RowKit Go.Shelf
attribute [local go_sem] Oper.semAt_some

set_option maxRecDepth 1000000 in
set_option maxHeartbeats 2000000 in
theorem ix1_lite (s : ByteArray) (c : UInt8) (w : World) (hs : s.size ≤ 1000000) :
    Calls Tryz.prog 108 #[.string s, .string ⟨#[c]⟩] w fun e w' => e = .returned (.int .i64 (Lib.indexByte s.data.toList c)) ∧ w = w' := by
  go_enter Tryz.func108, Tryz.ntmps108
  go_wp2_with (go_at_call 118; refine (idxByte0 _ _ _).mono ?_; rintro e w' ⟨rfl, rfl⟩)
  · go_ret
    rename_i h
    rw [ByteArray.toList_eq, beq_iff_eq] at h
    exact ⟨ret_int (by rw [← h]; simp [Lib.indexByte]), rfl⟩
  · go_ret
    exact ⟨ret_int rfl, rfl⟩
set_option maxRecDepth 1000000 in
theorem ix1 (s : ByteArray) (c : UInt8) (w : World) (hs : s.size ≤ 1000000) :
    Calls Tryz.prog 90 #[.string s, .string ⟨#[c]⟩] w fun e w' => e = .returned (.int .i64 (Lib.indexByte s.data.toList c)) ∧ w = w' := by
  go_enter Tryz.func90, Tryz.ntmps90
  go_wp2_with (go_at_call 108; refine (ix1_lite _ _ _ hs).mono ?_; rintro e w' ⟨rfl, rfl⟩)
  go_ret
  exact ⟨rfl, rfl⟩

/-- a text at its first blank -/
theorem split_none (R : ByteArray) (h : Lib.indexByte R.data.toList 32 = -1) : splitL R.data.toList = [R.data.toList] :=
  splitL_none _ (fun hm => by
    obtain ⟨k, hk⟩ := List.getElem?_of_mem hm
    exact Lib.indexByte_none h k hk)
theorem split_some (R : ByteArray) (o : Nat) (h : Lib.indexByte R.data.toList 32 = o) : o < R.size ∧ splitL R.data.toList = (R.extract 0 o).data.toList :: splitL (R.extract (o + 1) R.size).data.toList := by
  obtain ⟨h1, h2⟩ := Lib.indexByte_some h
  have ho : o < R.data.toList.length := (List.getElem?_eq_some_iff.1 h1).1
  have e : R.data.toList = R.data.toList.take o ++ 32 :: R.data.toList.drop (o + 1) := by
    have h3 := List.drop_eq_getElem_cons ho
    have h4 : R.data.toList[o] = 32 := (List.getElem?_eq_some_iff.1 h1).2
    rw [h4] at h3
    rw [← h3, List.take_append_drop]
  have hn : (32 : UInt8) ∉ R.data.toList.take o := fun hm => by
    obtain ⟨k, hk⟩ := List.getElem?_of_mem hm
    rw [List.getElem?_take] at hk
    split at hk
    · exact h2 k ‹_› hk
    · cases hk
  refine ⟨by simpa using ho, ?_⟩
  have e1 : (R.extract 0 o).data.toList = R.data.toList.take o := by simp
  have e2 : (R.extract (o + 1) R.size).data.toList = R.data.toList.drop (o + 1) := by
    simp [List.take_of_length_le]
  rw [e1, e2]
  conv => lhs; rw [e]
  exact splitL_cut _ _ hn

abbrev Word := { x : ByteArray // x.size ≤ 1000000 }
abbrev encWord (x : Word) : Array Value := #[.string x.1]
def wordsL (l : List Word) : List (List UInt8) := l.map fun x => x.1.data.toList
theorem wordsL_snoc (l : List Word) (x : Word) : wordsL (l ++ [x]) = wordsL l ++ [x.1.data.toList] := by simp [wordsL]

theorem split_any (s : ByteArray) (w : World) :
    Calls Tryz.prog 58 #[.string s, .string ⟨#[32]⟩] w fun e w' => e = .returned (.func (.func 88) #[] #[.pointer (some ⟨w.heap.size + 1, 0, none⟩), .pointer (some ⟨w.heap.size, 0, none⟩), .pointer (some ⟨w.heap.size + 1 + 1, 0, none⟩)]) ∧
      w' = ((w.alloc (.cells #[.string s] 9)).alloc (.cells #[.string ⟨#[32]⟩] 9)).alloc (.cells #[.int .i64 0] 3) := by
  have h : Calls Tryz.prog 73 #[.string s, .string ⟨#[32]⟩, .int .i64 0] w fun e w' => e = .returned (.func (.func 88) #[] #[.pointer (some ⟨w.heap.size + 1, 0, none⟩), .pointer (some ⟨w.heap.size, 0, none⟩), .pointer (some ⟨w.heap.size + 1 + 1, 0, none⟩)]) ∧
      w' = ((w.alloc (.cells #[.string s] 9)).alloc (.cells #[.string ⟨#[32]⟩] 9)).alloc (.cells #[.int .i64 0] 3) := by
    go_enter Tryz.func73, Tryz.ntmps73
    go_wp2
    go_ret
    exact ⟨rfl, rfl⟩
  go_enter Tryz.func58, Tryz.ntmps58
  go_wp2_with (go_at_call 73; refine h.mono ?_; rintro e w' ⟨rfl, hw⟩)
  go_ret
  first | exact ⟨rfl, hw⟩ | exact ⟨rfl, rfl⟩

set_option maxRecDepth 100000 in
set_option maxHeartbeats 4000000 in
theorem split_stops (n : Nat) (hn : 4 ≤ n) (B : Nat) (s : ByteArray) (w : World) (hs : s.size ≤ 1000000) (b0 : Boxed w B 9 (.string s)) (b1 : Boxed w (B + 1) 9 (.string ⟨#[32]⟩)) (b2 : Boxed w (B + 1 + 1) 3 (.int .i64 0)) :
    SeqW Fence.wide n Tryz.prog 88 #[.pointer (some ⟨B + 1, 0, none⟩), .pointer (some ⟨B, 0, none⟩), .pointer (some ⟨B + 1 + 1, 0, none⟩)] encWord (fun b => b = B ∨ b = B + 1 ∨ b = B + 1 + 1)
      (fun xs => wordsL xs = splitL s.data.toList) (fun pre => ∃ r, wordsL pre ++ r = splitL s.data.toList) (s.size + 1) w := fun l J Jx V hV hJ hJx hY h0 => by
  have d0 : Boxed V B 9 (.string s) := (hV.block B b0.lt).trans b0
  have d1 : Boxed V (B + 1) 9 (.string ⟨#[32]⟩) := (hV.block (B + 1) b1.lt).trans b1
  have d2 : Boxed V (B + 1 + 1) 3 (.int .i64 0) := (hV.block (B + 1 + 1) b2.lt).trans b2
  have e1 := d1.cell
  clear b0 b1 b2
  refine callsIn_of_wp Tryz.func88 rfl trivial ?_ rfl
  simp only [Tryz.ntmps88, List.size_toArray, List.length_cons, List.length_nil, Nat.reduceAdd, Nat.reduceSub, Array.replicate_succ, Array.replicate_zero, List.push_toArray, List.append_toArray, List.nil_append, List.cons_append]
  gi_wp2_with fail
  gi_loopg [29] s.size (fun r _ wr => ∃ (pre : List Word) (R : ByteArray), r = R.size ∧ Hid (wordsL pre ++ splitL R.data.toList = splitL s.data.toList) ∧ pre.length + R.size ≤ s.size ∧ Boxed wr B 9 (.string R) ∧ Boxed wr (B + 1) 9 (.string ⟨#[32]⟩) ∧ Boxed wr (B + 1 + 1) 3 (.int .i64 0) ∧ J pre wr)
  case atStart => exact ⟨[], s, rfl, by simp [wordsL, Hid], by simp, d0, d1, d2, h0⟩
  case round =>
    obtain ⟨pre, R, hr, HR, hsz, k0, k1, k2, hJs⟩ := hrel
    have hR : R.size ≤ 1000000 := by omega
    have HG := Lib.hid hr
    clear hr d0 d1 d2 e1
    have c0 := k0.cell; have c1 := k1.cell; have c2 := k2.cell
    have hix : ∀ W, Calls Tryz.prog 90 #[.string R, .string ⟨#[32]⟩] W fun e w' => e = .returned (.int .i64 (Lib.indexByte R.data.toList 32)) ∧ W = w' := fun W => ix1 R 32 W hR
    have hge := Lib.indexByte_ge R.data.toList 32
    by_cases hno : Lib.indexByte R.data.toList 32 = -1
    · have hsp := split_none R hno
      rw [hno] at hix
      have HN : Hid (wordsL (pre ++ [⟨R, hR⟩]) = splitL s.data.toList) := by
        have := HR.out; rw [hsp] at this; rw [wordsL_snoc]; exact this
      clear hno hsp hge
      obtain ⟨fn, tmps, assign, body, hy, hRd⟩ := hY pre ⟨R, hR⟩ wr hJs (by omega)
      dsimp only [encWord] at hy
      gi_wp2_with fail
      refine ⟨trivial, fun _ => by omega, ((callsIn_wide (n := n - 1)).2 (hix _)).mono ?_⟩
      rintro e w' ⟨rfl, rfl⟩
      gi_wp2_with fail
      refine ⟨fun _ => by omega, hRd.mono ?_⟩
      rintro e W3 (⟨rfl, hJ3, _⟩ | ⟨rfl, hJx3⟩)
      · gi_wp2_with fail
        go_end0
        exact ⟨⟨_, rfl⟩, .inl ⟨_, HN.out, hJ3⟩⟩
      · gi_wp2_with fail
        go_end0
        exact ⟨⟨_, rfl⟩, .inr ⟨_, ⟨[], by rw [List.append_nil]; exact HN.out⟩, hJx3⟩⟩
    · obtain ⟨o, ho⟩ : ∃ o : Nat, Lib.indexByte R.data.toList 32 = o := ⟨(Lib.indexByte R.data.toList 32).toNat, by omega⟩
      obtain ⟨hoR, hsp⟩ := split_some R o ho
      rw [ho] at hix
      have hxs : (R.extract 0 o).size ≤ 1000000 := by simp; omega
      have hrs : (R.extract (o + 1) R.size).size = R.size - (o + 1) := by simp
      have HN : Hid (wordsL (pre ++ [⟨R.extract 0 o, hxs⟩]) ++ splitL (R.extract (o + 1) R.size).data.toList = splitL s.data.toList) := by
        have := HR.out; rw [hsp] at this; rw [wordsL_snoc, List.append_assoc]; exact this
      have HRS := Lib.hid hrs
      have hp0 : ¬ ((o : Int) < 0) := by omega
      have hp1 : (o : Int) ≤ (R.size : Int) := by omega
      have hp2 : (o : Int) + 1 ≤ (R.size : Int) := by omega
      clear hno hsp hge ho hrs
      obtain ⟨fn, tmps, assign, body, hy, hRd⟩ := hY pre ⟨R.extract 0 o, hxs⟩ wr hJs (by omega)
      dsimp only [encWord] at hy
      gi_wp2_with fail
      refine ⟨trivial, fun _ => by omega, ((callsIn_wide (n := n - 1)).2 (hix _)).mono ?_⟩
      rintro e w' ⟨rfl, rfl⟩
      gi_wp2_with fail
      refine ⟨fun _ => by omega, hRd.mono ?_⟩
      rintro e W3 (⟨rfl, hJ3, hS3⟩ | ⟨rfl, hJx3⟩)
      · have m0 : Boxed W3 B 9 (.string R) := (hS3 B (.inl rfl)).trans k0
        have m1 : Boxed W3 (B + 1) 9 (.string ⟨#[32]⟩) := (hS3 (B + 1) (.inr (.inl rfl))).trans k1
        have m2 : Boxed W3 (B + 1 + 1) 3 (.int .i64 0) := (hS3 (B + 1 + 1) (.inr (.inr rfl))).trans k2
        have g0 := m0.cell; have g1 := m1.cell; have f0 := m0.frozen
        have hJ4 : J (pre ++ [⟨R.extract 0 o, hxs⟩]) (W3.setCell ⟨B, 0, none⟩ (.string (R.extract (o + 1) R.size))) := hJ _ _ _ (some B) hJ3 (grownBy_setCell' _ _ _) (fun r e => by cases e; exact .inl (.inl rfl))
        have HJ := Lib.hid hJ4
        clear hJ4 hJ3 hS3
        gi_wp2_with fail
        gi_roundg (R.extract (o + 1) R.size).size
        case measure => rw [HG.out, HRS.out]; omega
        case rel => exact ⟨_, _, rfl, HN, by rw [HRS.out]; simp; omega, m0.set _, m1.other (by omega) _, m2.other (by omega) _, HJ.out⟩
      · gi_wp2_with fail
        refine bodyPost_ret (results_none rfl _ _ _) rfl ?_
        exact ⟨⟨_, rfl⟩, .inr ⟨_, ⟨_, HN.out⟩, hJx3⟩⟩
end Go.Proofs.YtnoeblnljfnecaaGreatDoor
end
