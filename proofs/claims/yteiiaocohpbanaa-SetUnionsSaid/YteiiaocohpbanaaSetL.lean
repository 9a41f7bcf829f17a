/- Layer 10: Union. -/
import Derived.Test.YteiiaocohpbanaaSetK
import Derived.OwnWalk
namespace Go.Proofs.Yteiiaocohpbanaa
set_option linter.unusedVariables false
set_option linter.unusedSimpArgs false
open Go Go.RowKit Go.Lib Go.Sort Go.Shelf

theorem Try.infoFn : (Try.prog.info? 34).map (fun i => (i.zero, i.size, i.bytes)) = some (some .nilFunc, 1, 8) := by kernel_rfl
/-- a row of functions -/
def OwnF (base : Nat) (W : World) (v : Value) (Fs : List Value) : Prop := W.ownsRow base 34 1 v Fs.length Fs
theorem own_type {W : World} {base : Nat} {e : TypeId} {size : Nat} {v : Value} {n : Nat} {xs : List Value} (hown : W.ownsRow base e size v n xs) (k : Nat) (hk : v.ownBlock = some k) : ∃ cur, W.heap[k]? = some (.cells cur e (0, 0)) := by
  rcases hown.2 with ⟨rfl, _⟩ | ⟨g, cap, cur, rfl, _, h3, _⟩
  · cases hk
  · cases hk; exact ⟨_, h3⟩
theorem tale_fr {base b : Nat} {w w' : World} {F v : Value} {xs : List Int} {ys : List Value} {n : Nat} (h : TaleAt base w F xs) (ho : w.ownsRow b 34 1 v n ys) (hf : Fr (fun k => v.ownBlock = some k) w w') : TaleAt base w' F xs := by
  obtain ⟨B, u, h0, h1, h2, h3, h4⟩ := h
  refine ⟨B, u, h0, h1, hf.blk h2 fun e => ?_, h3, own_kept h4 fun g hg => hf.block g (h4.lt g hg).2 fun e => ?_⟩
  · obtain ⟨c1, k1⟩ := own_type ho B e
    rw [h2] at k1; cases k1
  · obtain ⟨c1, k1⟩ := own_type ho g e
    obtain ⟨c2, k2⟩ := own_type h4 g hg
    rw [k1] at k2; cases k2
theorem tale_base {base base' : Nat} {w : World} {F : Value} {xs : List Int} (h : TaleAt base w F xs) (hb : base' ≤ base) : TaleAt base' w F xs := by
  obtain ⟨B, u, h0, h1, h2, h3, h4⟩ := h
  exact ⟨B, u, Nat.le_trans hb h0, h1, h2, h3, row_base' h4 hb⟩
/-- a pointer to a set, or none -/
def PtrAt (w : World) (p : Value) (xs : List Int) : Prop := (p = .pointer none ∧ xs = []) ∨ ∃ s ob base, p = .pointer (some ⟨s, 0, none⟩) ∧ SetAt base w s ob xs
theorem ptr_below {w W : World} {p : Value} {xs : List Int} (h : PtrAt w p xs) (hb : Below w.heap.size w W) : PtrAt W p xs := by
  rcases h with h | ⟨s, ob, base, h1, h2⟩
  · exact .inl h
  · exact .inr ⟨s, ob, base, h1, set_below h2 hb⟩
theorem ptr_all {w : World} {p : Value} {xs : List Int} (h : PtrAt w p xs) (hl : xs.length ≤ 1000000) : Calls Try.prog 13 #[p] w (AllP xs w) := by
  rcases h with ⟨rfl, rfl⟩ | ⟨s, ob, base, rfl, h2⟩
  · exact set_all_nil w
  · exact set_all h2 hl
/-- the tales so far -/
def UniG (w : World) (xss : List (List Int)) (k : Nat) (v : Value) (W : World) : Prop :=
  (∃ Fs : List Value, Fs.length = k ∧ OwnF w.heap.size W v Fs ∧ ∀ (j : Nat) (F : Value), Fs[j]? = some F → ∃ xs, xss[j]? = some xs ∧ TaleAt w.heap.size W F xs) ∧ Below w.heap.size w W
set_option maxRecDepth 100000 in
set_option maxHeartbeats 4000000 in
theorem set_union {w : World} (A : Option Addr) (xss : List (List Int)) (c : Nat) (hn : xss.length ≤ 1000) (hl : xss.flatten.length ≤ 1000000)
    (hc : 0 < xss.length → ∃ g o, A = some ⟨g, o, none⟩ ∧ g < w.heap.size ∧ ∀ j (h : j < xss.length), ∃ p, w.cell? ⟨g, o + j, none⟩ = some p ∧ PtrAt w p xss[j]) :
    Calls Try.prog 19 #[.slice A xss.length c] w (AllP (normI xss.flatten) w) := by
  obtain ⟨i0, hi, hz0, hz1, hz2⟩ := info_parts Try.infoFn
  have HC := Lib.hid hc
  clear hc
  have hl1 : ∀ k (h : k < xss.length), (xss[k]).length ≤ 1000000 := fun k h => by
    have h1 := List.length_flatten (L := xss)
    have h2 := List.Sublist.length_le (List.sublist_flatten_of_mem (List.getElem_mem h))
    omega
  have HL := Lib.hid hl1
  clear hl1
  go_enter Try.func19, Try.ntmps19
  go_wp2_with (at_make; refine wpList_make_own _ rfl _ _ 57 rfl w.heap.size 34 i0 .nilFunc 1 Try.underlying57 hi hz0 hz1 .i64 .i64 (xss.length : Int) xss.length rfl rfl rfl (by rw [hz2]; omega) (by unfold maxLen; omega) (Nat.le_refl _) ?_; intro w1 hown hgrow)
  have hU0 : UniG w xss 0 (.slice (some ⟨w.heap.size, 0, none⟩) 0 xss.length) w1 := ⟨⟨[], rfl, hown, fun j F h => by cases h⟩, (Below.refl _ _).grown hgrow (Nat.le_refl _) (fun k e => by cases e)⟩
  have HU := Lib.hid hU0
  clear hU0 hown hgrow
  go_loopw [3, 11] (fun v ct wr => ∃ k : Nat, ct = .int .i64 k ∧ k ≤ xss.length ∧ Hid (UniG w xss k v wr)) (fun _ ct _ => xss.length - (intOf ct).toNat)
  case atStart => exact ⟨0, rfl, Nat.zero_le _, HU⟩
  case round =>
    clear HU
    obtain ⟨k, rfl, hk, HU⟩ := hrel
    by_cases hlt : k < xss.length
    · obtain ⟨g, o, rfl, hg, hcell⟩ := HC.out (by omega)
      obtain ⟨p, hp, hP⟩ := hcell k hlt
      obtain ⟨⟨Fs, hFl, hOw, hT⟩, hB⟩ := HU.out
      have e0 : wr.cell? ⟨g, o + k, none⟩ = some p := (World.cell?_of_block (w := w) (w' := wr) (a := ⟨g, o + k, none⟩) (hB.block g hg)).trans hp
      have hA := ptr_all (ptr_below hP hB) (HL.out k hlt)
      have hwz := hB.size
      have HA := Lib.hid hA
      clear hcell hp hP hOw hT hB hA
      go_wp2_with fail
      refine HA.out.mono ?_
      rintro e w2 ⟨⟨F, rfl, BB, uu, q0, rfl, q1⟩, hb2⟩
      have hF : TaleAt wr.heap.size w2 (Value.func (.func 33) #[] #[.pointer (some ⟨BB, 0, none⟩)]) xss[k] := ⟨BB, uu, q0, rfl, q1⟩
      clear q0 q1
      obtain ⟨⟨Fs', hFl', hOw, hT⟩, hB⟩ := HU.out
      have hOw2 : w2.ownsRow w.heap.size 34 1 u3 Fs'.length Fs' := row_same hOw fun g hg => hb2.block g (hOw.lt g hg).2
      have hw2z := hb2.size
      have hk3 : Fs'.length ≤ 1000 := by omega
      have HO := Lib.hid hOw2
      have H := Lib.hid (And.intro hF hb2)
      have hT' := hT
      have hB' := hB
      clear hOw hT hB hOw2 hF hb2
      go_wp2_with (at_builtin; refine Hid.out ?_)
      refine Lib.hid ?_
      refine wpList_app_fr rfl _ _ 57 rfl w.heap.size 34 i0 _ 1 8 Try.underlying57 hi hz0 hz1 hz2 rfl (by decide) u3 Fs'.length Fs' rfl HO.out #[(Value.func (.func 33) #[] #[.pointer (some ⟨BB, 0, none⟩)])] _ rfl rfl rfl (by intro u hu; simp at hu; subst hu; rfl) (by omega) (by decide) (by omega) ?_
      intro v1 W2 hown1 hfr1
      have hnew : UniG w xss (k + 1) v1 W2 := by
        obtain ⟨hF, hb2⟩ := H.out
        have hB2 := hB'.trans (hb2.mono hwz)
        refine ⟨⟨Fs' ++ [(Value.func (.func 33) #[] #[.pointer (some ⟨BB, 0, none⟩)])], by simp [hFl'], by unfold OwnF; rw [List.length_append]; exact hown1, fun j G hj => ?_⟩, hB2.trans (hfr1.below hB2.size fun i _ e => (HO.out.lt i e).1)⟩
        by_cases hjk : j < k
        · rw [List.getElem?_append_left (by omega)] at hj
          obtain ⟨xs, h1, h2⟩ := hT' j G hj
          exact ⟨xs, h1, tale_fr (tale_below h2 hb2 (Nat.le_refl _)) HO.out hfr1⟩
        · rw [List.getElem?_append_right (by omega)] at hj
          obtain ⟨e1, e2⟩ := List.getElem?_eq_some_iff.1 hj
          simp at e1
          obtain rfl : j = k := by omega
          simp at e2
          subst e2
          exact ⟨xss[j], List.getElem?_eq_getElem hlt, tale_base (tale_fr hF HO.out hfr1) hwz⟩
      have HN := Lib.hid hnew
      clear hnew hown1 hfr1
      go_wp2_with fail
      go_roundw
      case rel => exact ⟨k + 1, by go_num, by omega, HN⟩
      case measure => simp [intOf]; omega
    · obtain rfl : k = xss.length := by omega
      obtain ⟨⟨Fs, hFl, hOw, hT⟩, hB⟩ := HU.out
      obtain ⟨A1, c1, rfl⟩ := row_slice hOw
      rw [hFl] at hOw
      have hG := gather_of (w := wr) A1 xss c1 hn hl (fun h0 => by
        rcases hOw.2 with ⟨h1, h2⟩ | ⟨g, cap, cur, h1, h3, h4, h5, _, h6, h7⟩
        · omega
        · injection h1 with q1 q2 q3
          subst q1
          rw [Nat.mul_one] at h6 h7
          refine ⟨g, 0, rfl, blk_lt h4, fun j hj => ?_⟩
          have hj2 : j < Fs.length := by omega
          obtain ⟨xs, k1, k2⟩ := hT j Fs[j] (List.getElem?_eq_getElem hj2)
          have hx : xss[j] = xs := by rw [List.getElem?_eq_getElem hj] at k1; exact Option.some.inj k1
          refine ⟨Fs[j], ?_, tells_tale (hx ▸ k2) (HL.out j hj)⟩
          rw [Nat.zero_add, blk_cell h4 j, ← Array.getElem?_toList]
          have := congrArg (fun l => l[j]?) h7
          rw [List.getElem?_take_of_lt (by omega), List.getElem?_eq_getElem hj2] at this
          exact this) _ rfl
      have HG := Lib.hid hG
      have HB := Lib.hid hB
      have hz := hB.size
      rw [hFl]
      clear hOw hT hB hG
      go_wp2_with fail
      refine HG.out.mono ?_
      rintro e w2 ⟨⟨v2, rfl, h1⟩, h2⟩
      obtain ⟨A2, c2, rfl⟩ := row_slice h1
      have HV := Lib.hid (values_calls A2 (compact (xss.flatten.mergeSort fun x y => decide (x ≤ y))).length c2 w2)
      have H := Lib.hid (And.intro h1 h2)
      clear h1 h2
      go_wp2_with fail
      refine HV.out.mono ?_
      intro e w3 h
      obtain ⟨⟨F, rfl, h4⟩, h5⟩ := all_of (row_base' H.out.1 hz) (HB.out.trans (H.out.2.mono hz)) h
      have H2 := Lib.hid (And.intro h4 h5)
      clear h h4 h5
      go_wp2_with fail
      go_ret
      exact ⟨⟨_, rfl, H2.out.1⟩, H2.out.2⟩
end Go.Proofs.Yteiiaocohpbanaa
