/- Layer 2: maps.Values of a book of int, as a function that tells the entries in whatever order. -/
import Derived.Test.YtfdaeajafmcjcaaBokCI
import Derived.Test.YtfdaeajafmcjcaaRangeP
import Derived.Maps.OwnIn
import Derived.Sort.LoopGhostIn
import Derived.Sort.MapsRangeIn
import Derived.OwnWalkIn
import Derived.TacticsInMore
import Derived.LoopIn
import Derived.Deep.LoopGhost
namespace Go.Proofs.Ytfdaeajafmcjcaa
set_option linter.unusedVariables false
set_option linter.unusedSimpArgs false
open Go Go.RowKit Go.Maps Go.Sort
attribute [local go_sem] Oper.semAt_some

def encVI (p : KeyB × Ent VI) : Array Value := #[valEI p.2]
theorem keyOf_invHI {key : Value} {kl : Lit} (h : keyOf Try.prog 9 key = some kl) : ∃ x, key = kVB x ∧ kl = kLB x ∧ OkKB x := by
  obtain ⟨x, h1, h2, h3⟩ := Maps.keyOf_str Try.underlying9 h
  exact ⟨x, h1, h2, h3⟩
theorem kVB_injI {a b : KeyB} (h : kVB a = kVB b) : a = b := by
  simp only [kVB, Value.string.injEq] at h
  exact bs_inj h
theorem ranges_sameI {H : Type} {P : Program} {k : TypeId} {R : Value → Option (DataW H × List MemPlace)} {w w' : World} {b r n : Nat} {D : DataW H} {left : Lit → Bool} {cnt : Nat} (h : w.ranges P k R b r n D left cnt) (h1 : w'.heap[b]? = w.heap[b]?) (h2 : w'.heap[r]? = w.heap[r]?) : w'.ranges P k R b r n D left cnt := by
  obtain ⟨es, clock, since, seen, c0, hb, F, hs, hD, hr, rest⟩ := h
  exact ⟨es, clock, since, seen, c0, h1.trans hb, F, hs, hD, h2.trans hr, rest⟩
/-- how far a loop over the map has come -/
def WalkMI (V : World) (X : Nat → Prop) (b r : Nat) (D : DataW Unit) (T : List (KeyB × Ent VI)) (J : List (KeyB × Ent VI) → (Nat → Prop) → World → Prop) (left : Lit → Bool) (cnt : Nat) (pre : List (KeyB × Ent VI)) (wr : World) : Prop :=
  wr.ranges Try.prog 9 readEI b r T.length D left cnt ∧ CameM kLB T pre left ∧ ∃ X1, GrowX X X1 V wr ∧ ¬ X1 r ∧ Fr X V wr ∧ J pre X1 wr
set_option maxRecDepth 100000 in
set_option maxHeartbeats 4000000 in
theorem mapval_seqI (Bm b : Nat) (T : List (KeyB × Ent VI)) (w : World) (hb : w.heap[Bm]? = some (.cells #[.map (some b)] 66 (0, 0))) (hm : MapBI w b T) :
    SeqP Try.prog 61 #[.pointer (some ⟨Bm, 0, none⟩)] encVI (fun k => k = Bm ∨ k = b) T w := fun l J Jx X V hs hYl hX hJ hJx hY h0 => by
  have hbV := (hs Bm (.inl rfl)).trans hb
  obtain ⟨D, hown, hT, hok⟩ := mapBI_same hm (hs b (.inr rfl))
  have c0 : V.cell? ⟨Bm, 0, none⟩ = some (.map (some b)) := (blk_cell hbV 0).trans rfl
  have hb1 : b < V.heap.size := hown.lt
  have HJ := Lib.hid hJ
  have HY := Lib.hid hY
  have HX := Lib.hid hX
  have HT := Lib.hid (And.intro hT hok)
  have H0 := Lib.hid h0
  clear hb hm hs hbV hY hX h0 hJ hJx hYl hT hok
  refine (callsIn_wide (n := 20)).1 ?_
  refine callsIn_of_wp Try.func61 rfl trivial ?_ rfl
  simp only [Try.ntmps61, List.size_toArray, List.length_cons, List.length_nil, Nat.reduceAdd, Nat.reduceSub, Array.replicate_succ, Array.replicate_zero, List.push_toArray, List.append_toArray, List.nil_append, List.cons_append]
  gi_wp2_with (first
    | (gi_at_range; refine wpListIn_range_own _ rfl _ 66 rfl 9 70 keyedB Try.underlying66 _ b T.length D rfl hown ?_; intro w0 hrg0 hg0 hs0)
    | gi_in)
  try go_frame
  have h00 : Hid (∃ left cnt pre, WalkMI V X b V.heap.size D T J left cnt pre w0) := by
    have f0 : Fr (fun _ => False) V w0 := (Fr.refl _ V).grown hg0 fun j e => by cases e
    have hlt : ∀ k, X k → k < V.heap.size := fun k hk => (HX.out k hk).1
    exact ⟨_, _, [], hrg0, came_start HT.out.1 kLB_inj, X, fun k hk => ⟨Nat.lt_of_lt_of_le (hlt k hk) f0.size, fun _ => hk⟩, fun e => by have := hlt _ e; omega, f0.mono (fun _ _ e => e.elim), HJ.out.fr H0.out hlt f0 fun _ e => e.elim⟩
  clear hrg0 hg0 hs0
  gi_loopw [4] (fun _ wr => Hid (∃ left cnt pre, WalkMI V X b V.heap.size D T J left cnt pre wr)) (fun _ wr => wr.rangeLeft b V.heap.size)
  case atStart => exact h00
  case round =>
    clear h00
    obtain ⟨left, cnt, pre, hrg, hC, X1, hg1, hn1, hf1, hj1⟩ := hrel.out
    have HR := Lib.hid (And.intro hC (And.intro hg1 (And.intro hn1 (And.intro hf1 (And.intro hj1 hrg)))))
    clear hC hg1 hn1 hf1 hj1 hrel
    gi_wp2_with (first
      | (gi_at_next; refine wpListIn_next_ranges _ rfl _ rfl 9 keyedB readEI kVB valEI (fun key kl hk => by obtain ⟨x, hx, _⟩ := keyOf_invHI hk; exact ⟨x, hx⟩) (fun v y hv => by obtain ⟨c, rfl, _⟩ := readEI_inv hv; exact ⟨c, rfl⟩) b V.heap.size T.length _ _ _ rfl hrg ?_ ?_)
      | gi_in)
    · intro hc0 hl0
      have HL := Lib.hid hl0
      clear hl0 hrg
      gi_wp2_with fail
      go_end0
      obtain ⟨hC, hg1, hn1, hf1, hj1, _⟩ := HR.out
      exact ⟨⟨_, rfl⟩, X1, hg1, hf1, .inl ⟨pre, came_end hC HL.out, hj1⟩⟩
    · intro x c kl yd yp w2 cnt2 hkey hlk hv hat hrg2 hlt hg2 hs2 hen
      obtain ⟨x', ex, rfl, hx⟩ := keyOf_invHI hkey
      obtain rfl := kVB_injI ex
      obtain ⟨c', ec, ez⟩ := readEI_inv hv
      obtain rfl : c = c' := valEI_inj ec
      obtain rfl : yd = evEI c := (Prod.mk.inj ez).1
      obtain ⟨hC, hg1, hn1, hf1, hj1, hrg1⟩ := HR.out
      obtain ⟨r, hp, hC2⟩ := came_step HT.out.1 kLB_inj evEI_inj hC (kLB_key x) hlk hat
      have f2 : Fr (fun k => k = V.heap.size) wr w2 := (Fr.refl _ wr).grown hg2 fun j e => by cases e; exact .inr rfl
      have hlt1 : ∀ k, X1 k → k < wr.heap.size := fun k hk => (hg1 k hk).1
      obtain ⟨wa, hwa⟩ : ∃ wa, w2.alloc (Obj.cells #[.string c.name, .string (bs c.fold), .int .i64 c.thing] 70) = wa := ⟨_, rfl⟩
      have ka : wa.heap[w2.heap.size]? = some (.cells #[.string c.name, .string (bs c.fold), .int .i64 c.thing] 70 (0, 0)) := by rw [← hwa]; exact heap_alloc_new _ _
      have c5 := blk_cell ka 0
      have c6 := blk_cell ka 1
      have c7 := blk_cell ka 2
      have fa : Fr (fun _ => False) w2 wa := by rw [← hwa]; exact (Fr.refl _ w2).alloc _
      have f3 : Fr (fun k => k = V.heap.size) wr wa := f2.trans3 fa fun _ _ e => e.elim
      have hrg3 : wa.ranges Try.prog 9 readEI b V.heap.size T.length D _ cnt2 := ranges_sameI hrg2 (fa.block b (Nat.lt_of_lt_of_le hb1 (by have := hf1.size; have := f2.size; omega)) fun e => e) (fa.block _ hrg2.lt fun e => e)
      have hg2' : GrowX X X1 V wa := fun k hk => ⟨Nat.lt_of_lt_of_le (hlt1 k hk) f3.size, (hg1 k hk).2⟩
      have hf2' : Fr X V wa := hf1.trans3 f3 fun k hk e => by omega
      have hyy := HY.out pre (x, c) r X1 wa hp hg2' (HJ.out.fr hj1 hlt1 f3 fun k e => e ▸ hn1) hf2'
      obtain ⟨fn, tmps, assign, body, hy, hR⟩ := hyy
      dsimp only [encVI, valEI, thVI] at hy
      unfold kVB valEI thVI at hen
      unfold kVB valEI thVI
      have HE := Lib.hid (And.intro hC2 (And.intro hp (And.intro hg2' (And.intro hf2' (And.intro hn1 (And.intro hrg3 (And.intro hrg1 hlt)))))))
      have HW := Lib.hid hwa
      clear hs2 hC hg1 hn1 hf1 hj1 hrg1 hC2 hp hg2' hf2' f2 f3 fa ka hlt1 hrg2 hrg3 hlt hkey hlk hv hat ex ec ez hg2 hrg hwa
      gi_wp2_with (rw [HW.out])
      refine (round_wide (.inl rfl) hR).mono ?_
      rintro e W3 ⟨X2, g2, f2, (⟨rfl, hJ3⟩ | ⟨rfl, hJx3⟩)⟩
      · obtain ⟨hC2, hp, hg2', hf2', hn1, hrg2, hrg1, hlt⟩ := HE.out
        have hnb : ¬ X1 b := fun e => (HX.out b ((hg2' b e).2 hb1)).2 (.inr rfl)
        have hrg3 := ranges_sameI hrg2 (f2.block b (Nat.lt_of_lt_of_le hb1 hf2'.size) hnb) (f2.block _ hrg2.lt hn1)
        have hN : Hid (∃ left cnt pre, WalkMI V X b V.heap.size D T J left cnt pre W3) :=
          ⟨_, cnt2, pre ++ [(x, c)], hrg3, hC2, X2, hg2'.trans g2 hf2'.size, fun e => hn1 ((g2 _ e).2 hrg2.lt), hf2'.trans3 f2 fun k hk e => (hg2' k e).2 hk, hJ3⟩
        have hM : Hid (W3.rangeLeft b V.heap.size < wr.rangeLeft b V.heap.size) := by
          show _ < _
          rw [hrg3.left_eq, hrg1.left_eq]; exact hlt
        clear hC2 hp hg2' hf2' hn1 hrg2 hrg1 hlt hnb hrg3 g2 f2 hJ3 hR hy hen
        gi_wp2_with fail
        go_roundw
        case rel => exact hN
        case measure => exact hM.out
      · clear hR hy hen
        gi_wp2_with fail
        refine bodyPost_ret (results_none rfl _ _ _) rfl ?_
        obtain ⟨hC2, hp, hg2', hf2', hn1, hrg2, hrg1, hlt⟩ := HE.out
        exact ⟨⟨_, rfl⟩, X2, hg2'.trans g2 hf2'.size, hf2'.trans3 f2 fun k hk e => (hg2' k e).2 hk, .inr ⟨_, r, by simpa using hp, hJx3⟩⟩
theorem mapval_callI (m : Option Nat) (w : World) : Calls Try.prog 54 #[.map m] w fun e w' => e = .returned (.func (.func 61) #[] #[.pointer (some ⟨w.heap.size, 0, none⟩)]) ∧ w' = w.alloc (.cells #[.map m] 66) := by
  go_enter Try.func54, Try.ntmps54
  go_wp2_with fail
  go_ret
  exact ⟨rfl, rfl⟩
end Go.Proofs.Ytfdaeajafmcjcaa
