/- Layer 13: what tells a row of entries, as a function that ranges. -/
import Derived.Test.YtkifblbmppjicaaWasC
import Derived.Test.YtkifblbmppjicaaRangeT
import Derived.Sort.LoopGhostIn
namespace Go.Proofs.Ytkifblbmppjicaa
set_option linter.unusedVariables false
set_option linter.unusedSimpArgs false
open Go.RowKit Go.Shelf

def encE (x : Ent) : Array Value := #[.string x.1, .int .i64 x.2]
/-- the blocks of a tale -/
def taleY (B : Nat) (v : Value) : Nat → Prop := fun b => b = B ∨ v.ownBlock = some b
set_option maxRecDepth 100000 in
set_option maxHeartbeats 4000000 in
theorem told_tells (n : Nat) (hn : 2 ≤ n) (base B : Nat) (v : Value) (xs : List Ent) (w : World) (hxs : xs.length ≤ 100000) (hb : w.heap[B]? = some (.cells #[v] 78 (0, 0))) (hr : w.ownsRow base 82 2 v xs.length (entL xs)) :
    SeqT Fence.wide n Try.prog 53 #[.pointer (some ⟨B, 0, none⟩)] encE (fun _ => False) (taleY B v) xs w := fun l J Jx V hV hJ hJx hY h0 => by
  have hbV := (hV.block B (blk_lt hb)).trans hb
  have c0 : V.cell? ⟨B, 0, none⟩ = some v := (blk_cell hbV 0).trans rfl
  have hrV : V.ownsRow base 82 2 v xs.length (entL xs) := row_same hr fun g hg => hV.block g (hr.lt g hg).2
  obtain ⟨A, c, rfl⟩ := row_slice hr
  have HR := Lib.hid hrV
  have HB := Lib.hid hbV
  have HY := Lib.hid hY
  have HJ := Lib.hid hJ
  have HJx := Lib.hid hJx
  clear hb hr hV hrV hbV hY hJ hJx
  refine callsIn_of_wp Try.func53 rfl trivial ?_ rfl
  simp only [Try.ntmps53, List.size_toArray, List.length_cons, List.length_nil, Nat.reduceAdd, Nat.reduceSub, Array.replicate_succ, Array.replicate_zero, List.push_toArray, List.append_toArray, List.nil_append, List.cons_append]
  gi_wp2
  gi_loopw [7] (fun c1 wr => ∃ k : Nat, c1 = .int .i64 k ∧ k ≤ xs.length ∧ Hid (SameX (taleY B (.slice A xs.length c)) V wr) ∧ Hid (J (xs.take k) wr)) (fun c1 _ => xs.length - (intOf c1).toNat)
  case atStart => exact ⟨0, rfl, Nat.zero_le _, fun _ _ => rfl, h0⟩
  case round =>
    obtain ⟨k, rfl, hk, HS, HJk⟩ := hrel
    by_cases hlt : k < xs.length
    · obtain ⟨g, rfl, hg⟩ : ∃ g, A = some ⟨g, 0, none⟩ ∧ (Value.slice A xs.length c).ownBlock = some g := by
        rcases HR.out.2 with ⟨h1, h2⟩ | ⟨g, cap, cur, h1, _⟩
        · omega
        · cases h1; exact ⟨g, rfl, rfl⟩
      obtain ⟨x, hx⟩ : ∃ x, xs[k] = x := ⟨_, rfl⟩
      obtain ⟨d0, d1⟩ := entL_get xs k hlt
      have hcell : ∀ j u, (entL xs)[j]? = some u → wr.cell? ⟨g, j, none⟩ = some u := fun j u hu => by
        have h1 := HR.out.cells (g := g) rfl j u hu
        have h2 : (⟨g, 0, none⟩ : Addr).add j = ⟨g, j, none⟩ := by unfold Addr.add; split <;> simp_all
        rw [h2] at h1
        exact (HS.out.cell (b := g) (o := j) (.inr rfl)).trans h1
      have e0 := hcell _ _ d0
      have e1 := hcell _ _ d1
      rw [hx] at e0 e1
      have hsp : xs.take k ++ x :: xs.drop (k + 1) = xs := by rw [← hx, ← List.drop_eq_getElem_cons hlt]; exact List.take_append_drop k xs
      have htk : xs.take (k + 1) = xs.take k ++ [x] := by rw [List.take_succ_eq_append_getElem hlt, hx]
      have HT := Lib.hid htk
      have hgB : g < wr.heap.size := by
        have := block_lt_of_cell e0; exact this
      have hSa : SameX (taleY B (.slice (some ⟨g, 0, none⟩) xs.length c)) V (wr.alloc (.cells #[.string x.1, .int .i64 x.2] 82)) := fun b hb => by
        refine (Below.heap_alloc wr _ b ?_).trans (HS.out b hb)
        rcases hb with rfl | hb
        · exact blk_lt ((HS.out b (.inl rfl)).trans HB.out)
        · cases hb; exact hgB
      have HSA := Lib.hid hSa
      have HSP := Lib.hid hsp
      clear hSa
      have hyy := HY.out (xs.take k) x (xs.drop (k + 1)) (wr.alloc (.cells #[.string x.1, .int .i64 x.2] 82)) hsp (HJ.out _ _ _ none HJk.out (World.grownBy_alloc wr _ none) (fun _ e => by cases e))
      obtain ⟨fn, tmps, assign, body, hy, hR⟩ := hyy
      dsimp only [encE] at hy
      clear hcell d0 d1 hx htk hsp hg
      gi_wp2_with fail
      refine ⟨fun _ => by omega, hR.mono ?_⟩
      rintro e W3 (⟨rfl, hJ3, hK3⟩ | ⟨rfl, hJx3⟩)
      · have hS3 : Hid (SameX (taleY B (.slice (some ⟨g, 0, none⟩) xs.length c)) V W3) := HSA.out.trans hK3
        rw [← HT.out] at hJ3
        have HJ3 := Lib.hid hJ3
        clear hJ3 hK3 hR hy
        gi_wp2_with fail
        go_roundw
        case rel => exact ⟨k + 1, by go_num, by omega, hS3, HJ3⟩
        case measure => simp [intOf]; omega
      · clear hR hy
        gi_wp2_with fail
        refine bodyPost_ret (results_none rfl _ _ _) rfl ?_
        exact ⟨⟨_, rfl⟩, .inr ⟨_, xs.drop (k + 1), by simpa using HSP.out, hJx3⟩⟩
    · obtain rfl : k = xs.length := by omega
      gi_wp2_with fail
      go_end0
      have hj := HJk.out
      rw [List.take_length] at hj
      exact ⟨⟨_, rfl⟩, .inl hj⟩
end Go.Proofs.Ytkifblbmppjicaa
