/- Texts of this proof, one behind the other. -/
import Derived.Test.YtlkeomcillencaaGreatRoomsPlayG4
import Derived.Test.YtlkeomcillencaaGreatRoomsPlayG1
import Derived.Test.YtlkeomcillencaaGreatRoomsPlayG3
import Derived.Deep.QuietTactic
import Derived.BigQuiet
import Derived.Test.YtlkeomcillencaaGreatChecked
import Derived.Test.YtlkeomcillencaaGreatRoomsPlayG2
import Derived.RangeFuncKeeps
import Derived.Outline
import Derived.Laws.StructEq
import Derived.ChangeKeysEq
import Derived.Sort.QuietThIn
import Derived.Sort.QuietTacIn
import Derived.StillTail
import Derived.TacticsIn
import Derived.RangeFuncWrites
import Derived.RangeFuncBox
import Derived.Sort.CutIn
import Derived.Stop.RegionWithIn
import Derived.Laws.ResultCell
set_option linter.unusedVariables false
set_option linter.unusedSimpArgs false
section
/- Layer 10: Of: a set of what a slice holds, whosever it is. -/
namespace Go.Proofs.YtlkeomcillencaaGreat
open Go Go.RowKit Go.Lib Go.Sort Go.Shelf

/-- what a slice reads -/
def ReadsI (w : World) (A : Option Addr) (xs : List Int) : Prop := 0 < xs.length → ∃ g o, A = some ⟨g, o, none⟩ ∧ g < w.heap.size ∧ ∀ j (h : j < xs.length), w.cell? ⟨g, o + j, none⟩ = some (.int .i64 xs[j])
theorem ReadsI.below {w W : World} {A : Option Addr} {xs : List Int} (h : ReadsI w A xs) {n : Nat} (hb : Below n w W) (hn : w.heap.size ≤ n := by exact Nat.le_refl _) : ReadsI W A xs := fun h0 => by
  obtain ⟨g, o, h1, h2, h3⟩ := h h0
  exact ⟨g, o, h1, Nat.lt_of_lt_of_le h2 hb.size, fun j hj => (World.cell?_of_block (w := w) (w' := W) (a := ⟨g, o + j, none⟩) (hb.block g (Nat.lt_of_lt_of_le h2 hn))).trans (h3 j hj)⟩
def anyY (B : Nat) (A : Option Addr) (n : Nat) : Nat → Prop := fun b => b = B ∨ (0 < n ∧ ∃ p, A = some p ∧ p.block = b)
set_option maxRecDepth 100000 in
set_option maxHeartbeats 4000000 in
theorem values_tells_any (n : Nat) (hn : 2 ≤ n) (B : Nat) (A : Option Addr) (c : Nat) (xs : List Int) (w : World) (hxs : xs.length ≤ 1000000) (hb : w.heap[B]? = some (.cells #[.slice A xs.length c] 56 (0, 0))) (hr : ReadsI w A xs) :
    SeqT Fence.wide n Tryz.prog 116 #[.pointer (some ⟨B, 0, none⟩)] encI (fun _ => False) (anyY B A xs.length) xs w := fun l J Jx V hV hJ hJx hY h0 => by
  have hbV := (hV.block B (blk_lt hb)).trans hb
  have c0 : V.cell? ⟨B, 0, none⟩ = some (.slice A xs.length c) := (blk_cell hbV 0).trans rfl
  have hrV : ReadsI V A xs := hr.below hV
  have HR := Lib.hid hrV
  have HB := Lib.hid hbV
  have HY := Lib.hid hY
  have HJ := Lib.hid hJ
  have HJx := Lib.hid hJx
  clear hb hr hV hrV hbV hY hJ hJx
  refine callsIn_of_wp Tryz.func116 rfl trivial ?_ rfl
  simp only [Tryz.ntmps116, List.size_toArray, List.length_cons, List.length_nil, Nat.reduceAdd, Nat.reduceSub, Array.replicate_succ, Array.replicate_zero, List.push_toArray, List.append_toArray, List.nil_append, List.cons_append]
  gi_wp2
  gi_loopw [7] (fun c1 wr => ∃ k : Nat, c1 = .int .i64 k ∧ k ≤ xs.length ∧ Hid (SameX (anyY B A xs.length) V wr) ∧ Hid (J (xs.take k) wr)) (fun c1 _ => xs.length - (Go.RowKit.intOf c1).toNat)
  case atStart => exact ⟨0, rfl, Nat.zero_le _, fun _ _ => rfl, h0⟩
  case round =>
    obtain ⟨k, rfl, hk, HS, HJk⟩ := hrel
    by_cases hlt : k < xs.length
    · obtain ⟨g, o, rfl, hg, hcell⟩ := HR.out (by omega)
      obtain ⟨x, hx⟩ : ∃ x, xs[k] = x := ⟨_, rfl⟩
      have e0 : wr.cell? ⟨g, o + k, none⟩ = some (.int .i64 x) := by
        rw [HS.out.cell (b := g) (o := o + k) (.inr ⟨by omega, _, rfl, rfl⟩), hcell k hlt, hx]
      have hsp : xs.take k ++ x :: xs.drop (k + 1) = xs := by rw [← hx, ← List.drop_eq_getElem_cons hlt]; exact List.take_append_drop k xs
      have htk : xs.take (k + 1) = xs.take k ++ [x] := by rw [List.take_succ_eq_append_getElem hlt, hx]
      have HT := Lib.hid htk
      have HSP := Lib.hid hsp
      have hyy := HY.out (xs.take k) x (xs.drop (k + 1)) wr hsp HJk.out
      obtain ⟨fn, tmps, assign, body, hy, hR⟩ := hyy
      dsimp only [encI] at hy
      clear hx htk hsp hg hcell
      gi_wp2_with fail
      refine ⟨fun _ => by omega, hR.mono ?_⟩
      rintro e W3 (⟨rfl, hJ3, hK3⟩ | ⟨rfl, hJx3⟩)
      · have hS3 : Hid (SameX (anyY B (some ⟨g, o, none⟩) xs.length) V W3) := HS.out.trans hK3
        rw [← HT.out] at hJ3
        have HJ3 := Lib.hid hJ3
        clear hJ3 hK3 hR hy
        gi_wp2_with fail
        go_roundw
        case rel => exact ⟨k + 1, by go_num, by omega, hS3, HJ3⟩
        case measure => simp [Go.RowKit.intOf]; omega
      · clear hR hy
        gi_wp2_with fail
        refine bodyPost_ret (results_none rfl _ _ _) rfl ?_
        exact ⟨⟨_, rfl⟩, .inr ⟨_, xs.drop (k + 1), by simpa using HSP.out, hJx3⟩⟩
    · obtain rfl : k = xs.length := by omega
      gi_wp2_with fail
      go_end0
      have hj := HJk.out
      rw [List.take_length] at hj
      exact ⟨⟨_, rfl⟩, .inl hj⟩


theorem tells_any {w : World} {B : Nat} {A : Option Addr} {xs : List Int} {c : Nat} (hl : xs.length ≤ 1000000) (hb : w.heap[B]? = some (.cells #[.slice A xs.length c] 56 (0, 0))) (hr : ReadsI w A xs) :
    Tells w (.func (.func 116) #[] #[.pointer (some ⟨B, 0, none⟩)]) xs := by
  refine ⟨_, _, anyY B A xs.length, rfl, fun n hn => values_tells_any n (by omega) B A c xs w hl hb hr, fun b hb2 => ?_, enters_of Tryz.func116 (by kernel_rfl) rfl⟩
  rcases hb2 with rfl | ⟨h0, p, h1, rfl⟩
  · exact blk_lt hb
  · obtain ⟨g, o, h2, h3, _⟩ := hr h0
    rw [h2] at h1; cases h1; exact h3
/-- numbers, each once, rising -/
def normI (xs : List Int) : List Int := compact (xs.mergeSort fun x y => decide (x ≤ y))
/-- a new set -/
def OfP (zs : List Int) (w : World) (e : Ending) (w' : World) : Prop := (∃ s ob, e = .returned (.pointer (some ⟨s, 0, none⟩)) ∧ SetAt w.heap.size w' s ob zs ∧ w.heap.size ≤ s) ∧ Below w.heap.size w w'
set_option maxHeartbeats 4000000 in
theorem set_of {w : World} (A : Option Addr) (xs : List Int) (c : Nat) (hl : xs.length ≤ 1000000) (hr : ReadsI w A xs) (hup : (normI xs).Pairwise (· < ·)) :
    Calls Tryz.prog 59 #[.slice A xs.length c] w (OfP (normI xs) w) := by
  have HV := Lib.hid (values_calls A xs.length c w)
  have HR := Lib.hid hr
  have HU := Lib.hid hup
  clear hr hup
  go_enter Tryz.func59, Tryz.ntmps59
  go_wp2_with fail
  refine HV.out.mono ?_
  rintro e w1 ⟨rfl, h1, h2⟩
  obtain ⟨W2, hW2⟩ : ∃ W2, w1.alloc (Obj.cells #[Value.func (.func 116) #[] #[.pointer (some ⟨w.heap.size, 0, none⟩)]] 60) = W2 := ⟨_, rfl⟩
  have hb2 : Below w1.heap.size w1 W2 := by rw [← hW2]; exact (Below.refl _ _).alloc (Nat.le_refl _) _
  have hT : Tells W2 (.func (.func 116) #[] #[.pointer (some ⟨w.heap.size, 0, none⟩)]) xs := tells_below (tells_any hl h1 (HR.out.below h2)) hb2
  have hcc : W2.cell? ⟨w1.heap.size, 0, none⟩ = some (Value.func (.func 116) #[] #[.pointer (some ⟨w.heap.size, 0, none⟩)]) := by rw [← hW2]; exact blk_cell (heap_alloc_new w1 _) 0
  have hz2 : w1.heap.size < W2.heap.size := by rw [← hW2, World.size_alloc]; omega
  have hz1 := h2.size
  have HG := Lib.hid (gather_of (w := W2) (some ⟨w1.heap.size, 0, none⟩) [xs] 1 (by simp) (by simpa using hl) (fun _ => ⟨_, _, rfl, hz2, fun j hj => by
    obtain rfl : j = 0 := by simp at hj; omega
    exact ⟨_, hcc, hT⟩⟩) _ rfl)
  have hB : Below w.heap.size w W2 := h2.trans (hb2.mono hz1)
  have H2 := Lib.hid hB
  have HW := Lib.hid hW2
  clear hb2 hT hcc h1 h2 hB hW2
  go_wp2_with fail
  rw [HW.out]
  refine HG.out.mono ?_
  rintro e w3 ⟨⟨v', rfl, h3⟩, h4⟩
  obtain ⟨A', c', rfl⟩ := row_slice h3
  have H3 := Lib.hid (And.intro h3 h4)
  clear h3 h4
  go_wp2_with fail
  go_ret
  obtain ⟨h3, h4⟩ := H3.out
  have hB := H2.out
  have hz := hB.size
  have hb3 : Below w3.heap.size w3 (w3.alloc (Obj.cells #[Value.slice A' (compact (List.mergeSort [xs].flatten fun x y => decide (x ≤ y))).length c'] 149)) := (Below.refl _ _).alloc (Nat.le_refl _) _
  have e0 : [xs].flatten = xs := by simp
  rw [e0] at h3 hb3
  refine ⟨⟨w3.heap.size, _, rfl, ⟨⟨_, heap_alloc_new w3 _, rfl, row_base' (own_kept h3 fun g hg => hb3.block g (h3.lt g hg).2) hz⟩, fun e => ?_, HU.out⟩, ?_⟩, hB.trans ((h4.mono hz).trans (hb3.mono (Nat.le_trans hz h4.size)))⟩
  · have := (h3.lt _ e).2; omega
  · have := h4.size; omega
end Go.Proofs.YtlkeomcillencaaGreat
end
section
/- Layer 19: a room as it lies; what is read of it. -/
namespace Go.Proofs.YtlkeomcillencaaGreat
open Go Go.RowKit

/-- a room -/
structure Rm where
  nm : List UInt8
  mem : List Mem
  tp : List UInt8
  fl : Fl
  key : List UInt8
  lim : Nat
  mb : Int
  bans : List (List UInt8)
  inv : List Int
/-- where its parts lie -/
structure RmV where
  vm : Value
  vb : Value
  S : Nat
  ob : Option Nat
def rmO (r : Rm) (q : RmV) : Obj := .cells #[.string (bs r.nm), q.vm, .string (bs r.tp), .int .i64 (flN r.fl), .string (bs r.key), .int .i64 r.lim, .int .i64 r.mb, q.vb, .pointer (some ⟨q.S, 0, none⟩)] 101 (0, 0)
def RoomAt (base B : Nat) (q : RmV) (r : Rm) (W : World) : Prop :=
  W.heap[B]? = some (rmO r q) ∧ OwnM base W q.vm r.mem ∧ OwnT base W q.vb r.bans ∧ SetAt base W q.S q.ob r.inv ∧ base ≤ B ∧ base ≤ q.S ∧ UpM r.mem
/-- its blocks -/
def RmX (B : Nat) (q : RmV) (k : Nat) : Prop := k = B ∨ q.vm.ownBlock = some k ∨ q.vb.ownBlock = some k ∨ k = q.S ∨ q.ob = some k
section
variable {base B : Nat} {q : RmV} {r : Rm} {W : World}
theorem RoomAt.lt (h : RoomAt base B q r W) : ∀ k, RmX B q k → base ≤ k ∧ k < W.heap.size := by
  obtain ⟨h1, h2, h3, ⟨⟨v, h4, h5, h6⟩, h7, h8⟩, h9, h10, _⟩ := h
  rintro k (rfl | e | e | rfl | e)
  · exact ⟨h9, blk_lt h1⟩
  · exact h2.lt k e
  · exact h3.lt k e
  · exact ⟨h10, blk_lt h4⟩
  · exact h6.lt k (h5.trans e)
theorem RoomAt.fr (h : RoomAt base B q r W) {Z : Nat → Prop} {W' : World} (hf : Fr Z W W') (hz : ∀ k, RmX B q k → ¬ Z k) : RoomAt base B q r W' := by
  have hl := h.lt
  obtain ⟨h1, h2, h3, h4, h9⟩ := h
  exact ⟨hf.blk h1 (hz _ (.inl rfl)), ownM_kept h2 fun g hg => hf.block g (h2.lt g hg).2 (hz _ (.inr (.inl hg))), ownT_kept h3 fun g hg => hf.block g (h3.lt g hg).2 (hz _ (.inr (.inr (.inl hg)))),
    set_kept h4 (hf.block _ (hl _ (.inr (.inr (.inr (.inl rfl))))).2 (hz _ (.inr (.inr (.inr (.inl rfl)))))) (fun g hg => hf.block g (hl _ (.inr (.inr (.inr (.inr hg))))).2 (hz _ (.inr (.inr (.inr (.inr hg)))))), h9⟩
theorem RoomAt.below (h : RoomAt base B q r W) {W' : World} (hb : RowKit.Below W.heap.size W W') : RoomAt base B q r W' :=
  h.fr (Fr.of_below (X := fun _ => False) hb) fun _ _ e => e
theorem RoomAt.rebase (h : RoomAt base B q r W) {b : Nat} (hb : b ≤ base) : RoomAt b B q r W := by
  obtain ⟨h1, h2, h3, ⟨⟨v, h4, h5, h6⟩, h7, h8⟩, h9, h10, hu⟩ := h
  refine ⟨h1, ownM_base h2 hb, ownT_base h3 hb, ⟨⟨v, h4, h5, ?_⟩, h7, h8⟩, by omega, by omega, hu⟩
  obtain ⟨k1, k2⟩ := h6
  refine ⟨k1, ?_⟩
  rcases k2 with k2 | ⟨g, cap, cur, k3, k4, k5⟩
  · exact .inl k2
  · exact .inr ⟨g, cap, cur, k3, by omega, k5⟩
/-- no two of its parts share a block -/
theorem RoomAt.apart (h : RoomAt base B q r W) : (q.vm.ownBlock ≠ some B ∧ q.vb.ownBlock ≠ some B ∧ q.S ≠ B ∧ q.ob ≠ some B) ∧ (∀ k, q.vm.ownBlock = some k → q.vb.ownBlock ≠ some k ∧ q.S ≠ k ∧ q.ob ≠ some k) ∧ (∀ k, q.vb.ownBlock = some k → q.S ≠ k ∧ q.ob ≠ some k) := by
  obtain ⟨h1, h2, h3, ⟨⟨v, h4, h5, h6⟩, h7, h8⟩, h9, h10, _⟩ := h
  have tyo : ∀ {e : TypeId} {size n : Nat} {v : Value} {xs : List Value} {k : Nat}, W.ownsRow base e size v n xs → v.ownBlock = some k → ∃ cur, W.heap[k]? = some (.cells cur e (0, 0)) := fun {e size n v xs k} hr hk => by
    rcases hr.2 with ⟨rfl, _⟩ | ⟨g, cap, cur, rfl, _, hg, _⟩
    · cases hk
    · cases hk; exact ⟨cur, hg⟩
  have ne : ∀ {k : Nat} {c1 c2 : Array Value} {t1 t2 : TypeId}, t1 ≠ t2 → W.heap[k]? = some (.cells c1 t1 (0, 0)) → W.heap[k]? = some (.cells c2 t2 (0, 0)) → False := fun ht a b => by
    rw [a] at b; injection b with b; injection b with b1 b2 _; exact ht b2
  have hob : ∀ {k}, q.ob = some k → ∃ cur, W.heap[k]? = some (.cells cur 3 (0, 0)) := fun e => tyo h6 (h5.trans e)
  refine ⟨⟨fun e => ?_, fun e => ?_, fun e => ?_, fun e => ?_⟩, fun k hk => ⟨fun e => ?_, fun e => ?_, fun e => ?_⟩, fun k hk => ⟨fun e => ?_, fun e => ?_⟩⟩
  · obtain ⟨c, hc⟩ := tyo h2 e; exact ne (by decide) hc h1
  · obtain ⟨c, hc⟩ := tyo h3 e; exact ne (by decide) hc h1
  · rw [e] at h4; exact ne (by decide) h4 h1
  · obtain ⟨c, hc⟩ := hob e; exact ne (by decide) hc h1
  · obtain ⟨c, hc⟩ := tyo h2 hk; obtain ⟨d, hd⟩ := tyo h3 e; exact ne (by decide) hc hd
  · obtain ⟨c, hc⟩ := tyo h2 hk; rw [e] at h4; exact ne (by decide) hc h4
  · obtain ⟨c, hc⟩ := tyo h2 hk; obtain ⟨d, hd⟩ := hob e; exact ne (by decide) hc hd
  · obtain ⟨c, hc⟩ := tyo h3 hk; rw [e] at h4; exact ne (by decide) hc h4
  · obtain ⟨c, hc⟩ := tyo h3 hk; obtain ⟨d, hd⟩ := hob e; exact ne (by decide) hc hd
end
/-- a letter's bit -/
theorem u8_eqR (c : UInt8) (n : Nat) (hn : n < 256) : ((c.toNat : Int) == (n : Int)) = decide (c = UInt8.ofNat n) := by
  rw [Bool.eq_iff_iff, beq_iff_eq, decide_eq_true_eq]
  constructor
  · intro h; apply UInt8.toNat_inj.1; simp; omega
  · rintro rfl; simp; omega


end Go.Proofs.YtlkeomcillencaaGreat
end
section
/- Layer 19: New; a nil room; what is read of a room. -/
namespace Go.Proofs.YtlkeomcillencaaGreat
open Go Go.RowKit

theorem name_nil (w : World) : Calls Tryz.prog 16 #[.pointer none] w fun e w' => e = .returned (.string (bs [])) ∧ w' = w := by
  go_enter Tryz.func16, Tryz.ntmps16
  go_wp2_with fail
  go_ret
  exact ⟨rfl, rfl⟩
theorem name_any {B : Nat} {q : RmV} {r : Rm} {w : World} (h : w.heap[B]? = some (rmO r q)) : Calls Tryz.prog 16 #[.pointer (some ⟨B, 0, none⟩)] w fun e w' => e = .returned (.string (bs r.nm)) ∧ w' = w := by
  have c0 : w.cell? ⟨B, 0, none⟩ = some (.string (bs r.nm)) := blk_cell h 0
  clear h
  go_enter Tryz.func16, Tryz.ntmps16
  go_wp2_with fail
  go_ret
  exact ⟨rfl, rfl⟩


theorem rlen_nil (w : World) : Calls Tryz.prog 33 #[.pointer none] w fun e w' => e = .returned (.int .i64 0) ∧ w' = w := by
  go_enter Tryz.func33, Tryz.ntmps33
  go_wp2_with fail
  go_ret
  exact ⟨rfl, rfl⟩
theorem rlen_any {base B : Nat} {q : RmV} {r : Rm} {w : World} (h : RoomAt base B q r w) : Calls Tryz.prog 33 #[.pointer (some ⟨B, 0, none⟩)] w fun e w' => e = .returned (.int .i64 r.mem.length) ∧ w' = w := by
  obtain ⟨h1, h2, _⟩ := h
  obtain ⟨A, c, hv⟩ := row_slice h2
  have c0 : w.cell? ⟨B, 1, none⟩ = some (.slice A r.mem.length c) := by rw [← hv]; exact blk_cell h1 1
  clear h1 h2 hv
  go_enter Tryz.func33, Tryz.ntmps33
  go_wp2_with fail
  go_ret
  exact ⟨rfl, rfl⟩
/-- a new room -/
def rm0 (nm : List UInt8) (mb : Int) : Rm := ⟨nm, [], [], fl0, [], 0, mb, [], []⟩
def NewRm (nm : List UInt8) (mb : Int) (w : World) (e : Ending) (w' : World) : Prop := ∃ B q, e = .returned (.pointer (some ⟨B, 0, none⟩)) ∧ RoomAt w.heap.size B q (rm0 nm mb) w' ∧ RowKit.Below w.heap.size w w'
theorem newR_any (nm : List UInt8) (mb : Int) (w : World) : Calls Tryz.prog 46 #[.string (bs nm), .int .i64 mb] w (NewRm nm mb w) := by
  have hn : normI [] = [] := by decide +kernel
  have ho := fun (W : World) => set_of (w := W) none [] 0 (by simp) (fun h => by simp at h) (by rw [hn]; exact List.Pairwise.nil)
  rw [hn] at ho
  have HO := Lib.hid ho
  clear ho hn
  go_enter Tryz.func46, Tryz.ntmps46
  go_wp2_with fail
  refine (HO.out w).mono ?_
  rintro e w1 ⟨⟨s, ob, rfl, hs, hsl⟩, hb⟩
  have H := Lib.hid (And.intro hs (And.intro hsl hb))
  clear hs hsl hb
  go_wp2_with fail
  go_ret
  obtain ⟨hs, hsl, hb⟩ := H.out
  obtain ⟨W2, hW2⟩ : ∃ W2, w1.alloc (rmO (rm0 nm mb) ⟨.slice none 0 0, .slice none 0 0, s, ob⟩) = W2 := ⟨_, rfl⟩
  have hb2 : RowKit.Below w1.heap.size w1 W2 := by rw [← hW2]; exact (Below.refl _ _).alloc (Nat.le_refl _) _
  refine ⟨w1.heap.size, ⟨.slice none 0 0, .slice none 0 0, s, ob⟩, rfl, ?_, ?_⟩
  · show RoomAt _ _ _ _ (w1.alloc (rmO (rm0 nm mb) ⟨.slice none 0 0, .slice none 0 0, s, ob⟩))
    rw [hW2]
    exact ⟨by rw [← hW2]; exact heap_alloc_new w1 _, ownM_nil _ _, ownT_nil _ _, set_below hs hb2, hb.size, hsl, List.Pairwise.nil⟩
  · show RowKit.Below _ _ (w1.alloc (rmO (rm0 nm mb) ⟨.slice none 0 0, .slice none 0 0, s, ob⟩))
    rw [hW2]
    exact hb.trans (hb2.mono hb.size)
end Go.Proofs.YtlkeomcillencaaGreat
end
section
/- Layer 18: modes.Seq, the letters of a row, as a function that ranges; Takes on both sides. -/
namespace Go.Proofs.YtlkeomcillencaaGreat
open Go.RowKit Go.Shelf
attribute [local go_sem] Oper.semAt_some

/-- a letter, and whether it is on -/
abbrev Letter := UInt8 × Bool
abbrev encLet (x : Letter) : Array Value := #[.int .u8 x.1.toNat, .bool x.2]
/-- the letters of a row, from a sign on -/
def seqL (on : Bool) : List UInt8 → List Letter
  | [] => []
  | c :: r => if c = 43 then seqL true r else if c = 45 then seqL false r else (c, on) :: seqL on r
theorem seqL_len (on : Bool) (l : List UInt8) : (seqL on l).length ≤ l.length := by
  induction l generalizing on with
  | nil => simp [seqL]
  | cons c r ih =>
    unfold seqL
    split
    · have := ih true; simp; omega
    · split
      · have := ih false; simp; omega
      · have := ih on; simp; omega
theorem seqL_at (on : Bool) (s : ByteArray) (k : Nat) (h : k < s.size) : seqL on (s.data.toList.drop k) = if s[k] = 43 then seqL true (s.data.toList.drop (k + 1)) else if s[k] = 45 then seqL false (s.data.toList.drop (k + 1)) else (s[k], on) :: seqL on (s.data.toList.drop (k + 1)) := by
  rw [List.drop_eq_getElem_cons (by simpa using h)]
  rfl





/-- block B lies as it lay -/
def KeptAt (B : Nat) (W1 W' : World) : Prop := W'.heap[B]? = W1.heap[B]?
theorem KeptAt.cell {B : Nat} {W1 W' : World} (h : KeptAt B W1 W') : W'.cell? ⟨B, 0, none⟩ = W1.cell? ⟨B, 0, none⟩ := World.cell?_of_block (w := W1) h

end Go.Proofs.YtlkeomcillencaaGreat
end
section
/- Layer 18: changes as data; Lists, the answers' Takes and Same. -/
namespace Go.Proofs.YtlkeomcillencaaGreat
open Go.RowKit

/-- does a letter take an argument? -/
def takesB (c : UInt8) (on : Bool) : Bool := c == 111 || c == 118 || c == 98 || c == 107 || (c == 108 && on)



/-- a change: on, its letter, its argument -/
abbrev Chg := Bool × UInt8 × ByteArray
def chV (x : Chg) : Value := .agg #[.bool x.1, .int .u8 x.2.1.toNat, .string x.2.2]
def listsB (x : Chg) : Bool := x.2.1 == 98 && x.2.2.toList.isEmpty





def eqB (x y : Chg) : Bool := x.1 == y.1 && (x.2.1 == y.2.1 && x.2.2.toList == y.2.2.toList)
theorem eqB_iff {x y : Chg} : eqB x y = true ↔ x = y := by
  obtain ⟨a, b, c⟩ := x
  obtain ⟨a', b', c'⟩ := y
  unfold eqB
  simp only [Bool.and_eq_true, beq_iff_eq, Prod.mk.injEq]
  rw [ByteArray.toList_eq, ByteArray.toList_eq]
  constructor
  · rintro ⟨h1, h2, h3⟩; exact ⟨h1, h2, ba_ext h3⟩
  · rintro ⟨h1, h2, h3⟩; exact ⟨h1, h2, by rw [h3]⟩

def ReadsC (W : World) (v : Value) (l : List Chg) : Prop :=
  (v = .slice none 0 0 ∧ l = []) ∨ ∃ g off cap, v = .slice (some ⟨g, off, none⟩) l.length cap ∧ ∀ i (h : i < l.length), W.cell? ⟨g, off + i * 3, none⟩ = some (.bool l[i].1) ∧ W.cell? ⟨g, off + i * 3 + 1, none⟩ = some (.int .u8 l[i].2.1.toNat) ∧ W.cell? ⟨g, off + i * 3 + 2, none⟩ = some (.string l[i].2.2)

end Go.Proofs.YtlkeomcillencaaGreat
end
section
/- Layer 18: the answers' Parse. -/
namespace Go.Proofs.YtlkeomcillencaaGreat
open Go.RowKit

/-- one letter more: the changes, the next argument, how many took one -/
abbrev PSt := List Chg × Nat × Nat
def noArg : ByteArray := ⟨#[]⟩
def stepP (ps : List ByteArray) (st : PSt) (x : Letter) : PSt :=
  if takesB x.1 x.2 = true then
    if st.2.2 = 4 then st
    else if h : st.2.1 < ps.length then (st.1 ++ [(x.2, x.1, ps[st.2.1])], st.2.1 + 1, st.2.2 + 1)
    else if x.1 = 98 then (st.1 ++ [(x.2, x.1, noArg)], st.2.1, st.2.2 + 1)
    else st
  else (st.1 ++ [(x.2, x.1, noArg)], st.2.1, st.2.2)
theorem stepP_no {ps : List ByteArray} {out : List Chg} {a n : Nat} {c : UInt8} {o : Bool} (h : takesB c o = false) : stepP ps (out, a, n) (c, o) = (out ++ [(o, c, noArg)], a, n) := by simp [stepP, h]
theorem stepP_full {ps : List ByteArray} {out : List Chg} {a : Nat} {c : UInt8} {o : Bool} (h : takesB c o = true) : stepP ps (out, a, 4) (c, o) = (out, a, 4) := by simp [stepP, h]
theorem stepP_arg {ps : List ByteArray} {out : List Chg} {a n : Nat} {c : UInt8} {o : Bool} (h : takesB c o = true) (hn : n ≠ 4) (ha : a < ps.length) : stepP ps (out, a, n) (c, o) = (out ++ [(o, c, ps[a])], a + 1, n + 1) := by simp [stepP, h, hn, ha]
theorem stepP_list {ps : List ByteArray} {out : List Chg} {a n : Nat} {o : Bool} (h : takesB 98 o = true) (hn : n ≠ 4) (ha : ¬ a < ps.length) : stepP ps (out, a, n) (98, o) = (out ++ [(o, 98, noArg)], a, n + 1) := by simp [stepP, h, hn, ha]
theorem stepP_drop {ps : List ByteArray} {out : List Chg} {a n : Nat} {c : UInt8} {o : Bool} (h : takesB c o = true) (hn : n ≠ 4) (ha : ¬ a < ps.length) (hc : c ≠ 98) : stepP ps (out, a, n) (c, o) = (out, a, n) := by simp [stepP, h, hn, ha, hc]
def parseM (ps : List ByteArray) : List Chg := if h : 0 < ps.length then ((seqL true ps[0].data.toList).foldl (stepP ps) ([], 1, 0)).1 else []
/-- changes as cells -/
def chL (l : List Chg) : List Value := l.flatMap fun x => [.bool x.1, .int .u8 x.2.1.toNat, .string x.2.2]
theorem chL_snoc (l : List Chg) (x : Chg) : chL (l ++ [x]) = chL l ++ [.bool x.1, .int .u8 x.2.1.toNat, .string x.2.2] := by simp [chL]



end Go.Proofs.YtlkeomcillencaaGreat
end
section
/- A region that draws its order, anywhere, a loop's round over a function too: what only reads, in whatever order; then what must come last, in its order. -/
namespace Go.Proofs.YtlkeomcillencaaGreat
open Go

section
variable {F : Fence} {n : Nat} {P : Program} {ops : Array Oper} {md : Region.Mode} {C : World → Prop}

/-- no operation puts a call off -/
def noDefer (ops : Array Oper) : Bool := ops.all fun o => match o.op with | .defer _ => false | _ => true
theorem noDefer_spec (h : noDefer ops = true) {i : Nat} {o : Oper} (ho : ops[i]? = some o) : ∀ c, o.op ≠ .defer c := by
  intro c hc
  have := Array.all_eq_true.1 h i (Array.getElem?_eq_some_iff.1 ho).1
  rw [(Array.getElem?_eq_some_iff.1 ho).2, hc] at this
  cases this

theorem quiet_wpIn {o : Oper} {a : Act} {K : Act → Prop} {K' : Act → World → Prop} {Q' : Exit → Act → World → Prop} {w : World} (hd : ∀ c, o.op ≠ .defer c) (hw : C w) (h : ∀ a w', C w' → K a → K' a w')
    (ha : o.askedIn F P a C) (hh : o.quietIn F n P a C K) : o.wpIn F n P a w K' Q' := by
  obtain ⟨v, h1, h2⟩ := hh
  have h3 := h1 w hw
  unfold Oper.quietAtIn at h3
  refine ⟨ha w hw, ?_⟩
  rw [Oper.semAt_eq _ _ _ hd]
  generalize (execOp a.eval o).run P w = r at h3 ⊢
  match r, h3 with
  | .ok (.value u) w', h3 =>
    obtain ⟨rfl, rfl⟩ := h3
    exact h _ _ hw h2
  | .ok .skip w', h3 =>
    obtain ⟨rfl, rfl⟩ := h3
    exact h _ _ hw h2
  | .ok (.enter f args) w', h3 =>
    obtain ⟨rfl, hdep, hc⟩ := h3
    exact ⟨hdep, hc.mono fun e w'' hx => by obtain ⟨rfl, hw''⟩ := hx; exact h _ _ hw'' h2⟩

theorem quiet_wpOpIn {i : Nat} {a : Act} {K : Act → Prop} {K' : Act → World → Prop} {Q' : Exit → Act → World → Prop} {w : World} (hnd : noDefer ops = true) (hC : C w) (h : ∀ a w', C w' → K a → K' a w')
    (hh : qOpIn F n P ops C i K a) : wpOpIn F n P ops Q' i K' a w := by
  unfold qOpIn at hh
  unfold wpOpIn
  cases ho : ops[i]? with
  | none => simp only [ho] at hh ⊢; exact h _ _ hC hh
  | some o =>
    simp only [ho] at hh ⊢
    obtain ⟨ha, hh⟩ := hh
    by_cases hw : Region.wanted o (yielded ops a.tmps) = true
    · simp only [hw, if_true] at hh ⊢
      exact quiet_wpIn (noDefer_spec hnd ho) hC h ha hh
    · simp only [hw] at hh ⊢
      exact ⟨ha w hC, h _ _ hC hh⟩

/-- the head of a region: so many operations, whatever comes up, each below m -/
def headQ (F : Fence) (n : Nat) (P : Program) (md : Region.Mode) (ops : Array Oper) (C : World → Prop) (m : Nat) (L : Array Bool → Act → Prop) : Nat → Array Bool → Act → Prop
  | 0, listed, a => L listed a
  | f + 1, listed, a =>
    Region.ready md ops listed ≠ [] ∧ ∀ i ∈ Region.ready md ops listed, i < m ∧ qOpIn F n P ops C i (headQ F n P md ops C m L f (listed.setIfInBounds i true)) a

theorem wpAnyIn_of_headQ {m g : Nat} {L : Array Bool → Act → Prop} {Q' : Exit → Act → World → Prop} (hnd : noDefer ops = true) (hL : ∀ listed a w, C w → L listed a → wpAnyIn F n P md ops Q' g listed a w) :
    ∀ (f : Nat) (listed : Array Bool) (a : Act) (w : World), C w → headQ F n P md ops C m L f listed a → wpAnyIn F n P md ops Q' (f + g) listed a w
  | 0, listed, a, w, hw, h => by rw [Nat.zero_add]; exact hL _ _ _ hw h
  | f + 1, listed, a, w, hw, h => by
    rw [show f + 1 + g = (f + g) + 1 by omega]
    exact ⟨fun h0 => absurd h0 h.1, fun i hi => quiet_wpOpIn hnd hw (fun a' w' hw' h' => wpAnyIn_of_headQ hnd hL f _ a' w' hw' h') (h.2 i hi).2⟩

theorem headQ_first {m i : Nat} {oi : Oper} {v : Value} {L : Array Bool → Act → Prop} (hi : ops[i]? = some oi) (hsel : ∀ (j : Nat) (o : Oper) cs b, ops[j]? = some o → o.op ≠ .select cs b)
    (hs : Region.sinkB md ops m = true) (hc : Region.chainB md ops m = true) (hn : m < ops.size) (hin : i < m)
    (hdone : ∀ listed a, L listed a → ∀ j ∈ Region.ready md ops listed, m ≤ j) :
    ∀ (f : Nat) (listed : Array Bool) (a : Act), HeadInv md ops m listed →
      (∀ j oj, ops[j]? = some oj → j ≠ i → listed.getD j true = false → (∀ e ∈ oj.after, Region.binds md e = true → e.on ≠ i) → oi.apart ops oj = true) →
      i ∈ Region.ready md ops listed → YieldsQuiet F n P ops C oi v a →
      headQ F n P md ops C m L f (listed.setIfInBounds i true) (a.put oi.dst v) → headQ F n P md ops C m L (f + 1) listed a := by
  intro f
  induction f with
  | zero =>
    intro listed a inv _ hr hy H
    have hun := (mem_ready.1 hr).1
    refine ⟨fun h => (by rw [h] at hr; cases hr), fun j hj => ?_⟩
    have hjn : j < m := Nat.lt_of_not_le fun h => tail_waits hs hc hn inv _ i rfl hin hun j h hj
    refine ⟨hjn, ?_⟩
    by_cases hji : j = i
    · subst hji; exact hy.qOpIn hi H
    · exact absurd (hdone _ _ H j (ready_mono hj hji)) (by omega)
  | succ f ih =>
    intro listed a inv hfree hr hy H
    have hun := (mem_ready.1 hr).1
    refine ⟨fun h => (by rw [h] at hr; cases hr), fun j hj => ?_⟩
    have hjn : j < m := Nat.lt_of_not_le fun h => tail_waits hs hc hn inv _ i rfl hin hun j h hj
    refine ⟨hjn, ?_⟩
    by_cases hji : j = i
    · subst hji; exact hy.qOpIn hi H
    · have h1 := (H.2 j (ready_mono hj hji)).2
      obtain ⟨hjun, oj, hoj, hall⟩ := mem_ready.1 hj
      have hnot : ∀ e ∈ oj.after, Region.binds md e = true → e.on ≠ i := fun e he hb heq => by
        have h1 := hall e he hb
        rw [heq, getD_both hun] at h1
        cases h1
      have h2 := qOpIn_put hoj (hfree j oj hoj hji hjun hnot) (fun cs b => hsel i oi cs b hi) (fun cs b => hsel j oj cs b hoj) hy h1
      have hfree' : ∀ k ok, ops[k]? = some ok → k ≠ i → (listed.setIfInBounds j true).getD k true = false →
          (∀ e ∈ ok.after, Region.binds md e = true → e.on ≠ i) → oi.apart ops ok = true := fun k ok hk hki hun hno => by
        refine hfree k ok hk hki ?_ hno
        by_cases hjk : j = k
        · subst hjk; exact hjun
        · rw [getD_set_ne true hjk] at hun; exact hun
      refine qOpIn_mono (fun a' h3 => ih (listed.setIfInBounds j true) a' (inv.set hj hjn) hfree' (ready_mono hr (Ne.symm hji)) h3.1 ?_) h2
      rw [Array.setIfInBounds_comm _ _ hji]
      exact h3.2

theorem wpAnyIn_of_seq {Q' : Exit → Act → World → Prop} : ∀ (l : List Oper) (k : Nat) (listed : Array Bool) (a : Act) (w : World), (∀ j, l[j]? = ops[k + j]?) →
    Region.seqB md ops l.length k listed = true → wpListIn F n P ops Q' l a w → wpAnyIn F n P md ops Q' l.length listed a w
  | [], _, _, _, _, _, hB, h => ⟨by simpa [Region.seqB] using hB, h⟩
  | o :: l, k, listed, a, w, hl, hB, h => by
    have h0 : ops[k]? = some o := by simpa using (hl 0).symm
    simp only [List.length_cons, Region.seqB, Bool.and_eq_true, decide_eq_true_eq] at hB
    refine ⟨fun h1 => (by rw [hB.1] at h1; cases h1), fun i hi => ?_⟩
    rw [hB.1] at hi
    have hik : i = k := by simpa using hi
    subst hik
    have hw : wpOpIn F n P ops Q' i (wpListIn F n P ops Q' l) a w := by unfold wpOpIn; simp only [h0]; exact h
    exact wpOpIn_mono (fun a' w' h' => wpAnyIn_of_seq l (i + 1) _ a' w' (fun j => by have := hl (j + 1); simpa [Nat.add_assoc, Nat.add_comm 1 j] using this) hB.2 h') hw

theorem headQ_lex {m g : Nat} {Lq : Act → Prop} (hsel : Region.noSelect ops = true) (hs : Region.sinkB md ops m = true) (hc : Region.chainB md ops m = true) (hn : m < ops.size) :
    ∀ (l : List Oper) (k : Nat) (listed : Array Bool) (a : Act), (∀ j, j < l.length → l[j]? = ops[k + j]?) → k + l.length = m → HeadInv md ops m listed →
    Region.lexHead md ops g l.length k listed = true → wpQuietIn F n P ops C Lq l a →
    headQ F n P md ops C m (fun listed' a' => Region.seqB md ops g m listed' = true ∧ Lq a') l.length listed a
  | [], k, listed, a, _, hk, _, hB, h => by
    have : k = m := by simpa using hk
    subst this
    exact ⟨by simpa [Region.lexHead] using hB, h⟩
  | o :: l, k, listed, a, hl, hk, inv, hB, h => by
    have h0 : ops[k]? = some o := by simpa using (hl 0 (by simp)).symm
    simp only [List.length_cons, Region.lexHead, Bool.and_eq_true] at hB
    obtain ⟨⟨hr, hf⟩, hB'⟩ := hB
    have hkn : k < m := by simp only [List.length_cons] at hk; omega
    have hr' : k ∈ Region.ready md ops listed := by simpa using hr
    have hst : qOpIn F n P ops C k (wpQuietIn F n P ops C Lq l) a := by unfold qOpIn; simp only [h0]; exact h
    obtain ⟨v, hy, hK⟩ := yieldsQuiet_of_qOpIn h0 hst
    exact headQ_first h0 (Region.noSelect_spec hsel) hs hc hn hkn (fun listed' a' hL => seqB_ready hL.1) l.length listed a inv (Region.free_spec h0 hf) hr' hy
      (headQ_lex hsel hs hc hn l (k + 1) _ _ (fun j hj => by have := hl (j + 1) (by simp; omega); simpa [Nat.add_assoc, Nat.add_comm 1 j] using this) (by simp only [List.length_cons] at hk; omega) (inv.set hr' hkn) hB' hK)

/-- what only reads ahead, in whatever order; what must come last behind it, in its order -/
theorem wpIn_quiet_tail {id : Nat} {Q : Exit → Act → World → Prop} {a : Act} {w : World} {l : List Oper} (m : Nat) (hm : P.follows .mixedOrders = true) (hnd : noDefer l.toArray = true) (hB : Region.lexTailB .any l.toArray m = true)
    (h : wpQuietIn F n P l.toArray (fun w' => ∃ k, w' = w.drewN k) (fun a' => ∀ w', (∃ k, w' = w.drewN k) → wpListIn F n P l.toArray Q (l.drop m) a' w') (l.take m) a) : (Code.region id l.toArray true).wpIn F n P Q a w := by
  simp only [Region.lexTailB, Bool.and_eq_true, decide_eq_true_eq] at hB
  obtain ⟨⟨⟨⟨hsel, hn⟩, hs⟩, hc⟩, hlex⟩ := hB
  have hn' : m < l.length := by simpa using hn
  have htl : (l.take m).length = m := by simp; omega
  have hdl : (l.drop m).length = l.toArray.size - m := by simp
  have inv0 : HeadInv .any l.toArray m (Array.replicate l.toArray.size false) :=
    ⟨by simp, fun j oj _ hl => (by rw [getD_replicate_false] at hl; cases hl), fun t _ ht => getD_in (by simpa using ht) (getD_replicate_false _ _)⟩
  have H := headQ_lex (F := F) (n := n) (P := P) (md := .any) (g := l.toArray.size - m) hsel hs hc hn (l.take m) 0 _ a (fun j hj => by
    have hj' : j < m := by rw [htl] at hj; exact hj
    simp [hj']) (by simpa using htl) inv0 (by rw [htl]; exact hlex) h
  refine wpIn_region_any hm ?_
  have := wpAnyIn_of_headQ (Q' := Q) (g := l.toArray.size - m) hnd (fun listed a' w' hw' hL => by
    have := wpAnyIn_of_seq (F := F) (n := n) (P := P) (md := .any) (Q' := Q) (l.drop m) m listed a' w' (fun j => by simp [List.getElem?_drop]) (by rw [hdl]; exact hL.1) (hL.2 w' hw')
    rwa [hdl] at this) _ _ _ _ ⟨1, rfl⟩ H
  rw [htl, show m + (l.toArray.size - m) = l.toArray.size by omega] at this
  exact this

theorem wpAnyIn_of_allQ {Q : Act → Prop} {Q' : Exit → Act → World → Prop} (hnd : noDefer ops = true) (hQ : ∀ a w, C w → Q a → Q' .normal a w) : ∀ (fuel : Nat) (listed : Array Bool) (a : Act) (w : World), C w →
    wpAnyQIn F n P md ops C Q fuel listed a → wpAnyIn F n P md ops Q' fuel listed a w
  | 0, _, _, _, hw, h => ⟨h.1, hQ _ _ hw h.2⟩
  | fuel + 1, _, _, _, hw, h => ⟨fun h0 => hQ _ _ hw (h.1 h0), fun i hi => quiet_wpOpIn hnd hw (fun a' w' hw' => wpAnyIn_of_allQ hnd hQ fuel _ a' w' hw') (h.2 i hi)⟩

/-- all of it only reads -/
theorem wpIn_quiet_all {id : Nat} {Q : Exit → Act → World → Prop} {a : Act} {w : World} {l : List Oper} (hm : P.follows .mixedOrders = true) (hnd : noDefer l.toArray = true) (hB : Region.lexB .any l.toArray = true)
    (h : wpQuietIn F n P l.toArray (fun w' => ∃ k, w' = w.drewN k) (fun a' => ∀ w', (∃ k, w' = w.drewN k) → Q .normal a' w') l a) : (Code.region id l.toArray true).wpIn F n P Q a w := by
  simp only [Region.lexB, Bool.and_eq_true] at hB
  refine wpIn_region_any hm (wpAnyIn_of_allQ (Q := fun a' => ∀ w', (∃ k, w' = w.drewN k) → Q .normal a' w') hnd (fun _ w' hw' h => h w' hw') _ _ _ _ ⟨1, rfl⟩ ?_)
  have := wpAnyQIn_lex (F := F) (n := n) (P := P) (C := fun w' => ∃ k, w' = w.drewN k) (md := .any) hB.1 l.toArray.toList 0 (Array.replicate l.toArray.size false) a (by simp) (by simpa using hB.2) (by simpa using h)
  simpa using this

/-- one operation of the walk, where the fence lets every function by -/
theorem quiet_step_w (hF : ∀ f, F.fn f) {Q : Act → Prop} {a : Act} {o : Oper} {rest : List Oper}
    (h : ∀ K : Act → Prop, (∀ a, wpQuietIn F n P ops C Q rest a → K a) → if Region.wanted o (yielded ops a.tmps) then o.quietIn F n P a C K else K (a.put o.dst undef)) : wpQuietIn F n P ops C Q (o :: rest) a :=
  wpQuietIn_step (fun _ _ f _ => hF f) h
end
end Go.Proofs.YtlkeomcillencaaGreat
end
section
/- Layer 18: modes.Parse. -/
namespace Go.Proofs.YtlkeomcillencaaGreat
open Go.RowKit Go.Shelf
attribute [local go_sem] Oper.semAt_some

/-- what is left of the arguments -/
def ArgsAt (pg po : Nat) (ps : List ByteArray) (a : Nat) (v : Value) : Prop :=
  ∃ g o c, v = .slice (some ⟨g, o, none⟩) (ps.length - a) c ∧ ps.length - a ≤ c ∧ (a < ps.length → g = pg ∧ o = po + a)

/-- where the letters have led -/
def stP (ps : List ByteArray) (pre : List Letter) : PSt := pre.foldl (stepP ps) ([], 1, 0)
theorem stP_snoc (ps : List ByteArray) (pre : List Letter) (x : Letter) : stP ps (pre ++ [x]) = stepP ps (stP ps pre) x := by simp [stP]
theorem stP_bounds (ps : List ByteArray) (h : 0 < ps.length) (pre : List Letter) : (stP ps pre).1.length ≤ pre.length ∧ 1 ≤ (stP ps pre).2.1 ∧ (stP ps pre).2.1 ≤ ps.length ∧ (stP ps pre).2.2 ≤ pre.length := by
  have key : ∀ (l : List Letter) (s : PSt) (k : Nat), (s.1.length ≤ k ∧ 1 ≤ s.2.1 ∧ s.2.1 ≤ ps.length ∧ s.2.2 ≤ k) → ((l.foldl (stepP ps) s).1.length ≤ k + l.length ∧ 1 ≤ (l.foldl (stepP ps) s).2.1 ∧ (l.foldl (stepP ps) s).2.1 ≤ ps.length ∧ (l.foldl (stepP ps) s).2.2 ≤ k + l.length) := by
    intro l
    induction l with
    | nil => intro s k hs; simpa using hs
    | cons x r ih =>
      intro s k hs
      have h2 := ih (stepP ps s x) (k + 1) (by
        obtain ⟨h1, h2, h3, h4⟩ := hs
        unfold stepP
        split
        · split
          · exact ⟨by omega, h2, h3, by omega⟩
          · split
            · refine ⟨by simp; omega, by simp, by simp; omega, by simp; omega⟩
            · split
              · exact ⟨by simp; omega, h2, h3, by simp; omega⟩
              · exact ⟨by omega, h2, h3, by omega⟩
        · exact ⟨by simp; omega, h2, h3, by simp; omega⟩)
      simp only [List.foldl_cons, List.length_cons]
      have e : k + 1 + r.length = k + (r.length + 1) := by omega
      rw [e] at h2
      exact h2
  have := key pre ([], 1, 0) 0 (by simp; omega)
  simpa [stP] using this
theorem holds_own {β : Type} (B : Nat) (t : TypeId) (G : β → Value → Prop) : Own (fun s W => ∃ v, Boxed W B t v ∧ G s v) := fun s X Y row ⟨v, hs, hg⟩ hgr hrow =>
  ⟨v, hs.kept hgr (fun e' => by obtain ⟨o, ho, hc⟩ := hrow B e'.symm; rw [show X.heap[B]? = _ from hs] at ho; cases ho; cases hc), hg⟩

theorem grownBy_setAt (W : World) (b o : Nat) (v : Value) : W.grownBy (W.setCell ⟨b, o, none⟩ v) (some b) :=
  ⟨rfl, rfl, rfl, (KeepsWalks.setCell W _ v).size, fun k _ hk => Below.heap_setCell _ _ _ k (fun e => hk (by rw [e]))⟩
theorem boxed_otherAt {W : World} {B B' : Nat} {t : TypeId} {v : Value} (h : Boxed W B t v) (hne : B ≠ B') (o : Nat) (u : Value) : Boxed (W.setCell ⟨B', o, none⟩ u) B t v :=
  h.kept (grownBy_setAt W B' o u) (fun e => hne (by simpa using e))

theorem below_dn' {B : Nat} {a w : World} (h : Below B a w) (n : Nat) : Below B a (w.drewN n) := ⟨h.os, h.tape, h.output, h.size, h.block⟩
theorem keeps_dn' (W : World) (n : Nat) : KeepsOthers W (W.drewN n) := ⟨Nat.le_refl _, fun _ _ h _ => h⟩

theorem slice_from (g o n c : Nat) (h : 1 ≤ n) (hc : n ≤ c) : ∃ g1 o1, (∀ W, (Instr.slice 68 (.slice (some ⟨g, o, none⟩) n c) (some (.int .i64 1)) none none).run Tryz.prog W = .ok (.slice (some ⟨g1, o1, none⟩) (n - 1) (c - 1)) W) ∧ (1 < n → g1 = g ∧ o1 = o + 1) := by
  have hu : Tryz.prog.underlying 68 = some (.slice (Tryz.prog.elem 68)) := by kernel_rfl
  have hz : (Tryz.prog.info? (Tryz.prog.elem 68)).map (·.size) = some 1 := by kernel_rfl
  cases hie : Tryz.prog.info? (Tryz.prog.elem 68) with
  | none => rw [hie] at hz; cases hz
  | some ie =>
    rw [hie] at hz
    simp only [Option.map_some, Option.some.injEq] at hz
    by_cases h1 : c = 1
    · subst h1
      refine ⟨g, o, fun W => ?_, fun h2 => by omega⟩
      rw [run_slice_l W 68 _ _ _ hu _ _ (by omega) (by omega)]
      simp [sliced, sizeOf, hie, hz, go_sem]
    · refine ⟨g, o + 1, fun W => ?_, fun h2 => ⟨rfl, rfl⟩⟩
      rw [run_slice_l W 68 _ _ _ hu _ _ (by omega) (by omega)]
      have h3 : ¬ (c - 1 = 0) := by omega
      simp [sliced, sizeOf, hie, hz, go_sem, h1, Addr.add, show Tryz.t9.size = 1 from rfl]

end Go.Proofs.YtlkeomcillencaaGreat
end
section
/- Layer 18: what is written, as data; what is read is good; what is good comes back. -/
namespace Go.Proofs.YtlkeomcillencaaGreat
open Go.RowKit

/-- what is written: the row, the arguments, the sign that stands last -/
abbrev TSt := List UInt8 × List ByteArray × Option Bool
def sgn (on : Bool) : UInt8 := if on then 43 else 45
def stepT (st : TSt) (x : Chg) : TSt :=
  (st.1 ++ (if st.2.2 = some x.1 then [] else [sgn x.1]) ++ [x.2.1], if takesB x.2.1 x.1 = true then st.2.1 ++ [x.2.2] else st.2.1, some x.1)
def textS (l : List Chg) : TSt := l.foldl stepT ([], [], none)
def textM (l : List Chg) : List ByteArray := if l = [] then [] else bs (textS l).1 :: (textS l).2.1
theorem textS_take (l : List Chg) (k : Nat) (h : k < l.length) : textS (l.take (k + 1)) = stepT (textS (l.take k)) l[k] := by
  unfold textS
  rw [List.take_succ_eq_append_getElem h, List.foldl_append]
  rfl
theorem textS_last (l : List Chg) (k : Nat) (h : k < l.length) : (textS (l.take (k + 1))).2.2 = some l[k].1 := by
  rw [textS_take l k h]; rfl

def rowR (p : Option Bool) : List Chg → List UInt8
  | [] => []
  | x :: r => (if p = some x.1 then [] else [sgn x.1]) ++ x.2.1 :: rowR (some x.1) r
def tk (x : Chg) : Bool := takesB x.2.1 x.1
def argsR (l : List Chg) : List ByteArray := (l.filter tk).map (·.2.2)
def manyT (l : List Chg) : Nat := (l.filter tk).length
theorem fold_text : ∀ (l : List Chg) (r : List UInt8) (a : List ByteArray) (p : Option Bool), (l.foldl stepT (r, a, p)).1 = r ++ rowR p l ∧ (l.foldl stepT (r, a, p)).2.1 = a ++ argsR l
  | [], r, a, p => by simp [rowR, argsR]
  | x :: l, r, a, p => by
    have h := fold_text l (stepT (r, a, p) x).1 (stepT (r, a, p) x).2.1 (some x.1)
    have e : (x :: l).foldl stepT (r, a, p) = l.foldl stepT ((stepT (r, a, p) x).1, (stepT (r, a, p) x).2.1, some x.1) := rfl
    rw [e, h.1, h.2]
    refine ⟨by simp [stepT, rowR], ?_⟩
    cases ht : tk x with
    | true =>
      have ht' : takesB x.2.1 x.1 = true := ht
      simp [stepT, argsR, List.filter_cons, ht, ht']
    | false =>
      have ht' : takesB x.2.1 x.1 = false := ht
      simp [stepT, argsR, List.filter_cons, ht, ht']
theorem textS_row (l : List Chg) : (textS l).1 = rowR none l := by unfold textS; simpa using (fold_text l [] [] none).1
theorem textS_args (l : List Chg) : (textS l).2.1 = argsR l := by unfold textS; simpa using (fold_text l [] [] none).2
theorem rowR_len : ∀ (l : List Chg) (p : Option Bool), (rowR p l).length ≤ 2 * l.length
  | [], p => by simp [rowR]
  | x :: r, p => by
    have := rowR_len r (some x.1)
    unfold rowR
    split <;> simp <;> omega
theorem argsR_len (l : List Chg) : (argsR l).length = manyT l := by simp [argsR, manyT]
theorem manyT_le (l : List Chg) : manyT l ≤ l.length := List.length_filter_le _ _
theorem textS_len (l : List Chg) : (textS l).1.length ≤ 2 * l.length ∧ (textS l).2.1.length ≤ l.length := by
  rw [textS_row, textS_args, argsR_len]
  exact ⟨rowR_len l none, manyT_le l⟩

/-! what is read is good -/
def goodC (x : Chg) : Prop := x.2.1 ≠ 43 ∧ x.2.1 ≠ 45 ∧ (tk x = false → x.2.2 = noArg)
theorem seqL_mem : ∀ (l : List UInt8) (on : Bool) (x : Letter), x ∈ seqL on l → x.1 ≠ 43 ∧ x.1 ≠ 45
  | [], on, x, h => by simp [seqL] at h
  | c :: r, on, x, h => by
    unfold seqL at h
    split at h
    · exact seqL_mem r _ x h
    · split at h
      · exact seqL_mem r _ x h
      · rcases List.mem_cons.1 h with rfl | h
        · exact ⟨‹_›, ‹_›⟩
        · exact seqL_mem r _ x h
theorem manyT_snoc (l : List Chg) (x : Chg) : manyT (l ++ [x]) = manyT l + if tk x = true then 1 else 0 := by
  unfold manyT
  rw [List.filter_append, List.length_append]
  cases h : tk x <;> simp [List.filter_cons, h]
def okP (st : PSt) : Prop := (∀ x ∈ st.1, goodC x) ∧ manyT st.1 = st.2.2 ∧ st.2.2 ≤ 4
theorem okP_step (ps : List ByteArray) (st : PSt) (x : Letter) (h1 : x.1 ≠ 43) (h2 : x.1 ≠ 45) (h : okP st) : okP (stepP ps st x) := by
  obtain ⟨out, a, n⟩ := st
  obtain ⟨c, on⟩ := x
  obtain ⟨hg, hm, hn⟩ := h
  simp only at hg hm hn h1 h2
  have snoc : ∀ y : Chg, goodC y → ∀ z ∈ out ++ [y], goodC z := fun y hy z hz => by
    rcases List.mem_append.1 hz with hz | hz
    · exact hg z hz
    · rw [List.mem_singleton.1 hz]; exact hy
  cases ht : takesB c on with
  | false =>
    rw [stepP_no ht]
    have hk : ∀ b, tk (on, c, b) = false := fun b => ht
    exact ⟨snoc _ ⟨h1, h2, fun _ => rfl⟩, by show manyT (out ++ [_]) = n; rw [manyT_snoc, hk]; simpa using hm, hn⟩
  | true =>
    have hk : ∀ b, tk (on, c, b) = true := fun b => ht
    have good : ∀ b, goodC (on, c, b) := fun b => ⟨h1, h2, fun h => by rw [hk] at h; cases h⟩
    have many : ∀ b, manyT (out ++ [(on, c, b)]) = n + 1 := fun b => by rw [manyT_snoc, hk, hm]; rfl
    by_cases h4 : n = 4
    · subst h4; rw [stepP_full ht]; exact ⟨hg, hm, hn⟩
    · by_cases ha : a < ps.length
      · rw [stepP_arg ht h4 ha]; exact ⟨snoc _ (good _), many _, by show n + 1 ≤ 4; omega⟩
      · by_cases hc : c = 98
        · subst hc; rw [stepP_list ht h4 ha]; exact ⟨snoc _ (good _), many _, by show n + 1 ≤ 4; omega⟩
        · rw [stepP_drop ht h4 ha hc]; exact ⟨hg, hm, hn⟩
theorem okP_fold (ps : List ByteArray) : ∀ (l : List Letter) (st : PSt), (∀ x ∈ l, x.1 ≠ 43 ∧ x.1 ≠ 45) → okP st → okP (l.foldl (stepP ps) st)
  | [], st, _, h => h
  | x :: l, st, hl, h => okP_fold ps l _ (fun y hy => hl y (List.mem_cons_of_mem _ hy)) (okP_step ps st x (hl x List.mem_cons_self).1 (hl x List.mem_cons_self).2 h)
theorem parse_good (ps : List ByteArray) : (∀ x ∈ parseM ps, goodC x) ∧ manyT (parseM ps) ≤ 4 := by
  unfold parseM
  split
  · have h := okP_fold ps _ ([], 1, 0) (seqL_mem ps[0].data.toList true) ⟨by simp, rfl, by decide⟩
    exact ⟨h.1, by rw [h.2.1]; exact h.2.2⟩
  · exact ⟨by simp, by decide⟩

/-! what is good comes back -/
theorem seqL_row : ∀ (l : List Chg) (p : Option Bool) (on : Bool), (p = none ∨ p = some on) → (∀ x ∈ l, goodC x) → seqL on (rowR p l) = l.map fun x => (x.2.1, x.1)
  | [], p, on, _, _ => by simp [rowR, seqL]
  | x :: r, p, on, hp, hg => by
    have hx := hg x List.mem_cons_self
    have ih := fun o => seqL_row r (some x.1) o
    have rest := ih x.1 (.inr rfl) fun y hy => hg y (List.mem_cons_of_mem _ hy)
    unfold rowR
    by_cases h : p = some x.1
    · rw [if_pos h]
      have ho : on = x.1 := by
        rcases hp with hp | hp
        · rw [hp] at h; cases h
        · rw [hp] at h; injection h
      subst ho
      show seqL x.1 (x.2.1 :: rowR (some x.1) r) = _
      unfold seqL
      rw [if_neg hx.1, if_neg hx.2.1, rest]
      rfl
    · rw [if_neg h]
      have hs : seqL on (sgn x.1 :: x.2.1 :: rowR (some x.1) r) = seqL x.1 (x.2.1 :: rowR (some x.1) r) := by
        obtain ⟨o, c, b⟩ := x
        cases o
        · rfl
        · rfl
      show seqL on (sgn x.1 :: x.2.1 :: rowR (some x.1) r) = _
      rw [hs]
      show seqL x.1 (x.2.1 :: rowR (some x.1) r) = _
      conv => lhs; unfold seqL
      rw [if_neg hx.1, if_neg hx.2.1, rest]
      rfl
theorem manyT_app (a b : List Chg) : manyT (a ++ b) = manyT a + manyT b := by simp [manyT]
theorem back_fold (row : ByteArray) (l : List Chg) (hg : ∀ x ∈ l, goodC x) (h4 : manyT l ≤ 4) : ∀ (suf pre : List Chg), l = pre ++ suf →
    (suf.map fun x => (x.2.1, x.1)).foldl (stepP (row :: argsR l)) (pre, 1 + manyT pre, manyT pre) = (l, 1 + manyT l, manyT l)
  | [], pre, h => by
    have : l = pre := by simpa using h
    subst this; rfl
  | x :: suf, pre, h => by
    have hl : l = (pre ++ [x]) ++ suf := by rw [h]; simp
    have ih := back_fold row l hg h4 suf (pre ++ [x]) hl
    have hx := hg x (by rw [h]; simp)
    have hm := manyT_snoc pre x
    have hml : manyT l = manyT (pre ++ [x]) + manyT suf := by rw [← manyT_app, ← hl]
    rw [List.map_cons, List.foldl_cons]
    have step : stepP (row :: argsR l) (pre, 1 + manyT pre, manyT pre) (x.2.1, x.1) = (pre ++ [x], 1 + manyT (pre ++ [x]), manyT (pre ++ [x])) := by
      cases ht : tk x with
      | false =>
        have ht' : takesB x.2.1 x.1 = false := ht
        rw [stepP_no ht', hm, ht]
        have : x = (x.1, x.2.1, noArg) := by rw [← hx.2.2 ht]
        rw [← this]; rfl
      | true =>
        have ht' : takesB x.2.1 x.1 = true := ht
        rw [ht] at hm
        simp only [if_true] at hm
        have ha : 1 + manyT pre < (row :: argsR l).length := by rw [List.length_cons, argsR_len]; omega
        have hget : (row :: argsR l)[1 + manyT pre]'ha = x.2.2 := by
          have e1 : argsR l = argsR pre ++ x.2.2 :: argsR suf := by
            rw [h]; unfold argsR; simp [List.filter_append, List.filter_cons, ht]
          have e2 : (row :: argsR l)[1 + manyT pre]? = some x.2.2 := by
            rw [show 1 + manyT pre = manyT pre + 1 by omega, List.getElem?_cons_succ, e1, List.getElem?_append_right (by rw [argsR_len]; exact Nat.le_refl _), argsR_len, Nat.sub_self]
            rfl
          rw [List.getElem?_eq_getElem ha] at e2
          exact Option.some.inj e2
        rw [stepP_arg ht' (by omega) ha, hget, hm, show 1 + manyT pre + 1 = 1 + (manyT pre + 1) by omega]
    rw [step]
    exact ih
theorem back (l : List Chg) (hg : ∀ x ∈ l, goodC x) (h4 : manyT l ≤ 4) : parseM (textM l) = l := by
  by_cases h : l = []
  · subst h; rfl
  · have e : textM l = bs (rowR none l) :: argsR l := by unfold textM; rw [if_neg h, textS_row, textS_args]
    rw [e]
    unfold parseM
    rw [dif_pos (by simp)]
    have := back_fold (bs (rowR none l)) l hg h4 l [] (by simp)
    simp only [List.getElem_cons_zero, bs_toList]
    rw [seqL_row l none true (.inl rfl) hg]
    have h0 : ([], 1, 0) = (([] : List Chg), 1 + manyT [], manyT []) := rfl
    rw [h0, this]
theorem back_parse (ps : List ByteArray) : parseM (textM (parseM ps)) = parseM ps := back _ (parse_good ps).1 (parse_good ps).2
end Go.Proofs.YtlkeomcillencaaGreat
end
section
/- Layer 18: rows of changes and of texts, nil let in; Parse, Same, Texts of such rows; great. -/
namespace Go.Proofs.YtlkeomcillencaaGreat
open Go.RowKit Go.Shelf

/-- changes lie at an address, if there are any -/
def RowC (W : World) (A : Option Addr) (l : List Chg) : Prop :=
  0 < l.length → ∃ g o, A = some ⟨g, o, none⟩ ∧ ∀ i (h : i < l.length), W.cell? ⟨g, o + i * 3, none⟩ = some (.bool l[i].1) ∧ W.cell? ⟨g, o + i * 3 + 1, none⟩ = some (.int .u8 l[i].2.1.toNat) ∧ W.cell? ⟨g, o + i * 3 + 2, none⟩ = some (.string l[i].2.2)
/-- texts lie at an address, if there are any -/
def RowT (W : World) (A : Option Addr) (l : List ByteArray) : Prop :=
  0 < l.length → ∃ g o, A = some ⟨g, o, none⟩ ∧ ∀ i (h : i < l.length), W.cell? ⟨g, o + i, none⟩ = some (.string l[i])
theorem lt_of_cell {W : World} {g o : Nat} {v : Value} (h : W.cell? ⟨g, o, none⟩ = some v) : g < W.heap.size := by
  unfold World.cell? at h
  cases hb : W.heap[g]? with
  | none => simp [hb] at h
  | some x => exact (Array.getElem?_eq_some_iff.1 hb).1
theorem RowC.kept {W W' : World} {A : Option Addr} {l : List Chg} (h : RowC W A l) (hb : Below W.heap.size W W') : RowC W' A l := fun hl => by
  obtain ⟨g, o, rfl, hc⟩ := h hl
  have hg := lt_of_cell (hc 0 hl).1
  exact ⟨g, o, rfl, fun i hi => by
    rw [hb.cell (p := ⟨g, _, none⟩) hg, hb.cell (p := ⟨g, _, none⟩) hg, hb.cell (p := ⟨g, _, none⟩) hg]
    exact hc i hi⟩
theorem RowT.kept {W W' : World} {A : Option Addr} {l : List ByteArray} (h : RowT W A l) (hb : Below W.heap.size W W') : RowT W' A l := fun hl => by
  obtain ⟨g, o, rfl, hc⟩ := h hl
  have hg := lt_of_cell (hc 0 hl)
  exact ⟨g, o, rfl, fun i hi => by rw [hb.cell (p := ⟨g, _, none⟩) hg]; exact hc i hi⟩
theorem chL_len (l : List Chg) : (chL l).length = l.length * 3 := by
  induction l with
  | nil => rfl
  | cons x r ih =>
    have : chL (x :: r) = [.bool x.1, .int .u8 x.2.1.toNat, .string x.2.2] ++ chL r := by simp [chL]
    rw [this, List.length_append, ih]; simp; omega
theorem chL_get (l : List Chg) : ∀ i (h : i < l.length), (chL l)[i * 3]? = some (.bool l[i].1) ∧ (chL l)[i * 3 + 1]? = some (.int .u8 l[i].2.1.toNat) ∧ (chL l)[i * 3 + 2]? = some (.string l[i].2.2) := by
  induction l with
  | nil => intro i h; simp at h
  | cons x r ih =>
    intro i h
    have e : chL (x :: r) = .bool x.1 :: .int .u8 x.2.1.toNat :: .string x.2.2 :: chL r := by simp [chL]
    cases i with
    | zero => rw [e]; exact ⟨rfl, rfl, rfl⟩
    | succ k =>
      have := ih k (by simpa using h)
      rw [e, show (k + 1) * 3 = k * 3 + 3 by omega]
      exact this

theorem RowT.owned {W : World} {base : Nat} {v : Value} {l : List ByteArray} (h : W.ownsRow base 9 1 v l.length (l.map .string)) : ∃ A c, v = .slice A l.length c ∧ l.length ≤ c ∧ RowT W A l := by
  have h0 := h
  rcases h.2 with ⟨rfl, hn⟩ | ⟨g, cap, cur, rfl, _, _, hc, _⟩
  · exact ⟨none, 0, by rw [hn], by omega, fun hl => by omega⟩
  · refine ⟨_, cap, rfl, hc, fun hl => ⟨g, 0, rfl, fun i hi => ?_⟩⟩
    rw [Nat.zero_add, h0.cellAt _ (by omega)]
    simp [hi]



def ParsedTo (w : World) (ps : List ByteArray) (e : Ending) (w' : World) : Prop := ∃ A c, e = .returned (.slice A (parseM ps).length c) ∧ (parseM ps).length ≤ c ∧ RowC w' A (parseM ps) ∧ Below w.heap.size w w'



/-! Same, Texts -/






/-- more than is looked at? -/
def greatB (l : List ByteArray) : Bool := decide (20 < l.length) || l.any fun s => decide (60 < s.size)
theorem greatB_no {l : List ByteArray} (h : greatB l = false) : l.length ≤ 20 ∧ ∀ s ∈ l, s.size ≤ 60 := by
  unfold greatB at h
  rw [Bool.or_eq_false_iff] at h
  refine ⟨by simpa using h.1, fun s hs => ?_⟩
  have := List.any_eq_false.1 h.2 s hs
  simpa using this
end Go.Proofs.YtlkeomcillencaaGreat
end
section
/- The answers' Texts of two rows that read as one. -/
namespace Go.Proofs.YtlkeomcillencaaGreat
open Go Go.RowKit Go.Lib Go.Shelf


theorem readsT_fr {W W' : World} {A : Option Addr} {xs : List (List UInt8)} {X : Nat → Prop} (h : ReadsT W A xs) (hf : Fr X W W') (hX : ∀ g o, A = some ⟨g, o, none⟩ → ¬ X g) : ReadsT W' A xs := fun h0 => by
  obtain ⟨g, o, e, hg, hc⟩ := h h0
  exact ⟨g, o, e, Nat.lt_of_lt_of_le hg hf.size, fun j hj => (hf.cell (p := ⟨g, o + j, none⟩) hg (hX g o e)).trans (hc j hj)⟩
end Go.Proofs.YtlkeomcillencaaGreat
end
section
/- Layer 19: a room: who is on it; what a change leaves. -/
namespace Go.Proofs.YtlkeomcillencaaGreat
open Go Go.RowKit

theorem res_three {P : Program} {fn : Func} {p u : Tmp} {ty : TypeId} {tmps : Array Value} {V : World} {N : Nat} {a b c : Value} (h : fn.results = #[.cell p ty, .tmp u]) (hp : tmps.getD p undef = .pointer (some ⟨N, 0, none⟩)) (hg : (isAgg ty).run P V = .ok true V) (hz : (sizeOf ty).run P V = .ok 3 V)
    (h0 : V.cell? ⟨N, 0, none⟩ = some a) (h1 : V.cell? ⟨N, 1, none⟩ = some b) (h2 : V.cell? ⟨N, 2, none⟩ = some c) : (results fn tmps).run P V = .ok (.tuple #[.agg #[a, b, c], tmps.getD u undef]) V := by
  rw [results_cell_tmp h, hp]
  simp [asAddr, loadVar, Sem.run_bind, hg, hz, loadCells, loadCellsFrom, h0, h1, h2, Result.andThen, go_sem]
theorem set3R {W : World} {B : Nat} {a b c x y z : Value} {T : TypeId} (h : W.heap[B]? = some (.cells #[a, b, c] T (0, 0))) : (((W.setCell ⟨B, 0, none⟩ x).setCell ⟨B, 1, none⟩ y).setCell ⟨B, 2, none⟩ z).heap[B]? = some (.cells #[x, y, z] T (0, 0)) :=
  blk_set (blk_set (blk_set h 0 x) 1 y) 2 z
theorem set3R_fr {W : World} {B : Nat} {x y z : Value} : Fr (fun k => k = B) W (((W.setCell ⟨B, 0, none⟩ x).setCell ⟨B, 1, none⟩ y).setCell ⟨B, 2, none⟩ z) :=
  Fr.setCell (Fr.setCell (Fr.setCell (Fr.refl (fun k => k = B) W) ⟨B, 0, none⟩ rfl x) ⟨B, 1, none⟩ rfl y) ⟨B, 2, none⟩ rfl z
/-- what a change leaves, apart from what it tells -/
def ChgW (base B : Nat) (q : RmV) (r' : Rm) (w w' : World) : Prop := ∃ q', RoomAt base B q' r' w' ∧ Fr (RmX B q) w w' ∧ ∀ k, RmX B q' k → k < w.heap.size → RmX B q k
theorem ChgW.around {base B : Nat} {q : RmV} {r' : Rm} {w W W' w' : World} (h : ChgW base B q r' W W') (h1 : RowKit.Below w.heap.size w W) (h2 : RowKit.Below W'.heap.size W' w') : ChgW base B q r' w w' := by
  obtain ⟨q', a, b, c⟩ := h
  exact ⟨q', a.below h2, ((Fr.of_below (X := RmX B q) h1).trans3 b fun _ _ e => e).trans3 (Fr.of_below (X := fun _ => False) h2) fun _ _ e => e.elim, fun k hk hl => c k hk (Nat.lt_of_lt_of_le hl h1.size)⟩
/-- .. and a block that came first, and is written last -/
theorem ChgW.boxed {base B : Nat} {q : RmV} {r' : Rm} {w W W' w' : World} (h : ChgW base B q r' W W') (h1 : RowKit.Below w.heap.size w W) (hl : ∀ k, RmX B q k → k < w.heap.size) {N : Nat} (hN : w.heap.size ≤ N) (hNW : N < W.heap.size) (h2 : Fr (fun k => k = N) W' w') : ChgW base B q r' w w' := by
  obtain ⟨q', a, b, c⟩ := h
  refine ⟨q', a.fr h2 fun k hk e => ?_, ((Fr.of_below (X := RmX B q) h1).trans3 b fun _ _ e => e).trans3 h2 fun k hk e => by omega, fun k hk hl2 => c k hk (Nat.lt_of_lt_of_le hl2 h1.size)⟩
  subst e
  have := hl _ (c _ hk hNW)
  omega
/-- a box of a change, that lies where it lay -/
theorem box_kept {base B : Nat} {q : RmV} {W W' : World} {N : Nat} {cs : Array Value} {T : TypeId} (hk : W.heap[N]? = some (.cells cs T (0, 0))) (hf : Fr (RmX B q) W W') (hn : ¬ RmX B q N) : W'.heap[N]? = some (.cells cs T (0, 0)) := hf.blk hk hn
theorem add_nil (id : Int) (op : Bool) (w : World) : Calls Tryz.prog 48 #[.pointer none, .int .i64 id, .bool op] w fun e w' => (∃ v, e = .returned v) ∧ w' = w := by
  go_enter Tryz.func48, Tryz.ntmps48
  go_wp2_with (go_at_call 67; refine (place_nil _ _).mono ?_; rintro e w' ⟨rfl, rfl⟩)
  first | exact bodyPost_ret (results_none rfl _ _ _) rfl ⟨⟨_, rfl⟩, rfl⟩ | (go_end0; exact ⟨⟨_, rfl⟩, rfl⟩)
theorem drop_nil (id : Int) (w : World) : Calls Tryz.prog 41 #[.pointer none, .int .i64 id] w fun e w' => e = .returned (.bool false) ∧ w' = w := by
  go_enter Tryz.func41, Tryz.ntmps41
  go_wp2_with (go_at_call 67; refine (place_nil _ _).mono ?_; rintro e w' ⟨rfl, rfl⟩)
  go_ret
  exact ⟨rfl, rfl⟩
theorem member_nil (id : Int) (w : World) : Calls Tryz.prog 35 #[.pointer none, .int .i64 id] w fun e w' => e = .returned (.tuple #[memV (0, false, false), .bool false]) ∧ RowKit.Below w.heap.size w w' := by
  go_enter Tryz.func35, Tryz.ntmps35
  go_wp2_with (go_at_call 67; refine (place_nil _ _).mono ?_; rintro e w' ⟨rfl, rfl⟩)
  have k := fun j => blk_cell (heap_alloc_new w (Obj.cells #[Value.int IntKind.i64 0, Value.bool false, Value.bool false] 71)) j
  exact bodyPost_ret (res_three rfl rfl (Tryz.isAgg71 _) (Tryz.sizeOf71 _) (k 0) (k 1) (k 2)) rfl ⟨rfl, (Below.refl _ _).alloc (Nat.le_refl _) _⟩
theorem ownM_slice {base : Nat} {W : World} {v : Value} {xs : List Mem} (h : OwnM base W v xs) : ∃ A c, v = .slice A xs.length c := by
  rcases h.2 with ⟨h1, h2⟩ | ⟨g, cap, cur, h1, _⟩
  · exact ⟨none, 0, by rw [h1]; simp [h2]⟩
  · exact ⟨_, _, h1⟩
theorem place_any {base B : Nat} {q : RmV} {r : Rm} {w : World} (h : RoomAt base B q r w) (id : Int) (hl : r.mem.length ≤ 1000000) :
    Calls Tryz.prog 67 #[.pointer (some ⟨B, 0, none⟩), .int .i64 id] w fun e w' => e = .returned (.tuple #[.int .i64 (ixM r.mem id), .bool (hasM r.mem id)]) ∧ Below w.heap.size w w' := by
  have c1 : w.cell? ⟨B, 1, none⟩ = some q.vm := blk_cell h.1 1
  obtain ⟨A, c, hv⟩ := ownM_slice h.2.1
  rw [hv] at c1
  have hown := h.2.1
  rw [hv] at hown
  have HS := Lib.hid (search_any A c r.mem h.2.2.2.2.2.2 id w (reads_ownM hown) hl)
  obtain ⟨i, hi⟩ : ∃ i, ixM r.mem id = i := ⟨_, rfl⟩
  obtain ⟨b, hb⟩ : ∃ b, hasM r.mem id = b := ⟨_, rfl⟩
  rw [hi, hb] at HS ⊢
  clear h hv hown hi hb
  go_enter Tryz.func67, Tryz.ntmps67
  go_wp2_with fail
  refine HS.out.mono ?_
  rintro e w1 ⟨rfl, hb1⟩
  have HB := Lib.hid hb1
  clear hb1
  go_wp2_with fail
  go_ret2
  exact ⟨rfl, HB.out⟩
set_option maxRecDepth 100000 in
set_option maxHeartbeats 4000000 in
theorem member_any2 {base B : Nat} {q : RmV} {r : Rm} {w : World} (h : RoomAt base B q r w) (id : Int) (hl : r.mem.length ≤ 1000000) :
    Calls Tryz.prog 35 #[.pointer (some ⟨B, 0, none⟩), .int .i64 id] w fun e w' => e = .returned (.tuple #[memV (if hasM r.mem id then r.mem.getD (ixM r.mem id) default else (0, false, false)), .bool (hasM r.mem id)]) ∧ Below w.heap.size w w' := by
  obtain ⟨W0, hW0⟩ : ∃ W0, w.alloc (.cells #[.int .i64 0, .bool false, .bool false] 71) = W0 := ⟨_, rfl⟩
  have b0 : RowKit.Below w.heap.size w W0 := by rw [← hW0]; exact (Below.refl _ w).alloc (Nat.le_refl _) _
  have k0 : W0.heap[w.heap.size]? = some (.cells #[.int .i64 0, .bool false, .bool false] 71 (0, 0)) := by rw [← hW0]; exact heap_alloc_new w _
  have hBl := blk_lt h.1
  have h0 := h.below b0
  have HP := Lib.hid (place_any h0 id hl)
  have HW := Lib.hid hW0
  have H := Lib.hid (And.intro h0 (And.intro b0 k0))
  clear h b0 k0 h0 hW0
  cases hb : hasM r.mem id with
  | false =>
    rw [hb] at HP
    rw [if_neg (by simp)]
    clear hb
    obtain ⟨N, hN⟩ : ∃ N, w.heap.size = N := ⟨_, rfl⟩
    have HN := Lib.hid hN
    obtain ⟨i, hi⟩ : ∃ i, ixM r.mem id = i := ⟨_, rfl⟩
    rw [hi] at HP
    clear hi
    have hW0 := HW.out
    go_enter Tryz.func35, Tryz.ntmps35
    go_wp2_with fail
    refine HP.out.mono ?_
    rintro e w1 ⟨rfl, hb1⟩
    have k1 := (Fr.of_below (X := fun _ => False) hb1).blk H.out.2.2 fun e => e
    rw [HN.out] at k1
    have HB := Lib.hid (H.out.2.1.trans (hb1.mono H.out.2.1.size))
    have HK := Lib.hid k1
    have q0 := blk_cell k1 0; have q1 := blk_cell k1 1; have q2 := blk_cell k1 2; have g0 := blk_free k1 0; have g1 := blk_free k1 1; have g2 := blk_free k1 2
    clear hb1 k1 hN hW0
    go_wp2_with fail
    have k := fun j => blk_cell (set3R (x := .int .i64 0) (y := .bool false) (z := .bool false) HK.out) j
    refine bodyPost_ret (res_three rfl rfl (Tryz.isAgg71 _) (Tryz.sizeOf71 _) (k 0) (k 1) (k 2)) rfl ⟨rfl, ?_⟩
    exact HB.out.trans (set3R_fr.below (B := w.heap.size) HB.out.size fun k hk e => by have := HN.out; omega)
  | true =>
    rw [hb] at HP
    rw [if_pos rfl]
    obtain ⟨hix, _⟩ := ixM_at H.out.1.2.2.2.2.2.2 hb
    obtain ⟨N, hN⟩ : ∃ N, w.heap.size = N := ⟨_, rfl⟩
    have HN := Lib.hid hN
    obtain ⟨m, hm⟩ : ∃ m, r.mem.getD (ixM r.mem id) default = m := ⟨_, rfl⟩
    obtain ⟨A, c, hv⟩ := ownM_slice H.out.1.2.1
    have hown := H.out.1.2.1
    rw [hv] at hown
    obtain ⟨g, o, rfl, hg, hcl⟩ := reads_ownM hown (by omega)
    have hme : r.mem[ixM r.mem id] = m := by rw [← hm, List.getD_eq_getElem?_getD, List.getElem?_eq_getElem hix]; rfl
    have hcm := hcl _ hix
    rw [hme] at hcm
    rw [hm]
    obtain ⟨i, hi⟩ : ∃ i, ixM r.mem id = i := ⟨_, rfl⟩
    obtain ⟨nl, hnl⟩ : ∃ nl, r.mem.length = nl := ⟨_, rfl⟩
    rw [hi] at HP hcm hix
    rw [hnl] at hix hv
    have HC := Lib.hid (And.intro hg hcm)
    have c1 : W0.cell? ⟨B, 1, none⟩ = some (.slice (some ⟨g, o, none⟩) nl c) := by rw [← hv]; exact blk_cell H.out.1.1 1
    have HC1 := Lib.hid (And.intro (blk_lt H.out.1.1) c1)
    clear hi hm hme hcl hown hv hnl hg hcm hb c1 hl
    have hW0 := HW.out
    go_enter Tryz.func35, Tryz.ntmps35
    go_wp2_with fail
    refine HP.out.mono ?_
    rintro e w1 ⟨rfl, hb1⟩
    have k1 := (Fr.of_below (X := fun _ => False) hb1).blk H.out.2.2 fun e => e
    rw [HN.out] at k1
    have HB := Lib.hid (H.out.2.1.trans (hb1.mono H.out.2.1.size))
    have HK := Lib.hid k1
    have q0 := blk_cell k1 0; have q1 := blk_cell k1 1; have q2 := blk_cell k1 2; have g0 := blk_free k1 0; have g1 := blk_free k1 1; have g2 := blk_free k1 2
    have c1 := (hb1.cell (p := ⟨B, 1, none⟩) HC1.out.1).trans HC1.out.2
    have e0 := (hb1.cell (p := ⟨g, o + i * 3, none⟩) HC.out.1).trans HC.out.2.1
    have e1 := (hb1.cell (p := ⟨g, o + i * 3 + 1, none⟩) HC.out.1).trans HC.out.2.2.1
    have e2 := (hb1.cell (p := ⟨g, o + i * 3 + 2, none⟩) HC.out.1).trans HC.out.2.2.2
    clear hb1 k1 hN hW0
    go_wp2_with fail
    have k := fun j => blk_cell (set3R (x := .int .i64 m.1) (y := .bool m.2.1) (z := .bool m.2.2) HK.out) j
    refine bodyPost_ret (res_three rfl rfl (Tryz.isAgg71 _) (Tryz.sizeOf71 _) (k 0) (k 1) (k 2)) rfl ⟨rfl, ?_⟩
    exact HB.out.trans (set3R_fr.below (B := w.heap.size) HB.out.size fun k hk e => by have := HN.out; omega)
theorem RoomAt.toSet {base B : Nat} {q : RmV} {r : Rm} {W W' : World} (h : RoomAt base B q r W) {ob' : Option Nat} {inv' : List Int} (hs : SetAt base W' q.S ob' inv') (hf : Fr (fun k => k = q.S ∨ q.ob = some k) W W') :
    RoomAt base B { q with ob := ob' } { r with inv := inv' } W' := by
  have ha := h.apart
  have hl := h.lt
  obtain ⟨g1, g2, g3, g4, g5, g6, g7⟩ := h
  refine ⟨hf.blk g1 ?_, ownM_kept g2 fun g hg => hf.block g (g2.lt g hg).2 ?_, ownT_kept g3 fun g hg => hf.block g (g3.lt g hg).2 ?_, hs, g5, g6, g7⟩
  · rintro (e | e)
    · exact ha.1.2.2.1 e.symm
    · exact ha.1.2.2.2 e
  · rintro (e | e)
    · exact (ha.2.1 g hg).2.1 e.symm
    · exact (ha.2.1 g hg).2.2 e
  · rintro (e | e)
    · exact (ha.2.2 g hg).1 e.symm
    · exact (ha.2.2 g hg).2 e
theorem chgW_set {base B : Nat} {q : RmV} {r : Rm} {W W' : World} (h : RoomAt base B q r W) {ob' : Option Nat} {inv' : List Int} (hs : SetAt base W' q.S ob' inv') (ho : ∀ k, ob' = some k → k < W.heap.size → q.ob = some k) (hf : Fr (fun k => k = q.S ∨ q.ob = some k) W W') :
    ChgW base B q { r with inv := inv' } W W' := by
  refine ⟨{ q with ob := ob' }, h.toSet hs hf, hf.mono fun k _ e => ?_, fun k hk hlt => ?_⟩
  · rcases e with e | e
    · exact .inr (.inr (.inr (.inl e)))
    · exact .inr (.inr (.inr (.inr e)))
  · rcases hk with e | e | e | e | e
    · exact .inl e
    · exact .inr (.inl e)
    · exact .inr (.inr (.inl e))
    · exact .inr (.inr (.inr (.inl e)))
    · exact .inr (.inr (.inr (.inr (ho k e hlt))))
theorem below_dd (W : World) (n : Nat) : RowKit.Below W.heap.size W (W.drew.drewN n) := ⟨rfl, rfl, rfl, Nat.le_refl _, fun _ _ => rfl⟩
theorem row_set {W : World} {base : Nat} {e : TypeId} {size g n cap : Nat} {xs : List Value} (h : W.ownsRow base e size (.slice (some ⟨g, 0, none⟩) n cap) n xs) (t : Nat) (ht : t < n * size) (u : Value) :
    (W.setCell ⟨g, t, none⟩ u).ownsRow base e size (.slice (some ⟨g, 0, none⟩) n cap) n (xs.set t u) := by
  obtain ⟨h1, h2⟩ := h
  refine ⟨by rw [List.length_set]; exact h1, .inr ?_⟩
  rcases h2 with ⟨h2, h3⟩ | ⟨g', cap', cur, h2, h3, h4, h5, h6, h7, h8⟩
  · subst h3; omega
  · injection h2 with e1 e2 e3
    injection e1 with e1
    injection e1 with e1 _ _
    subst e1; subst e3
    refine ⟨g, cap, cur.setIfInBounds t u, rfl, h3, heap_setCell_same W g t _ _ u h4, h5, h6, by rw [Array.size_setIfInBounds]; exact h7, ?_⟩
    rw [Array.toList_setIfInBounds, List.take_set, h8]
theorem flat_set : ∀ (xs : List Mem) (j i : Nat) (hj : j < xs.length) (hi : i < 3) (m : Mem) (u : Value), encM m = (encM xs[j]).set i u → (xs.flatMap encM).set (j * 3 + i) u = (xs.set j m).flatMap encM
  | [], j, _, h, _, _, _, _ => absurd h (Nat.not_lt_zero _)
  | x :: r, 0, i, _, hi, m, u, he => by
    rw [List.flatMap_cons, List.set_cons_zero, List.flatMap_cons, List.set_append_left _ _ (by show 0 * 3 + i < 3; omega), he]
    simp
  | x :: r, j + 1, i, hj, hi, m, u, he => by
    rw [List.flatMap_cons, List.set_cons_succ, List.flatMap_cons, List.set_append_right _ _ (by show 3 ≤ (j + 1) * 3 + i; omega)]
    rw [show (j + 1) * 3 + i - (encM x).length = j * 3 + i by show (j + 1) * 3 + i - 3 = _; omega, flat_set r j i (by simpa using hj) hi m u (by simpa using he)]
theorem ownM_set {base : Nat} {W : World} {g c : Nat} {xs : List Mem} (h : OwnM base W (.slice (some ⟨g, 0, none⟩) xs.length c) xs) (j i : Nat) (hj : j < xs.length) (hi : i < 3) (m : Mem) (u : Value) (he : encM m = (encM xs[j]).set i u) :
    OwnM base (W.setCell ⟨g, j * 3 + i, none⟩ u) (.slice (some ⟨g, 0, none⟩) (xs.set j m).length c) (xs.set j m) := by
  have := row_set h (j * 3 + i) (by have : j + 1 ≤ xs.length := hj; have := Nat.mul_le_mul_right 3 this; omega) u
  unfold OwnM
  rw [List.length_set, ← flat_set xs j i hj hi m u he]
  exact this
/-- one of the members anew -/
theorem RoomAt.toMem {base B : Nat} {q : RmV} {r : Rm} {W W' : World} (h : RoomAt base B q r W) {v : Value} {ms : List Mem} (ho : OwnM base W' v ms) (hu : UpM ms) (hb : W'.heap[B]? = some (rmO { r with mem := ms } { q with vm := v }))
    (hf : Fr (fun k => k = B ∨ q.vm.ownBlock = some k) W W') : RoomAt base B { q with vm := v } { r with mem := ms } W' := by
  have ha := h.apart
  have hl := h.lt
  obtain ⟨g1, g2, g3, g4, g5, g6, g7⟩ := h
  refine ⟨hb, ho, ownT_kept g3 fun g hg => hf.block g (g3.lt g hg).2 ?_, set_kept g4 (hf.block _ (hl _ (.inr (.inr (.inr (.inl rfl))))).2 ?_) (fun g hg => hf.block g (hl _ (.inr (.inr (.inr (.inr hg))))).2 ?_), g5, g6, hu⟩
  · rintro (e | e)
    · exact ha.1.2.1 (e ▸ hg)
    · exact (ha.2.1 g e).1 hg
  · rintro (e | e)
    · exact ha.1.2.2.1 e
    · exact (ha.2.1 _ e).2.1 rfl
  · rintro (e | e)
    · exact ha.1.2.2.2 (e ▸ hg)
    · exact (ha.2.1 g e).2.2 hg
theorem chgW_mem {base B : Nat} {q : RmV} {r : Rm} {W W' : World} (h : RoomAt base B q r W) {v : Value} {ms : List Mem} (ho : OwnM base W' v ms) (hu : UpM ms) (hb : W'.heap[B]? = some (rmO { r with mem := ms } { q with vm := v }))
    (hf : Fr (fun k => k = B ∨ q.vm.ownBlock = some k) W W') (hv : ∀ k, v.ownBlock = some k → k < W.heap.size → q.vm.ownBlock = some k) : ChgW base B q { r with mem := ms } W W' := by
  refine ⟨{ q with vm := v }, h.toMem ho hu hb hf, hf.mono fun k _ e => ?_, fun k hk hlt => ?_⟩
  · rcases e with e | e
    · exact .inl e
    · exact .inr (.inl e)
  · rcases hk with e | e | e | e | e
    · exact .inl e
    · exact .inr (.inl (hv k e hlt))
    · exact .inr (.inr (.inl e))
    · exact .inr (.inr (.inr (.inl e)))
    · exact .inr (.inr (.inr (.inr e)))
end Go.Proofs.YtlkeomcillencaaGreat
end
