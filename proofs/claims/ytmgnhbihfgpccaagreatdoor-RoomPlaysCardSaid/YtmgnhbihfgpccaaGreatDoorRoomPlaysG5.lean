/- Texts of this proof, one behind the other. -/
import Derived.Test.YtmgnhbihfgpccaaGreatDoorRoomPlaysG4
import Derived.Test.YtmgnhbihfgpccaaGreatDoorRoomPlaysG1
import Derived.Test.YtmgnhbihfgpccaaGreatDoorRoomPlaysG3
import Derived.Deep.QuietTactic
import Derived.BigQuiet
import Derived.Lib.SlBytesConst
import Derived.Laws.Runes
import Derived.IntWalk
import Derived.Test.YtmgnhbihfgpccaaGreatDoorRoomPlaysG2
import Derived.WalkKit
import Derived.Lib.Hide
import Derived.WalkSpells
import Derived.WalkLawsBesides
import Derived.Test.YtmgnhbihfgpccaaGreatDoorProg
import Derived.Outline
import Derived.Lib.Strings
import Derived.Lib.Bytealg
import Derived.Lib.IndexLaws
import Derived.Lib.Walk
set_option linter.unusedVariables false
set_option linter.unusedSimpArgs false
section
/- Layer 10: Of: a set of what a slice holds, whosever it is. -/
namespace Go.Proofs.YtmgnhbihfgpccaaGreatDoor
open Go Go.RowKit Go.Lib Go.Sort Go.Shelf

/-- what a slice reads -/
def ReadsI (w : World) (A : Option Addr) (xs : List Int) : Prop := 0 < xs.length → ∃ g o, A = some ⟨g, o, none⟩ ∧ g < w.heap.size ∧ ∀ j (h : j < xs.length), w.cell? ⟨g, o + j, none⟩ = some (.int .i64 xs[j])
theorem ReadsI.below {w W : World} {A : Option Addr} {xs : List Int} (h : ReadsI w A xs) {n : Nat} (hb : Below n w W) (hn : w.heap.size ≤ n := by exact Nat.le_refl _) : ReadsI W A xs := fun h0 => by
  obtain ⟨g, o, h1, h2, h3⟩ := h h0
  exact ⟨g, o, h1, Nat.lt_of_lt_of_le h2 hb.size, fun j hj => (World.cell?_of_block (w := w) (w' := W) (a := ⟨g, o + j, none⟩) (hb.block g (Nat.lt_of_lt_of_le h2 hn))).trans (h3 j hj)⟩
def anyY (B : Nat) (A : Option Addr) (n : Nat) : Nat → Prop := fun b => b = B ∨ (0 < n ∧ ∃ p, A = some p ∧ p.block = b)
set_option maxRecDepth 100000 in
set_option maxHeartbeats 4000000 in
theorem values_tells_any (n : Nat) (hn : 2 ≤ n) (B : Nat) (A : Option Addr) (c : Nat) (xs : List Int) (w : World) (hxs : xs.length ≤ 1000000) (hb : w.heap[B]? = some (.cells #[.slice A xs.length c] 44 (0, 0))) (hr : ReadsI w A xs) :
    SeqT Fence.wide n Tryz.prog 94 #[.pointer (some ⟨B, 0, none⟩)] encI (fun _ => False) (anyY B A xs.length) xs w := fun l J Jx V hV hJ hJx hY h0 => by
  have hbV := (hV.block B (blk_lt hb)).trans hb
  have c0 : V.cell? ⟨B, 0, none⟩ = some (.slice A xs.length c) := (blk_cell hbV 0).trans rfl
  have hrV : ReadsI V A xs := hr.below hV
  have HR := Lib.hid hrV
  have HB := Lib.hid hbV
  have HY := Lib.hid hY
  have HJ := Lib.hid hJ
  have HJx := Lib.hid hJx
  clear hb hr hV hrV hbV hY hJ hJx
  refine callsIn_of_wp Tryz.func94 rfl trivial ?_ rfl
  simp only [Tryz.ntmps94, List.size_toArray, List.length_cons, List.length_nil, Nat.reduceAdd, Nat.reduceSub, Array.replicate_succ, Array.replicate_zero, List.push_toArray, List.append_toArray, List.nil_append, List.cons_append]
  gi_wp2
  gi_loopw [7] (fun c1 wr => ∃ k : Nat, c1 = .int .i64 k ∧ k ≤ xs.length ∧ Hid (SameX (anyY B A xs.length) V wr) ∧ Hid (J (xs.take k) wr)) (fun c1 _ => xs.length - (Go.RowKit.intOf c1).toNat)
  case atStart => exact ⟨0, rfl, Nat.zero_le _, fun _ _ => rfl, h0⟩
  case round =>
    obtain ⟨k, rfl, hk, HS, HJk⟩ := hrel
    by_cases hlt : k < xs.length
    · obtain ⟨g, o, rfl, hg, hcell⟩ := HR.out (by omega)
      obtain ⟨x, hx⟩ : ∃ x, xs[k] = x := ⟨_, rfl⟩
      have e0 : wr.cell? ⟨g, o + k, none⟩ = some (.int .i64 x) := by
        rw [HS.out.cell (b := g) (o := o + k) (.inr ⟨by omega, _, rfl, rfl⟩), hcell k hlt, hx]
      have hsp : xs.take k ++ x :: xs.drop (k + 1) = xs := by rw [← hx, ← List.drop_eq_getElem_cons hlt]; exact List.take_append_drop k xs
      have htk : xs.take (k + 1) = xs.take k ++ [x] := by rw [List.take_succ_eq_append_getElem hlt, hx]
      have HT := Lib.hid htk
      have HSP := Lib.hid hsp
      have hyy := HY.out (xs.take k) x (xs.drop (k + 1)) wr hsp HJk.out
      obtain ⟨fn, tmps, assign, body, hy, hR⟩ := hyy
      dsimp only [encI] at hy
      clear hx htk hsp hg hcell
      gi_wp2_with fail
      refine ⟨fun _ => by omega, hR.mono ?_⟩
      rintro e W3 (⟨rfl, hJ3, hK3⟩ | ⟨rfl, hJx3⟩)
      · have hS3 : Hid (SameX (anyY B (some ⟨g, o, none⟩) xs.length) V W3) := HS.out.trans hK3
        rw [← HT.out] at hJ3
        have HJ3 := Lib.hid hJ3
        clear hJ3 hK3 hR hy
        gi_wp2_with fail
        go_roundw
        case rel => exact ⟨k + 1, by go_num, by omega, hS3, HJ3⟩
        case measure => simp [Go.RowKit.intOf]; omega
      · clear hR hy
        gi_wp2_with fail
        refine bodyPost_ret (results_none rfl _ _ _) rfl ?_
        exact ⟨⟨_, rfl⟩, .inr ⟨_, xs.drop (k + 1), by simpa using HSP.out, hJx3⟩⟩
    · obtain rfl : k = xs.length := by omega
      gi_wp2_with fail
      go_end0
      have hj := HJk.out
      rw [List.take_length] at hj
      exact ⟨⟨_, rfl⟩, .inl hj⟩


theorem tells_any {w : World} {B : Nat} {A : Option Addr} {xs : List Int} {c : Nat} (hl : xs.length ≤ 1000000) (hb : w.heap[B]? = some (.cells #[.slice A xs.length c] 44 (0, 0))) (hr : ReadsI w A xs) :
    Tells w (.func (.func 94) #[] #[.pointer (some ⟨B, 0, none⟩)]) xs := by
  refine ⟨_, _, anyY B A xs.length, rfl, fun n hn => values_tells_any n (by omega) B A c xs w hl hb hr, fun b hb2 => ?_, enters_of Tryz.func94 (by kernel_rfl) rfl⟩
  rcases hb2 with rfl | ⟨h0, p, h1, rfl⟩
  · exact blk_lt hb
  · obtain ⟨g, o, h2, h3, _⟩ := hr h0
    rw [h2] at h1; cases h1; exact h3
/-- numbers, each once, rising -/
def normI (xs : List Int) : List Int := compact (xs.mergeSort fun x y => decide (x ≤ y))
/-- a new set -/
def OfP (zs : List Int) (w : World) (e : Ending) (w' : World) : Prop := (∃ s ob, e = .returned (.pointer (some ⟨s, 0, none⟩)) ∧ SetAt w.heap.size w' s ob zs ∧ w.heap.size ≤ s) ∧ Below w.heap.size w w'
set_option maxHeartbeats 4000000 in
theorem set_of {w : World} (A : Option Addr) (xs : List Int) (c : Nat) (hl : xs.length ≤ 1000000) (hr : ReadsI w A xs) (hup : (normI xs).Pairwise (· < ·)) :
    Calls Tryz.prog 32 #[.slice A xs.length c] w (OfP (normI xs) w) := by
  have HV := Lib.hid (values_calls A xs.length c w)
  have HR := Lib.hid hr
  have HU := Lib.hid hup
  clear hr hup
  go_enter Tryz.func32, Tryz.ntmps32
  go_wp2_with fail
  refine HV.out.mono ?_
  rintro e w1 ⟨rfl, h1, h2⟩
  obtain ⟨W2, hW2⟩ : ∃ W2, w1.alloc (Obj.cells #[Value.func (.func 94) #[] #[.pointer (some ⟨w.heap.size, 0, none⟩)]] 93) = W2 := ⟨_, rfl⟩
  have hb2 : Below w1.heap.size w1 W2 := by rw [← hW2]; exact (Below.refl _ _).alloc (Nat.le_refl _) _
  have hT : Tells W2 (.func (.func 94) #[] #[.pointer (some ⟨w.heap.size, 0, none⟩)]) xs := tells_below (tells_any hl h1 (HR.out.below h2)) hb2
  have hcc : W2.cell? ⟨w1.heap.size, 0, none⟩ = some (Value.func (.func 94) #[] #[.pointer (some ⟨w.heap.size, 0, none⟩)]) := by rw [← hW2]; exact blk_cell (heap_alloc_new w1 _) 0
  have hz2 : w1.heap.size < W2.heap.size := by rw [← hW2, World.size_alloc]; omega
  have hz1 := h2.size
  have HG := Lib.hid (gather_of (w := W2) (some ⟨w1.heap.size, 0, none⟩) [xs] 1 (by simp) (by simpa using hl) (fun _ => ⟨_, _, rfl, hz2, fun j hj => by
    obtain rfl : j = 0 := by simp at hj; omega
    exact ⟨_, hcc, hT⟩⟩) _ rfl)
  have hB : Below w.heap.size w W2 := h2.trans (hb2.mono hz1)
  have H2 := Lib.hid hB
  have HW := Lib.hid hW2
  clear hb2 hT hcc h1 h2 hB hW2
  go_wp2_with fail
  rw [HW.out]
  refine HG.out.mono ?_
  rintro e w3 ⟨⟨v', rfl, h3⟩, h4⟩
  obtain ⟨A', c', rfl⟩ := row_slice h3
  have H3 := Lib.hid (And.intro h3 h4)
  clear h3 h4
  go_wp2_with fail
  go_ret
  obtain ⟨h3, h4⟩ := H3.out
  have hB := H2.out
  have hz := hB.size
  have hb3 : Below w3.heap.size w3 (w3.alloc (Obj.cells #[Value.slice A' (compact (List.mergeSort [xs].flatten fun x y => decide (x ≤ y))).length c'] 96)) := (Below.refl _ _).alloc (Nat.le_refl _) _
  have e0 : [xs].flatten = xs := by simp
  rw [e0] at h3 hb3
  refine ⟨⟨w3.heap.size, _, rfl, ⟨⟨_, heap_alloc_new w3 _, rfl, row_base' (own_kept h3 fun g hg => hb3.block g (h3.lt g hg).2) hz⟩, fun e => ?_, HU.out⟩, ?_⟩, hB.trans ((h4.mono hz).trans (hb3.mono (Nat.le_trans hz h4.size)))⟩
  · have := (h3.lt _ e).2; omega
  · have := h4.size; omega
end Go.Proofs.YtmgnhbihfgpccaaGreatDoor
end
section
/- Layer 19: a room as it lies; what is read of it. -/
namespace Go.Proofs.YtmgnhbihfgpccaaGreatDoor
open Go Go.RowKit

/-- a room -/
structure Rm where
  nm : List UInt8
  mem : List Mem
  tp : List UInt8
  fl : Fl
  key : List UInt8
  lim : Nat
  mb : Int
  bans : List (List UInt8)
  inv : List Int
/-- where its parts lie -/
structure RmV where
  vm : Value
  vb : Value
  S : Nat
  ob : Option Nat
def rmO (r : Rm) (q : RmV) : Obj := .cells #[.string (bs r.nm), q.vm, .string (bs r.tp), .int .i64 (flN r.fl), .string (bs r.key), .int .i64 r.lim, .int .i64 r.mb, q.vb, .pointer (some ⟨q.S, 0, none⟩)] 68 (0, 0)
def RoomAt (base B : Nat) (q : RmV) (r : Rm) (W : World) : Prop :=
  W.heap[B]? = some (rmO r q) ∧ OwnM base W q.vm r.mem ∧ OwnT base W q.vb r.bans ∧ SetAt base W q.S q.ob r.inv ∧ base ≤ B ∧ base ≤ q.S ∧ UpM r.mem
/-- its blocks -/
def RmX (B : Nat) (q : RmV) (k : Nat) : Prop := k = B ∨ q.vm.ownBlock = some k ∨ q.vb.ownBlock = some k ∨ k = q.S ∨ q.ob = some k
section
variable {base B : Nat} {q : RmV} {r : Rm} {W : World}
theorem RoomAt.lt (h : RoomAt base B q r W) : ∀ k, RmX B q k → base ≤ k ∧ k < W.heap.size := by
  obtain ⟨h1, h2, h3, ⟨⟨v, h4, h5, h6⟩, h7, h8⟩, h9, h10, _⟩ := h
  rintro k (rfl | e | e | rfl | e)
  · exact ⟨h9, blk_lt h1⟩
  · exact h2.lt k e
  · exact h3.lt k e
  · exact ⟨h10, blk_lt h4⟩
  · exact h6.lt k (h5.trans e)
theorem RoomAt.fr (h : RoomAt base B q r W) {Z : Nat → Prop} {W' : World} (hf : Fr Z W W') (hz : ∀ k, RmX B q k → ¬ Z k) : RoomAt base B q r W' := by
  have hl := h.lt
  obtain ⟨h1, h2, h3, h4, h9⟩ := h
  exact ⟨hf.blk h1 (hz _ (.inl rfl)), ownM_kept h2 fun g hg => hf.block g (h2.lt g hg).2 (hz _ (.inr (.inl hg))), ownT_kept h3 fun g hg => hf.block g (h3.lt g hg).2 (hz _ (.inr (.inr (.inl hg)))),
    set_kept h4 (hf.block _ (hl _ (.inr (.inr (.inr (.inl rfl))))).2 (hz _ (.inr (.inr (.inr (.inl rfl)))))) (fun g hg => hf.block g (hl _ (.inr (.inr (.inr (.inr hg))))).2 (hz _ (.inr (.inr (.inr (.inr hg)))))), h9⟩
theorem RoomAt.below (h : RoomAt base B q r W) {W' : World} (hb : RowKit.Below W.heap.size W W') : RoomAt base B q r W' :=
  h.fr (Fr.of_below (X := fun _ => False) hb) fun _ _ e => e
theorem RoomAt.rebase (h : RoomAt base B q r W) {b : Nat} (hb : b ≤ base) : RoomAt b B q r W := by
  obtain ⟨h1, h2, h3, ⟨⟨v, h4, h5, h6⟩, h7, h8⟩, h9, h10, hu⟩ := h
  refine ⟨h1, ownM_base h2 hb, ownT_base h3 hb, ⟨⟨v, h4, h5, ?_⟩, h7, h8⟩, by omega, by omega, hu⟩
  obtain ⟨k1, k2⟩ := h6
  refine ⟨k1, ?_⟩
  rcases k2 with k2 | ⟨g, cap, cur, k3, k4, k5⟩
  · exact .inl k2
  · exact .inr ⟨g, cap, cur, k3, by omega, k5⟩
/-- no two of its parts share a block -/
theorem RoomAt.apart (h : RoomAt base B q r W) : (q.vm.ownBlock ≠ some B ∧ q.vb.ownBlock ≠ some B ∧ q.S ≠ B ∧ q.ob ≠ some B) ∧ (∀ k, q.vm.ownBlock = some k → q.vb.ownBlock ≠ some k ∧ q.S ≠ k ∧ q.ob ≠ some k) ∧ (∀ k, q.vb.ownBlock = some k → q.S ≠ k ∧ q.ob ≠ some k) := by
  obtain ⟨h1, h2, h3, ⟨⟨v, h4, h5, h6⟩, h7, h8⟩, h9, h10, _⟩ := h
  have tyo : ∀ {e : TypeId} {size n : Nat} {v : Value} {xs : List Value} {k : Nat}, W.ownsRow base e size v n xs → v.ownBlock = some k → ∃ cur, W.heap[k]? = some (.cells cur e (0, 0)) := fun {e size n v xs k} hr hk => by
    rcases hr.2 with ⟨rfl, _⟩ | ⟨g, cap, cur, rfl, _, hg, _⟩
    · cases hk
    · cases hk; exact ⟨cur, hg⟩
  have ne : ∀ {k : Nat} {c1 c2 : Array Value} {t1 t2 : TypeId}, t1 ≠ t2 → W.heap[k]? = some (.cells c1 t1 (0, 0)) → W.heap[k]? = some (.cells c2 t2 (0, 0)) → False := fun ht a b => by
    rw [a] at b; injection b with b; injection b with b1 b2 _; exact ht b2
  have hob : ∀ {k}, q.ob = some k → ∃ cur, W.heap[k]? = some (.cells cur 3 (0, 0)) := fun e => tyo h6 (h5.trans e)
  refine ⟨⟨fun e => ?_, fun e => ?_, fun e => ?_, fun e => ?_⟩, fun k hk => ⟨fun e => ?_, fun e => ?_, fun e => ?_⟩, fun k hk => ⟨fun e => ?_, fun e => ?_⟩⟩
  · obtain ⟨c, hc⟩ := tyo h2 e; exact ne (by decide) hc h1
  · obtain ⟨c, hc⟩ := tyo h3 e; exact ne (by decide) hc h1
  · rw [e] at h4; exact ne (by decide) h4 h1
  · obtain ⟨c, hc⟩ := hob e; exact ne (by decide) hc h1
  · obtain ⟨c, hc⟩ := tyo h2 hk; obtain ⟨d, hd⟩ := tyo h3 e; exact ne (by decide) hc hd
  · obtain ⟨c, hc⟩ := tyo h2 hk; rw [e] at h4; exact ne (by decide) hc h4
  · obtain ⟨c, hc⟩ := tyo h2 hk; obtain ⟨d, hd⟩ := hob e; exact ne (by decide) hc hd
  · obtain ⟨c, hc⟩ := tyo h3 hk; rw [e] at h4; exact ne (by decide) hc h4
  · obtain ⟨c, hc⟩ := tyo h3 hk; obtain ⟨d, hd⟩ := hob e; exact ne (by decide) hc hd
end
/-- a letter's bit -/
theorem u8_eqR (c : UInt8) (n : Nat) (hn : n < 256) : ((c.toNat : Int) == (n : Int)) = decide (c = UInt8.ofNat n) := by
  rw [Bool.eq_iff_iff, beq_iff_eq, decide_eq_true_eq]
  constructor
  · intro h; apply UInt8.toNat_inj.1; simp; omega
  · rintro rfl; simp; omega
theorem bit_any (c : UInt8) (w : World) : Calls Tryz.prog 45 #[.int .u8 c.toNat] w fun e w' => e = .returned (.int .i64 (bitI c)) ∧ w' = w := by
  have e1 : ((c.toNat : Int) == 105) = decide (c = 105) := u8_eqR c 105 (by decide)
  have e2 : ((c.toNat : Int) == 109) = decide (c = 109) := u8_eqR c 109 (by decide)
  have e3 : ((c.toNat : Int) == 110) = decide (c = 110) := u8_eqR c 110 (by decide)
  have e4 : ((c.toNat : Int) == 115) = decide (c = 115) := u8_eqR c 115 (by decide)
  have e5 : ((c.toNat : Int) == 116) = decide (c = 116) := u8_eqR c 116 (by decide)
  rcases letter_cases c with h | h | h | h | h | h
  · subst h
    go_enter Tryz.func45, Tryz.ntmps45
    go_wp2_with fail
    go_ret
    exact ⟨rfl, rfl⟩
  · subst h
    go_enter Tryz.func45, Tryz.ntmps45
    go_wp2_with fail
    go_ret
    exact ⟨rfl, rfl⟩
  · subst h
    go_enter Tryz.func45, Tryz.ntmps45
    go_wp2_with fail
    go_ret
    exact ⟨rfl, rfl⟩
  · subst h
    go_enter Tryz.func45, Tryz.ntmps45
    go_wp2_with fail
    go_ret
    exact ⟨rfl, rfl⟩
  · subst h
    go_enter Tryz.func45, Tryz.ntmps45
    go_wp2_with fail
    go_ret
    exact ⟨rfl, rfl⟩
  · rw [bitI_other h]
    rw [decide_eq_false h.1] at e1
    rw [decide_eq_false h.2.1] at e2
    rw [decide_eq_false h.2.2.1] at e3
    rw [decide_eq_false h.2.2.2.1] at e4
    rw [decide_eq_false h.2.2.2.2] at e5
    clear h
    go_enter Tryz.func45, Tryz.ntmps45
    go_wp2_with fail
    go_ret
    exact ⟨rfl, rfl⟩
theorem flag_nil (c : UInt8) (w : World) : Calls Tryz.prog 22 #[.pointer none, .int .u8 c.toNat] w fun e w' => e = .returned (.bool false) ∧ ∃ n, w' = w.drewN n := by
  go_enter Tryz.func22, Tryz.ntmps22
  go_wp2_with fail
  go_quiet (fail)
  go_wp2_with fail
  go_ret
  exact ⟨rfl, _, rfl⟩
theorem flag_any {B : Nat} {q : RmV} {r : Rm} {w : World} (h : w.heap[B]? = some (rmO r q)) (c : UInt8) :
    Calls Tryz.prog 22 #[.pointer (some ⟨B, 0, none⟩), .int .u8 c.toNat] w fun e w' => e = .returned (.bool (r.fl.has c)) ∧ ∃ n, w' = w.drewN n := by
  have HB := Lib.hid (fun W => bit_any c W)
  obtain ⟨b, hb⟩ : ∃ b, bitI c = b := ⟨_, rfl⟩
  obtain ⟨f, hf⟩ : ∃ f, flN r.fl = f := ⟨_, rfl⟩
  obtain ⟨x, hx⟩ : ∃ x, r.fl.has c = x := ⟨_, rfl⟩
  have ha := fl_and r.fl c
  rw [hb, hf, hx] at ha
  have c3 : w.cell? ⟨B, 3, none⟩ = some (.int .i64 f) := by rw [← hf]; exact blk_cell h 3
  rw [hb] at HB
  rw [hx]
  have ha2 : (bits .and .i64 f b != 0) = x := by rw [bne, ha, Bool.not_not]
  clear hb hf hx h
  go_enter Tryz.func22, Tryz.ntmps22
  go_wp2_with fail
  go_quiet ((go_at_call 45; exact Calls.quiet_of_same (HB.out _)))
  go_wp2_with fail
  go_ret
  exact ⟨rfl, _, rfl⟩
end Go.Proofs.YtmgnhbihfgpccaaGreatDoor
end
section
/- Layer 19: New; a nil room; what is read of a room. -/
namespace Go.Proofs.YtmgnhbihfgpccaaGreatDoor
open Go Go.RowKit

theorem name_nil (w : World) : Calls Tryz.prog 18 #[.pointer none] w fun e w' => e = .returned (.string (bs [])) ∧ w' = w := by
  go_enter Tryz.func18, Tryz.ntmps18
  go_wp2_with fail
  go_ret
  exact ⟨rfl, rfl⟩
theorem name_any {B : Nat} {q : RmV} {r : Rm} {w : World} (h : w.heap[B]? = some (rmO r q)) : Calls Tryz.prog 18 #[.pointer (some ⟨B, 0, none⟩)] w fun e w' => e = .returned (.string (bs r.nm)) ∧ w' = w := by
  have c0 : w.cell? ⟨B, 0, none⟩ = some (.string (bs r.nm)) := blk_cell h 0
  clear h
  go_enter Tryz.func18, Tryz.ntmps18
  go_wp2_with fail
  go_ret
  exact ⟨rfl, rfl⟩
theorem topic_nil (w : World) : Calls Tryz.prog 19 #[.pointer none] w fun e w' => e = .returned (.string (bs [])) ∧ w' = w := by
  go_enter Tryz.func19, Tryz.ntmps19
  go_wp2_with fail
  go_ret
  exact ⟨rfl, rfl⟩
theorem topic_any {B : Nat} {q : RmV} {r : Rm} {w : World} (h : w.heap[B]? = some (rmO r q)) : Calls Tryz.prog 19 #[.pointer (some ⟨B, 0, none⟩)] w fun e w' => e = .returned (.string (bs r.tp)) ∧ w' = w := by
  have c0 : w.cell? ⟨B, 2, none⟩ = some (.string (bs r.tp)) := blk_cell h 2
  clear h
  go_enter Tryz.func19, Tryz.ntmps19
  go_wp2_with fail
  go_ret
  exact ⟨rfl, rfl⟩
theorem rlen_nil (w : World) : Calls Tryz.prog 40 #[.pointer none] w fun e w' => e = .returned (.int .i64 0) ∧ w' = w := by
  go_enter Tryz.func40, Tryz.ntmps40
  go_wp2_with fail
  go_ret
  exact ⟨rfl, rfl⟩
theorem rlen_any {base B : Nat} {q : RmV} {r : Rm} {w : World} (h : RoomAt base B q r w) : Calls Tryz.prog 40 #[.pointer (some ⟨B, 0, none⟩)] w fun e w' => e = .returned (.int .i64 r.mem.length) ∧ w' = w := by
  obtain ⟨h1, h2, _⟩ := h
  obtain ⟨A, c, hv⟩ := row_slice h2
  have c0 : w.cell? ⟨B, 1, none⟩ = some (.slice A r.mem.length c) := by rw [← hv]; exact blk_cell h1 1
  clear h1 h2 hv
  go_enter Tryz.func40, Tryz.ntmps40
  go_wp2_with fail
  go_ret
  exact ⟨rfl, rfl⟩
/-- a new room -/
def rm0 (nm : List UInt8) (mb : Int) : Rm := ⟨nm, [], [], fl0, [], 0, mb, [], []⟩
def NewRm (nm : List UInt8) (mb : Int) (w : World) (e : Ending) (w' : World) : Prop := ∃ B q, e = .returned (.pointer (some ⟨B, 0, none⟩)) ∧ RoomAt w.heap.size B q (rm0 nm mb) w' ∧ RowKit.Below w.heap.size w w'
theorem newR_any (nm : List UInt8) (mb : Int) (w : World) : Calls Tryz.prog 9 #[.string (bs nm), .int .i64 mb] w (NewRm nm mb w) := by
  have hn : normI [] = [] := by decide +kernel
  have ho := fun (W : World) => set_of (w := W) none [] 0 (by simp) (fun h => by simp at h) (by rw [hn]; exact List.Pairwise.nil)
  rw [hn] at ho
  have HO := Lib.hid ho
  clear ho hn
  go_enter Tryz.func9, Tryz.ntmps9
  go_wp2_with fail
  refine (HO.out w).mono ?_
  rintro e w1 ⟨⟨s, ob, rfl, hs, hsl⟩, hb⟩
  have H := Lib.hid (And.intro hs (And.intro hsl hb))
  clear hs hsl hb
  go_wp2_with fail
  go_ret
  obtain ⟨hs, hsl, hb⟩ := H.out
  obtain ⟨W2, hW2⟩ : ∃ W2, w1.alloc (rmO (rm0 nm mb) ⟨.slice none 0 0, .slice none 0 0, s, ob⟩) = W2 := ⟨_, rfl⟩
  have hb2 : RowKit.Below w1.heap.size w1 W2 := by rw [← hW2]; exact (Below.refl _ _).alloc (Nat.le_refl _) _
  refine ⟨w1.heap.size, ⟨.slice none 0 0, .slice none 0 0, s, ob⟩, rfl, ?_, ?_⟩
  · show RoomAt _ _ _ _ (w1.alloc (rmO (rm0 nm mb) ⟨.slice none 0 0, .slice none 0 0, s, ob⟩))
    rw [hW2]
    exact ⟨by rw [← hW2]; exact heap_alloc_new w1 _, ownM_nil _ _, ownT_nil _ _, set_below hs hb2, hb.size, hsl, List.Pairwise.nil⟩
  · show RowKit.Below _ _ (w1.alloc (rmO (rm0 nm mb) ⟨.slice none 0 0, .slice none 0 0, s, ob⟩))
    rw [hW2]
    exact hb.trans (hb2.mono hb.size)
end Go.Proofs.YtmgnhbihfgpccaaGreatDoor
end
section
/- Layer 19: the row of letters that are on. -/
namespace Go.Proofs.YtmgnhbihfgpccaaGreatDoor
open Go Go.RowKit

theorem bs_ne_nil (l : List UInt8) : ((bs l).toList == ([] : List UInt8)) = decide (l = []) := by
  cases l with
  | nil => decide +kernel
  | cons a r => rw [ByteArray.toList_eq, bs_toList]; simp
theorem enc_ascii (c : UInt8) (h : c.toNat < 128) : Utf8.encode (c.toNat : Int) = bs [c] := by
  have hv : Utf8.valid (c.toNat : Int) = true := by unfold Utf8.valid; simp; omega
  unfold Utf8.encode
  rw [hv]
  simp only [if_true, Int.toNat_natCast]
  rw [if_pos h]
  simp [bs]
set_option maxRecDepth 100000 in
set_option maxHeartbeats 4000000 in
theorem row_any {B : Nat} {q : RmV} {r : Rm} {w : World} (h : w.heap[B]? = some (rmO r q)) :
    Calls Tryz.prog 42 #[.pointer (some ⟨B, 0, none⟩)] w fun e w' => e = .returned (.string (bs (rowU r.fl.has (decide (r.key ≠ [])) (decide (r.lim ≠ 0)) 7))) ∧ RowKit.Below w.heap.size w w' := by
  obtain ⟨w1, hw1⟩ : ∃ w1, w.alloc (.cells #[.int .u8 105, .int .u8 107, .int .u8 108, .int .u8 109, .int .u8 110, .int .u8 115, .int .u8 116] 5 (7, 8)) = w1 := ⟨_, rfl⟩
  have hB1 : w1.heap[B]? = some (rmO r q) := by rw [← hw1]; exact blk_alloc h _
  have hN1 : w1.heap[w.heap.size]? = some (.cells #[.int .u8 105, .int .u8 107, .int .u8 108, .int .u8 109, .int .u8 110, .int .u8 115, .int .u8 116] 5 (7, 8)) := by rw [← hw1]; exact heap_alloc_new w _
  have hb1 : RowKit.Below w.heap.size w w1 := by rw [← hw1]; exact (Below.refl _ _).alloc (Nat.le_refl _) _
  have hcv := Lib.run_convert_bytes_const (P := Tryz.prog) w 81 5 #[.int .u8 105, .int .u8 107, .int .u8 108, .int .u8 109, .int .u8 110, .int .u8 115, .int .u8 116] 7 7 Tryz.underlying81 Tryz.underlying5
  simp only [List.size_toArray, List.length_cons, List.length_nil, Nat.reduceAdd, hw1] at hcv
  have H := Lib.hid (And.intro hB1 (And.intro hN1 hb1))
  have HF := Lib.hid (fun (W : World) (hW : W.heap[B]? = some (rmO r q)) c => flag_any hW c)
  obtain ⟨kb, hkb⟩ : ∃ b, decide (r.key ≠ []) = b := ⟨_, rfl⟩
  obtain ⟨lb, hlb⟩ : ∃ b, decide (r.lim ≠ 0) = b := ⟨_, rfl⟩
  rw [hkb, hlb]
  have HKL := Lib.hid (And.intro hkb hlb)
  obtain ⟨N, hN⟩ : ∃ N, w.heap.size = N := ⟨_, rfl⟩
  have HNN := Lib.hid hN
  clear h hB1 hN1 hb1 hkb hlb hw1 hN
  go_enter Tryz.func42, Tryz.ntmps42
  go_wp2_with fail
  have hstart : Hid (∃ n, w1 = w1.drewN n) := ⟨0, rfl⟩
  go_loopw [3, 9] (fun s i wr => ∃ k : Nat, k ≤ 7 ∧ i = .int .i64 k ∧ s = .string (bs (rowU r.fl.has kb lb k)) ∧ Hid (∃ n, wr = w1.drewN n)) (fun _ i _ => 7 - (RowKit.intOf i).toNat)
  case atStart => exact ⟨0, by omega, rfl, rfl, hstart⟩
  case round =>
    clear hstart hcv
    obtain ⟨k, hk, rfl, rfl, HD⟩ := hrel
    obtain ⟨n, rfl⟩ := HD.out
    have hrl := rowU_len r.fl.has kb lb k
    by_cases hlt : k < 7
    · have hltI : (k : Int) < 7 := by omega
      obtain ⟨c, hc⟩ : ∃ c, lettersL.getD k 0 = c := ⟨_, rfl⟩
      have hstep := rowU_step r.fl.has kb lb k hlt
      rw [hc] at hstep
      have hcell : (w1.drewN n).cell? ⟨w.heap.size, k, none⟩ = some (.int .u8 c.toNat) := by
        rw [show (w1.drewN n).cell? ⟨w.heap.size, k, none⟩ = w1.cell? ⟨w.heap.size, k, none⟩ from rfl, cell_of_row _ _ _ _ _ _ H.out.2.1, ← hc]
        obtain rfl | rfl | rfl | rfl | rfl | rfl | rfl : k = 0 ∨ k = 1 ∨ k = 2 ∨ k = 3 ∨ k = 4 ∨ k = 5 ∨ k = 6 := by omega
        all_goals rfl
      have h128 : c.toNat < 128 := by
        rw [← hc]
        obtain rfl | rfl | rfl | rfl | rfl | rfl | rfl : k = 0 ∨ k = 1 ∨ k = 2 ∨ k = 3 ∨ k = 4 ∨ k = 5 ∨ k = 6 := by omega
        all_goals decide
      have e1 : ((c.toNat : Int) == 107) = decide (c = 107) := u8_eqR c 107 (by decide)
      have e2 : ((c.toNat : Int) == 108) = decide (c = 108) := u8_eqR c 108 (by decide)
      have hfl := HF.out (w1.drewN n) H.out.1 c
      have hB := H.out.1
      have k4 : ∀ m, (w1.drewN m).cell? ⟨B, 4, none⟩ = some (.string (bs r.key)) := fun m => blk_cell hB 4
      have k5 : ∀ m, (w1.drewN m).cell? ⟨B, 5, none⟩ = some (.int .i64 r.lim) := fun m => blk_cell hB 5
      obtain ⟨x, hx⟩ : ∃ x, r.fl.has c = x := ⟨_, rfl⟩
      rw [hx] at hfl
      have HFL := Lib.hid hfl
      obtain ⟨u, hu⟩ : ∃ u, rowU r.fl.has kb lb k = u := ⟨_, rfl⟩
      rw [hu] at hrl hstep ⊢
      have HST := Lib.hid (And.intro hstep (And.intro hx hu))
      clear hfl hstep hx hc hu hB
      have henc := enc_ascii c h128
      have hi32 : IntKind.i32.wrap (c.toNat : Int) = c.toNat := IntWalk.i32_in _ (by omega)
      have hov : ¬ 9223372036854775807 < u.length + 1 := by omega
      have hbl : (bs [c]).size = 1 := rfl
      clear h128
      have K4 := Lib.hid k4
      have K5 := Lib.hid k5
      clear k4 k5
      cases x with
      | true =>
        clear e1 e2
        have HON : Hid (onB r.fl.has kb lb c = true) := by show onB r.fl.has kb lb c = true; unfold onB; rw [HST.out.2.1]; rfl
        go_wp2_with fail
        refine HFL.out.mono ?_
        rintro e w2 ⟨rfl, m, rfl⟩
        go_wp2_with fail
        exact ⟨⟨k + 1, by omega, by push_cast; rfl, congrArg Value.string (show bs u ++ bs [c] = _ by rw [HST.out.1, HON.out, if_pos rfl]; exact ba_ext (by simp)), ⟨_, rfl⟩⟩, by simp only [RowKit.intOf]; omega⟩
      | false =>
       by_cases h7 : c = 107
       · rw [decide_eq_true h7] at e1
         rw [decide_eq_false (by rw [h7]; decide)] at e2
         have H7 := Lib.hid h7
         clear h7
         have k4 := K4.out
         cases hkey : r.key with
         | nil =>
           rw [hkey, show bs ([] : List UInt8) = ({ data := #[] } : ByteArray) from rfl] at k4
           have HON : Hid (onB r.fl.has kb lb c = false) := by show onB r.fl.has kb lb c = false; unfold onB; rw [HST.out.2.1, H7.out, ← HKL.out.1, hkey]; rfl
           clear hkey
           go_wp2_with fail
           refine HFL.out.mono ?_
           rintro e w2 ⟨rfl, m, rfl⟩
           go_wp2_with fail
           exact ⟨⟨k + 1, by omega, by push_cast; rfl, congrArg Value.string (show bs u = _ by rw [HST.out.1, HON.out]; simp), ⟨_, rfl⟩⟩, by simp only [RowKit.intOf]; omega⟩
         | cons a b =>
           rw [hkey] at k4
           have hemp := str_ne (s := bs (a :: b)) (by simp)
           have HON : Hid (onB r.fl.has kb lb c = true) := by show onB r.fl.has kb lb c = true; unfold onB; rw [HST.out.2.1, H7.out, ← HKL.out.1, hkey]; rfl
           clear hkey
           go_wp2_with fail
           refine HFL.out.mono ?_
           rintro e w2 ⟨rfl, m, rfl⟩
           go_wp2_with fail
           exact ⟨⟨k + 1, by omega, by push_cast; rfl, congrArg Value.string (show bs u ++ bs [c] = _ by rw [HST.out.1, HON.out, if_pos rfl]; exact ba_ext (by simp)), ⟨_, rfl⟩⟩, by simp only [RowKit.intOf]; omega⟩
       · rw [decide_eq_false h7] at e1
         have H7 := Lib.hid h7
         clear h7
         by_cases h8 : c = 108
         · rw [decide_eq_true h8] at e2
           have H8 := Lib.hid h8
           clear h8
           have k5 := K5.out
           cases hl : r.lim with
           | zero =>
             rw [hl] at k5
             have HON : Hid (onB r.fl.has kb lb c = false) := by show onB r.fl.has kb lb c = false; unfold onB; rw [HST.out.2.1, H8.out, ← HKL.out.2, hl]; rfl
             clear hl
             go_wp2_with fail
             refine HFL.out.mono ?_
             rintro e w2 ⟨rfl, m, rfl⟩
             go_wp2_with fail
             exact ⟨⟨k + 1, by omega, by push_cast; rfl, congrArg Value.string (show bs u = _ by rw [HST.out.1, HON.out]; simp), ⟨_, rfl⟩⟩, by simp only [RowKit.intOf]; omega⟩
           | succ l =>
             obtain ⟨L, hL⟩ : ∃ L : Int, (r.lim : Int) = L := ⟨_, rfl⟩
             have hpos : (0 : Int) < L := by omega
             rw [hL] at k5
             clear hL
             have HON : Hid (onB r.fl.has kb lb c = true) := by show onB r.fl.has kb lb c = true; unfold onB; rw [HST.out.2.1, H8.out, ← HKL.out.2, hl]; rfl
             clear hl
             go_wp2_with fail
             refine HFL.out.mono ?_
             rintro e w2 ⟨rfl, m, rfl⟩
             go_wp2_with fail
             exact ⟨⟨k + 1, by omega, by push_cast; rfl, congrArg Value.string (show bs u ++ bs [c] = _ by rw [HST.out.1, HON.out, if_pos rfl]; exact ba_ext (by simp)), ⟨_, rfl⟩⟩, by simp only [RowKit.intOf]; omega⟩
         · rw [decide_eq_false h8] at e2
           have HON : Hid (onB r.fl.has kb lb c = false) := by show onB r.fl.has kb lb c = false; unfold onB; rw [HST.out.2.1, decide_eq_false H7.out, decide_eq_false h8]; rfl
           clear h8
           go_wp2_with fail
           refine HFL.out.mono ?_
           rintro e w2 ⟨rfl, m, rfl⟩
           go_wp2_with fail
           exact ⟨⟨k + 1, by omega, by push_cast; rfl, congrArg Value.string (show bs u = _ by rw [HST.out.1, HON.out]; simp), ⟨_, rfl⟩⟩, by simp only [RowKit.intOf]; omega⟩
    · obtain rfl : k = 7 := by omega
      go_wp2_with fail
      go_ret
      refine ⟨rfl, ?_⟩
      obtain ⟨hB1, hN1, hb1⟩ := H.out
      exact hb1.trans (((Fr.refl (fun _ => False) w1).drewN n).below hb1.size fun _ _ e => e.elim)
end Go.Proofs.YtmgnhbihfgpccaaGreatDoor
end
section
/- Layer 19: Modes. -/
namespace Go.Proofs.YtmgnhbihfgpccaaGreatDoor
open Go Go.RowKit

/-- the table of powers -/
def PowR (W : World) : Prop := Lib.TabIs Tryz.prog W "internal/strconv.uint64pow10" .u64 Lib.pow10Tab
theorem powGR : Tryz.prog.globalNamed "internal/strconv.uint64pow10" = some 0 := by kernel_rfl
theorem PowR.lt {W : World} (h : PowR W) : 0 < W.heap.size := by
  unfold PowR Lib.TabIs World.var? at h
  rw [powGR] at h
  simp only [Option.bind_some] at h
  split at h
  · rename_i cs t i hx
    exact (Array.getElem?_eq_some_iff.1 hx).1
  · cases h
theorem PowR.same {w W : World} (h : PowR w) (hs : W.heap[(0 : Nat)]? = w.heap[(0 : Nat)]?) : PowR W := by
  unfold PowR Lib.TabIs World.var? at h ⊢
  rw [powGR] at h ⊢
  simp only [Option.bind_some] at h ⊢
  rw [hs]
  exact h
theorem PowR.below {w W : World} (h : PowR w) {n : Nat} (hb : RowKit.Below n w W) (hn : w.heap.size ≤ n := by exact Nat.le_refl _) : PowR W := h.same (hb.block _ (Nat.lt_of_lt_of_le h.lt hn))
theorem itoaR (n : Int) (h0 : -9223372036854775808 ≤ n) (h1 : n ≤ 9223372036854775807) (w : World) (hp : PowR w) : Calls Tryz.prog 43 #[.int .i64 n] w fun e w' => e = .returned (.string (bs (Lib.itoa n))) ∧ RowKit.Below w.heap.size w w' := by
  refine (Tryz.strconv_Itoa n h0 h1 w hp).mono ?_
  rintro e w' ⟨rfl, k, os, rfl⟩
  refine ⟨rfl, ?_⟩
  have key : Fr (fun _ => False) (w.drewN k) (Go.Sort.grow (w.drewN k) os) := ⟨rfl, rfl, rfl, by simp [Go.Sort.grow], fun j hj _ => by
    show (((w.drewN k).heap ++ os)[j]?) = _
    exact Array.getElem?_append_left hj⟩
  exact (((Fr.refl (fun _ => False) w).drewN k).trans key).below (Nat.le_refl _) fun _ _ e => e.elim
/-- a row of texts of the call's own is returned -/
def RetT (xs : List (List UInt8)) (w : World) (e : Ending) (w' : World) : Prop := (∃ A c, e = .returned (.slice A xs.length c) ∧ OwnT w.heap.size w' (.slice A xs.length c) xs) ∧ RowKit.Below w.heap.size w w'
theorem modes_nil (all : Bool) (w : World) : Calls Tryz.prog 20 #[.pointer none, .bool all] w fun e w' => e = .returned (.slice none 0 0) ∧ w' = w := by
  go_enter Tryz.func20, Tryz.ntmps20
  go_wp2_with fail
  go_ret
  exact ⟨rfl, rfl⟩
/-- what is there of the row so far -/
def MdS (w : World) (v : Value) (xs : List (List UInt8)) (W : World) : Prop := OwnT w.heap.size W v xs ∧ RowKit.Below w.heap.size w W
theorem MdS.put {w W W1 : World} {v v1 : Value} {xs : List (List UInt8)} {x : List UInt8} (h : MdS w v xs W) (h1 : W1.ownsRow w.heap.size 9 1 v1 (xs.length + 1) (xs.map encT ++ #[Value.string (bs x)].toList)) (hf : Fr (fun k => v.ownBlock = some k) W W1) : MdS w v1 (xs ++ [x]) W1 :=
  ⟨ownT_snoc h1, h.2.trans (hf.below h.2.size fun k _ e => (h.1.lt k e).1)⟩
set_option maxRecDepth 100000 in
set_option maxHeartbeats 8000000 in
theorem modes_any {base B : Nat} {q : RmV} {r : Rm} {w : World} (h : RoomAt base B q r w) (all : Bool) (hp : PowR w) (hlim : r.lim ≤ 1000000) :
    Calls Tryz.prog 20 #[.pointer (some ⟨B, 0, none⟩), .bool all] w (RetT (modesL r.fl.has r.key r.lim (Lib.itoa r.lim) all) w) := by
  obtain ⟨i0, hi0, hz0, hz1, hz2⟩ := info_parts Tryz.infoT
  have hr0 := row_any h.1
  obtain ⟨R, hR⟩ : ∃ R, rowU r.fl.has (decide (r.key ≠ [])) (decide (r.lim ≠ 0)) 7 = R := ⟨_, rfl⟩
  rw [hR] at hr0
  have HR := Lib.hid hr0
  have hcell : ∀ W, RowKit.Below w.heap.size w W → W.cell? ⟨B, 4, none⟩ = some (.string (bs r.key)) ∧ W.cell? ⟨B, 5, none⟩ = some (.int .i64 r.lim) := fun W hb => by
    have hB := (hb.block B (blk_lt h.1)).trans h.1
    exact ⟨blk_cell hB 4, blk_cell hB 5⟩
  have HC := Lib.hid hcell
  have HP := Lib.hid (fun W (hb : RowKit.Below w.heap.size w W) => itoaR r.lim (by omega) (by omega) W (hp.below hb))
  have hmd : modesL r.fl.has r.key r.lim (Lib.itoa r.lim) all = R :: ((if r.key = [] then [] else [if all then r.key else [42]]) ++ (if r.lim ≠ 0 ∧ all = true then [Lib.itoa r.lim] else [])) := by unfold modesL; rw [hR]
  rw [hmd]
  have hHB := h.1
  have hlt := blk_lt h.1
  clear hr0 hcell hp hmd h hR hHB
  obtain ⟨key, hkey⟩ : ∃ key, r.key = key := ⟨_, rfl⟩
  obtain ⟨lim, hlm⟩ : ∃ lim, r.lim = lim := ⟨_, rfl⟩
  obtain ⟨nm, hnm⟩ : ∃ nm, Lib.itoa lim = nm := ⟨_, rfl⟩
  rw [hlm] at hlim
  rw [hkey, hlm] at HC ⊢
  rw [hlm] at HP
  rw [hnm] at HP ⊢
  clear hkey hlm hnm
  cases key with
  | nil =>
    cases all with
    | true =>
      cases lim with
      | zero =>
        show Calls _ _ _ _ (RetT [R] w)
        go_enter Tryz.func20, Tryz.ntmps20
        go_wp2_with fail
        refine HR.out.mono ?_
        rintro e w1 ⟨rfl, hb1⟩
        obtain ⟨W, hW⟩ : ∃ W, w1.alloc (.cells #[.string (bs R)] 9) = W := ⟨_, rfl⟩
        have hs1 : MdS w (.slice (some ⟨w1.heap.size, 0, none⟩) 1 1) [R] W := ⟨by
          rw [← hW]
          exact ⟨by simp, .inr ⟨w1.heap.size, 1, #[.string (bs R)], rfl, hb1.size, heap_alloc_new w1 _, Nat.le_refl _, by unfold maxLen; omega, rfl, rfl⟩⟩, by
          rw [← hW]; exact hb1.trans ((Below.refl _ _).alloc hb1.size _)⟩
        have HS := Lib.hid hs1
        have hc := HC.out W hs1.2
        obtain ⟨c4, c5⟩ := hc
        clear hs1 hb1
        rw [show bs ([] : List UInt8) = ({ data := #[] } : ByteArray) from rfl] at c4
        go_wp2_with fail
        go_ret
        exact ⟨⟨_, _, rfl, HS.out.1⟩, HS.out.2⟩
      | succ l0 =>
        show Calls _ _ _ _ (RetT [R, nm] w)
        obtain ⟨L, hL⟩ : ∃ L : Int, ((l0 + 1 : Nat) : Int) = L := ⟨_, rfl⟩
        rw [hL] at HC HP
        have hpos : (0 : Int) < L := by omega
        clear hL
        go_enter Tryz.func20, Tryz.ntmps20
        go_wp2_with fail
        refine HR.out.mono ?_
        rintro e w1 ⟨rfl, hb1⟩
        obtain ⟨W, hW⟩ : ∃ W, w1.alloc (.cells #[.string (bs R)] 9) = W := ⟨_, rfl⟩
        have hs1 : MdS w (.slice (some ⟨w1.heap.size, 0, none⟩) 1 1) [R] W := ⟨by
          rw [← hW]
          exact ⟨by simp, .inr ⟨w1.heap.size, 1, #[.string (bs R)], rfl, hb1.size, heap_alloc_new w1 _, Nat.le_refl _, by unfold maxLen; omega, rfl, rfl⟩⟩, by
          rw [← hW]; exact hb1.trans ((Below.refl _ _).alloc hb1.size _)⟩
        have HS := Lib.hid hs1
        have hc := HC.out W hs1.2
        obtain ⟨c4, c5⟩ := hc
        clear hs1 hb1
        rw [show bs ([] : List UInt8) = ({ data := #[] } : ByteArray) from rfl] at c4
        go_wp2_with fail
        refine (HP.out _ HS.out.2).mono ?_
        rintro e w5 ⟨rfl, hb5⟩
        have HS5 := Lib.hid (show MdS w _ _ w5 from ⟨ownT_kept HS.out.1 fun g hg => hb5.block g (HS.out.1.lt g hg).2, HS.out.2.trans (hb5.mono HS.out.2.size)⟩)
        clear HS hb5 c4 c5
        have HS := HS5
        clear HS5
        have hor : World.ownsRow _ w.heap.size 9 1 (.slice (some ⟨w1.heap.size, 0, none⟩) 1 1) 1 [encT R] := HS.out.1
        have HOR := Lib.hid hor
        have hzz := HS.out.2.size
        clear hor
        go_wp2_with (at_builtin; refine wpList_app_fr rfl _ _ 34 rfl w.heap.size 9 i0 (.string ByteArray.empty) 1 16 Tryz.underlying34 hi0 hz0 hz1 hz2 rfl (by decide) ((.slice (some ⟨w1.heap.size, 0, none⟩) 1 1)) 1 [encT R] rfl HOR.out #[.string (bs nm)] _ rfl rfl rfl (by intro u hu; simp at hu; subst hu; rfl) (by omega) (by decide) hzz ?_)
        intro v2 W2 hown2 hfr2
        have HS2 := Lib.hid (HS.out.put hown2 hfr2)
        clear HS HOR hown2 hfr2 hzz
        obtain ⟨A2, c2, hv2⟩ := row_slice HS2.out.1
        subst hv2
        have HS := HS2
        clear HS2
        try clear hW
        go_wp2_with fail
        go_ret
        exact ⟨⟨_, _, rfl, HS.out.1⟩, HS.out.2⟩
    | false =>
      cases lim with
      | zero =>
        show Calls _ _ _ _ (RetT [R] w)
        go_enter Tryz.func20, Tryz.ntmps20
        go_wp2_with fail
        refine HR.out.mono ?_
        rintro e w1 ⟨rfl, hb1⟩
        obtain ⟨W, hW⟩ : ∃ W, w1.alloc (.cells #[.string (bs R)] 9) = W := ⟨_, rfl⟩
        have hs1 : MdS w (.slice (some ⟨w1.heap.size, 0, none⟩) 1 1) [R] W := ⟨by
          rw [← hW]
          exact ⟨by simp, .inr ⟨w1.heap.size, 1, #[.string (bs R)], rfl, hb1.size, heap_alloc_new w1 _, Nat.le_refl _, by unfold maxLen; omega, rfl, rfl⟩⟩, by
          rw [← hW]; exact hb1.trans ((Below.refl _ _).alloc hb1.size _)⟩
        have HS := Lib.hid hs1
        have hc := HC.out W hs1.2
        obtain ⟨c4, c5⟩ := hc
        clear hs1 hb1
        rw [show bs ([] : List UInt8) = ({ data := #[] } : ByteArray) from rfl] at c4
        go_wp2_with fail
        go_ret
        exact ⟨⟨_, _, rfl, HS.out.1⟩, HS.out.2⟩
      | succ l0 =>
        show Calls _ _ _ _ (RetT [R] w)
        obtain ⟨L, hL⟩ : ∃ L : Int, ((l0 + 1 : Nat) : Int) = L := ⟨_, rfl⟩
        rw [hL] at HC HP
        have hpos : (0 : Int) < L := by omega
        clear hL
        go_enter Tryz.func20, Tryz.ntmps20
        go_wp2_with fail
        refine HR.out.mono ?_
        rintro e w1 ⟨rfl, hb1⟩
        obtain ⟨W, hW⟩ : ∃ W, w1.alloc (.cells #[.string (bs R)] 9) = W := ⟨_, rfl⟩
        have hs1 : MdS w (.slice (some ⟨w1.heap.size, 0, none⟩) 1 1) [R] W := ⟨by
          rw [← hW]
          exact ⟨by simp, .inr ⟨w1.heap.size, 1, #[.string (bs R)], rfl, hb1.size, heap_alloc_new w1 _, Nat.le_refl _, by unfold maxLen; omega, rfl, rfl⟩⟩, by
          rw [← hW]; exact hb1.trans ((Below.refl _ _).alloc hb1.size _)⟩
        have HS := Lib.hid hs1
        have hc := HC.out W hs1.2
        obtain ⟨c4, c5⟩ := hc
        clear hs1 hb1
        rw [show bs ([] : List UInt8) = ({ data := #[] } : ByteArray) from rfl] at c4
        go_wp2_with fail
        go_ret
        exact ⟨⟨_, _, rfl, HS.out.1⟩, HS.out.2⟩
  | cons b0 k0 =>
    cases all with
    | true =>
      cases lim with
      | zero =>
        show Calls _ _ _ _ (RetT [R, (b0 :: k0)] w)
        go_enter Tryz.func20, Tryz.ntmps20
        go_wp2_with fail
        refine HR.out.mono ?_
        rintro e w1 ⟨rfl, hb1⟩
        obtain ⟨W, hW⟩ : ∃ W, w1.alloc (.cells #[.string (bs R)] 9) = W := ⟨_, rfl⟩
        have hs1 : MdS w (.slice (some ⟨w1.heap.size, 0, none⟩) 1 1) [R] W := ⟨by
          rw [← hW]
          exact ⟨by simp, .inr ⟨w1.heap.size, 1, #[.string (bs R)], rfl, hb1.size, heap_alloc_new w1 _, Nat.le_refl _, by unfold maxLen; omega, rfl, rfl⟩⟩, by
          rw [← hW]; exact hb1.trans ((Below.refl _ _).alloc hb1.size _)⟩
        have HS := Lib.hid hs1
        have hc := HC.out W hs1.2
        obtain ⟨c4, c5⟩ := hc
        clear hs1 hb1
        have hemp := str_ne (s := bs (b0 :: k0)) (by simp)
        have hor : World.ownsRow _ w.heap.size 9 1 (.slice (some ⟨w1.heap.size, 0, none⟩) 1 1) 1 [encT R] := HS.out.1
        have HOR := Lib.hid hor
        have hzz := HS.out.2.size
        clear hor
        go_wp2_with (at_builtin; refine wpList_app_fr rfl _ _ 34 rfl w.heap.size 9 i0 (.string ByteArray.empty) 1 16 Tryz.underlying34 hi0 hz0 hz1 hz2 rfl (by decide) ((.slice (some ⟨w1.heap.size, 0, none⟩) 1 1)) 1 [encT R] rfl HOR.out #[.string (bs (b0 :: k0))] _ rfl rfl rfl (by intro u hu; simp at hu; subst hu; rfl) (by omega) (by decide) hzz ?_)
        intro v2 W2 hown2 hfr2
        have HS2 := Lib.hid (HS.out.put hown2 hfr2)
        clear HS HOR hown2 hfr2 hzz
        obtain ⟨A2, c2, hv2⟩ := row_slice HS2.out.1
        subst hv2
        have HS := HS2
        clear HS2
        try clear hW
        have hc := HC.out _ HS.out.2
        obtain ⟨d4, d5⟩ := hc
        clear c4 c5
        have c4 := d4
        have c5 := d5
        clear d4 d5
        go_wp2_with fail
        go_ret
        exact ⟨⟨_, _, rfl, HS.out.1⟩, HS.out.2⟩
      | succ l0 =>
        show Calls _ _ _ _ (RetT [R, (b0 :: k0), nm] w)
        obtain ⟨L, hL⟩ : ∃ L : Int, ((l0 + 1 : Nat) : Int) = L := ⟨_, rfl⟩
        rw [hL] at HC HP
        have hpos : (0 : Int) < L := by omega
        clear hL
        go_enter Tryz.func20, Tryz.ntmps20
        go_wp2_with fail
        refine HR.out.mono ?_
        rintro e w1 ⟨rfl, hb1⟩
        obtain ⟨W, hW⟩ : ∃ W, w1.alloc (.cells #[.string (bs R)] 9) = W := ⟨_, rfl⟩
        have hs1 : MdS w (.slice (some ⟨w1.heap.size, 0, none⟩) 1 1) [R] W := ⟨by
          rw [← hW]
          exact ⟨by simp, .inr ⟨w1.heap.size, 1, #[.string (bs R)], rfl, hb1.size, heap_alloc_new w1 _, Nat.le_refl _, by unfold maxLen; omega, rfl, rfl⟩⟩, by
          rw [← hW]; exact hb1.trans ((Below.refl _ _).alloc hb1.size _)⟩
        have HS := Lib.hid hs1
        have hc := HC.out W hs1.2
        obtain ⟨c4, c5⟩ := hc
        clear hs1 hb1
        have hemp := str_ne (s := bs (b0 :: k0)) (by simp)
        have hor : World.ownsRow _ w.heap.size 9 1 (.slice (some ⟨w1.heap.size, 0, none⟩) 1 1) 1 [encT R] := HS.out.1
        have HOR := Lib.hid hor
        have hzz := HS.out.2.size
        clear hor
        go_wp2_with (at_builtin; refine wpList_app_fr rfl _ _ 34 rfl w.heap.size 9 i0 (.string ByteArray.empty) 1 16 Tryz.underlying34 hi0 hz0 hz1 hz2 rfl (by decide) ((.slice (some ⟨w1.heap.size, 0, none⟩) 1 1)) 1 [encT R] rfl HOR.out #[.string (bs (b0 :: k0))] _ rfl rfl rfl (by intro u hu; simp at hu; subst hu; rfl) (by omega) (by decide) hzz ?_)
        intro v2 W2 hown2 hfr2
        have HS2 := Lib.hid (HS.out.put hown2 hfr2)
        clear HS HOR hown2 hfr2 hzz
        obtain ⟨A2, c2, hv2⟩ := row_slice HS2.out.1
        subst hv2
        have HS := HS2
        clear HS2
        try clear hW
        have hc := HC.out _ HS.out.2
        obtain ⟨d4, d5⟩ := hc
        clear c4 c5
        have c4 := d4
        have c5 := d5
        clear d4 d5
        go_wp2_with fail
        refine (HP.out _ HS.out.2).mono ?_
        rintro e w5 ⟨rfl, hb5⟩
        have HS5 := Lib.hid (show MdS w _ _ w5 from ⟨ownT_kept HS.out.1 fun g hg => hb5.block g (HS.out.1.lt g hg).2, HS.out.2.trans (hb5.mono HS.out.2.size)⟩)
        clear HS hb5 c4 c5
        have HS := HS5
        clear HS5
        have hor : World.ownsRow _ w.heap.size 9 1 (.slice A2 2 c2) 2 [encT R, encT (b0 :: k0)] := HS.out.1
        have HOR := Lib.hid hor
        have hzz := HS.out.2.size
        clear hor
        go_wp2_with (at_builtin; refine wpList_app_fr rfl _ _ 34 rfl w.heap.size 9 i0 (.string ByteArray.empty) 1 16 Tryz.underlying34 hi0 hz0 hz1 hz2 rfl (by decide) ((.slice A2 2 c2)) 2 [encT R, encT (b0 :: k0)] rfl HOR.out #[.string (bs nm)] _ rfl rfl rfl (by intro u hu; simp at hu; subst hu; rfl) (by omega) (by decide) hzz ?_)
        intro v2 W2 hown2 hfr2
        have HS2 := Lib.hid (HS.out.put hown2 hfr2)
        clear HS HOR hown2 hfr2 hzz
        obtain ⟨A2, c2, hv2⟩ := row_slice HS2.out.1
        subst hv2
        have HS := HS2
        clear HS2
        try clear hW
        go_wp2_with fail
        go_ret
        exact ⟨⟨_, _, rfl, HS.out.1⟩, HS.out.2⟩
    | false =>
      cases lim with
      | zero =>
        show Calls _ _ _ _ (RetT [R, [42]] w)
        go_enter Tryz.func20, Tryz.ntmps20
        go_wp2_with fail
        refine HR.out.mono ?_
        rintro e w1 ⟨rfl, hb1⟩
        obtain ⟨W, hW⟩ : ∃ W, w1.alloc (.cells #[.string (bs R)] 9) = W := ⟨_, rfl⟩
        have hs1 : MdS w (.slice (some ⟨w1.heap.size, 0, none⟩) 1 1) [R] W := ⟨by
          rw [← hW]
          exact ⟨by simp, .inr ⟨w1.heap.size, 1, #[.string (bs R)], rfl, hb1.size, heap_alloc_new w1 _, Nat.le_refl _, by unfold maxLen; omega, rfl, rfl⟩⟩, by
          rw [← hW]; exact hb1.trans ((Below.refl _ _).alloc hb1.size _)⟩
        have HS := Lib.hid hs1
        have hc := HC.out W hs1.2
        obtain ⟨c4, c5⟩ := hc
        clear hs1 hb1
        have hemp := str_ne (s := bs (b0 :: k0)) (by simp)
        have hor : World.ownsRow _ w.heap.size 9 1 (.slice (some ⟨w1.heap.size, 0, none⟩) 1 1) 1 [encT R] := HS.out.1
        have HOR := Lib.hid hor
        have hzz := HS.out.2.size
        clear hor
        go_wp2_with (at_builtin; refine wpList_app_fr rfl _ _ 34 rfl w.heap.size 9 i0 (.string ByteArray.empty) 1 16 Tryz.underlying34 hi0 hz0 hz1 hz2 rfl (by decide) ((.slice (some ⟨w1.heap.size, 0, none⟩) 1 1)) 1 [encT R] rfl HOR.out #[.string (bs [42])] _ rfl rfl rfl (by intro u hu; simp at hu; subst hu; rfl) (by omega) (by decide) hzz ?_)
        intro v2 W2 hown2 hfr2
        have HS2 := Lib.hid (HS.out.put hown2 hfr2)
        clear HS HOR hown2 hfr2 hzz
        obtain ⟨A2, c2, hv2⟩ := row_slice HS2.out.1
        subst hv2
        have HS := HS2
        clear HS2
        try clear hW
        have hc := HC.out _ HS.out.2
        obtain ⟨d4, d5⟩ := hc
        clear c4 c5
        have c4 := d4
        have c5 := d5
        clear d4 d5
        go_wp2_with fail
        go_ret
        exact ⟨⟨_, _, rfl, HS.out.1⟩, HS.out.2⟩
      | succ l0 =>
        show Calls _ _ _ _ (RetT [R, [42]] w)
        obtain ⟨L, hL⟩ : ∃ L : Int, ((l0 + 1 : Nat) : Int) = L := ⟨_, rfl⟩
        rw [hL] at HC HP
        have hpos : (0 : Int) < L := by omega
        clear hL
        go_enter Tryz.func20, Tryz.ntmps20
        go_wp2_with fail
        refine HR.out.mono ?_
        rintro e w1 ⟨rfl, hb1⟩
        obtain ⟨W, hW⟩ : ∃ W, w1.alloc (.cells #[.string (bs R)] 9) = W := ⟨_, rfl⟩
        have hs1 : MdS w (.slice (some ⟨w1.heap.size, 0, none⟩) 1 1) [R] W := ⟨by
          rw [← hW]
          exact ⟨by simp, .inr ⟨w1.heap.size, 1, #[.string (bs R)], rfl, hb1.size, heap_alloc_new w1 _, Nat.le_refl _, by unfold maxLen; omega, rfl, rfl⟩⟩, by
          rw [← hW]; exact hb1.trans ((Below.refl _ _).alloc hb1.size _)⟩
        have HS := Lib.hid hs1
        have hc := HC.out W hs1.2
        obtain ⟨c4, c5⟩ := hc
        clear hs1 hb1
        have hemp := str_ne (s := bs (b0 :: k0)) (by simp)
        have hor : World.ownsRow _ w.heap.size 9 1 (.slice (some ⟨w1.heap.size, 0, none⟩) 1 1) 1 [encT R] := HS.out.1
        have HOR := Lib.hid hor
        have hzz := HS.out.2.size
        clear hor
        go_wp2_with (at_builtin; refine wpList_app_fr rfl _ _ 34 rfl w.heap.size 9 i0 (.string ByteArray.empty) 1 16 Tryz.underlying34 hi0 hz0 hz1 hz2 rfl (by decide) ((.slice (some ⟨w1.heap.size, 0, none⟩) 1 1)) 1 [encT R] rfl HOR.out #[.string (bs [42])] _ rfl rfl rfl (by intro u hu; simp at hu; subst hu; rfl) (by omega) (by decide) hzz ?_)
        intro v2 W2 hown2 hfr2
        have HS2 := Lib.hid (HS.out.put hown2 hfr2)
        clear HS HOR hown2 hfr2 hzz
        obtain ⟨A2, c2, hv2⟩ := row_slice HS2.out.1
        subst hv2
        have HS := HS2
        clear HS2
        try clear hW
        have hc := HC.out _ HS.out.2
        obtain ⟨d4, d5⟩ := hc
        clear c4 c5
        have c4 := d4
        have c5 := d5
        clear d4 d5
        go_wp2_with fail
        go_ret
        exact ⟨⟨_, _, rfl, HS.out.1⟩, HS.out.2⟩
end Go.Proofs.YtmgnhbihfgpccaaGreatDoor
end
section
/- fold.Byte, fold.turns, cmp.Compare of bytes and numbers: what each answers, for every argument. -/
namespace Go.Proofs.YtmgnhbihfgpccaaGreatDoor
open Go.RowKit

/-- a byte, folded, as a number -/
def foldI (b : Int) : Int := if 65 ≤ b ∧ b ≤ 93 then b + 32 else if b = 126 then 94 else b
theorem foldI_up {b : Int} (h : 65 ≤ b) (h' : b ≤ 93) : foldI b = b + 32 := by rw [foldI, if_pos ⟨h, h'⟩]
theorem foldI_lo {b : Int} (h : b < 65) : foldI b = b := by rw [foldI, if_neg (by omega), if_neg (by omega)]
theorem foldI_hi {b : Int} (h : 93 < b) (h' : (b == 126) = false) : foldI b = b := by
  have := of_decide_eq_false h'
  rw [foldI, if_neg (by omega), if_neg (by omega)]
theorem foldI_bd (b : Int) (h0 : 0 ≤ b) (h1 : b ≤ 255) : 0 ≤ foldI b ∧ foldI b ≤ 255 := by
  unfold foldI; split
  · omega
  · split <;> omega

theorem byte_any (b : Int) (w : World) (h0 : 0 ≤ b) (h1 : b ≤ 255) :
    Calls Tryz.prog 142 #[.int .u8 b] w fun e w' => e = .returned (.int .u8 (foldI b)) ∧ w = w' := by
  by_cases ha : 65 ≤ b
  · by_cases hb : b ≤ 93
    · go_enter Tryz.func142, Tryz.ntmps142
      go_wp2
      go_ret
      exact ⟨ret_int (foldI_up ha hb).symm, rfl⟩
    · by_cases hc : b = 126
      · subst hc
        go_enter Tryz.func142, Tryz.ntmps142
        go_wp2
        go_ret
        exact ⟨ret_int (by simp [foldI]), rfl⟩
      · have hc' : (b == 126) = false := by simpa using hc
        go_enter Tryz.func142, Tryz.ntmps142
        go_wp2
        go_ret
        exact ⟨ret_int (foldI_hi (by omega) hc').symm, rfl⟩
  · have hc' : (b == 126) = false := by simp; omega
    go_enter Tryz.func142, Tryz.ntmps142
    go_wp2
    go_ret
    exact ⟨ret_int (foldI_lo (by omega)).symm, rfl⟩



/-- what compares two numbers -/
def cmpI (a b : Int) : Int := if a < b then -1 else if b < a then 1 else 0
theorem cmpI_lt {a b : Int} (h : a < b) : cmpI a b = -1 := by rw [cmpI, if_pos h]
theorem cmpI_gt {a b : Int} (h : b < a) : cmpI a b = 1 := by rw [cmpI, if_neg (by omega), if_pos h]
theorem cmpI_eq {a b : Int} (h : a = b) : cmpI a b = 0 := by rw [cmpI, if_neg (by omega), if_neg (by omega)]
theorem cmpI_bd (a b : Int) : -1 ≤ cmpI a b ∧ cmpI a b ≤ 1 := by
  unfold cmpI; split
  · omega
  · split <;> omega

theorem cmpByte_any (a b : Int) (w : World) :
    Calls Tryz.prog 141 #[.int .u8 a, .int .u8 b] w fun e w' => e = .returned (.int .i64 (cmpI a b)) ∧ w = w' := by
  by_cases h : a < b
  · go_enter Tryz.func141, Tryz.ntmps141
    go_wp2
    go_ret
    exact ⟨ret_int (cmpI_lt h).symm, rfl⟩
  · by_cases h' : b < a
    · go_enter Tryz.func141, Tryz.ntmps141
      go_wp2
      go_ret
      exact ⟨ret_int (cmpI_gt h').symm, rfl⟩
    · go_enter Tryz.func141, Tryz.ntmps141
      go_wp2
      go_ret
      exact ⟨ret_int (cmpI_eq (by omega)).symm, rfl⟩

theorem cmpInt_any (a b : Int) (w : World) :
    Calls Tryz.prog 69 #[.int .i64 a, .int .i64 b] w fun e w' => e = .returned (.int .i64 (cmpI a b)) ∧ w = w' := by
  by_cases h : a < b
  · go_enter Tryz.func69, Tryz.ntmps69
    go_wp2
    go_ret
    exact ⟨ret_int (cmpI_lt h).symm, rfl⟩
  · by_cases h' : b < a
    · go_enter Tryz.func69, Tryz.ntmps69
      go_wp2
      go_ret
      exact ⟨ret_int (cmpI_gt h').symm, rfl⟩
    · go_enter Tryz.func69, Tryz.ntmps69
      go_wp2
      go_ret
      exact ⟨ret_int (cmpI_eq (by omega)).symm, rfl⟩
/-- a byte, folded -/
def foldB (b : UInt8) : UInt8 := if 65 ≤ b ∧ b ≤ 93 then b + 32 else if b = 126 then 94 else b
theorem foldB_nat (b : UInt8) : foldI (b.toNat : Int) = ((foldB b).toNat : Int) := by
  have hb := b.toNat_lt
  unfold foldB foldI
  by_cases h : 65 ≤ b ∧ b ≤ 93
  · rw [if_pos h]
    simp only [UInt8.le_iff_toNat_le] at h
    have e1 : (65 : UInt8).toNat = 65 := rfl
    have e2 : (93 : UInt8).toNat = 93 := rfl
    rw [e1, e2] at h
    rw [if_pos (by omega), UInt8.toNat_add]
    have e3 : (32 : UInt8).toNat = 32 := rfl
    omega
  · rw [if_neg h]
    simp only [UInt8.le_iff_toNat_le] at h
    have e1 : (65 : UInt8).toNat = 65 := rfl
    have e2 : (93 : UInt8).toNat = 93 := rfl
    rw [e1, e2] at h
    rw [if_neg (by omega)]
    by_cases h2 : b = 126
    · subst h2; rfl
    · rw [if_neg h2, if_neg]
      intro e
      apply h2
      apply UInt8.toNat_inj.mp
      have : (126 : UInt8).toNat = 126 := rfl
      omega
theorem byte_u8 (c : UInt8) (w : World) :
    Calls Tryz.prog 142 #[.int .u8 ↑c.toNat] w fun e w' => e = .returned (.int .u8 ↑(foldB c).toNat) ∧ w = w' :=
  (byte_any _ w (u8_bd c).1 (u8_bd c).2).mono fun _ _ h => by rw [foldB_nat] at h; exact h
end Go.Proofs.YtmgnhbihfgpccaaGreatDoor
end
section
/- valid.kindOf: what a byte is, where the rows of bytes lie as they are laid. -/
namespace Go.Proofs.YtmgnhbihfgpccaaGreatDoor
open Go.RowKit

set_option maxRecDepth 100000 in
theorem idxByte0 (s : ByteArray) (c : Int) (w : World) :
    Calls Tryz.prog 145 #[.string s, .int .u8 c] w fun e w' => e = .returned (.int .i64 (Lib.indexByte s.data.toList c.toNat.toUInt8)) ∧ w = w' := by
  go_enter Tryz.func145, Tryz.ntmps145
  go_wp2
  rw [run_callFunc_extern Tryz.func176 (by kernel_rfl) (by kernel_rfl) (by kernel_rfl) (e := Extern.BytealgIndexByte.indexByte) (by kernel_rfl), Lib.run_indexByteString]
  simp only [Result.andThen]
  rw [Oper.upon_value]
  go_wp2
  go_ret
  exact ⟨rfl, rfl⟩
theorem idxByte (s : ByteArray) (c : Int) (w : World) :
    Calls Tryz.prog 116 #[.string s, .int .u8 c] w fun e w' => e = .returned (.int .i64 (Lib.indexByte s.data.toList c.toNat.toUInt8)) ∧ w = w' := by
  go_enter Tryz.func116, Tryz.ntmps116
  go_wp2_with (go_at_call 145; refine (idxByte0 _ _ _).mono ?_; rintro e w' ⟨rfl, rfl⟩)
  go_ret
  exact ⟨rfl, rfl⟩

/-- the rows of bytes, as they are laid -/
def laidRow (i : Nat) : List UInt8 := ([[65, 66, 67, 68, 69, 70, 71, 72, 73, 74, 75, 76, 77, 78, 79, 80, 81, 82, 83, 84, 85, 86, 87, 88, 89, 90, 97, 98, 99, 100, 101, 102, 103, 104, 105, 106, 107, 108, 109, 110, 111, 112, 113, 114, 115, 116, 117, 118, 119, 120, 121, 122], [48, 49, 50, 51, 52, 53, 54, 55, 56, 57], [91, 93, 92, 95, 94, 123, 124, 125, 96], [45], [46], [58], [44], [33, 64, 42, 63], [0, 13, 10], [7], [32]] : List (List UInt8)).getD i []
def Rowed (w : World) : Prop := ∀ i, i < 11 → ∃ s : ByteArray, w.cell? ⟨1, i, none⟩ = some (.string s) ∧ s.data.toList = laidRow i

/-- what a byte is, by the first rows -/
def kAcc (b : UInt8) : Nat → Int
  | 0 => 0
  | k + 1 => if 0 ≤ Lib.indexByte (laidRow k) b then bits .or .i64 (kAcc b k) (2 ^ k) else kAcc b k

theorem kAcc_yes {b : UInt8} {k : Nat} (hk : k < 11) (h : 0 ≤ Lib.indexByte (laidRow k) b) : bits .or .i64 (kAcc b k) (wrap64 (2 ^ k)) = kAcc b (k + 1) := by
  have e : wrap64 (2 ^ k) = 2 ^ k := by
    rcases (by omega : k = 0 ∨ k = 1 ∨ k = 2 ∨ k = 3 ∨ k = 4 ∨ k = 5 ∨ k = 6 ∨ k = 7 ∨ k = 8 ∨ k = 9 ∨ k = 10) with rfl|rfl|rfl|rfl|rfl|rfl|rfl|rfl|rfl|rfl|rfl <;> decide +kernel
  rw [e, kAcc, if_pos h]
theorem kAcc_no {b : UInt8} {k : Nat} (h : Lib.indexByte (laidRow k) b < 0) : kAcc b k = kAcc b (k + 1) := by
  rw [kAcc, if_neg (by omega)]

set_option maxHeartbeats 1000000 in
theorem kind_any (b : UInt8) (w : World) (hr : Rowed w) :
    Calls Tryz.prog 129 #[.int .u8 ↑b.toNat] w fun e w' => e = .returned (.int .i64 (kAcc b 11)) ∧ w = w' := by
  go_enter Tryz.func129, Tryz.ntmps129
  go_wp2_with fail
  go_loopw [3, 4, 5] (fun v _ i wr => ∃ k : Nat, k ≤ 11 ∧ i = .int .i64 k ∧ v = .int .i64 (kAcc b k) ∧ wr = w) (fun _ _ i _ => 11 - (Go.RowKit.intOf i).toNat)
  case atStart => exact ⟨0, by omega, rfl, rfl, rfl⟩
  case round =>
    obtain ⟨k, hk, rfl, rfl, rfl⟩ := hrel
    by_cases hlt : k < 11
    · obtain ⟨s, hs, hl⟩ := hr k hlt
      go_wp2_with (go_at_call 116; refine (idxByte _ _ _).mono ?_; rintro e w' ⟨rfl, rfl⟩)
      all_goals rename_i _h0 hx
      all_goals try (rw [show ((b.toNat : Int)).toNat.toUInt8 = b from by simp] at hx)
      all_goals refine ⟨⟨k + 1, by omega, by push_cast; rfl, ?_, by simp⟩, by simp only [Go.RowKit.intOf]; omega⟩
      all_goals first | rw [kAcc_yes hlt hx] | rw [kAcc_no hx]
    · obtain rfl : k = 11 := by omega
      go_wp2_with fail
      go_ret
      exact ⟨rfl, rfl⟩
end Go.Proofs.YtmgnhbihfgpccaaGreatDoor
end
section
/- valid.sized, only, none, plain, and the answers' in, Letter, Digit, Sign: what each tells. -/
namespace Go.Proofs.YtmgnhbihfgpccaaGreatDoor
open Go.RowKit

/-- all bytes of a text, with their places, are so -/
noncomputable def allI (s : ByteArray) (p : Nat → UInt8 → Bool) : Bool := @decide (∀ i (h : i < s.size), p i s[i] = true) (Classical.propDecidable _)
theorem allI_iff {s : ByteArray} {p : Nat → UInt8 → Bool} : allI s p = true ↔ ∀ i (h : i < s.size), p i s[i] = true := by
  unfold allI; exact @decide_eq_true_iff _ (Classical.propDecidable _)
theorem allI_no {s : ByteArray} {p : Nat → UInt8 → Bool} {k : Nat} (h : k < s.size) (hp : p k s[k] = false) : false = allI s p := by
  cases e : allI s p with
  | false => rfl
  | true => rw [allI_iff.1 e k h] at hp; cases hp
theorem allI_yes {s : ByteArray} {p : Nat → UInt8 → Bool} {k : Nat} (hk : s.size ≤ k) (h : ∀ i, i < k → ∀ (hi : i < s.size), p i s[i] = true) : true = allI s p :=
  (allI_iff.2 fun i hi => h i (by omega) hi).symm
theorem all_step {s : ByteArray} {p : Nat → UInt8 → Bool} {k : Nat} (h : ∀ i, i < k → ∀ (hi : i < s.size), p i s[i] = true) (hk : k < s.size) (hp : p k s[k] = true) :
    ∀ i, i < k + 1 → ∀ (hi : i < s.size), p i s[i] = true := by
  intro i h1 h2
  by_cases e : i = k
  · subst e; exact hp
  · exact h i (by omega) h2

/-- is a byte of one of some kinds? -/
def isK (kinds : Int) (b : UInt8) : Bool := !(bits .and .i64 (kAcc b 11) kinds == 0)



set_option maxHeartbeats 1000000 in
theorem none_any (s : ByteArray) (kinds : Int) (w : World) (hs : s.size ≤ 1000000) (hr : Rowed w) :
    Calls Tryz.prog 105 #[.string s, .int .i64 kinds] w fun e w' => e = .returned (.bool (allI s fun _ b => !isK kinds b)) ∧ w = w' := by
  go_enter Tryz.func105, Tryz.ntmps105
  go_wp2_with fail
  go_loopw [8] (fun i wr => ∃ k : Nat, k ≤ s.size ∧ i = .int .i64 k ∧ (∀ i, i < k → ∀ (hi : i < s.size), (fun _ b => !isK kinds b) i s[i] = true) ∧ wr = w) (fun i _ => s.size - (Go.RowKit.intOf i).toNat)
  case atStart => exact ⟨0, Nat.zero_le _, rfl, fun _ h => absurd h (Nat.not_lt_zero _), rfl⟩
  case round =>
    obtain ⟨k, hk, rfl, hq, rfl⟩ := hrel
    have Hq := Lib.hid hq
    clear hq
    by_cases hlt : k < s.size
    · cases hb : (bits .and .i64 (kAcc s[k] 11) kinds == 0)
      · go_wp2_with (go_at_call 129; refine (kind_any _ _ (by assumption)).mono ?_; rintro e w' ⟨rfl, rfl⟩)
        go_ret
        exact ⟨ret_bool (allI_no hlt (p := fun _ b => !isK kinds b) (by simp only [isK, hb]; rfl)), rfl⟩
      · go_wp2_with (go_at_call 129; refine (kind_any _ _ (by assumption)).mono ?_; rintro e w' ⟨rfl, rfl⟩)
        exact ⟨⟨k + 1, by omega, by push_cast; rfl, all_step (p := fun _ b => !isK kinds b) Hq.out hlt (by simp only [isK, hb]; rfl), by simp⟩, by simp only [Go.RowKit.intOf]; omega⟩
    · obtain rfl : k = s.size := by omega
      go_wp2_with fail
      go_ret
      exact ⟨ret_bool (allI_yes (Nat.le_refl _) Hq.out), rfl⟩

/-- can a byte be seen? -/
def seen (b : UInt8) : Bool := decide (33 ≤ b.toNat ∧ b.toNat ≤ 126)
set_option maxHeartbeats 1000000 in
theorem plain_any (s : ByteArray) (w : World) (hs : s.size ≤ 1000000) :
    Calls Tryz.prog 104 #[.string s] w fun e w' => e = .returned (.bool (allI s fun _ b => seen b)) ∧ w = w' := by
  go_enter Tryz.func104, Tryz.ntmps104
  go_wp2_with fail
  go_loopw [6] (fun i wr => ∃ k : Nat, k ≤ s.size ∧ i = .int .i64 k ∧ (∀ i, i < k → ∀ (hi : i < s.size), (fun _ b => seen b) i s[i] = true) ∧ wr = w) (fun i _ => s.size - (Go.RowKit.intOf i).toNat)
  case atStart => exact ⟨0, Nat.zero_le _, rfl, fun _ h => absurd h (Nat.not_lt_zero _), rfl⟩
  case round =>
    obtain ⟨k, hk, rfl, hq, rfl⟩ := hrel
    have Hq := Lib.hid hq
    clear hq
    by_cases hlt : k < s.size
    · by_cases hb : 33 ≤ s[k].toNat
      · by_cases hb2 : s[k].toNat ≤ 126
        · go_wp2_with fail
          exact ⟨⟨k + 1, by omega, by push_cast; rfl, all_step Hq.out hlt (decide_eq_true ⟨hb, hb2⟩), by simp⟩, by simp only [Go.RowKit.intOf]; omega⟩
        · go_wp2_with fail
          go_ret
          exact ⟨ret_bool (allI_no hlt (decide_eq_false fun h => hb2 h.2)), rfl⟩
      · go_wp2_with fail
        go_ret
        exact ⟨ret_bool (allI_no hlt (decide_eq_false fun h => hb h.1)), rfl⟩
    · obtain rfl : k = s.size := by omega
      go_wp2_with fail
      go_ret
      exact ⟨ret_bool (allI_yes (Nat.le_refl _) Hq.out), rfl⟩

def sizedB (n : Nat) (a b : Int) : Bool := decide (a ≤ n ∧ (n : Int) ≤ b)
theorem sized_any (s : ByteArray) (a b : Int) (w : World) :
    Calls Tryz.prog 103 #[.string s, .int .i64 a, .int .i64 b] w fun e w' => e = .returned (.bool (sizedB s.size a b)) ∧ w = w' := by
  by_cases h : a ≤ s.size
  · go_enter Tryz.func103, Tryz.ntmps103
    go_wp2_with fail
    go_ret
    exact ⟨ret_bool (by unfold sizedB; rw [Bool.eq_iff_iff]; simp; try omega), rfl⟩
  · go_enter Tryz.func103, Tryz.ntmps103
    go_wp2_with fail
    go_ret
    exact ⟨ret_bool (by unfold sizedB; rw [Bool.eq_iff_iff]; simp; try omega), rfl⟩
/-- is a byte one of a row? -/
def inB (l : List UInt8) (b : UInt8) : Bool := l.contains b
theorem at_mem (s : ByteArray) (k : Nat) (h : k < s.size) : s[k] ∈ s.data.toList := by
  have : s[k] = s.data.toList[k]'(by simpa using h) := rfl
  rw [this]; exact List.getElem_mem _
theorem mem_at {s : ByteArray} {b : UInt8} (h : b ∈ s.data.toList) : ∃ k, ∃ h : k < s.size, s[k] = b := by
  obtain ⟨k, hk, e⟩ := List.mem_iff_getElem.1 h
  exact ⟨k, by simpa using hk, e⟩
theorem inB_yes {s : ByteArray} {b : UInt8} {k : Nat} (h : k < s.size) (e : s[k] = b) : true = inB s.data.toList b := by
  unfold inB; symm; rw [List.contains_iff_mem, ← e]; exact at_mem s k h
theorem inB_no {s : ByteArray} {b : UInt8} {k : Nat} (hk : s.size ≤ k) (h : ∀ i, i < k → ∀ (hi : i < s.size), s[i] ≠ b) : false = inB s.data.toList b := by
  unfold inB; symm
  rw [Bool.eq_false_iff, ne_eq, List.contains_iff_mem]
  intro hm
  obtain ⟨i, hi, e⟩ := mem_at hm
  exact h i (by omega) hi e



def letterB (b : UInt8) : Bool := decide ((65 ≤ b.toNat ∧ b.toNat ≤ 90) ∨ (97 ≤ b.toNat ∧ b.toNat ≤ 122))
def digitB (b : UInt8) : Bool := decide (48 ≤ b.toNat ∧ b.toNat ≤ 57)
def signB (b : UInt8) : Bool := decide (b.toNat = 96) || inB [91, 93, 92, 95, 94, 123, 124, 125] b

theorem digit_any (b : UInt8) (w : World) :
    Calls Tryz.prog 95 #[.int .u8 ↑b.toNat] w fun e w' => e = .returned (.bool (digitB b)) ∧ w = w' := by
  go_enter Tryz.func95, Tryz.ntmps95
  go_wp2_with fail
  all_goals go_ret
  all_goals exact ⟨ret_bool (by unfold digitB; rw [Bool.eq_iff_iff]; simp; omega), rfl⟩
end Go.Proofs.YtmgnhbihfgpccaaGreatDoor
end
section
/- What the kinds of bytes are, byte by byte. -/
namespace Go.Proofs.YtmgnhbihfgpccaaGreatDoor
open Go.RowKit

theorem all256 {p : UInt8 → Bool} (h : ((List.range 256).all fun n => p n.toUInt8) = true) (b : UInt8) : p b = true := by
  have := List.all_eq_true.1 h b.toNat (List.mem_range.2 b.toNat_lt)
  simpa using this
theorem isK5 (b : UInt8) : isK 5 b = (letterB b || signB b) := by
  have := all256 (p := fun b => isK 5 b == (letterB b || signB b)) (by kernel_rfl) b
  simpa using this
theorem isK15 (b : UInt8) : isK 15 b = (letterB b || signB b || digitB b || decide (b.toNat = 45)) := by
  have := all256 (p := fun b => isK 15 b == (letterB b || signB b || digitB b || decide (b.toNat = 45))) (by kernel_rfl) b
  simpa using this
/-- may a byte stand in a channel? -/
def chanB (b : UInt8) : Bool := !(decide (b.toNat = 0 ∨ b.toNat = 7 ∨ b.toNat = 10 ∨ b.toNat = 13 ∨ b.toNat = 32 ∨ b.toNat = 44 ∨ b.toNat = 58))
theorem isK1888 (b : UInt8) : isK 1888 b = !chanB b := by
  have := all256 (p := fun b => isK 1888 b == !chanB b) (by kernel_rfl) b
  simpa using this
theorem isK160 (b : UInt8) : isK 160 b = inB [33, 64, 42, 63, 58] b := by
  have := all256 (p := fun b => isK 160 b == inB [33, 64, 42, 63, 58] b) (by kernel_rfl) b
  simpa using this

end Go.Proofs.YtmgnhbihfgpccaaGreatDoor
end
section
/- valid.Nick, Channel, User and the answers' ones: both tell the same of any text. -/
namespace Go.Proofs.YtmgnhbihfgpccaaGreatDoor
open Go.RowKit

noncomputable def dec (p : Prop) : Bool := @decide p (Classical.propDecidable _)
theorem dec_iff {p : Prop} : dec p = true ↔ p := by unfold dec; exact @decide_eq_true_iff _ (Classical.propDecidable _)
theorem dec_yes {p : Prop} (h : p) : true = dec p := (dec_iff.2 h).symm
theorem dec_no {p : Prop} (h : ¬ p) : false = dec p := by
  cases e : dec p with
  | false => rfl
  | true => exact absurd (dec_iff.1 e) h
theorem dec_of {b : Bool} {p : Prop} (h : b = true ↔ p) : b = dec p := by
  rw [Bool.eq_iff_iff, h, dec_iff]

theorem sized_yes (s : ByteArray) (a b : Int) (w : World) (h : a ≤ s.size ∧ (s.size : Int) ≤ b) :
    Calls Tryz.prog 103 #[.string s, .int .i64 a, .int .i64 b] w fun e w' => e = .returned (.bool true) ∧ w = w' :=
  (sized_any s a b w).mono fun _ _ hh => by rw [show sizedB s.size a b = true from decide_eq_true h] at hh; exact hh
theorem sized_no (s : ByteArray) (a b : Int) (w : World) (h : ¬ (a ≤ s.size ∧ (s.size : Int) ≤ b)) :
    Calls Tryz.prog 103 #[.string s, .int .i64 a, .int .i64 b] w fun e w' => e = .returned (.bool false) ∧ w = w' :=
  (sized_any s a b w).mono fun _ _ hh => by rw [show sizedB s.size a b = false from decide_eq_false h] at hh; exact hh

/-- may a byte stand so in a nickname? -/
def nickAt (i : Nat) (b : UInt8) : Bool := letterB b || signB b || (decide (i ≠ 0) && (digitB b || decide (b.toNat = 45)))
def NickP (s : ByteArray) : Prop := (1 ≤ s.size ∧ s.size ≤ 16) ∧ ∀ i (h : i < s.size), nickAt i s[i] = true
def ChanP (s : ByteArray) : Prop := (2 ≤ s.size ∧ s.size ≤ 50) ∧ (∃ h : 0 < s.size, s[0].toNat = 35) ∧ ∀ i (h : i < s.size), chanB s[i] = true
def UserP (s : ByteArray) : Prop := (1 ≤ s.size ∧ s.size ≤ 10) ∧ ∀ i (h : i < s.size), (seen s[i] && !inB [33, 64, 42, 63, 58] s[i]) = true

theorem extract_one (s : ByteArray) (h : 1 ≤ s.size) (p : Nat → UInt8 → Bool) : allI (s.extract 0 1) p = p 0 s[0] := by
  rw [Bool.eq_iff_iff, allI_iff]
  have hs : (s.extract 0 1).size = 1 := by simp [ByteArray.size_extract]; omega
  have e : ∀ i (hi : i < (s.extract 0 1).size), (s.extract 0 1)[i] = s[0] := by
    intro i hi
    obtain rfl : i = 0 := by omega
    simp [ByteArray.getElem_extract]
  constructor
  · intro hh; have := hh 0 (by omega); rwa [e] at this
  · intro hh i hi; rw [e]; obtain rfl : i = 0 := by omega
    exact hh











end Go.Proofs.YtmgnhbihfgpccaaGreatDoor
end
