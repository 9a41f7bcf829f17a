/- Rows of texts of the call's own; slices.Values at texts. -/
import Derived.Test.YtadbpgkhenbpfaaTellsF
import Derived.Test.YtadbpgkhenbpfaaAppU
import Derived.Test.YtadbpgkhenbpfaaScope
import Derived.Lib.Hide
import Derived.Test.YtadbpgkhenbpfaaChecked
import Derived.Sort.LoopGhostIn
import Derived.Stop.RegionWithIn
import Derived.LoopIn
import Derived.Deep.LoopGhost
namespace Go.Proofs.Ytadbpgkhenbpfaa
set_option linter.unusedVariables false
set_option linter.unusedSimpArgs false
open Go Go.RowKit Go.Lib
attribute [local go_sem] Oper.semAt_some

/-- a text in a cell, as it is told -/
def encT (x : List UInt8) : Value := .string (bs x)
def encL (x : List UInt8) : Array Value := #[.string (bs x)]
def OwnT (base : Nat) (W : World) (v : Value) (xs : List (List UInt8)) : Prop := W.ownsRow base 9 1 v xs.length (xs.map encT)
theorem Try.infoT : (Try.prog.info? 9).map (fun i => (i.zero, i.size, i.bytes)) = some (some (.string ByteArray.empty), 1, 16) := by kernel_rfl
theorem ownT_kept {base : Nat} {w W : World} {v : Value} {xs : List (List UInt8)} (h : OwnT base w v xs) (hs : ∀ g, v.ownBlock = some g → W.heap[g]? = w.heap[g]?) : OwnT base W v xs := row_same h hs
theorem ownT_nil (base : Nat) (w : World) : OwnT base w (.slice none 0 0) [] := World.ownsRow_nil _ _ _ _
theorem ownT_base {W : World} {base base' : Nat} {v : Value} {xs : List (List UInt8)} (h : OwnT base W v xs) (hb : base' ≤ base) : OwnT base' W v xs := by
  obtain ⟨h1, h2⟩ := h
  refine ⟨h1, ?_⟩
  rcases h2 with h2 | ⟨g, cap, cur, h3, h4, h5⟩
  · exact .inl h2
  · exact .inr ⟨g, cap, cur, h3, by omega, h5⟩
theorem ownT_snoc {base : Nat} {w : World} {v : Value} {xs : List (List UInt8)} {x : List UInt8} (h : w.ownsRow base 9 1 v (xs.length + 1) (xs.map encT ++ [encT x])) : OwnT base w v (xs ++ [x]) := by
  unfold OwnT; rw [List.length_append, List.map_append]; exact h
/-- texts as they are read -/
def ReadsT (w : World) (A : Option Addr) (xs : List (List UInt8)) : Prop := 0 < xs.length → ∃ g o, A = some ⟨g, o, none⟩ ∧ g < w.heap.size ∧ ∀ j (h : j < xs.length), w.cell? ⟨g, o + j, none⟩ = some (.string (bs xs[j]))
theorem reads_ownT {base : Nat} {w : World} {A : Option Addr} {n c : Nat} {xs : List (List UInt8)} (h : OwnT base w (.slice A n c) xs) : ReadsT w A xs := fun h0 => by
  have h' := h
  rcases h.2 with ⟨h1, h2⟩ | ⟨g, cap, cur, h1, h3, h4, h5, _, h6, h7⟩
  · omega
  · injection h1 with q1 q2 q3
    subst q1
    refine ⟨g, 0, rfl, blk_lt h4, fun j hj => ?_⟩
    have := h'.cells (g := g) rfl j (encT xs[j]) (by simp [hj])
    have hadd : (⟨g, 0, none⟩ : Addr).add j = ⟨g, 0 + j, none⟩ := by
      unfold Addr.add
      split
      · simp_all
      · rfl
    rw [hadd] at this
    exact this
theorem ReadsT.below {w W : World} {A : Option Addr} {xs : List (List UInt8)} (h : ReadsT w A xs) {n : Nat} (hb : Below n w W) (hn : w.heap.size ≤ n := by exact Nat.le_refl _) : ReadsT W A xs := fun h0 => by
  obtain ⟨g, o, rfl, hg, h1⟩ := h h0
  exact ⟨g, o, rfl, Nat.lt_of_lt_of_le hg hb.size, fun j hj => (World.cell?_of_block (w := w) (w' := W) (a := ⟨g, o + j, none⟩) (hb.block g (by omega))).trans (h1 j hj)⟩
/-- the blocks of a tale -/
def rowYT (B : Nat) (v : Value) : Nat → Prop := fun b => b = B ∨ v.ownBlock = some b
set_option maxRecDepth 100000 in
set_option maxHeartbeats 4000000 in
theorem values_seqT (base B : Nat) (v : Value) (xs : List (List UInt8)) (w : World) (hxs : xs.length ≤ 1000000) (hb : w.heap[B]? = some (.cells #[v] 31 (0, 0))) (hr : OwnT base w v xs) :
    SeqF Try.prog 29 #[.pointer (some ⟨B, 0, none⟩)] encL (rowYT B v) xs w := fun l J Jx X V hs hYl hX hJ hJx hY h0 => by
  have hbV := (hs B (.inl rfl)).trans hb
  have hrV : OwnT base V v xs := ownT_kept hr fun g hg => hs g (.inr hg)
  obtain ⟨A, c, rfl⟩ := row_slice hr
  have c0 : V.cell? ⟨B, 0, none⟩ = some (.slice A xs.length c) := (blk_cell hbV 0).trans rfl
  have HR := Lib.hid (reads_ownT hrV)
  have HO := Lib.hid hrV
  have HY := Lib.hid hY
  have HX := Lib.hid hX
  have h00 : Hid (∃ X1, GrowX X X1 V V ∧ Fr X V V ∧ J [] X1 V) := ⟨X, GrowX.refl fun k hk => (hX k hk).1, Fr.refl _ _, h0⟩
  clear hb hr hs hrV hbV hY hX h0 hJ hJx hYl
  refine (callsIn_wide (n := 20)).1 ?_
  refine callsIn_of_wp Try.func29 rfl trivial ?_ rfl
  simp only [Try.ntmps29, List.size_toArray, List.length_cons, List.length_nil, Nat.reduceAdd, Nat.reduceSub, Array.replicate_succ, Array.replicate_zero, List.push_toArray, List.append_toArray, List.nil_append, List.cons_append]
  gi_wp2
  gi_loopw [7] (fun c1 wr => ∃ k : Nat, c1 = .int .i64 k ∧ k ≤ xs.length ∧ Hid (∃ X1, GrowX X X1 V wr ∧ Fr X V wr ∧ J (xs.take k) X1 wr)) (fun c1 _ => xs.length - (intOf c1).toNat)
  case atStart => exact ⟨0, rfl, Nat.zero_le _, h00⟩
  case round =>
    obtain ⟨k, rfl, hk, HJ⟩ := hrel
    clear h00
    obtain ⟨X1, hg1, hf1, hj1⟩ := HJ.out
    by_cases hlt : k < xs.length
    · obtain ⟨g, o, rfl, hg, hcell⟩ := HR.out (by omega)
      obtain ⟨x, hx⟩ : ∃ x, xs[k] = x := ⟨_, rfl⟩
      have hgY : rowYT B (.slice (some ⟨g, o, none⟩) xs.length c) g := by
        rcases HO.out.2 with ⟨e, _⟩ | ⟨g2, cap, cur, e, _⟩
        · cases e
        · cases e; exact .inr rfl
      have e0 : wr.cell? ⟨g, o + k, none⟩ = some (.string (bs x)) := by
        rw [hf1.cell (p := ⟨g, o + k, none⟩) hg (fun e => (HX.out g e).2 hgY), hcell k hlt, hx]
      have hsp : xs.take k ++ x :: xs.drop (k + 1) = xs := by rw [← hx, ← List.drop_eq_getElem_cons hlt]; exact List.take_append_drop k xs
      have htk : xs.take (k + 1) = xs.take k ++ [x] := by rw [List.take_succ_eq_append_getElem hlt, hx]
      have hyy := HY.out (xs.take k) x (xs.drop (k + 1)) X1 wr hsp hg1 hj1 hf1
      obtain ⟨fn, tmps, assign, body, hy, hR⟩ := hyy
      dsimp only [encL] at hy
      have HT := Lib.hid (And.intro htk (And.intro hsp (And.intro hg1 hf1)))
      clear hx htk hsp hg hcell hg1 hf1 hj1 hgY
      gi_wp2_with fail
      refine (round_wide (.inl rfl) hR).mono ?_
      rintro e W3 ⟨X2, g2, f2, (⟨rfl, hJ3⟩ | ⟨rfl, hJx3⟩)⟩
      · obtain ⟨htk, hsp, hg1, hf1⟩ := HT.out
        have hN : Hid (∃ X1, GrowX X X1 V W3 ∧ Fr X V W3 ∧ J (xs.take (k + 1)) X1 W3) := ⟨X2, hg1.trans g2 hf1.size, hf1.trans3 f2 fun k hk e => (hg1 k e).2 hk, by rw [htk]; exact hJ3⟩
        clear htk hsp hg1 hf1 g2 f2 hJ3 hR hy
        gi_wp2_with fail
        go_roundw
        case rel => exact ⟨k + 1, by go_num, by omega, hN⟩
        case measure => simp [intOf]; omega
      · clear hR hy
        gi_wp2_with fail
        refine bodyPost_ret (results_none rfl _ _ _) rfl ?_
        obtain ⟨htk, hsp, hg1, hf1⟩ := HT.out
        exact ⟨⟨_, rfl⟩, X2, hg1.trans g2 hf1.size, hf1.trans3 f2 fun k hk e => (hg1 k e).2 hk, .inr ⟨_, xs.drop (k + 1), by simpa using hsp, hJx3⟩⟩
    · obtain rfl : k = xs.length := by omega
      rw [List.take_length] at hj1
      have HQ := Lib.hid (And.intro hg1 (And.intro hf1 hj1))
      clear hg1 hf1 hj1
      gi_wp2_with fail
      go_end0
      obtain ⟨hg1, hf1, hj1⟩ := HQ.out
      exact ⟨⟨_, rfl⟩, X1, hg1, hf1, .inl hj1⟩
/-- what tells xs: a tale, its box, the value in it -/
def TaleT (base : Nat) (w : World) (F : Value) (xs : List (List UInt8)) : Prop := ∃ B v, base ≤ B ∧ F = .func (.func 29) #[] #[.pointer (some ⟨B, 0, none⟩)] ∧ w.heap[B]? = some (.cells #[v] 31 (0, 0)) ∧ v.ownBlock ≠ some B ∧ OwnT base w v xs
def ValsT (v : Value) (w : World) (e : Ending) (w' : World) : Prop :=
  e = .returned (.func (.func 29) #[] #[.pointer (some ⟨w.heap.size, 0, none⟩)]) ∧ w'.heap[w.heap.size]? = some (.cells #[v] 31 (0, 0)) ∧ Below w.heap.size w w'
theorem values_callsT (A : Option Addr) (l c : Nat) (w : World) : Calls Try.prog 24 #[.slice A l c] w (ValsT (.slice A l c) w) := by
  go_enter Try.func24, Try.ntmps24
  go_wp2_with fail
  go_ret
  exact ⟨rfl, heap_alloc_new _ _, (Below.refl _ _).alloc (Nat.le_refl _) _⟩
theorem tale_ofT {base : Nat} {xs : List (List UInt8)} {w w1 : World} {v : Value} {e : Ending} (hb : base ≤ w.heap.size) (h1 : OwnT base w v xs) (h3 : ValsT v w e w1) : ∃ F, e = .returned F ∧ TaleT base w1 F xs ∧ Below w.heap.size w w1 := by
  obtain ⟨rfl, h4, h5⟩ := h3
  refine ⟨_, rfl, ⟨w.heap.size, v, hb, rfl, h4, fun e => ?_, ownT_kept h1 fun g hg => h5.block g (h1.lt g hg).2⟩, h5⟩
  have := (h1.lt _ e).2; omega
theorem tellsT_tale {base : Nat} {w : World} {F : Value} {xs : List (List UInt8)} (h : TaleT base w F xs) (hl : xs.length ≤ 1000000) : ∃ Y, (∀ b, Y b → base ≤ b) ∧ TellsF Try.prog encL w F Y xs := by
  obtain ⟨B, v, h1, rfl, h3, h4, h5⟩ := h
  refine ⟨rowYT B v, fun b hb => ?_, _, _, rfl, values_seqT base B v xs w hl h3 h5, fun b hb => ?_, enters_of Try.func29 (by kernel_rfl) rfl⟩
  · rcases hb with rfl | hb
    · exact h1
    · exact (h5.lt b hb).1
  · rcases hb with rfl | hb
    · exact blk_lt h3
    · exact (h5.lt b hb).2
end Go.Proofs.Ytadbpgkhenbpfaa
