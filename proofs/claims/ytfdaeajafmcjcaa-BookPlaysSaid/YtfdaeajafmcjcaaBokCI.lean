/- Layer 2: rows of entries of a book of int; told, as a function that tells a known row. -/
import Derived.Test.YtfdaeajafmcjcaaBokBI
import Derived.Test.YtfdaeajafmcjcaaRowK
namespace Go.Proofs.Ytfdaeajafmcjcaa
set_option linter.unusedVariables false
set_option linter.unusedSimpArgs false
open Go Go.RowKit Go.Maps Go.Sort Go.Shelf Go.Lib
attribute [local go_sem] Oper.semAt_some

theorem Try.infoEI : (Try.prog.info? 70).map (fun i => (i.zero, i.size, i.bytes)) = some (some (valEI zeroEI), 3, 40) := by kernel_rfl
instance : Inhabited (Ent VI) := ⟨zeroEI⟩
def encEI (e : Ent VI) : List Value := [.string e.name, .string (bs e.fold), thVI e.thing]
def encPI (e : Ent VI) : Array Value := #[.string e.name, thVI e.thing]
/-- a row of entries of the call's own -/
def OwnEI (base : Nat) (W : World) (v : Value) (xs : List (Ent VI)) : Prop := W.ownsRow base 70 3 v xs.length (xs.flatMap encEI)
theorem ownEI_nil (base : Nat) (w : World) : OwnEI base w (.slice none 0 0) [] := World.ownsRow_nil _ _ _ _
theorem ownEI_kept {base : Nat} {w W : World} {v : Value} {xs : List (Ent VI)} (h : OwnEI base w v xs) (hs : ∀ g, v.ownBlock = some g → W.heap[g]? = w.heap[g]?) : OwnEI base W v xs := row_same h hs
theorem ownEI_snoc {base : Nat} {w : World} {v : Value} {xs : List (Ent VI)} {x : Ent VI} (h : w.ownsRow base 70 3 v (xs.length + 1) (xs.flatMap encEI ++ encEI x)) : OwnEI base w v (xs ++ [x]) := by
  unfold OwnEI; rw [List.length_append, List.flatMap_append]; simpa using h
theorem ownEI_base {W : World} {base base' : Nat} {v : Value} {xs : List (Ent VI)} (h : OwnEI base W v xs) (hb : base' ≤ base) : OwnEI base' W v xs := by
  obtain ⟨h1, h2⟩ := h
  refine ⟨h1, ?_⟩
  rcases h2 with h2 | ⟨g, cap, cur, h3, h4, h5⟩
  · exact .inl h2
  · exact .inr ⟨g, cap, cur, h3, by omega, h5⟩
def ReadsEI (w : World) (A : Option Addr) (xs : List (Ent VI)) : Prop := 0 < xs.length → ∃ g o, A = some ⟨g, o, none⟩ ∧ g < w.heap.size ∧ ∀ j (h : j < xs.length), w.cell? ⟨g, o + j * 3, none⟩ = some (.string xs[j].name) ∧ w.cell? ⟨g, o + j * 3 + 1, none⟩ = some (.string (bs xs[j].fold)) ∧ w.cell? ⟨g, o + j * 3 + 2, none⟩ = some (thVI xs[j].thing)
theorem reads_ownEI {base : Nat} {w : World} {A : Option Addr} {n c : Nat} {xs : List (Ent VI)} (h : OwnEI base w (.slice A n c) xs) : ReadsEI w A xs := fun h0 => by
  have h' := h
  rcases h.2 with ⟨h1, h2⟩ | ⟨g, cap, cur, h1, h3, h4, h5, _, h6, h7⟩
  · omega
  · injection h1 with q1 q2 q3
    subst q1
    have hadd : ∀ j, (⟨g, 0, none⟩ : Addr).add j = ⟨g, 0 + j, none⟩ := fun j => by
      unfold Addr.add
      split
      · simp_all
      · rfl
    have key : ∀ t u, (xs.flatMap encEI)[t]? = some u → w.cell? ⟨g, 0 + t, none⟩ = some u := fun t u ht => by
      have := h'.cells (g := g) rfl t u ht
      rwa [hadd] at this
    have one : ∀ j (hj : j < xs.length) i (hi : i < 3) u, (encEI xs[j])[i]? = some u → w.cell? ⟨g, 0 + j * 3 + i, none⟩ = some u := fun j hj i hi u hu => by
      rw [Nat.add_assoc]
      refine key _ _ ?_
      rw [flatMap_get encEI 3 (fun _ => rfl) (by decide) xs (j * 3 + i) (by omega), show (j * 3 + i) / 3 = j by omega, show (j * 3 + i) % 3 = i by omega]
      simpa [List.getD, hj] using hu
    exact ⟨g, 0, rfl, blk_lt h4, fun j hj => ⟨one j hj 0 (by decide) _ rfl, one j hj 1 (by decide) _ rfl, one j hj 2 (by decide) _ rfl⟩⟩
def rowYEI (B : Nat) (v : Value) : Nat → Prop := fun b => b = B ∨ v.ownBlock = some b
set_option maxRecDepth 100000 in
set_option maxHeartbeats 4000000 in
theorem told_seqI (base B : Nat) (v : Value) (xs : List (Ent VI)) (w : World) (hxs : xs.length ≤ 1000000) (hb : w.heap[B]? = some (.cells #[v] 102 (0, 0))) (hr : OwnEI base w v xs) :
    SeqF Try.prog 53 #[.pointer (some ⟨B, 0, none⟩)] encPI (rowYEI B v) xs w := fun l J Jx X V hs hYl hX hJ hJx hY h0 => by
  have hbV := (hs B (.inl rfl)).trans hb
  have hrV : OwnEI base V v xs := ownEI_kept hr fun g hg => hs g (.inr hg)
  obtain ⟨A, c, rfl⟩ := row_slice hr
  have c0 : V.cell? ⟨B, 0, none⟩ = some (.slice A xs.length c) := (blk_cell hbV 0).trans rfl
  have HR := Lib.hid (reads_ownEI hrV)
  have HO := Lib.hid hrV
  have HY := Lib.hid hY
  have HX := Lib.hid hX
  have HJ := Lib.hid hJ
  have h00 : Hid (∃ X1, GrowX X X1 V V ∧ Fr X V V ∧ J [] X1 V) := ⟨X, GrowX.refl fun k hk => (hX k hk).1, Fr.refl _ _, h0⟩
  clear hb hr hs hrV hbV hY hX h0 hJ hJx hYl
  refine (callsIn_wide (n := 20)).1 ?_
  refine callsIn_of_wp Try.func53 rfl trivial ?_ rfl
  simp only [Try.ntmps53, List.size_toArray, List.length_cons, List.length_nil, Nat.reduceAdd, Nat.reduceSub, Array.replicate_succ, Array.replicate_zero, List.push_toArray, List.append_toArray, List.nil_append, List.cons_append]
  gi_wp2
  gi_loopw [4, 7] (fun _ c1 wr => ∃ k : Nat, c1 = .int .i64 k ∧ k ≤ xs.length ∧ Hid (∃ X1, GrowX X X1 V wr ∧ Fr X V wr ∧ J (xs.take k) X1 wr)) (fun _ c1 _ => xs.length - (RowKit.intOf c1).toNat)
  case atStart => exact ⟨0, rfl, Nat.zero_le _, h00⟩
  case round =>
    obtain ⟨k, rfl, hk, HJ2⟩ := hrel
    clear h00
    obtain ⟨X1, hg1, hf1, hj1⟩ := HJ2.out
    by_cases hlt : k < xs.length
    · obtain ⟨g, o, rfl, hg, hcell⟩ := HR.out (by omega)
      obtain ⟨e, hx⟩ : ∃ e, xs[k] = e := ⟨_, rfl⟩
      have hgY : rowYEI B (.slice (some ⟨g, o, none⟩) xs.length c) g := by
        rcases HO.out.2 with ⟨e, _⟩ | ⟨g2, cap, cur, e, _⟩
        · cases e
        · cases e; exact .inr rfl
      have hnx : ¬ X g := fun e => (HX.out g e).2 hgY
      obtain ⟨q0, q1, q2⟩ := hcell k hlt
      rw [hx] at q0 q1 q2
      have e0 : wr.cell? ⟨g, o + k * 3, none⟩ = some (.string e.name) := (hf1.cell (p := ⟨g, o + k * 3, none⟩) hg hnx).trans q0
      have e1 : wr.cell? ⟨g, o + k * 3 + 1, none⟩ = some (.string (bs e.fold)) := (hf1.cell (p := ⟨g, o + k * 3 + 1, none⟩) hg hnx).trans q1
      have e2 : wr.cell? ⟨g, o + k * 3 + 2, none⟩ = some (thVI e.thing) := (hf1.cell (p := ⟨g, o + k * 3 + 2, none⟩) hg hnx).trans q2
      have hsp : xs.take k ++ e :: xs.drop (k + 1) = xs := by rw [← hx, ← List.drop_eq_getElem_cons hlt]; exact List.take_append_drop k xs
      have htk : xs.take (k + 1) = xs.take k ++ [e] := by rw [List.take_succ_eq_append_getElem hlt, hx]
      obtain ⟨wa, hwa⟩ : ∃ wa, wr.alloc (Obj.cells #[.string e.name, .string (bs e.fold), thVI e.thing] 70) = wa := ⟨_, rfl⟩
      have ka : wa.heap[wr.heap.size]? = some (.cells #[.string e.name, .string (bs e.fold), thVI e.thing] 70 (0, 0)) := by rw [← hwa]; exact heap_alloc_new _ _
      have c5 := blk_cell ka 0
      have c6 := blk_cell ka 2
      have fa : Fr (fun _ => False) wr wa := by rw [← hwa]; exact (Fr.refl _ wr).alloc _
      have hg2 : GrowX X X1 V wa := fun j hj => ⟨Nat.lt_of_lt_of_le (hg1 j hj).1 fa.size, (hg1 j hj).2⟩
      have hf2 : Fr X V wa := hf1.trans3 fa fun _ _ e => e.elim
      have hyy := HY.out (xs.take k) e (xs.drop (k + 1)) X1 wa hsp hg2 (HJ.out.fr hj1 (fun j hj => (hg1 j hj).1) fa fun _ e => e.elim) hf2
      obtain ⟨fn, tmps, assign, body, hy, hR⟩ := hyy
      dsimp only [encPI] at hy
      have HT := Lib.hid (And.intro htk (And.intro hsp (And.intro hg2 hf2)))
      have HW := Lib.hid hwa
      clear hx htk hsp hg hcell hg1 hf1 hj1 hgY hnx fa hg2 hf2 hwa ka q0 q1 q2
      unfold thVI at *
      gi_wp2_with (rw [HW.out])
      refine (round_wide (.inl rfl) hR).mono ?_
      rintro e W3 ⟨X2, g2, f2, (⟨rfl, hJ3⟩ | ⟨rfl, hJx3⟩)⟩
      · obtain ⟨htk, hsp, hg1, hf1⟩ := HT.out
        have hN : Hid (∃ X1, GrowX X X1 V W3 ∧ Fr X V W3 ∧ J (xs.take (k + 1)) X1 W3) := ⟨X2, hg1.trans g2 hf1.size, hf1.trans3 f2 fun k hk e => (hg1 k e).2 hk, by rw [htk]; exact hJ3⟩
        clear htk hsp hg1 hf1 g2 f2 hJ3 hR hy
        gi_wp2_with fail
        go_roundw
        case rel => exact ⟨k + 1, by go_num, by omega, hN⟩
        case measure => simp [RowKit.intOf]; omega
      · clear hR hy
        gi_wp2_with fail
        refine bodyPost_ret (results_none rfl _ _ _) rfl ?_
        obtain ⟨htk, hsp, hg1, hf1⟩ := HT.out
        exact ⟨⟨_, rfl⟩, X2, hg1.trans g2 hf1.size, hf1.trans3 f2 fun k hk e => (hg1 k e).2 hk, .inr ⟨_, xs.drop (k + 1), by simpa using hsp, hJx3⟩⟩
    · obtain rfl : k = xs.length := by omega
      rw [List.take_length] at hj1
      have HQ := Lib.hid (And.intro hg1 (And.intro hf1 hj1))
      clear hg1 hf1 hj1
      gi_wp2_with fail
      go_end0
      obtain ⟨hg1, hf1, hj1⟩ := HQ.out
      exact ⟨⟨_, rfl⟩, X1, hg1, hf1, .inl hj1⟩
/-- what tells xs: a tale, its box, the row in it -/
def TaleEI (base : Nat) (w : World) (F : Value) (xs : List (Ent VI)) : Prop := ∃ B v, base ≤ B ∧ F = .func (.func 53) #[] #[.pointer (some ⟨B, 0, none⟩)] ∧ w.heap[B]? = some (.cells #[v] 102 (0, 0)) ∧ v.ownBlock ≠ some B ∧ OwnEI base w v xs
theorem taleEI_tells {base : Nat} {w : World} {F : Value} {xs : List (Ent VI)} (h : TaleEI base w F xs) (hl : xs.length ≤ 1000000) : ∃ Y, (∀ b, Y b → base ≤ b) ∧ TellsF Try.prog encPI w F Y xs := by
  obtain ⟨B, v, h1, rfl, h3, h4, h5⟩ := h
  refine ⟨rowYEI B v, fun b hb => ?_, _, _, rfl, told_seqI base B v xs w hl h3 h5, fun b hb => ?_, enters_of Try.func53 (by kernel_rfl) rfl⟩
  · rcases hb with rfl | hb
    · exact h1
    · exact (h5.lt b hb).1
  · rcases hb with rfl | hb
    · exact blk_lt h3
    · exact (h5.lt b hb).2
theorem taleEI_fr {base : Nat} {w W : World} {F : Value} {xs : List (Ent VI)} {X : Nat → Prop} (h : TaleEI base w F xs) (hf : Fr X w W) (hx : ∀ k, base ≤ k → k < w.heap.size → ¬ X k) : TaleEI base W F xs := by
  obtain ⟨B, v, h1, h2, h3, h4, h5⟩ := h
  exact ⟨B, v, h1, h2, hf.blk h3 (hx B h1 (blk_lt h3)), h4, ownEI_kept h5 fun g hg => hf.block g (h5.lt g hg).2 (hx g (h5.lt g hg).1 (h5.lt g hg).2)⟩
/-- told, of a row that the caller owns -/
theorem told_ofI {base : Nat} {w : World} {A : Option Addr} {c : Nat} {xs : List (Ent VI)} (h : OwnEI base w (.slice A xs.length c) xs) (hb : base ≤ w.heap.size) : Calls Try.prog 43 #[.slice A xs.length c] w fun e w' => (∃ F, e = .returned F ∧ TaleEI base w' F xs) ∧ Fr (fun _ => False) w w' := by
  have H := Lib.hid h
  clear h
  obtain ⟨n, hn⟩ : ∃ n, xs.length = n := ⟨_, rfl⟩
  rw [hn] at H ⊢
  go_enter Try.func43, Try.ntmps43
  go_wp2_with fail
  go_ret
  have hk := heap_alloc_new w (Obj.cells #[Value.slice A n c] 102)
  have hf : Fr (fun _ => False) w (w.alloc (Obj.cells #[Value.slice A n c] 102)) := (Fr.refl _ w).alloc _
  refine ⟨⟨_, rfl, w.heap.size, _, hb, rfl, hk, fun e => ?_, ownEI_kept H.out fun g hg => hf.block g (H.out.lt g hg).2 fun e => e⟩, hf⟩
  have := (H.out.lt _ e).2; omega
end Go.Proofs.Ytfdaeajafmcjcaa
