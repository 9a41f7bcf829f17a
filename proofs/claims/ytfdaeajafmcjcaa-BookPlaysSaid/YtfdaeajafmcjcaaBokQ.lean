/- Layer 2: the document's book: its row, At. -/
import Derived.Test.YtfdaeajafmcjcaaBokP
import Derived.Test.YtfdaeajafmcjcaaFoldI
import Derived.Test.YtfdaeajafmcjcaaAppU
import Derived.Test.YtfdaeajafmcjcaaRegZ
namespace Go.Proofs.Ytfdaeajafmcjcaa
set_option linter.unusedVariables false
set_option linter.unusedSimpArgs false
open Go Go.RowKit Go.Maps Go.Sort Go.Shelf Go.Lib

theorem Try.infoEU : (Try.prog.info? 45).map (fun i => (i.zero, i.size, i.bytes)) = some (some (.agg #[.string ByteArray.empty, .int .i64 0]), 2, 24) := by kernel_rfl
def encU (e : Ent VI) : List Value := [.string e.name, .int .i64 e.thing]
/-- a row of the document's entries, of the call's own -/
def OwnU (base : Nat) (W : World) (v : Value) (xs : List (Ent VI)) : Prop := W.ownsRow base 45 2 v xs.length (xs.flatMap encU)
theorem ownU_nil (base : Nat) (w : World) : OwnU base w (.slice none 0 0) [] := World.ownsRow_nil _ _ _ _
theorem ownU_kept {base : Nat} {w W : World} {v : Value} {xs : List (Ent VI)} (h : OwnU base w v xs) (hs : ∀ g, v.ownBlock = some g → W.heap[g]? = w.heap[g]?) : OwnU base W v xs := row_same h hs
theorem ownU_base {W : World} {base base' : Nat} {v : Value} {xs : List (Ent VI)} (h : OwnU base W v xs) (hb : base' ≤ base) : OwnU base' W v xs := by
  obtain ⟨h1, h2⟩ := h
  refine ⟨h1, ?_⟩
  rcases h2 with h2 | ⟨g, cap, cur, h3, h4, h5⟩
  · exact .inl h2
  · exact .inr ⟨g, cap, cur, h3, by omega, h5⟩
theorem reads_ownU {base : Nat} {w : World} {A : Option Addr} {n c : Nat} {xs : List (Ent VI)} (h : OwnU base w (.slice A n c) xs) : ReadsW w A xs := fun h0 => by
  have h' := h
  rcases h.2 with ⟨h1, h2⟩ | ⟨g, cap, cur, h1, h3, h4, h5, _, h6, h7⟩
  · omega
  · injection h1 with q1 q2 q3
    subst q1
    have hadd : ∀ j, (⟨g, 0, none⟩ : Addr).add j = ⟨g, 0 + j, none⟩ := fun j => by
      unfold Addr.add
      split
      · simp_all
      · rfl
    have key : ∀ t u, (xs.flatMap encU)[t]? = some u → w.cell? ⟨g, 0 + t, none⟩ = some u := fun t u ht => by
      have := h'.cells (g := g) rfl t u ht
      rwa [hadd] at this
    refine ⟨g, 0, rfl, blk_lt h4, fun j hj => ⟨key (j * 2) _ ?_, ?_⟩⟩
    · rw [flatMap_get encU 2 (fun _ => rfl) (by decide) xs (j * 2) (by omega), Nat.mul_div_cancel j (by decide), Nat.mul_mod_left]
      simp [List.getD, hj, encU]
    · have := key (j * 2 + 1) (.int .i64 xs[j].thing) (by
        rw [flatMap_get encU 2 (fun _ => rfl) (by decide) xs (j * 2 + 1) (by omega), show (j * 2 + 1) / 2 = j by omega, show (j * 2 + 1) % 2 = 1 by omega]
        simp [List.getD, hj, encU])
      exact this
/-- the document's book as it lies -/
def RefB (base : Nat) (w : World) (x : Nat) (most : Int) (U : List (Ent VI)) : Prop := base ≤ x ∧ ∃ A c, w.heap[x]? = some (.cells #[.int .i64 most, .slice A U.length c] 32 (0, 0)) ∧ OwnU base w (.slice A U.length c) U ∧ (Value.slice A U.length c).ownBlock ≠ some x
/-- what is frozen: neither it nor its row -/
theorem refB_fr {base : Nat} {w w' : World} {x : Nat} {most : Int} {U : List (Ent VI)} {X : Nat → Prop} (h : RefB base w x most U) (hf : Fr X w w') (h1 : ∀ b, base ≤ b → ¬ X b) : RefB base w' x most U := by
  obtain ⟨h0, A, c, h2, h3, h4⟩ := h
  exact ⟨h0, A, c, hf.blk h2 (h1 x h0), ownU_kept h3 fun g hg => hf.block g (h3.lt g hg).2 (h1 g (h3.lt g hg).1), h4⟩
theorem refB_below {base : Nat} {w w' : World} {x : Nat} {most : Int} {U : List (Ent VI)} (h : RefB base w x most U) (hb : Below w.heap.size w w') : RefB base w' x most U := refB_fr (X := fun _ => False) h (Fr.of_below hb) fun _ _ e => e
theorem refB_lt {base : Nat} {w : World} {x : Nat} {most : Int} {U : List (Ent VI)} (h : RefB base w x most U) : x < w.heap.size := by
  obtain ⟨_, _, _, h2, _⟩ := h
  exact blk_lt h2
/-- each name with its folded form; none is long -/
def OkUB (U : List (Ent VI)) : Prop := ∀ e ∈ U, e.fold = foldL e.name.data.toList ∧ e.name.size ≤ 1000000
theorem sameF_fold {e : Ent VI} {U : List (Ent VI)} (h : OkUB U) (he : e ∈ U) (name : ByteArray) : sameF e.name.data.toList name.data.toList = decide (e.fold = foldL name.data.toList) := by
  rw [(h e he).1, Bool.eq_iff_iff, sameF_iff, decide_eq_true_eq]
theorem add_any (g o j : Nat) : (⟨g, o, none⟩ : Addr).add j = ⟨g, o + j, none⟩ := by
  unfold Addr.add
  split
  · simp_all
  · rfl
theorem encU_len (T : List (Ent VI)) : (T.flatMap encU).length = T.length * 2 := by
  induction T with
  | nil => rfl
  | cons a r ih => rw [List.flatMap_cons, List.length_append, ih, List.length_cons]; simp [encU]; omega
theorem encU_one (T : List (Ent VI)) : ∀ u ∈ T.flatMap encU, u.oneCell' = true := by
  intro u hu
  obtain ⟨p, _, hp⟩ := List.mem_flatMap.1 hu
  simp only [encU, List.mem_cons, List.not_mem_nil, or_false] at hp
  rcases hp with rfl | rfl <;> rfl
/-- where a name stands -/
def AtU (U : List (Ent VI)) (k : KeyB) (w : World) (e : Ending) (w' : World) : Prop := (∃ n, e = .returned (.int .i64 n) ∧ IxU U k n) ∧ Fr (fun _ => False) w w'
set_option maxRecDepth 100000 in
set_option maxHeartbeats 8000000 in
theorem ref_at {base : Nat} {w : World} {x : Nat} {most : Int} {U : List (Ent VI)} (h : RefB base w x most U) (hk : OkUB U) (hlen : U.length ≤ 1000000) {name : ByteArray} (hs : name.size ≤ 1000000) :
    Calls Try.prog 16 #[.pointer (some ⟨x, 0, none⟩), .string name] w (AtU U (foldL name.data.toList) w) := by
  have HR0 := Lib.hid h
  obtain ⟨h0, A, c, h2, h3, h4⟩ := h
  have hrd : ∀ W, Fr (fun _ => False) w W → ReadsW W A U := fun W hf => reads_ownU (ownU_kept h3 fun g hg => hf.block g (h3.lt g hg).2 fun e => e)
  have hc0 : ∀ W, Fr (fun _ => False) w W → W.cell? ⟨x, 1, none⟩ = some (.slice A U.length c) := fun W hf => (blk_cell (hf.blk h2 fun e => e) 1).trans rfl
  have HR := Lib.hid (And.intro hrd (And.intro hc0 (And.intro hk hs)))
  clear hrd h2 h3 h4 h0 hk hs hc0
  go_enter Try.func16, Try.ntmps16
  go_wp2_with fail
  go_loopw [5] (fun i wr => ∃ j : Nat, i = .int .i64 j ∧ j ≤ U.length ∧ Hid (Fr (fun _ => False) w wr ∧ ∀ q (h : q < U.length), q < j → U[q].fold ≠ foldL name.data.toList)) (fun i _ => U.length - (RowKit.intOf i).toNat)
  case atStart => exact ⟨0, rfl, Nat.zero_le _, Fr.refl _ _, fun q _ hq => by omega⟩
  case round =>
    obtain ⟨j, rfl, hj, HF⟩ := hrel
    have hcx := HR.out.2.1 wr HF.out.1
    by_cases hlt : j < U.length
    · obtain ⟨g, o, rfl, hg, hcell⟩ := HR.out.1 wr HF.out.1 (by omega)
      have c1 := (hcell j hlt).1
      obtain ⟨ej, hej⟩ : ∃ ej, U[j] = ej := ⟨_, rfl⟩
      rw [hej] at c1
      have hem : ej ∈ U := by rw [← hej]; exact List.getElem_mem hlt
      have hez := (HR.out.2.2.1 ej hem).2
      have HE := Lib.hid (And.intro hej hem)
      have HS := Lib.hid fun W => refsame ej.name name W hez HR.out.2.2.2
      obtain ⟨nm, hnm⟩ : ∃ nm, ej.name = nm := ⟨_, rfl⟩
      obtain ⟨b, hb⟩ : ∃ b, decide (ej.fold = foldL name.data.toList) = b := ⟨_, rfl⟩
      rw [sameF_fold HR.out.2.2.1 hem, hb] at HS
      rw [hnm] at HS c1
      have HB := Lib.hid hb
      clear hcell hej hem hez hnm hb
      go_wp2_with fail
      refine (HS.out _).mono ?_
      rintro e W2 ⟨rfl, b2⟩
      have HF2 := Lib.hid (HF.out.1.trans (Fr.of_below b2))
      clear b2
      cases b with
      | true =>
        go_wp2_with fail
        go_ret
        exact ⟨⟨_, rfl, .inr ⟨j, hlt, rfl, by rw [HE.out.1]; exact of_decide_eq_true HB.out⟩⟩, HF2.out⟩
      | false =>
        go_wp2_with fail
        go_roundw
        case rel =>
          refine ⟨j + 1, by go_num, by omega, HF2.out, fun q hq hq2 => ?_⟩
          by_cases e : q = j
          · subst e
            rw [HE.out.1]
            exact of_decide_eq_false HB.out
          · exact HF.out.2 q hq (by omega)
        case measure => simp [RowKit.intOf]; omega
    · obtain rfl : j = U.length := by omega
      have p1 : ¬ ((U.length : Int) < (U.length : Int)) := by omega
      go_wp2_with fail
      go_ret
      exact ⟨⟨_, rfl, .inl ⟨rfl, fun e he => by
        obtain ⟨q, hq, rfl⟩ := List.mem_iff_getElem.1 he
        exact HF.out.2 q hq hq⟩⟩, HF.out.1⟩
end Go.Proofs.Ytfdaeajafmcjcaa
