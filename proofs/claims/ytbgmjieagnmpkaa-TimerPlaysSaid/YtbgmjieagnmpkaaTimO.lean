/- Layer 9: the document's table: ahead, At. -/
import Derived.Test.YtbgmjieagnmpkaaTimN
import Derived.Test.YtbgmjieagnmpkaaTimGS
import Derived.Test.YtbgmjieagnmpkaaAppU
namespace Go.Proofs.Ytbgmjieagnmpkaa
set_option linter.unusedVariables false
set_option linter.unusedSimpArgs false
open Go Go.RowKit Go.Maps Go.Sort Go.Shelf Go.Lib

theorem less_bs (x y : List UInt8) : Op.bytesLess (bs x).toList (bs y).toList = decide (x < y) := by rw [ByteArray.toList_eq, ByteArray.toList_eq]; exact bytesLess_eq x y
theorem grow_twoS (W : World) (a b : Obj) : (W.alloc a).alloc b = grow (W.drewN 0) #[a, b] := by
  rw [alloc_eq_grow, alloc_eq_grow, grow_grow]; rfl
set_option maxRecDepth 100000 in
set_option maxHeartbeats 4000000 in
theorem ahead_items (x y : KeyS × Int) (W : World) : Calls Try.prog 44 #[.agg (encCS x).toArray, .agg (encCS y).toArray] W fun e w' => e = .returned (.bool (decide (ltTS x y))) ∧ ∃ q os', w' = grow (W.drewN q) os' := by
  obtain ⟨x1, x2⟩ := x
  obtain ⟨y1, y2⟩ := y
  have l1 := less_bs x1 y1
  have hw := Lib.hid (grow_twoS W)
  rcases Int.lt_trichotomy x2 y2 with h | h | h
  · have hr : decide (ltTS (x1, x2) (y1, y2)) = true := by simp [ltTS, h]
    rw [hr]
    unfold encCS kVS
    dsimp only
    clear hr l1
    go_enter Try.func44, Try.ntmps44
    go_wp2_with fail
    go_ret
    exact ⟨rfl, _, _, hw.out _ _⟩
  · subst h
    have hr : decide (ltTS (x1, x2) (y1, x2)) = decide (x1 < y1) := by simp [ltTS]
    rw [hr]
    obtain ⟨r, hr2⟩ : ∃ r, decide (x1 < y1) = r := ⟨_, rfl⟩
    rw [hr2] at l1 ⊢
    unfold encCS kVS
    dsimp only
    clear hr hr2
    go_enter Try.func44, Try.ntmps44
    go_wp2_with fail
    go_ret
    exact ⟨rfl, _, _, hw.out _ _⟩
  · have hr : decide (ltTS (x1, x2) (y1, y2)) = false := decide_eq_false (by rintro (e | ⟨e, _⟩) <;> (dsimp only at e; omega))
    rw [hr]
    have h1 : ¬ x2 < y2 := by omega
    have h2 : ¬ x2 = y2 := by omega
    unfold encCS kVS
    dsimp only
    clear hr l1
    go_enter Try.func44, Try.ntmps44
    go_wp2_with fail
    go_ret
    exact ⟨rfl, _, _, hw.out _ _⟩

theorem Try.infoFS : (Try.prog.info? 38).map (fun i => (i.zero, i.size, i.bytes)) = some (some (.agg #[.string ByteArray.empty, .int .i64 0]), 2, 24) := by kernel_rfl
/-- a row of the document's items, of the call's own -/
def OwnFS (base : Nat) (W : World) (v : Value) (xs : List (KeyS × Int)) : Prop := W.ownsRow base 38 2 v xs.length (xs.flatMap encCS)
theorem ownFS_nil (base : Nat) (w : World) : OwnFS base w (.slice none 0 0) [] := World.ownsRow_nil _ _ _ _
theorem ownFS_kept {base : Nat} {w W : World} {v : Value} {xs : List (KeyS × Int)} (h : OwnFS base w v xs) (hs : ∀ g, v.ownBlock = some g → W.heap[g]? = w.heap[g]?) : OwnFS base W v xs := row_same h hs
theorem ownFS_base {W : World} {base base' : Nat} {v : Value} {xs : List (KeyS × Int)} (h : OwnFS base W v xs) (hb : base' ≤ base) : OwnFS base' W v xs := by
  obtain ⟨h1, h2⟩ := h
  refine ⟨h1, ?_⟩
  rcases h2 with h2 | ⟨g, cap, cur, h3, h4, h5⟩
  · exact .inl h2
  · exact .inr ⟨g, cap, cur, h3, by omega, h5⟩
theorem reads_ownFS {base : Nat} {w : World} {A : Option Addr} {n c : Nat} {xs : List (KeyS × Int)} (h : OwnFS base w (.slice A n c) xs) : ReadsRS w A xs := fun h0 => by
  have h' := h
  rcases h.2 with ⟨h1, h2⟩ | ⟨g, cap, cur, h1, h3, h4, h5, _, h6, h7⟩
  · omega
  · injection h1 with q1 q2 q3
    subst q1
    have hadd : ∀ j, (⟨g, 0, none⟩ : Addr).add j = ⟨g, 0 + j, none⟩ := fun j => by
      unfold Addr.add
      split
      · simp_all
      · rfl
    have key : ∀ t u, (xs.flatMap encCS)[t]? = some u → w.cell? ⟨g, 0 + t, none⟩ = some u := fun t u ht => by
      have := h'.cells (g := g) rfl t u ht
      rwa [hadd] at this
    refine ⟨g, 0, rfl, blk_lt h4, fun j hj => ⟨key (j * 2) _ ?_, ?_⟩⟩
    · rw [flatMap_get encCS 2 (fun _ => rfl) (by decide) xs (j * 2) (by omega), Nat.mul_div_cancel j (by decide), Nat.mul_mod_left]
      simp [List.getD, hj, encCS]
    · have := key (j * 2 + 1) (.int .i64 xs[j].2) (by
        rw [flatMap_get encCS 2 (fun _ => rfl) (by decide) xs (j * 2 + 1) (by omega), show (j * 2 + 1) / 2 = j by omega, show (j * 2 + 1) % 2 = 1 by omega]
        simp [List.getD, hj, encCS])
      exact this
/-- the document's table as it lies -/
def RefS (base : Nat) (w : World) (x : Nat) (T : List (KeyS × Int)) : Prop := base ≤ x ∧ ∃ A c, w.heap[x]? = some (.cells #[.slice A T.length c] 30 (0, 0)) ∧ OwnFS base w (.slice A T.length c) T ∧ (Value.slice A T.length c).ownBlock ≠ some x
theorem refS_fr {base : Nat} {w w' : World} {x : Nat} {T : List (KeyS × Int)} {X : Nat → Prop} (h : RefS base w x T) (hf : Fr X w w') (h1 : ∀ b, base ≤ b → ¬ X b) : RefS base w' x T := by
  obtain ⟨h0, A, c, h2, h3, h4⟩ := h
  exact ⟨h0, A, c, hf.blk h2 (h1 x h0), ownFS_kept h3 fun g hg => hf.block g (h3.lt g hg).2 (h1 g (h3.lt g hg).1), h4⟩
theorem refS_below {base : Nat} {w w' : World} {x : Nat} {T : List (KeyS × Int)} (h : RefS base w x T) (hb : Below w.heap.size w w') : RefS base w' x T := refS_fr (X := fun _ => False) h (Fr.of_below hb) fun _ _ e => e
theorem beq_ks (a b : KeyS) : ((bs a).toList == (bs b).toList) = decide (a = b) := by rw [beq_bs]; by_cases h : a = b <;> simp [h]

def AtP (T : List (KeyS × Int)) (k : KeyS) (w : World) (e : Ending) (w' : World) : Prop := (∃ n, e = .returned (.int .i64 n) ∧ ixM T k n) ∧ w' = w
set_option maxRecDepth 100000 in
set_option maxHeartbeats 8000000 in
theorem ref_at {base : Nat} {w : World} {x : Nat} {T : List (KeyS × Int)} (h : RefS base w x T) (hnd : (T.map (·.1)).Nodup) (hlen : T.length ≤ 1000000) (k : KeyS) :
    Calls Try.prog 19 #[.pointer (some ⟨x, 0, none⟩), kVS k] w (AtP T k w) := by
  obtain ⟨h0, A, c, h2, h3, h4⟩ := h
  have hrd := reads_ownFS h3
  have hc0 : w.cell? ⟨x, 0, none⟩ = some (.slice A T.length c) := (blk_cell h2 0).trans rfl
  unfold kVS
  have HR := Lib.hid (And.intro hrd (And.intro hnd hlen))
  clear hrd h2 h3 h4 hnd h0 hlen
  go_enter Try.func19, Try.ntmps19
  go_wp2_with fail
  go_loopw [5] (fun i wr => ∃ j : Nat, i = .int .i64 j ∧ j ≤ T.length ∧ wr = w ∧ ∀ q, q < j → ∀ p, T[q]? = some p → p.1 ≠ k) (fun i _ => T.length - (RowKit.intOf i).toNat)
  case atStart => exact ⟨0, rfl, Nat.zero_le _, rfl, fun q hq => by omega⟩
  case round =>
    obtain ⟨j, rfl, hj, rfl, hno⟩ := hrel
    by_cases hlt : j < T.length
    · obtain ⟨g, o, rfl, hg, hcell⟩ := HR.out.1 (by omega)
      obtain ⟨c1, c2⟩ := hcell j hlt
      have hl := HR.out.2.2
      unfold kVS at c1
      obtain ⟨kj, hkj⟩ : ∃ kj, T[j].1 = kj := ⟨_, rfl⟩
      rw [hkj] at c1
      have hb := beq_ks kj k
      have HK := Lib.hid hkj
      clear hkj
      by_cases he : kj = k
      · rw [decide_eq_true he] at hb
        clear hcell
        go_wp2_with fail
        go_ret
        exact ⟨⟨_, rfl, .inr ⟨j, hlt, rfl, HK.out.trans he, by rw [← he, ← HK.out]; exact lookM_at HR.out.2.1 hlt, by rw [← he, ← HK.out]; exact delM_at HR.out.2.1 hlt⟩⟩, rfl⟩
      · rw [decide_eq_false he] at hb
        clear hcell
        go_wp2_with fail
        go_roundw
        case rel =>
          refine ⟨j + 1, by go_num, by omega, trivial, fun q hq p hp => ?_⟩
          by_cases e : q = j
          · subst e
            rw [List.getElem?_eq_getElem hlt] at hp
            cases hp
            rw [HK.out]
            exact he
          · exact hno q (by omega) p hp
        case measure => simp [RowKit.intOf]; omega
    · obtain rfl : j = T.length := by omega
      have p1 : ¬ ((T.length : Int) < (T.length : Int)) := by omega
      go_wp2_with fail
      go_ret
      have hn : ∀ p ∈ T, p.1 ≠ k := fun p hp => by
        obtain ⟨q, hq, e⟩ := List.mem_iff_getElem.1 hp
        exact hno q hq p (by rw [← e]; exact List.getElem?_eq_getElem hq)
      have hl := lookM_nowhere hn
      exact ⟨⟨_, rfl, .inl ⟨rfl, hl, lookM_none (by rw [hl]; rfl)⟩⟩, rfl⟩
end Go.Proofs.Ytbgmjieagnmpkaa
