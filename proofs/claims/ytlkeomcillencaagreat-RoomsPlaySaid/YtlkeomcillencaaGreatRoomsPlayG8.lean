/- Texts of this proof, one behind the other. -/
import Derived.Test.YtlkeomcillencaaGreatRoomsPlayG7
import Derived.BigQuiet
import Derived.Maps.OwnSet
import Derived.Maps.Ext
import Derived.Test.YtlkeomcillencaaGreatRoomsPlayG1
import Derived.Test.YtlkeomcillencaaGreatRoomsPlayG2
set_option linter.unusedVariables false
set_option linter.unusedSimpArgs false
section
/- Layer 19: the document's room as it lies: At, New, Add, Drop. -/
namespace Go.Proofs.YtlkeomcillencaaGreat
open Go Go.RowKit Go.Lib

/-- the document's room -/
structure Rx where
  nm : List UInt8
  mb : Int
  L : List Mem
  tp : List UInt8
  on : List UInt8
  key : List UInt8
  lim : Int
  bans : List (List UInt8)
  gs : List Int
structure RxV where
  vl : Value
  vb : Value
  vg : Value
def rxO (x : Rx) (q : RxV) : Obj := .cells #[.string (bs x.nm), .int .i64 x.mb, q.vl, .string (bs x.tp), .string (bs x.on), .string (bs x.key), .int .i64 x.lim, q.vb, q.vg] 90 (0, 0)
def RxAt (base B : Nat) (q : RxV) (x : Rx) (W : World) : Prop :=
  W.heap[B]? = some (rxO x q) ∧ OwnM base W q.vl x.L ∧ OwnT base W q.vb x.bans ∧ OwnI base W q.vg x.gs ∧ base ≤ B
theorem atM_first : ∀ {l : List Mem} {id : Int} {k : Nat} (h : k < l.length), l[k].1 = id → (∀ j (hj : j < k), (l[j]'(by omega)).1 ≠ id) → atM l id = k
  | [], _, _, h, _, _ => absurd h (Nat.not_lt_zero _)
  | a :: l, id, 0, _, h1, _ => by unfold atM; rw [if_pos (by simpa using h1)]; rfl
  | a :: l, id, k + 1, h, h1, h2 => by
    have ih := atM_first (l := l) (id := id) (k := k) (by simpa using h) (by simpa using h1) (fun j hj => by simpa using h2 (j + 1) (by omega))
    unfold atM
    rw [if_neg (by simpa using h2 0 (by omega)), if_neg (by omega)]
    omega
theorem atM_none {l : List Mem} {id : Int} (h : ∀ j (hj : j < l.length), l[j].1 ≠ id) : atM l id = -1 := by
  have h1 := (atM_lt l id).1
  have h2 : atM l id < 0 := atM_no.2 (hasM_no.2 fun a ha => by obtain ⟨j, hj, rfl⟩ := List.getElem_of_mem ha; exact h j hj)
  omega
set_option maxRecDepth 100000 in
set_option maxHeartbeats 4000000 in
theorem refAt_any {base B : Nat} {q : RxV} {x : Rx} {w : World} (h : RxAt base B q x w) (id : Int) (hl : x.L.length ≤ 1000000) :
    Calls Tryz.prog 49 #[.pointer (some ⟨B, 0, none⟩), .int .i64 id] w fun e w' => e = .returned (.int .i64 (atM x.L id)) ∧ w' = w := by
  have c2 : w.cell? ⟨B, 2, none⟩ = some q.vl := blk_cell h.1 2
  obtain ⟨A, c, hv⟩ := ownM_slice h.2.1
  rw [hv] at c2
  have hown := h.2.1
  rw [hv] at hown
  have HR := Lib.hid (reads_ownM hown)
  obtain ⟨L, hL⟩ : ∃ L, x.L = L := ⟨_, rfl⟩
  rw [hL] at HR c2 hl ⊢
  clear h hv hown hL
  go_enter Tryz.func49, Tryz.ntmps49
  go_wp2_with fail
  go_loopw [5] (fun s wr => ∃ k : Nat, k ≤ L.length ∧ s = .int .i64 k ∧ Hid (∀ j (hj : j < L.length), j < k → L[j].1 ≠ id) ∧ wr = w) (fun s _ => L.length - (Go.RowKit.intOf s).toNat)
  case atStart => exact ⟨0, Nat.zero_le _, rfl, Lib.hid fun _ _ h => absurd h (Nat.not_lt_zero _), rfl⟩
  case round =>
    obtain ⟨k, hk, rfl, HA, rfl⟩ := hrel
    by_cases hlt : k < L.length
    · obtain ⟨g, o, rfl, hg, hc⟩ := HR.out (by omega)
      have e0 := (hc k hlt).1
      obtain ⟨y, hy⟩ : ∃ y, L[k].1 = y := ⟨_, rfl⟩
      rw [hy] at e0
      have HY := Lib.hid hy
      clear hc hy hg
      by_cases hid : y = id
      · have he : atM L id = k := atM_first hlt (HY.out.trans hid) fun j hj => HA.out j (by omega) hj
        have HE := Lib.hid he
        have hye : (y == id) = true := by rw [hid]; simp
        clear he hid
        go_wp2_with fail
        go_ret
        exact ⟨by rw [HE.out]; rfl, rfl⟩
      · have hne : (y == id) = false := by simpa using hid
        have HID := Lib.hid hid
        clear hid
        go_wp2_with fail
        refine ⟨⟨k + 1, by omega, by push_cast; rfl, Lib.hid fun j h hj => ?_, by first | trivial | rfl⟩, by simp only [Go.RowKit.intOf]; omega⟩
        rcases Nat.lt_succ_iff_lt_or_eq.1 hj with h1 | rfl
        · exact HA.out j h h1
        · rw [HY.out]; exact HID.out
    · obtain rfl : k = L.length := by omega
      have HE := Lib.hid (atM_none fun j hj => HA.out j hj hj)
      go_wp2_with fail
      go_ret
      exact ⟨by rw [HE.out]; rfl, rfl⟩
/-- the document's new room -/
def rx0 (nm : List UInt8) (mb : Int) : Rx := ⟨nm, mb, [], [], [110, 116], [], 0, [], []⟩
theorem refNew_any (nm : List UInt8) (mb : Int) (w : World) :
    Calls Tryz.prog 50 #[.string (bs nm), .int .i64 mb] w fun e w' => ∃ B q, e = .returned (.pointer (some ⟨B, 0, none⟩)) ∧ RxAt w.heap.size B q (rx0 nm mb) w' ∧ Below w.heap.size w w' := by
  go_enter Tryz.func50, Tryz.ntmps50
  go_wp2_with fail
  go_ret
  exact ⟨w.heap.size, ⟨.slice none 0 0, .slice none 0 0, .slice none 0 0⟩, rfl, ⟨heap_alloc_new w _, ownM_nil _ _, ownT_nil _ _, World.ownsRow_nil _ _ _ _, Nat.le_refl _⟩, (Below.refl _ w).alloc (Nat.le_refl _) _⟩
set_option maxHeartbeats 4000000 in
theorem has10 {w : World} (A : Option Addr) (xs : List Int) (c : Nat) (x : Int) (hl : xs.length ≤ 1000000) (hA : ReadsI w A xs) :
    Calls Tryz.prog 32 #[.slice A xs.length c, .int .i64 x] w fun e w' => e = .returned (.bool (xs.contains x)) ∧ w' = w := by
  have HA := Lib.hid hA
  obtain ⟨b, hb⟩ : ∃ b, xs.contains x = b := ⟨_, rfl⟩
  rw [hb]
  have HB := Lib.hid hb
  clear hA hb
  go_enter Tryz.func32, Tryz.ntmps32
  go_wp2_with fail
  go_loopw [5] (fun i wr => ∃ k : Nat, i = .int .i64 k ∧ k ≤ xs.length ∧ Hid ((xs.take k).contains x = false) ∧ wr = w) (fun i _ => xs.length - (Go.RowKit.intOf i).toNat)
  case atStart => exact ⟨0, rfl, Nat.zero_le _, rfl, rfl⟩
  case round =>
    obtain ⟨k, rfl, hk, HQ, rfl⟩ := hrel
    by_cases hlt : k < xs.length
    · obtain ⟨g, o, rfl, _, ha⟩ := HA.out (by omega)
      have a1 := ha k hlt
      have htk : xs[k] ≠ x → (xs.take (k + 1)).contains x = false := fun e => by
        have h1 : x ∉ xs.take k := by simpa using HQ.out
        have h2 : x ∉ xs.take (k + 1) := by
          rw [List.take_succ_eq_append_getElem hlt, List.mem_append, List.mem_singleton, not_or]
          exact ⟨h1, fun h => e h.symm⟩
        simpa using h2
      obtain ⟨y, hy⟩ : ∃ y, xs[k] = y := ⟨_, rfl⟩
      have hmem : xs[k] ∈ xs := List.getElem_mem hlt
      rw [hy] at a1 htk hmem
      have p1 : (k : Int) < (xs.length : Int) := by omega
      by_cases e : y = x
      · subst e
        have hbt : b = true := by rw [← HB.out]; simpa using hmem
        clear ha htk hy hmem
        go_wp2_with fail
        go_ret
        exact ⟨by first | rfl | (rw [hbt]; rfl), rfl⟩
      · have he : (y == x) = false := by simpa using e
        have HT := Lib.hid (htk e)
        clear ha htk hy hmem
        go_wp2_with fail
        go_roundw
        case rel => exact ⟨k + 1, by go_num, by omega, HT, by first | rfl | trivial⟩
        case measure => simp [Go.RowKit.intOf]; omega
    · obtain rfl : k = xs.length := by omega
      have hbt : b = false := by have := HQ.out; rw [List.take_length, HB.out] at this; exact this
      have p1 : ¬ ((xs.length : Int) < (xs.length : Int)) := by omega
      go_wp2_with fail
      go_ret
      exact ⟨by first | rfl | (rw [hbt]; rfl), rfl⟩
/-- a row of the call's own, handed back -/
def RowP (base : Nat) (zs : List Int) (w : World) (e : Ending) (w' : World) : Prop := (∃ v', e = .returned v' ∧ OwnI base w' v' zs) ∧ Below w.heap.size w w'
set_option maxRecDepth 100000 in
set_option maxHeartbeats 4000000 in
theorem rem10 {w : World} (A : Option Addr) (xs : List Int) (c : Nat) (x : Int) (hl : xs.length ≤ 1000000) (hA : ReadsI w A xs) :
    Calls Tryz.prog 80 #[.slice A xs.length c, .int .i64 x] w (RowP w.heap.size (xs.filter fun y => decide (y ≠ x)) w) := by
  obtain ⟨i0, hi, hz0, hz1, hz2⟩ := info_parts Tryz.infoI
  have HA := Lib.hid hA
  clear hA
  go_enter Tryz.func80, Tryz.ntmps80
  go_wp2_with fail
  have h00 : OwnI w.heap.size w (.slice none 0 0) [] := own_nil _ _
  go_loopw [5, 6] (fun v i wr => ∃ k : Nat, i = .int .i64 k ∧ k ≤ xs.length ∧ Hid (OwnI w.heap.size wr v ((xs.take k).filter fun y => decide (y ≠ x)) ∧ Below w.heap.size w wr)) (fun _ i _ => xs.length - (Go.RowKit.intOf i).toNat)
  case atStart => exact ⟨0, rfl, Nat.zero_le _, h00, Below.refl _ _⟩
  case round =>
    clear h00
    obtain ⟨k, rfl, hk, HQ⟩ := hrel
    by_cases hlt : k < xs.length
    · obtain ⟨g, o, rfl, hg, ha⟩ := HA.out (by omega)
      obtain ⟨q1, q2⟩ := HQ.out
      have a1 : wr.cell? ⟨g, o + k, none⟩ = some (.int .i64 xs[k]) := (World.cell?_of_block (w := w) (w' := wr) (a := ⟨g, o + k, none⟩) (q2.block g hg)).trans (ha k hlt)
      have htk : (xs.take (k + 1)).filter (fun y => decide (y ≠ x)) = (xs.take k).filter (fun y => decide (y ≠ x)) ++ if xs[k] = x then [] else [xs[k]] := by
        rw [List.take_succ_eq_append_getElem hlt, List.filter_append]
        by_cases e : xs[k] = x <;> simp [e]
      obtain ⟨y, hy⟩ : ∃ y, xs[k] = y := ⟨_, rfl⟩
      have hfl : ((xs.take k).filter fun y => decide (y ≠ x)).length ≤ 1000000 := Nat.le_trans (List.length_filter_le _ _) (by rw [List.length_take]; omega)
      obtain ⟨zs, hzs⟩ : ∃ zs, (xs.take k).filter (fun y => decide (y ≠ x)) = zs := ⟨_, rfl⟩
      rw [hy] at a1 htk
      rw [hzs] at htk hfl q1
      have p1 : (k : Int) < (xs.length : Int) := by omega
      have hz := q2.size
      have hor : wr.ownsRow w.heap.size 3 1 u5 zs.length (zs.map (Value.int .i64)) := q1
      have HO := Lib.hid hor
      have H := Lib.hid (And.intro q1 (And.intro q2 htk))
      clear ha hy hzs q1 q2 htk hor
      by_cases e : y = x
      · subst e
        go_wp2_with fail
        obtain ⟨q1, q2, htk⟩ := H.out
        rw [if_pos rfl, List.append_nil] at htk
        have HN : Hid (OwnI w.heap.size wr u5 ((xs.take (k + 1)).filter fun z => decide (z ≠ y)) ∧ Below w.heap.size w wr) := ⟨by rw [htk]; exact q1, q2⟩
        clear q1 q2 htk
        go_roundw
        case rel => exact ⟨k + 1, by go_num, by omega, HN⟩
        case measure => simp [Go.RowKit.intOf]; omega
      · have he : (y != x) = true := by simpa using e
        go_wp2_with (at_builtin; refine Hid.out ?_)
        refine Lib.hid ?_
        refine wpList_app_fr rfl _ _ 56 rfl w.heap.size 3 i0 _ 1 8 Tryz.underlying56 hi hz0 hz1 hz2 rfl (by decide) u5 zs.length (zs.map (Value.int .i64)) rfl HO.out #[.int .i64 y] _ rfl rfl rfl (by intro u hu; simp at hu; subst hu; rfl) (by omega) (by decide) (by omega) ?_
        intro v1 W2 hown1 hfr1
        obtain ⟨q1, q2, htk⟩ := H.out
        rw [if_neg e] at htk
        have HN : Hid (OwnI w.heap.size W2 v1 ((xs.take (k + 1)).filter fun z => decide (z ≠ x)) ∧ Below w.heap.size w W2) := ⟨by rw [htk]; unfold OwnI; rw [List.length_append, List.map_append]; exact hown1, q2.trans (hfr1.below q2.size fun j _ ej => (q1.lt j ej).1)⟩
        clear q1 q2 htk hown1 hfr1
        go_wp2_with fail
        go_roundw
        case rel => exact ⟨k + 1, by go_num, by omega, HN⟩
        case measure => simp [Go.RowKit.intOf]; omega
    · obtain rfl : k = xs.length := by omega
      have p1 : ¬ ((xs.length : Int) < (xs.length : Int)) := by omega
      go_wp2_with fail
      go_ret
      obtain ⟨q1, q2⟩ := HQ.out
      rw [List.take_length] at q1
      simp only [ne_eq, decide_not] at q1
      exact ⟨⟨u5, rfl, q1⟩, q2⟩
theorem ownI_base {W : World} {base base' : Nat} {v : Value} {xs : List Int} (h : OwnI base W v xs) (hb : base' ≤ base) : OwnI base' W v xs := by
  obtain ⟨h1, h2⟩ := h
  refine ⟨h1, ?_⟩
  rcases h2 with h2 | ⟨g, cap, cur, h3, h4, h5⟩
  · exact .inl h2
  · exact .inr ⟨g, cap, cur, h3, by omega, h5⟩
/-- its blocks -/
def RxX (B : Nat) (q : RxV) (k : Nat) : Prop := k = B ∨ q.vl.ownBlock = some k ∨ q.vb.ownBlock = some k ∨ q.vg.ownBlock = some k
section
variable {base B : Nat} {q : RxV} {x : Rx} {W : World}
theorem RxAt.lt (h : RxAt base B q x W) : ∀ k, RxX B q k → base ≤ k ∧ k < W.heap.size := by
  obtain ⟨h1, h2, h3, h4, h9⟩ := h
  rintro k (rfl | e | e | e)
  · exact ⟨h9, blk_lt h1⟩
  · exact h2.lt k e
  · exact h3.lt k e
  · exact h4.lt k e
theorem RxAt.fr (h : RxAt base B q x W) {Z : Nat → Prop} {W' : World} (hf : Fr Z W W') (hz : ∀ k, RxX B q k → ¬ Z k) : RxAt base B q x W' := by
  have hl := h.lt
  obtain ⟨h1, h2, h3, h4, h9⟩ := h
  exact ⟨hf.blk h1 (hz _ (.inl rfl)), ownM_kept h2 fun g hg => hf.block g (h2.lt g hg).2 (hz _ (.inr (.inl hg))), ownT_kept h3 fun g hg => hf.block g (h3.lt g hg).2 (hz _ (.inr (.inr (.inl hg)))),
    own_kept h4 fun g hg => hf.block g (h4.lt g hg).2 (hz _ (.inr (.inr (.inr hg)))), h9⟩
theorem RxAt.below (h : RxAt base B q x W) {W' : World} (hb : RowKit.Below W.heap.size W W') : RxAt base B q x W' :=
  h.fr (Fr.of_below (X := fun _ => False) hb) fun _ _ e => e
theorem RxAt.sz (h : RxAt base B q x W) : base ≤ W.heap.size := by have := h.2.2.2.2; have := blk_lt h.1; omega
/-- no two of its parts share a block -/
theorem RxAt.apart (h : RxAt base B q x W) : (q.vl.ownBlock ≠ some B ∧ q.vb.ownBlock ≠ some B ∧ q.vg.ownBlock ≠ some B) ∧ (∀ k, q.vl.ownBlock = some k → q.vb.ownBlock ≠ some k ∧ q.vg.ownBlock ≠ some k) ∧ (∀ k, q.vb.ownBlock = some k → q.vg.ownBlock ≠ some k) := by
  obtain ⟨h1, h2, h3, h4, h9⟩ := h
  have tyo : ∀ {e : TypeId} {size n : Nat} {v : Value} {xs : List Value} {k : Nat}, W.ownsRow base e size v n xs → v.ownBlock = some k → ∃ cur, W.heap[k]? = some (.cells cur e (0, 0)) := fun {e size n v xs k} hr hk => by
    rcases hr.2 with ⟨rfl, _⟩ | ⟨g, cap, cur, rfl, _, hg, _⟩
    · cases hk
    · cases hk; exact ⟨cur, hg⟩
  have ne : ∀ {k : Nat} {c1 c2 : Array Value} {t1 t2 : TypeId}, t1 ≠ t2 → W.heap[k]? = some (.cells c1 t1 (0, 0)) → W.heap[k]? = some (.cells c2 t2 (0, 0)) → False := fun ht a b => by
    rw [a] at b; injection b with b; injection b with b1 b2 _; exact ht b2
  refine ⟨⟨fun e => ?_, fun e => ?_, fun e => ?_⟩, fun k hk => ⟨fun e => ?_, fun e => ?_⟩, fun k hk e => ?_⟩
  · obtain ⟨c, hc⟩ := tyo h2 e; exact ne (by decide) hc h1
  · obtain ⟨c, hc⟩ := tyo h3 e; exact ne (by decide) hc h1
  · obtain ⟨c, hc⟩ := tyo h4 e; exact ne (by decide) hc h1
  · obtain ⟨c, hc⟩ := tyo h2 hk; obtain ⟨d, hd⟩ := tyo h3 e; exact ne (by decide) hc hd
  · obtain ⟨c, hc⟩ := tyo h2 hk; obtain ⟨d, hd⟩ := tyo h4 e; exact ne (by decide) hc hd
  · obtain ⟨c, hc⟩ := tyo h3 hk; obtain ⟨d, hd⟩ := tyo h4 e; exact ne (by decide) hc hd
theorem RxAt.toL (h : RxAt base B q x W) {W' : World} {v : Value} {ms : List Mem} (ho : OwnM base W' v ms) (hb : W'.heap[B]? = some (rxO { x with L := ms } { q with vl := v })) (hf : Fr (fun k => k = B ∨ q.vl.ownBlock = some k) W W') :
    RxAt base B { q with vl := v } { x with L := ms } W' := by
  have ha := h.apart
  obtain ⟨h1, h2, h3, h4, h9⟩ := h
  refine ⟨hb, ho, ownT_kept h3 fun g hg => hf.block g (h3.lt g hg).2 ?_, own_kept h4 fun g hg => hf.block g (h4.lt g hg).2 ?_, h9⟩
  · rintro (e | e)
    · exact ha.1.2.1 (e ▸ hg)
    · exact (ha.2.1 g e).1 hg
  · rintro (e | e)
    · exact ha.1.2.2 (e ▸ hg)
    · exact (ha.2.1 g e).2 hg
theorem RxAt.toB (h : RxAt base B q x W) {W' : World} {v : Value} {bn : List (List UInt8)} (ho : OwnT base W' v bn) (hb : W'.heap[B]? = some (rxO { x with bans := bn } { q with vb := v })) (hf : Fr (fun k => k = B) W W') :
    RxAt base B { q with vb := v } { x with bans := bn } W' := by
  have ha := h.apart
  obtain ⟨h1, h2, h3, h4, h9⟩ := h
  refine ⟨hb, ownM_kept h2 fun g hg => hf.block g (h2.lt g hg).2 ?_, ho, own_kept h4 fun g hg => hf.block g (h4.lt g hg).2 ?_, h9⟩
  · exact fun e => ha.1.1 (e ▸ hg)
  · exact fun e => ha.1.2.2 (e ▸ hg)
theorem RxAt.toG (h : RxAt base B q x W) {W' : World} {v : Value} {gs : List Int} (ho : OwnI base W' v gs) (hb : W'.heap[B]? = some (rxO { x with gs := gs } { q with vg := v })) (hf : Fr (fun k => k = B) W W') :
    RxAt base B { q with vg := v } { x with gs := gs } W' := by
  have ha := h.apart
  obtain ⟨h1, h2, h3, h4, h9⟩ := h
  refine ⟨hb, ownM_kept h2 fun g hg => hf.block g (h2.lt g hg).2 ?_, ownT_kept h3 fun g hg => hf.block g (h3.lt g hg).2 ?_, ho, h9⟩
  · exact fun e => ha.1.1 (e ▸ hg)
  · exact fun e => ha.1.2.1 (e ▸ hg)
/-- a field anew that lies in the room's own block -/
theorem RxAt.toF (h : RxAt base B q x W) {W' : World} {x' : Rx} (hb : W'.heap[B]? = some (rxO x' q)) (h1 : x'.L = x.L) (h2 : x'.bans = x.bans) (h3 : x'.gs = x.gs) (hf : Fr (fun k => k = B) W W') : RxAt base B q x' W' := by
  have ha := h.apart
  obtain ⟨g1, g2, g3, g4, h9⟩ := h
  refine ⟨hb, ?_, ?_, ?_, h9⟩
  · rw [h1]; exact ownM_kept g2 fun g hg => hf.block g (g2.lt g hg).2 fun e => ha.1.1 (e ▸ hg)
  · rw [h2]; exact ownT_kept g3 fun g hg => hf.block g (g3.lt g hg).2 fun e => ha.1.2.1 (e ▸ hg)
  · rw [h3]; exact own_kept g4 fun g hg => hf.block g (g4.lt g hg).2 fun e => ha.1.2.2 (e ▸ hg)
end
/-- what is left of the document's room -/
def XW (base B : Nat) (q : RxV) (x' : Rx) (w w' : World) : Prop := ∃ q', RxAt base B q' x' w' ∧ Fr (RxX B q) w w' ∧ ∀ k, RxX B q' k → k < w.heap.size → RxX B q k
theorem XW.same {base B : Nat} {q : RxV} {x : Rx} {w w' : World} (h : RxAt base B q x w) (hb : RowKit.Below w.heap.size w w') : XW base B q x w w' := ⟨q, h.below hb, Fr.of_below hb, fun _ hk _ => hk⟩
theorem XW.around {base B : Nat} {q : RxV} {r' : Rx} {w W W' w' : World} (h : XW base B q r' W W') (h1 : RowKit.Below w.heap.size w W) (h2 : RowKit.Below W'.heap.size W' w') : XW base B q r' w w' := by
  obtain ⟨q', a, b, c⟩ := h
  exact ⟨q', a.below h2, ((Fr.of_below (X := RxX B q) h1).trans3 b fun _ _ e => e).trans3 (Fr.of_below (X := fun _ => False) h2) fun _ _ e => e.elim, fun k hk hl => c k hk (Nat.lt_of_lt_of_le hl h1.size)⟩
theorem XW.then {base B : Nat} {q q' : RxV} {r2 : Rx} {w w1 w2 : World} (f : Fr (RxX B q) w w1) (c : ∀ k, RxX B q' k → k < w.heap.size → RxX B q k) (h2 : XW base B q' r2 w1 w2) : XW base B q r2 w w2 := by
  obtain ⟨q2, a, b, d⟩ := h2
  exact ⟨q2, a, f.trans3 b fun k hk e => c k e hk, fun k hk hl => c k (d k hk (Nat.lt_of_lt_of_le hl f.size)) hl⟩
theorem XW.boxedZ {base B : Nat} {q : RxV} {r' : Rx} {w W W' w' : World} (h : XW base B q r' W W') (h1 : RowKit.Below w.heap.size w W) (hl : ∀ k, RxX B q k → k < w.heap.size) {Z : Nat → Prop} (hZ : ∀ k, Z k → w.heap.size ≤ k ∧ k < W.heap.size) (h2 : Fr Z W' w') : XW base B q r' w w' := by
  obtain ⟨q', a, b, c⟩ := h
  refine ⟨q', a.fr h2 fun k hk e => ?_, ((Fr.of_below (X := RxX B q) h1).trans3 b fun _ _ e => e).trans3 h2 fun k hk e => by have := (hZ k e).1; omega, fun k hk hl2 => c k hk (Nat.lt_of_lt_of_le hl2 h1.size)⟩
  have := hl _ (c _ hk (hZ k e).2)
  have := (hZ k e).1
  omega
/-- a member more, for the document -/
def addX (x : Rx) (id : Int) (op : Bool) : Rx := if 0 ≤ atM x.L id then x else { x with L := x.L ++ [(id, op, false)], gs := x.gs.filter fun y => decide (y ≠ id) }
set_option maxRecDepth 100000 in
set_option maxHeartbeats 8000000 in
theorem refAdd_any {base B : Nat} {q : RxV} {x : Rx} {w : World} (h : RxAt base B q x w) (id : Int) (op : Bool) (hl : x.L.length ≤ 100000) (hgl : x.gs.length ≤ 100000) :
    Calls Tryz.prog 51 #[.pointer (some ⟨B, 0, none⟩), .int .i64 id, .bool op] w fun e w' => (∃ v, e = .returned v) ∧ XW base B q (addX x id op) w w' := by
  have HP := Lib.hid (refAt_any h id (by omega))
  obtain ⟨x', hx'⟩ : ∃ x', addX x id op = x' := ⟨_, rfl⟩
  rw [hx']
  have H := Lib.hid (And.intro h (And.intro hx' hl))
  by_cases ha : 0 ≤ atM x.L id
  · have hr : addX x id op = x := by unfold addX; rw [if_pos ha]
    have HR := Lib.hid hr
    obtain ⟨a, haa⟩ : ∃ a, atM x.L id = a := ⟨_, rfl⟩
    rw [haa] at HP ha
    clear h hx' haa hr hl hgl
    go_enter Tryz.func51, Tryz.ntmps51
    go_wp2_with fail
    refine HP.out.mono ?_
    rintro e w1 ⟨rfl, rfl⟩
    go_wp2_with fail
    first | (refine bodyPost_ret (results_none rfl _ _ _) rfl ?_; exact ⟨⟨_, rfl⟩, by rw [← H.out.2.1, HR.out]; exact XW.same H.out.1 (Below.refl _ _)⟩) | (go_end0; exact ⟨⟨_, rfl⟩, by rw [← H.out.2.1, HR.out]; exact XW.same H.out.1 (Below.refl _ _)⟩)
  · have hr : addX x id op = { x with L := x.L ++ [(id, op, false)], gs := x.gs.filter fun y => decide (y ≠ id) } := by unfold addX; rw [if_neg ha]
    obtain ⟨gf, hgf⟩ : ∃ gf, (x.gs.filter fun y => decide (y ≠ id)) = gf := ⟨_, rfl⟩
    rw [hgf] at hr
    have HR := Lib.hid hr
    obtain ⟨a, haa⟩ : ∃ a, atM x.L id = a := ⟨_, rfl⟩
    rw [haa] at HP ha
    obtain ⟨A, c, hv⟩ := ownM_slice h.2.1
    have ho := h.2.1
    rw [hv] at ho
    obtain ⟨i0, hi0, hz0, hz1, hz2⟩ := info_parts Tryz.infoMb
    obtain ⟨A1, c1, A2, c2, W2, W3, hr1, hr2, o3, f2, f3⟩ := snoc_runs (P := Tryz.prog) 88 i0 _ 16 Tryz.underlying88 hi0 hz0 hz1 hz2 rfl (by decide) ho (fun u hu => encM_one hu) (by omega) (by decide) #[.int .i64 id, .bool op, .bool false] rfl (by intro u hu; simp at hu; rcases hu with rfl | rfl | rfl <;> rfl)
    obtain ⟨n, hn⟩ : ∃ n, x.L.length = n := ⟨_, rfl⟩
    have o3' : OwnM w.heap.size W3 (.slice A2 (n + 1) c2) (x.L ++ [(id, op, false)]) := by rw [← hn]; exact ownM_snoc o3
    rw [hn] at hr1 hr2
    have d1 := blk_cell (blk_alloc h.1 (.cells #[] 71)) 2
    have d1' : (w.alloc (.cells #[] 71)).cell? ⟨B, 2, none⟩ = some (.slice A n c) := by rw [d1, ← hn, ← hv]; rfl
    have k3 := f3.blk h.1 fun e => e
    have d3 := blk_cell k3 2
    have g3 := blk_free k3 2
    obtain ⟨W4, hW4⟩ : ∃ W4, W3.setCell ⟨B, 2, none⟩ (.slice A2 (n + 1) c2) = W4 := ⟨_, rfl⟩
    have f34 : Fr (fun k => k = B) W3 W4 := by rw [← hW4]; exact Fr.setCell (X := fun k => k = B) (Fr.refl _ W3) ⟨B, 2, none⟩ rfl _
    have f14 : Fr (fun k => k = B) w W4 := (f3.mono fun _ _ e => e.elim).trans3 f34 fun _ _ e => e
    have hBw : B < w.heap.size := blk_lt h.1
    have h4 : RxAt base B { q with vl := .slice A2 (n + 1) c2 } { x with L := x.L ++ [(id, op, false)] } W4 := h.toL (ownM_base (ownM_kept o3' fun g hg => f34.block g (o3'.lt g hg).2 fun e => by have := (o3'.lt g hg).1; omega) h.sz) (by rw [← hW4]; exact blk_set k3 2 _) (f14.mono fun k _ e => .inl e)
    have c4 : ∀ k, RxX B { q with vl := .slice A2 (n + 1) c2 } k → k < w.heap.size → RxX B q k := fun k hk hlt => by
      rcases hk with e | e | e | e
      · exact .inl e
      · have := (o3'.lt k e).1; omega
      · exact .inr (.inr (.inl e))
      · exact .inr (.inr (.inr e))
    obtain ⟨Ag, cg, hvg⟩ := row_slice h.2.2.2.1
    have hg4 := h4.2.2.2.1
    rw [hvg] at hg4
    have hrem := rem10 (w := W4) Ag x.gs cg id (by omega) (reads_ownI hg4)
    rw [hgf] at hrem
    obtain ⟨m, hm⟩ : ∃ m, x.gs.length = m := ⟨_, rfl⟩
    have e8 : W4.cell? ⟨B, 8, none⟩ = some (.slice Ag m cg) := by rw [← hm, ← hvg]; exact blk_cell h4.1 8
    rw [hm] at hrem
    have HREM := Lib.hid hrem
    clear hrem hgf
    have H4 := Lib.hid (And.intro h4 (And.intro c4 (f14.mono (Y := RxX B q) fun k _ e => .inl e)))
    clear h hx' haa hr hl hgl hv ho hi0 hz0 hz1 hz2 o3 o3' f2 f3 k3 f34 f14 hBw h4 c4 hg4 hvg hm hn d1
    go_enter Tryz.func51, Tryz.ntmps51
    go_wp2_with fail
    refine HP.out.mono ?_
    rintro e w1 ⟨rfl, rfl⟩
    go_wp2_with (first
      | (at_builtin; refine wpList_app_g rfl _ _ _ _ rfl (by exact hr1) ?_)
      | (at_builtin; refine wpList_app_g rfl _ _ _ _ rfl (by exact hr2) ?_))
    clear hW4 hr1 hr2 d1' d3 g3
    refine HREM.out.mono ?_
    rintro e w5 ⟨⟨v5, rfl, o5⟩, b5⟩
    have h5 := H4.out.1.below b5
    have HQ := Lib.hid (And.intro o5 b5)
    have e8' := blk_cell h5.1 8
    have g8 := blk_free h5.1 8
    obtain ⟨A5, c5, rfl⟩ := row_slice o5
    obtain ⟨lf, hlf⟩ : ∃ lf, gf.length = lf := ⟨_, rfl⟩
    rw [hlf] at o5 ⊢
    obtain ⟨W6, hW6⟩ : ∃ W6, w5.setCell ⟨B, 8, none⟩ (.slice A5 lf c5) = W6 := ⟨_, rfl⟩
    have f56 : Fr (fun k => k = B) w5 W6 := by rw [← hW6]; exact Fr.setCell (X := fun k => k = B) (Fr.refl _ w5) ⟨B, 8, none⟩ rfl _
    have o6 : OwnI W4.heap.size W6 (.slice A5 lf c5) gf := own_kept o5 fun g hg => f56.block g (o5.lt g hg).2 fun e => by have := (o5.lt g hg).1; have := blk_lt H4.out.1.1; omega
    have h6 : RxAt base B { { q with vl := .slice A2 (n + 1) c2 } with vg := .slice A5 lf c5 } { x with L := x.L ++ [(id, op, false)], gs := gf } W6 := h5.toG (ownI_base o6 H4.out.1.sz) (by rw [← hW6]; exact blk_set h5.1 8 _) f56
    have hzw := H4.out.2.2.size
    have hx6 : XW base B q (addX x id op) w1 W6 := by
      rw [HR.out]
      refine ⟨_, h6, (H4.out.2.2.trans3 (Fr.of_below (X := fun _ => False) b5) fun _ _ e => e.elim).trans3 f56 fun k _ e => .inl e, fun k hk hlt => ?_⟩
      rcases hk with e | e | e | e
      · exact .inl e
      · exact H4.out.2.1 k (.inr (.inl e)) hlt
      · exact .inr (.inr (.inl e))
      · have := (o6.lt k e).1; omega
    rw [H.out.2.1] at hx6
    have HX := Lib.hid hx6
    clear h5 o5 b5 o6 h6 f56 hx6 e8 hzw
    go_wp2_with fail
    go_end0
    exact ⟨⟨_, rfl⟩, HX.out⟩
/-- a member taken away, for the document -/
def dropX (x : Rx) (id : Int) : Rx := if 0 ≤ atM x.L id then { x with L := x.L.take (atM x.L id).toNat ++ x.L.drop ((atM x.L id).toNat + 1) } else x
theorem ownM_of {base : Nat} {W : World} {v : Value} {xs : List Mem} {n : Nat} {cs : List Value} (h : W.ownsRow base 71 3 v n cs) (hn : n = xs.length) (hc : cs = xs.flatMap encM) : OwnM base W v xs := by
  subst hn; subst hc; exact h
set_option maxRecDepth 100000 in
set_option maxHeartbeats 16000000 in
theorem refDrop_any {base B : Nat} {q : RxV} {x : Rx} {w : World} (h : RxAt base B q x w) (id : Int) (hl : x.L.length ≤ 100000) :
    Calls Tryz.prog 43 #[.pointer (some ⟨B, 0, none⟩), .int .i64 id] w fun e w' => e = .returned (.bool (decide (0 ≤ atM x.L id))) ∧ XW base B q (dropX x id) w w' := by
  have HP := Lib.hid (refAt_any h id (by omega))
  obtain ⟨x', hx'⟩ : ∃ x', dropX x id = x' := ⟨_, rfl⟩
  rw [hx']
  have H := Lib.hid (And.intro h (And.intro hx' hl))
  by_cases ha : 0 ≤ atM x.L id
  · obtain ⟨i, hi⟩ : ∃ i : Nat, atM x.L id = i := ⟨(atM x.L id).toNat, by omega⟩
    have hil := (atM_yes hi).1
    have hr : dropX x id = { x with L := x.L.take i ++ x.L.drop (i + 1) } := by unfold dropX; rw [if_pos ha, hi]; rfl
    have HR := Lib.hid hr
    rw [decide_eq_true ha]
    rw [hi] at HP
    obtain ⟨A, c, hv⟩ := ownM_slice h.2.1
    have ho := h.2.1
    rw [hv] at ho
    obtain ⟨i0, hi0, hz0, hz1, hz2⟩ := info_parts Tryz.infoMb
    obtain ⟨g, g1, o1, A1, c1, A2, c2, W2, W3, rfl, hnc, hs1, hs2, hr1, hr2, o3, f2, f3⟩ := del_runs_g (P := Tryz.prog) 88 i0 _ 16 Tryz.underlying88 hi0 hz0 hz1 hz2 rfl ho (fun u hu => encM_one hu) (by omega) (by decide) hil
    have o3' : OwnM w.heap.size W3 (.slice A2 (x.L.length - 1) c2) (x.L.take i ++ x.L.drop (i + 1)) := ownM_of o3 (by rw [List.length_append, List.length_take, List.length_drop]; omega) (by rw [List.flatMap_append, flat_take, flat_drop])
    obtain ⟨n, hn⟩ : ∃ n, x.L.length = n := ⟨_, rfl⟩
    rw [hn] at hr2 hnc hs1 hs2 o3' hil hl
    obtain ⟨W1, hW1⟩ : ∃ W1, (w.alloc (.cells #[] 71)).drew = W1 := ⟨_, rfl⟩
    rw [hW1] at hr1
    have HW := Lib.hid hW1
    have hvn : q.vl = .slice (some ⟨g, 0, none⟩) n c := by rw [← hn]; exact hv
    have d0 : w.drew.cell? ⟨B, 2, none⟩ = some (.slice (some ⟨g, 0, none⟩) n c) := by rw [← hvn]; exact blk_cell h.1 2
    have d1 : W1.cell? ⟨B, 2, none⟩ = some (.slice (some ⟨g, 0, none⟩) n c) := by rw [← hvn, ← hW1]; exact blk_cell (blk_alloc h.1 _) 2
    have d2 : W2.cell? ⟨B, 2, none⟩ = some (.slice (some ⟨g, 0, none⟩) n c) := by rw [← hvn]; exact blk_cell (f2.blk h.1 fun e => e) 2
    have k3 := f3.blk h.1 fun e => e
    have d3 : W3.cell? ⟨B, 2, none⟩ = some (.slice (some ⟨g, 0, none⟩) n c) := by rw [← hvn]; exact blk_cell k3 2
    have g3 := blk_free k3 2
    obtain ⟨m3, hm3⟩ : ∃ m3, n - 1 = m3 := ⟨_, rfl⟩
    obtain ⟨m, hm⟩ : ∃ m, n - (i + 1) = m := ⟨_, rfl⟩
    obtain ⟨m2, hm2⟩ : ∃ m2, c - (i + 1) = m2 := ⟨_, rfl⟩
    rw [hm, hm2] at hr2 hs2
    rw [hm3] at hr2 o3'
    obtain ⟨W4, hW4⟩ : ∃ W4, W3.setCell ⟨B, 2, none⟩ (.slice A2 m3 c2) = W4 := ⟨_, rfl⟩
    have f34 : Fr (fun k => k = B) W3 W4 := by rw [← hW4]; exact Fr.setCell (X := fun k => k = B) (Fr.refl _ W3) ⟨B, 2, none⟩ rfl _
    have f14 : Fr (fun k => k = B) w W4 := (f3.mono fun _ _ e => e.elim).trans3 f34 fun _ _ e => e
    have hBw : B < w.heap.size := blk_lt h.1
    have h4 : RxAt base B { q with vl := .slice A2 m3 c2 } { x with L := x.L.take i ++ x.L.drop (i + 1) } W4 := h.toL (ownM_base (ownM_kept o3' fun g hg => f34.block g (o3'.lt g hg).2 fun e => by have := (o3'.lt g hg).1; omega) h.sz) (by rw [← hW4]; exact blk_set k3 2 _) (f14.mono fun k _ e => .inl e)
    have hx4 : XW base B q x' w W4 := by
      rw [← hx', HR.out]
      refine ⟨_, h4, f14.mono fun k _ e => .inl e, fun k hk hlt => ?_⟩
      rcases hk with e | e | e | e
      · exact .inl e
      · have := (o3'.lt k e).1; omega
      · exact .inr (.inr (.inl e))
      · exact .inr (.inr (.inr e))
    have HX := Lib.hid hx4
    have HX4 := Lib.hid hW4
    have hp1 : ¬ ((i : Int) < 0) := by omega
    have hlt : IntKind.i64.wrap ((i : Int) + 1) = (i : Int) + 1 := IntWalk.i64_in _ ⟨by omega, by omega⟩
    clear h hx' ha hi hr hv ho hi0 hz0 hz1 hz2 o3 o3' f2 f3 k3 f34 f14 hBw h4 hx4 hn hm hm2 hm3 hvn hW1 hW4
    go_enter Tryz.func43, Tryz.ntmps43
    go_wp2_with fail
    refine HP.out.mono ?_
    rintro e w' ⟨rfl, rfl⟩
    go_wp2_with fail
    refine wp_region_z (S := fun V => V.cell? ⟨B, 2, none⟩ = some (.slice (some ⟨g, 0, none⟩) n c)) (z := 19) (by kernel_rfl) (by exact d0) (fun hHeld => ?_)
    refine wpAnyZ_read (i := 0) (oi := { dst := some 11, op := Go.Op.move (Go.Operand.tmp 0), type := 40, pos := "ref.go:53", after := #[], guard := none }) ?_ rfl (by kernel_rfl) (by kernel_rfl) (by kernel_rfl) (by kernel_rfl) (fun _ _ _ h => h) (by rfl) (by exact hHeld) ?_ ?_
    rotate_left
    · (intro w0 hS0; go_simp <;> (try with_reducible rfl))
    try simp only [Act.put, List.setIfInBounds_toArray, List.set_cons_zero, List.set_cons_succ]
    refine wpAnyZ_read (i := 2) (oi := { dst := some 13, op := Go.Op.move (Go.Operand.tmp 0), type := 40, pos := "ref.go:53", after := #[], guard := none }) ?_ rfl (by kernel_rfl) (by kernel_rfl) (by kernel_rfl) (by kernel_rfl) (fun _ _ _ h => h) (by rfl) (by exact hHeld) ?_ ?_
    rotate_left
    · (intro w0 hS0; go_simp <;> (try with_reducible rfl))
    try simp only [Act.put, List.setIfInBounds_toArray, List.set_cons_zero, List.set_cons_succ]
    refine wpAnyZ_read (i := 3) (oi := { dst := some 14, op := Go.Op.nilCheck (Go.Operand.tmp 13), type := 0, pos := "ref.go:53", after := #[{ on := 2, ground := Go.Ground.data }], guard := none }) ?_ rfl (by kernel_rfl) (by kernel_rfl) (by kernel_rfl) (by kernel_rfl) (fun _ _ _ h => h) (by rfl) (by exact hHeld) ?_ ?_
    rotate_left
    · (intro w0 hS0; go_simp <;> (try with_reducible rfl))
    try simp only [Act.put, List.setIfInBounds_toArray, List.set_cons_zero, List.set_cons_succ]
    refine wpAnyZ_read (i := 4) (oi := { dst := some 15, op := Go.Op.fieldAddr 90 (Go.Operand.tmp 14) 2, type := 0, pos := "ref.go:53", after := #[{ on := 3, ground := Go.Ground.data }], guard := none }) ?_ rfl (by kernel_rfl) (by kernel_rfl) (by kernel_rfl) (by kernel_rfl) (fun _ _ _ h => h) (by rfl) (by exact hHeld) ?_ ?_
    rotate_left
    · (intro w0 hS0; go_simp <;> (try with_reducible rfl))
    try simp only [Act.put, List.setIfInBounds_toArray, List.set_cons_zero, List.set_cons_succ]
    refine wpAnyZ_read (i := 6) (oi := { dst := some 17, op := Go.Op.move (Go.Operand.tmp 5), type := 3, pos := "ref.go:53", after := #[], guard := none }) ?_ rfl (by kernel_rfl) (by kernel_rfl) (by kernel_rfl) (by kernel_rfl) (fun _ _ _ h => h) (by rfl) (by exact hHeld) ?_ ?_
    rotate_left
    · (intro w0 hS0; go_simp <;> (try with_reducible rfl))
    try simp only [Act.put, List.setIfInBounds_toArray, List.set_cons_zero, List.set_cons_succ]
    refine wpAnyZ_read (i := 9) (oi := { dst := some 20, op := Go.Op.move (Go.Operand.tmp 0), type := 40, pos := "ref.go:53", after := #[], guard := none }) ?_ rfl (by kernel_rfl) (by kernel_rfl) (by kernel_rfl) (by kernel_rfl) (fun _ _ _ h => h) (by rfl) (by exact hHeld) ?_ ?_
    rotate_left
    · (intro w0 hS0; go_simp <;> (try with_reducible rfl))
    try simp only [Act.put, List.setIfInBounds_toArray, List.set_cons_zero, List.set_cons_succ]
    refine wpAnyZ_read (i := 10) (oi := { dst := some 21, op := Go.Op.nilCheck (Go.Operand.tmp 20), type := 0, pos := "ref.go:53", after := #[{ on := 9, ground := Go.Ground.data }], guard := none }) ?_ rfl (by kernel_rfl) (by kernel_rfl) (by kernel_rfl) (by kernel_rfl) (fun _ _ _ h => h) (by rfl) (by exact hHeld) ?_ ?_
    rotate_left
    · (intro w0 hS0; go_simp <;> (try with_reducible rfl))
    try simp only [Act.put, List.setIfInBounds_toArray, List.set_cons_zero, List.set_cons_succ]
    refine wpAnyZ_read (i := 11) (oi := { dst := some 22, op := Go.Op.fieldAddr 90 (Go.Operand.tmp 21) 2, type := 0, pos := "ref.go:53", after := #[{ on := 10, ground := Go.Ground.data }], guard := none }) ?_ rfl (by kernel_rfl) (by kernel_rfl) (by kernel_rfl) (by kernel_rfl) (fun _ _ _ h => h) (by rfl) (by exact hHeld) ?_ ?_
    rotate_left
    · (intro w0 hS0; go_simp <;> (try with_reducible rfl))
    try simp only [Act.put, List.setIfInBounds_toArray, List.set_cons_zero, List.set_cons_succ]
    refine wpAnyZ_read (i := 13) (oi := { dst := some 24, op := Go.Op.move (Go.Operand.tmp 5), type := 3, pos := "ref.go:53", after := #[], guard := none }) ?_ rfl (by kernel_rfl) (by kernel_rfl) (by kernel_rfl) (by kernel_rfl) (fun _ _ _ h => h) (by rfl) (by exact hHeld) ?_ ?_
    rotate_left
    · (intro w0 hS0; go_simp <;> (try with_reducible rfl))
    try simp only [Act.put, List.setIfInBounds_toArray, List.set_cons_zero, List.set_cons_succ]
    refine wpAnyZ_read (i := 14) (oi := { dst := some 25, op := Go.Op.binOp Go.BinOp.add 3 (Go.Operand.tmp 24) (Go.Operand.const (Go.Value.int Go.IntKind.i64 1)) 3, type := 3, pos := "ref.go:53", after := #[{ on := 13, ground := Go.Ground.data }], guard := none }) ?_ rfl (by kernel_rfl) (by kernel_rfl) (by kernel_rfl) (by kernel_rfl) (fun _ _ _ h => h) (by rfl) (by exact hHeld) ?_ ?_
    rotate_left
    · (intro w0 hS0; go_simp <;> (try with_reducible rfl))
    try simp only [Act.put, List.setIfInBounds_toArray, List.set_cons_zero, List.set_cons_succ]
    refine wpAnyZ_read (i := 5) (oi := { dst := some 16, op := Go.Op.load 88 (Go.Operand.tmp 15), type := 88, pos := "ref.go:53", after := #[{ on := 4, ground := Go.Ground.data }], guard := none }) ?_ rfl (by kernel_rfl) (by kernel_rfl) (by kernel_rfl) (by kernel_rfl) (fun _ _ _ h => h) (by rfl) (by exact hHeld) ?_ ?_
    rotate_left
    · (intro w0 hS0; go_simp <;> (try with_reducible rfl))
    try simp only [Act.put, List.setIfInBounds_toArray, List.set_cons_zero, List.set_cons_succ]
    refine wpAnyZ_read (i := 7) (oi := { dst := some 18, op := Go.Op.slice 88 (Go.Operand.tmp 16) none (some (Go.Operand.tmp 17)) none, type := 88, pos := "ref.go:53", after := #[{ on := 5, ground := Go.Ground.data }, { on := 6, ground := Go.Ground.data }], guard := none }) ?_ rfl (by kernel_rfl) (by kernel_rfl) (by kernel_rfl) (by kernel_rfl) (fun _ _ _ h => h) (by rfl) (by exact hHeld) ?_ ?_
    rotate_left
    · (intro w0 hS0; go_simp <;> (try with_reducible rfl))
    try simp only [Act.put, List.setIfInBounds_toArray, List.set_cons_zero, List.set_cons_succ]
    refine wpAnyZ_read (i := 12) (oi := { dst := some 23, op := Go.Op.load 88 (Go.Operand.tmp 22), type := 88, pos := "ref.go:53", after := #[{ on := 11, ground := Go.Ground.data }], guard := none }) ?_ rfl (by kernel_rfl) (by kernel_rfl) (by kernel_rfl) (by kernel_rfl) (fun _ _ _ h => h) (by rfl) (by exact hHeld) ?_ ?_
    rotate_left
    · (intro w0 hS0; go_simp <;> (try with_reducible rfl))
    try simp only [Act.put, List.setIfInBounds_toArray, List.set_cons_zero, List.set_cons_succ]
    refine wpAnyZ_read (i := 15) (oi := { dst := some 26, op := Go.Op.slice 88 (Go.Operand.tmp 23) (some (Go.Operand.tmp 25)) none none, type := 88, pos := "ref.go:53", after := #[{ on := 12, ground := Go.Ground.data }, { on := 14, ground := Go.Ground.data }], guard := none }) ?_ rfl (by kernel_rfl) (by kernel_rfl) (by kernel_rfl) (by kernel_rfl) (fun _ _ _ h => h) (by rfl) (by exact hHeld) ?_ ?_
    rotate_left
    · (intro w0 hS0; go_simp <;> (try with_reducible rfl))
    try simp only [Act.put, List.setIfInBounds_toArray, List.set_cons_zero, List.set_cons_succ]
    refine wpAnyZ_one (i := 1) (o := { dst := some 12, op := Go.Op.buildSlice 88 0 #[], type := 88, pos := "ref.go:53", after := #[], guard := none }) (by kernel_rfl) rfl (by rfl) (fun K hK => ?_)
    go_simp
    rw [HW.out]
    refine hK.out _ _ ?_ (fun hHeld => ?_)
    · exact d1
    clear hK K
    try simp only [Act.put, List.setIfInBounds_toArray, List.set_cons_zero, List.set_cons_succ]
    refine wpAnyZ_one (i := 8) (o := { dst := some 19, op := Go.Op.call { callee := Go.Callee.builtin Go.Builtin.append, args := #[Go.Operand.tmp 12, Go.Operand.tmp 18], argTypes := #[88, 88] }, type := 88, pos := "ref.go:53", after := #[{ on := 1, ground := Go.Ground.data }, { on := 7, ground := Go.Ground.data }], guard := none }) (by kernel_rfl) rfl (by rfl) (fun K hK => ?_)
    refine wp_app_run _ _ _ _ rfl hr1 ?_
    refine hK.out _ _ ?_ (fun hHeld => ?_)
    · exact d2
    clear hK K
    try simp only [Act.put, List.setIfInBounds_toArray, List.set_cons_zero, List.set_cons_succ]
    refine wpAnyZ_one (i := 16) (o := { dst := some 27, op := Go.Op.call { callee := Go.Callee.builtin Go.Builtin.append, args := #[Go.Operand.tmp 19, Go.Operand.tmp 26], argTypes := #[88, 88] }, type := 88, pos := "ref.go:53", after := #[{ on := 8, ground := Go.Ground.data }, { on := 15, ground := Go.Ground.data }, { on := 8, ground := Go.Ground.chain }], guard := none }) (by kernel_rfl) rfl (by rfl) (fun K hK => ?_)
    refine wp_app_run _ _ _ _ rfl hr2 ?_
    refine hK.out _ _ ?_ (fun hHeld => ?_)
    · exact d3
    clear hK K
    try simp only [Act.put, List.setIfInBounds_toArray, List.set_cons_zero, List.set_cons_succ]
    refine wpAnyZ_one (i := 17) (o := { dst := some 28, op := Go.Op.nilCheck (Go.Operand.tmp 11), type := 0, pos := "ref.go:53", after := #[{ on := 0, ground := Go.Ground.data }, { on := 0, ground := Go.Ground.phase }, { on := 1, ground := Go.Ground.phase }, { on := 2, ground := Go.Ground.phase }, { on := 3, ground := Go.Ground.phase }, { on := 4, ground := Go.Ground.phase }, { on := 5, ground := Go.Ground.phase }, { on := 6, ground := Go.Ground.phase }, { on := 7, ground := Go.Ground.phase }, { on := 8, ground := Go.Ground.phase }, { on := 9, ground := Go.Ground.phase }, { on := 10, ground := Go.Ground.phase }, { on := 11, ground := Go.Ground.phase }, { on := 12, ground := Go.Ground.phase }, { on := 13, ground := Go.Ground.phase }, { on := 14, ground := Go.Ground.phase }, { on := 15, ground := Go.Ground.phase }, { on := 16, ground := Go.Ground.phase }], guard := none }) (by kernel_rfl) rfl (by rfl) (fun K hK => ?_)
    go_simp
    refine hK.out _ _ ?_ (fun hHeld => ?_)
    · (first | assumption | trivial)
    clear hK K
    try simp only [Act.put, List.setIfInBounds_toArray, List.set_cons_zero, List.set_cons_succ]
    refine wpAnyZ_read (i := 18) (oi := { dst := some 29, op := Go.Op.fieldAddr 90 (Go.Operand.tmp 28) 2, type := 0, pos := "ref.go:53", after := #[{ on := 17, ground := Go.Ground.data }, { on := 0, ground := Go.Ground.phase }, { on := 1, ground := Go.Ground.phase }, { on := 2, ground := Go.Ground.phase }, { on := 3, ground := Go.Ground.phase }, { on := 4, ground := Go.Ground.phase }, { on := 5, ground := Go.Ground.phase }, { on := 6, ground := Go.Ground.phase }, { on := 7, ground := Go.Ground.phase }, { on := 8, ground := Go.Ground.phase }, { on := 9, ground := Go.Ground.phase }, { on := 10, ground := Go.Ground.phase }, { on := 11, ground := Go.Ground.phase }, { on := 12, ground := Go.Ground.phase }, { on := 13, ground := Go.Ground.phase }, { on := 14, ground := Go.Ground.phase }, { on := 15, ground := Go.Ground.phase }, { on := 16, ground := Go.Ground.phase }], guard := none }) ?_ rfl (by kernel_rfl) (by kernel_rfl) (by kernel_rfl) (by kernel_rfl) (fun _ _ _ h => h) (by rfl) (by exact hHeld) ?_ ?_
    rotate_left
    · (intro w0 hS0; go_simp <;> (try with_reducible rfl))
    try simp only [Act.put, List.setIfInBounds_toArray, List.set_cons_zero, List.set_cons_succ]
    refine wpAnyZ_last (o := { dst := none, op := Go.Op.store 88 (Go.Operand.tmp 29) (Go.Operand.tmp 27), type := 0, pos := "ref.go:53", after := #[{ on := 18, ground := Go.Ground.data }, { on := 16, ground := Go.Ground.data }, { on := 16, ground := Go.Ground.chain }, { on := 0, ground := Go.Ground.phase }, { on := 1, ground := Go.Ground.phase }, { on := 2, ground := Go.Ground.phase }, { on := 3, ground := Go.Ground.phase }, { on := 4, ground := Go.Ground.phase }, { on := 5, ground := Go.Ground.phase }, { on := 6, ground := Go.Ground.phase }, { on := 7, ground := Go.Ground.phase }, { on := 8, ground := Go.Ground.phase }, { on := 9, ground := Go.Ground.phase }, { on := 10, ground := Go.Ground.phase }, { on := 11, ground := Go.Ground.phase }, { on := 12, ground := Go.Ground.phase }, { on := 13, ground := Go.Ground.phase }, { on := 14, ground := Go.Ground.phase }, { on := 15, ground := Go.Ground.phase }, { on := 16, ground := Go.Ground.phase }], guard := none }) (by kernel_rfl) rfl (by rfl) (fun K hK => ?_)
    go_simp
    refine hK.out _ _ ?_
    clear hK K
    try simp only [Act.put, List.setIfInBounds_toArray, List.set_cons_zero, List.set_cons_succ]
    refine wpAnyZ_done (by kernel_rfl) ?_ _
    rw [HX4.out]
    go_wp2_with fail
    go_ret
    exact ⟨rfl, HX.out⟩
  · have hr : dropX x id = x := by unfold dropX; rw [if_neg ha]
    have HR := Lib.hid hr
    rw [decide_eq_false ha]
    obtain ⟨a, haa⟩ : ∃ a, atM x.L id = a := ⟨_, rfl⟩
    rw [haa] at HP ha
    clear h hx' haa hr hl
    go_enter Tryz.func43, Tryz.ntmps43
    go_wp2_with fail
    refine HP.out.mono ?_
    rintro e w1 ⟨rfl, rfl⟩
    go_wp2_with fail
    go_ret
    exact ⟨rfl, by rw [← H.out.2.1, HR.out]; exact XW.same H.out.1 (Below.refl _ _)⟩
end Go.Proofs.YtlkeomcillencaaGreat
end
section
/- Mathematics: a map as the list of its entries, as they came last. -/
namespace Go.Proofs.YtlkeomcillencaaGreat
open Go Go.Maps

section
variable {H α β : Type} [DecidableEq α]
/-- k has v now; it stands last -/
def setM (T : List (α × β)) (k : α) (v : β) : List (α × β) := T.filter (fun p => decide (p.1 ≠ k)) ++ [(k, v)]
/-- k has nothing now -/
def delM (T : List (α × β)) (k : α) : List (α × β) := T.filter (fun p => decide (p.1 ≠ k))
def lookM (T : List (α × β)) (k : α) : Option β := (T.find? fun p => decide (p.1 = k)).map (·.2)
/-- D reads as the entries T, no key twice -/
structure MapHas (ek : α → Lit) (ev : β → DataW H) (D : DataW H) (T : List (α × β)) : Prop where
  nodup : (T.map (·.1)).Nodup
  at_ : ∀ p ∈ T, has D (ek p.1) = true ∧ ∀ z, D.atKey (ek p.1) z = ev p.2
  only : ∀ kl, has D kl = true → ∃ p ∈ T, ek p.1 = kl
  size : Maps.size D = T.length
theorem nodup_delM {T : List (α × β)} (h : (T.map (·.1)).Nodup) (k : α) : ((delM T k).map (·.1)).Nodup := h.sublist ((List.filter_sublist).map _)
theorem nodup_setM {T : List (α × β)} (h : (T.map (·.1)).Nodup) (k : α) (v : β) : ((setM T k v).map (·.1)).Nodup := by
  unfold setM
  rw [List.map_append, List.nodup_append]
  refine ⟨nodup_delM h k, by simp, fun a ha b hb => ?_⟩
  simp only [List.mem_map, List.mem_filter, decide_eq_true_eq] at ha
  obtain ⟨p, ⟨_, hp⟩, rfl⟩ := ha
  simp at hb
  rw [hb]; exact hp
theorem len_delM {T : List (α × β)} (h : (T.map (·.1)).Nodup) (k : α) : (delM T k).length + (if (T.any fun p => decide (p.1 = k)) then 1 else 0) = T.length := by
  induction T with
  | nil => rfl
  | cons a r ih =>
    rw [List.map_cons, List.nodup_cons] at h
    have ih := ih h.2
    unfold delM at *
    by_cases e : a.1 = k
    · subst e
      have hr : (r.any fun p => decide (p.1 = a.1)) = false := by
        rw [List.any_eq_false]
        intro p hp
        simp
        exact fun e => h.1 (e ▸ List.mem_map_of_mem hp)
      rw [hr] at ih
      simp at ih ⊢
      simpa using ih
    · rw [List.filter_cons_of_pos (by simpa using e), List.any_cons, List.length_cons, List.length_cons]
      simp only [e, decide_false, Bool.false_or]
      omega
omit [DecidableEq α] in
theorem mapHas_empty (ek : α → Lit) (ev : β → DataW H) : MapHas ek ev (.map [] : DataW H) [] := ⟨by simp, by simp, fun kl h => by simp [has] at h, rfl⟩
theorem MapHas.has_iff {ek : α → Lit} {ev : β → DataW H} {D : DataW H} {T : List (α × β)} (h : MapHas ek ev D T) (hi : ∀ a b, ek a = ek b → a = b) (k : α) : has D (ek k) = T.any fun p => decide (p.1 = k) := by
  cases hb : T.any fun p => decide (p.1 = k) with
  | true =>
    rw [List.any_eq_true] at hb
    obtain ⟨p, hp, e⟩ := hb
    simp at e
    rw [← e]; exact (h.at_ p hp).1
  | false =>
    cases hh : has D (ek k) with
    | false => rfl
    | true =>
      obtain ⟨p, hp, e⟩ := h.only _ hh
      rw [List.any_eq_false] at hb
      have := hb p hp
      simp [hi _ _ e] at this
theorem MapHas.put {ek : α → Lit} {ev : β → DataW H} {D : DataW H} {T : List (α × β)} (h : MapHas ek ev D T) (hi : ∀ a b, ek a = ek b → a = b) (ht : Tidy D) (k : α) (hk : WideAt.IsKeyLit (ek k)) (v : β) : MapHas ek ev (D.put (ek k) (ev v)) (setM T k v) := by
  refine ⟨nodup_setM h.nodup k v, fun p hp => ?_, fun kl hl => ?_, ?_⟩
  · unfold setM at hp
    rw [List.mem_append] at hp
    rcases hp with hp | hp
    · simp only [List.mem_filter, decide_eq_true_eq] at hp
      have hne : ek p.1 ≠ ek k := fun e => hp.2 (hi _ _ e)
      obtain ⟨q1, q2⟩ := h.at_ p hp.1
      exact ⟨by rw [has_put_other hne]; exact q1, fun z => by rw [atKey_put_other hne]; exact q2 z⟩
    · simp at hp
      subst hp
      exact ⟨has_put_same ht.isMap hk _, fun z => atKey_put_same ht.isMap hk _ _⟩
  · by_cases e : kl = ek k
    · exact ⟨(k, v), by simp [setM], e.symm⟩
    · rw [has_put_other e] at hl
      obtain ⟨p, hp, e2⟩ := h.only kl hl
      refine ⟨p, ?_, e2⟩
      unfold setM
      rw [List.mem_append, List.mem_filter]
      exact .inl ⟨hp, by simp; exact fun e3 => e (by rw [← e2, e3])⟩
  · rw [size_put ht, h.has_iff hi, h.size]
    have := len_delM h.nodup k
    unfold setM
    rw [List.length_append, List.length_singleton]
    unfold delM at this
    split
    · rename_i e; rw [if_pos e] at this; omega
    · rename_i e; rw [if_neg e] at this; omega
theorem MapHas.del {ek : α → Lit} {ev : β → DataW H} {D : DataW H} {T : List (α × β)} (h : MapHas ek ev D T) (hi : ∀ a b, ek a = ek b → a = b) (ht : Tidy D) (k : α) : MapHas ek ev (D.del (ek k)) (delM T k) := by
  refine ⟨nodup_delM h.nodup k, fun p hp => ?_, fun kl hl => ?_, ?_⟩
  · simp only [delM, List.mem_filter, decide_eq_true_eq] at hp
    have hne : ek p.1 ≠ ek k := fun e => hp.2 (hi _ _ e)
    obtain ⟨q1, q2⟩ := h.at_ p hp.1
    exact ⟨by rw [has_del_other hne]; exact q1, fun z => by rw [atKey_del_other hne]; exact q2 z⟩
  · by_cases e : kl = ek k
    · subst e; rw [has_del_same] at hl; cases hl
    · rw [has_del_other e] at hl
      obtain ⟨p, hp, e2⟩ := h.only kl hl
      refine ⟨p, ?_, e2⟩
      rw [delM, List.mem_filter]
      exact ⟨hp, by simp; exact fun e3 => e (by rw [← e2, e3])⟩
  · have h1 := size_del (k := ek k) ht
    rw [h.has_iff hi, h.size] at h1
    have := len_delM h.nodup k
    omega
theorem MapHas.look {ek : α → Lit} {ev : β → DataW H} {D : DataW H} {T : List (α × β)} (h : MapHas ek ev D T) (hi : ∀ a b, ek a = ek b → a = b) (k : α) (z : DataW H) : D.atKey (ek k) z = match lookM T k with | some v => ev v | none => z := by
  unfold lookM
  cases hf : T.find? fun p => decide (p.1 = k) with
  | none =>
    rw [List.find?_eq_none] at hf
    refine atKey_of_not_has ?_ z
    rw [h.has_iff hi, List.any_eq_false]
    exact hf
  | some p =>
    have h1 := List.mem_of_find?_eq_some hf
    have h2 := List.find?_some hf
    simp at h2
    rw [← h2]
    exact (h.at_ p h1).2 z
theorem MapHas.has_look {ek : α → Lit} {ev : β → DataW H} {D : DataW H} {T : List (α × β)} (h : MapHas ek ev D T) (hi : ∀ a b, ek a = ek b → a = b) (k : α) : has D (ek k) = (lookM T k).isSome := by
  rw [h.has_iff hi]
  unfold lookM
  cases hf : T.find? fun p => decide (p.1 = k) with
  | none =>
    rw [List.find?_eq_none] at hf
    rw [List.any_eq_false.2 hf]; rfl
  | some p =>
    rw [List.any_eq_true.2 ⟨p, List.mem_of_find?_eq_some hf, List.find?_some hf⟩]; rfl
/-- what of T has come, and what is left -/
def CameM (ek : α → Lit) (T pre : List (α × β)) (left : Lit → Bool) : Prop := ∃ r, (pre ++ r).Perm T ∧ ∀ k, left (ek k) = r.any fun p => decide (p.1 = k)
theorem came_start {ek : α → Lit} {ev : β → DataW H} {D : DataW H} {T : List (α × β)} (h : MapHas ek ev D T) (hi : ∀ a b, ek a = ek b → a = b) : CameM ek T [] (has D) := ⟨T, by simp, fun k => h.has_iff hi k⟩
theorem came_step {ek : α → Lit} {ev : β → DataW H} {D : DataW H} {T pre : List (α × β)} {left : Lit → Bool} (h : MapHas ek ev D T) (hi : ∀ a b, ek a = ek b → a = b) (hv : ∀ a b, ev a = ev b → a = b) (hc : CameM ek T pre left) {k : α} {v : β} (hk : WideAt.IsKeyLit (ek k)) (hl : left (ek k) = true)
    (hat : ∀ z, D.atKey (ek k) z = ev v) : ∃ r, (pre ++ (k, v) :: r).Perm T ∧ CameM ek T (pre ++ [(k, v)]) (fun z => left z && !z.sameKey (ek k)) := by
  obtain ⟨r, hp, hr⟩ := hc
  have h1 := hr k
  rw [hl] at h1
  obtain ⟨p, hpm, e⟩ := List.any_eq_true.1 h1.symm
  simp at e
  have hpT : p ∈ T := hp.mem_iff.1 (List.mem_append_right _ hpm)
  have h2 := (h.at_ p hpT).2 (.map [])
  rw [e, hat] at h2
  have hpe : p = (k, v) := by rw [← e, hv _ _ h2]
  subst hpe
  obtain ⟨r1, r2, rfl⟩ := List.append_of_mem hpm
  have hp2 : (pre ++ (k, v) :: (r1 ++ r2)).Perm T := by
    refine List.Perm.trans ?_ hp
    refine List.Perm.append_left pre ?_
    exact (List.perm_middle).symm
  refine ⟨r1 ++ r2, hp2, r1 ++ r2, by simpa using hp2, fun k2 => ?_⟩
  have hnd : ((pre ++ (k, v) :: (r1 ++ r2)).map (·.1)).Nodup := (hp2.map _).nodup_iff.2 h.nodup
  rw [List.map_append, List.nodup_append] at hnd
  have hn2 := hnd.2.1
  rw [List.map_cons, List.nodup_cons] at hn2
  show (left (ek k2) && !(ek k2).sameKey (ek k)) = _
  rw [hr k2]
  by_cases e2 : k2 = k
  · subst e2
    rw [WideAt.sameKey_self hk]
    simp only [Bool.not_true, Bool.and_false]
    symm
    rw [List.any_eq_false]
    intro q hq
    simp
    exact fun e3 => hn2.1 (List.mem_map.2 ⟨q, hq, e3⟩)
  · have : (ek k2).sameKey (ek k) = false := sameKey_ne fun e3 => e2 (hi _ _ e3)
    rw [this]
    have e3 : ¬ k = k2 := fun e => e2 e.symm
    simp [e3]
theorem came_end {ek : α → Lit} {T pre : List (α × β)} {left : Lit → Bool} (hc : CameM ek T pre left) (hl : ∀ kl, left kl = false) : pre.Perm T := by
  obtain ⟨r, hp, hr⟩ := hc
  have : r = [] := by
    cases r with
    | nil => rfl
    | cons a r =>
      have := hr a.1
      rw [hl] at this
      simp at this
  subst this
  simpa using hp
end
end Go.Proofs.YtlkeomcillencaaGreat
end
section
/- A range over a function that tells a row in whatever order (a map's entries): as RangeF, but for the order. -/
namespace Go.Proofs.YtlkeomcillencaaGreat
open Go Go.RowKit

/-- what a function that ranges is worth, if it tells xs in whatever order out of blocks Y -/
def SeqP {α : Type} (P : Program) (g : Nat) (lb : Array Value) (encs : α → Array Value) (Y : Nat → Prop) (xs : List α) (w : World) : Prop :=
  ∀ (l : Nat) (J Jx : List α → (Nat → Prop) → World → Prop) (X : Nat → Prop) (V : World), SameX Y w V → (∀ b, Y b → b < V.heap.size) → (∀ k, X k → k < V.heap.size ∧ ¬ Y k) → Stays J → Stays Jx →
    (∀ pre x r X1 V1, (pre ++ x :: r).Perm xs → GrowX X X1 V V1 → J pre X1 V1 → Fr X V V1 →
      YieldAt Fence.wide 0 P l (encs x) V1 fun e V' => ∃ X2, GrowX X1 X2 V1 V' ∧ Fr X1 V1 V' ∧ ((e = .returned (.bool true) ∧ J (pre ++ [x]) X2 V') ∨ (e = .returned (.bool false) ∧ Jx (pre ++ [x]) X2 V'))) →
    J [] X V → Calls P g (#[.func (.yield l) #[] #[]] ++ lb) V fun e V' => (∃ v, e = .returned v) ∧ ∃ X2, GrowX X X2 V V' ∧ Fr X V V' ∧ ((∃ ys, ys.Perm xs ∧ J ys X2 V') ∨ ∃ pre r, (pre ++ r).Perm xs ∧ Jx pre X2 V')
/-- the rounds, of whatever loop: what the function that ranges makes of them -/
theorem range_coreP {P : Program} {n : Nat} {α : Type} {ps : Array Tmp} {assign body : Code} {fn : Nat} {tmps : Array Value} {d gf l : Nat} {lb : Array Value} {Y X E : Nat → Prop} {encs : α → Array Value} {xs : List α} {w V1 : World}
    (I : List α → (Nat → Prop) → World → Prop) (Ix : Code → List α → (Nat → Prop) → World → Prop)
    (hseq : SeqP P gf lb encs Y xs w) (hX : ∀ k, X k → k < w.heap.size ∧ ¬ Y k) (hY : ∀ b, Y b → b < w.heap.size) (hps : ∀ x, (encs x).size = ps.size) (hI : Stays I) (hIx : ∀ c, Stays (Ix c)) (h0 : I [] X w)
    (hw : Fr (fun _ => False) w V1) (hl : w.heap.size ≤ l) (hE : ∀ k, E k → w.heap.size ≤ k ∧ k < V1.heap.size ∧ k ≠ l) (hr : V1.heap[l]? = some (.loop (recF fn tmps ps assign body d .ready none)))
    (hround : ∀ pre x r X1 V (K : Act → World → Prop) rb, (pre ++ x :: r).Perm xs → I pre X1 V → GrowX X X1 w V → (∀ k, X1 k → k ≠ l ∧ ¬ E k) → Fr X w V → l < V.heap.size →
      (∀ a1 Va, Fr (fun _ => False) V Va → (∀ Vb, Fr (fun k => k = l) V Vb → Vb.heap.size = Va.heap.size → (∀ k, k ≠ l → Vb.heap[k]? = Va.heap[k]?) → Vb.heap[l]? = some (.loop rb) → body.wpIn (Fence.wide.inRound l) n P (EndF l rb X1 I Ix (pre ++ [x]) V) a1 Vb) → K a1 Va) →
      assign.wpIn (Fence.wide.inRound l) n P (Exit.then K fun _ _ _ => False) { tmps := (ps.zip (encs x)).foldl (fun t (p, v) => t.setIfInBounds p v) tmps, defers := [] } V) :
    Calls P gf (#[.func (.yield l) #[] #[]] ++ lb) V1 fun e V2 => (∃ v, e = .returned v) ∧ ∃ X2, GrowX X X2 w V2 ∧ (∀ k, X2 k → k ≠ l ∧ ¬ E k) ∧ Fr X w V2 ∧ (∀ k, E k → V2.heap[k]? = V1.heap[k]?) ∧ l < V2.heap.size ∧
      ((∃ ys, ys.Perm xs ∧ I ys X2 V2 ∧ V2.heap[l]? = some (.loop (recF fn tmps ps assign body d .ready none))) ∨ ∃ pre r c, (pre ++ r).Perm xs ∧ Ix c pre X2 V2 ∧ V2.heap[l]? = some (.loop (recF fn tmps ps assign body d .done (some c)))) := by
  have hlV := blk_lt hr
  have key : ∀ (Q : List α → (Nat → Prop) → World → Prop) (o : Obj), Stays Q → Stays (fun pre X' V => ∃ X1, (∀ k, X' k ↔ (X1 k ∨ k = l ∨ E k)) ∧ Q pre X1 V ∧ V.heap[l]? = some o ∧ (∀ k, E k → V.heap[k]? = V1.heap[k]?) ∧ (∀ k, X1 k → k ≠ l ∧ ¬ E k)) := fun Q o hQ s X' V V' ⟨X1, h1, h2, h3, h4, h5⟩ hlt hf =>
    ⟨X1, h1, hQ s X1 V V' h2 (fun k hk => hlt k ((h1 k).2 (.inl hk))) (hf.mono fun k _ hn e => hn ((h1 k).2 (.inl e))), (hf.block l (blk_lt h3) (fun e => e ((h1 l).2 (.inr (.inl rfl))))).trans h3,
      fun k hk => (hf.block k (hlt k ((h1 k).2 (.inr (.inr hk)))) (fun e => e ((h1 k).2 (.inr (.inr hk))))).trans (h4 k hk), h5⟩
  have thru : ∀ {V2 : World}, Fr (fun k => X k ∨ k = l ∨ E k) V1 V2 → Fr X w V2 := fun hf => (hw.mono fun _ _ h => h.elim).trans3 hf fun k hk e => by
    rcases e with e | rfl | e
    · exact e
    · omega
    · have := (hE k e).1; omega
  have grow : ∀ {X' X1 : Nat → Prop} {V2 : World}, (∀ k, X' k ↔ (X1 k ∨ k = l ∨ E k)) → GrowX (fun k => X k ∨ k = l ∨ E k) X' V1 V2 → GrowX X X1 w V2 := fun h1 hg k hk => by
    have h2 := hg k ((h1 k).2 (.inl hk))
    refine ⟨h2.1, fun hlt => ?_⟩
    rcases h2.2 (Nat.lt_of_lt_of_le hlt hw.size) with e | rfl | e
    · exact e
    · omega
    · have := (hE k e).1; omega
  refine (hseq l (fun pre X' V => ∃ X1, (∀ k, X' k ↔ (X1 k ∨ k = l ∨ E k)) ∧ I pre X1 V ∧ V.heap[l]? = some (.loop (recF fn tmps ps assign body d .ready none)) ∧ (∀ k, E k → V.heap[k]? = V1.heap[k]?) ∧ (∀ k, X1 k → k ≠ l ∧ ¬ E k))
    (fun pre X' V => ∃ c, ∃ X1, (∀ k, X' k ↔ (X1 k ∨ k = l ∨ E k)) ∧ Ix c pre X1 V ∧ V.heap[l]? = some (.loop (recF fn tmps ps assign body d .done (some c))) ∧ (∀ k, E k → V.heap[k]? = V1.heap[k]?) ∧ (∀ k, X1 k → k ≠ l ∧ ¬ E k))
    (fun k => X k ∨ k = l ∨ E k) V1 (fun b hb => hw.block b (hY b hb) fun e => e) (fun b hb => Nat.lt_of_lt_of_le (hY b hb) hw.size) ?hX (key I _ hI) (fun s X' V V' ⟨c, h⟩ h1 h2 => ⟨c, key (Ix c) _ (hIx c) s X' V V' h h1 h2⟩) ?round
    ⟨X, fun k => Iff.rfl, hI [] X w V1 h0 (fun k hk => (hX k hk).1) (hw.mono fun _ _ h => h.elim), hr, fun _ _ => rfl, fun k hk => ⟨by have := (hX k hk).1; omega, fun e => by have := (hX k hk).1; have := (hE k e).1; omega⟩⟩).mono ?behind
  case hX =>
    rintro k (e | rfl | e)
    · exact ⟨Nat.lt_of_lt_of_le (hX k e).1 hw.size, (hX k e).2⟩
    · exact ⟨hlV, fun e => by have := hY _ e; omega⟩
    · exact ⟨(hE k e).2.1, fun e2 => by have := hY _ e2; have := (hE k e).1; omega⟩
  case behind =>
    rintro e V2 ⟨hv, X', hg, hf, (⟨ys, hys, X1, h1, h2, h3, h4, h5⟩ | ⟨pre, r, hpr, c, X1, h1, h2, h3, h4, h5⟩)⟩
    · exact ⟨hv, X1, grow h1 hg, h5, thru hf, h4, blk_lt h3, .inl ⟨ys, hys, h2, h3⟩⟩
    · exact ⟨hv, X1, grow h1 hg, h5, thru hf, h4, blk_lt h3, .inr ⟨pre, r, c, hpr, h2, h3⟩⟩
  case round =>
    rintro pre x r X' V hpx hgx ⟨X1, h1, h2, h3, h4, h5⟩ hfx
    have hy := run_yield (P := P) (args := encs x) h3 (by exact hps x)
    have hlv := blk_lt h3
    have hV1 := hfx.size
    obtain ⟨rb, hrb⟩ : ∃ rb : Loop, { recF fn tmps ps assign body d .ready none with state := .busy } = rb := ⟨_, rfl⟩
    refine ⟨fn, _, assign, body, hy, round_wide (n := n) (.inl rfl) (roundIn_of_wpIn (F := Fence.wide) trivial (hround pre x r X1 V _ rb hpx h2 (grow h1 hgx) h5 (thru hfx) hlv fun a1 Va hfa hbody => ⟨_, run_beginRound (hfa.blk h3 fun h => h) rfl, ?_⟩))⟩
    rw [hrb]
    have hla : l < Va.heap.size := Nat.lt_of_lt_of_le hlv hfa.size
    refine wpIn_mono (hbody (Va.putObj l (.loop rb)) (Fr.putObj (X := fun k => k = l) (hfa.mono fun _ _ h => h.elim) l rfl _) (putObj_size _ _ _) (fun k hk => World.putObj_heap_other hk) (World.putObj_heap_same hla)) ?_
    have fin : ∀ (Q : List α → (Nat → Prop) → World → Prop), Stays Q → ∀ {X2 : Nat → Prop} {V3 : World} (o : Obj), GrowX X1 X2 V V3 → Fr (fun k => k = l ∨ X1 k) V V3 → Q (pre ++ [x]) X2 V3 →
        GrowX X' (fun k => X2 k ∨ k = l ∨ E k) V (V3.putObj l o) ∧ Fr X' V (V3.putObj l o) ∧ ∃ X1', (∀ k, (X2 k ∨ k = l ∨ E k) ↔ (X1' k ∨ k = l ∨ E k)) ∧ Q (pre ++ [x]) X1' (V3.putObj l o) ∧ (V3.putObj l o).heap[l]? = some o ∧ (∀ k, E k → (V3.putObj l o).heap[k]? = V1.heap[k]?) ∧ (∀ k, X1' k → k ≠ l ∧ ¬ E k) := fun Q hQ X2 V3 o g2 f2 q2 => by
      have hl3 : l < V3.heap.size := Nat.lt_of_lt_of_le hlv f2.size
      have hEV : ∀ k, E k → k < V.heap.size := fun k hk => Nat.lt_of_lt_of_le (hE k hk).2.1 hV1
      have x2 : ∀ k, X2 k → k ≠ l ∧ ¬ E k := fun k hk => ⟨fun e => by subst e; exact (h5 _ ((g2 _ hk).2 hlv)).1 rfl, fun e => (h5 _ ((g2 _ hk).2 (hEV k e))).2 e⟩
      refine ⟨fun k hk => ?_, (f2.putObj l (.inl rfl) o).mono fun k _ e => ?_, X2, fun k => Iff.rfl, hQ _ X2 V3 _ q2 (fun k hk => (g2 k hk).1) ((Fr.refl _ V3).putObj l (fun e => (x2 l e).1 rfl) o), World.putObj_heap_same hl3, fun k hk => ?_, x2⟩
      · rw [putObj_size]
        rcases hk with hk | rfl | hk
        · exact ⟨(g2 k hk).1, fun hlt => (h1 k).2 (.inl ((g2 k hk).2 hlt))⟩
        · exact ⟨hl3, fun _ => (h1 _).2 (.inr (.inl rfl))⟩
        · exact ⟨Nat.lt_of_lt_of_le (hEV k hk) f2.size, fun _ => (h1 _).2 (.inr (.inr hk))⟩
      · rcases e with rfl | e
        · exact (h1 _).2 (.inr (.inl rfl))
        · exact (h1 _).2 (.inl e)
      · refine (World.putObj_heap_other (hE k hk).2.2).trans ((f2.block k (hEV k hk) ?_).trans (h4 k hk))
        rintro (e | e)
        · exact (hE k hk).2.2 e
        · exact (h5 k e).2 hk
    rintro e a3 V3 hp
    cases e with
    | normal =>
      obtain ⟨X2, g2, f2, r2, i2⟩ := hp
      have hend := run_endRound (P := P) none r2
      rw [← hrb] at hend
      obtain ⟨q1, q2, q3⟩ := fin I hI _ g2 f2 i2
      exact ⟨_, _, hend, _, q1, q2, .inl ⟨rfl, q3⟩⟩
    | ret =>
      obtain ⟨X2, g2, f2, r2, i2⟩ := hp
      have hend := run_endRound (P := P) (some .ret) r2
      rw [← hrb] at hend
      obtain ⟨q1, q2, q3⟩ := fin _ (hIx .ret) _ g2 f2 i2
      exact ⟨_, _, hend, _, q1, q2, .inr ⟨rfl, _, q3⟩⟩
    | exit id =>
      obtain ⟨X2, g2, f2, r2, i2⟩ := hp
      have hend := run_endRound (P := P) (some (.exit id)) r2
      rw [← hrb] at hend
      obtain ⟨q1, q2, q3⟩ := fin _ (hIx (.exit id)) _ g2 f2 i2
      exact ⟨_, _, hend, _, q1, q2, .inr ⟨rfl, _, q3⟩⟩
    | goto t =>
      obtain ⟨X2, g2, f2, r2, i2⟩ := hp
      have hend := run_endRound (P := P) (some (.goto t)) r2
      rw [← hrb] at hend
      obtain ⟨q1, q2, q3⟩ := fin _ (hIx (.goto t)) _ g2 f2 i2
      exact ⟨_, _, hend, _, q1, q2, .inr ⟨rfl, _, q3⟩⟩
    | panic ch => exact hp.elim
    | outgrown => exact hp.elim
/-- an outermost loop -/
theorem wpIn_rangeP {n : Nat} {P : Program} {w : World} {α : Type} {a : Act} {Q : Exit → Act → World → Prop} {g : Operand} {assign body : Code} {ps : Array Tmp} {gf : Nat} {lb : Array Value}
    {X Y : Nat → Prop} {encs : α → Array Value} {xs : List α} (I : List α → (Nat → Prop) → World → Prop) (Ix : Code → List α → (Nat → Prop) → World → Prop)
    (hg : a.eval g = .func (.func gf) #[] lb) (hseq : SeqP P gf lb encs Y xs w) (hX : ∀ k, X k → k < w.heap.size ∧ ¬ Y k) (hY : ∀ b, Y b → b < w.heap.size) (h1 : 1 ≤ n)
    (eg : ∀ args v, (callFunc gf args).run P v = .ok (.enter gf args) v) (hps : ∀ x, (encs x).size = ps.size) (hI : Stays I) (hIx : ∀ c, Stays (Ix c)) (h0 : I [] X w)
    (hround : ∀ l pre x r X1 V (K : Act → World → Prop) rb, w.heap.size ≤ l → (pre ++ x :: r).Perm xs → I pre X1 V → GrowX X X1 w V → ¬ X1 l → Fr X w V → l < V.heap.size →
      (∀ a1 Va, Fr (fun _ => False) V Va → (∀ Vb, Fr (fun k => k = l) V Vb → Vb.heap.size = Va.heap.size → (∀ k, k ≠ l → Vb.heap[k]? = Va.heap[k]?) → Vb.heap[l]? = some (.loop rb) → body.wpIn (Fence.wide.inRound l) (n - 1 - 1) P (EndF l rb X1 I Ix (pre ++ [x]) V) a1 Vb) → K a1 Va) →
      assign.wpIn (Fence.wide.inRound l) (n - 1 - 1) P (Exit.then K fun _ _ _ => False) { tmps := (ps.zip (encs x)).foldl (fun t (p, v) => t.setIfInBounds p v) a.tmps, defers := [] } V)
    (hdone : ∀ D ys X2 V, ys.Perm xs → w.heap.size ≤ D → ¬ X2 D → GrowX X X2 w V → Fr X w V → I ys X2 V → V.heap[D]? = some (.deferred (some [])) → Q .normal { a with defers := { target := .collected D, args := #[] } :: a.defers } V)
    (hstop : ∀ D c pre r X2 V, w.heap.size ≤ D → (pre ++ r).Perm xs → ¬ X2 D → GrowX X X2 w V → Fr X w V → Ix c pre X2 V → V.heap[D]? = some (.deferred (some [])) → c.wpIn Fence.wide n P Q { a with defers := { target := .collected D, args := #[] } :: a.defers } V) :
    (Code.rangeFunc g ps assign body).wpIn Fence.wide n P Q a w := by
  refine wpIn_rangeFunc fun fn hfn => ?_
  obtain ⟨V1, hV1⟩ : ∃ V1, (w.alloc (.deferred (some []))).alloc (.loop (recF fn a.tmps ps assign body w.heap.size .ready none)) = V1 := ⟨_, rfl⟩
  have hz : V1.heap.size = w.heap.size + 2 := by rw [← hV1]; simp
  have hr : V1.heap[w.heap.size + 1]? = some (.loop (recF fn a.tmps ps assign body w.heap.size .ready none)) := by
    subst hV1
    have h := World.alloc_heap_new (w.alloc (.deferred (some []))) (.loop (recF fn a.tmps ps assign body w.heap.size .ready none))
    rwa [World.size_alloc] at h
  have hd : V1.heap[w.heap.size]? = some (.deferred (some [])) := by
    subst hV1
    exact (Below.heap_alloc _ _ _ (by simp)).trans (World.alloc_heap_new w _)
  have hw : Fr (fun _ => False) w V1 := by subst hV1; exact ((Fr.refl _ w).alloc _).alloc _
  refine ⟨w.heap.size + 1, [{ target := .collected w.heap.size, args := #[] }], V1, { target := .fn (.func gf) lb, args := #[.func (.yield (w.heap.size + 1)) #[] #[]] }, V1, gf, #[.func (.yield (w.heap.size + 1)) #[] #[]] ++ lb, V1, ?_, ?_, ?_, ?_, fun _ => h1, ?_⟩
  · rw [← hV1]; exact run_enterLoop_outer _ _ _ _ _
  · simp only [resolve, hg]; simp [go_sem]
  · intro f' _; trivial
  · simp [invoke, go_sem, eg]
  refine (calls_wide (.inl rfl) (range_coreP (n := n - 1 - 1) (E := fun k => k = w.heap.size) I Ix hseq hX hY hps hI hIx h0 hw (by omega) (fun k hk => by subst hk; omega) hr
    (fun pre x r X1 V K rb h1 h2 h3 h4 h5 h6 h7 => hround (w.heap.size + 1) pre x r X1 V K rb (by omega) h1 h2 h3 (fun e => (h4 _ e).1 rfl) h5 h6 h7))).mono ?_
  rintro e V2 ⟨⟨v, rfl⟩, X2, g2, x2, f2, e2, l2, h⟩
  have hD : ∀ o, (V2.putObj (w.heap.size + 1) o).heap[w.heap.size]? = some (.deferred (some [])) := fun o => (World.putObj_heap_other (by omega)).trans ((e2 _ rfl).trans hd)
  have hput : ∀ o, Fr X w (V2.putObj (w.heap.size + 1) o) := fun o => f2.trans3 ((Fr.refl (fun k => k = w.heap.size + 1) V2).putObj _ rfl o) fun k hk e => by omega
  have hst : ∀ o, Fr (fun k => ¬ X2 k) V2 (V2.putObj (w.heap.size + 1) o) := fun o => (Fr.refl _ V2).putObj _ (fun e => (x2 _ e).1 rfl) o
  have hgr : ∀ o, GrowX X X2 w (V2.putObj (w.heap.size + 1) o) := fun o k hk => by rw [putObj_size]; exact g2 k hk
  rcases h with ⟨ys, hys, hi, hr2⟩ | ⟨pre, r, c, hpr, hi, hr2⟩
  · exact ⟨none, _, run_endLoop (P := P) hr2 (by simp [recF]), hdone _ ys X2 _ hys (Nat.le_refl _) (fun e => (x2 _ e).2 rfl) (hgr _) (hput _) (hI ys X2 V2 _ hi (fun k hk => (g2 k hk).1) (hst _)) (hD _)⟩
  · exact ⟨some c, _, run_endLoop (P := P) hr2 (by simp [recF]), hstop _ c pre r X2 _ (Nat.le_refl _) hpr (fun e => (x2 _ e).2 rfl) (hgr _) (hput _) (hIx c _ X2 V2 _ hi (fun k hk => (g2 k hk).1) (hst _)) (hD _)⟩
end Go.Proofs.YtlkeomcillencaaGreat
end
