/- Texts of this proof, one behind the other. -/
import Derived.Test.YtlkeomcillencaaGreatRoomsPeersG12
import Derived.Test.YtlkeomcillencaaGreatRoomsPeersG16
import Derived.Test.YtlkeomcillencaaGreatRoomsPeersG13
import Derived.BigQuiet
import Derived.Test.YtlkeomcillencaaGreatRoomsPeersG14
import Derived.Test.YtlkeomcillencaaGreatRoomsPeersG15
set_option linter.unusedVariables false
set_option linter.unusedSimpArgs false
section
/- Layer 19: the document's room as it lies: At, New, Add, Drop. -/
namespace Go.Proofs.YtlkeomcillencaaGreat
open Go Go.RowKit Go.Lib

/-- the document's room -/
structure Rx where
  nm : List UInt8
  mb : Int
  L : List Mem
  tp : List UInt8
  on : List UInt8
  key : List UInt8
  lim : Int
  bans : List (List UInt8)
  gs : List Int
structure RxV where
  vl : Value
  vb : Value
  vg : Value
def rxO (x : Rx) (q : RxV) : Obj := .cells #[.string (bs x.nm), .int .i64 x.mb, q.vl, .string (bs x.tp), .string (bs x.on), .string (bs x.key), .int .i64 x.lim, q.vb, q.vg] 90 (0, 0)
def RxAt (base B : Nat) (q : RxV) (x : Rx) (W : World) : Prop :=
  W.heap[B]? = some (rxO x q) ∧ OwnM base W q.vl x.L ∧ OwnT base W q.vb x.bans ∧ OwnI base W q.vg x.gs ∧ base ≤ B
theorem atM_first : ∀ {l : List Mem} {id : Int} {k : Nat} (h : k < l.length), l[k].1 = id → (∀ j (hj : j < k), (l[j]'(by omega)).1 ≠ id) → atM l id = k
  | [], _, _, h, _, _ => absurd h (Nat.not_lt_zero _)
  | a :: l, id, 0, _, h1, _ => by unfold atM; rw [if_pos (by simpa using h1)]; rfl
  | a :: l, id, k + 1, h, h1, h2 => by
    have ih := atM_first (l := l) (id := id) (k := k) (by simpa using h) (by simpa using h1) (fun j hj => by simpa using h2 (j + 1) (by omega))
    unfold atM
    rw [if_neg (by simpa using h2 0 (by omega)), if_neg (by omega)]
    omega
theorem atM_none {l : List Mem} {id : Int} (h : ∀ j (hj : j < l.length), l[j].1 ≠ id) : atM l id = -1 := by
  have h1 := (atM_lt l id).1
  have h2 : atM l id < 0 := atM_no.2 (hasM_no.2 fun a ha => by obtain ⟨j, hj, rfl⟩ := List.getElem_of_mem ha; exact h j hj)
  omega
set_option maxRecDepth 100000 in
set_option maxHeartbeats 4000000 in
theorem refAt_any {base B : Nat} {q : RxV} {x : Rx} {w : World} (h : RxAt base B q x w) (id : Int) (hl : x.L.length ≤ 1000000) :
    Calls Tryz.prog 49 #[.pointer (some ⟨B, 0, none⟩), .int .i64 id] w fun e w' => e = .returned (.int .i64 (atM x.L id)) ∧ w' = w := by
  have c2 : w.cell? ⟨B, 2, none⟩ = some q.vl := blk_cell h.1 2
  obtain ⟨A, c, hv⟩ := ownM_slice h.2.1
  rw [hv] at c2
  have hown := h.2.1
  rw [hv] at hown
  have HR := Lib.hid (reads_ownM hown)
  obtain ⟨L, hL⟩ : ∃ L, x.L = L := ⟨_, rfl⟩
  rw [hL] at HR c2 hl ⊢
  clear h hv hown hL
  go_enter Tryz.func49, Tryz.ntmps49
  go_wp2_with fail
  go_loopw [5] (fun s wr => ∃ k : Nat, k ≤ L.length ∧ s = .int .i64 k ∧ Hid (∀ j (hj : j < L.length), j < k → L[j].1 ≠ id) ∧ wr = w) (fun s _ => L.length - (Go.RowKit.intOf s).toNat)
  case atStart => exact ⟨0, Nat.zero_le _, rfl, Lib.hid fun _ _ h => absurd h (Nat.not_lt_zero _), rfl⟩
  case round =>
    obtain ⟨k, hk, rfl, HA, rfl⟩ := hrel
    by_cases hlt : k < L.length
    · obtain ⟨g, o, rfl, hg, hc⟩ := HR.out (by omega)
      have e0 := (hc k hlt).1
      obtain ⟨y, hy⟩ : ∃ y, L[k].1 = y := ⟨_, rfl⟩
      rw [hy] at e0
      have HY := Lib.hid hy
      clear hc hy hg
      by_cases hid : y = id
      · have he : atM L id = k := atM_first hlt (HY.out.trans hid) fun j hj => HA.out j (by omega) hj
        have HE := Lib.hid he
        have hye : (y == id) = true := by rw [hid]; simp
        clear he hid
        go_wp2_with fail
        go_ret
        exact ⟨by rw [HE.out]; rfl, rfl⟩
      · have hne : (y == id) = false := by simpa using hid
        have HID := Lib.hid hid
        clear hid
        go_wp2_with fail
        refine ⟨⟨k + 1, by omega, by push_cast; rfl, Lib.hid fun j h hj => ?_, by first | trivial | rfl⟩, by simp only [Go.RowKit.intOf]; omega⟩
        rcases Nat.lt_succ_iff_lt_or_eq.1 hj with h1 | rfl
        · exact HA.out j h h1
        · rw [HY.out]; exact HID.out
    · obtain rfl : k = L.length := by omega
      have HE := Lib.hid (atM_none fun j hj => HA.out j hj hj)
      go_wp2_with fail
      go_ret
      exact ⟨by rw [HE.out]; rfl, rfl⟩
/-- the document's new room -/
def rx0 (nm : List UInt8) (mb : Int) : Rx := ⟨nm, mb, [], [], [110, 116], [], 0, [], []⟩
theorem refNew_any (nm : List UInt8) (mb : Int) (w : World) :
    Calls Tryz.prog 50 #[.string (bs nm), .int .i64 mb] w fun e w' => ∃ B q, e = .returned (.pointer (some ⟨B, 0, none⟩)) ∧ RxAt w.heap.size B q (rx0 nm mb) w' ∧ Below w.heap.size w w' := by
  go_enter Tryz.func50, Tryz.ntmps50
  go_wp2_with fail
  go_ret
  exact ⟨w.heap.size, ⟨.slice none 0 0, .slice none 0 0, .slice none 0 0⟩, rfl, ⟨heap_alloc_new w _, ownM_nil _ _, ownT_nil _ _, World.ownsRow_nil _ _ _ _, Nat.le_refl _⟩, (Below.refl _ w).alloc (Nat.le_refl _) _⟩
set_option maxHeartbeats 4000000 in
theorem has10 {w : World} (A : Option Addr) (xs : List Int) (c : Nat) (x : Int) (hl : xs.length ≤ 1000000) (hA : ReadsI w A xs) :
    Calls Tryz.prog 32 #[.slice A xs.length c, .int .i64 x] w fun e w' => e = .returned (.bool (xs.contains x)) ∧ w' = w := by
  have HA := Lib.hid hA
  obtain ⟨b, hb⟩ : ∃ b, xs.contains x = b := ⟨_, rfl⟩
  rw [hb]
  have HB := Lib.hid hb
  clear hA hb
  go_enter Tryz.func32, Tryz.ntmps32
  go_wp2_with fail
  go_loopw [5] (fun i wr => ∃ k : Nat, i = .int .i64 k ∧ k ≤ xs.length ∧ Hid ((xs.take k).contains x = false) ∧ wr = w) (fun i _ => xs.length - (Go.RowKit.intOf i).toNat)
  case atStart => exact ⟨0, rfl, Nat.zero_le _, rfl, rfl⟩
  case round =>
    obtain ⟨k, rfl, hk, HQ, rfl⟩ := hrel
    by_cases hlt : k < xs.length
    · obtain ⟨g, o, rfl, _, ha⟩ := HA.out (by omega)
      have a1 := ha k hlt
      have htk : xs[k] ≠ x → (xs.take (k + 1)).contains x = false := fun e => by
        have h1 : x ∉ xs.take k := by simpa using HQ.out
        have h2 : x ∉ xs.take (k + 1) := by
          rw [List.take_succ_eq_append_getElem hlt, List.mem_append, List.mem_singleton, not_or]
          exact ⟨h1, fun h => e h.symm⟩
        simpa using h2
      obtain ⟨y, hy⟩ : ∃ y, xs[k] = y := ⟨_, rfl⟩
      have hmem : xs[k] ∈ xs := List.getElem_mem hlt
      rw [hy] at a1 htk hmem
      have p1 : (k : Int) < (xs.length : Int) := by omega
      by_cases e : y = x
      · subst e
        have hbt : b = true := by rw [← HB.out]; simpa using hmem
        clear ha htk hy hmem
        go_wp2_with fail
        go_ret
        exact ⟨by first | rfl | (rw [hbt]; rfl), rfl⟩
      · have he : (y == x) = false := by simpa using e
        have HT := Lib.hid (htk e)
        clear ha htk hy hmem
        go_wp2_with fail
        go_roundw
        case rel => exact ⟨k + 1, by go_num, by omega, HT, by first | rfl | trivial⟩
        case measure => simp [Go.RowKit.intOf]; omega
    · obtain rfl : k = xs.length := by omega
      have hbt : b = false := by have := HQ.out; rw [List.take_length, HB.out] at this; exact this
      have p1 : ¬ ((xs.length : Int) < (xs.length : Int)) := by omega
      go_wp2_with fail
      go_ret
      exact ⟨by first | rfl | (rw [hbt]; rfl), rfl⟩
/-- a row of the call's own, handed back -/
def RowP (base : Nat) (zs : List Int) (w : World) (e : Ending) (w' : World) : Prop := (∃ v', e = .returned v' ∧ OwnI base w' v' zs) ∧ Below w.heap.size w w'
set_option maxRecDepth 100000 in
set_option maxHeartbeats 4000000 in
theorem rem10 {w : World} (A : Option Addr) (xs : List Int) (c : Nat) (x : Int) (hl : xs.length ≤ 1000000) (hA : ReadsI w A xs) :
    Calls Tryz.prog 80 #[.slice A xs.length c, .int .i64 x] w (RowP w.heap.size (xs.filter fun y => decide (y ≠ x)) w) := by
  obtain ⟨i0, hi, hz0, hz1, hz2⟩ := info_parts Tryz.infoI
  have HA := Lib.hid hA
  clear hA
  go_enter Tryz.func80, Tryz.ntmps80
  go_wp2_with fail
  have h00 : OwnI w.heap.size w (.slice none 0 0) [] := own_nil _ _
  go_loopw [5, 6] (fun v i wr => ∃ k : Nat, i = .int .i64 k ∧ k ≤ xs.length ∧ Hid (OwnI w.heap.size wr v ((xs.take k).filter fun y => decide (y ≠ x)) ∧ Below w.heap.size w wr)) (fun _ i _ => xs.length - (Go.RowKit.intOf i).toNat)
  case atStart => exact ⟨0, rfl, Nat.zero_le _, h00, Below.refl _ _⟩
  case round =>
    clear h00
    obtain ⟨k, rfl, hk, HQ⟩ := hrel
    by_cases hlt : k < xs.length
    · obtain ⟨g, o, rfl, hg, ha⟩ := HA.out (by omega)
      obtain ⟨q1, q2⟩ := HQ.out
      have a1 : wr.cell? ⟨g, o + k, none⟩ = some (.int .i64 xs[k]) := (World.cell?_of_block (w := w) (w' := wr) (a := ⟨g, o + k, none⟩) (q2.block g hg)).trans (ha k hlt)
      have htk : (xs.take (k + 1)).filter (fun y => decide (y ≠ x)) = (xs.take k).filter (fun y => decide (y ≠ x)) ++ if xs[k] = x then [] else [xs[k]] := by
        rw [List.take_succ_eq_append_getElem hlt, List.filter_append]
        by_cases e : xs[k] = x <;> simp [e]
      obtain ⟨y, hy⟩ : ∃ y, xs[k] = y := ⟨_, rfl⟩
      have hfl : ((xs.take k).filter fun y => decide (y ≠ x)).length ≤ 1000000 := Nat.le_trans (List.length_filter_le _ _) (by rw [List.length_take]; omega)
      obtain ⟨zs, hzs⟩ : ∃ zs, (xs.take k).filter (fun y => decide (y ≠ x)) = zs := ⟨_, rfl⟩
      rw [hy] at a1 htk
      rw [hzs] at htk hfl q1
      have p1 : (k : Int) < (xs.length : Int) := by omega
      have hz := q2.size
      have hor : wr.ownsRow w.heap.size 3 1 u5 zs.length (zs.map (Value.int .i64)) := q1
      have HO := Lib.hid hor
      have H := Lib.hid (And.intro q1 (And.intro q2 htk))
      clear ha hy hzs q1 q2 htk hor
      by_cases e : y = x
      · subst e
        go_wp2_with fail
        obtain ⟨q1, q2, htk⟩ := H.out
        rw [if_pos rfl, List.append_nil] at htk
        have HN : Hid (OwnI w.heap.size wr u5 ((xs.take (k + 1)).filter fun z => decide (z ≠ y)) ∧ Below w.heap.size w wr) := ⟨by rw [htk]; exact q1, q2⟩
        clear q1 q2 htk
        go_roundw
        case rel => exact ⟨k + 1, by go_num, by omega, HN⟩
        case measure => simp [Go.RowKit.intOf]; omega
      · have he : (y != x) = true := by simpa using e
        go_wp2_with (at_builtin; refine Hid.out ?_)
        refine Lib.hid ?_
        refine wpList_app_fr rfl _ _ 56 rfl w.heap.size 3 i0 _ 1 8 Tryz.underlying56 hi hz0 hz1 hz2 rfl (by decide) u5 zs.length (zs.map (Value.int .i64)) rfl HO.out #[.int .i64 y] _ rfl rfl rfl (by intro u hu; simp at hu; subst hu; rfl) (by omega) (by decide) (by omega) ?_
        intro v1 W2 hown1 hfr1
        obtain ⟨q1, q2, htk⟩ := H.out
        rw [if_neg e] at htk
        have HN : Hid (OwnI w.heap.size W2 v1 ((xs.take (k + 1)).filter fun z => decide (z ≠ x)) ∧ Below w.heap.size w W2) := ⟨by rw [htk]; unfold OwnI; rw [List.length_append, List.map_append]; exact hown1, q2.trans (hfr1.below q2.size fun j _ ej => (q1.lt j ej).1)⟩
        clear q1 q2 htk hown1 hfr1
        go_wp2_with fail
        go_roundw
        case rel => exact ⟨k + 1, by go_num, by omega, HN⟩
        case measure => simp [Go.RowKit.intOf]; omega
    · obtain rfl : k = xs.length := by omega
      have p1 : ¬ ((xs.length : Int) < (xs.length : Int)) := by omega
      go_wp2_with fail
      go_ret
      obtain ⟨q1, q2⟩ := HQ.out
      rw [List.take_length] at q1
      simp only [ne_eq, decide_not] at q1
      exact ⟨⟨u5, rfl, q1⟩, q2⟩
theorem ownI_base {W : World} {base base' : Nat} {v : Value} {xs : List Int} (h : OwnI base W v xs) (hb : base' ≤ base) : OwnI base' W v xs := by
  obtain ⟨h1, h2⟩ := h
  refine ⟨h1, ?_⟩
  rcases h2 with h2 | ⟨g, cap, cur, h3, h4, h5⟩
  · exact .inl h2
  · exact .inr ⟨g, cap, cur, h3, by omega, h5⟩
/-- its blocks -/
def RxX (B : Nat) (q : RxV) (k : Nat) : Prop := k = B ∨ q.vl.ownBlock = some k ∨ q.vb.ownBlock = some k ∨ q.vg.ownBlock = some k
section
variable {base B : Nat} {q : RxV} {x : Rx} {W : World}
theorem RxAt.lt (h : RxAt base B q x W) : ∀ k, RxX B q k → base ≤ k ∧ k < W.heap.size := by
  obtain ⟨h1, h2, h3, h4, h9⟩ := h
  rintro k (rfl | e | e | e)
  · exact ⟨h9, blk_lt h1⟩
  · exact h2.lt k e
  · exact h3.lt k e
  · exact h4.lt k e
theorem RxAt.fr (h : RxAt base B q x W) {Z : Nat → Prop} {W' : World} (hf : Fr Z W W') (hz : ∀ k, RxX B q k → ¬ Z k) : RxAt base B q x W' := by
  have hl := h.lt
  obtain ⟨h1, h2, h3, h4, h9⟩ := h
  exact ⟨hf.blk h1 (hz _ (.inl rfl)), ownM_kept h2 fun g hg => hf.block g (h2.lt g hg).2 (hz _ (.inr (.inl hg))), ownT_kept h3 fun g hg => hf.block g (h3.lt g hg).2 (hz _ (.inr (.inr (.inl hg)))),
    own_kept h4 fun g hg => hf.block g (h4.lt g hg).2 (hz _ (.inr (.inr (.inr hg)))), h9⟩
theorem RxAt.below (h : RxAt base B q x W) {W' : World} (hb : RowKit.Below W.heap.size W W') : RxAt base B q x W' :=
  h.fr (Fr.of_below (X := fun _ => False) hb) fun _ _ e => e
theorem RxAt.sz (h : RxAt base B q x W) : base ≤ W.heap.size := by have := h.2.2.2.2; have := blk_lt h.1; omega
/-- no two of its parts share a block -/
theorem RxAt.apart (h : RxAt base B q x W) : (q.vl.ownBlock ≠ some B ∧ q.vb.ownBlock ≠ some B ∧ q.vg.ownBlock ≠ some B) ∧ (∀ k, q.vl.ownBlock = some k → q.vb.ownBlock ≠ some k ∧ q.vg.ownBlock ≠ some k) ∧ (∀ k, q.vb.ownBlock = some k → q.vg.ownBlock ≠ some k) := by
  obtain ⟨h1, h2, h3, h4, h9⟩ := h
  have tyo : ∀ {e : TypeId} {size n : Nat} {v : Value} {xs : List Value} {k : Nat}, W.ownsRow base e size v n xs → v.ownBlock = some k → ∃ cur, W.heap[k]? = some (.cells cur e (0, 0)) := fun {e size n v xs k} hr hk => by
    rcases hr.2 with ⟨rfl, _⟩ | ⟨g, cap, cur, rfl, _, hg, _⟩
    · cases hk
    · cases hk; exact ⟨cur, hg⟩
  have ne : ∀ {k : Nat} {c1 c2 : Array Value} {t1 t2 : TypeId}, t1 ≠ t2 → W.heap[k]? = some (.cells c1 t1 (0, 0)) → W.heap[k]? = some (.cells c2 t2 (0, 0)) → False := fun ht a b => by
    rw [a] at b; injection b with b; injection b with b1 b2 _; exact ht b2
  refine ⟨⟨fun e => ?_, fun e => ?_, fun e => ?_⟩, fun k hk => ⟨fun e => ?_, fun e => ?_⟩, fun k hk e => ?_⟩
  · obtain ⟨c, hc⟩ := tyo h2 e; exact ne (by decide) hc h1
  · obtain ⟨c, hc⟩ := tyo h3 e; exact ne (by decide) hc h1
  · obtain ⟨c, hc⟩ := tyo h4 e; exact ne (by decide) hc h1
  · obtain ⟨c, hc⟩ := tyo h2 hk; obtain ⟨d, hd⟩ := tyo h3 e; exact ne (by decide) hc hd
  · obtain ⟨c, hc⟩ := tyo h2 hk; obtain ⟨d, hd⟩ := tyo h4 e; exact ne (by decide) hc hd
  · obtain ⟨c, hc⟩ := tyo h3 hk; obtain ⟨d, hd⟩ := tyo h4 e; exact ne (by decide) hc hd
theorem RxAt.toL (h : RxAt base B q x W) {W' : World} {v : Value} {ms : List Mem} (ho : OwnM base W' v ms) (hb : W'.heap[B]? = some (rxO { x with L := ms } { q with vl := v })) (hf : Fr (fun k => k = B ∨ q.vl.ownBlock = some k) W W') :
    RxAt base B { q with vl := v } { x with L := ms } W' := by
  have ha := h.apart
  obtain ⟨h1, h2, h3, h4, h9⟩ := h
  refine ⟨hb, ho, ownT_kept h3 fun g hg => hf.block g (h3.lt g hg).2 ?_, own_kept h4 fun g hg => hf.block g (h4.lt g hg).2 ?_, h9⟩
  · rintro (e | e)
    · exact ha.1.2.1 (e ▸ hg)
    · exact (ha.2.1 g e).1 hg
  · rintro (e | e)
    · exact ha.1.2.2 (e ▸ hg)
    · exact (ha.2.1 g e).2 hg
theorem RxAt.toB (h : RxAt base B q x W) {W' : World} {v : Value} {bn : List (List UInt8)} (ho : OwnT base W' v bn) (hb : W'.heap[B]? = some (rxO { x with bans := bn } { q with vb := v })) (hf : Fr (fun k => k = B) W W') :
    RxAt base B { q with vb := v } { x with bans := bn } W' := by
  have ha := h.apart
  obtain ⟨h1, h2, h3, h4, h9⟩ := h
  refine ⟨hb, ownM_kept h2 fun g hg => hf.block g (h2.lt g hg).2 ?_, ho, own_kept h4 fun g hg => hf.block g (h4.lt g hg).2 ?_, h9⟩
  · exact fun e => ha.1.1 (e ▸ hg)
  · exact fun e => ha.1.2.2 (e ▸ hg)
theorem RxAt.toG (h : RxAt base B q x W) {W' : World} {v : Value} {gs : List Int} (ho : OwnI base W' v gs) (hb : W'.heap[B]? = some (rxO { x with gs := gs } { q with vg := v })) (hf : Fr (fun k => k = B) W W') :
    RxAt base B { q with vg := v } { x with gs := gs } W' := by
  have ha := h.apart
  obtain ⟨h1, h2, h3, h4, h9⟩ := h
  refine ⟨hb, ownM_kept h2 fun g hg => hf.block g (h2.lt g hg).2 ?_, ownT_kept h3 fun g hg => hf.block g (h3.lt g hg).2 ?_, ho, h9⟩
  · exact fun e => ha.1.1 (e ▸ hg)
  · exact fun e => ha.1.2.1 (e ▸ hg)
/-- a field anew that lies in the room's own block -/
theorem RxAt.toF (h : RxAt base B q x W) {W' : World} {x' : Rx} (hb : W'.heap[B]? = some (rxO x' q)) (h1 : x'.L = x.L) (h2 : x'.bans = x.bans) (h3 : x'.gs = x.gs) (hf : Fr (fun k => k = B) W W') : RxAt base B q x' W' := by
  have ha := h.apart
  obtain ⟨g1, g2, g3, g4, h9⟩ := h
  refine ⟨hb, ?_, ?_, ?_, h9⟩
  · rw [h1]; exact ownM_kept g2 fun g hg => hf.block g (g2.lt g hg).2 fun e => ha.1.1 (e ▸ hg)
  · rw [h2]; exact ownT_kept g3 fun g hg => hf.block g (g3.lt g hg).2 fun e => ha.1.2.1 (e ▸ hg)
  · rw [h3]; exact own_kept g4 fun g hg => hf.block g (g4.lt g hg).2 fun e => ha.1.2.2 (e ▸ hg)
end
/-- what is left of the document's room -/
def XW (base B : Nat) (q : RxV) (x' : Rx) (w w' : World) : Prop := ∃ q', RxAt base B q' x' w' ∧ Fr (RxX B q) w w' ∧ ∀ k, RxX B q' k → k < w.heap.size → RxX B q k
theorem XW.same {base B : Nat} {q : RxV} {x : Rx} {w w' : World} (h : RxAt base B q x w) (hb : RowKit.Below w.heap.size w w') : XW base B q x w w' := ⟨q, h.below hb, Fr.of_below hb, fun _ hk _ => hk⟩
theorem XW.around {base B : Nat} {q : RxV} {r' : Rx} {w W W' w' : World} (h : XW base B q r' W W') (h1 : RowKit.Below w.heap.size w W) (h2 : RowKit.Below W'.heap.size W' w') : XW base B q r' w w' := by
  obtain ⟨q', a, b, c⟩ := h
  exact ⟨q', a.below h2, ((Fr.of_below (X := RxX B q) h1).trans3 b fun _ _ e => e).trans3 (Fr.of_below (X := fun _ => False) h2) fun _ _ e => e.elim, fun k hk hl => c k hk (Nat.lt_of_lt_of_le hl h1.size)⟩
theorem XW.then {base B : Nat} {q q' : RxV} {r2 : Rx} {w w1 w2 : World} (f : Fr (RxX B q) w w1) (c : ∀ k, RxX B q' k → k < w.heap.size → RxX B q k) (h2 : XW base B q' r2 w1 w2) : XW base B q r2 w w2 := by
  obtain ⟨q2, a, b, d⟩ := h2
  exact ⟨q2, a, f.trans3 b fun k hk e => c k e hk, fun k hk hl => c k (d k hk (Nat.lt_of_lt_of_le hl f.size)) hl⟩
theorem XW.boxedZ {base B : Nat} {q : RxV} {r' : Rx} {w W W' w' : World} (h : XW base B q r' W W') (h1 : RowKit.Below w.heap.size w W) (hl : ∀ k, RxX B q k → k < w.heap.size) {Z : Nat → Prop} (hZ : ∀ k, Z k → w.heap.size ≤ k ∧ k < W.heap.size) (h2 : Fr Z W' w') : XW base B q r' w w' := by
  obtain ⟨q', a, b, c⟩ := h
  refine ⟨q', a.fr h2 fun k hk e => ?_, ((Fr.of_below (X := RxX B q) h1).trans3 b fun _ _ e => e).trans3 h2 fun k hk e => by have := (hZ k e).1; omega, fun k hk hl2 => c k hk (Nat.lt_of_lt_of_le hl2 h1.size)⟩
  have := hl _ (c _ hk (hZ k e).2)
  have := (hZ k e).1
  omega
/-- a member more, for the document -/
def addX (x : Rx) (id : Int) (op : Bool) : Rx := if 0 ≤ atM x.L id then x else { x with L := x.L ++ [(id, op, false)], gs := x.gs.filter fun y => decide (y ≠ id) }
set_option maxRecDepth 100000 in
set_option maxHeartbeats 8000000 in
theorem refAdd_any {base B : Nat} {q : RxV} {x : Rx} {w : World} (h : RxAt base B q x w) (id : Int) (op : Bool) (hl : x.L.length ≤ 100000) (hgl : x.gs.length ≤ 100000) :
    Calls Tryz.prog 51 #[.pointer (some ⟨B, 0, none⟩), .int .i64 id, .bool op] w fun e w' => (∃ v, e = .returned v) ∧ XW base B q (addX x id op) w w' := by
  have HP := Lib.hid (refAt_any h id (by omega))
  obtain ⟨x', hx'⟩ : ∃ x', addX x id op = x' := ⟨_, rfl⟩
  rw [hx']
  have H := Lib.hid (And.intro h (And.intro hx' hl))
  by_cases ha : 0 ≤ atM x.L id
  · have hr : addX x id op = x := by unfold addX; rw [if_pos ha]
    have HR := Lib.hid hr
    obtain ⟨a, haa⟩ : ∃ a, atM x.L id = a := ⟨_, rfl⟩
    rw [haa] at HP ha
    clear h hx' haa hr hl hgl
    go_enter Tryz.func51, Tryz.ntmps51
    go_wp2_with fail
    refine HP.out.mono ?_
    rintro e w1 ⟨rfl, rfl⟩
    go_wp2_with fail
    first | (refine bodyPost_ret (results_none rfl _ _ _) rfl ?_; exact ⟨⟨_, rfl⟩, by rw [← H.out.2.1, HR.out]; exact XW.same H.out.1 (Below.refl _ _)⟩) | (go_end0; exact ⟨⟨_, rfl⟩, by rw [← H.out.2.1, HR.out]; exact XW.same H.out.1 (Below.refl _ _)⟩)
  · have hr : addX x id op = { x with L := x.L ++ [(id, op, false)], gs := x.gs.filter fun y => decide (y ≠ id) } := by unfold addX; rw [if_neg ha]
    obtain ⟨gf, hgf⟩ : ∃ gf, (x.gs.filter fun y => decide (y ≠ id)) = gf := ⟨_, rfl⟩
    rw [hgf] at hr
    have HR := Lib.hid hr
    obtain ⟨a, haa⟩ : ∃ a, atM x.L id = a := ⟨_, rfl⟩
    rw [haa] at HP ha
    obtain ⟨A, c, hv⟩ := ownM_slice h.2.1
    have ho := h.2.1
    rw [hv] at ho
    obtain ⟨i0, hi0, hz0, hz1, hz2⟩ := info_parts Tryz.infoMb
    obtain ⟨A1, c1, A2, c2, W2, W3, hr1, hr2, o3, f2, f3⟩ := snoc_runs (P := Tryz.prog) 88 i0 _ 16 Tryz.underlying88 hi0 hz0 hz1 hz2 rfl (by decide) ho (fun u hu => encM_one hu) (by omega) (by decide) #[.int .i64 id, .bool op, .bool false] rfl (by intro u hu; simp at hu; rcases hu with rfl | rfl | rfl <;> rfl)
    obtain ⟨n, hn⟩ : ∃ n, x.L.length = n := ⟨_, rfl⟩
    have o3' : OwnM w.heap.size W3 (.slice A2 (n + 1) c2) (x.L ++ [(id, op, false)]) := by rw [← hn]; exact ownM_snoc o3
    rw [hn] at hr1 hr2
    have d1 := blk_cell (blk_alloc h.1 (.cells #[] 71)) 2
    have d1' : (w.alloc (.cells #[] 71)).cell? ⟨B, 2, none⟩ = some (.slice A n c) := by rw [d1, ← hn, ← hv]; rfl
    have k3 := f3.blk h.1 fun e => e
    have d3 := blk_cell k3 2
    have g3 := blk_free k3 2
    obtain ⟨W4, hW4⟩ : ∃ W4, W3.setCell ⟨B, 2, none⟩ (.slice A2 (n + 1) c2) = W4 := ⟨_, rfl⟩
    have f34 : Fr (fun k => k = B) W3 W4 := by rw [← hW4]; exact Fr.setCell (X := fun k => k = B) (Fr.refl _ W3) ⟨B, 2, none⟩ rfl _
    have f14 : Fr (fun k => k = B) w W4 := (f3.mono fun _ _ e => e.elim).trans3 f34 fun _ _ e => e
    have hBw : B < w.heap.size := blk_lt h.1
    have h4 : RxAt base B { q with vl := .slice A2 (n + 1) c2 } { x with L := x.L ++ [(id, op, false)] } W4 := h.toL (ownM_base (ownM_kept o3' fun g hg => f34.block g (o3'.lt g hg).2 fun e => by have := (o3'.lt g hg).1; omega) h.sz) (by rw [← hW4]; exact blk_set k3 2 _) (f14.mono fun k _ e => .inl e)
    have c4 : ∀ k, RxX B { q with vl := .slice A2 (n + 1) c2 } k → k < w.heap.size → RxX B q k := fun k hk hlt => by
      rcases hk with e | e | e | e
      · exact .inl e
      · have := (o3'.lt k e).1; omega
      · exact .inr (.inr (.inl e))
      · exact .inr (.inr (.inr e))
    obtain ⟨Ag, cg, hvg⟩ := row_slice h.2.2.2.1
    have hg4 := h4.2.2.2.1
    rw [hvg] at hg4
    have hrem := rem10 (w := W4) Ag x.gs cg id (by omega) (reads_ownI hg4)
    rw [hgf] at hrem
    obtain ⟨m, hm⟩ : ∃ m, x.gs.length = m := ⟨_, rfl⟩
    have e8 : W4.cell? ⟨B, 8, none⟩ = some (.slice Ag m cg) := by rw [← hm, ← hvg]; exact blk_cell h4.1 8
    rw [hm] at hrem
    have HREM := Lib.hid hrem
    clear hrem hgf
    have H4 := Lib.hid (And.intro h4 (And.intro c4 (f14.mono (Y := RxX B q) fun k _ e => .inl e)))
    clear h hx' haa hr hl hgl hv ho hi0 hz0 hz1 hz2 o3 o3' f2 f3 k3 f34 f14 hBw h4 c4 hg4 hvg hm hn d1
    go_enter Tryz.func51, Tryz.ntmps51
    go_wp2_with fail
    refine HP.out.mono ?_
    rintro e w1 ⟨rfl, rfl⟩
    go_wp2_with (first
      | (at_builtin; refine wpList_app_g rfl _ _ _ _ rfl (by exact hr1) ?_)
      | (at_builtin; refine wpList_app_g rfl _ _ _ _ rfl (by exact hr2) ?_))
    clear hW4 hr1 hr2 d1' d3 g3
    refine HREM.out.mono ?_
    rintro e w5 ⟨⟨v5, rfl, o5⟩, b5⟩
    have h5 := H4.out.1.below b5
    have HQ := Lib.hid (And.intro o5 b5)
    have e8' := blk_cell h5.1 8
    have g8 := blk_free h5.1 8
    obtain ⟨A5, c5, rfl⟩ := row_slice o5
    obtain ⟨lf, hlf⟩ : ∃ lf, gf.length = lf := ⟨_, rfl⟩
    rw [hlf] at o5 ⊢
    obtain ⟨W6, hW6⟩ : ∃ W6, w5.setCell ⟨B, 8, none⟩ (.slice A5 lf c5) = W6 := ⟨_, rfl⟩
    have f56 : Fr (fun k => k = B) w5 W6 := by rw [← hW6]; exact Fr.setCell (X := fun k => k = B) (Fr.refl _ w5) ⟨B, 8, none⟩ rfl _
    have o6 : OwnI W4.heap.size W6 (.slice A5 lf c5) gf := own_kept o5 fun g hg => f56.block g (o5.lt g hg).2 fun e => by have := (o5.lt g hg).1; have := blk_lt H4.out.1.1; omega
    have h6 : RxAt base B { { q with vl := .slice A2 (n + 1) c2 } with vg := .slice A5 lf c5 } { x with L := x.L ++ [(id, op, false)], gs := gf } W6 := h5.toG (ownI_base o6 H4.out.1.sz) (by rw [← hW6]; exact blk_set h5.1 8 _) f56
    have hzw := H4.out.2.2.size
    have hx6 : XW base B q (addX x id op) w1 W6 := by
      rw [HR.out]
      refine ⟨_, h6, (H4.out.2.2.trans3 (Fr.of_below (X := fun _ => False) b5) fun _ _ e => e.elim).trans3 f56 fun k _ e => .inl e, fun k hk hlt => ?_⟩
      rcases hk with e | e | e | e
      · exact .inl e
      · exact H4.out.2.1 k (.inr (.inl e)) hlt
      · exact .inr (.inr (.inl e))
      · have := (o6.lt k e).1; omega
    rw [H.out.2.1] at hx6
    have HX := Lib.hid hx6
    clear h5 o5 b5 o6 h6 f56 hx6 e8 hzw
    go_wp2_with fail
    go_end0
    exact ⟨⟨_, rfl⟩, HX.out⟩
/-- a member taken away, for the document -/
def dropX (x : Rx) (id : Int) : Rx := if 0 ≤ atM x.L id then { x with L := x.L.take (atM x.L id).toNat ++ x.L.drop ((atM x.L id).toNat + 1) } else x
theorem ownM_of {base : Nat} {W : World} {v : Value} {xs : List Mem} {n : Nat} {cs : List Value} (h : W.ownsRow base 71 3 v n cs) (hn : n = xs.length) (hc : cs = xs.flatMap encM) : OwnM base W v xs := by
  subst hn; subst hc; exact h
set_option maxRecDepth 100000 in
set_option maxHeartbeats 16000000 in
theorem refDrop_any {base B : Nat} {q : RxV} {x : Rx} {w : World} (h : RxAt base B q x w) (id : Int) (hl : x.L.length ≤ 100000) :
    Calls Tryz.prog 43 #[.pointer (some ⟨B, 0, none⟩), .int .i64 id] w fun e w' => e = .returned (.bool (decide (0 ≤ atM x.L id))) ∧ XW base B q (dropX x id) w w' := by
  have HP := Lib.hid (refAt_any h id (by omega))
  obtain ⟨x', hx'⟩ : ∃ x', dropX x id = x' := ⟨_, rfl⟩
  rw [hx']
  have H := Lib.hid (And.intro h (And.intro hx' hl))
  by_cases ha : 0 ≤ atM x.L id
  · obtain ⟨i, hi⟩ : ∃ i : Nat, atM x.L id = i := ⟨(atM x.L id).toNat, by omega⟩
    have hil := (atM_yes hi).1
    have hr : dropX x id = { x with L := x.L.take i ++ x.L.drop (i + 1) } := by unfold dropX; rw [if_pos ha, hi]; rfl
    have HR := Lib.hid hr
    rw [decide_eq_true ha]
    rw [hi] at HP
    obtain ⟨A, c, hv⟩ := ownM_slice h.2.1
    have ho := h.2.1
    rw [hv] at ho
    obtain ⟨i0, hi0, hz0, hz1, hz2⟩ := info_parts Tryz.infoMb
    obtain ⟨g, g1, o1, A1, c1, A2, c2, W2, W3, rfl, hnc, hs1, hs2, hr1, hr2, o3, f2, f3⟩ := del_runs_g (P := Tryz.prog) 88 i0 _ 16 Tryz.underlying88 hi0 hz0 hz1 hz2 rfl ho (fun u hu => encM_one hu) (by omega) (by decide) hil
    have o3' : OwnM w.heap.size W3 (.slice A2 (x.L.length - 1) c2) (x.L.take i ++ x.L.drop (i + 1)) := ownM_of o3 (by rw [List.length_append, List.length_take, List.length_drop]; omega) (by rw [List.flatMap_append, flat_take, flat_drop])
    obtain ⟨n, hn⟩ : ∃ n, x.L.length = n := ⟨_, rfl⟩
    rw [hn] at hr2 hnc hs1 hs2 o3' hil hl
    obtain ⟨W1, hW1⟩ : ∃ W1, (w.alloc (.cells #[] 71)).drew = W1 := ⟨_, rfl⟩
    rw [hW1] at hr1
    have HW := Lib.hid hW1
    have hvn : q.vl = .slice (some ⟨g, 0, none⟩) n c := by rw [← hn]; exact hv
    have d0 : w.drew.cell? ⟨B, 2, none⟩ = some (.slice (some ⟨g, 0, none⟩) n c) := by rw [← hvn]; exact blk_cell h.1 2
    have d1 : W1.cell? ⟨B, 2, none⟩ = some (.slice (some ⟨g, 0, none⟩) n c) := by rw [← hvn, ← hW1]; exact blk_cell (blk_alloc h.1 _) 2
    have d2 : W2.cell? ⟨B, 2, none⟩ = some (.slice (some ⟨g, 0, none⟩) n c) := by rw [← hvn]; exact blk_cell (f2.blk h.1 fun e => e) 2
    have k3 := f3.blk h.1 fun e => e
    have d3 : W3.cell? ⟨B, 2, none⟩ = some (.slice (some ⟨g, 0, none⟩) n c) := by rw [← hvn]; exact blk_cell k3 2
    have g3 := blk_free k3 2
    obtain ⟨m3, hm3⟩ : ∃ m3, n - 1 = m3 := ⟨_, rfl⟩
    obtain ⟨m, hm⟩ : ∃ m, n - (i + 1) = m := ⟨_, rfl⟩
    obtain ⟨m2, hm2⟩ : ∃ m2, c - (i + 1) = m2 := ⟨_, rfl⟩
    rw [hm, hm2] at hr2 hs2
    rw [hm3] at hr2 o3'
    obtain ⟨W4, hW4⟩ : ∃ W4, W3.setCell ⟨B, 2, none⟩ (.slice A2 m3 c2) = W4 := ⟨_, rfl⟩
    have f34 : Fr (fun k => k = B) W3 W4 := by rw [← hW4]; exact Fr.setCell (X := fun k => k = B) (Fr.refl _ W3) ⟨B, 2, none⟩ rfl _
    have f14 : Fr (fun k => k = B) w W4 := (f3.mono fun _ _ e => e.elim).trans3 f34 fun _ _ e => e
    have hBw : B < w.heap.size := blk_lt h.1
    have h4 : RxAt base B { q with vl := .slice A2 m3 c2 } { x with L := x.L.take i ++ x.L.drop (i + 1) } W4 := h.toL (ownM_base (ownM_kept o3' fun g hg => f34.block g (o3'.lt g hg).2 fun e => by have := (o3'.lt g hg).1; omega) h.sz) (by rw [← hW4]; exact blk_set k3 2 _) (f14.mono fun k _ e => .inl e)
    have hx4 : XW base B q x' w W4 := by
      rw [← hx', HR.out]
      refine ⟨_, h4, f14.mono fun k _ e => .inl e, fun k hk hlt => ?_⟩
      rcases hk with e | e | e | e
      · exact .inl e
      · have := (o3'.lt k e).1; omega
      · exact .inr (.inr (.inl e))
      · exact .inr (.inr (.inr e))
    have HX := Lib.hid hx4
    have HX4 := Lib.hid hW4
    have hp1 : ¬ ((i : Int) < 0) := by omega
    have hlt : IntKind.i64.wrap ((i : Int) + 1) = (i : Int) + 1 := IntWalk.i64_in _ ⟨by omega, by omega⟩
    clear h hx' ha hi hr hv ho hi0 hz0 hz1 hz2 o3 o3' f2 f3 k3 f34 f14 hBw h4 hx4 hn hm hm2 hm3 hvn hW1 hW4
    go_enter Tryz.func43, Tryz.ntmps43
    go_wp2_with fail
    refine HP.out.mono ?_
    rintro e w' ⟨rfl, rfl⟩
    go_wp2_with fail
    refine wp_region_z (S := fun V => V.cell? ⟨B, 2, none⟩ = some (.slice (some ⟨g, 0, none⟩) n c)) (z := 19) (by kernel_rfl) (by exact d0) (fun hHeld => ?_)
    refine wpAnyZ_read (i := 0) (oi := { dst := some 11, op := Go.Op.move (Go.Operand.tmp 0), type := 40, pos := "ref.go:53", after := #[], guard := none }) ?_ rfl (by kernel_rfl) (by kernel_rfl) (by kernel_rfl) (by kernel_rfl) (fun _ _ _ h => h) (by rfl) (by exact hHeld) ?_ ?_
    rotate_left
    · (intro w0 hS0; go_simp <;> (try with_reducible rfl))
    try simp only [Act.put, List.setIfInBounds_toArray, List.set_cons_zero, List.set_cons_succ]
    refine wpAnyZ_read (i := 2) (oi := { dst := some 13, op := Go.Op.move (Go.Operand.tmp 0), type := 40, pos := "ref.go:53", after := #[], guard := none }) ?_ rfl (by kernel_rfl) (by kernel_rfl) (by kernel_rfl) (by kernel_rfl) (fun _ _ _ h => h) (by rfl) (by exact hHeld) ?_ ?_
    rotate_left
    · (intro w0 hS0; go_simp <;> (try with_reducible rfl))
    try simp only [Act.put, List.setIfInBounds_toArray, List.set_cons_zero, List.set_cons_succ]
    refine wpAnyZ_read (i := 3) (oi := { dst := some 14, op := Go.Op.nilCheck (Go.Operand.tmp 13), type := 0, pos := "ref.go:53", after := #[{ on := 2, ground := Go.Ground.data }], guard := none }) ?_ rfl (by kernel_rfl) (by kernel_rfl) (by kernel_rfl) (by kernel_rfl) (fun _ _ _ h => h) (by rfl) (by exact hHeld) ?_ ?_
    rotate_left
    · (intro w0 hS0; go_simp <;> (try with_reducible rfl))
    try simp only [Act.put, List.setIfInBounds_toArray, List.set_cons_zero, List.set_cons_succ]
    refine wpAnyZ_read (i := 4) (oi := { dst := some 15, op := Go.Op.fieldAddr 90 (Go.Operand.tmp 14) 2, type := 0, pos := "ref.go:53", after := #[{ on := 3, ground := Go.Ground.data }], guard := none }) ?_ rfl (by kernel_rfl) (by kernel_rfl) (by kernel_rfl) (by kernel_rfl) (fun _ _ _ h => h) (by rfl) (by exact hHeld) ?_ ?_
    rotate_left
    · (intro w0 hS0; go_simp <;> (try with_reducible rfl))
    try simp only [Act.put, List.setIfInBounds_toArray, List.set_cons_zero, List.set_cons_succ]
    refine wpAnyZ_read (i := 6) (oi := { dst := some 17, op := Go.Op.move (Go.Operand.tmp 5), type := 3, pos := "ref.go:53", after := #[], guard := none }) ?_ rfl (by kernel_rfl) (by kernel_rfl) (by kernel_rfl) (by kernel_rfl) (fun _ _ _ h => h) (by rfl) (by exact hHeld) ?_ ?_
    rotate_left
    · (intro w0 hS0; go_simp <;> (try with_reducible rfl))
    try simp only [Act.put, List.setIfInBounds_toArray, List.set_cons_zero, List.set_cons_succ]
    refine wpAnyZ_read (i := 9) (oi := { dst := some 20, op := Go.Op.move (Go.Operand.tmp 0), type := 40, pos := "ref.go:53", after := #[], guard := none }) ?_ rfl (by kernel_rfl) (by kernel_rfl) (by kernel_rfl) (by kernel_rfl) (fun _ _ _ h => h) (by rfl) (by exact hHeld) ?_ ?_
    rotate_left
    · (intro w0 hS0; go_simp <;> (try with_reducible rfl))
    try simp only [Act.put, List.setIfInBounds_toArray, List.set_cons_zero, List.set_cons_succ]
    refine wpAnyZ_read (i := 10) (oi := { dst := some 21, op := Go.Op.nilCheck (Go.Operand.tmp 20), type := 0, pos := "ref.go:53", after := #[{ on := 9, ground := Go.Ground.data }], guard := none }) ?_ rfl (by kernel_rfl) (by kernel_rfl) (by kernel_rfl) (by kernel_rfl) (fun _ _ _ h => h) (by rfl) (by exact hHeld) ?_ ?_
    rotate_left
    · (intro w0 hS0; go_simp <;> (try with_reducible rfl))
    try simp only [Act.put, List.setIfInBounds_toArray, List.set_cons_zero, List.set_cons_succ]
    refine wpAnyZ_read (i := 11) (oi := { dst := some 22, op := Go.Op.fieldAddr 90 (Go.Operand.tmp 21) 2, type := 0, pos := "ref.go:53", after := #[{ on := 10, ground := Go.Ground.data }], guard := none }) ?_ rfl (by kernel_rfl) (by kernel_rfl) (by kernel_rfl) (by kernel_rfl) (fun _ _ _ h => h) (by rfl) (by exact hHeld) ?_ ?_
    rotate_left
    · (intro w0 hS0; go_simp <;> (try with_reducible rfl))
    try simp only [Act.put, List.setIfInBounds_toArray, List.set_cons_zero, List.set_cons_succ]
    refine wpAnyZ_read (i := 13) (oi := { dst := some 24, op := Go.Op.move (Go.Operand.tmp 5), type := 3, pos := "ref.go:53", after := #[], guard := none }) ?_ rfl (by kernel_rfl) (by kernel_rfl) (by kernel_rfl) (by kernel_rfl) (fun _ _ _ h => h) (by rfl) (by exact hHeld) ?_ ?_
    rotate_left
    · (intro w0 hS0; go_simp <;> (try with_reducible rfl))
    try simp only [Act.put, List.setIfInBounds_toArray, List.set_cons_zero, List.set_cons_succ]
    refine wpAnyZ_read (i := 14) (oi := { dst := some 25, op := Go.Op.binOp Go.BinOp.add 3 (Go.Operand.tmp 24) (Go.Operand.const (Go.Value.int Go.IntKind.i64 1)) 3, type := 3, pos := "ref.go:53", after := #[{ on := 13, ground := Go.Ground.data }], guard := none }) ?_ rfl (by kernel_rfl) (by kernel_rfl) (by kernel_rfl) (by kernel_rfl) (fun _ _ _ h => h) (by rfl) (by exact hHeld) ?_ ?_
    rotate_left
    · (intro w0 hS0; go_simp <;> (try with_reducible rfl))
    try simp only [Act.put, List.setIfInBounds_toArray, List.set_cons_zero, List.set_cons_succ]
    refine wpAnyZ_read (i := 5) (oi := { dst := some 16, op := Go.Op.load 88 (Go.Operand.tmp 15), type := 88, pos := "ref.go:53", after := #[{ on := 4, ground := Go.Ground.data }], guard := none }) ?_ rfl (by kernel_rfl) (by kernel_rfl) (by kernel_rfl) (by kernel_rfl) (fun _ _ _ h => h) (by rfl) (by exact hHeld) ?_ ?_
    rotate_left
    · (intro w0 hS0; go_simp <;> (try with_reducible rfl))
    try simp only [Act.put, List.setIfInBounds_toArray, List.set_cons_zero, List.set_cons_succ]
    refine wpAnyZ_read (i := 7) (oi := { dst := some 18, op := Go.Op.slice 88 (Go.Operand.tmp 16) none (some (Go.Operand.tmp 17)) none, type := 88, pos := "ref.go:53", after := #[{ on := 5, ground := Go.Ground.data }, { on := 6, ground := Go.Ground.data }], guard := none }) ?_ rfl (by kernel_rfl) (by kernel_rfl) (by kernel_rfl) (by kernel_rfl) (fun _ _ _ h => h) (by rfl) (by exact hHeld) ?_ ?_
    rotate_left
    · (intro w0 hS0; go_simp <;> (try with_reducible rfl))
    try simp only [Act.put, List.setIfInBounds_toArray, List.set_cons_zero, List.set_cons_succ]
    refine wpAnyZ_read (i := 12) (oi := { dst := some 23, op := Go.Op.load 88 (Go.Operand.tmp 22), type := 88, pos := "ref.go:53", after := #[{ on := 11, ground := Go.Ground.data }], guard := none }) ?_ rfl (by kernel_rfl) (by kernel_rfl) (by kernel_rfl) (by kernel_rfl) (fun _ _ _ h => h) (by rfl) (by exact hHeld) ?_ ?_
    rotate_left
    · (intro w0 hS0; go_simp <;> (try with_reducible rfl))
    try simp only [Act.put, List.setIfInBounds_toArray, List.set_cons_zero, List.set_cons_succ]
    refine wpAnyZ_read (i := 15) (oi := { dst := some 26, op := Go.Op.slice 88 (Go.Operand.tmp 23) (some (Go.Operand.tmp 25)) none none, type := 88, pos := "ref.go:53", after := #[{ on := 12, ground := Go.Ground.data }, { on := 14, ground := Go.Ground.data }], guard := none }) ?_ rfl (by kernel_rfl) (by kernel_rfl) (by kernel_rfl) (by kernel_rfl) (fun _ _ _ h => h) (by rfl) (by exact hHeld) ?_ ?_
    rotate_left
    · (intro w0 hS0; go_simp <;> (try with_reducible rfl))
    try simp only [Act.put, List.setIfInBounds_toArray, List.set_cons_zero, List.set_cons_succ]
    refine wpAnyZ_one (i := 1) (o := { dst := some 12, op := Go.Op.buildSlice 88 0 #[], type := 88, pos := "ref.go:53", after := #[], guard := none }) (by kernel_rfl) rfl (by rfl) (fun K hK => ?_)
    go_simp
    rw [HW.out]
    refine hK.out _ _ ?_ (fun hHeld => ?_)
    · exact d1
    clear hK K
    try simp only [Act.put, List.setIfInBounds_toArray, List.set_cons_zero, List.set_cons_succ]
    refine wpAnyZ_one (i := 8) (o := { dst := some 19, op := Go.Op.call { callee := Go.Callee.builtin Go.Builtin.append, args := #[Go.Operand.tmp 12, Go.Operand.tmp 18], argTypes := #[88, 88] }, type := 88, pos := "ref.go:53", after := #[{ on := 1, ground := Go.Ground.data }, { on := 7, ground := Go.Ground.data }], guard := none }) (by kernel_rfl) rfl (by rfl) (fun K hK => ?_)
    refine wp_app_run _ _ _ _ rfl hr1 ?_
    refine hK.out _ _ ?_ (fun hHeld => ?_)
    · exact d2
    clear hK K
    try simp only [Act.put, List.setIfInBounds_toArray, List.set_cons_zero, List.set_cons_succ]
    refine wpAnyZ_one (i := 16) (o := { dst := some 27, op := Go.Op.call { callee := Go.Callee.builtin Go.Builtin.append, args := #[Go.Operand.tmp 19, Go.Operand.tmp 26], argTypes := #[88, 88] }, type := 88, pos := "ref.go:53", after := #[{ on := 8, ground := Go.Ground.data }, { on := 15, ground := Go.Ground.data }, { on := 8, ground := Go.Ground.chain }], guard := none }) (by kernel_rfl) rfl (by rfl) (fun K hK => ?_)
    refine wp_app_run _ _ _ _ rfl hr2 ?_
    refine hK.out _ _ ?_ (fun hHeld => ?_)
    · exact d3
    clear hK K
    try simp only [Act.put, List.setIfInBounds_toArray, List.set_cons_zero, List.set_cons_succ]
    refine wpAnyZ_one (i := 17) (o := { dst := some 28, op := Go.Op.nilCheck (Go.Operand.tmp 11), type := 0, pos := "ref.go:53", after := #[{ on := 0, ground := Go.Ground.data }, { on := 0, ground := Go.Ground.phase }, { on := 1, ground := Go.Ground.phase }, { on := 2, ground := Go.Ground.phase }, { on := 3, ground := Go.Ground.phase }, { on := 4, ground := Go.Ground.phase }, { on := 5, ground := Go.Ground.phase }, { on := 6, ground := Go.Ground.phase }, { on := 7, ground := Go.Ground.phase }, { on := 8, ground := Go.Ground.phase }, { on := 9, ground := Go.Ground.phase }, { on := 10, ground := Go.Ground.phase }, { on := 11, ground := Go.Ground.phase }, { on := 12, ground := Go.Ground.phase }, { on := 13, ground := Go.Ground.phase }, { on := 14, ground := Go.Ground.phase }, { on := 15, ground := Go.Ground.phase }, { on := 16, ground := Go.Ground.phase }], guard := none }) (by kernel_rfl) rfl (by rfl) (fun K hK => ?_)
    go_simp
    refine hK.out _ _ ?_ (fun hHeld => ?_)
    · (first | assumption | trivial)
    clear hK K
    try simp only [Act.put, List.setIfInBounds_toArray, List.set_cons_zero, List.set_cons_succ]
    refine wpAnyZ_read (i := 18) (oi := { dst := some 29, op := Go.Op.fieldAddr 90 (Go.Operand.tmp 28) 2, type := 0, pos := "ref.go:53", after := #[{ on := 17, ground := Go.Ground.data }, { on := 0, ground := Go.Ground.phase }, { on := 1, ground := Go.Ground.phase }, { on := 2, ground := Go.Ground.phase }, { on := 3, ground := Go.Ground.phase }, { on := 4, ground := Go.Ground.phase }, { on := 5, ground := Go.Ground.phase }, { on := 6, ground := Go.Ground.phase }, { on := 7, ground := Go.Ground.phase }, { on := 8, ground := Go.Ground.phase }, { on := 9, ground := Go.Ground.phase }, { on := 10, ground := Go.Ground.phase }, { on := 11, ground := Go.Ground.phase }, { on := 12, ground := Go.Ground.phase }, { on := 13, ground := Go.Ground.phase }, { on := 14, ground := Go.Ground.phase }, { on := 15, ground := Go.Ground.phase }, { on := 16, ground := Go.Ground.phase }], guard := none }) ?_ rfl (by kernel_rfl) (by kernel_rfl) (by kernel_rfl) (by kernel_rfl) (fun _ _ _ h => h) (by rfl) (by exact hHeld) ?_ ?_
    rotate_left
    · (intro w0 hS0; go_simp <;> (try with_reducible rfl))
    try simp only [Act.put, List.setIfInBounds_toArray, List.set_cons_zero, List.set_cons_succ]
    refine wpAnyZ_last (o := { dst := none, op := Go.Op.store 88 (Go.Operand.tmp 29) (Go.Operand.tmp 27), type := 0, pos := "ref.go:53", after := #[{ on := 18, ground := Go.Ground.data }, { on := 16, ground := Go.Ground.data }, { on := 16, ground := Go.Ground.chain }, { on := 0, ground := Go.Ground.phase }, { on := 1, ground := Go.Ground.phase }, { on := 2, ground := Go.Ground.phase }, { on := 3, ground := Go.Ground.phase }, { on := 4, ground := Go.Ground.phase }, { on := 5, ground := Go.Ground.phase }, { on := 6, ground := Go.Ground.phase }, { on := 7, ground := Go.Ground.phase }, { on := 8, ground := Go.Ground.phase }, { on := 9, ground := Go.Ground.phase }, { on := 10, ground := Go.Ground.phase }, { on := 11, ground := Go.Ground.phase }, { on := 12, ground := Go.Ground.phase }, { on := 13, ground := Go.Ground.phase }, { on := 14, ground := Go.Ground.phase }, { on := 15, ground := Go.Ground.phase }, { on := 16, ground := Go.Ground.phase }], guard := none }) (by kernel_rfl) rfl (by rfl) (fun K hK => ?_)
    go_simp
    refine hK.out _ _ ?_
    clear hK K
    try simp only [Act.put, List.setIfInBounds_toArray, List.set_cons_zero, List.set_cons_succ]
    refine wpAnyZ_done (by kernel_rfl) ?_ _
    rw [HX4.out]
    go_wp2_with fail
    go_ret
    exact ⟨rfl, HX.out⟩
  · have hr : dropX x id = x := by unfold dropX; rw [if_neg ha]
    have HR := Lib.hid hr
    rw [decide_eq_false ha]
    obtain ⟨a, haa⟩ : ∃ a, atM x.L id = a := ⟨_, rfl⟩
    rw [haa] at HP ha
    clear h hx' haa hr hl
    go_enter Tryz.func43, Tryz.ntmps43
    go_wp2_with fail
    refine HP.out.mono ?_
    rintro e w1 ⟨rfl, rfl⟩
    go_wp2_with fail
    go_ret
    exact ⟨rfl, by rw [← H.out.2.1, HR.out]; exact XW.same H.out.1 (Below.refl _ _)⟩
end Go.Proofs.YtlkeomcillencaaGreat
end
section
/- Layer 20: the document's rooms, as they lie. -/
namespace Go.Proofs.YtlkeomcillencaaGreat
open Go Go.RowKit Go.Maps Go.Sort Go.Shelf Go.Lib

theorem Tryz.infoPd : (Tryz.prog.info? 40).map (fun i => (i.zero, i.size, i.bytes)) = some (some (.pointer none), 1, 8) := by kernel_rfl
def OwnPd (base : Nat) (W : World) (v : Value) (xs : List Nat) : Prop := W.ownsRow base 40 1 v xs.length (xs.map encPr)
theorem ownPd_kept {base : Nat} {w W : World} {v : Value} {xs : List Nat} (h : OwnPd base w v xs) (hs : ∀ g, v.ownBlock = some g → W.heap[g]? = w.heap[g]?) : OwnPd base W v xs := row_same h hs
theorem ownPd_nil (base : Nat) (w : World) : OwnPd base w (.slice none 0 0) [] := World.ownsRow_nil _ _ _ _
theorem ownPd_base {W : World} {base base' : Nat} {v : Value} {xs : List Nat} (h : OwnPd base W v xs) (hb : base' ≤ base) : OwnPd base' W v xs := row_baseG h hb
theorem ownPd_snoc {base : Nat} {w : World} {v : Value} {xs : List Nat} {x : Nat} (h : w.ownsRow base 40 1 v (xs.length + 1) (xs.map encPr ++ [encPr x])) : OwnPd base w v (xs ++ [x]) := by
  unfold OwnPd; rw [List.length_append, List.map_append]; exact h
theorem reads_ownPd {base : Nat} {w : World} {A : Option Addr} {n c : Nat} {xs : List Nat} (h : OwnPd base w (.slice A n c) xs) : 0 < xs.length → ∃ g, A = some ⟨g, 0, none⟩ ∧ g < w.heap.size ∧ ∀ j (h : j < xs.length), w.cell? ⟨g, 0 + j, none⟩ = some (.pointer (some ⟨xs[j], 0, none⟩)) := fun h0 => by
  have h' := h
  rcases h.2 with ⟨h1, h2⟩ | ⟨g, cap, cur, h1, h3, h4, h5, _, h6, h7⟩
  · omega
  · injection h1 with q1 q2 q3
    subst q1
    refine ⟨g, rfl, blk_lt h4, fun j hj => ?_⟩
    have := h'.cells (g := g) rfl j (encPr xs[j]) (by simp [hj])
    rw [add_g] at this
    exact this
/-- a room of the document's, and where it lies -/
structure RdE where
  B : Nat
  q : RxV
  x : Rx
def keyD (e : RdE) : List UInt8 := foldL e.x.nm
def rdO (mr mj mb : Int) (v : Value) : Obj := .cells #[.int .i64 mr, .int .i64 mj, .int .i64 mb, v] 32 (0, 0)
structure RdPh (base : Nat) (w : World) (R : Nat) (v : Value) (C : Nat → Tag) (mr mj mb : Int) (E : List RdE) : Prop where
  self : w.heap[R]? = some (rdO mr mj mb v)
  row : OwnPd base w v (E.map (·.B))
  each : ∀ e ∈ E, RxAt base e.B e.q e.x w
  keys : (E.map keyD).Nodup
  cR : C R = (1, [])
  cv : ∀ k, v.ownBlock = some k → C k = (2, [])
  cE : ∀ e ∈ E, ∀ k, RxX e.B e.q k → C k = (4, keyD e)
  cN : ∀ k, w.heap.size ≤ k → C k = tag0
  cB : ∀ k, k < base → C k = tag0
section
variable {base : Nat} {w w' : World} {R : Nat} {v : Value} {C : Nat → Tag} {mr mj mb : Int} {E : List RdE}
theorem RdPh.lt (h : RdPh base w R v C mr mj mb E) {k : Nat} (hk : C k ≠ tag0) : base ≤ k ∧ k < w.heap.size :=
  ⟨Nat.le_of_not_lt fun e => hk (h.cB k e), Nat.lt_of_not_le fun e => hk (h.cN k e)⟩
theorem RdPh.fr (h : RdPh base w R v C mr mj mb E) {Z : Nat → Prop} (hf : Fr Z w w') (hz : ∀ k, C k ≠ tag0 → ¬ Z k) : RdPh base w' R v C mr mj mb E :=
  ⟨hf.blk h.self (hz _ (by rw [h.cR]; simp)), ownPd_kept h.row fun g hg => hf.block g (h.row.lt g hg).2 (hz _ (by rw [h.cv g hg]; simp)), fun e he => (h.each e he).fr hf fun k hk => hz _ (by rw [h.cE e he k hk]; simp), h.keys, h.cR, h.cv, h.cE, fun k hk => h.cN k (Nat.le_trans hf.size hk), h.cB⟩
theorem RdPh.below (h : RdPh base w R v C mr mj mb E) (hb : RowKit.Below w.heap.size w w') : RdPh base w' R v C mr mj mb E := h.fr (Fr.of_below (X := fun _ => False) hb) fun _ _ e => e
theorem RdPh.base_le (h : RdPh base w R v C mr mj mb E) : base ≤ w.heap.size := by
  have := h.lt (k := R) (by rw [h.cR]; simp); omega
/-- a room changed -/
theorem RdPh.roomTo {E1 E2 : List RdE} {e : RdE} (h : RdPh base w R v C mr mj mb (E1 ++ e :: E2)) {x' : Rx} (hn : x'.nm = e.x.nm) (hc : XW base e.B e.q x' w w') :
    (∃ q', RdPh base w' R v (paint C w.heap.size w'.heap.size (4, keyD e)) mr mj mb (E1 ++ ⟨e.B, q', x'⟩ :: E2)) ∧ Fr (fun k => C k ≠ tag0) w w' := by
  obtain ⟨q', h1, hf, h3⟩ := hc
  have hlR : R < w.heap.size := blk_lt h.self
  have he : e ∈ E1 ++ e :: E2 := by simp
  have ne : ∀ {k : Nat} {g : Tag}, C k = g → g ≠ (4, keyD e) → ¬ RxX e.B e.q k := fun e1 hg hx => hg (by rw [← e1, h.cE e he _ hx])
  have hsz := hf.size
  have hkey := h.keys
  have hoth : ∀ f, f ∈ E1 ∨ f ∈ E2 → f ∈ E1 ++ e :: E2 ∧ keyD f ≠ keyD e := fun f hfm => by
    rw [List.map_append, List.map_cons, List.nodup_append, List.nodup_cons] at hkey
    rcases hfm with hfm | hfm
    · exact ⟨by simp [hfm], fun e1 => hkey.2.2 _ (List.mem_map_of_mem hfm) _ (List.mem_cons_self ..) e1⟩
    · exact ⟨by simp [hfm], fun e1 => hkey.2.1.1 (e1 ▸ List.mem_map_of_mem hfm)⟩
  have hke : keyD ⟨e.B, q', x'⟩ = keyD e := by unfold keyD; simp only [hn]
  have split : ∀ {f : RdE}, f ∈ E1 ++ (⟨e.B, q', x'⟩ : RdE) :: E2 → f ∈ E1 ∨ f ∈ E2 ∨ f = ⟨e.B, q', x'⟩ := fun {f} hfm => by
    rw [List.mem_append, List.mem_cons] at hfm
    rcases hfm with a | a | a
    · exact .inl a
    · exact .inr (.inr a)
    · exact .inr (.inl a)
  refine ⟨⟨q', hf.blk h.self (ne h.cR (by simp)), ?_, fun f hfm => ?_, ?_, by rw [paint_old hlR]; exact h.cR, fun k hk => by rw [paint_old (h.row.lt k hk).2]; exact h.cv k hk, fun f hfm k hk => ?_, fun k hk => paint_far (by omega) hk, fun k hk => by rw [paint_old (by have := h.base_le; omega)]; exact h.cB k hk⟩, hf.mono fun k _ hk => by rw [h.cE e he k hk]; simp⟩
  · have hm : (E1 ++ (⟨e.B, q', x'⟩ : RdE) :: E2).map (·.B) = (E1 ++ e :: E2).map (·.B) := by simp
    rw [hm]
    exact ownPd_kept h.row fun g hg => hf.block g (h.row.lt g hg).2 (ne (h.cv g hg) (by simp))
  · rcases split hfm with a | a | rfl
    · obtain ⟨m1, m2⟩ := hoth f (.inl a)
      exact (h.each f m1).fr hf fun k hk => ne (h.cE f m1 k hk) (by simp [m2])
    · obtain ⟨m1, m2⟩ := hoth f (.inr a)
      exact (h.each f m1).fr hf fun k hk => ne (h.cE f m1 k hk) (by simp [m2])
    · exact h1
  · rw [List.map_append, List.map_cons, hke]
    rw [List.map_append, List.map_cons] at hkey
    exact hkey
  · rcases split hfm with a | a | rfl
    · obtain ⟨m1, m2⟩ := hoth f (.inl a)
      rw [paint_old ((h.each f m1).lt k hk).2]; exact h.cE f m1 k hk
    · obtain ⟨m1, m2⟩ := hoth f (.inr a)
      rw [paint_old ((h.each f m1).lt k hk).2]; exact h.cE f m1 k hk
    · rw [hke]
      by_cases e2 : k < w.heap.size
      · rw [paint_old e2]; exact h.cE e he k (h3 k hk e2)
      · exact paint_new (by omega) (h1.lt k hk).2
/-- another row: fewer rooms -/
theorem RdPh.rowTo (h : RdPh base w R v C mr mj mb E) {E' : List RdE} (hs : E'.Sublist E) {v' : Value} (hr : OwnPd base w' v' (E'.map (·.B))) (hnew : ∀ k, v'.ownBlock = some k → w.heap.size ≤ k) (hb : w'.heap[R]? = some (rdO mr mj mb v')) (hf : Fr (fun k => k = R) w w') :
    RdPh base w' R v' (paint C w.heap.size w'.heap.size (2, [])) mr mj mb E' ∧ Fr (fun k => C k ≠ tag0) w w' := by
  have ne : ∀ {k : Nat} {g : Tag}, C k = g → g ≠ (1, []) → ¬ k = R := fun e1 hg hx => hg (by rw [← e1, hx, h.cR])
  have hmem : ∀ f ∈ E', f ∈ E := fun f hf => hs.subset hf
  refine ⟨⟨hb, hr, fun f hfm => (h.each f (hmem f hfm)).fr hf fun k hk => ne (h.cE f (hmem f hfm) k hk) (by simp), h.keys.sublist (hs.map keyD), by rw [paint_old (blk_lt h.self)]; exact h.cR, fun k hk => paint_new (hnew k hk) (hr.lt k hk).2, fun f hfm k hk => by rw [paint_old ((h.each f (hmem f hfm)).lt k hk).2]; exact h.cE f (hmem f hfm) k hk, fun k hk => paint_far (Nat.le_trans hf.size hk) hk, fun k hk => by rw [paint_old (by have := h.base_le; omega)]; exact h.cB k hk⟩, hf.mono fun k _ e => by rw [e, h.cR]; simp⟩
/-- a new room came: first the room, then the row -/
theorem RdPh.newTo (h : RdPh base w R v C mr mj mb E) {B : Nat} {q : RxV} {x : Rx} {w1 : World} (h1 : RxAt w.heap.size B q x w1) (hb1 : RowKit.Below w.heap.size w w1) (hk : foldL x.nm ∉ E.map keyD) {v' : Value} (hr : OwnPd base w' v' ((E ++ [(⟨B, q, x⟩ : RdE)]).map (·.B))) (hnew : ∀ k, v'.ownBlock = some k → w1.heap.size ≤ k) (hb : w'.heap[R]? = some (rdO mr mj mb v')) (hf : Fr (fun k => k = R) w1 w') :
    (∃ C', RdPh base w' R v' C' mr mj mb (E ++ [(⟨B, q, x⟩ : RdE)]) ∧ Onto C C' w w') := by
  have ne : ∀ {k : Nat} {g : Tag}, C k = g → g ≠ (1, []) → ¬ k = R := fun e1 hg hx => hg (by rw [← e1, hx, h.cR])
  have hs1 := hb1.size
  have hsf := hf.size
  have hlR : R < w.heap.size := blk_lt h.self
  have g1 := h.below hb1
  have hRx : ∀ k, RxX B q k → ¬ k = R := fun k hk e => by have := (h1.lt k hk).1; omega
  have f1 : Fr (fun _ => False) w w1 := Fr.of_below hb1
  refine ⟨fun k => if k < w.heap.size then C k else if k < w1.heap.size then (4, foldL x.nm) else if k < w'.heap.size then (2, []) else tag0, ⟨hb, hr, fun f hfm => ?_, ?_, by rw [if_pos hlR]; exact h.cR, fun k hk2 => ?_, fun f hfm k hk2 => ?_, fun k hk2 => ?_, fun k hk2 => ?_⟩, fun k hk2 => if_pos hk2, (f1.mono fun _ _ e => e.elim).trans3 hf fun k _ e => by rw [e, h.cR]; simp⟩
  · rcases List.mem_append.1 hfm with a | a
    · exact (g1.each f a).fr hf fun k hk => ne (h.cE f a k hk) (by simp)
    · obtain rfl := List.mem_singleton.1 a
      have h2 := h1.fr hf hRx
      obtain ⟨a1, a2, a3, a4, a5⟩ := h2
      have hbw := h.base_le
      exact ⟨a1, row_baseG a2 hbw, row_baseG a3 hbw, row_baseG a4 hbw, Nat.le_trans hbw a5⟩
  · rw [List.map_append]
    refine List.nodup_append.2 ⟨h.keys, by simp, fun a ha b hb2 e => ?_⟩
    simp at hb2
    exact hk (by rw [show foldL x.nm = a from hb2.symm.trans e.symm]; exact ha)
  · have := hnew k hk2
    rw [if_neg (by omega), if_neg (by omega), if_pos (hr.lt k hk2).2]
  · rcases List.mem_append.1 hfm with a | a
    · rw [if_pos ((h.each f a).lt k hk2).2]; exact h.cE f a k hk2
    · obtain rfl := List.mem_singleton.1 a
      have := h1.lt k hk2
      rw [if_neg (by omega), if_pos this.2]; rfl
  · rw [if_neg (by omega), if_neg (by omega), if_neg (by omega)]
  · have := h.base_le
    rw [if_pos (by omega)]; exact h.cB k hk2
end
section
variable {P : Program} {w W' : World} {ops : Array Oper} {rest : List Oper} {o : Oper} {a : Act} {Q : Exit → Act → World → Prop}
theorem wpList_app_run (hgd : o.guard = none) (s x : Operand) (t tx : TypeId) (ho : o.op = .call { callee := .builtin .append, args := #[s, x], argTypes := #[t, tx] })
    {v : Value} (hr : (Builtin.append_ #[t, tx] o.type #[a.eval s, a.eval x]).run P w = .ok v W') (h : wpList P ops Q rest (a.put o.dst v) W') : wpList P ops Q (o :: rest) a w := by
  refine wpList_plain hgd fun _ hK => ?_
  unfold Oper.wp execOp
  simp only [ho, resolve, invoke, builtin, Sem.run_bind, Sem.run_pure, Result.andThen_ok, List.map_toArray, List.map_cons, List.map_nil, hr]
  exact hK _ _ h
end
theorem cmpF_pos (a b : List UInt8) : 0 < cmpF a b ↔ foldL b < foldL a := by
  have h1 : cmpL (foldL b) (foldL a) = -1 ↔ foldL b < foldL a := by rw [← less_cmpL, bytesLess_eq, decide_eq_true_eq]
  have h2 := cmpL_anti (foldL a) (foldL b)
  unfold cmpF
  rw [← h1]
  rcases cmpL_three (foldL a) (foldL b) with h | h | h <;> omega
theorem add_anyW (g o j : Nat) : (⟨g, o, none⟩ : Addr).add j = ⟨g, o + j, none⟩ := by
  unfold Addr.add
  split
  · simp_all
  · rfl
theorem slice_pd (g o n c : Nat) (hc : n ≤ c) (hc0 : 0 < c) (i : Nat) (hi : i ≤ n) :
    (∀ W, (Instr.slice 30 (.slice (some ⟨g, o, none⟩) n c) none (some (.int .i64 i)) none).run Tryz.prog W = .ok (.slice (some ⟨g, o, none⟩) i c) W) ∧
    ∃ g1 o1, (∀ W, (Instr.slice 30 (.slice (some ⟨g, o, none⟩) n c) (some (.int .i64 (i : Int))) none none).run Tryz.prog W = .ok (.slice (some ⟨g1, o1, none⟩) (n - i) (c - i)) W) ∧ (i < n → g1 = g ∧ o1 = o + i) := by
  have hu : Tryz.prog.underlying 30 = some (.slice (Tryz.prog.elem 30)) := by kernel_rfl
  obtain ⟨i0, hi0, _, hz1, _⟩ := info_parts Tryz.infoPd
  refine ⟨fun W => ?_, ?_⟩
  · rw [run_slice_h W 30 _ _ _ hu _ _ (by omega) (by omega)]
    have h3 : ¬ (c = 0) := by omega
    simp [sliced, sizeOf, hi0, hz1, go_sem, h3, add_anyW, typeInfo]
  · by_cases h1 : c = i
    · refine ⟨g, o, fun W => ?_, fun h2 => by omega⟩
      rw [run_slice_l W 30 _ _ _ hu _ _ (by omega) (by omega)]
      simp [sliced, sizeOf, hi0, hz1, go_sem, h1, typeInfo]
    · refine ⟨g, o + i, fun W => ?_, fun h2 => ⟨rfl, rfl⟩⟩
      rw [run_slice_l W 30 _ _ _ hu _ _ (by omega) (by omega)]
      have h2 : ¬ c - i = 0 := by omega
      simp [sliced, sizeOf, hi0, hz1, go_sem, h1, h2, add_anyW, typeInfo]
theorem slice_pd_h (W : World) : (Instr.slice 30 (.slice none 0 0) none (some (.int .i64 ((0 : Nat) : Int))) none).run Tryz.prog W = .ok (.slice none 0 0) W := by kernel_rfl
theorem slice_pd_l (W : World) : (Instr.slice 30 (.slice none 0 0) (some (.int .i64 ((0 : Nat) : Int))) none none).run Tryz.prog W = .ok (.slice none 0 0) W := by kernel_rfl
theorem encPr_one (T : List Nat) : ∀ u ∈ T.map encPr, u.oneCell' = true := by
  intro u hu
  obtain ⟨p, _, rfl⟩ := List.mem_map.1 hu
  rfl
/-- a room put in among rooms: the slices, the three appends -/
theorem ins_runsPd {base : Nat} {w : World} {A : Option Addr} {c : Nat} {ns : List Nat} (h3 : OwnPd base w (.slice A ns.length c) ns) (hnil : ns = [] → A = none ∧ c = 0) {i : Nat} (hi : i ≤ ns.length) (hl : ns.length ≤ 1000000) (s : Nat) :
    ∃ V1 V2 A3 c3 A4 c4 A5 c5 W3 W4 W5,
      (∀ W, (Instr.slice 30 (.slice A ns.length c) none (some (.int .i64 i)) none).run Tryz.prog W = .ok V1 W) ∧
      (∀ W, (Instr.slice 30 (.slice A ns.length c) (some (.int .i64 (i : Int))) none none).run Tryz.prog W = .ok V2 W) ∧
      (Builtin.append_ #[30, 30] 30 #[.slice none 0 0, V1]).run Tryz.prog w = .ok (.slice A3 i c3) W3 ∧
      (Builtin.append_ #[30, 30] 30 #[.slice A3 i c3, .slice (some ⟨W3.heap.size, 0, none⟩) 1 1]).run Tryz.prog (W3.alloc (.cells #[.pointer (some ⟨s, 0, none⟩)] 40)) = .ok (.slice A4 (i + 1) c4) W4 ∧
      (Builtin.append_ #[30, 30] 30 #[.slice A4 (i + 1) c4, V2]).run Tryz.prog W4 = .ok (.slice A5 (ns.length + 1) c5) W5 ∧
      OwnPd w.heap.size W5 (.slice A5 (ns.length + 1) c5) (ns.take i ++ s :: ns.drop i) ∧ Fr (fun _ => False) w W3 ∧ Fr (fun _ => False) w W4 ∧ Fr (fun _ => False) w W5 := by
  obtain ⟨i0, hi0, hz0, hz1, hz2⟩ := info_parts Tryz.infoPd
  have h3' := h3
  obtain ⟨V1, V2, hs1, hs2, src1, src2⟩ : ∃ V1 V2,
      (∀ W, (Instr.slice 30 (.slice A ns.length c) none (some (.int .i64 i)) none).run Tryz.prog W = .ok V1 W) ∧
      (∀ W, (Instr.slice 30 (.slice A ns.length c) (some (.int .i64 (i : Int))) none none).run Tryz.prog W = .ok V2 W) ∧
      (∀ W, Fr (fun _ => False) w W → Src Tryz.prog 1 30 V1 i ((ns.take i).map encPr) W) ∧ (∀ W, Fr (fun _ => False) w W → Src Tryz.prog 1 30 V2 (ns.length - i) ((ns.drop i).map encPr) W) := by
    by_cases h0 : ns = []
    · obtain ⟨rfl, rfl⟩ := hnil h0
      subst h0
      obtain rfl : i = 0 := by simpa using hi
      exact ⟨_, _, slice_pd_h, slice_pd_l, fun W _ => Src.ofNil W Tryz.underlying30 0, fun W _ => Src.ofNil W Tryz.underlying30 0⟩
    · have hpos : 0 < ns.length := List.length_pos_iff.2 h0
      rcases h3.2 with ⟨_, hn⟩ | ⟨g, cap, cur, hv, hbg, hg, hnc, hcm, hcs, htake⟩
      · omega
      injection hv with q1 q2 q3
      subst q1
      subst q3
      obtain ⟨hs1, g1, o1, hs2, hg1⟩ := slice_pd g 0 ns.length c hnc (by omega) i hi
      have hgl : g < w.heap.size := blk_lt hg
      have hcell : ∀ (W : World), Fr (fun _ => False) w W → ∀ j u, (ns.map encPr)[j]? = some u → W.cell? ⟨g, 0 + j, none⟩ = some u := fun W hf j u hu => by
        rw [hf.cell (p := ⟨g, 0 + j, none⟩) hgl (fun e => e)]
        have := h3'.cells (g := g) rfl j u hu
        rwa [add_anyW] at this
      have hsp : ns.map encPr = (ns.take i).map encPr ++ (ns.drop i).map encPr := by rw [← List.map_append, List.take_append_drop]
      have l1 : ((ns.take i).map encPr).length = i * 1 := by rw [List.length_map, List.length_take]; omega
      have l3 : ((ns.drop i).map encPr).length = (ns.length - i) * 1 := by rw [List.length_map, List.length_drop]; omega
      refine ⟨_, _, hs1, hs2, fun W hf => Src.ofSlice W Tryz.underlying30 ⟨g, 0, none⟩ i c _ l1 (fun j u hu => by
        rw [add_anyW]
        refine hcell W hf j u ?_
        rw [hsp, List.getElem?_append_left (by have := (List.getElem?_eq_some_iff.1 hu).1; omega)]
        exact hu) (encPr_one _), fun W hf => Src.ofSlice W Tryz.underlying30 ⟨g1, o1, none⟩ _ _ _ l3 (fun j u hu => by
        have hj := (List.getElem?_eq_some_iff.1 hu).1
        obtain ⟨rfl, rfl⟩ := hg1 (by omega)
        rw [add_anyW]
        have := hcell W hf (i + j) u (by rw [hsp, List.getElem?_append_right (by omega), l1, Nat.mul_one, Nat.add_sub_cancel_left]; exact hu)
        rwa [← Nat.add_assoc] at this) (encPr_one _)⟩
  have hown0 : w.ownsRow w.heap.size 40 1 (.slice none 0 0) 0 [] := World.ownsRow_nil _ _ _ _
  obtain ⟨v3, W3, hr3, r1, r2, r3⟩ := run_app_any (P := Tryz.prog) w w.heap.size 30 30 30 40 i0 _ 1 8 Tryz.underlying30 hi0 hz0 hz1 hz2 rfl _ 0 [] hown0 _ i _ (src1 w (Fr.refl _ w)) (by unfold maxLen; omega) (by omega) (Nat.le_refl _)
  rw [Nat.zero_add] at r1
  rw [List.nil_append] at r1
  obtain ⟨A3, c3, rfl⟩ := row_slice r1
  have f3 : Fr (fun _ => False) w W3 := r2.mono fun k _ e => by simp [Value.ownBlock] at e
  obtain ⟨v4, W4, hr4, s1, s2, s3⟩ := run_one_t (P := Tryz.prog) (W := W3) w.heap.size 30 30 40 i0 _ 1 8 Tryz.underlying30 hi0 hz0 hz1 hz2 rfl (by decide) _ i _ r1 #[.pointer (some ⟨s, 0, none⟩)] rfl (by intro u hu; simp at hu; subst hu; rfl) (by omega) (by decide) f3.size
  obtain ⟨A4, c4, rfl⟩ := row_slice s1
  have f4 : Fr (fun _ => False) w W4 := f3.trans3 s2 fun k hk e => by have := (r1.lt k e).1; omega
  obtain ⟨v5, W5, hr5, t1, t2, t3⟩ := run_app_any (P := Tryz.prog) W4 w.heap.size 30 30 30 40 i0 _ 1 8 Tryz.underlying30 hi0 hz0 hz1 hz2 rfl _ (i + 1) _ s1 _ (ns.length - i) _ (src2 W4 f4) (by unfold maxLen; omega) (by omega) f4.size
  have e5 : i + 1 + (ns.length - i) = ns.length + 1 := by omega
  rw [e5] at t1
  obtain ⟨A5, c5, rfl⟩ := row_slice t1
  refine ⟨V1, V2, A3, c3, A4, c4, A5, c5, W3, W4, W5, hs1, hs2, hr3, hr4, hr5, ?_, f3, f4, f4.trans3 t2 fun k hk e => by have := (s1.lt k e).1; omega⟩
  have hlen : (ns.take i ++ s :: ns.drop i).length = ns.length + 1 := by rw [List.length_append, List.length_cons, List.length_take, List.length_drop]; omega
  unfold OwnPd
  rw [hlen, List.map_append, List.map_cons]
  have : (ns.take i).map encPr ++ encPr s :: (ns.drop i).map encPr = (ns.take i).map encPr ++ #[Value.pointer (some ⟨s, 0, none⟩)].toList ++ (ns.drop i).map encPr := by simp [encPr]
  rw [this]
  exact t1
end Go.Proofs.YtlkeomcillencaaGreat
end
section
/- Layer 20: the document's Get. -/
namespace Go.Proofs.YtlkeomcillencaaGreat
open Go Go.RowKit Go.Maps Go.Sort Go.Shelf Go.Lib

def getD (E : List RdE) (k : List UInt8) : Option RdE := E.find? fun e => decide (keyD e = k)
def ptD (o : Option RdE) : Option Addr := o.map fun e => ⟨e.B, 0, none⟩
theorem sameF_fold (a b : List UInt8) : sameF a b = decide (foldL a = foldL b) := by
  unfold sameF
  first | rfl | (rw [Bool.eq_iff_iff]; simp) | (simp)
/-- sizes of the document's rooms -/
structure RdLg (n : Nat) (E : List RdE) : Prop where
  elen : E.length ≤ n
  llen : ∀ e ∈ E, e.x.L.length ≤ n
  gs : ∀ e ∈ E, e.x.gs = []
  nms : ∀ e ∈ E, e.x.nm.length ≤ 1000
/-- what lies where, of the i-th room -/
theorem rd_facts {base : Nat} {w : World} {R : Nat} {v : Value} {C : Nat → Tag} {mr mj mb : Int} {E : List RdE} (h : RdPh base w R v C mr mj mb E) {A : Option Addr} {c : Nat} (hv : v = .slice A E.length c) {i : Nat} (hi : i < E.length) :
    ∃ g, A = some ⟨g, 0, none⟩ ∧ ∀ W, Fr (fun _ => False) w W → W.cell? ⟨R, 3, none⟩ = some (.slice (some ⟨g, 0, none⟩) E.length c) ∧ W.cell? ⟨g, i, none⟩ = some (.pointer (some ⟨E[i].B, 0, none⟩)) ∧ W.heap[E[i].B]? = some (rxO E[i].x E[i].q) := by
  have hr := h.row
  subst hv
  obtain ⟨g, rfl, hg, hc⟩ := reads_ownPd hr (by rw [List.length_map]; omega)
  refine ⟨g, rfl, fun W hW => ⟨blk_cell (hW.blk h.self fun e => e) 3, ?_, hW.blk (h.each _ (List.getElem_mem hi)).1 fun e => e⟩⟩
  have h1 := hc i (by rw [List.length_map]; exact hi)
  rw [List.getElem_map, Nat.zero_add] at h1
  exact (hW.cell (p := ⟨g, i, none⟩) hg fun e => e).trans h1
set_option maxRecDepth 100000 in
set_option maxHeartbeats 8000000 in
theorem refGet_any {base : Nat} {w : World} {R : Nat} {v : Value} {C : Nat → Tag} {mr mj mb : Int} {E : List RdE} (h : RdPh base w R v C mr mj mb E) {n : Nat} (hl : RdLg n E) (hn : n ≤ 1000) (nm : List UInt8) (hnm : nm.length ≤ 1000) :
    Calls Tryz.prog 19 #[.pointer (some ⟨R, 0, none⟩), .string (bs nm)] w fun e w' => e = .returned (.pointer (ptD (getD E (foldL nm)))) ∧ RowKit.Below w.heap.size w w' := by
  obtain ⟨A, c, hv⟩ : ∃ A c, v = .slice A E.length c := by
    obtain ⟨A, c, hv⟩ := row_slice h.row
    rw [List.length_map] at hv
    exact ⟨A, c, hv⟩
  obtain ⟨P, hP⟩ : ∃ P, ptD (getD E (foldL nm)) = P := ⟨_, rfl⟩
  rw [hP]
  have hlen : E.length ≤ 1000 := Nat.le_trans hl.elen hn
  have HS := Lib.hid (fun W (hW : Fr (fun _ => False) w W) => (show W.cell? ⟨R, 3, none⟩ = some (.slice A E.length c) from by rw [← hv]; exact blk_cell (hW.blk h.self fun e => e) 3))
  have H := Lib.hid (And.intro h (And.intro hl (And.intro hv (And.intro hP hnm))))
  clear h hl hv hP hnm
  go_enter Tryz.func19, Tryz.ntmps19
  go_wp2_with fail
  go_loopw [5] (fun t wr => ∃ i : Nat, t = .int .i64 i ∧ i ≤ E.length ∧ Hid (Fr (fun _ => False) w wr ∧ ∀ j (hj : j < E.length), j < i → keyD E[j] ≠ foldL nm)) (fun t _ => E.length - (RowKit.intOf t).toNat)
  case atStart => exact ⟨0, rfl, Nat.zero_le _, Fr.refl _ _, fun j _ hj => by omega⟩
  case round =>
    obtain ⟨i, rfl, hi, HB⟩ := hrel
    have s0 := HS.out wr HB.out.1
    by_cases hlt : i < E.length
    · obtain ⟨h, hl, hv, hP, hnm⟩ := H.out
      obtain ⟨g, rfl, hf⟩ := rd_facts h hv hlt
      obtain ⟨e, he⟩ : ∃ e, E[i] = e := ⟨_, rfl⟩
      rw [he] at hf
      have heE : e ∈ E := by rw [← he]; exact List.getElem_mem _
      have hnl := hl.nms e heE
      obtain ⟨q1, q2, q3⟩ := hf wr HB.out.1
      have q4 := blk_cell q3 0
      obtain ⟨nx, hnx⟩ : ∃ nx, e.x.nm = nx := ⟨_, rfl⟩
      have q5 : wr.cell? ⟨e.B, 0, none⟩ = some (.string (bs nx)) := by rw [← hnx]; exact q4
      have HSm := Lib.hid (refsame (bs nx) (bs nm) wr (by rw [← hnx]; simp; omega) (by simp; omega))
      rw [bs_toList, bs_toList, sameF_fold] at HSm
      obtain ⟨d, hd⟩ : ∃ d, decide (foldL nx = foldL nm) = d := ⟨_, rfl⟩
      rw [hd] at HSm
      have HF := Lib.hid hf
      have HD := Lib.hid (And.intro hd (And.intro hnx (And.intro he heE)))
      have n1 : (i : Int) < (E.length : Int) := by omega
      have n2 : decide ((i : Int) < (E.length : Int)) = true := by simp; omega
      clear h hl hv hP hnm hf he heE hnl q3 q4 hnx hd
      go_wp2_with fail
      refine HSm.out.mono ?_
      rintro e2 w2 ⟨rfl, b2⟩
      have f2 : Fr (fun _ => False) w w2 := HB.out.1.trans (Fr.of_below b2)
      obtain ⟨r1, r2, _⟩ := HF.out w2 f2
      have HF2 := Lib.hid f2
      clear b2 f2 HSm q1 q2 q5 s0
      cases d with
      | true =>
        go_wp2_with fail
        go_ret
        obtain ⟨h, hl, hv, hP, hnm⟩ := H.out
        obtain ⟨hd, hnx, he, heE⟩ := HD.out
        refine ⟨?_, HF2.out.below (Nat.le_refl _) fun _ _ e => e.elim⟩
        have hg : getD E (foldL nm) = some e := by
          unfold getD
          rw [List.find?_eq_some_iff_append]
          refine ⟨by rw [decide_eq_true_eq]; unfold keyD; rw [hnx]; exact of_decide_eq_true hd, E.take i, E.drop (i + 1), ?_, fun a ha => ?_⟩
          · rw [← he, ← List.drop_eq_getElem_cons hlt, List.take_append_drop]
          · obtain ⟨j, hj, rfl⟩ := List.getElem_of_mem ha
            rw [List.length_take] at hj
            rw [List.getElem_take]
            simpa using HB.out.2 j (by omega) (by omega)
        rw [← hP, hg]; rfl
      | false =>
        have hN : Hid (∀ j (hj : j < E.length), j < i + 1 → keyD E[j] ≠ foldL nm) := Lib.hid fun j hj hj2 => by
          obtain ⟨hd, hnx, he, heE⟩ := HD.out
          by_cases e9 : j = i
          · subst e9; rw [he]; unfold keyD; rw [hnx]; exact of_decide_eq_false hd
          · exact HB.out.2 j hj (by omega)
        go_wp2_with fail
        go_roundw
        case rel => exact ⟨i + 1, by go_num, by omega, HF2.out, hN.out⟩
        case measure => simp [RowKit.intOf]; omega
    · have n1 : ¬ (i : Int) < (E.length : Int) := by omega
      have n2 : decide ((i : Int) < (E.length : Int)) = false := by simp; omega
      go_wp2_with fail
      go_ret
      obtain ⟨h, hl, hv, hP, hnm⟩ := H.out
      refine ⟨?_, HB.out.1.below (Nat.le_refl _) fun _ _ e => e.elim⟩
      have hg : getD E (foldL nm) = none := by
        unfold getD
        rw [List.find?_eq_none]
        intro a ha
        obtain ⟨j, hj, rfl⟩ := List.getElem_of_mem ha
        simpa using HB.out.2 j hj (by omega)
      rw [← hP, hg]; rfl
end Go.Proofs.YtlkeomcillencaaGreat
end
