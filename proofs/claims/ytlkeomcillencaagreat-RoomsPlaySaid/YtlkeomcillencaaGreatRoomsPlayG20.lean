/- Texts of this proof, one behind the other. -/
import Derived.Test.YtlkeomcillencaaGreatRoomsPlayG19
import Derived.Test.YtlkeomcillencaaGreatRoomsPlayG7
import Derived.Test.YtlkeomcillencaaGreatRoomsPlayG6
import Derived.Test.YtlkeomcillencaaGreatChecked
set_option linter.unusedVariables false
set_option linter.unusedSimpArgs false
section
/- Layer 20: Peers. -/
namespace Go.Proofs.YtlkeomcillencaaGreat
open Go Go.RowKit Go.Maps Go.Lib Go.Sort Go.Shelf
attribute [local go_sem] Oper.semAt_some

/-- who is on a room -/
def idsE (e : RmE) : List Int := e.r.mem.map (·.1)
def idsK (Q : List RmE) (k : List UInt8) : List Int := ((getE Q k).map idsE).getD []
theorem mem_idsE {e : RmE} {j : Int} : j ∈ idsE e ↔ hasM e.r.mem j = true := by
  unfold idsE; rw [hasM_mem, List.mem_map]
/-- sets, one for each name so far -/
def PeJ (S base : Nat) (g : List (List UInt8) → List (List Int)) (pre : List (List UInt8)) (X : Nat → Prop) (W : World) : Prop :=
  ∃ (vs : Value) (es : List (Nat × Option Nat)), W.heap[S]? = some (.cells #[vs] 109 (0, 0)) ∧ W.ownsRow base 99 1 vs es.length (es.map fun e => Value.pointer (some ⟨e.1, 0, none⟩)) ∧ es.length = (g pre).length ∧
    (∀ j (h : j < es.length) (h2 : j < (g pre).length), SetAt base W es[j].1 es[j].2 (g pre)[j] ∧ base ≤ es[j].1) ∧ S < base ∧ ∀ k, X k ↔ (k = S ∨ vs.ownBlock = some k ∨ ∃ e ∈ es, k = e.1 ∨ e.2 = some k)
theorem setBlk {base : Nat} {w : World} {s : Nat} {ob : Option Nat} {xs : List Int} (h : SetAt base w s ob xs) : s < w.heap.size ∧ (∃ v, w.heap[s]? = some (.cells #[v] 149 (0, 0))) ∧ ∀ k, ob = some k → base ≤ k ∧ k < w.heap.size ∧ ∃ cur, w.heap[k]? = some (.cells cur 3 (0, 0)) := by
  obtain ⟨⟨v, h1, h2, h3⟩, _⟩ := h
  refine ⟨blk_lt h1, ⟨v, h1⟩, fun k hk => ?_⟩
  have e := h2.trans hk
  exact ⟨(h3.lt k e).1, (h3.lt k e).2, own_type h3 k e⟩
theorem set_frG {base : Nat} {X : Nat → Prop} {w w' : World} {s : Nat} {ob : Option Nat} {xs : List Int} (h : SetAt base w s ob xs) (hf : Fr X w w') (hs : ¬ X s) (ho : ∀ k, ob = some k → ¬ X k) : SetAt base w' s ob xs := by
  obtain ⟨a, _, b⟩ := setBlk h
  exact set_kept h (hf.block s a hs) fun g hg => hf.block g (b g hg).2.1 (ho g hg)
theorem peJ_stays (S base : Nat) (g : List (List UInt8) → List (List Int)) : Stays (PeJ S base g) := fun pre X V V' ⟨vs, es, h1, h2, h3, h4, h5, h6⟩ hl hf =>
  ⟨vs, es, hf.blk h1 (fun e => e ((h6 S).2 (.inl rfl))), row_same h2 fun g hg => hf.block g (h2.lt g hg).2 fun e => e ((h6 g).2 (.inr (.inl hg))), h3, fun j hj hj2 => ⟨set_frG (h4 j hj hj2).1 hf (fun e => e ((h6 _).2 (.inr (.inr ⟨_, List.getElem_mem hj, .inl rfl⟩)))) fun k hk e => e ((h6 _).2 (.inr (.inr ⟨_, List.getElem_mem hj, .inr hk⟩))), (h4 j hj hj2).2⟩, h5, h6⟩
/-- what Peers gives -/
def PeersP (Q : List RmE) (id : Int) (w : World) (e : Ending) (w' : World) : Prop := (∃ (F : Value) (Y : Nat → Prop) (ps : List Int), e = .returned F ∧ TellsF Tryz.prog encI w' F Y ps ∧ ps.Pairwise (· < ·) ∧ (∀ j, j ∈ ps ↔ j ≠ id ∧ ∃ e ∈ Q, hasM e.r.mem id = true ∧ hasM e.r.mem j = true) ∧ ps.length ≤ 1000000) ∧ RowKit.Below w.heap.size w w'
theorem flatL {α β : Type} {n m : Nat} {g : α → List β} : ∀ {xs : List α}, xs.length ≤ n → (∀ k ∈ xs, (g k).length ≤ m) → (xs.map g).flatten.length ≤ xs.length * m
  | [], _, _ => by simp
  | a :: xs, h, h2 => by
    rw [List.map_cons, List.flatten_cons, List.length_append, List.length_cons, Nat.succ_mul]
    have := flatL (n := n) (m := m) (g := g) (xs := xs) (by simp at h; omega) fun k hk => h2 k (List.mem_cons_of_mem _ hk)
    have := h2 a (List.mem_cons_self ..)
    omega
set_option maxRecDepth 100000 in
set_option maxHeartbeats 16000000 in
theorem peers_any {base : Nat} {w : World} {R t b tr n : Nat} {X : Nat → Prop} {C : Nat → Tag} {mr mj mb : Int} {Q : List RmE} {L : List (Int × List UInt8)} (h : RsPh base w R t b tr X C mr mj mb Q L) (hl : RsLg n Q L) (hn : n ≤ 900) {id : Int} (hid : OkKIS id) :
    Calls Tryz.prog 27 #[.pointer (some ⟨R, 0, none⟩), .int .i64 id] w (PeersP Q id w) := by
  obtain ⟨i0, hi, hz0, hz1, hz2⟩ := info_parts Tryz.infoP
  obtain ⟨xs, x1, x2, x3, x4⟩ := ofAtIS h.rel (by have := hl.llen; omega) hid
  obtain ⟨S, hS1, hS2, hSB, hSk, hSx, hSQ⟩ := ofQ_row hl h.keys x1 x2
  have hxl : xs.length ≤ 900 := by have := hl.llen; omega
  have hids : ∀ k, (idsK Q k).length ≤ 900 := fun k => by
    unfold idsK
    cases hg : getE Q k with
    | none => simp
    | some e =>
      simp only [Option.map_some, Option.getD_some]
      unfold idsE
      rw [List.length_map]
      have := hl.mlen e (getE_mem hg).1
      omega
  have hfin : ∀ j, j ∈ (normI (xs.map fun k => normI (idsK Q k)).flatten).filter (fun y => decide (y ≠ id)) ↔ j ≠ id ∧ ∃ e ∈ Q, hasM e.r.mem id = true ∧ hasM e.r.mem j = true := fun j => by
    rw [List.mem_filter, (normI_ok _).2, List.mem_flatten]
    constructor
    · rintro ⟨⟨l, h1, h2⟩, h3⟩
      obtain ⟨k, hk, rfl⟩ := List.mem_map.1 h1
      obtain ⟨_, e, he, heQ⟩ := hSx k hk
      rw [(normI_ok _).2] at h2
      unfold idsK at h2
      rw [he] at h2
      simp only [Option.map_some, Option.getD_some] at h2
      rw [← hS2] at hk
      obtain ⟨e2, he2, rfl⟩ := List.mem_map.1 hk
      have h5 := getE_of h.keys (hSQ e2 he2).1
      rw [h5] at he
      cases he
      exact ⟨by simpa using h3, e, heQ, (hSQ e he2).2, mem_idsE.1 h2⟩
    · rintro ⟨h3, e, heQ, h4, h5⟩
      refine ⟨⟨normI (idsK Q (keyE e)), List.mem_map.2 ⟨keyE e, (x2 _).2 ((hl.pairs _ _).2 ⟨e, heQ, rfl, h4⟩), rfl⟩, ?_⟩, by simpa using h3⟩
      rw [(normI_ok _).2]
      unfold idsK
      rw [getE_of h.keys heQ]
      exact mem_idsE.2 h5
  obtain ⟨N, hN⟩ : ∃ N, w.heap.size = N := ⟨_, rfl⟩
  obtain ⟨w1, hw1⟩ : ∃ w1, (w.alloc (Obj.cells #[.pointer (some ⟨R, 0, none⟩)] 25)).alloc (Obj.cells #[Value.slice none 0 0] 109) = w1 := ⟨_, rfl⟩
  have z1 : w1.heap.size = N + 2 := by rw [← hw1, ← hN]; simp
  have f1 : Fr (fun _ => False) w w1 := by rw [← hw1]; exact ((Fr.refl _ w).alloc _).alloc _
  have hb0 : w1.heap[N]? = some (.cells #[.pointer (some ⟨R, 0, none⟩)] 25 (0, 0)) := by rw [← hw1, ← hN]; exact blk_alloc (heap_alloc_new w _) _
  have hb1 : w1.heap[N + 1]? = some (.cells #[.slice none 0 0] 109 (0, 0)) := by rw [← hw1, ← hN]; exact heap_alloc2_new w _ _
  have h1 := h.fr f1 fun _ _ e => e
  have hC : ∀ k, N ≤ k → C k = tag0 := fun k hk => h.cN k (by omega)
  have hby : ∀ k ∈ xs, ∀ W, RsPh base W R t b tr X C mr mj mb Q L → ∀ V, Fr (fun _ => False) W V → Calls Tryz.prog 61 #[.pointer (some ⟨tr, 0, none⟩), .string (bs k)] V (AllP (idsK Q k) V) := fun k hk W hW => by
    obtain ⟨_, e, he, heQ⟩ := hSx k hk
    obtain ⟨ys, y1, y2, y3, y4⟩ := byAtIS hW.rel (by have := hl.llen; omega) (okKSI_of (hl.keyLen ((x2 k).1 hk)))
    have hke := (getE_mem he).2
    have : ys = idsK Q k := by
      unfold idsK
      rw [he]
      simp only [Option.map_some, Option.getD_some]
      have hu : UpM e.r.mem := (h.each e heQ).2.2.2.2.2.2
      refine up_ext y1 (ids_up hu) fun j => ?_
      rw [y2, hl.pairs]
      constructor
      · rintro ⟨e2, a1, a2, a3⟩
        have h5 := getE_of h.keys a1
        rw [a2, he] at h5
        cases h5
        exact mem_idsE.2 a3
      · intro a; exact ⟨e, heQ, hke, mem_idsE.1 a⟩
    rw [← this]
    exact y4
  have HR := Lib.hid (joined_any h1)
  have HA := Lib.hid (x4 w1 f1)
  have H := Lib.hid (And.intro f1 (And.intro hb0 (And.intro hb1 (And.intro z1 (And.intro h1 (And.intro hC (And.intro hby (And.intro hids hfin))))))))
  have HW := Lib.hid (And.intro hN hw1)
  have c0 := blk_cell hb0 0
  have HID0 := Lib.hid hid
  clear h h1 f1 hb0 hb1 z1 hw1 hl hn hid x1 x2 x3 x4 hS2 hSB hSk hSx hSQ hS1 hN hC hby hids hfin
  refine (callsIn_wide (n := 20)).1 ?_
  refine callsIn_of_wp_marks Tryz.func27 rfl trivial ?_ rfl
  simp only [Tryz.ntmps27, List.size_toArray, List.length_cons, List.length_nil, Nat.reduceAdd, Nat.reduceSub, Array.replicate_succ, Array.replicate_zero, List.push_toArray, List.append_toArray, List.nil_append, List.cons_append]
  gi_wp2_with fail
  rw [HW.out.1]
  rw [HW.out.2]
  refine ⟨trivial, (calls_wide (.inl rfl) HR.out).mono ?_⟩
  rintro e w2 ⟨rfl, rfl⟩
  clear HR c0
  gi_wp2_with fail
  refine ⟨trivial, (calls_wide (.inl rfl) HA.out).mono ?_⟩
  rintro e w3 ⟨⟨F, rfl, hT⟩, hb3⟩
  clear HA
  have f3 : Fr (fun _ => False) w2 w3 := Fr.of_below hb3
  obtain ⟨Y, hYb, gf, lb, rfl, hseq, hYl, heg⟩ := tellsT_tale (show TaleT w2.heap.size w3 F xs from hT) (by omega)
  obtain ⟨f1, hb0, hb1, z1, h1, hC, hby, hids, hfin⟩ := H.out
  have z3 := f3.size
  have j0 := f3.blk hb0 fun e => e
  have j1 := f3.blk hb1 fun e => e
  have h3 := h1.fr f3 fun _ _ e => e
  have hY3 : ∀ k, Y k → N + 2 ≤ k := fun k hk => by have := hYb k hk; omega
  have hN := HW.out.1
  have K := Lib.hid (And.intro f3 (And.intro j0 (And.intro j1 (And.intro h3 (And.intro z3 hN)))))
  clear hT hb3 f1 hb0 hb1 h1 HW hby hids hfin
  gi_wp2_with fail
  refine wpIn_rangeF (X := fun k => k = N + 1) (Y := Y) (xs := xs) (encs := encL) (gf := gf) (lb := lb) (PeJ (N + 1) w3.heap.size (List.map fun k => normI (idsK Q k))) (fun _ _ _ _ => False)
    rfl hseq (fun k hk => ⟨by omega, fun e => by have := hY3 k e; omega⟩) hYl (by omega) heg (fun _ => rfl)
    (peJ_stays _ _ _) (fun c s X1 V1 V2 h => h.elim) ⟨_, [], j1, World.ownsRow_nil _ _ _ _, rfl, (fun j hj => absurd hj (Nat.not_lt_zero _)), by omega, fun k => by simp [Value.ownBlock]⟩ ?round ?done (fun _ _ _ _ _ _ _ _ _ _ _ h => h.elim)
  case round =>
    rintro l pre x r X1 V KK rb hl2 hpx hI hG hxl2 hF hlV hK
    have hxm : x ∈ xs := by rw [← hpx]; simp
    dsimp only [encL]
    have HK := Lib.hid hK
    have HV := Lib.hid (And.intro hpx (And.intro hI (And.intro hG (And.intro hxl2 (And.intro hF (And.intro hlV hl2))))))
    have HX := Lib.hid hxm
    clear hK hpx hI hG hxl2 hF hlV hl2 hseq hYl heg hYb hY3 z1 z3 j0 j1 h3 hC f3 hN hxm
    gi_wp2_with fail
    refine HK.out _ _ (Fr.refl _ _) fun Vb hfb hzb hsb hrb => ?_
    clear HK KK
    obtain ⟨hpx, ⟨vs, es, k3, o3, hel, hes, hSl, hX1⟩, hG, hxl2, hF, hlV, hl2⟩ := HV.out
    obtain ⟨f3, j0, j1, h3, z3, hN⟩ := K.out
    obtain ⟨f1, hb0, hb1, z1, h1, hC, hby, hids, hfin⟩ := H.out
    have hpl : pre.length + 1 ≤ xs.length := by
      have := congrArg List.length hpx
      simp at this; omega
    have k3b := hfb.blk k3 (by omega : ¬ N + 1 = l)
    have o3b : Vb.ownsRow w3.heap.size 99 1 vs es.length (es.map fun e => Value.pointer (some ⟨e.1, 0, none⟩)) := row_same o3 fun g hg => hfb.block g (o3.lt g hg).2 fun e => hxl2 ((hX1 l).2 (.inr (.inl (e ▸ hg))))
    have hesb : ∀ j (h : j < es.length) (h2 : j < (pre.map fun k => normI (idsK Q k)).length), SetAt w3.heap.size Vb es[j].1 es[j].2 (pre.map fun k => normI (idsK Q k))[j] ∧ w3.heap.size ≤ es[j].1 := fun j hj hj2 =>
      ⟨set_frG (hes j hj hj2).1 hfb (fun e => hxl2 ((hX1 l).2 (.inr (.inr ⟨_, List.getElem_mem hj, .inl (show l = _ from e.symm)⟩)))) fun k hk e => hxl2 ((hX1 l).2 (.inr (.inr ⟨_, List.getElem_mem hj, .inr (by rw [hk, show k = l from e])⟩))), (hes j hj hj2).2⟩
    have v0 := hfb.blk (hF.blk j0 (by omega)) (by omega : ¬ N = l)
    have hVz := hF.size
    have hb : RsPh base Vb R t b tr X C mr mj mb Q L := (h3.fr hF fun k hk e => hk (hC k (by omega))).fr hfb fun k hk e => hk (hC k (by have : k = l := e; omega))
    have hzs : Vb.heap.size = V.heap.size := hzb
    have hvb : ∀ k, vs.ownBlock = some k → w3.heap.size ≤ k := fun k hk => (o3b.lt k hk).1
    have hCv : ∀ k, C k ≠ tag0 → ¬ vs.ownBlock = some k := fun k hk e => hk (hC k (by have := hvb k e; omega))
    have HBV := Lib.hid (fun W (hW : Fr (fun k => vs.ownBlock = some k) Vb W) => (And.intro (blk_cell (hW.blk v0 (fun e => by have := hvb _ e; omega)) 0) (And.intro (blk_cell (hW.blk k3b (fun e => by have := hvb _ e; omega)) 0) (hW.blk hb.self (hCv R (by rw [hb.cR]; simp))))))
    have HBy := Lib.hid (hby x HX.out Vb hb)
    obtain ⟨ids, hids2⟩ : ∃ ids, idsK Q x = ids := ⟨_, rfl⟩
    have hil := hids x
    rw [hids2] at HBy hil
    have HID : Hid (ids.length ≤ 1000000) := Lib.hid (by omega)
    have HR := Lib.hid o3b
    have HL : Hid (es.length ≤ 1000000) := Lib.hid (by rw [hel, List.length_map]; omega)
    have HBZ : Hid (w3.heap.size ≤ Vb.heap.size) := Lib.hid (by omega)
    have HNN : Hid (∀ k, vs.ownBlock = some k → k ≠ N + 1) := Lib.hid fun k hk e => by have := hvb k hk; omega
    have HU := Lib.hid (And.intro hX1 (And.intro hG (And.intro hxl2 (And.intro (And.intro hfb hrb) (And.intro k3b (And.intro hesb (And.intro hel (And.intro hzs (And.intro hlV (And.intro hSl (And.intro hl2 hids2)))))))))))
    clear hpx k3 o3 hel hes hSl hX1 hG hxl2 hF hlV hl2 f3 j0 j1 h3 z3 hN f1 hb0 hb1 z1 h1 hC hby hids hfin hpl k3b o3b hesb v0 hVz hb hzs hvb hCv hil hfb hzb hsb hrb hids2
    gi_wp2_with fail
    refine wpIn_region_i (S := fun W => Fr (fun k => vs.ownBlock = some k) Vb W) 11 (by kernel_rfl) (by exact (Fr.refl _ Vb).drew) (fun hHeld => ?_)
    refine wpAnyI_read (i := 5) (oi := { dst := some 17, op := Go.Op.move (Go.Operand.tmp 6), type := 9, pos := "rooms.go:133", after := #[], guard := none }) ?_ (fun _ => trivial) (by kernel_rfl) rfl (by kernel_rfl) (by kernel_rfl) (by kernel_rfl) (by kernel_rfl) (fun _ _ _ h => h) (by rfl) (by assumption) ?_ ?_
    rotate_left
    · (intro w0 hS0; go_simp <;> (try with_reducible rfl))
    try simp only [Act.put, List.setIfInBounds_toArray, List.set_cons_zero, List.set_cons_succ]
    refine wpAnyI_read (i := 0) (oi := { dst := some 12, op := Go.Op.load 109 (Go.Operand.tmp 5), type := 109, pos := "rooms.go:133", after := #[], guard := none }) ?_ (fun _ => trivial) (by kernel_rfl) rfl (by kernel_rfl) (by kernel_rfl) (by kernel_rfl) (by kernel_rfl) (fun _ _ _ h => h) (by rfl) (by assumption) ?_ ?_
    rotate_left
    · (intro w0 hS0; obtain ⟨s0, s1, s2⟩ := HBV.out w0 hS0; go_simp <;> (try with_reducible rfl))
    try simp only [Act.put, List.setIfInBounds_toArray, List.set_cons_zero, List.set_cons_succ]
    refine wpAnyI_read (i := 1) (oi := { dst := some 13, op := Go.Op.load 25 (Go.Operand.tmp 2), type := 25, pos := "rooms.go:133", after := #[], guard := none }) ?_ (fun _ => trivial) (by kernel_rfl) rfl (by kernel_rfl) (by kernel_rfl) (by kernel_rfl) (by kernel_rfl) (fun _ _ _ h => h) (by rfl) (by assumption) ?_ ?_
    rotate_left
    · (intro w0 hS0; obtain ⟨s0, s1, s2⟩ := HBV.out w0 hS0; go_simp <;> (try with_reducible rfl))
    try simp only [Act.put, List.setIfInBounds_toArray, List.set_cons_zero, List.set_cons_succ]
    refine wpAnyI_read (i := 2) (oi := { dst := some 14, op := Go.Op.nilCheck (Go.Operand.tmp 13), type := 0, pos := "rooms.go:133", after := #[{ on := 1, ground := Go.Ground.data }], guard := none }) ?_ (fun _ => trivial) (by kernel_rfl) rfl (by kernel_rfl) (by kernel_rfl) (by kernel_rfl) (by kernel_rfl) (fun _ _ _ h => h) (by rfl) (by assumption) ?_ ?_
    rotate_left
    · (intro w0 hS0; go_simp <;> (try with_reducible rfl))
    try simp only [Act.put, List.setIfInBounds_toArray, List.set_cons_zero, List.set_cons_succ]
    refine wpAnyI_read (i := 3) (oi := { dst := some 15, op := Go.Op.fieldAddr 78 (Go.Operand.tmp 14) 2, type := 0, pos := "rooms.go:133", after := #[{ on := 2, ground := Go.Ground.data }], guard := none }) ?_ (fun _ => trivial) (by kernel_rfl) rfl (by kernel_rfl) (by kernel_rfl) (by kernel_rfl) (by kernel_rfl) (fun _ _ _ h => h) (by rfl) (by assumption) ?_ ?_
    rotate_left
    · (intro w0 hS0; go_simp <;> (try with_reducible rfl))
    try simp only [Act.put, List.setIfInBounds_toArray, List.set_cons_zero, List.set_cons_succ]
    refine wpAnyI_read (i := 4) (oi := { dst := some 16, op := Go.Op.load 76 (Go.Operand.tmp 15), type := 76, pos := "rooms.go:133", after := #[{ on := 3, ground := Go.Ground.data }], guard := none }) ?_ (fun _ => trivial) (by kernel_rfl) rfl (by kernel_rfl) (by kernel_rfl) (by kernel_rfl) (by kernel_rfl) (fun _ _ _ h => h) (by rfl) (by assumption) ?_ ?_
    rotate_left
    · (intro w0 hS0; obtain ⟨s0, s1, s2⟩ := HBV.out w0 hS0; have s4 := blk_cell s2 16; go_simp <;> (try with_reducible rfl))
    try simp only [Act.put, List.setIfInBounds_toArray, List.set_cons_zero, List.set_cons_succ]
    refine wpAnyI_one (i := 6) (o := { dst := some 18, op := Go.Op.call { callee := Go.Callee.value (Go.Operand.func 61), args := #[Go.Operand.tmp 16, Go.Operand.tmp 17], argTypes := #[76, 9] }, type := 60, pos := "rooms.go:133", after := #[{ on := 4, ground := Go.Ground.data }, { on := 5, ground := Go.Ground.data }], guard := none }) (by kernel_rfl) rfl (by rfl) (fun K hK => ?_)
    go_simp
    refine ⟨trivial, (calls_wide (.inr ⟨l, rfl⟩) (HBy.out _ (Fr.refl _ Vb).drew)).mono ?_⟩
    rintro e Wa ⟨⟨Fa, rfl, hTa⟩, ba⟩
    have fa : Fr (fun _ => False) Vb Wa := (Fr.refl (fun _ => False) Vb).drew.trans (Fr.of_below ba)
    obtain ⟨Ya, hYa, hTF⟩ := tellsI_tale (show TaleAt Vb.heap.size Wa Fa ids from hTa) HID.out
    have HA := Lib.hid (And.intro hTF fa)
    clear hTa ba hYa hTF fa
    gi_wp2_with fail
    refine hK.out _ _ ?_ (fun hHeld => ?_)
    · exact HA.out.2.mono fun _ _ e => e.elim
    clear hK K
    try simp only [Act.put, List.setIfInBounds_toArray, List.set_cons_zero, List.set_cons_succ]
    refine wpAnyI_one (i := 7) (o := { dst := some 19, op := Go.Op.call { callee := Go.Callee.value (Go.Operand.func 60), args := #[Go.Operand.tmp 18], argTypes := #[60] }, type := 56, pos := "rooms.go:133", after := #[{ on := 6, ground := Go.Ground.data }, { on := 6, ground := Go.Ground.chain }], guard := none }) (by kernel_rfl) rfl (by rfl) (fun K hK => ?_)
    go_simp
    refine ⟨trivial, (calls_wide (.inr ⟨l, rfl⟩) (collectI HA.out.1 HID.out)).mono ?_⟩
    rintro e Wb ⟨⟨v, rfl, hob⟩, bb⟩
    obtain ⟨A, c, rfl⟩ := row_slice hob
    have fb := HA.out.2.trans (Fr.of_below bb)
    have HB := Lib.hid (And.intro (reads_ownI hob) fb)
    clear hob bb fb
    gi_wp2_with fail
    refine hK.out _ _ ?_ (fun hHeld => ?_)
    · exact HB.out.2.mono fun _ _ e => e.elim
    clear hK K
    try simp only [Act.put, List.setIfInBounds_toArray, List.set_cons_zero, List.set_cons_succ]
    refine wpAnyI_one (i := 8) (o := { dst := some 20, op := Go.Op.call { callee := Go.Callee.value (Go.Operand.func 59), args := #[Go.Operand.tmp 19], argTypes := #[56] }, type := 99, pos := "rooms.go:133", after := #[{ on := 7, ground := Go.Ground.data }, { on := 7, ground := Go.Ground.chain }], guard := none }) (by kernel_rfl) rfl (by rfl) (fun K hK => ?_)
    go_simp
    refine ⟨trivial, (calls_wide (.inr ⟨l, rfl⟩) (set_of A ids c HID.out HB.out.1 (normI_ok ids).1)).mono ?_⟩
    rintro e Wc ⟨⟨s, ob, rfl, hs, hsn⟩, bc⟩
    have fc := HB.out.2.trans (Fr.of_below bc)
    have HC := Lib.hid (And.intro (set_baseSI hs (show Vb.heap.size ≤ Wb.heap.size from HB.out.2.size)) (And.intro fc (show Vb.heap.size ≤ s from Nat.le_trans HB.out.2.size hsn)))
    clear hs hsn bc fc
    gi_wp2_with fail
    refine hK.out _ _ ?_ (fun hHeld => ?_)
    · exact HC.out.2.1.mono fun _ _ e => e.elim
    clear hK K
    try simp only [Act.put, List.setIfInBounds_toArray, List.set_cons_zero, List.set_cons_succ]
    have HO := Lib.hid (run_one_t (W := Wc) w3.heap.size 109 109 99 i0 _ 1 8 Tryz.underlying109 hi hz0 hz1 hz2 rfl (by decide) vs es.length _ (row_same HR.out fun g hg => (HC.out.2.1.block g (HR.out.lt g hg).2 (fun e => e))) #[.pointer (some ⟨s, 0, none⟩)] rfl (by intro u hu; simp at hu; subst hu; rfl) (by have := HL.out; omega) (by decide) (Nat.le_trans HBZ.out HC.out.2.1.size))
    refine wpAnyI_one (i := 9) (o := { dst := some 21, op := Go.Op.buildSlice 109 1 #[(0, Go.Operand.tmp 20)], type := 109, pos := "rooms.go:133", after := #[{ on := 8, ground := Go.Ground.data }], guard := none }) (by kernel_rfl) rfl (by rfl) (fun K hK => ?_)
    go_simp
    refine hK.out _ _ ?_ (fun hHeld => ?_)
    · exact (HC.out.2.1.mono (Y := fun k => vs.ownBlock = some k) fun _ _ e => e.elim).alloc _
    clear hK K
    try simp only [Act.put, List.setIfInBounds_toArray, List.set_cons_zero, List.set_cons_succ]
    refine wpAnyI_one (i := 10) (o := { dst := some 22, op := Go.Op.call { callee := Go.Callee.builtin Go.Builtin.append, args := #[Go.Operand.tmp 12, Go.Operand.tmp 21], argTypes := #[109, 109] }, type := 109, pos := "rooms.go:133", after := #[{ on := 0, ground := Go.Ground.data }, { on := 9, ground := Go.Ground.data }, { on := 8, ground := Go.Ground.chain }], guard := none }) (by kernel_rfl) rfl (by rfl) (fun K hK => ?_)
    obtain ⟨v1, W6, hr6, hown1, hfr1, htie⟩ := HO.out
    have hfrA : Fr (fun k => vs.ownBlock = some k) Vb W6 := (HC.out.2.1.mono (Y := fun k => vs.ownBlock = some k) fun _ _ e => e.elim).trans3 hfr1 fun _ _ e => e
    refine wpIn_app_run _ _ _ _ rfl (v := v1) (W' := W6) (by exact hr6) ?_
    refine hK.out _ _ ?_ (fun hHeld => ?_)
    · exact hfrA
    clear hK K
    try simp only [Act.put, List.setIfInBounds_toArray, List.set_cons_zero, List.set_cons_succ]
    obtain ⟨A1, c1', rfl⟩ := row_slice hown1
    have e1 : W6.heap[N + 1]? = some (.cells #[vs] 109 (0, 0)) := hfrA.blk HU.out.2.2.2.2.1 fun e => HNN.out _ e rfl
    have g1 := blk_cell e1 0
    have g2 := blk_free e1 0
    refine wpAnyI_last (o := { dst := none, op := Go.Op.store 109 (Go.Operand.tmp 5) (Go.Operand.tmp 22), type := 0, pos := "rooms.go:133", after := #[{ on := 10, ground := Go.Ground.data }, { on := 10, ground := Go.Ground.chain }, { on := 0, ground := Go.Ground.phase }, { on := 1, ground := Go.Ground.phase }, { on := 2, ground := Go.Ground.phase }, { on := 3, ground := Go.Ground.phase }, { on := 4, ground := Go.Ground.phase }, { on := 5, ground := Go.Ground.phase }, { on := 6, ground := Go.Ground.phase }, { on := 7, ground := Go.Ground.phase }, { on := 8, ground := Go.Ground.phase }, { on := 9, ground := Go.Ground.phase }, { on := 10, ground := Go.Ground.phase }], guard := none }) (by kernel_rfl) rfl (by rfl) (fun K hK => ?_)
    go_simp
    refine hK.out _ _ ?_
    clear hK K
    try simp only [Act.put, List.setIfInBounds_toArray, List.set_cons_zero, List.set_cons_succ]
    refine wpAnyI_done (by kernel_rfl) ?_ _
    have fA := hfrA
    obtain ⟨hX1, hG, hxl2, ⟨hfb, hrb⟩, k3b, hesb, hel, hzs, hlV, hSl, hl2, hids2⟩ := HU.out
    obtain ⟨hs, fC, hsB⟩ := HC.out
    have hVB := HBZ.out
    have hNN := HNN.out
    have hCS := fC.size
    have hS6 := hfr1.size
    obtain ⟨q1, ⟨vq, q2⟩, q3⟩ := setBlk hs
    have hfr : Fr (fun k => k = l ∨ X1 k) V (W6.setCell ⟨N + 1, 0, none⟩ (.slice A1 (es.length + 1) c1')) :=
      (((hfb.mono (Y := fun k => k = l ∨ X1 k) fun k _ e => .inl e).trans3 hfrA fun k _ e => .inr ((hX1 k).2 (.inr (.inl e))))).setCell _ (.inr ((hX1 _).2 (.inl rfl))) _
    have hS7 : (W6.setCell ⟨N + 1, 0, none⟩ (.slice A1 (es.length + 1) c1')).heap.size = W6.heap.size := by simp
    have hnx : (Value.slice A1 (es.length + 1) c1').ownBlock ≠ some (N + 1) := fun e => by have := (hown1.lt _ e).1; omega
    have f7 : Fr (fun k => k = N + 1) W6 (W6.setCell ⟨N + 1, 0, none⟩ (.slice A1 (es.length + 1) c1')) := (Fr.refl (fun k => k = N + 1) W6).setCell ⟨N + 1, 0, none⟩ rfl _
    have hty : ∀ {k : Nat} {cur : Array Value} {W : World} {T : TypeId}, T ≠ 99 → W.heap[k]? = some (.cells cur T (0, 0)) → W.ownsRow w3.heap.size 99 1 vs es.length (es.map fun e => Value.pointer (some ⟨e.1, 0, none⟩)) → ¬ vs.ownBlock = some k := fun hT hk ho e => by
      obtain ⟨c2, k2⟩ := own_type ho _ e
      rw [hk] at k2; injection k2 with k2; injection k2 with _ k4 _; exact hT k4
    have keep : ∀ {s2 : Nat} {ob2 : Option Nat} {ls : List Int}, SetAt w3.heap.size Vb s2 ob2 ls → w3.heap.size ≤ s2 → SetAt w3.heap.size (W6.setCell ⟨N + 1, 0, none⟩ (.slice A1 (es.length + 1) c1')) s2 ob2 ls := fun {s2 ob2 ls} h2 hb2 => by
      obtain ⟨p1, ⟨vp, p2⟩, p3⟩ := setBlk h2
      have g6 := set_frG h2 hfrA (hty (by decide) p2 HR.out) fun k hk => by obtain ⟨_, _, cur, r3⟩ := p3 k hk; exact hty (by decide) r3 HR.out
      exact set_frG g6 f7 (by omega) fun k hk => by have := (p3 k hk).1; omega
    refine ⟨fun k => k = N + 1 ∨ (Value.slice A1 (es.length + 1) c1').ownBlock = some k ∨ ∃ e ∈ es ++ [(s, ob)], k = e.1 ∨ e.2 = some k, fun k hk => ?_, hfr, ?_, .slice A1 (es.length + 1) c1', es ++ [(s, ob)], blk_set e1 0 _, ?_, ?_, fun j hj hj2 => ?_, hSl, fun k => Iff.rfl⟩
    · rw [hS7]
      rcases hk with rfl | hk | ⟨e, he, hk⟩
      · exact ⟨blk_lt e1, fun _ => (hX1 _).2 (.inl rfl)⟩
      · refine ⟨(hown1.lt k hk).2, fun hlt => ?_⟩
        rcases htie k hk with e | e
        · exact (hX1 k).2 (.inr (.inl e))
        · omega
      · rcases List.mem_append.1 he with he | he
        · obtain ⟨j, hj, rfl⟩ := List.getElem_of_mem he
          have h2 := (hesb j hj (by rw [← hel]; exact hj)).1
          obtain ⟨p1, _, p3⟩ := setBlk h2
          refine ⟨?_, fun _ => (hX1 k).2 (.inr (.inr ⟨_, he, hk⟩))⟩
          have hA6 := hfrA.size
          rcases hk with rfl | hk
          · omega
          · have := (p3 k hk).2.1; omega
        · obtain rfl := List.mem_singleton.1 he
          rcases hk with hk | hk
          · have hks : k = s := hk
            exact ⟨by omega, fun hlt => by omega⟩
          · have := q3 k hk
            exact ⟨by omega, fun hlt => by omega⟩
    · have hl3 : ¬ vs.ownBlock = some l := fun e => hxl2 ((hX1 l).2 (.inr (.inl e)))
      exact blk_other (hfrA.blk hrb hl3) _ (by simp; omega) _
    · have := row_same hown1 fun g hg => (heap_setCell_other W6 ⟨N + 1, 0, none⟩ g (.slice A1 (es.length + 1) c1') fun e => by simp at e; exact hnx (e ▸ hg))
      rw [List.length_append, List.map_append]
      exact this
    · rw [List.length_append, hel, List.map_append, List.length_append]; rfl
    · by_cases c : j < es.length
      · have h2 := hesb j c (by rw [← hel]; exact c)
        have e2 : (es ++ [(s, ob)])[j] = es[j] := List.getElem_append_left c
        have e3 : ((pre ++ [x]).map fun k => normI (idsK Q k))[j]'hj2 = (pre.map fun k => normI (idsK Q k))[j]'(by rw [← hel]; exact c) := by
          simp only [List.map_append]
          exact List.getElem_append_left (by rw [← hel]; exact c)
        rw [e2, e3]
        exact ⟨keep h2.1 h2.2, h2.2⟩
      · have hj3 : j = es.length := by simp at hj; omega
        subst hj3
        have e2 : (es ++ [(s, ob)])[es.length]'hj = (s, ob) := by simp
        have e3 : ((pre ++ [x]).map fun k => normI (idsK Q k))[es.length]'hj2 = normI ids := by
          have hpe : pre.length = es.length := by rw [hel, List.length_map]
          rw [List.getElem_map]
          have : (pre ++ [x])[es.length]'(by simp; omega) = x := by simp [← hpe]
          rw [this, hids2]
        rw [e2, e3]
        have g6 := set_frG hs hfr1 (fun e => by have := (HR.out.lt _ e).2; omega) fun k hk e => by have := (HR.out.lt _ e).2; have := (q3 k hk).1; omega
        refine ⟨set_baseSI (set_frG g6 f7 (by show ¬ s = N + 1; omega) fun k hk => by have := (q3 k hk).1; show ¬ k = N + 1; omega) hVB, ?_⟩
        show w3.heap.size ≤ s
        omega
  case done =>
    rintro D X2 V hD hxD hG hF ⟨vs, es, k3, o3, hel, hes, hSl, hX2⟩ hdef
    obtain ⟨A, cp, rfl⟩ := row_slice o3
    have c3 := blk_cell k3 0
    have hpt : 0 < (xs.map fun k => normI (idsK Q k)).length → ∃ g o, A = some ⟨g, o, none⟩ ∧ g < V.heap.size ∧ ∀ j (h : j < (xs.map fun k => normI (idsK Q k)).length), ∃ p, V.cell? ⟨g, o + j, none⟩ = some p ∧ PtrAt V p (xs.map fun k => normI (idsK Q k))[j] := fun h0 => by
      rcases o3.2 with ⟨q1, q2⟩ | ⟨g, cap, cur, q1, q3, q4, q5⟩
      · omega
      · injection q1 with q1 _ _
        subst q1
        refine ⟨g, 0, rfl, blk_lt q4, fun j hj => ?_⟩
        have hj1 : j < es.length := by omega
        have := o3.cells (g := g) rfl j (.pointer (some ⟨es[j].1, 0, none⟩)) (by simp [hj1])
        rw [add_at] at this
        exact ⟨_, this, .inr ⟨_, _, _, rfl, (hes j hj1 hj).1⟩⟩
    obtain ⟨f1, hb0, hb1, z1, h1, hC, hby, hids, hfin⟩ := H.out
    have hfl : (xs.map fun k => normI (idsK Q k)).flatten.length ≤ 1000000 := by
      have := flatL (n := 900) (m := 900) (g := fun k => normI (idsK Q k)) hxl fun k _ => Nat.le_trans (normI_len _) (hids k)
      have h5 : xs.length * 900 ≤ 900 * 900 := Nat.mul_le_mul_right _ hxl
      omega
    obtain ⟨yss, hyss⟩ : ∃ yss, xs.map (fun k => normI (idsK Q k)) = yss := ⟨_, rfl⟩
    rw [hyss] at hel hpt hfl
    have hyl : yss.length ≤ 1000 := by rw [← hyss, List.length_map]; omega
    have HUn := Lib.hid (set_union (w := V) A yss cp hyl hfl hpt)
    rw [← hel] at HUn
    have hV3 := hF.size
    have HE := Lib.hid (And.intro hF (And.intro hdef (And.intro hD (And.intro hfl (And.intro hyss hV3)))))
    clear k3 o3 hel hes hSl hX2 hF hdef hxD hD hG hseq hYl heg hYb hY3 z1 z3 j0 j1 h3 hC f3 hN f1 hb0 hb1 h1 hby hids hfin hpt hfl hyss hyl hV3
    gi_wp2_with fail
    refine ⟨trivial, (calls_wide (.inl rfl) HUn.out).mono ?_⟩
    rintro e W4 ⟨⟨F4, rfl, hT4⟩, b4⟩
    have hnl : (normI yss.flatten).length ≤ 1000000 := Nat.le_trans (normI_len _) HE.out.2.2.2.1
    obtain ⟨Y4, hY4, hTF⟩ := tellsI_tale hT4 hnl
    have HWo := Lib.hid (without_F2 hTF id)
    have HQ := Lib.hid (And.intro b4 (And.intro hY4 hnl))
    clear hT4 b4 hnl hY4 hTF HUn c3
    gi_wp2_with fail
    refine ⟨trivial, (calls_wide (.inl rfl) HWo.out).mono ?_⟩
    rintro e W5 ⟨⟨F5, Y5, rfl, hT5, hY5⟩, b5⟩
    have HQ2 := Lib.hid (And.intro b5 (And.intro hT5 hY5))
    clear HWo hT5 b5 hY5
    gi_wp2_with fail
    obtain ⟨b4, hY4, hnl⟩ := HQ.out
    obtain ⟨b5, hT5, hY5⟩ := HQ2.out
    obtain ⟨hF, hdef, hD, hfl, hyss, hV3⟩ := HE.out
    obtain ⟨f3, j0, j1, h3, z3, hN⟩ := K.out
    obtain ⟨f1, hb0, hb1, z1, h1, hC, hby, hids, hfin⟩ := H.out
    have hs4 := b4.size
    have b45 : RowKit.Below V.heap.size V W5 := b4.trans (b5.mono hs4)
    have d5 := (Fr.of_below (X := fun _ => False) b45).blk hdef fun e => e
    have hDV := blk_lt hdef
    have f5 : RowKit.Below w.heap.size w W5 := by
      have h5 : Fr (fun k => k = N + 1) w V := ((f1.mono (Y := fun k => k = N + 1) fun _ _ e => e.elim).trans3 f3 fun _ _ e => e.elim).trans3 hF fun k _ e => e
      exact (h5.below (Nat.le_refl _) fun k hk e => by omega).trans (b45.mono h5.size)
    refine leaves_one D _ d5 fun w' hf => ?_
    have hYD : ∀ k, Y5 k → ¬ k = D := fun k hk e => by
      rcases hY5 k hk with a | a
      · omega
      · have := hY4 k a; omega
    rw [← hyss] at hT5
    refine ⟨F5, by simp [results, Tryz.results27, go_sem], ⟨F5, Y5, _, rfl, hT5.fr hf hYD, ?_, hfin, ?_⟩, f5.trans (hf.below f5.size fun k _ e => by omega)⟩
    · exact (normI_ok _).1.filter _
    · refine Nat.le_trans (List.length_filter_le _ _) ?_
      rw [hyss]; exact hnl
end Go.Proofs.YtlkeomcillencaaGreat
end
section
/- Layer 20: the law's awake. -/
namespace Go.Proofs.YtlkeomcillencaaGreat
open Go Go.RowKit Go.Lib Go.Sort Go.Shelf Go.Maps

/-- state of the law: somewhere above a base -/
structure RsOn (n : Nat) (base : Nat) (mr mj mb : Int) (R : Nat) (A : List Rm) (w0 w : World) : Prop where
  st : ∃ t b tr X C Q L, RsPh base w R t b tr X C mr mj mb Q L ∧ RsLg n Q L ∧ Q.map (·.r) = A
  up : RowKit.Below base w0 w
theorem RsOn.below {n base : Nat} {mr mj mb : Int} {R : Nat} {A : List Rm} {w0 w w' : World} (h : RsOn n base mr mj mb R A w0 w) (hb : RowKit.Below w.heap.size w w') : RsOn n base mr mj mb R A w0 w' := by
  obtain ⟨⟨t, b, tr, X, C, Q, L, h1, h2, h3⟩, h4⟩ := h
  exact ⟨⟨t, b, tr, X, C, Q, L, h1.below hb, h2, h3⟩, h4.trans (hb.mono (by have := h1.base_le; omega))⟩
theorem new_on {mr mj : Int} (h1 : 0 ≤ mr ∧ mr ≤ 100000) (h2 : 0 ≤ mj ∧ mj ≤ 100000) (mb : Int) (w : World) : Calls Tryz.prog 9 #[cfgV mr mj mb] w fun e w' => ∃ R, e = .returned (.pointer (some ⟨R, 0, none⟩)) ∧ RsOn 0 w.heap.size mr mj mb R [] w w' :=
  (new_any h1 h2 mb w).mono fun e w' ⟨R, t, b, tr, X, C, he, h3, h4⟩ => ⟨R, he, ⟨t, b, tr, X, C, [], [], h3, rsLg_nil, rfl⟩, h4⟩
theorem RsOn.step {n m base : Nat} {mr mj mb : Int} {R : Nat} {A : List Rm} {w0 w w' : World} (h : RsOn n base mr mj mb R A w0 w) (h0 : base ≤ w0.heap.size) {t b tr : Nat} {X : Nat → Prop} {C : Nat → Tag} {Q Q' : List RmE} {L L' : List (Int × List UInt8)} (h1 : RsPh base w R t b tr X C mr mj mb Q L) (h2 : RsTo base R C mr mj mb Q' L' w w') (h3 : RsLg m Q' L') : RsOn m base mr mj mb R (Q'.map (·.r)) w0 w' := by
  obtain ⟨t2, b2, tr2, X2, C2, k1, k2, k3⟩ := h2
  exact ⟨⟨t2, b2, tr2, X2, C2, Q', L', k1, h3, rfl⟩, h1.up k3 (Nat.le_refl _) h.up h0⟩
/-- Join: the room that it gives is that which the list says -/
def JoinO (n base : Nat) (mr mj mb : Int) (R : Nat) (A : List Rm) (id : Int) (nm : List UInt8) (w0 : World) (e : Ending) (w' : World) : Prop :=
  RsOn (n + 1) base mr mj mb R (joinA mr mj mb A id nm).1 w0 w' ∧ ((joinA mr mj mb A id nm).2 = none ∧ e = .returned (.tuple #[.pointer none, .int .i64 405]) ∨ ∃ B q r, (joinA mr mj mb A id nm).2 = some r ∧ e = .returned (.tuple #[.pointer (some ⟨B, 0, none⟩), .int .i64 0]) ∧ RoomAt base B q r w')
theorem join_on {n base : Nat} {mr mj mb : Int} {R : Nat} {A : List Rm} {w0 w : World} (h : RsOn n base mr mj mb R A w0 w) (h0 : base ≤ w0.heap.size) (hn : n ≤ 80000) {id : Int} (hid : OkKIS id) {nm : List UInt8} (hnm : nm.length ≤ 1000) :
    Calls Tryz.prog 14 #[.pointer (some ⟨R, 0, none⟩), .int .i64 id, .string (bs nm)] w (JoinO n base mr mj mb R A id nm w0) := by
  obtain ⟨t, b, tr, X, C, Q, L, h1, h2, rfl⟩ := h.st
  refine (join_w h1 h2 hn hid hnm).mono fun e w' ⟨Q', L', k1, k2, k3, k4⟩ => ⟨?_, ?_⟩
  · rw [← k3]; exact h.step h0 h1 k1 k2
  · rcases k4 with k4 | ⟨f, hf, k5, k6⟩
    · exact .inl k4
    · obtain ⟨t2, b2, tr2, X2, C2, r1, _, _⟩ := k1
      exact .inr ⟨f.B, f.q, f.r, k5, k6, r1.each f hf⟩
theorem JoinO.ret {n base : Nat} {mr mj mb : Int} {R : Nat} {A : List Rm} {id : Int} {nm : List UInt8} {w0 w' : World} {e : Ending} (h : JoinO n base mr mj mb R A id nm w0 e w') : ∃ p m, e = .returned (.tuple #[p, m]) ∧ RsOn (n + 1) base mr mj mb R (joinA mr mj mb A id nm).1 w0 w' := by
  rcases h.2 with ⟨_, he⟩ | ⟨B, q, r, _, he, _⟩
  · exact ⟨_, _, he, h.1⟩
  · exact ⟨_, _, he, h.1⟩
def awA : List Rm := (joinA 5 5 5 (joinA 5 5 5 (joinA 5 5 5 (joinA 5 5 5 [] 1 [35, 97]).1 1 [35, 98]).1 2 [35, 66]).1 3 [35, 99]).1
theorem awA_is : awA.map (fun r => r.mem.map (·.1)) = [[1], [1, 2], [3]] := by decide
theorem awA_peers (j : Int) : (j ≠ 1 ∧ ∃ r ∈ awA, hasM r.mem 1 = true ∧ hasM r.mem j = true) ↔ j ∈ [(2 : Int)] := by
  have key : (∃ r ∈ awA, hasM r.mem 1 = true ∧ hasM r.mem j = true) ↔ ∃ l ∈ awA.map (fun r => r.mem.map (·.1)), (1 : Int) ∈ l ∧ j ∈ l := by
    have hm : ∀ (l : List Mem) (i : Int), hasM l i = true ↔ i ∈ l.map (·.1) := fun l i => by rw [hasM_mem, List.mem_map]
    constructor
    · rintro ⟨r, h1, h2, h3⟩
      exact ⟨_, List.mem_map.2 ⟨r, h1, rfl⟩, (hm _ _).1 h2, (hm _ _).1 h3⟩
    · rintro ⟨l, h1, h2, h3⟩
      obtain ⟨r, hr, rfl⟩ := List.mem_map.1 h1
      exact ⟨r, hr, (hm _ _).2 h2, (hm _ _).2 h3⟩
  rw [key, awA_is]
  simp
  omega
theorem peers_on {n base : Nat} {mr mj mb : Int} {R : Nat} {A : List Rm} {w0 w : World} (h : RsOn n base mr mj mb R A w0 w) (hn : n ≤ 900) {id : Int} (hid : OkKIS id) :
    Calls Tryz.prog 27 #[.pointer (some ⟨R, 0, none⟩), .int .i64 id] w fun e w' => (∃ (F : Value) (Y : Nat → Prop) (ps : List Int), e = .returned F ∧ TellsF Tryz.prog encI w' F Y ps ∧ ps.Pairwise (· < ·) ∧ (∀ j, j ∈ ps ↔ j ≠ id ∧ ∃ r ∈ A, hasM r.mem id = true ∧ hasM r.mem j = true) ∧ ps.length ≤ 1000000) ∧ RowKit.Below w.heap.size w w' := by
  obtain ⟨t, b, tr, X, C, Q, L, h1, h2, rfl⟩ := h.st
  refine (peers_any h1 h2 hn hid).mono fun e w' ⟨⟨F, Y, ps, k1, k2, k3, k4, k5⟩, k6⟩ => ⟨⟨F, Y, ps, k1, k2, k3, fun j => ?_, k5⟩, k6⟩
  rw [k4]
  constructor
  · rintro ⟨a, e, b, c⟩; exact ⟨a, e.r, List.mem_map_of_mem b, c⟩
  · rintro ⟨a, r, b, c⟩
    obtain ⟨e, he, rfl⟩ := List.mem_map.1 b
    exact ⟨a, e, he, c⟩
theorem len_on {n base : Nat} {mr mj mb : Int} {R : Nat} {A : List Rm} {w0 w : World} (h : RsOn n base mr mj mb R A w0 w) : Calls Tryz.prog 20 #[.pointer (some ⟨R, 0, none⟩)] w fun e w' => e = .returned (.int .i64 A.length) ∧ w' = w := by
  obtain ⟨t, b, tr, X, C, Q, L, h1, h2, rfl⟩ := h.st
  rw [List.length_map]
  exact len_any h1
theorem okI1 : OkKIS 1 := by unfold OkKIS; decide
theorem okI2 : OkKIS 2 := by unfold OkKIS; decide
theorem okI3 : OkKIS 3 := by unfold OkKIS; decide
set_option maxRecDepth 100000 in
set_option maxHeartbeats 8000000 in
theorem awake20 (w : World) : Calls Tryz.prog 7 #[] w fun e w' => e = .returned (.bool true) ∧ Below w.heap.size w w' := by
  have HN := Lib.hid (new_on (mr := 5) (mj := 5) (by decide) (by decide) 5 w)
  unfold cfgV at HN
  go_enter Tryz.func7, Tryz.ntmps7
  go_wp2_with fail
  refine HN.out.mono ?_
  rintro e w1 ⟨R, rfl, h1⟩
  have HJ1 := Lib.hid (join_on h1 (Nat.le_refl _) (by decide) (id := 1) okI1 (nm := [35, 97]) (by decide))
  clear h1 HN
  go_wp2_with fail
  refine HJ1.out.mono ?_
  intro e w2 hj
  obtain ⟨p2, m2, rfl, h2⟩ := hj.ret
  have HJ2 := Lib.hid (join_on h2 (Nat.le_refl _) (by decide) (id := 1) okI1 (nm := [35, 98]) (by decide))
  clear h2 hj HJ1
  go_wp2_with fail
  refine HJ2.out.mono ?_
  intro e w3 hj
  obtain ⟨p3, m3, rfl, h3⟩ := hj.ret
  have HJ3 := Lib.hid (join_on h3 (Nat.le_refl _) (by decide) (id := 2) okI2 (nm := [35, 66]) (by decide))
  clear h3 hj HJ2
  go_wp2_with fail
  refine HJ3.out.mono ?_
  intro e w4 hj
  obtain ⟨p4, m4, rfl, h4⟩ := hj.ret
  have HJ4 := Lib.hid (join_on h4 (Nat.le_refl _) (by decide) (id := 3) okI3 (nm := [35, 99]) (by decide))
  clear h4 hj HJ3
  go_wp2_with fail
  refine HJ4.out.mono ?_
  intro e w5 hj
  obtain ⟨p5, m5, rfl, h5⟩ := hj.ret
  have h5' : RsOn 4 w.heap.size 5 5 5 R awA w w5 := h5
  have HP := Lib.hid (peers_on h5' (by decide) (id := 1) okI1)
  have H5 := Lib.hid h5'
  clear h5 h5' hj HJ4
  go_wp2_with fail
  refine HP.out.mono ?_
  rintro e w6 ⟨⟨F, Y, ps, rfl, hT, hp1, hp2, hp3⟩, b6⟩
  obtain rfl : ps = [2] := up_ext hp1 (by decide) fun j => (hp2 j).trans (awA_peers j)
  have HNu := Lib.hid (numbers_F hT (by decide) 9 (by decide) (by decide))
  have H6 := Lib.hid (H5.out.below b6)
  clear hT hp1 hp2 hp3 b6 HP
  go_wp2_with fail
  refine HNu.out.mono ?_
  rintro e w7 ⟨⟨v7, rfl, h7⟩, b7⟩
  obtain ⟨A7, c7, rfl⟩ := row_slice h7
  have hr7 : ReadsI w7 A7 [2] := reads_ownI h7
  have h77 := H6.out.below b7
  obtain ⟨W8, hW8⟩ : ∃ W8, w7.alloc (.cells #[.int .i64 2] 3) = W8 := ⟨_, rfl⟩
  have b8 : Below w7.heap.size w7 W8 := by rw [← hW8]; exact (Below.refl _ _).alloc (Nat.le_refl _) _
  have hS := same10_eq (w := W8) A7 (some ⟨w7.heap.size, 0, none⟩) [2] [2] c7 1 rfl (by decide) (hr7.below b8) (by
    rw [← hW8]
    intro _
    refine ⟨w7.heap.size, 0, rfl, by simp, fun j hj => ?_⟩
    have : j = 0 := by simp at hj; exact hj
    subst this
    exact blk_cell (heap_alloc_new w7 _) 0)
  have HS := Lib.hid hS
  have HW8 := Lib.hid hW8
  have H8 := Lib.hid (h77.below b8)
  clear h7 b7 hr7 h77 b8 hW8 hS HNu
  go_wp2_with fail
  rw [HW8.out]
  refine HS.out.mono ?_
  rintro e w9 ⟨rfl, q, rfl⟩
  have h9 := H8.out.below (((Fr.refl (fun _ => False) W8).drewN q).below (Nat.le_refl _) fun _ _ e => e.elim)
  have HL := Lib.hid (len_on h9)
  have H9 := Lib.hid h9
  clear h9 HS HW8
  go_wp2_with fail
  refine HL.out.mono ?_
  rintro e w10 ⟨rfl, rfl⟩
  clear HL
  have hl3 : awA.length = 3 := by decide
  rw [hl3]
  go_wp2_with fail
  go_ret
  exact ⟨rfl, H9.out.up⟩
end Go.Proofs.YtlkeomcillencaaGreat
end
section
/- An argument that is a slice of anything flat, opened. -/
namespace Go.Proofs.YtlkeomcillencaaGreat
open Go Go.ChangeShapes Go.WideShapes Go.RowKit Go.Deep

section
variable {H : Type} {enc : TypeId × Value → H} {P : Program} {W : World}
theorem open_elems {α : Type} [Inhabited α] {t e : TypeId} {base k : Nat} {v : Value} {d : DataW H} {p : List MemPlace} (hk : 0 < k) (encf : α → List Value) (G : α → Prop) (ht : P.underlying t = some (.slice e)) (hc : P.cellsOf e = k)
    (hdec : ∀ n cs y, cs.length = k → DataW.trod enc P W 0 (fun _ => true) true n e cs = some y → ∃ x, cs = encf x ∧ G x)
    (hval : Value.okWide P W .any base t v) (h : DataW.Trod enc P W 0 (fun _ => true) true t v d p) :
    ∃ (A : Option Addr) (l : List α) (c : Nat), v = .slice A l.length c ∧ l.length ≤ c ∧ c ≤ maxLen ∧ (∀ x ∈ l, G x) ∧
      (0 < l.length → ∃ g o, A = some ⟨g, o, none⟩ ∧ g < W.heap.size ∧ ∀ i (h : i < l.length) j u, (encf l[i])[j]? = some u → W.cell? ⟨g, o + i * k + j, none⟩ = some u) := by
  obtain ⟨A, n, c, rfl⟩ := okWide_slice ht hval
  obtain ⟨fuel, hf⟩ := h
  rcases open_slice ht hf with ⟨hcs, _⟩ | ⟨a, len, cap, m, n', D, Pl, hcs, _, hl, hm, hmm, _, hel⟩
  · have h3 : A = none ∧ n = 0 ∧ c = 0 := by simpa [Value.cells] using hcs
    obtain ⟨rfl, rfl, rfl⟩ := h3
    exact ⟨none, [], 0, rfl, Nat.le_refl _, by unfold maxLen; omega, by simp, fun h => absurd h (by simp)⟩
  · have h3 : A = some a ∧ n = len ∧ c = cap := by simpa [Value.cells] using hcs
    obtain ⟨rfl, rfl, rfl⟩ := h3
    simp only [if_true] at hmm
    have each : ∀ i, i < n → ∃ x : α, G x ∧ (encf x).length = k ∧ ∀ j u, (encf x)[j]? = some u → W.cell? ((a.add (i * k)).add j) = some u := by
      intro i hi
      obtain ⟨cs', h1, h2⟩ := hel i (by omega)
      rw [hc] at h1
      obtain ⟨_, hlen, hat⟩ := World.cells?_some h1
      obtain ⟨x, rfl, hg⟩ := hdec _ _ _ hlen h2
      refine ⟨x, hg, hlen, fun j u hu => ?_⟩
      have hj : j < k := by
        rw [← hlen]; exact (List.getElem?_eq_some_iff.1 hu).1
      rw [hat j hj, hu]
    obtain ⟨F, hF⟩ := choose_lt each
    refine ⟨some a, (List.range n).map F, c, by simp, by simpa using hl, hm, ?_, ?_⟩
    · intro x hx
      simp only [List.mem_map, List.mem_range] at hx
      obtain ⟨i, hi, rfl⟩ := hx
      exact (hF i hi).1
    · intro hpos
      simp only [List.length_map, List.length_range] at hpos
      obtain ⟨_, hl0, h0⟩ := hF 0 hpos
      have hq := h0 0 ((encf (F 0))[0]'(by omega)) (List.getElem?_eq_getElem (by omega))
      have hq : W.cell? (a.add 0) = some ((encf (F 0))[0]'(by omega)) := by
        have e : (a.add (0 * k)).add 0 = a.add 0 := by
          obtain ⟨b, o, s⟩ := a
          cases s <;> simp [Addr.add]
        rwa [e] at hq
      obtain ⟨g, o, rfl⟩ := spot_of hq
      have hg : g < W.heap.size := by
        have := block_lt_of_cell hq
        simpa [add_at] using this
      refine ⟨g, o, rfl, hg, fun i hi j u hu => ?_⟩
      simp only [List.length_map, List.length_range] at hi
      obtain ⟨_, _, hh⟩ := hF i hi
      have := hh j u (by simpa using hu)
      rwa [add_at, add_at] at this
end
end Go.Proofs.YtlkeomcillencaaGreat
end
section
/- Arguments that are slices of flat things, opened (by gendec.py). -/
namespace Go.Proofs.YtlkeomcillencaaGreat
open Go Go.ChangeShapes Go.WideShapes Go.RowKit

abbrev zraT : Type := Int × Int × ByteArray
/-- its cells -/
def zraL (x : zraT) : List Value := [.int .i64 x.1, .int .i64 x.2.1, .string x.2.2]
def zraG (x : zraT) : Prop := (Lit.int .i64 x.1).wf = true ∧ (Lit.int .i64 x.2.1).wf = true ∧ x.2.2.size ≤ maxLen
set_option maxRecDepth 1000000 in
theorem dec_zra {H : Type} {enc : TypeId × Value → H} {W : World} {base : Nat} {spare : Nat → Bool} {held : Bool} {fuel : Nat} {cs : List Value} {y : DataW H × List MemPlace} (hlen : cs.length = 3) (hf : DataW.trod enc Tryz.prog W base spare held fuel 34 cs = some y) : ∃ x, cs = zraL x ∧ zraG x := by
  have ks : Tryz.prog.cellsOf 9 = 1 := by kernel_rfl
  have ki : Tryz.prog.cellsOf 3 = 1 := by kernel_rfl
  match cs, hlen with
  | [c0, c1, c2], _ =>
    obtain ⟨xs, n, _, hx, _, hln, hg⟩ := DataW.trod_struct Tryz.underlying34 hf
    have hl : xs.length = 3 := hln
    have gs : ∀ i, i < 3 → ∃ y, xs[i]? = some y := fun i hi => ⟨xs[i]'(by omega), List.getElem?_eq_getElem (by omega)⟩
    obtain ⟨y0, e0⟩ := gs 0 (by omega)
    have g0 := hg 0 _ rfl
    rw [e0] at g0
    obtain ⟨m0, q0, _, z0⟩ := DataW.trod_int Tryz.underlying3 g0
    simp [ki] at q0
    obtain ⟨y1, e1⟩ := gs 1 (by omega)
    have g1 := hg 1 _ rfl
    rw [e1] at g1
    obtain ⟨m1, q1, _, z1⟩ := DataW.trod_int Tryz.underlying3 g1
    simp [ki] at q1
    obtain ⟨y2, e2⟩ := gs 2 (by omega)
    have g2 := hg 2 _ rfl
    rw [e2] at g2
    obtain ⟨s2, q2, _, z2⟩ := DataW.trod_string Tryz.underlying9 g2
    simp [ks] at q2
    subst q0 q1 q2
    exact ⟨(m0, m1, s2), rfl, ⟨z0, z1, z2⟩⟩
set_option maxRecDepth 1000000 in
theorem open_zras {H : Type} {enc : TypeId × Value → H} {W : World} {base : Nat} {v : Value} {d : DataW H} {p : List MemPlace} (hval : Value.okWide Tryz.prog W .any base 22 v) (h : DataW.Trod enc Tryz.prog W 0 (fun _ => true) true 22 v d p) :
    ∃ (A : Option Addr) (l : List zraT) (c : Nat), v = .slice A l.length c ∧ l.length ≤ c ∧ c ≤ maxLen ∧ (∀ x ∈ l, zraG x) ∧ (0 < l.length → ∃ g o, A = some ⟨g, o, none⟩ ∧ g < W.heap.size ∧ ∀ i (h : i < l.length) j u, (zraL l[i])[j]? = some u → W.cell? ⟨g, o + i * 3 + j, none⟩ = some u) := by
  have hc : Tryz.prog.cellsOf 34 = 3 := by kernel_rfl
  exact open_elems (by decide) zraL zraG Tryz.underlying22 hc (fun _ _ _ hl hf => dec_zra hl hf) hval h
end Go.Proofs.YtlkeomcillencaaGreat
end
section
/- Layer 20: the law's acts, and great. -/
namespace Go.Proofs.YtlkeomcillencaaGreat
open Go Go.RowKit Go.Maps Go.Sort Go.Shelf Go.Lib

/-- the acts, as they lie -/
def ActRs (w : World) (A : Option Addr) (l : List zraT) : Prop := (∀ x ∈ l, zraG x) ∧ (0 < l.length → ∃ g o, A = some ⟨g, o, none⟩ ∧ g < w.heap.size ∧ ∀ i (h : i < l.length) j u, (zraL l[i])[j]? = some u → w.cell? ⟨g, o + i * 3 + j, none⟩ = some u)
theorem actRs_at {w : World} {A : Option Addr} {l : List zraT} (h : ActRs w A l) (h0 : 0 < l.length) : ∃ (g o : Nat), A = some ⟨g, o, none⟩ ∧ ∀ W, RowKit.Below w.heap.size w W → ∀ k (hk : k < l.length), W.cell? ⟨g, o + k * 3, none⟩ = some (.int .i64 l[k].1) ∧ W.cell? ⟨g, o + k * 3 + 1, none⟩ = some (.int .i64 l[k].2.1) ∧ W.cell? ⟨g, o + k * 3 + 2, none⟩ = some (.string l[k].2.2) := by
  obtain ⟨g, o, hA, hg, hc⟩ := h.2 h0
  refine ⟨g, o, hA, fun W hb k hk => ?_⟩
  have hblk : W.heap[g]? = w.heap[g]? := hb.block g hg
  have h1 := hc k hk 0 _ rfl
  have h2 := hc k hk 1 _ rfl
  have h3 := hc k hk 2 _ rfl
  exact ⟨(World.cell?_of_block (w := w) (w' := W) (a := ⟨g, o + k * 3, none⟩) hblk).trans h1, (World.cell?_of_block (w := w) (w' := W) (a := ⟨g, o + k * 3 + 1, none⟩) hblk).trans h2, (World.cell?_of_block (w := w) (w' := W) (a := ⟨g, o + k * 3 + 2, none⟩) hblk).trans h3⟩
/-- more than is looked at -/
def greatRs (l : List zraT) : Bool := decide (40 < l.length) || l.any fun x => decide (60 < x.2.2.size)
set_option maxRecDepth 100000 in
set_option maxHeartbeats 8000000 in
theorem great20 {w : World} {A : Option Addr} {l : List zraT} {c : Nat} (h : ActRs w A l) (W : World) (hW : RowKit.Below w.heap.size w W) :
    Calls Tryz.prog 8 #[.slice A l.length c] W fun e w' => e = .returned (.bool (greatRs l)) ∧ w' = W := by
  by_cases h40 : l.length ≤ 40
  · have e0 : greatRs l = l.any fun x => decide (60 < x.2.2.size) := by unfold greatRs; rw [decide_eq_false (by omega)]; rfl
    have q0 : decide ((40 : Int) < (l.length : Int)) = false := by simp; omega
    have p0 : ¬ ((40 : Int) < (l.length : Int)) := by omega
    have HQ := Lib.hid (And.intro h e0)
    clear h e0
    go_enter Tryz.func8, Tryz.ntmps8
    go_wp2_with fail
    go_loopw [3] (fun i wr => ∃ j : Nat, i = .int .i64 j ∧ j ≤ l.length ∧ wr = W ∧ ∀ q (hq : q < l.length), q < j → l[q].2.2.size ≤ 60) (fun i _ => l.length - (RowKit.intOf i).toNat)
    case atStart => exact ⟨0, rfl, Nat.zero_le _, rfl, fun q _ hq => by omega⟩
    case round =>
      obtain ⟨j, rfl, hj, rfl, hno⟩ := hrel
      by_cases hlt : j < l.length
      · obtain ⟨g, o, rfl, hat⟩ := actRs_at HQ.out.1 (by omega)
        obtain ⟨c1, c2, c3⟩ := hat _ hW j hlt
        obtain ⟨s, hs⟩ : ∃ s, l[j].2.2 = s := ⟨_, rfl⟩
        rw [hs] at c3
        have HS := Lib.hid hs
        have HN := Lib.hid hno
        clear hat c1 c2 hs hno
        by_cases h60 : s.size ≤ 60
        · have q2 : decide ((60 : Int) < (s.size : Int)) = false := by simp; omega
          have p2 : ¬ ((60 : Int) < (s.size : Int)) := by omega
          go_wp2_with fail
          go_roundw
          case rel =>
            refine ⟨j + 1, by go_num, by omega, trivial, fun q hq hq2 => ?_⟩
            by_cases e : q = j
            · subst e; rw [HS.out]; exact h60
            · exact HN.out q hq (by omega)
          case measure => simp [RowKit.intOf]; omega
        · have p2 : (60 : Int) < (s.size : Int) := by omega
          go_wp2_with fail
          go_ret
          refine ⟨?_, rfl⟩
          have e0 : greatRs l = true := HQ.out.2.trans (List.any_eq_true.2 ⟨l[j], List.getElem_mem hlt, by rw [HS.out]; simpa using h60⟩)
          rw [e0]
          rfl
      · obtain rfl : j = l.length := by omega
        have p1 : ¬ ((l.length : Int) < (l.length : Int)) := by omega
        have HN := Lib.hid hno
        clear hno
        go_wp2_with fail
        go_ret
        refine ⟨?_, rfl⟩
        have e0 : greatRs l = false := HQ.out.2.trans (List.any_eq_false.2 fun x hx => by
          obtain ⟨q, hq, rfl⟩ := List.mem_iff_getElem.1 hx
          have := HN.out q hq hq
          simp; omega)
        rw [e0]
        rfl
  · have e0 : greatRs l = true := by unfold greatRs; rw [decide_eq_true (by omega)]; rfl
    have p0 : (40 : Int) < (l.length : Int) := by omega
    rw [e0]
    clear h
    go_enter Tryz.func8, Tryz.ntmps8
    go_wp2_with fail
    go_ret
    exact ⟨rfl, rfl⟩
theorem greatRs_no {l : List zraT} (h : greatRs l = false) : l.length ≤ 40 ∧ ∀ x ∈ l, x.2.2.size ≤ 60 := by
  unfold greatRs at h
  rw [Bool.or_eq_false_iff, decide_eq_false_iff_not] at h
  refine ⟨by omega, fun x hx => ?_⟩
  have := List.any_eq_false.1 h.2 x hx
  simp at this; omega
end Go.Proofs.YtlkeomcillencaaGreat
end
section
/- Layer 20: what Join keeps: no more rooms than may be, and of nobody; the law's same of no rooms. -/
namespace Go.Proofs.YtlkeomcillencaaGreat
open Go Go.RowKit Go.Maps Go.Sort Go.Shelf Go.Lib
attribute [local go_sem] Oper.semAt_some

def kA (r : Rm) : List UInt8 := foldL r.nm
theorem RsOn.keys {n base : Nat} {mr mj mb : Int} {R : Nat} {A : List Rm} {w0 w : World} (h : RsOn n base mr mj mb R A w0 w) : (A.map kA).Nodup := by
  obtain ⟨t, b, tr, X, C, Q, L, h1, h2, rfl⟩ := h.st
  have := h1.keys
  rw [List.map_map]
  exact this
theorem addA_cut {A1 A2 : List Rm} {r : Rm} {id : Int} (hk : ((A1 ++ r :: A2).map kA).Nodup) : addA (A1 ++ r :: A2) id (kA r) = A1 ++ addR r id false :: A2 := by
  rw [List.map_append, List.map_cons, List.nodup_append, List.nodup_cons] at hk
  have same : ∀ (P : List Rm), (∀ e ∈ P, kA e ≠ kA r) → addA P id (kA r) = P := fun P hP => by
    unfold addA
    conv => rhs; rw [← List.map_id P]
    refine List.map_congr_left fun e he => ?_
    exact if_neg (hP e he)
  have h1 := same A1 fun e he => hk.2.2 _ (List.mem_map_of_mem he) _ (List.mem_cons_self ..)
  have h2 := same A2 fun e he e1 => hk.2.1.1 (e1 ▸ List.mem_map_of_mem he)
  unfold addA at h1 h2 ⊢
  rw [List.map_append, h1, List.map_cons, h2, if_pos (show foldL r.nm = kA r from rfl)]
theorem getA_some {A : List Rm} {k : List UInt8} {r : Rm} (h : getA A k = some r) : r ∈ A ∧ kA r = k := by
  have h2 := List.find?_some h
  exact ⟨List.mem_of_find?_eq_some h, of_decide_eq_true h2⟩
theorem ofA_mid (A1 A2 : List Rm) (r : Rm) (j : Int) : (ofA (A1 ++ r :: A2) j).length = (ofA A1 j).length + (if hasM r.mem j = true then 1 else 0) + (ofA A2 j).length := by
  unfold ofA
  rw [List.filter_append, List.length_append, List.filter_cons]
  split <;> simp <;> omega
/-- no more than may be -/
def InvA (mr mj : Int) (A : List Rm) : Prop := (A.length : Int) ≤ mr ∧ ∀ j, ((ofA A j).length : Int) ≤ mj
theorem joinA_inv {mr mj mb : Int} {A : List Rm} {id : Int} {nm : List UInt8} (hk : (A.map kA).Nodup) (h : InvA mr mj A) : InvA mr mj (joinA mr mj mb A id nm).1 := by
  unfold joinA
  cases hg : getA A (foldL nm) with
  | some r =>
    simp only
    by_cases hm : hasM r.mem id = true
    · rw [if_pos hm]; exact h
    · rw [if_neg hm]
      by_cases hf : mj ≤ ((ofA A id).length : Int)
      · rw [if_pos hf]; exact h
      · rw [if_neg hf]
        obtain ⟨h1, h2⟩ := getA_some hg
        obtain ⟨A1, A2, rfl⟩ := List.append_of_mem h1
        rw [← h2, addA_cut hk]
        refine ⟨by have := h.1; simp at this ⊢; omega, fun j => ?_⟩
        have hj := h.2 j
        have hi := h.2 id
        have hmf : hasM r.mem id = false := by simpa using hm
        rw [ofA_mid] at hj hf ⊢
        rw [addR_has hmf]
        by_cases e : id = j
        · subst e
          simp only [hmf] at hf hj ⊢
          simp at hf hj ⊢
          omega
        · have : (id == j) = false := by simpa using e
          rw [this, Bool.false_or]
          exact hj
  | none =>
    simp only
    by_cases hf : mj ≤ ((ofA A id).length : Int) ∨ mr ≤ (A.length : Int)
    · rw [if_pos hf]; exact h
    · rw [if_neg hf]
      have hm : hasM (rm0 nm mb).mem id = false := rfl
      refine ⟨by simp; omega, fun j => ?_⟩
      have hj := h.2 j
      rw [ofA_mid]
      rw [addR_has hm]
      by_cases e : id = j
      · subst e
        simp [ofA] at hf ⊢
        omega
      · have : (id == j) = false := by simpa using e
        rw [this, Bool.false_or]
        have h0 : hasM (rm0 nm mb).mem j = false := rfl
        simp [ofA, h0] at hj ⊢
        omega
/-- somebody is on a room -/
def onA (A : List Rm) (j : Int) : Prop := ∃ r ∈ A, hasM r.mem j = true
theorem addR_on {r : Rm} {id j : Int} {op : Bool} (h : hasM (addR r id op).mem j = true) : hasM r.mem j = true ∨ j = id := by
  cases hm : hasM r.mem id with
  | true => unfold addR at h; rw [if_pos hm] at h; exact .inl h
  | false =>
    rw [addR_has hm, Bool.or_eq_true, beq_iff_eq] at h
    rcases h with e | e
    · exact .inr e.symm
    · exact .inl e
theorem joinA_on {mr mj mb : Int} {A : List Rm} {id : Int} {nm : List UInt8} {j : Int} (h : onA (joinA mr mj mb A id nm).1 j) : onA A j ∨ j = id := by
  unfold joinA at h
  cases hg : getA A (foldL nm) with
  | some r =>
    rw [hg] at h
    simp only at h
    split at h
    · exact .inl h
    · split at h
      · exact .inl h
      · obtain ⟨s, hs, hm⟩ := h
        unfold addA at hs
        obtain ⟨q, hq, rfl⟩ := List.mem_map.1 hs
        split at hm
        · rcases addR_on hm with e | e
          · exact .inl ⟨q, hq, e⟩
          · exact .inr e
        · exact .inl ⟨q, hq, hm⟩
  | none =>
    rw [hg] at h
    simp only at h
    split at h
    · exact .inl h
    · obtain ⟨s, hs, hm⟩ := h
      rcases List.mem_append.1 hs with a | a
      · exact .inl ⟨s, a, hm⟩
      · obtain rfl := List.mem_singleton.1 a
        rcases addR_on hm with e | e
        · cases e
        · exact .inr e
def SamJ {α : Type} (S : Nat) (_ : List α) (X : Nat → Prop) (W : World) : Prop := W.heap[S]? = some (.cells #[.int .i64 0] 3 (0, 0)) ∧ W.heap[S + 1]? = some (.cells #[.bool true] 4 (0, 0)) ∧ ∀ k, X k ↔ (k = S ∨ k = S + 1)
theorem samJ_stays {α : Type} (S : Nat) : Stays (SamJ (α := α) S) := fun pre X V V' ⟨h1, h2, h3⟩ hl hf => ⟨hf.blk h1 (fun e => e ((h3 S).2 (.inl rfl))), hf.blk h2 (fun e => e ((h3 _).2 (.inr rfl))), h3⟩
set_option maxRecDepth 100000 in
set_option maxHeartbeats 8000000 in
theorem same_nil {base : Nat} {w : World} {F : Value} (h : TalePr base w F []) : Calls Tryz.prog 23 #[F, .slice none 0 0] w fun e w' => e = .returned (.bool true) ∧ RowKit.Below w.heap.size w w' := by
  obtain ⟨Y, hYb, gf, lb, rfl, hseq0, hYl0, heg⟩ := tellsPr_tale h (by simp)
  obtain ⟨N, hN⟩ : ∃ N, w.heap.size = N := ⟨_, rfl⟩
  obtain ⟨w1, hw1⟩ : ∃ w1, (((w.alloc (Obj.cells #[Value.slice none 0 0] 30)).alloc (Obj.cells #[Value.bool false] 4)).alloc (Obj.cells #[Value.int .i64 0] 3)).alloc (Obj.cells #[Value.bool true] 4) = w1 := ⟨_, rfl⟩
  have z1 : w1.heap.size = N + 4 := by rw [← hw1, ← hN]; simp
  have f1 : Fr (fun _ => False) w w1 := by rw [← hw1]; exact ((((Fr.refl _ w).alloc _).alloc _).alloc _).alloc _
  have k0 : w1.heap[N]? = some (.cells #[.slice none 0 0] 30 (0, 0)) := by rw [← hw1, ← hN]; exact blk_alloc (blk_alloc (blk_alloc (heap_alloc_new w _) _) _) _
  have k1 : w1.heap[N + 1]? = some (.cells #[.bool false] 4 (0, 0)) := by rw [← hw1, ← hN]; exact blk_alloc (blk_alloc (heap_alloc2_new w _ _) _) _
  have k2 : w1.heap[N + 2]? = some (.cells #[.int .i64 0] 3 (0, 0)) := by
    rw [← hw1, ← hN]
    have := heap_alloc2_new (w.alloc (Obj.cells #[Value.slice none 0 0] 30)) (Obj.cells #[Value.bool false] 4) (Obj.cells #[Value.int .i64 0] 3)
    rw [World.size_alloc] at this
    exact blk_alloc this _
  have k3 : w1.heap[N + 3]? = some (.cells #[.bool true] 4 (0, 0)) := by
    rw [← hw1, ← hN]
    have := heap_alloc2_new ((w.alloc (Obj.cells #[Value.slice none 0 0] 30)).alloc (Obj.cells #[Value.bool false] 4)) (Obj.cells #[Value.int .i64 0] 3) (Obj.cells #[Value.bool true] 4)
    rwa [World.size_alloc, World.size_alloc] at this
  have hnil : ∀ W, (binOp BinOp.eql 52 (.func (.func gf) #[] lb) Value.nilFunc).run Tryz.prog W = .ok (.bool false) W := fun W => by rfl
  have HW := Lib.hid (And.intro hN hw1)
  have H := Lib.hid (And.intro f1 (And.intro k0 (And.intro k1 (And.intro k2 (And.intro k3 (And.intro z1 hN))))))
  clear h f1 k0 k1 k2 k3 z1 hw1 hN
  refine (callsIn_wide (n := 20)).1 ?_
  refine callsIn_of_wp_marks Tryz.func23 rfl trivial ?_ rfl
  simp only [Tryz.ntmps23, List.size_toArray, List.length_cons, List.length_nil, Nat.reduceAdd, Nat.reduceSub, Array.replicate_succ, Array.replicate_zero, List.push_toArray, List.append_toArray, List.nil_append, List.cons_append]
  gi_wp2_with (simp only [hnil])
  rw [HW.out.1]
  rw [HW.out.2]
  obtain ⟨f1, k0, k1, k2, k3, z1, hN⟩ := H.out
  have hseq := hseq0.same fun b hb => f1.block b (hYl0 b hb) fun e => e
  have hYN : ∀ k, Y k → k < N := fun k hk => by have := hYl0 k hk; omega
  refine wpIn_rangeF (X := fun k => k = N + 2 ∨ k = N + 2 + 1) (Y := Y) (xs := []) (encs := encRm) (gf := gf) (lb := lb) (SamJ (N + 2)) (fun _ _ _ _ => False)
    rfl hseq (fun k hk => ⟨by omega, fun e => by have := hYN k e; omega⟩) (fun b hb => by have := hYN b hb; omega) (by omega) heg (fun _ => rfl)
    (samJ_stays _) (fun c s X1 V1 V2 h => h.elim) ⟨k2, k3, fun k => Iff.rfl⟩ ?round ?done (fun _ _ _ _ _ _ _ _ _ _ _ h => h.elim)
  case round =>
    rintro l pre x r X1 V KK rb hl2 hpx
    exact absurd hpx (by simp)
  case done =>
    rintro D X2 V hD hxD hG hF ⟨j2, j3, hX2⟩ hdef
    have q0 := hF.blk k0 (by omega)
    have q1 := hF.blk k1 (by omega)
    have c0 := blk_cell q0 0
    have c1 := blk_cell q1 0
    have d1 := blk_free q1 0
    have c2 := blk_cell j2 0
    have c3 := blk_cell j3 0
    have HE := Lib.hid (And.intro hF (And.intro hdef (And.intro hD q1)))
    clear q0 q1 j2 j3 hF hdef hxD hX2 hD hG hseq hseq0 hYl0 heg hYb hYN f1 k0 k1 k2 k3 z1 hN
    gi_wp2_with fail
    obtain ⟨hF, hdef, hD, q1⟩ := HE.out
    obtain ⟨f1, k0, k1, k2, k3, z1, hN⟩ := H.out
    obtain ⟨W3, hW3⟩ : ∃ W3, V.setCell ⟨N + 1, 0, none⟩ (Value.bool true) = W3 := ⟨_, rfl⟩
    have e3 : W3.heap[N + 1]? = some (.cells #[.bool true] 4 (0, 0)) := by rw [← hW3]; exact blk_set q1 0 _
    have d3 : W3.heap[D]? = some (.deferred (some [])) := by rw [← hW3]; exact blk_other hdef _ (by simp; omega) _
    have f5 : RowKit.Below w.heap.size w W3 := by
      have h5 : Fr (fun k => N ≤ k) w V := (f1.mono (Y := fun k => N ≤ k) fun _ _ e => e.elim).trans3 hF fun k _ e => by rcases e with e | e <;> omega
      rw [← hW3]
      exact (h5.below (Nat.le_refl _) fun k hk e => by have e2 : N ≤ k := e; omega).setCell (by simp; omega) _
    (try rw [hW3])
    refine leaves_one D _ d3 fun w' hf => ?_
    have e4 := hf.blk e3 (by omega)
    exact ⟨.bool true, results_box rfl _ _ (N + 1) _ _ rfl (blk_cell e4 0) Tryz.underlying4 rfl, rfl, f5.trans (hf.below f5.size fun k _ e => by omega)⟩
end Go.Proofs.YtlkeomcillencaaGreat
end
