/- Texts of this proof, one behind the other. -/
import Derived.Test.YtlkeomcillencaaGreatRoomsPeersG15
import Derived.Test.YtlkeomcillencaaGreatRoomsPeersG4
set_option linter.unusedVariables false
set_option linter.unusedSimpArgs false
section
/- Layer 20: Peers. -/
namespace Go.Proofs.YtlkeomcillencaaGreat
open Go Go.RowKit Go.Maps Go.Lib Go.Sort Go.Shelf
attribute [local go_sem] Oper.semAt_some

/-- who is on a room -/
def idsE (e : RmE) : List Int := e.r.mem.map (·.1)
def idsK (Q : List RmE) (k : List UInt8) : List Int := ((getE Q k).map idsE).getD []
theorem mem_idsE {e : RmE} {j : Int} : j ∈ idsE e ↔ hasM e.r.mem j = true := by
  unfold idsE; rw [hasM_mem, List.mem_map]
/-- sets, one for each name so far -/
def PeJ (S base : Nat) (g : List (List UInt8) → List (List Int)) (pre : List (List UInt8)) (X : Nat → Prop) (W : World) : Prop :=
  ∃ (vs : Value) (es : List (Nat × Option Nat)), W.heap[S]? = some (.cells #[vs] 109 (0, 0)) ∧ W.ownsRow base 99 1 vs es.length (es.map fun e => Value.pointer (some ⟨e.1, 0, none⟩)) ∧ es.length = (g pre).length ∧
    (∀ j (h : j < es.length) (h2 : j < (g pre).length), SetAt base W es[j].1 es[j].2 (g pre)[j] ∧ base ≤ es[j].1) ∧ S < base ∧ ∀ k, X k ↔ (k = S ∨ vs.ownBlock = some k ∨ ∃ e ∈ es, k = e.1 ∨ e.2 = some k)
theorem setBlk {base : Nat} {w : World} {s : Nat} {ob : Option Nat} {xs : List Int} (h : SetAt base w s ob xs) : s < w.heap.size ∧ (∃ v, w.heap[s]? = some (.cells #[v] 149 (0, 0))) ∧ ∀ k, ob = some k → base ≤ k ∧ k < w.heap.size ∧ ∃ cur, w.heap[k]? = some (.cells cur 3 (0, 0)) := by
  obtain ⟨⟨v, h1, h2, h3⟩, _⟩ := h
  refine ⟨blk_lt h1, ⟨v, h1⟩, fun k hk => ?_⟩
  have e := h2.trans hk
  exact ⟨(h3.lt k e).1, (h3.lt k e).2, own_type h3 k e⟩
theorem set_frG {base : Nat} {X : Nat → Prop} {w w' : World} {s : Nat} {ob : Option Nat} {xs : List Int} (h : SetAt base w s ob xs) (hf : Fr X w w') (hs : ¬ X s) (ho : ∀ k, ob = some k → ¬ X k) : SetAt base w' s ob xs := by
  obtain ⟨a, _, b⟩ := setBlk h
  exact set_kept h (hf.block s a hs) fun g hg => hf.block g (b g hg).2.1 (ho g hg)
theorem peJ_stays (S base : Nat) (g : List (List UInt8) → List (List Int)) : Stays (PeJ S base g) := fun pre X V V' ⟨vs, es, h1, h2, h3, h4, h5, h6⟩ hl hf =>
  ⟨vs, es, hf.blk h1 (fun e => e ((h6 S).2 (.inl rfl))), row_same h2 fun g hg => hf.block g (h2.lt g hg).2 fun e => e ((h6 g).2 (.inr (.inl hg))), h3, fun j hj hj2 => ⟨set_frG (h4 j hj hj2).1 hf (fun e => e ((h6 _).2 (.inr (.inr ⟨_, List.getElem_mem hj, .inl rfl⟩)))) fun k hk e => e ((h6 _).2 (.inr (.inr ⟨_, List.getElem_mem hj, .inr hk⟩))), (h4 j hj hj2).2⟩, h5, h6⟩
/-- what Peers gives -/
def PeersP (Q : List RmE) (id : Int) (w : World) (e : Ending) (w' : World) : Prop := (∃ (F : Value) (Y : Nat → Prop) (ps : List Int), e = .returned F ∧ TellsF Tryz.prog encI w' F Y ps ∧ ps.Pairwise (· < ·) ∧ (∀ j, j ∈ ps ↔ j ≠ id ∧ ∃ e ∈ Q, hasM e.r.mem id = true ∧ hasM e.r.mem j = true) ∧ ps.length ≤ 1000000) ∧ RowKit.Below w.heap.size w w'
theorem flatL {α β : Type} {n m : Nat} {g : α → List β} : ∀ {xs : List α}, xs.length ≤ n → (∀ k ∈ xs, (g k).length ≤ m) → (xs.map g).flatten.length ≤ xs.length * m
  | [], _, _ => by simp
  | a :: xs, h, h2 => by
    rw [List.map_cons, List.flatten_cons, List.length_append, List.length_cons, Nat.succ_mul]
    have := flatL (n := n) (m := m) (g := g) (xs := xs) (by simp at h; omega) fun k hk => h2 k (List.mem_cons_of_mem _ hk)
    have := h2 a (List.mem_cons_self ..)
    omega
set_option maxRecDepth 100000 in
set_option maxHeartbeats 16000000 in
theorem peers_any {base : Nat} {w : World} {R t b tr n : Nat} {X : Nat → Prop} {C : Nat → Tag} {mr mj mb : Int} {Q : List RmE} {L : List (Int × List UInt8)} (h : RsPh base w R t b tr X C mr mj mb Q L) (hl : RsLg n Q L) (hn : n ≤ 900) {id : Int} (hid : OkKIS id) :
    Calls Tryz.prog 27 #[.pointer (some ⟨R, 0, none⟩), .int .i64 id] w (PeersP Q id w) := by
  obtain ⟨i0, hi, hz0, hz1, hz2⟩ := info_parts Tryz.infoP
  obtain ⟨xs, x1, x2, x3, x4⟩ := ofAtIS h.rel (by have := hl.llen; omega) hid
  obtain ⟨S, hS1, hS2, hSB, hSk, hSx, hSQ⟩ := ofQ_row hl h.keys x1 x2
  have hxl : xs.length ≤ 900 := by have := hl.llen; omega
  have hids : ∀ k, (idsK Q k).length ≤ 900 := fun k => by
    unfold idsK
    cases hg : getE Q k with
    | none => simp
    | some e =>
      simp only [Option.map_some, Option.getD_some]
      unfold idsE
      rw [List.length_map]
      have := hl.mlen e (getE_mem hg).1
      omega
  have hfin : ∀ j, j ∈ (normI (xs.map fun k => normI (idsK Q k)).flatten).filter (fun y => decide (y ≠ id)) ↔ j ≠ id ∧ ∃ e ∈ Q, hasM e.r.mem id = true ∧ hasM e.r.mem j = true := fun j => by
    rw [List.mem_filter, (normI_ok _).2, List.mem_flatten]
    constructor
    · rintro ⟨⟨l, h1, h2⟩, h3⟩
      obtain ⟨k, hk, rfl⟩ := List.mem_map.1 h1
      obtain ⟨_, e, he, heQ⟩ := hSx k hk
      rw [(normI_ok _).2] at h2
      unfold idsK at h2
      rw [he] at h2
      simp only [Option.map_some, Option.getD_some] at h2
      rw [← hS2] at hk
      obtain ⟨e2, he2, rfl⟩ := List.mem_map.1 hk
      have h5 := getE_of h.keys (hSQ e2 he2).1
      rw [h5] at he
      cases he
      exact ⟨by simpa using h3, e, heQ, (hSQ e he2).2, mem_idsE.1 h2⟩
    · rintro ⟨h3, e, heQ, h4, h5⟩
      refine ⟨⟨normI (idsK Q (keyE e)), List.mem_map.2 ⟨keyE e, (x2 _).2 ((hl.pairs _ _).2 ⟨e, heQ, rfl, h4⟩), rfl⟩, ?_⟩, by simpa using h3⟩
      rw [(normI_ok _).2]
      unfold idsK
      rw [getE_of h.keys heQ]
      exact mem_idsE.2 h5
  obtain ⟨N, hN⟩ : ∃ N, w.heap.size = N := ⟨_, rfl⟩
  obtain ⟨w1, hw1⟩ : ∃ w1, (w.alloc (Obj.cells #[.pointer (some ⟨R, 0, none⟩)] 25)).alloc (Obj.cells #[Value.slice none 0 0] 109) = w1 := ⟨_, rfl⟩
  have z1 : w1.heap.size = N + 2 := by rw [← hw1, ← hN]; simp
  have f1 : Fr (fun _ => False) w w1 := by rw [← hw1]; exact ((Fr.refl _ w).alloc _).alloc _
  have hb0 : w1.heap[N]? = some (.cells #[.pointer (some ⟨R, 0, none⟩)] 25 (0, 0)) := by rw [← hw1, ← hN]; exact blk_alloc (heap_alloc_new w _) _
  have hb1 : w1.heap[N + 1]? = some (.cells #[.slice none 0 0] 109 (0, 0)) := by rw [← hw1, ← hN]; exact heap_alloc2_new w _ _
  have h1 := h.fr f1 fun _ _ e => e
  have hC : ∀ k, N ≤ k → C k = tag0 := fun k hk => h.cN k (by omega)
  have hby : ∀ k ∈ xs, ∀ W, RsPh base W R t b tr X C mr mj mb Q L → ∀ V, Fr (fun _ => False) W V → Calls Tryz.prog 61 #[.pointer (some ⟨tr, 0, none⟩), .string (bs k)] V (AllP (idsK Q k) V) := fun k hk W hW => by
    obtain ⟨_, e, he, heQ⟩ := hSx k hk
    obtain ⟨ys, y1, y2, y3, y4⟩ := byAtIS hW.rel (by have := hl.llen; omega) (okKSI_of (hl.keyLen ((x2 k).1 hk)))
    have hke := (getE_mem he).2
    have : ys = idsK Q k := by
      unfold idsK
      rw [he]
      simp only [Option.map_some, Option.getD_some]
      have hu : UpM e.r.mem := (h.each e heQ).2.2.2.2.2.2
      refine up_ext y1 (ids_up hu) fun j => ?_
      rw [y2, hl.pairs]
      constructor
      · rintro ⟨e2, a1, a2, a3⟩
        have h5 := getE_of h.keys a1
        rw [a2, he] at h5
        cases h5
        exact mem_idsE.2 a3
      · intro a; exact ⟨e, heQ, hke, mem_idsE.1 a⟩
    rw [← this]
    exact y4
  have HR := Lib.hid (joined_any h1)
  have HA := Lib.hid (x4 w1 f1)
  have H := Lib.hid (And.intro f1 (And.intro hb0 (And.intro hb1 (And.intro z1 (And.intro h1 (And.intro hC (And.intro hby (And.intro hids hfin))))))))
  have HW := Lib.hid (And.intro hN hw1)
  have c0 := blk_cell hb0 0
  have HID0 := Lib.hid hid
  clear h h1 f1 hb0 hb1 z1 hw1 hl hn hid x1 x2 x3 x4 hS2 hSB hSk hSx hSQ hS1 hN hC hby hids hfin
  refine (callsIn_wide (n := 20)).1 ?_
  refine callsIn_of_wp_marks Tryz.func27 rfl trivial ?_ rfl
  simp only [Tryz.ntmps27, List.size_toArray, List.length_cons, List.length_nil, Nat.reduceAdd, Nat.reduceSub, Array.replicate_succ, Array.replicate_zero, List.push_toArray, List.append_toArray, List.nil_append, List.cons_append]
  gi_wp2_with fail
  rw [HW.out.1]
  rw [HW.out.2]
  refine ⟨trivial, (calls_wide (.inl rfl) HR.out).mono ?_⟩
  rintro e w2 ⟨rfl, rfl⟩
  clear HR c0
  gi_wp2_with fail
  refine ⟨trivial, (calls_wide (.inl rfl) HA.out).mono ?_⟩
  rintro e w3 ⟨⟨F, rfl, hT⟩, hb3⟩
  clear HA
  have f3 : Fr (fun _ => False) w2 w3 := Fr.of_below hb3
  obtain ⟨Y, hYb, gf, lb, rfl, hseq, hYl, heg⟩ := tellsT_tale (show TaleT w2.heap.size w3 F xs from hT) (by omega)
  obtain ⟨f1, hb0, hb1, z1, h1, hC, hby, hids, hfin⟩ := H.out
  have z3 := f3.size
  have j0 := f3.blk hb0 fun e => e
  have j1 := f3.blk hb1 fun e => e
  have h3 := h1.fr f3 fun _ _ e => e
  have hY3 : ∀ k, Y k → N + 2 ≤ k := fun k hk => by have := hYb k hk; omega
  have hN := HW.out.1
  have K := Lib.hid (And.intro f3 (And.intro j0 (And.intro j1 (And.intro h3 (And.intro z3 hN)))))
  clear hT hb3 f1 hb0 hb1 h1 HW hby hids hfin
  gi_wp2_with fail
  refine wpIn_rangeF (X := fun k => k = N + 1) (Y := Y) (xs := xs) (encs := encL) (gf := gf) (lb := lb) (PeJ (N + 1) w3.heap.size (List.map fun k => normI (idsK Q k))) (fun _ _ _ _ => False)
    rfl hseq (fun k hk => ⟨by omega, fun e => by have := hY3 k e; omega⟩) hYl (by omega) heg (fun _ => rfl)
    (peJ_stays _ _ _) (fun c s X1 V1 V2 h => h.elim) ⟨_, [], j1, World.ownsRow_nil _ _ _ _, rfl, (fun j hj => absurd hj (Nat.not_lt_zero _)), by omega, fun k => by simp [Value.ownBlock]⟩ ?round ?done (fun _ _ _ _ _ _ _ _ _ _ _ h => h.elim)
  case round =>
    rintro l pre x r X1 V KK rb hl2 hpx hI hG hxl2 hF hlV hK
    have hxm : x ∈ xs := by rw [← hpx]; simp
    dsimp only [encL]
    have HK := Lib.hid hK
    have HV := Lib.hid (And.intro hpx (And.intro hI (And.intro hG (And.intro hxl2 (And.intro hF (And.intro hlV hl2))))))
    have HX := Lib.hid hxm
    clear hK hpx hI hG hxl2 hF hlV hl2 hseq hYl heg hYb hY3 z1 z3 j0 j1 h3 hC f3 hN hxm
    gi_wp2_with fail
    refine HK.out _ _ (Fr.refl _ _) fun Vb hfb hzb hsb hrb => ?_
    clear HK KK
    obtain ⟨hpx, ⟨vs, es, k3, o3, hel, hes, hSl, hX1⟩, hG, hxl2, hF, hlV, hl2⟩ := HV.out
    obtain ⟨f3, j0, j1, h3, z3, hN⟩ := K.out
    obtain ⟨f1, hb0, hb1, z1, h1, hC, hby, hids, hfin⟩ := H.out
    have hpl : pre.length + 1 ≤ xs.length := by
      have := congrArg List.length hpx
      simp at this; omega
    have k3b := hfb.blk k3 (by omega : ¬ N + 1 = l)
    have o3b : Vb.ownsRow w3.heap.size 99 1 vs es.length (es.map fun e => Value.pointer (some ⟨e.1, 0, none⟩)) := row_same o3 fun g hg => hfb.block g (o3.lt g hg).2 fun e => hxl2 ((hX1 l).2 (.inr (.inl (e ▸ hg))))
    have hesb : ∀ j (h : j < es.length) (h2 : j < (pre.map fun k => normI (idsK Q k)).length), SetAt w3.heap.size Vb es[j].1 es[j].2 (pre.map fun k => normI (idsK Q k))[j] ∧ w3.heap.size ≤ es[j].1 := fun j hj hj2 =>
      ⟨set_frG (hes j hj hj2).1 hfb (fun e => hxl2 ((hX1 l).2 (.inr (.inr ⟨_, List.getElem_mem hj, .inl (show l = _ from e.symm)⟩)))) fun k hk e => hxl2 ((hX1 l).2 (.inr (.inr ⟨_, List.getElem_mem hj, .inr (by rw [hk, show k = l from e])⟩))), (hes j hj hj2).2⟩
    have v0 := hfb.blk (hF.blk j0 (by omega)) (by omega : ¬ N = l)
    have hVz := hF.size
    have hb : RsPh base Vb R t b tr X C mr mj mb Q L := (h3.fr hF fun k hk e => hk (hC k (by omega))).fr hfb fun k hk e => hk (hC k (by have : k = l := e; omega))
    have hzs : Vb.heap.size = V.heap.size := hzb
    have hvb : ∀ k, vs.ownBlock = some k → w3.heap.size ≤ k := fun k hk => (o3b.lt k hk).1
    have hCv : ∀ k, C k ≠ tag0 → ¬ vs.ownBlock = some k := fun k hk e => hk (hC k (by have := hvb k e; omega))
    have HBV := Lib.hid (fun W (hW : Fr (fun k => vs.ownBlock = some k) Vb W) => (And.intro (blk_cell (hW.blk v0 (fun e => by have := hvb _ e; omega)) 0) (And.intro (blk_cell (hW.blk k3b (fun e => by have := hvb _ e; omega)) 0) (hW.blk hb.self (hCv R (by rw [hb.cR]; simp))))))
    have HBy := Lib.hid (hby x HX.out Vb hb)
    obtain ⟨ids, hids2⟩ : ∃ ids, idsK Q x = ids := ⟨_, rfl⟩
    have hil := hids x
    rw [hids2] at HBy hil
    have HID : Hid (ids.length ≤ 1000000) := Lib.hid (by omega)
    have HR := Lib.hid o3b
    have HL : Hid (es.length ≤ 1000000) := Lib.hid (by rw [hel, List.length_map]; omega)
    have HBZ : Hid (w3.heap.size ≤ Vb.heap.size) := Lib.hid (by omega)
    have HNN : Hid (∀ k, vs.ownBlock = some k → k ≠ N + 1) := Lib.hid fun k hk e => by have := hvb k hk; omega
    have HU := Lib.hid (And.intro hX1 (And.intro hG (And.intro hxl2 (And.intro (And.intro hfb hrb) (And.intro k3b (And.intro hesb (And.intro hel (And.intro hzs (And.intro hlV (And.intro hSl (And.intro hl2 hids2)))))))))))
    clear hpx k3 o3 hel hes hSl hX1 hG hxl2 hF hlV hl2 f3 j0 j1 h3 z3 hN f1 hb0 hb1 z1 h1 hC hby hids hfin hpl k3b o3b hesb v0 hVz hb hzs hvb hCv hil hfb hzb hsb hrb hids2
    gi_wp2_with fail
    refine wpIn_region_i (S := fun W => Fr (fun k => vs.ownBlock = some k) Vb W) 11 (by kernel_rfl) (by exact (Fr.refl _ Vb).drew) (fun hHeld => ?_)
    refine wpAnyI_read (i := 5) (oi := { dst := some 17, op := Go.Op.move (Go.Operand.tmp 6), type := 9, pos := "rooms.go:133", after := #[], guard := none }) ?_ (fun _ => trivial) (by kernel_rfl) rfl (by kernel_rfl) (by kernel_rfl) (by kernel_rfl) (by kernel_rfl) (fun _ _ _ h => h) (by rfl) (by assumption) ?_ ?_
    rotate_left
    · (intro w0 hS0; go_simp <;> (try with_reducible rfl))
    try simp only [Act.put, List.setIfInBounds_toArray, List.set_cons_zero, List.set_cons_succ]
    refine wpAnyI_read (i := 0) (oi := { dst := some 12, op := Go.Op.load 109 (Go.Operand.tmp 5), type := 109, pos := "rooms.go:133", after := #[], guard := none }) ?_ (fun _ => trivial) (by kernel_rfl) rfl (by kernel_rfl) (by kernel_rfl) (by kernel_rfl) (by kernel_rfl) (fun _ _ _ h => h) (by rfl) (by assumption) ?_ ?_
    rotate_left
    · (intro w0 hS0; obtain ⟨s0, s1, s2⟩ := HBV.out w0 hS0; go_simp <;> (try with_reducible rfl))
    try simp only [Act.put, List.setIfInBounds_toArray, List.set_cons_zero, List.set_cons_succ]
    refine wpAnyI_read (i := 1) (oi := { dst := some 13, op := Go.Op.load 25 (Go.Operand.tmp 2), type := 25, pos := "rooms.go:133", after := #[], guard := none }) ?_ (fun _ => trivial) (by kernel_rfl) rfl (by kernel_rfl) (by kernel_rfl) (by kernel_rfl) (by kernel_rfl) (fun _ _ _ h => h) (by rfl) (by assumption) ?_ ?_
    rotate_left
    · (intro w0 hS0; obtain ⟨s0, s1, s2⟩ := HBV.out w0 hS0; go_simp <;> (try with_reducible rfl))
    try simp only [Act.put, List.setIfInBounds_toArray, List.set_cons_zero, List.set_cons_succ]
    refine wpAnyI_read (i := 2) (oi := { dst := some 14, op := Go.Op.nilCheck (Go.Operand.tmp 13), type := 0, pos := "rooms.go:133", after := #[{ on := 1, ground := Go.Ground.data }], guard := none }) ?_ (fun _ => trivial) (by kernel_rfl) rfl (by kernel_rfl) (by kernel_rfl) (by kernel_rfl) (by kernel_rfl) (fun _ _ _ h => h) (by rfl) (by assumption) ?_ ?_
    rotate_left
    · (intro w0 hS0; go_simp <;> (try with_reducible rfl))
    try simp only [Act.put, List.setIfInBounds_toArray, List.set_cons_zero, List.set_cons_succ]
    refine wpAnyI_read (i := 3) (oi := { dst := some 15, op := Go.Op.fieldAddr 78 (Go.Operand.tmp 14) 2, type := 0, pos := "rooms.go:133", after := #[{ on := 2, ground := Go.Ground.data }], guard := none }) ?_ (fun _ => trivial) (by kernel_rfl) rfl (by kernel_rfl) (by kernel_rfl) (by kernel_rfl) (by kernel_rfl) (fun _ _ _ h => h) (by rfl) (by assumption) ?_ ?_
    rotate_left
    · (intro w0 hS0; go_simp <;> (try with_reducible rfl))
    try simp only [Act.put, List.setIfInBounds_toArray, List.set_cons_zero, List.set_cons_succ]
    refine wpAnyI_read (i := 4) (oi := { dst := some 16, op := Go.Op.load 76 (Go.Operand.tmp 15), type := 76, pos := "rooms.go:133", after := #[{ on := 3, ground := Go.Ground.data }], guard := none }) ?_ (fun _ => trivial) (by kernel_rfl) rfl (by kernel_rfl) (by kernel_rfl) (by kernel_rfl) (by kernel_rfl) (fun _ _ _ h => h) (by rfl) (by assumption) ?_ ?_
    rotate_left
    · (intro w0 hS0; obtain ⟨s0, s1, s2⟩ := HBV.out w0 hS0; have s4 := blk_cell s2 16; go_simp <;> (try with_reducible rfl))
    try simp only [Act.put, List.setIfInBounds_toArray, List.set_cons_zero, List.set_cons_succ]
    refine wpAnyI_one (i := 6) (o := { dst := some 18, op := Go.Op.call { callee := Go.Callee.value (Go.Operand.func 61), args := #[Go.Operand.tmp 16, Go.Operand.tmp 17], argTypes := #[76, 9] }, type := 60, pos := "rooms.go:133", after := #[{ on := 4, ground := Go.Ground.data }, { on := 5, ground := Go.Ground.data }], guard := none }) (by kernel_rfl) rfl (by rfl) (fun K hK => ?_)
    go_simp
    refine ⟨trivial, (calls_wide (.inr ⟨l, rfl⟩) (HBy.out _ (Fr.refl _ Vb).drew)).mono ?_⟩
    rintro e Wa ⟨⟨Fa, rfl, hTa⟩, ba⟩
    have fa : Fr (fun _ => False) Vb Wa := (Fr.refl (fun _ => False) Vb).drew.trans (Fr.of_below ba)
    obtain ⟨Ya, hYa, hTF⟩ := tellsI_tale (show TaleAt Vb.heap.size Wa Fa ids from hTa) HID.out
    have HA := Lib.hid (And.intro hTF fa)
    clear hTa ba hYa hTF fa
    gi_wp2_with fail
    refine hK.out _ _ ?_ (fun hHeld => ?_)
    · exact HA.out.2.mono fun _ _ e => e.elim
    clear hK K
    try simp only [Act.put, List.setIfInBounds_toArray, List.set_cons_zero, List.set_cons_succ]
    refine wpAnyI_one (i := 7) (o := { dst := some 19, op := Go.Op.call { callee := Go.Callee.value (Go.Operand.func 60), args := #[Go.Operand.tmp 18], argTypes := #[60] }, type := 56, pos := "rooms.go:133", after := #[{ on := 6, ground := Go.Ground.data }, { on := 6, ground := Go.Ground.chain }], guard := none }) (by kernel_rfl) rfl (by rfl) (fun K hK => ?_)
    go_simp
    refine ⟨trivial, (calls_wide (.inr ⟨l, rfl⟩) (collectI HA.out.1 HID.out)).mono ?_⟩
    rintro e Wb ⟨⟨v, rfl, hob⟩, bb⟩
    obtain ⟨A, c, rfl⟩ := row_slice hob
    have fb := HA.out.2.trans (Fr.of_below bb)
    have HB := Lib.hid (And.intro (reads_ownI hob) fb)
    clear hob bb fb
    gi_wp2_with fail
    refine hK.out _ _ ?_ (fun hHeld => ?_)
    · exact HB.out.2.mono fun _ _ e => e.elim
    clear hK K
    try simp only [Act.put, List.setIfInBounds_toArray, List.set_cons_zero, List.set_cons_succ]
    refine wpAnyI_one (i := 8) (o := { dst := some 20, op := Go.Op.call { callee := Go.Callee.value (Go.Operand.func 59), args := #[Go.Operand.tmp 19], argTypes := #[56] }, type := 99, pos := "rooms.go:133", after := #[{ on := 7, ground := Go.Ground.data }, { on := 7, ground := Go.Ground.chain }], guard := none }) (by kernel_rfl) rfl (by rfl) (fun K hK => ?_)
    go_simp
    refine ⟨trivial, (calls_wide (.inr ⟨l, rfl⟩) (set_of A ids c HID.out HB.out.1 (normI_ok ids).1)).mono ?_⟩
    rintro e Wc ⟨⟨s, ob, rfl, hs, hsn⟩, bc⟩
    have fc := HB.out.2.trans (Fr.of_below bc)
    have HC := Lib.hid (And.intro (set_baseSI hs (show Vb.heap.size ≤ Wb.heap.size from HB.out.2.size)) (And.intro fc (show Vb.heap.size ≤ s from Nat.le_trans HB.out.2.size hsn)))
    clear hs hsn bc fc
    gi_wp2_with fail
    refine hK.out _ _ ?_ (fun hHeld => ?_)
    · exact HC.out.2.1.mono fun _ _ e => e.elim
    clear hK K
    try simp only [Act.put, List.setIfInBounds_toArray, List.set_cons_zero, List.set_cons_succ]
    have HO := Lib.hid (run_one_t (W := Wc) w3.heap.size 109 109 99 i0 _ 1 8 Tryz.underlying109 hi hz0 hz1 hz2 rfl (by decide) vs es.length _ (row_same HR.out fun g hg => (HC.out.2.1.block g (HR.out.lt g hg).2 (fun e => e))) #[.pointer (some ⟨s, 0, none⟩)] rfl (by intro u hu; simp at hu; subst hu; rfl) (by have := HL.out; omega) (by decide) (Nat.le_trans HBZ.out HC.out.2.1.size))
    refine wpAnyI_one (i := 9) (o := { dst := some 21, op := Go.Op.buildSlice 109 1 #[(0, Go.Operand.tmp 20)], type := 109, pos := "rooms.go:133", after := #[{ on := 8, ground := Go.Ground.data }], guard := none }) (by kernel_rfl) rfl (by rfl) (fun K hK => ?_)
    go_simp
    refine hK.out _ _ ?_ (fun hHeld => ?_)
    · exact (HC.out.2.1.mono (Y := fun k => vs.ownBlock = some k) fun _ _ e => e.elim).alloc _
    clear hK K
    try simp only [Act.put, List.setIfInBounds_toArray, List.set_cons_zero, List.set_cons_succ]
    refine wpAnyI_one (i := 10) (o := { dst := some 22, op := Go.Op.call { callee := Go.Callee.builtin Go.Builtin.append, args := #[Go.Operand.tmp 12, Go.Operand.tmp 21], argTypes := #[109, 109] }, type := 109, pos := "rooms.go:133", after := #[{ on := 0, ground := Go.Ground.data }, { on := 9, ground := Go.Ground.data }, { on := 8, ground := Go.Ground.chain }], guard := none }) (by kernel_rfl) rfl (by rfl) (fun K hK => ?_)
    obtain ⟨v1, W6, hr6, hown1, hfr1, htie⟩ := HO.out
    have hfrA : Fr (fun k => vs.ownBlock = some k) Vb W6 := (HC.out.2.1.mono (Y := fun k => vs.ownBlock = some k) fun _ _ e => e.elim).trans3 hfr1 fun _ _ e => e
    refine wpIn_app_run _ _ _ _ rfl (v := v1) (W' := W6) (by exact hr6) ?_
    refine hK.out _ _ ?_ (fun hHeld => ?_)
    · exact hfrA
    clear hK K
    try simp only [Act.put, List.setIfInBounds_toArray, List.set_cons_zero, List.set_cons_succ]
    obtain ⟨A1, c1', rfl⟩ := row_slice hown1
    have e1 : W6.heap[N + 1]? = some (.cells #[vs] 109 (0, 0)) := hfrA.blk HU.out.2.2.2.2.1 fun e => HNN.out _ e rfl
    have g1 := blk_cell e1 0
    have g2 := blk_free e1 0
    refine wpAnyI_last (o := { dst := none, op := Go.Op.store 109 (Go.Operand.tmp 5) (Go.Operand.tmp 22), type := 0, pos := "rooms.go:133", after := #[{ on := 10, ground := Go.Ground.data }, { on := 10, ground := Go.Ground.chain }, { on := 0, ground := Go.Ground.phase }, { on := 1, ground := Go.Ground.phase }, { on := 2, ground := Go.Ground.phase }, { on := 3, ground := Go.Ground.phase }, { on := 4, ground := Go.Ground.phase }, { on := 5, ground := Go.Ground.phase }, { on := 6, ground := Go.Ground.phase }, { on := 7, ground := Go.Ground.phase }, { on := 8, ground := Go.Ground.phase }, { on := 9, ground := Go.Ground.phase }, { on := 10, ground := Go.Ground.phase }], guard := none }) (by kernel_rfl) rfl (by rfl) (fun K hK => ?_)
    go_simp
    refine hK.out _ _ ?_
    clear hK K
    try simp only [Act.put, List.setIfInBounds_toArray, List.set_cons_zero, List.set_cons_succ]
    refine wpAnyI_done (by kernel_rfl) ?_ _
    have fA := hfrA
    obtain ⟨hX1, hG, hxl2, ⟨hfb, hrb⟩, k3b, hesb, hel, hzs, hlV, hSl, hl2, hids2⟩ := HU.out
    obtain ⟨hs, fC, hsB⟩ := HC.out
    have hVB := HBZ.out
    have hNN := HNN.out
    have hCS := fC.size
    have hS6 := hfr1.size
    obtain ⟨q1, ⟨vq, q2⟩, q3⟩ := setBlk hs
    have hfr : Fr (fun k => k = l ∨ X1 k) V (W6.setCell ⟨N + 1, 0, none⟩ (.slice A1 (es.length + 1) c1')) :=
      (((hfb.mono (Y := fun k => k = l ∨ X1 k) fun k _ e => .inl e).trans3 hfrA fun k _ e => .inr ((hX1 k).2 (.inr (.inl e))))).setCell _ (.inr ((hX1 _).2 (.inl rfl))) _
    have hS7 : (W6.setCell ⟨N + 1, 0, none⟩ (.slice A1 (es.length + 1) c1')).heap.size = W6.heap.size := by simp
    have hnx : (Value.slice A1 (es.length + 1) c1').ownBlock ≠ some (N + 1) := fun e => by have := (hown1.lt _ e).1; omega
    have f7 : Fr (fun k => k = N + 1) W6 (W6.setCell ⟨N + 1, 0, none⟩ (.slice A1 (es.length + 1) c1')) := (Fr.refl (fun k => k = N + 1) W6).setCell ⟨N + 1, 0, none⟩ rfl _
    have hty : ∀ {k : Nat} {cur : Array Value} {W : World} {T : TypeId}, T ≠ 99 → W.heap[k]? = some (.cells cur T (0, 0)) → W.ownsRow w3.heap.size 99 1 vs es.length (es.map fun e => Value.pointer (some ⟨e.1, 0, none⟩)) → ¬ vs.ownBlock = some k := fun hT hk ho e => by
      obtain ⟨c2, k2⟩ := own_type ho _ e
      rw [hk] at k2; injection k2 with k2; injection k2 with _ k4 _; exact hT k4
    have keep : ∀ {s2 : Nat} {ob2 : Option Nat} {ls : List Int}, SetAt w3.heap.size Vb s2 ob2 ls → w3.heap.size ≤ s2 → SetAt w3.heap.size (W6.setCell ⟨N + 1, 0, none⟩ (.slice A1 (es.length + 1) c1')) s2 ob2 ls := fun {s2 ob2 ls} h2 hb2 => by
      obtain ⟨p1, ⟨vp, p2⟩, p3⟩ := setBlk h2
      have g6 := set_frG h2 hfrA (hty (by decide) p2 HR.out) fun k hk => by obtain ⟨_, _, cur, r3⟩ := p3 k hk; exact hty (by decide) r3 HR.out
      exact set_frG g6 f7 (by omega) fun k hk => by have := (p3 k hk).1; omega
    refine ⟨fun k => k = N + 1 ∨ (Value.slice A1 (es.length + 1) c1').ownBlock = some k ∨ ∃ e ∈ es ++ [(s, ob)], k = e.1 ∨ e.2 = some k, fun k hk => ?_, hfr, ?_, .slice A1 (es.length + 1) c1', es ++ [(s, ob)], blk_set e1 0 _, ?_, ?_, fun j hj hj2 => ?_, hSl, fun k => Iff.rfl⟩
    · rw [hS7]
      rcases hk with rfl | hk | ⟨e, he, hk⟩
      · exact ⟨blk_lt e1, fun _ => (hX1 _).2 (.inl rfl)⟩
      · refine ⟨(hown1.lt k hk).2, fun hlt => ?_⟩
        rcases htie k hk with e | e
        · exact (hX1 k).2 (.inr (.inl e))
        · omega
      · rcases List.mem_append.1 he with he | he
        · obtain ⟨j, hj, rfl⟩ := List.getElem_of_mem he
          have h2 := (hesb j hj (by rw [← hel]; exact hj)).1
          obtain ⟨p1, _, p3⟩ := setBlk h2
          refine ⟨?_, fun _ => (hX1 k).2 (.inr (.inr ⟨_, he, hk⟩))⟩
          have hA6 := hfrA.size
          rcases hk with rfl | hk
          · omega
          · have := (p3 k hk).2.1; omega
        · obtain rfl := List.mem_singleton.1 he
          rcases hk with hk | hk
          · have hks : k = s := hk
            exact ⟨by omega, fun hlt => by omega⟩
          · have := q3 k hk
            exact ⟨by omega, fun hlt => by omega⟩
    · have hl3 : ¬ vs.ownBlock = some l := fun e => hxl2 ((hX1 l).2 (.inr (.inl e)))
      exact blk_other (hfrA.blk hrb hl3) _ (by simp; omega) _
    · have := row_same hown1 fun g hg => (heap_setCell_other W6 ⟨N + 1, 0, none⟩ g (.slice A1 (es.length + 1) c1') fun e => by simp at e; exact hnx (e ▸ hg))
      rw [List.length_append, List.map_append]
      exact this
    · rw [List.length_append, hel, List.map_append, List.length_append]; rfl
    · by_cases c : j < es.length
      · have h2 := hesb j c (by rw [← hel]; exact c)
        have e2 : (es ++ [(s, ob)])[j] = es[j] := List.getElem_append_left c
        have e3 : ((pre ++ [x]).map fun k => normI (idsK Q k))[j]'hj2 = (pre.map fun k => normI (idsK Q k))[j]'(by rw [← hel]; exact c) := by
          simp only [List.map_append]
          exact List.getElem_append_left (by rw [← hel]; exact c)
        rw [e2, e3]
        exact ⟨keep h2.1 h2.2, h2.2⟩
      · have hj3 : j = es.length := by simp at hj; omega
        subst hj3
        have e2 : (es ++ [(s, ob)])[es.length]'hj = (s, ob) := by simp
        have e3 : ((pre ++ [x]).map fun k => normI (idsK Q k))[es.length]'hj2 = normI ids := by
          have hpe : pre.length = es.length := by rw [hel, List.length_map]
          rw [List.getElem_map]
          have : (pre ++ [x])[es.length]'(by simp; omega) = x := by simp [← hpe]
          rw [this, hids2]
        rw [e2, e3]
        have g6 := set_frG hs hfr1 (fun e => by have := (HR.out.lt _ e).2; omega) fun k hk e => by have := (HR.out.lt _ e).2; have := (q3 k hk).1; omega
        refine ⟨set_baseSI (set_frG g6 f7 (by show ¬ s = N + 1; omega) fun k hk => by have := (q3 k hk).1; show ¬ k = N + 1; omega) hVB, ?_⟩
        show w3.heap.size ≤ s
        omega
  case done =>
    rintro D X2 V hD hxD hG hF ⟨vs, es, k3, o3, hel, hes, hSl, hX2⟩ hdef
    obtain ⟨A, cp, rfl⟩ := row_slice o3
    have c3 := blk_cell k3 0
    have hpt : 0 < (xs.map fun k => normI (idsK Q k)).length → ∃ g o, A = some ⟨g, o, none⟩ ∧ g < V.heap.size ∧ ∀ j (h : j < (xs.map fun k => normI (idsK Q k)).length), ∃ p, V.cell? ⟨g, o + j, none⟩ = some p ∧ PtrAt V p (xs.map fun k => normI (idsK Q k))[j] := fun h0 => by
      rcases o3.2 with ⟨q1, q2⟩ | ⟨g, cap, cur, q1, q3, q4, q5⟩
      · omega
      · injection q1 with q1 _ _
        subst q1
        refine ⟨g, 0, rfl, blk_lt q4, fun j hj => ?_⟩
        have hj1 : j < es.length := by omega
        have := o3.cells (g := g) rfl j (.pointer (some ⟨es[j].1, 0, none⟩)) (by simp [hj1])
        rw [add_at] at this
        exact ⟨_, this, .inr ⟨_, _, _, rfl, (hes j hj1 hj).1⟩⟩
    obtain ⟨f1, hb0, hb1, z1, h1, hC, hby, hids, hfin⟩ := H.out
    have hfl : (xs.map fun k => normI (idsK Q k)).flatten.length ≤ 1000000 := by
      have := flatL (n := 900) (m := 900) (g := fun k => normI (idsK Q k)) hxl fun k _ => Nat.le_trans (normI_len _) (hids k)
      have h5 : xs.length * 900 ≤ 900 * 900 := Nat.mul_le_mul_right _ hxl
      omega
    obtain ⟨yss, hyss⟩ : ∃ yss, xs.map (fun k => normI (idsK Q k)) = yss := ⟨_, rfl⟩
    rw [hyss] at hel hpt hfl
    have hyl : yss.length ≤ 1000 := by rw [← hyss, List.length_map]; omega
    have HUn := Lib.hid (set_union (w := V) A yss cp hyl hfl hpt)
    rw [← hel] at HUn
    have hV3 := hF.size
    have HE := Lib.hid (And.intro hF (And.intro hdef (And.intro hD (And.intro hfl (And.intro hyss hV3)))))
    clear k3 o3 hel hes hSl hX2 hF hdef hxD hD hG hseq hYl heg hYb hY3 z1 z3 j0 j1 h3 hC f3 hN f1 hb0 hb1 h1 hby hids hfin hpt hfl hyss hyl hV3
    gi_wp2_with fail
    refine ⟨trivial, (calls_wide (.inl rfl) HUn.out).mono ?_⟩
    rintro e W4 ⟨⟨F4, rfl, hT4⟩, b4⟩
    have hnl : (normI yss.flatten).length ≤ 1000000 := Nat.le_trans (normI_len _) HE.out.2.2.2.1
    obtain ⟨Y4, hY4, hTF⟩ := tellsI_tale hT4 hnl
    have HWo := Lib.hid (without_F2 hTF id)
    have HQ := Lib.hid (And.intro b4 (And.intro hY4 hnl))
    clear hT4 b4 hnl hY4 hTF HUn c3
    gi_wp2_with fail
    refine ⟨trivial, (calls_wide (.inl rfl) HWo.out).mono ?_⟩
    rintro e W5 ⟨⟨F5, Y5, rfl, hT5, hY5⟩, b5⟩
    have HQ2 := Lib.hid (And.intro b5 (And.intro hT5 hY5))
    clear HWo hT5 b5 hY5
    gi_wp2_with fail
    obtain ⟨b4, hY4, hnl⟩ := HQ.out
    obtain ⟨b5, hT5, hY5⟩ := HQ2.out
    obtain ⟨hF, hdef, hD, hfl, hyss, hV3⟩ := HE.out
    obtain ⟨f3, j0, j1, h3, z3, hN⟩ := K.out
    obtain ⟨f1, hb0, hb1, z1, h1, hC, hby, hids, hfin⟩ := H.out
    have hs4 := b4.size
    have b45 : RowKit.Below V.heap.size V W5 := b4.trans (b5.mono hs4)
    have d5 := (Fr.of_below (X := fun _ => False) b45).blk hdef fun e => e
    have hDV := blk_lt hdef
    have f5 : RowKit.Below w.heap.size w W5 := by
      have h5 : Fr (fun k => k = N + 1) w V := ((f1.mono (Y := fun k => k = N + 1) fun _ _ e => e.elim).trans3 f3 fun _ _ e => e.elim).trans3 hF fun k _ e => e
      exact (h5.below (Nat.le_refl _) fun k hk e => by omega).trans (b45.mono h5.size)
    refine leaves_one D _ d5 fun w' hf => ?_
    have hYD : ∀ k, Y5 k → ¬ k = D := fun k hk e => by
      rcases hY5 k hk with a | a
      · omega
      · have := hY4 k a; omega
    rw [← hyss] at hT5
    refine ⟨F5, by simp [results, Tryz.results27, go_sem], ⟨F5, Y5, _, rfl, hT5.fr hf hYD, ?_, hfin, ?_⟩, f5.trans (hf.below f5.size fun k _ e => by omega)⟩
    · exact (normI_ok _).1.filter _
    · refine Nat.le_trans (List.length_filter_le _ _) ?_
      rw [hyss]; exact hnl
end Go.Proofs.YtlkeomcillencaaGreat
end
section
/- Layer 20: Common. -/
namespace Go.Proofs.YtlkeomcillencaaGreat
open Go Go.RowKit Go.Maps Go.Lib Go.Sort Go.Shelf
attribute [local go_sem] Oper.semAt_some

theorem res_inQ {P : Program} {fn : Func} {p : Tmp} {ty : TypeId} (h : fn.results = #[.cell p ty]) (tmps : Array Value) (w : World) (g : Nat) (v : Value) (d : TypeDesc) (hp : tmps.getD p undef = .pointer (some ⟨g, 0, none⟩)) (hc : w.cell? ⟨g, 0, none⟩ = some v)
    (hu : P.underlying ty = some d) (hd : (match d with | .struct _ | .array _ _ => true | _ => false) = false) : (results fn tmps).run P w = .ok v w := by
  have hp' : tmps[p]?.getD undef = .pointer (some ⟨g, 0, none⟩) := by simpa using hp
  have hagg : (isAgg ty).run P w = .ok false w := by
    unfold isAgg
    rw [Sem.run_bind, run_underlying hu w]
    cases d <;> simp_all
  simp [results, h, hp', asAddr, loadVar, Sem.run_bind, hagg, go_sem, hc]
/-- the box of the answer -/
def ComI (S : Nat) (L : List (Int × List UInt8)) (i : Int) (pre : List (List UInt8)) (X : Nat → Prop) (W : World) : Prop := (∀ y ∈ pre, (i, y) ∉ L) ∧ W.heap[S]? = some (.cells #[.bool false] 4 (0, 0)) ∧ X S
theorem comI_stays (S : Nat) (L : List (Int × List UInt8)) (i : Int) : Stays (ComI S L i) := fun pre X V V' ⟨h1, h2, h3⟩ hl hf => ⟨h1, hf.blk h2 fun e => e h3, h3⟩
def ComX (S : Nat) (X : Nat → Prop) (W : World) : Prop := W.heap[S]? = some (.cells #[.bool true] 4 (0, 0)) ∧ X S
set_option maxRecDepth 100000 in
set_option maxHeartbeats 16000000 in
theorem common_any {base : Nat} {w : World} {R t b tr n : Nat} {X : Nat → Prop} {C : Nat → Tag} {mr mj mb : Int} {Q : List RmE} {L : List (Int × List UInt8)} (h : RsPh base w R t b tr X C mr mj mb Q L) (hl : RsLg n Q L) (hn : n ≤ 900) {ia ib : Int} (hia : OkKIS ia) (hib : OkKIS ib) :
    Calls Tryz.prog 30 #[.pointer (some ⟨R, 0, none⟩), .int .i64 ia, .int .i64 ib] w fun e w' => e = .returned (.bool (Q.any fun e => hasM e.r.mem ia && hasM e.r.mem ib)) ∧ RowKit.Below w.heap.size w w' := by
  have hLl : L.length ≤ 100000 := by have := hl.llen; omega
  obtain ⟨xs, x1, x2, x3, x4⟩ := ofAtIS h.rel hLl hia
  have hfin : (∃ y ∈ xs, (ib, y) ∈ L) ↔ (Q.any fun e => hasM e.r.mem ia && hasM e.r.mem ib) = true := by
    rw [List.any_eq_true]
    constructor
    · rintro ⟨y, hy, hb⟩
      obtain ⟨e, he, hk, ha⟩ := (hl.pairs _ _).1 ((x2 y).1 hy)
      obtain ⟨e2, he2, hk2, hb2⟩ := (hl.pairs _ _).1 hb
      have h1 := getE_of h.keys he
      have h2 := getE_of h.keys he2
      rw [hk] at h1
      rw [hk2, h1] at h2
      cases h2
      exact ⟨e, he, by rw [ha, hb2]; rfl⟩
    · rintro ⟨e, he, hab⟩
      rw [Bool.and_eq_true] at hab
      exact ⟨keyE e, (x2 _).2 ((hl.pairs _ _).2 ⟨e, he, rfl, hab.1⟩), (hl.pairs _ _).2 ⟨e, he, rfl, hab.2⟩⟩
  obtain ⟨P, hP⟩ : ∃ P, (Q.any fun e => hasM e.r.mem ia && hasM e.r.mem ib) = P := ⟨_, rfl⟩
  rw [hP] at hfin ⊢
  obtain ⟨N, hN⟩ : ∃ N, w.heap.size = N := ⟨_, rfl⟩
  obtain ⟨w1, hw1⟩ : ∃ w1, ((w.alloc (Obj.cells #[.pointer (some ⟨R, 0, none⟩)] 25)).alloc (Obj.cells #[.int .i64 ib] 3)).alloc (Obj.cells #[.bool false] 4) = w1 := ⟨_, rfl⟩
  have z1 : w1.heap.size = N + 3 := by rw [← hw1, ← hN]; simp
  have f1 : Fr (fun _ => False) w w1 := by rw [← hw1]; exact (((Fr.refl _ w).alloc _).alloc _).alloc _
  have hb0 : w1.heap[N]? = some (.cells #[.pointer (some ⟨R, 0, none⟩)] 25 (0, 0)) := by rw [← hw1, ← hN]; exact blk_alloc (blk_alloc (heap_alloc_new w _) _) _
  have hb1 : w1.heap[N + 1]? = some (.cells #[.int .i64 ib] 3 (0, 0)) := by rw [← hw1, ← hN]; exact blk_alloc (heap_alloc2_new w _ _) _
  have hb2 : w1.heap[N + 2]? = some (.cells #[.bool false] 4 (0, 0)) := by
    rw [← hw1, ← hN]
    have := heap_alloc2_new (w.alloc (Obj.cells #[.pointer (some ⟨R, 0, none⟩)] 25)) (Obj.cells #[.int .i64 ib] 3) (Obj.cells #[.bool false] 4)
    rwa [World.size_alloc] at this
  have h1 := h.fr f1 fun _ _ e => e
  have hC : ∀ k, N ≤ k → C k = tag0 := fun k hk => h.cN k (by omega)
  have HR := Lib.hid (joined_any h1)
  have HA := Lib.hid (x4 w1 f1)
  have H := Lib.hid (And.intro f1 (And.intro hb0 (And.intro hb1 (And.intro hb2 (And.intro z1 (And.intro h1 (And.intro hC (And.intro hfin (And.intro hLl hib)))))))))
  have HW := Lib.hid (And.intro hN hw1)
  have HXL : Hid (xs.length ≤ 1000000) := Lib.hid (by omega)
  have c0 := blk_cell hb0 0
  clear h h1 f1 hb0 hb1 hb2 z1 hw1 hl hn hia hib x1 x2 x3 x4 hN hC hfin hP hLl
  refine (callsIn_wide (n := 20)).1 ?_
  refine callsIn_of_wp_marks Tryz.func30 rfl trivial ?_ rfl
  simp only [Tryz.ntmps30, List.size_toArray, List.length_cons, List.length_nil, Nat.reduceAdd, Nat.reduceSub, Array.replicate_succ, Array.replicate_zero, List.push_toArray, List.append_toArray, List.nil_append, List.cons_append]
  gi_wp2_with fail
  rw [HW.out.1]
  rw [HW.out.2]
  refine ⟨trivial, (calls_wide (.inl rfl) HR.out).mono ?_⟩
  rintro e w2 ⟨rfl, rfl⟩
  clear HR c0
  gi_wp2_with fail
  refine ⟨trivial, (calls_wide (.inl rfl) HA.out).mono ?_⟩
  rintro e w3 ⟨⟨F, rfl, hT⟩, hb3⟩
  clear HA
  have f3 : Fr (fun _ => False) w2 w3 := Fr.of_below hb3
  obtain ⟨Y, hYb, gf, lb, rfl, hseq, hYl, heg⟩ := tellsT_tale (show TaleT w2.heap.size w3 F xs from hT) HXL.out
  obtain ⟨f1, hb0, hb1, hb2, z1, h1, hC, hfin, hLl, hib⟩ := H.out
  have z3 := f3.size
  have j0 := f3.blk hb0 fun e => e
  have j1 := f3.blk hb1 fun e => e
  have j2 := f3.blk hb2 fun e => e
  have h3 := h1.fr f3 fun _ _ e => e
  have hY3 : ∀ k, Y k → N + 3 ≤ k := fun k hk => by have := hYb k hk; omega
  have hN := HW.out.1
  have K := Lib.hid (And.intro f3 (And.intro j0 (And.intro j1 (And.intro h3 (And.intro z3 hN)))))
  clear hT hb3 f1 hb0 hb1 hb2 h1 HW hfin hLl hib
  gi_wp2_with fail
  refine wpIn_rangeF (X := fun k => k = N + 2) (Y := Y) (xs := xs) (encs := encL) (gf := gf) (lb := lb) (ComI (N + 2) L ib) (fun c pre X1 W => (c = .ret ∧ ∃ y ∈ pre, (ib, y) ∈ L) ∧ ComX (N + 2) X1 W)
    rfl hseq (fun k hk => ⟨by omega, fun e => by have := hY3 k e; omega⟩) hYl (by omega) heg (fun _ => rfl)
    (comI_stays _ _ _) (fun c s X1 V1 V2 hh h1 h2 => ⟨hh.1, h2.blk hh.2.1 fun e => e hh.2.2, hh.2.2⟩) ⟨fun y hy => (by cases hy), j2, rfl⟩ ?round ?done ?stop
  case round =>
    rintro l pre x r X1 V KK rb hl2 hpx ⟨hI1, hI2, hI3⟩ hG hxl2 hF hlV hK
    dsimp only [encL]
    have HK := Lib.hid hK
    have HV := Lib.hid (And.intro hpx (And.intro hI1 (And.intro hI2 (And.intro hI3 (And.intro hG (And.intro hxl2 (And.intro hF (And.intro hlV hl2))))))))
    clear hK hpx hI1 hI2 hI3 hG hxl2 hF hlV hl2 hseq hYl heg hYb hY3 z1 z3 j0 j1 j2 h3 hC f3 hN
    gi_wp2_with fail
    refine HK.out _ _ (Fr.refl _ _) fun Vb hfb hzb hsb hrb => ?_
    clear HK KK
    obtain ⟨hpx, hI1, hI2, hI3, hG, hxl2, hF, hlV, hl2⟩ := HV.out
    obtain ⟨f3, j0, j1, h3, z3, hN⟩ := K.out
    obtain ⟨f1, hb0, hb1, hb2, z1, h1, hC, hfin, hLl, hib⟩ := H.out
    have v0 := hfb.blk (hF.blk j0 (by omega)) (by omega : ¬ N = l)
    have v1 := hfb.blk (hF.blk j1 (by omega)) (by omega : ¬ N + 1 = l)
    have v2 := hfb.blk hI2 (fun e => hxl2 (e ▸ hI3))
    have hVz := hF.size
    have hb : RsPh base Vb R t b tr X C mr mj mb Q L := (h3.fr hF fun k hk e => hk (hC k (by omega))).fr hfb fun k hk e => hk (hC k (by have : k = l := e; omega))
    have hzs : Vb.heap.size = V.heap.size := hzb
    have HBV := Lib.hid (fun W (hW : Fr (fun _ => False) Vb W) => (And.intro (blk_cell (hW.blk v0 fun e => e) 0) (And.intro (blk_cell (hW.blk v1 fun e => e) 0) (hW.blk hb.self fun e => e))))
    obtain ⟨d, hd⟩ : ∃ d, decide ((ib, x) ∈ L) = d := ⟨_, rfl⟩
    have HHas := Lib.hid (fun W (hW : Fr (fun _ => False) Vb W) => hasAtIS (hb.fr hW fun _ _ e => e).rel hLl hib x)
    rw [hd] at HHas
    have HE := Lib.hid (And.intro hd (And.intro hfb (And.intro hrb (And.intro hzs (And.intro v2 hlV)))))
    have v0H : Hid (Vb.drew.heap[N]? = some (.cells #[.pointer (some ⟨R, 0, none⟩)] 25 (0, 0))) := Lib.hid v0
    clear hpx hI1 hI2 hG hF f3 j0 j1 h3 z3 hN f1 hb0 hb1 hb2 z1 h1 hC hfin hLl hib v0 v1 v2 hVz hb hzs hd hfb hzb hsb hrb hlV
    gi_wp2_with fail
    refine wpIn_region_i (S := fun W => Fr (fun _ => False) Vb W) 6 (by kernel_rfl) (by exact (Fr.refl _ Vb).drew) (fun hHeld => ?_)
    refine wpAnyI_read (i := 5) (oi := { dst := some 18, op := Go.Op.move (Go.Operand.tmp 7), type := 9, pos := "rooms.go:141", after := #[], guard := none }) ?_ (fun _ => trivial) (by kernel_rfl) rfl (by kernel_rfl) (by kernel_rfl) (by kernel_rfl) (by kernel_rfl) (fun _ _ _ h => h) (by rfl) (by assumption) ?_ ?_
    rotate_left
    · (intro w0 hS0; go_simp <;> (try with_reducible rfl))
    try simp only [Act.put, List.setIfInBounds_toArray, List.set_cons_zero, List.set_cons_succ]
    refine wpAnyI_read (i := 4) (oi := { dst := some 17, op := Go.Op.load 3 (Go.Operand.tmp 5), type := 3, pos := "rooms.go:141", after := #[], guard := none }) ?_ (fun _ => trivial) (by kernel_rfl) rfl (by kernel_rfl) (by kernel_rfl) (by kernel_rfl) (by kernel_rfl) (fun _ _ _ h => h) (by rfl) (by assumption) ?_ ?_
    rotate_left
    · (intro w0 hS0; obtain ⟨s0, s1, s2⟩ := HBV.out w0 hS0; go_simp <;> (try with_reducible rfl))
    try simp only [Act.put, List.setIfInBounds_toArray, List.set_cons_zero, List.set_cons_succ]
    have sD := blk_cell (v0H.out) 0
    refine wpAnyI_one (i := 0) (o := { dst := some 13, op := Go.Op.load 25 (Go.Operand.tmp 3), type := 25, pos := "rooms.go:141", after := #[], guard := none }) (by kernel_rfl) rfl (by rfl) (fun K hK => ?_)
    go_simp
    refine hK.out _ _ ?_ (fun hHeld => ?_)
    · (first | assumption | trivial)
    clear hK K
    try simp only [Act.put, List.setIfInBounds_toArray, List.set_cons_zero, List.set_cons_succ]
    refine wpAnyI_one (i := 1) (o := { dst := some 14, op := Go.Op.nilCheck (Go.Operand.tmp 13), type := 0, pos := "rooms.go:141", after := #[{ on := 0, ground := Go.Ground.data }], guard := none }) (by kernel_rfl) rfl (by rfl) (fun K hK => ?_)
    go_simp
    refine hK.out _ _ ?_ (fun hHeld => ?_)
    · (first | assumption | trivial)
    clear hK K
    try simp only [Act.put, List.setIfInBounds_toArray, List.set_cons_zero, List.set_cons_succ]
    refine wpAnyI_one (i := 2) (o := { dst := some 15, op := Go.Op.fieldAddr 78 (Go.Operand.tmp 14) 2, type := 0, pos := "rooms.go:141", after := #[{ on := 1, ground := Go.Ground.data }], guard := none }) (by kernel_rfl) rfl (by rfl) (fun K hK => ?_)
    go_simp
    refine hK.out _ _ ?_ (fun hHeld => ?_)
    · (first | assumption | trivial)
    clear hK K
    try simp only [Act.put, List.setIfInBounds_toArray, List.set_cons_zero, List.set_cons_succ]
    refine wpAnyI_read (i := 3) (oi := { dst := some 16, op := Go.Op.load 76 (Go.Operand.tmp 15), type := 76, pos := "rooms.go:141", after := #[{ on := 2, ground := Go.Ground.data }], guard := none }) ?_ (fun _ => trivial) (by kernel_rfl) rfl (by kernel_rfl) (by kernel_rfl) (by kernel_rfl) (by kernel_rfl) (fun _ _ _ h => h) (by rfl) (by assumption) ?_ ?_
    rotate_left
    · (intro w0 hS0; obtain ⟨s0, s1, s2⟩ := HBV.out w0 hS0; have s4 := blk_cell s2 16; go_simp <;> (try with_reducible rfl))
    try simp only [Act.put, List.setIfInBounds_toArray, List.set_cons_zero, List.set_cons_succ]
    refine wpAnyI_last (o := { dst := some 19, op := Go.Op.call { callee := Go.Callee.value (Go.Operand.func 65), args := #[Go.Operand.tmp 16, Go.Operand.tmp 17, Go.Operand.tmp 18], argTypes := #[76, 3, 9] }, type := 4, pos := "rooms.go:141", after := #[{ on := 3, ground := Go.Ground.data }, { on := 4, ground := Go.Ground.data }, { on := 5, ground := Go.Ground.data }], guard := none }) (by kernel_rfl) rfl (by rfl) (fun K hK => ?_)
    go_simp
    refine ⟨trivial, (calls_wide (.inr ⟨l, rfl⟩) (HHas.out _ (Fr.refl _ Vb).drew)).mono ?_⟩
    rintro e Wa ⟨rfl, qa, hqa⟩
    have HWa : Hid (Fr (fun _ => False) Vb Wa) := Lib.hid (by rw [hqa]; exact ((Fr.refl (fun _ => False) Vb).drew).drewN qa)
    clear hqa
    gi_wp2_with fail
    refine hK.out _ _ ?_
    clear hK K
    try simp only [Act.put, List.setIfInBounds_toArray, List.set_cons_zero, List.set_cons_succ]
    refine wpAnyI_done (by kernel_rfl) ?_ _
    have e2 : Wa.heap[N + 2]? = some (.cells #[.bool false] 4 (0, 0)) := HWa.out.blk HE.out.2.2.2.2.1 fun e => e
    have g2 := blk_free e2 0
    have d2 := blk_cell e2 0
    have HE2 := Lib.hid e2
    clear e2
    cases d with
    | true =>
      gi_wp2_with fail
      obtain ⟨hd, hfb, hrb, hzs, v2, hlV⟩ := HE.out
      obtain ⟨_, _, _, _, hG, _, _, _, _⟩ := HV.out
      have hne : l ≠ N + 2 := fun e => hxl2 (e ▸ hI3)
      have hsz := HWa.out.size
      refine ⟨X1, fun k hk => ⟨by simp; have := (hG k hk).1; omega, fun _ => hk⟩, ((hfb.mono (Y := fun k => k = l ∨ X1 k) fun k _ e => .inl e).trans3 HWa.out fun _ _ e => e.elim).setCell _ (.inr hI3) _, blk_other (HWa.out.blk hrb fun e => e) _ (by simpa using hne) _, ⟨rfl, _, List.mem_append_right _ List.mem_cons_self, of_decide_eq_true hd⟩, blk_set HE2.out 0 _, hI3⟩
    | false =>
      gi_wp2_with fail
      obtain ⟨hd, hfb, hrb, hzs, v2, hlV⟩ := HE.out
      obtain ⟨_, hI1, _, _, hG, _, _, _, _⟩ := HV.out
      have hsz := HWa.out.size
      refine ⟨X1, fun k hk => ⟨by have := (hG k hk).1; omega, fun _ => hk⟩, (hfb.mono (Y := fun k => k = l ∨ X1 k) fun k _ e => .inl e).trans3 HWa.out fun _ _ e => e.elim, HWa.out.blk hrb fun e => e, fun y hy => ?_, HE2.out, hI3⟩
      rw [List.mem_append, List.mem_singleton] at hy
      rcases hy with hy | rfl
      · exact hI1 y hy
      · exact of_decide_eq_false hd
  case done =>
    rintro D X2 V hD hxD hG hF ⟨hI1, hI2, hI3⟩ hdef
    have g2 := blk_free hI2 0
    have d2 := blk_cell hI2 0
    have HE := Lib.hid (And.intro hI1 (And.intro hI2 (And.intro hF hdef)))
    have HZ := Lib.hid (And.intro hD (And.intro z3 z1))
    clear hI1 hI2 hF hdef hG hseq hYl heg hYb hY3 z1 z3 j0 j1 j2 h3 hC f3 hN hD hxD
    gi_wp2_with fail
    obtain ⟨hI1, hI2, hF, hdef⟩ := HE.out
    obtain ⟨hD, z3, z1⟩ := HZ.out
    obtain ⟨f1, hb0, hb1, hb2, _, h1, hC, hfin, hLl, hib⟩ := H.out
    obtain ⟨f3, _, _, _, _, hN⟩ := K.out
    have hno : P = false := by
      cases P with
      | false => rfl
      | true => obtain ⟨y, hy, hb⟩ := hfin.2 rfl; exact absurd hb (hI1 y hy)
    have hne : D ≠ N + 2 := by omega
    refine leaves_one D _ (blk_other hdef _ (by simpa using hne) _) fun w' hf => ⟨_, res_inQ rfl _ _ (N + 2) (.bool false) _ rfl ((blk_cell (hf.blk (blk_set hI2 0 _) fun e => hne e.symm) 0).trans rfl) rfl rfl, by rw [hno], ?_⟩
    refine Fr.below (X := fun k => N ≤ k) ?_ (Nat.le_refl _) fun k hk e => by omega
    exact ((((f1.mono (Y := fun k => N ≤ k) fun _ _ e => e.elim).trans3 f3 fun _ _ e => e.elim).trans3 hF fun k _ e => by omega).setCell _ (by show N ≤ N + 2; omega) _).trans3 hf fun k _ e => by omega
  case stop =>
    rintro D c pre r X2 V hD hpr hxD hG hF ⟨⟨rfl, y, hy, hyo⟩, hI2, hI3⟩ hdef
    obtain ⟨f1, hb0, hb1, hb2, _, h1, hC, hfin, hLl, hib⟩ := H.out
    have hne : D ≠ N + 2 := by omega
    have hyes : P = true := hfin.1 ⟨y, by rw [← hpr]; exact List.mem_append_left _ hy, hyo⟩
    refine wpIn_ret ?_
    refine leaves_one D _ hdef fun w' hf => ⟨_, res_inQ rfl _ _ (N + 2) (.bool true) _ rfl ((blk_cell (hf.blk hI2 fun e => hne e.symm) 0).trans rfl) rfl rfl, by rw [hyes], ?_⟩
    refine Fr.below (X := fun k => N ≤ k) ?_ (Nat.le_refl _) fun k hk e => by omega
    exact (((f1.mono (Y := fun k => N ≤ k) fun _ _ e => e.elim).trans3 f3 fun _ _ e => e.elim).trans3 hF fun k _ e => by omega).trans3 hf fun k _ e => by omega
end Go.Proofs.YtlkeomcillencaaGreat
end
section
/- Rows of any elements: append(append([]T{}, old...), one), append(append([]T{}, l[:i]...), l[i+1:]...), as run equations. -/
namespace Go.Proofs.YtlkeomcillencaaGreat
open Go Go.RowKit Go.Lib

theorem add_g (g o j : Nat) : (⟨g, o, none⟩ : Addr).add j = ⟨g, o + j, none⟩ := by
  unfold Addr.add
  split
  · simp_all
  · rfl
/-- append, where its run is known -/
theorem wpList_app_g {P : Program} {ops : Array Oper} {rest : List Oper} {o : Oper} {a : Act} {w W' : World} {Q : Exit → Act → World → Prop} (hgd : o.guard = none) (s x : Operand) (t tx : TypeId) (ho : o.op = .call { callee := .builtin .append, args := #[s, x], argTypes := #[t, tx] })
    {v : Value} (hr : (Builtin.append_ #[t, tx] o.type #[a.eval s, a.eval x]).run P w = .ok v W') (h : wpList P ops Q rest (a.put o.dst v) W') : wpList P ops Q (o :: rest) a w := by
  refine wpList_plain hgd fun _ hK => ?_
  unfold Oper.wp execOp
  simp only [ho, resolve, invoke, builtin, Sem.run_bind, Sem.run_pure, Result.andThen_ok, List.map_toArray, List.map_cons, List.map_nil, hr]
  exact hK _ _ h
section
variable {P : Program} {w : World} {base : Nat} {e : TypeId} {size n : Nat} {xs : List Value}
theorem src_row (t : TypeId) (ht : P.underlying t = some (.slice e)) {A : Option Addr} {c : Nat} (h : w.ownsRow base e size (.slice A n c) n xs) (h1 : ∀ u ∈ xs, u.oneCell' = true) : Src P size t (.slice A n c) n xs w := by
  rcases h.2 with ⟨k1, k2⟩ | ⟨g, cap, cur, k1, k3, k4, k5, _, k6, k7⟩
  · have h3 : xs = [] := List.length_eq_zero_iff.1 (by rw [h.1, k2, Nat.zero_mul])
    subst h3
    subst k2
    injection k1 with q1 q2 q3
    subst q1
    exact Src.ofNil w ht c
  · injection k1 with q1 q2 q3
    subst q1
    exact Src.ofSlice w ht ⟨g, 0, none⟩ n c xs h.1 (fun j u hu => h.cells (g := g) rfl j u hu) h1
theorem own_empty (W : World) (e : TypeId) (size : Nat) : (W.alloc (.cells #[] e)).ownsRow W.heap.size e size (.slice (some ⟨W.heap.size, 0, none⟩) 0 0) 0 [] :=
  ⟨by simp, .inr ⟨W.heap.size, 0, #[], rfl, Nat.le_refl _, heap_alloc_new W _, by simp, by decide, by simp, by simp⟩⟩
/-- all of a row, into a new one -/
theorem copy_runs (t : TypeId) (i0 : TypeInfo) (z : Value) (bytes : Nat) (ht : P.underlying t = some (.slice e)) (hi : P.info? e = some i0) (hz : i0.zero = some z) (hsz : i0.size = size) (hby : i0.bytes = bytes) (hzc : z.cells.size = size)
    {A : Option Addr} {c : Nat} (h : w.ownsRow base e size (.slice A n c) n xs) (h1 : ∀ u ∈ xs, u.oneCell' = true) (hn : n ≤ 1000000) (hb : bytes ≤ 1000) :
    ∃ A1 c1 W2, (Builtin.append_ #[t, t] t #[.slice (some ⟨w.heap.size, 0, none⟩) 0 0, .slice A n c]).run P (w.alloc (.cells #[] e)) = .ok (.slice A1 n c1) W2 ∧
      W2.ownsRow w.heap.size e size (.slice A1 n c1) n xs ∧ Fr (fun _ => False) w W2 := by
  have f1 : Fr (fun _ => False) w (w.alloc (.cells #[] e)) := (Fr.refl _ w).alloc _
  have hx := row_same h fun g hg => f1.block g (h.lt g hg).2 fun e => e
  have hnb : (0 + n) * bytes ≤ 140737488355328 := Nat.le_trans (Nat.mul_le_mul (by omega : 0 + n ≤ 1000000) hb) (by decide)
  obtain ⟨v1, W2, hr1, r1, r2, r3⟩ := run_app_any (P := P) (w.alloc (.cells #[] e)) w.heap.size t t t e i0 z size bytes ht hi hz hsz hby hzc _ 0 [] (own_empty w e size) _ n xs (src_row t ht hx h1) (by unfold maxLen; omega) hnb f1.size
  obtain ⟨A1, c1, rfl⟩ := row_slice r1
  rw [Nat.zero_add, List.nil_append] at r1
  rw [Nat.zero_add] at hr1
  exact ⟨A1, c1, W2, hr1, r1, f1.trans3 r2 fun k hk e => by have : w.heap.size = k := Option.some.inj e; omega⟩
/-- one more, into a new row -/
theorem snoc_runs (t : TypeId) (i0 : TypeInfo) (z : Value) (bytes : Nat) (ht : P.underlying t = some (.slice e)) (hi : P.info? e = some i0) (hz : i0.zero = some z) (hsz : i0.size = size) (hby : i0.bytes = bytes) (hzc : z.cells.size = size) (hs0 : 0 < size)
    {A : Option Addr} {c : Nat} (h : w.ownsRow base e size (.slice A n c) n xs) (h1 : ∀ u ∈ xs, u.oneCell' = true) (hn : n ≤ 1000000) (hb : bytes ≤ 1000) (cs : Array Value) (hc : cs.size = size) (h2 : ∀ u ∈ cs.toList, u.oneCell' = true) :
    ∃ A1 c1 A2 c2 W2 W3, (Builtin.append_ #[t, t] t #[.slice (some ⟨w.heap.size, 0, none⟩) 0 0, .slice A n c]).run P (w.alloc (.cells #[] e)) = .ok (.slice A1 n c1) W2 ∧
      (Builtin.append_ #[t, t] t #[.slice A1 n c1, .slice (some ⟨W2.heap.size, 0, none⟩) 1 1]).run P (W2.alloc (.cells cs e)) = .ok (.slice A2 (n + 1) c2) W3 ∧
      W3.ownsRow w.heap.size e size (.slice A2 (n + 1) c2) (n + 1) (xs ++ cs.toList) ∧ Fr (fun _ => False) w W2 ∧ Fr (fun _ => False) w W3 := by
  obtain ⟨A1, c1, W2, hr1, r1, f2⟩ := copy_runs (P := P) t i0 z bytes ht hi hz hsz hby hzc h h1 hn hb
  obtain ⟨v4, W4, hr4, s1, s2, s3⟩ := run_one_t (P := P) (W := W2) w.heap.size t t e i0 z size bytes ht hi hz hsz hby hzc hs0 _ n _ r1 cs hc h2 (by omega) hb f2.size
  obtain ⟨A2, c2, rfl⟩ := row_slice s1
  exact ⟨A1, c1, A2, c2, W2, W4, hr1, hr4, s1, f2, f2.trans3 s2 fun k hk e => by have := (r1.lt k e).1; omega⟩
theorem slice_gen (t : TypeId) (i0 : TypeInfo) (ht : P.underlying t = some (.slice e)) (hi0 : P.info? e = some i0) (hsz : i0.size = size) (g o n c : Nat) (hc : n ≤ c) (i : Nat) (hi : i < n) :
    (∀ W, (Instr.slice t (.slice (some ⟨g, o, none⟩) n c) none (some (.int .i64 i)) none).run P W = .ok (.slice (some ⟨g, o, none⟩) i c) W) ∧
    ∃ g1 o1, (∀ W, (Instr.slice t (.slice (some ⟨g, o, none⟩) n c) (some (.int .i64 ((i : Int) + 1))) none none).run P W = .ok (.slice (some ⟨g1, o1, none⟩) (n - (i + 1)) (c - (i + 1))) W) ∧ (i + 1 < n → g1 = g ∧ o1 = o + (i + 1) * size) := by
  have hq : ((i : Int) + 1).toNat = i + 1 := by omega
  have he : P.elem t = e := by simp [Program.elem, ht]
  have ht' : P.underlying t = some (.slice (P.elem t)) := by rw [he]; exact ht
  refine ⟨fun W => ?_, ?_⟩
  · rw [run_slice_h W t _ _ _ ht' _ _ (by omega) (by omega)]
    have h3 : ¬ (c = 0) := by omega
    simp [sliced, sizeOf, he, ht, hi0, hsz, go_sem, h3, add_g, typeInfo]
  · by_cases h1 : c = i + 1
    · refine ⟨g, o, fun W => ?_, fun h2 => by omega⟩
      rw [run_slice_l W t _ _ _ ht' _ _ (by omega) (by omega)]
      simp [sliced, sizeOf, he, ht, hi0, hsz, go_sem, h1, hq, typeInfo]
    · refine ⟨g, o + (i + 1) * size, fun W => ?_, fun h2 => ⟨rfl, rfl⟩⟩
      rw [run_slice_l W t _ _ _ ht' _ _ (by omega) (by omega)]
      have h2 : ¬ c - (i + 1) = 0 := by omega
      simp [sliced, sizeOf, he, ht, hi0, hsz, go_sem, h1, h2, hq, add_g, typeInfo]
/-- one taken out, into a new row -/
theorem del_runs_g (t : TypeId) (i0 : TypeInfo) (z : Value) (bytes : Nat) (ht : P.underlying t = some (.slice e)) (hi0 : P.info? e = some i0) (hz : i0.zero = some z) (hsz : i0.size = size) (hby : i0.bytes = bytes) (hzc : z.cells.size = size)
    {A : Option Addr} {c : Nat} (h : w.ownsRow base e size (.slice A n c) n xs) (h1 : ∀ u ∈ xs, u.oneCell' = true) (hn : n ≤ 1000000) (hb : bytes ≤ 1000) {i : Nat} (hi : i < n) :
    ∃ g g1 o1 A1 c1 A2 c2 W2 W3, A = some ⟨g, 0, none⟩ ∧ n ≤ c ∧
      (∀ W, (Instr.slice t (.slice (some ⟨g, 0, none⟩) n c) none (some (.int .i64 i)) none).run P W = .ok (.slice (some ⟨g, 0, none⟩) i c) W) ∧
      (∀ W, (Instr.slice t (.slice (some ⟨g, 0, none⟩) n c) (some (.int .i64 ((i : Int) + 1))) none none).run P W = .ok (.slice (some ⟨g1, o1, none⟩) (n - (i + 1)) (c - (i + 1))) W) ∧
      (Builtin.append_ #[t, t] t #[.slice (some ⟨w.heap.size, 0, none⟩) 0 0, .slice (some ⟨g, 0, none⟩) i c]).run P (w.alloc (.cells #[] e)).drew = .ok (.slice A1 i c1) W2 ∧
      (Builtin.append_ #[t, t] t #[.slice A1 i c1, .slice (some ⟨g1, o1, none⟩) (n - (i + 1)) (c - (i + 1))]).run P W2 = .ok (.slice A2 (n - 1) c2) W3 ∧
      W3.ownsRow w.heap.size e size (.slice A2 (n - 1) c2) (n - 1) (xs.take (i * size) ++ xs.drop ((i + 1) * size)) ∧ Fr (fun _ => False) w W2 ∧ Fr (fun _ => False) w W3 := by
  have h' := h
  rcases h.2 with ⟨_, k2⟩ | ⟨g, cap, cur, hv, hbg, hg, hnc, hcm, hcs, htake⟩
  · omega
  injection hv with q1 q2 q3
  subst q1
  subst q3
  obtain ⟨hs1, g1, o1, hs2, hg1⟩ := slice_gen (P := P) t i0 ht hi0 hsz g 0 n c hnc i hi
  obtain ⟨W1, hW1⟩ : ∃ W1, (w.alloc (.cells #[] e)).drew = W1 := ⟨_, rfl⟩
  have f1 : Fr (fun _ => False) w W1 := by rw [← hW1]; exact ((Fr.refl _ w).alloc _).drew
  have z1 : W1.heap.size = w.heap.size + 1 := by rw [← hW1]; simp
  have hown : W1.ownsRow w.heap.size e size (.slice (some ⟨w.heap.size, 0, none⟩) 0 0) 0 [] := by rw [← hW1]; exact own_empty w e size
  have hgl : g < w.heap.size := blk_lt hg
  have hcell : ∀ (W : World), Fr (fun _ => False) w W → ∀ j u, xs[j]? = some u → W.cell? ⟨g, 0 + j, none⟩ = some u := fun W hf j u hu => by
    rw [hf.cell (p := ⟨g, 0 + j, none⟩) hgl (fun e => e)]
    have := h'.cells (g := g) rfl j u hu
    rwa [add_g] at this
  have hle1 : i * size ≤ n * size := Nat.mul_le_mul_right _ (by omega)
  have hle2 : (i + 1) * size ≤ n * size := Nat.mul_le_mul_right _ hi
  have l1 : (xs.take (i * size)).length = i * size := by rw [List.length_take, h.1]; omega
  have l3 : (xs.drop ((i + 1) * size)).length = (n - (i + 1)) * size := by rw [List.length_drop, h.1, Nat.sub_mul]
  have hb1 : (0 + i) * bytes ≤ 140737488355328 := Nat.le_trans (Nat.mul_le_mul (by omega : 0 + i ≤ 1000000) hb) (by decide)
  have hb2 : (i + (n - (i + 1))) * bytes ≤ 140737488355328 := Nat.le_trans (Nat.mul_le_mul (by omega : i + (n - (i + 1)) ≤ 1000000) hb) (by decide)
  have src1 : Src P size t (.slice (some ⟨g, 0, none⟩) i c) i (xs.take (i * size)) W1 :=
    Src.ofSlice W1 ht ⟨g, 0, none⟩ i c _ l1 (fun j u hu => by
      rw [add_g]
      rw [List.getElem?_take] at hu
      split at hu
      · exact hcell W1 f1 j u hu
      · cases hu) (fun u hu => h1 u (List.mem_of_mem_take hu))
  obtain ⟨v1, W2, hr1, r1, r2, r3⟩ := run_app_any (P := P) W1 w.heap.size t t t e i0 z size bytes ht hi0 hz hsz hby hzc _ 0 [] hown _ i _ src1 (by unfold maxLen; omega) hb1 (by omega)
  obtain ⟨A1, c1, rfl⟩ := row_slice r1
  rw [Nat.zero_add, List.nil_append] at r1
  rw [Nat.zero_add] at hr1 r3
  have f2 : Fr (fun _ => False) w W2 := f1.trans3 r2 fun k hk e => by have : w.heap.size = k := Option.some.inj e; omega
  have src2 : Src P size t (.slice (some ⟨g1, o1, none⟩) (n - (i + 1)) (c - (i + 1))) (n - (i + 1)) (xs.drop ((i + 1) * size)) W2 :=
    Src.ofSlice W2 ht ⟨g1, o1, none⟩ _ _ _ l3 (fun j u hu => by
      have hj := (List.getElem?_eq_some_iff.1 hu).1
      have hpos : i + 1 < n := by
        rcases Nat.lt_or_ge (i + 1) n with hh | hh
        · exact hh
        · rw [l3, show n - (i + 1) = 0 by omega, Nat.zero_mul] at hj; omega
      obtain ⟨rfl, rfl⟩ := hg1 hpos
      rw [add_g]
      rw [List.getElem?_drop] at hu
      have := hcell W2 f2 _ u hu
      rwa [← Nat.add_assoc] at this) (fun u hu => h1 u (List.mem_of_mem_drop hu))
  have hz2' := r2.size
  obtain ⟨v2, W3, hr2, s1, s2, s3⟩ := run_app_any (P := P) W2 w.heap.size t t t e i0 z size bytes ht hi0 hz hsz hby hzc _ i _ r1 _ (n - (i + 1)) _ src2 (by unfold maxLen; omega) hb2 (by omega)
  obtain ⟨A2, c2, rfl⟩ := row_slice s1
  have hlen : i + (n - (i + 1)) = n - 1 := by omega
  rw [hlen] at s1 s3 hr2
  refine ⟨g, g1, o1, A1, c1, A2, c2, W2, W3, rfl, hnc, hs1, hs2, by rw [hW1]; exact hr1, hr2, s1, f2, ?_⟩
  exact f2.trans3 s2 fun k hk e => by
    rcases r3 k e with e2 | e2
    · have : w.heap.size = k := Option.some.inj e2; omega
    · omega
end
end Go.Proofs.YtlkeomcillencaaGreat
end
