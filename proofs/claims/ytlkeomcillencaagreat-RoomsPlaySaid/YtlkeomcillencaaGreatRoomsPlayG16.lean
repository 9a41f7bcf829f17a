/- Texts of this proof, one behind the other. -/
import Derived.Test.YtlkeomcillencaaGreatRoomsPlayG15
import Derived.Test.YtlkeomcillencaaGreatRoomsPlayG8
import Derived.Test.YtlkeomcillencaaGreatRoomsPlayG7
import Derived.Test.YtlkeomcillencaaGreatRoomsPlayG14
set_option linter.unusedVariables false
set_option linter.unusedSimpArgs false
section
/- Layer 20: what Part makes of the rooms, as a list. -/
namespace Go.Proofs.YtlkeomcillencaaGreat
open Go Go.RowKit Go.Maps Go.Lib

/-- a room of which somebody is no member any more; none, if nobody is left -/
def partR (id : Int) (k : List UInt8) (r : Rm) : Option Rm := if foldL r.nm = k ∧ hasM r.mem id = true then (if delMb r.mem id = [] then none else some (dropR r id)) else some r
def partA (A : List Rm) (id : Int) (k : List UInt8) : List Rm := A.filterMap (partR id k)
/-- parted from one behind the other -/
def leaveA (A : List Rm) (id : Int) (ks : List (List UInt8)) : List Rm := ks.foldl (fun A k => partA A id k) A
theorem leaveA_snoc (A : List Rm) (id : Int) (ks : List (List UInt8)) (k : List UInt8) : leaveA A id (ks ++ [k]) = partA (leaveA A id ks) id k := by unfold leaveA; rw [List.foldl_append]; rfl
theorem partR_oth {id : Int} {k : List UInt8} {r : Rm} (h : foldL r.nm ≠ k) : partR id k r = some r := if_neg fun e => h e.1
theorem partR_no {id : Int} {k : List UInt8} {r : Rm} (h : hasM r.mem id = false) : partR id k r = some r := if_neg fun e => by rw [h] at e; cases e.2
theorem filterMap_same {α : Type} {g : α → Option α} : ∀ {A : List α}, (∀ a ∈ A, g a = some a) → A.filterMap g = A
  | [], _ => rfl
  | a :: A, h => by
    rw [List.filterMap_cons_some (h a (List.mem_cons_self ..)), filterMap_same fun x hx => h x (List.mem_cons_of_mem _ hx)]
theorem partA_mid {Q1 Q2 : List RmE} {f : RmE} {id : Int} (hk : ((Q1 ++ f :: Q2).map keyE).Nodup) : partA ((Q1 ++ f :: Q2).map (·.r)) id (keyE f) = Q1.map (·.r) ++ ((partR id (keyE f) f.r).toList ++ Q2.map (·.r)) := by
  have h1 : (Q1.map (·.r)).filterMap (partR id (keyE f)) = Q1.map (·.r) := filterMap_same fun a ha => by
    obtain ⟨e, he, rfl⟩ := List.mem_map.1 ha
    exact partR_oth (keys_oth hk (.inl he))
  have h2 : (Q2.map (·.r)).filterMap (partR id (keyE f)) = Q2.map (·.r) := filterMap_same fun a ha => by
    obtain ⟨e, he, rfl⟩ := List.mem_map.1 ha
    exact partR_oth (keys_oth hk (.inr he))
  unfold partA
  rw [List.map_append, List.filterMap_append, h1, List.map_cons]
  congr 1
  cases hp : partR id (keyE f) f.r with
  | none => rw [List.filterMap_cons_none hp, h2]; rfl
  | some r => rw [List.filterMap_cons_some hp, h2]; rfl
theorem partA_not {n : Nat} {Q : List RmE} {L : List (Int × List UInt8)} (hl : RsLg n Q L) {id : Int} {k : List UInt8} (h : (id, k) ∉ L) : partA (Q.map (·.r)) id k = Q.map (·.r) := filterMap_same fun a ha => by
  obtain ⟨e, he, rfl⟩ := List.mem_map.1 ha
  refine if_neg fun e2 => h ((hl.pairs id k).2 ⟨e, he, e2.1, e2.2⟩)
/-- Part, in one word -/
def PartW (base R n : Nat) (C : Nat → Tag) (mr mj mb : Int) (Q : List RmE) (L : List (Int × List UInt8)) (id : Int) (k : List UInt8) (w : World) (e : Ending) (w' : World) : Prop :=
  e = .returned (.bool (decide ((id, k) ∈ L))) ∧ ∃ Q', RsTo base R C mr mj mb Q' (lessLIS L id k) w w' ∧ RsLg n Q' (lessLIS L id k) ∧ Q'.map (·.r) = partA (Q.map (·.r)) id k
theorem PartP.to {base : Nat} {w w' : World} {e : Ending} {R t b tr n : Nat} {X : Nat → Prop} {C : Nat → Tag} {mr mj mb : Int} {Q : List RmE} {L : List (Int × List UInt8)} (h : RsPh base w R t b tr X C mr mj mb Q L) (hl : RsLg n Q L) {id : Int} {k : List UInt8} (hp : PartP base R C mr mj mb Q L id k w e w') : PartW base R n C mr mj mb Q L id k w e w' := by
  rcases hp with ⟨h1, rfl, h2⟩ | ⟨Q1, f, Q2, rfl, rfl, hm, rfl, hc⟩
  · refine ⟨by rw [decide_eq_false h1], Q, ?_, ?_, (partA_not hl h1).symm⟩
    · rw [lessNotIS h1]; exact h2
    · rw [lessNotIS h1]; exact hl
  · have hin : (id, keyE f) ∈ L := (hl.pairs _ _).2 ⟨f, by simp, rfl, hm⟩
    have hu : UpM f.r.mem := (h.each f (by simp)).2.2.2.2.2.2
    have hkk := h.keys
    rcases hc with ⟨hd, hto⟩ | ⟨hd, q', hto⟩
    · refine ⟨by rw [decide_eq_true hin], Q1 ++ Q2, hto, lg_gone hl hkk hu hm hd, ?_⟩
      have : partR id (keyE f) f.r = none := by unfold partR; rw [if_pos ⟨rfl, hm⟩, if_pos hd]
      rw [partA_mid hkk, this, List.map_append]; rfl
    · refine ⟨by rw [decide_eq_true hin], _, hto, lg_drop hl hkk hu hm hd q', ?_⟩
      have : partR id (keyE f) f.r = some (dropR f.r id) := by unfold partR; rw [if_pos ⟨rfl, hm⟩, if_neg hd]
      rw [partA_mid hkk, this, List.map_append]; rfl
theorem part_w {base : Nat} {w : World} {R t b tr n : Nat} {X : Nat → Prop} {C : Nat → Tag} {mr mj mb : Int} {Q : List RmE} {L : List (Int × List UInt8)} (h : RsPh base w R t b tr X C mr mj mb Q L) (hl : RsLg n Q L) (hn : n ≤ 80000) {id : Int} (hid : OkKIS id) {nm : List UInt8} (hnm : nm.length ≤ 1000) :
    Calls Tryz.prog 10 #[.pointer (some ⟨R, 0, none⟩), .int .i64 id, .string (bs nm)] w (PartW base R n C mr mj mb Q L id (foldL nm) w) := (part_any h hl hn hid hnm).mono fun e w' hp => hp.to h hl
/-- Join, as a list -/
def addA (A : List Rm) (id : Int) (k : List UInt8) : List Rm := A.map fun r => if foldL r.nm = k then addR r id false else r
def getA (A : List Rm) (k : List UInt8) : Option Rm := A.find? fun r => decide (foldL r.nm = k)
def ofA (A : List Rm) (id : Int) : List Rm := A.filter fun r => hasM r.mem id
theorem getA_map (Q : List RmE) (k : List UInt8) : getA (Q.map (·.r)) k = (getE Q k).map (·.r) := by unfold getA getE; rw [List.find?_map]; rfl
theorem ofA_map (Q : List RmE) (id : Int) : ofA (Q.map (·.r)) id = (ofQ Q id).map (·.r) := by unfold ofA ofQ; rw [List.filter_map]; rfl
/-- what there is behind Join, and what it answers -/
def joinA (mr mj mb : Int) (A : List Rm) (id : Int) (nm : List UInt8) : List Rm × Option Rm :=
  match getA A (foldL nm) with
  | some r => if hasM r.mem id then (A, some r) else if mj ≤ ((ofA A id).length : Int) then (A, none) else (addA A id (foldL nm), some (addR r id false))
  | none => if mj ≤ ((ofA A id).length : Int) ∨ mr ≤ (A.length : Int) then (A, none) else (A ++ [addR (rm0 nm mb) id true], some (addR (rm0 nm mb) id true))
/-- Join, in one word: the room that is given is that of the name -/
def JoinW (base R n : Nat) (C : Nat → Tag) (mr mj mb : Int) (Q : List RmE) (L : List (Int × List UInt8)) (id : Int) (nm : List UInt8) (w : World) (e : Ending) (w' : World) : Prop :=
  ∃ Q' L', RsTo base R C mr mj mb Q' L' w w' ∧ RsLg (n + 1) Q' L' ∧ Q'.map (·.r) = (joinA mr mj mb (Q.map (·.r)) id nm).1 ∧
    ((joinA mr mj mb (Q.map (·.r)) id nm).2 = none ∧ e = .returned (.tuple #[.pointer none, .int .i64 405]) ∨ ∃ f ∈ Q', (joinA mr mj mb (Q.map (·.r)) id nm).2 = some f.r ∧ e = .returned (.tuple #[.pointer (some ⟨f.B, 0, none⟩), .int .i64 0]))
theorem addA_mid {Q1 Q2 : List RmE} {f : RmE} {id : Int} (hk : ((Q1 ++ f :: Q2).map keyE).Nodup) : addA ((Q1 ++ f :: Q2).map (·.r)) id (keyE f) = Q1.map (·.r) ++ addR f.r id false :: Q2.map (·.r) := by
  have same : ∀ (P : List RmE), (∀ e ∈ P, keyE e ≠ keyE f) → addA (P.map (·.r)) id (keyE f) = P.map (·.r) := fun P hP => by
    unfold addA
    rw [List.map_map]
    refine List.map_congr_left fun e he => ?_
    show (if foldL e.r.nm = keyE f then _ else _) = _
    exact if_neg (hP e he)
  have h1 := same Q1 fun e he => keys_oth hk (.inl he)
  have h2 := same Q2 fun e he => keys_oth hk (.inr he)
  unfold addA at h1 h2 ⊢
  rw [List.map_append, List.map_append, h1, List.map_cons, List.map_cons, h2, if_pos (show foldL f.r.nm = keyE f from rfl)]
theorem JoinP.to {base : Nat} {w w' : World} {e : Ending} {R t b tr n : Nat} {X : Nat → Prop} {C : Nat → Tag} {mr mj mb : Int} {Q : List RmE} {L : List (Int × List UInt8)} (h : RsPh base w R t b tr X C mr mj mb Q L) (hl : RsLg n Q L) {id : Int} {nm : List UInt8} (hnm : nm.length ≤ 1000) (hp : JoinP base R C mr mj mb Q L id nm w e w') : JoinW base R n C mr mj mb Q L id nm w e w' := by
  have hof : (ofA (Q.map (·.r)) id).length = (ofQ Q id).length := by rw [ofA_map, List.length_map]
  rcases hp with ⟨f, hg, hm, rfl, hto⟩ | ⟨hm, hfull, rfl, hto⟩ | ⟨Q1, f, Q2, q', rfl, hk, hm, hlt, rfl, hto⟩ | ⟨hg, hlt, hq, B, q, rfl, hto⟩
  · have hj : joinA mr mj mb (Q.map (·.r)) id nm = (Q.map (·.r), some f.r) := by unfold joinA; rw [getA_map, hg]; simp only [Option.map_some]; rw [if_pos hm]
    exact ⟨Q, L, hto, hl.more (Nat.le_succ n), by rw [hj], .inr ⟨f, (getE_mem hg).1, by rw [hj], rfl⟩⟩
  · have hj : joinA mr mj mb (Q.map (·.r)) id nm = (Q.map (·.r), none) := by
      unfold joinA
      rw [getA_map]
      cases hg : getE Q (foldL nm) with
      | some f =>
        simp only [Option.map_some]
        rw [hm f hg, hof]
        rcases hfull with a | ⟨a, _⟩
        · rw [if_neg (by simp), if_pos a]
        · rw [hg] at a; cases a
      | none =>
        simp only [Option.map_none]
        rw [hof, List.length_map]
        refine if_pos ?_
        rcases hfull with a | ⟨_, a⟩
        · exact .inl a
        · exact .inr a
    exact ⟨Q, L, hto, hl.more (Nat.le_succ n), by rw [hj], .inl ⟨by rw [hj], rfl⟩⟩
  · have hkk := h.keys
    have hg := getE_of hkk (e := f) (by simp)
    rw [hk] at hg
    have hj : joinA mr mj mb ((Q1 ++ f :: Q2).map (·.r)) id nm = (addA ((Q1 ++ f :: Q2).map (·.r)) id (foldL nm), some (addR f.r id false)) := by
      unfold joinA; rw [getA_map, hg]; simp only [Option.map_some]
      rw [hm, hof, if_neg (by simp), if_neg (by omega)]
    refine ⟨_, _, hto, ?_, ?_, .inr ⟨⟨f.B, q', addR f.r id false⟩, by simp, by rw [hj], rfl⟩⟩
    · rw [← hk]; exact lg_upd hl hm q' false
    · rw [hj, ← hk, addA_mid hkk, List.map_append, List.map_cons]
  · have hj : joinA mr mj mb (Q.map (·.r)) id nm = (Q.map (·.r) ++ [addR (rm0 nm mb) id true], some (addR (rm0 nm mb) id true)) := by
      unfold joinA; rw [getA_map, hg]; simp only [Option.map_none]
      rw [hof, List.length_map, if_neg (by omega)]
    exact ⟨_, _, hto, lg_new hl nm hnm mb B q true, by rw [hj, List.map_append]; rfl, .inr ⟨⟨B, q, addR (rm0 nm mb) id true⟩, by simp, by rw [hj], rfl⟩⟩
theorem join_w {base : Nat} {w : World} {R t b tr n : Nat} {X : Nat → Prop} {C : Nat → Tag} {mr mj mb : Int} {Q : List RmE} {L : List (Int × List UInt8)} (h : RsPh base w R t b tr X C mr mj mb Q L) (hl : RsLg n Q L) (hn : n ≤ 80000) {id : Int} (hid : OkKIS id) {nm : List UInt8} (hnm : nm.length ≤ 1000) :
    Calls Tryz.prog 14 #[.pointer (some ⟨R, 0, none⟩), .int .i64 id, .string (bs nm)] w (JoinW base R n C mr mj mb Q L id nm w) := (join_any h hl hn hid hnm).mono fun e w' hp => hp.to h hl hnm
end Go.Proofs.YtlkeomcillencaaGreat
end
section
/- Layer 20: the document's rooms, as they lie. -/
namespace Go.Proofs.YtlkeomcillencaaGreat
open Go Go.RowKit Go.Maps Go.Sort Go.Shelf Go.Lib

theorem Tryz.infoPd : (Tryz.prog.info? 40).map (fun i => (i.zero, i.size, i.bytes)) = some (some (.pointer none), 1, 8) := by kernel_rfl
def OwnPd (base : Nat) (W : World) (v : Value) (xs : List Nat) : Prop := W.ownsRow base 40 1 v xs.length (xs.map encPr)
theorem ownPd_kept {base : Nat} {w W : World} {v : Value} {xs : List Nat} (h : OwnPd base w v xs) (hs : ∀ g, v.ownBlock = some g → W.heap[g]? = w.heap[g]?) : OwnPd base W v xs := row_same h hs
theorem ownPd_nil (base : Nat) (w : World) : OwnPd base w (.slice none 0 0) [] := World.ownsRow_nil _ _ _ _
theorem ownPd_base {W : World} {base base' : Nat} {v : Value} {xs : List Nat} (h : OwnPd base W v xs) (hb : base' ≤ base) : OwnPd base' W v xs := row_baseG h hb
theorem ownPd_snoc {base : Nat} {w : World} {v : Value} {xs : List Nat} {x : Nat} (h : w.ownsRow base 40 1 v (xs.length + 1) (xs.map encPr ++ [encPr x])) : OwnPd base w v (xs ++ [x]) := by
  unfold OwnPd; rw [List.length_append, List.map_append]; exact h
theorem reads_ownPd {base : Nat} {w : World} {A : Option Addr} {n c : Nat} {xs : List Nat} (h : OwnPd base w (.slice A n c) xs) : 0 < xs.length → ∃ g, A = some ⟨g, 0, none⟩ ∧ g < w.heap.size ∧ ∀ j (h : j < xs.length), w.cell? ⟨g, 0 + j, none⟩ = some (.pointer (some ⟨xs[j], 0, none⟩)) := fun h0 => by
  have h' := h
  rcases h.2 with ⟨h1, h2⟩ | ⟨g, cap, cur, h1, h3, h4, h5, _, h6, h7⟩
  · omega
  · injection h1 with q1 q2 q3
    subst q1
    refine ⟨g, rfl, blk_lt h4, fun j hj => ?_⟩
    have := h'.cells (g := g) rfl j (encPr xs[j]) (by simp [hj])
    rw [add_g] at this
    exact this
/-- a room of the document's, and where it lies -/
structure RdE where
  B : Nat
  q : RxV
  x : Rx
def keyD (e : RdE) : List UInt8 := foldL e.x.nm
def rdO (mr mj mb : Int) (v : Value) : Obj := .cells #[.int .i64 mr, .int .i64 mj, .int .i64 mb, v] 32 (0, 0)
structure RdPh (base : Nat) (w : World) (R : Nat) (v : Value) (C : Nat → Tag) (mr mj mb : Int) (E : List RdE) : Prop where
  self : w.heap[R]? = some (rdO mr mj mb v)
  row : OwnPd base w v (E.map (·.B))
  each : ∀ e ∈ E, RxAt base e.B e.q e.x w
  keys : (E.map keyD).Nodup
  cR : C R = (1, [])
  cv : ∀ k, v.ownBlock = some k → C k = (2, [])
  cE : ∀ e ∈ E, ∀ k, RxX e.B e.q k → C k = (4, keyD e)
  cN : ∀ k, w.heap.size ≤ k → C k = tag0
  cB : ∀ k, k < base → C k = tag0
section
variable {base : Nat} {w w' : World} {R : Nat} {v : Value} {C : Nat → Tag} {mr mj mb : Int} {E : List RdE}
theorem RdPh.lt (h : RdPh base w R v C mr mj mb E) {k : Nat} (hk : C k ≠ tag0) : base ≤ k ∧ k < w.heap.size :=
  ⟨Nat.le_of_not_lt fun e => hk (h.cB k e), Nat.lt_of_not_le fun e => hk (h.cN k e)⟩
theorem RdPh.fr (h : RdPh base w R v C mr mj mb E) {Z : Nat → Prop} (hf : Fr Z w w') (hz : ∀ k, C k ≠ tag0 → ¬ Z k) : RdPh base w' R v C mr mj mb E :=
  ⟨hf.blk h.self (hz _ (by rw [h.cR]; simp)), ownPd_kept h.row fun g hg => hf.block g (h.row.lt g hg).2 (hz _ (by rw [h.cv g hg]; simp)), fun e he => (h.each e he).fr hf fun k hk => hz _ (by rw [h.cE e he k hk]; simp), h.keys, h.cR, h.cv, h.cE, fun k hk => h.cN k (Nat.le_trans hf.size hk), h.cB⟩
theorem RdPh.below (h : RdPh base w R v C mr mj mb E) (hb : RowKit.Below w.heap.size w w') : RdPh base w' R v C mr mj mb E := h.fr (Fr.of_below (X := fun _ => False) hb) fun _ _ e => e
theorem RdPh.base_le (h : RdPh base w R v C mr mj mb E) : base ≤ w.heap.size := by
  have := h.lt (k := R) (by rw [h.cR]; simp); omega
/-- a room changed -/
theorem RdPh.roomTo {E1 E2 : List RdE} {e : RdE} (h : RdPh base w R v C mr mj mb (E1 ++ e :: E2)) {x' : Rx} (hn : x'.nm = e.x.nm) (hc : XW base e.B e.q x' w w') :
    (∃ q', RdPh base w' R v (paint C w.heap.size w'.heap.size (4, keyD e)) mr mj mb (E1 ++ ⟨e.B, q', x'⟩ :: E2)) ∧ Fr (fun k => C k ≠ tag0) w w' := by
  obtain ⟨q', h1, hf, h3⟩ := hc
  have hlR : R < w.heap.size := blk_lt h.self
  have he : e ∈ E1 ++ e :: E2 := by simp
  have ne : ∀ {k : Nat} {g : Tag}, C k = g → g ≠ (4, keyD e) → ¬ RxX e.B e.q k := fun e1 hg hx => hg (by rw [← e1, h.cE e he _ hx])
  have hsz := hf.size
  have hkey := h.keys
  have hoth : ∀ f, f ∈ E1 ∨ f ∈ E2 → f ∈ E1 ++ e :: E2 ∧ keyD f ≠ keyD e := fun f hfm => by
    rw [List.map_append, List.map_cons, List.nodup_append, List.nodup_cons] at hkey
    rcases hfm with hfm | hfm
    · exact ⟨by simp [hfm], fun e1 => hkey.2.2 _ (List.mem_map_of_mem hfm) _ (List.mem_cons_self ..) e1⟩
    · exact ⟨by simp [hfm], fun e1 => hkey.2.1.1 (e1 ▸ List.mem_map_of_mem hfm)⟩
  have hke : keyD ⟨e.B, q', x'⟩ = keyD e := by unfold keyD; simp only [hn]
  have split : ∀ {f : RdE}, f ∈ E1 ++ (⟨e.B, q', x'⟩ : RdE) :: E2 → f ∈ E1 ∨ f ∈ E2 ∨ f = ⟨e.B, q', x'⟩ := fun {f} hfm => by
    rw [List.mem_append, List.mem_cons] at hfm
    rcases hfm with a | a | a
    · exact .inl a
    · exact .inr (.inr a)
    · exact .inr (.inl a)
  refine ⟨⟨q', hf.blk h.self (ne h.cR (by simp)), ?_, fun f hfm => ?_, ?_, by rw [paint_old hlR]; exact h.cR, fun k hk => by rw [paint_old (h.row.lt k hk).2]; exact h.cv k hk, fun f hfm k hk => ?_, fun k hk => paint_far (by omega) hk, fun k hk => by rw [paint_old (by have := h.base_le; omega)]; exact h.cB k hk⟩, hf.mono fun k _ hk => by rw [h.cE e he k hk]; simp⟩
  · have hm : (E1 ++ (⟨e.B, q', x'⟩ : RdE) :: E2).map (·.B) = (E1 ++ e :: E2).map (·.B) := by simp
    rw [hm]
    exact ownPd_kept h.row fun g hg => hf.block g (h.row.lt g hg).2 (ne (h.cv g hg) (by simp))
  · rcases split hfm with a | a | rfl
    · obtain ⟨m1, m2⟩ := hoth f (.inl a)
      exact (h.each f m1).fr hf fun k hk => ne (h.cE f m1 k hk) (by simp [m2])
    · obtain ⟨m1, m2⟩ := hoth f (.inr a)
      exact (h.each f m1).fr hf fun k hk => ne (h.cE f m1 k hk) (by simp [m2])
    · exact h1
  · rw [List.map_append, List.map_cons, hke]
    rw [List.map_append, List.map_cons] at hkey
    exact hkey
  · rcases split hfm with a | a | rfl
    · obtain ⟨m1, m2⟩ := hoth f (.inl a)
      rw [paint_old ((h.each f m1).lt k hk).2]; exact h.cE f m1 k hk
    · obtain ⟨m1, m2⟩ := hoth f (.inr a)
      rw [paint_old ((h.each f m1).lt k hk).2]; exact h.cE f m1 k hk
    · rw [hke]
      by_cases e2 : k < w.heap.size
      · rw [paint_old e2]; exact h.cE e he k (h3 k hk e2)
      · exact paint_new (by omega) (h1.lt k hk).2
/-- another row: fewer rooms -/
theorem RdPh.rowTo (h : RdPh base w R v C mr mj mb E) {E' : List RdE} (hs : E'.Sublist E) {v' : Value} (hr : OwnPd base w' v' (E'.map (·.B))) (hnew : ∀ k, v'.ownBlock = some k → w.heap.size ≤ k) (hb : w'.heap[R]? = some (rdO mr mj mb v')) (hf : Fr (fun k => k = R) w w') :
    RdPh base w' R v' (paint C w.heap.size w'.heap.size (2, [])) mr mj mb E' ∧ Fr (fun k => C k ≠ tag0) w w' := by
  have ne : ∀ {k : Nat} {g : Tag}, C k = g → g ≠ (1, []) → ¬ k = R := fun e1 hg hx => hg (by rw [← e1, hx, h.cR])
  have hmem : ∀ f ∈ E', f ∈ E := fun f hf => hs.subset hf
  refine ⟨⟨hb, hr, fun f hfm => (h.each f (hmem f hfm)).fr hf fun k hk => ne (h.cE f (hmem f hfm) k hk) (by simp), h.keys.sublist (hs.map keyD), by rw [paint_old (blk_lt h.self)]; exact h.cR, fun k hk => paint_new (hnew k hk) (hr.lt k hk).2, fun f hfm k hk => by rw [paint_old ((h.each f (hmem f hfm)).lt k hk).2]; exact h.cE f (hmem f hfm) k hk, fun k hk => paint_far (Nat.le_trans hf.size hk) hk, fun k hk => by rw [paint_old (by have := h.base_le; omega)]; exact h.cB k hk⟩, hf.mono fun k _ e => by rw [e, h.cR]; simp⟩
/-- a new room came: first the room, then the row -/
theorem RdPh.newTo (h : RdPh base w R v C mr mj mb E) {B : Nat} {q : RxV} {x : Rx} {w1 : World} (h1 : RxAt w.heap.size B q x w1) (hb1 : RowKit.Below w.heap.size w w1) (hk : foldL x.nm ∉ E.map keyD) {v' : Value} (hr : OwnPd base w' v' ((E ++ [(⟨B, q, x⟩ : RdE)]).map (·.B))) (hnew : ∀ k, v'.ownBlock = some k → w1.heap.size ≤ k) (hb : w'.heap[R]? = some (rdO mr mj mb v')) (hf : Fr (fun k => k = R) w1 w') :
    (∃ C', RdPh base w' R v' C' mr mj mb (E ++ [(⟨B, q, x⟩ : RdE)]) ∧ Onto C C' w w') := by
  have ne : ∀ {k : Nat} {g : Tag}, C k = g → g ≠ (1, []) → ¬ k = R := fun e1 hg hx => hg (by rw [← e1, hx, h.cR])
  have hs1 := hb1.size
  have hsf := hf.size
  have hlR : R < w.heap.size := blk_lt h.self
  have g1 := h.below hb1
  have hRx : ∀ k, RxX B q k → ¬ k = R := fun k hk e => by have := (h1.lt k hk).1; omega
  have f1 : Fr (fun _ => False) w w1 := Fr.of_below hb1
  refine ⟨fun k => if k < w.heap.size then C k else if k < w1.heap.size then (4, foldL x.nm) else if k < w'.heap.size then (2, []) else tag0, ⟨hb, hr, fun f hfm => ?_, ?_, by rw [if_pos hlR]; exact h.cR, fun k hk2 => ?_, fun f hfm k hk2 => ?_, fun k hk2 => ?_, fun k hk2 => ?_⟩, fun k hk2 => if_pos hk2, (f1.mono fun _ _ e => e.elim).trans3 hf fun k _ e => by rw [e, h.cR]; simp⟩
  · rcases List.mem_append.1 hfm with a | a
    · exact (g1.each f a).fr hf fun k hk => ne (h.cE f a k hk) (by simp)
    · obtain rfl := List.mem_singleton.1 a
      have h2 := h1.fr hf hRx
      obtain ⟨a1, a2, a3, a4, a5⟩ := h2
      have hbw := h.base_le
      exact ⟨a1, row_baseG a2 hbw, row_baseG a3 hbw, row_baseG a4 hbw, Nat.le_trans hbw a5⟩
  · rw [List.map_append]
    refine List.nodup_append.2 ⟨h.keys, by simp, fun a ha b hb2 e => ?_⟩
    simp at hb2
    exact hk (by rw [show foldL x.nm = a from hb2.symm.trans e.symm]; exact ha)
  · have := hnew k hk2
    rw [if_neg (by omega), if_neg (by omega), if_pos (hr.lt k hk2).2]
  · rcases List.mem_append.1 hfm with a | a
    · rw [if_pos ((h.each f a).lt k hk2).2]; exact h.cE f a k hk2
    · obtain rfl := List.mem_singleton.1 a
      have := h1.lt k hk2
      rw [if_neg (by omega), if_pos this.2]; rfl
  · rw [if_neg (by omega), if_neg (by omega), if_neg (by omega)]
  · have := h.base_le
    rw [if_pos (by omega)]; exact h.cB k hk2
end
section
variable {P : Program} {w W' : World} {ops : Array Oper} {rest : List Oper} {o : Oper} {a : Act} {Q : Exit → Act → World → Prop}
theorem wpList_app_run (hgd : o.guard = none) (s x : Operand) (t tx : TypeId) (ho : o.op = .call { callee := .builtin .append, args := #[s, x], argTypes := #[t, tx] })
    {v : Value} (hr : (Builtin.append_ #[t, tx] o.type #[a.eval s, a.eval x]).run P w = .ok v W') (h : wpList P ops Q rest (a.put o.dst v) W') : wpList P ops Q (o :: rest) a w := by
  refine wpList_plain hgd fun _ hK => ?_
  unfold Oper.wp execOp
  simp only [ho, resolve, invoke, builtin, Sem.run_bind, Sem.run_pure, Result.andThen_ok, List.map_toArray, List.map_cons, List.map_nil, hr]
  exact hK _ _ h
end
theorem cmpF_pos (a b : List UInt8) : 0 < cmpF a b ↔ foldL b < foldL a := by
  have h1 : cmpL (foldL b) (foldL a) = -1 ↔ foldL b < foldL a := by rw [← less_cmpL, bytesLess_eq, decide_eq_true_eq]
  have h2 := cmpL_anti (foldL a) (foldL b)
  unfold cmpF
  rw [← h1]
  rcases cmpL_three (foldL a) (foldL b) with h | h | h <;> omega
theorem add_anyW (g o j : Nat) : (⟨g, o, none⟩ : Addr).add j = ⟨g, o + j, none⟩ := by
  unfold Addr.add
  split
  · simp_all
  · rfl
theorem slice_pd (g o n c : Nat) (hc : n ≤ c) (hc0 : 0 < c) (i : Nat) (hi : i ≤ n) :
    (∀ W, (Instr.slice 30 (.slice (some ⟨g, o, none⟩) n c) none (some (.int .i64 i)) none).run Tryz.prog W = .ok (.slice (some ⟨g, o, none⟩) i c) W) ∧
    ∃ g1 o1, (∀ W, (Instr.slice 30 (.slice (some ⟨g, o, none⟩) n c) (some (.int .i64 (i : Int))) none none).run Tryz.prog W = .ok (.slice (some ⟨g1, o1, none⟩) (n - i) (c - i)) W) ∧ (i < n → g1 = g ∧ o1 = o + i) := by
  have hu : Tryz.prog.underlying 30 = some (.slice (Tryz.prog.elem 30)) := by kernel_rfl
  obtain ⟨i0, hi0, _, hz1, _⟩ := info_parts Tryz.infoPd
  refine ⟨fun W => ?_, ?_⟩
  · rw [run_slice_h W 30 _ _ _ hu _ _ (by omega) (by omega)]
    have h3 : ¬ (c = 0) := by omega
    simp [sliced, sizeOf, hi0, hz1, go_sem, h3, add_anyW, typeInfo]
  · by_cases h1 : c = i
    · refine ⟨g, o, fun W => ?_, fun h2 => by omega⟩
      rw [run_slice_l W 30 _ _ _ hu _ _ (by omega) (by omega)]
      simp [sliced, sizeOf, hi0, hz1, go_sem, h1, typeInfo]
    · refine ⟨g, o + i, fun W => ?_, fun h2 => ⟨rfl, rfl⟩⟩
      rw [run_slice_l W 30 _ _ _ hu _ _ (by omega) (by omega)]
      have h2 : ¬ c - i = 0 := by omega
      simp [sliced, sizeOf, hi0, hz1, go_sem, h1, h2, add_anyW, typeInfo]
theorem slice_pd_h (W : World) : (Instr.slice 30 (.slice none 0 0) none (some (.int .i64 ((0 : Nat) : Int))) none).run Tryz.prog W = .ok (.slice none 0 0) W := by kernel_rfl
theorem slice_pd_l (W : World) : (Instr.slice 30 (.slice none 0 0) (some (.int .i64 ((0 : Nat) : Int))) none none).run Tryz.prog W = .ok (.slice none 0 0) W := by kernel_rfl
theorem encPr_one (T : List Nat) : ∀ u ∈ T.map encPr, u.oneCell' = true := by
  intro u hu
  obtain ⟨p, _, rfl⟩ := List.mem_map.1 hu
  rfl
/-- a room put in among rooms: the slices, the three appends -/
theorem ins_runsPd {base : Nat} {w : World} {A : Option Addr} {c : Nat} {ns : List Nat} (h3 : OwnPd base w (.slice A ns.length c) ns) (hnil : ns = [] → A = none ∧ c = 0) {i : Nat} (hi : i ≤ ns.length) (hl : ns.length ≤ 1000000) (s : Nat) :
    ∃ V1 V2 A3 c3 A4 c4 A5 c5 W3 W4 W5,
      (∀ W, (Instr.slice 30 (.slice A ns.length c) none (some (.int .i64 i)) none).run Tryz.prog W = .ok V1 W) ∧
      (∀ W, (Instr.slice 30 (.slice A ns.length c) (some (.int .i64 (i : Int))) none none).run Tryz.prog W = .ok V2 W) ∧
      (Builtin.append_ #[30, 30] 30 #[.slice none 0 0, V1]).run Tryz.prog w = .ok (.slice A3 i c3) W3 ∧
      (Builtin.append_ #[30, 30] 30 #[.slice A3 i c3, .slice (some ⟨W3.heap.size, 0, none⟩) 1 1]).run Tryz.prog (W3.alloc (.cells #[.pointer (some ⟨s, 0, none⟩)] 40)) = .ok (.slice A4 (i + 1) c4) W4 ∧
      (Builtin.append_ #[30, 30] 30 #[.slice A4 (i + 1) c4, V2]).run Tryz.prog W4 = .ok (.slice A5 (ns.length + 1) c5) W5 ∧
      OwnPd w.heap.size W5 (.slice A5 (ns.length + 1) c5) (ns.take i ++ s :: ns.drop i) ∧ Fr (fun _ => False) w W3 ∧ Fr (fun _ => False) w W4 ∧ Fr (fun _ => False) w W5 := by
  obtain ⟨i0, hi0, hz0, hz1, hz2⟩ := info_parts Tryz.infoPd
  have h3' := h3
  obtain ⟨V1, V2, hs1, hs2, src1, src2⟩ : ∃ V1 V2,
      (∀ W, (Instr.slice 30 (.slice A ns.length c) none (some (.int .i64 i)) none).run Tryz.prog W = .ok V1 W) ∧
      (∀ W, (Instr.slice 30 (.slice A ns.length c) (some (.int .i64 (i : Int))) none none).run Tryz.prog W = .ok V2 W) ∧
      (∀ W, Fr (fun _ => False) w W → Src Tryz.prog 1 30 V1 i ((ns.take i).map encPr) W) ∧ (∀ W, Fr (fun _ => False) w W → Src Tryz.prog 1 30 V2 (ns.length - i) ((ns.drop i).map encPr) W) := by
    by_cases h0 : ns = []
    · obtain ⟨rfl, rfl⟩ := hnil h0
      subst h0
      obtain rfl : i = 0 := by simpa using hi
      exact ⟨_, _, slice_pd_h, slice_pd_l, fun W _ => Src.ofNil W Tryz.underlying30 0, fun W _ => Src.ofNil W Tryz.underlying30 0⟩
    · have hpos : 0 < ns.length := List.length_pos_iff.2 h0
      rcases h3.2 with ⟨_, hn⟩ | ⟨g, cap, cur, hv, hbg, hg, hnc, hcm, hcs, htake⟩
      · omega
      injection hv with q1 q2 q3
      subst q1
      subst q3
      obtain ⟨hs1, g1, o1, hs2, hg1⟩ := slice_pd g 0 ns.length c hnc (by omega) i hi
      have hgl : g < w.heap.size := blk_lt hg
      have hcell : ∀ (W : World), Fr (fun _ => False) w W → ∀ j u, (ns.map encPr)[j]? = some u → W.cell? ⟨g, 0 + j, none⟩ = some u := fun W hf j u hu => by
        rw [hf.cell (p := ⟨g, 0 + j, none⟩) hgl (fun e => e)]
        have := h3'.cells (g := g) rfl j u hu
        rwa [add_anyW] at this
      have hsp : ns.map encPr = (ns.take i).map encPr ++ (ns.drop i).map encPr := by rw [← List.map_append, List.take_append_drop]
      have l1 : ((ns.take i).map encPr).length = i * 1 := by rw [List.length_map, List.length_take]; omega
      have l3 : ((ns.drop i).map encPr).length = (ns.length - i) * 1 := by rw [List.length_map, List.length_drop]; omega
      refine ⟨_, _, hs1, hs2, fun W hf => Src.ofSlice W Tryz.underlying30 ⟨g, 0, none⟩ i c _ l1 (fun j u hu => by
        rw [add_anyW]
        refine hcell W hf j u ?_
        rw [hsp, List.getElem?_append_left (by have := (List.getElem?_eq_some_iff.1 hu).1; omega)]
        exact hu) (encPr_one _), fun W hf => Src.ofSlice W Tryz.underlying30 ⟨g1, o1, none⟩ _ _ _ l3 (fun j u hu => by
        have hj := (List.getElem?_eq_some_iff.1 hu).1
        obtain ⟨rfl, rfl⟩ := hg1 (by omega)
        rw [add_anyW]
        have := hcell W hf (i + j) u (by rw [hsp, List.getElem?_append_right (by omega), l1, Nat.mul_one, Nat.add_sub_cancel_left]; exact hu)
        rwa [← Nat.add_assoc] at this) (encPr_one _)⟩
  have hown0 : w.ownsRow w.heap.size 40 1 (.slice none 0 0) 0 [] := World.ownsRow_nil _ _ _ _
  obtain ⟨v3, W3, hr3, r1, r2, r3⟩ := run_app_any (P := Tryz.prog) w w.heap.size 30 30 30 40 i0 _ 1 8 Tryz.underlying30 hi0 hz0 hz1 hz2 rfl _ 0 [] hown0 _ i _ (src1 w (Fr.refl _ w)) (by unfold maxLen; omega) (by omega) (Nat.le_refl _)
  rw [Nat.zero_add] at r1
  rw [List.nil_append] at r1
  obtain ⟨A3, c3, rfl⟩ := row_slice r1
  have f3 : Fr (fun _ => False) w W3 := r2.mono fun k _ e => by simp [Value.ownBlock] at e
  obtain ⟨v4, W4, hr4, s1, s2, s3⟩ := run_one_t (P := Tryz.prog) (W := W3) w.heap.size 30 30 40 i0 _ 1 8 Tryz.underlying30 hi0 hz0 hz1 hz2 rfl (by decide) _ i _ r1 #[.pointer (some ⟨s, 0, none⟩)] rfl (by intro u hu; simp at hu; subst hu; rfl) (by omega) (by decide) f3.size
  obtain ⟨A4, c4, rfl⟩ := row_slice s1
  have f4 : Fr (fun _ => False) w W4 := f3.trans3 s2 fun k hk e => by have := (r1.lt k e).1; omega
  obtain ⟨v5, W5, hr5, t1, t2, t3⟩ := run_app_any (P := Tryz.prog) W4 w.heap.size 30 30 30 40 i0 _ 1 8 Tryz.underlying30 hi0 hz0 hz1 hz2 rfl _ (i + 1) _ s1 _ (ns.length - i) _ (src2 W4 f4) (by unfold maxLen; omega) (by omega) f4.size
  have e5 : i + 1 + (ns.length - i) = ns.length + 1 := by omega
  rw [e5] at t1
  obtain ⟨A5, c5, rfl⟩ := row_slice t1
  refine ⟨V1, V2, A3, c3, A4, c4, A5, c5, W3, W4, W5, hs1, hs2, hr3, hr4, hr5, ?_, f3, f4, f4.trans3 t2 fun k hk e => by have := (s1.lt k e).1; omega⟩
  have hlen : (ns.take i ++ s :: ns.drop i).length = ns.length + 1 := by rw [List.length_append, List.length_cons, List.length_take, List.length_drop]; omega
  unfold OwnPd
  rw [hlen, List.map_append, List.map_cons]
  have : (ns.take i).map encPr ++ encPr s :: (ns.drop i).map encPr = (ns.take i).map encPr ++ #[Value.pointer (some ⟨s, 0, none⟩)].toList ++ (ns.drop i).map encPr := by simp [encPr]
  rw [this]
  exact t1
end Go.Proofs.YtlkeomcillencaaGreat
end
section
/- Layer 20: the document's Get. -/
namespace Go.Proofs.YtlkeomcillencaaGreat
open Go Go.RowKit Go.Maps Go.Sort Go.Shelf Go.Lib

def getD (E : List RdE) (k : List UInt8) : Option RdE := E.find? fun e => decide (keyD e = k)
def ptD (o : Option RdE) : Option Addr := o.map fun e => ⟨e.B, 0, none⟩
theorem sameF_fold (a b : List UInt8) : sameF a b = decide (foldL a = foldL b) := by
  unfold sameF
  first | rfl | (rw [Bool.eq_iff_iff]; simp) | (simp)
/-- sizes of the document's rooms -/
structure RdLg (n : Nat) (E : List RdE) : Prop where
  elen : E.length ≤ n
  llen : ∀ e ∈ E, e.x.L.length ≤ n
  gs : ∀ e ∈ E, e.x.gs = []
  nms : ∀ e ∈ E, e.x.nm.length ≤ 1000
/-- what lies where, of the i-th room -/
theorem rd_facts {base : Nat} {w : World} {R : Nat} {v : Value} {C : Nat → Tag} {mr mj mb : Int} {E : List RdE} (h : RdPh base w R v C mr mj mb E) {A : Option Addr} {c : Nat} (hv : v = .slice A E.length c) {i : Nat} (hi : i < E.length) :
    ∃ g, A = some ⟨g, 0, none⟩ ∧ ∀ W, Fr (fun _ => False) w W → W.cell? ⟨R, 3, none⟩ = some (.slice (some ⟨g, 0, none⟩) E.length c) ∧ W.cell? ⟨g, i, none⟩ = some (.pointer (some ⟨E[i].B, 0, none⟩)) ∧ W.heap[E[i].B]? = some (rxO E[i].x E[i].q) := by
  have hr := h.row
  subst hv
  obtain ⟨g, rfl, hg, hc⟩ := reads_ownPd hr (by rw [List.length_map]; omega)
  refine ⟨g, rfl, fun W hW => ⟨blk_cell (hW.blk h.self fun e => e) 3, ?_, hW.blk (h.each _ (List.getElem_mem hi)).1 fun e => e⟩⟩
  have h1 := hc i (by rw [List.length_map]; exact hi)
  rw [List.getElem_map, Nat.zero_add] at h1
  exact (hW.cell (p := ⟨g, i, none⟩) hg fun e => e).trans h1
set_option maxRecDepth 100000 in
set_option maxHeartbeats 8000000 in
theorem refGet_any {base : Nat} {w : World} {R : Nat} {v : Value} {C : Nat → Tag} {mr mj mb : Int} {E : List RdE} (h : RdPh base w R v C mr mj mb E) {n : Nat} (hl : RdLg n E) (hn : n ≤ 1000) (nm : List UInt8) (hnm : nm.length ≤ 1000) :
    Calls Tryz.prog 19 #[.pointer (some ⟨R, 0, none⟩), .string (bs nm)] w fun e w' => e = .returned (.pointer (ptD (getD E (foldL nm)))) ∧ RowKit.Below w.heap.size w w' := by
  obtain ⟨A, c, hv⟩ : ∃ A c, v = .slice A E.length c := by
    obtain ⟨A, c, hv⟩ := row_slice h.row
    rw [List.length_map] at hv
    exact ⟨A, c, hv⟩
  obtain ⟨P, hP⟩ : ∃ P, ptD (getD E (foldL nm)) = P := ⟨_, rfl⟩
  rw [hP]
  have hlen : E.length ≤ 1000 := Nat.le_trans hl.elen hn
  have HS := Lib.hid (fun W (hW : Fr (fun _ => False) w W) => (show W.cell? ⟨R, 3, none⟩ = some (.slice A E.length c) from by rw [← hv]; exact blk_cell (hW.blk h.self fun e => e) 3))
  have H := Lib.hid (And.intro h (And.intro hl (And.intro hv (And.intro hP hnm))))
  clear h hl hv hP hnm
  go_enter Tryz.func19, Tryz.ntmps19
  go_wp2_with fail
  go_loopw [5] (fun t wr => ∃ i : Nat, t = .int .i64 i ∧ i ≤ E.length ∧ Hid (Fr (fun _ => False) w wr ∧ ∀ j (hj : j < E.length), j < i → keyD E[j] ≠ foldL nm)) (fun t _ => E.length - (RowKit.intOf t).toNat)
  case atStart => exact ⟨0, rfl, Nat.zero_le _, Fr.refl _ _, fun j _ hj => by omega⟩
  case round =>
    obtain ⟨i, rfl, hi, HB⟩ := hrel
    have s0 := HS.out wr HB.out.1
    by_cases hlt : i < E.length
    · obtain ⟨h, hl, hv, hP, hnm⟩ := H.out
      obtain ⟨g, rfl, hf⟩ := rd_facts h hv hlt
      obtain ⟨e, he⟩ : ∃ e, E[i] = e := ⟨_, rfl⟩
      rw [he] at hf
      have heE : e ∈ E := by rw [← he]; exact List.getElem_mem _
      have hnl := hl.nms e heE
      obtain ⟨q1, q2, q3⟩ := hf wr HB.out.1
      have q4 := blk_cell q3 0
      obtain ⟨nx, hnx⟩ : ∃ nx, e.x.nm = nx := ⟨_, rfl⟩
      have q5 : wr.cell? ⟨e.B, 0, none⟩ = some (.string (bs nx)) := by rw [← hnx]; exact q4
      have HSm := Lib.hid (refsame (bs nx) (bs nm) wr (by rw [← hnx]; simp; omega) (by simp; omega))
      rw [bs_toList, bs_toList, sameF_fold] at HSm
      obtain ⟨d, hd⟩ : ∃ d, decide (foldL nx = foldL nm) = d := ⟨_, rfl⟩
      rw [hd] at HSm
      have HF := Lib.hid hf
      have HD := Lib.hid (And.intro hd (And.intro hnx (And.intro he heE)))
      have n1 : (i : Int) < (E.length : Int) := by omega
      have n2 : decide ((i : Int) < (E.length : Int)) = true := by simp; omega
      clear h hl hv hP hnm hf he heE hnl q3 q4 hnx hd
      go_wp2_with fail
      refine HSm.out.mono ?_
      rintro e2 w2 ⟨rfl, b2⟩
      have f2 : Fr (fun _ => False) w w2 := HB.out.1.trans (Fr.of_below b2)
      obtain ⟨r1, r2, _⟩ := HF.out w2 f2
      have HF2 := Lib.hid f2
      clear b2 f2 HSm q1 q2 q5 s0
      cases d with
      | true =>
        go_wp2_with fail
        go_ret
        obtain ⟨h, hl, hv, hP, hnm⟩ := H.out
        obtain ⟨hd, hnx, he, heE⟩ := HD.out
        refine ⟨?_, HF2.out.below (Nat.le_refl _) fun _ _ e => e.elim⟩
        have hg : getD E (foldL nm) = some e := by
          unfold getD
          rw [List.find?_eq_some_iff_append]
          refine ⟨by rw [decide_eq_true_eq]; unfold keyD; rw [hnx]; exact of_decide_eq_true hd, E.take i, E.drop (i + 1), ?_, fun a ha => ?_⟩
          · rw [← he, ← List.drop_eq_getElem_cons hlt, List.take_append_drop]
          · obtain ⟨j, hj, rfl⟩ := List.getElem_of_mem ha
            rw [List.length_take] at hj
            rw [List.getElem_take]
            simpa using HB.out.2 j (by omega) (by omega)
        rw [← hP, hg]; rfl
      | false =>
        have hN : Hid (∀ j (hj : j < E.length), j < i + 1 → keyD E[j] ≠ foldL nm) := Lib.hid fun j hj hj2 => by
          obtain ⟨hd, hnx, he, heE⟩ := HD.out
          by_cases e9 : j = i
          · subst e9; rw [he]; unfold keyD; rw [hnx]; exact of_decide_eq_false hd
          · exact HB.out.2 j hj (by omega)
        go_wp2_with fail
        go_roundw
        case rel => exact ⟨i + 1, by go_num, by omega, HF2.out, hN.out⟩
        case measure => simp [RowKit.intOf]; omega
    · have n1 : ¬ (i : Int) < (E.length : Int) := by omega
      have n2 : decide ((i : Int) < (E.length : Int)) = false := by simp; omega
      go_wp2_with fail
      go_ret
      obtain ⟨h, hl, hv, hP, hnm⟩ := H.out
      refine ⟨?_, HB.out.1.below (Nat.le_refl _) fun _ _ e => e.elim⟩
      have hg : getD E (foldL nm) = none := by
        unfold getD
        rw [List.find?_eq_none]
        intro a ha
        obtain ⟨j, hj, rfl⟩ := List.getElem_of_mem ha
        simpa using HB.out.2 j hj (by omega)
      rw [← hP, hg]; rfl
end Go.Proofs.YtlkeomcillencaaGreat
end
