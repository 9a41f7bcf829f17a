/- Texts of this proof, one behind the other. -/
import Derived.Test.YtkbgpajconhgjaaGreatDoorPersonLinesG9
import Derived.Test.YtkbgpajconhgjaaGreatDoorPersonLinesG10
set_option linter.unusedVariables false
set_option linter.unusedSimpArgs false
section
/- Layer 22: Numeric of words that are written down; WhoLine, both sides. -/
namespace Go.Proofs.YtkbgpajconhgjaaGreatDoor
open Go Go.RowKit

theorem reads_new (w : World) (xs : List (List UInt8)) (cs : Array Value) (h : (xs.map encT).toArray = cs) (hl : xs.length ≤ 1000) : ReadsT (w.alloc (.cells cs 9)) (some ⟨w.heap.size, 0, none⟩) xs := by
  subst h; exact reads_lit (heap_alloc_new w _) hl
theorem num_m {n k : Nat} (server whom : List UInt8) (ps : List (List UInt8)) (w : World) (cs : Array Value) (h : (ps.map encT).toArray = cs) (hk : ps.length = k) (h0 : 1 ≤ n) (h1 : n ≤ 999) (h2 : k ≤ 14) (h3 : server.length ≤ 1000) (h4 : whom.length ≤ 1000) (h5 : ∀ p ∈ ps, p.length ≤ 1000) (hm : Mx w) (hp : PowW w) :
    Calls Tryz.prog 16 #[.string (bs server), .int .i64 (n : Nat), .string (bs whom), .slice (some ⟨w.heap.size, 0, none⟩) k k] (w.alloc (.cells cs 9)) fun e w' => e = .returned (.string (bs (numL server whom n ps))) ∧ Below w.heap.size w w' := by
  subst hk
  have hB : Below w.heap.size w (w.alloc (.cells cs 9)) := (Below.refl _ w).alloc (Nat.le_refl _) _
  have hf : Fr (fun _ => False) w (w.alloc (.cells cs 9)) := (Fr.refl _ w).alloc _
  refine (numericM server whom n _ ps.length ps _ (reads_new w ps cs h (by omega)) (hm.fr hf) (hp.fr hf) h0 h1 h2 (by omega) (by omega) (fun p hp => by have := h5 p hp; omega)).mono ?_
  rintro e w' ⟨rfl, hb⟩
  exact ⟨rfl, hB.trans (hb.mono hB.size)⟩
theorem num_r {n k : Nat} (server whom : List UInt8) (ps : List (List UInt8)) (w : World) (cs : Array Value) (h : (ps.map encT).toArray = cs) (hk : ps.length = k) (h0 : 1 ≤ n) (h1 : n ≤ 999) (h2 : k ≤ 14) (h3 : server.length ≤ 1000) (h4 : whom.length ≤ 1000) (h5 : ∀ p ∈ ps, p.length ≤ 1000) :
    Calls Tryz.prog 17 #[.string (bs server), .int .i64 (n : Nat), .string (bs whom), .slice (some ⟨w.heap.size, 0, none⟩) k k] (w.alloc (.cells cs 9)) fun e w' => e = .returned (.string (bs (numL server whom n ps))) ∧ Below w.heap.size w w' := by
  subst hk
  have hB : Below w.heap.size w (w.alloc (.cells cs 9)) := (Below.refl _ w).alloc (Nat.le_refl _) _
  refine (numeric_r server whom n _ ps.length ps _ (reads_new w ps cs h (by omega)) h0 h1 h2 (by omega) (by omega) (fun p hp => by have := h5 p hp; omega)).mono ?_
  rintro e w' ⟨rfl, hb⟩
  exact ⟨rfl, hB.trans (hb.mono hB.size)⟩
theorem bs_of22 (x : ByteArray) : bs x.data.toList = x := ba_ext (by simp)
/-- the flags of WHO -/
def flagsL (away oper : Bool) (mk : ByteArray) : List UInt8 := ((if oper then ((if away then (⟨#[71]⟩ : ByteArray) else ⟨#[72]⟩) ++ ⟨#[42]⟩) else (if away then (⟨#[71]⟩ : ByteArray) else ⟨#[72]⟩)) ++ mk).data.toList
theorem flags_len (a o : Bool) {mk : ByteArray} (h : mk.size ≤ 10) : (flagsL a o mk).length ≤ 12 := by
  have h2 : mk.data.toList.length = mk.size := by simp
  unfold flagsL
  cases a <;> cases o <;> simp <;> omega
theorem marks_len (op vo many : Bool) : (marksB op vo many).size ≤ 10 := by cases op <;> cases vo <;> cases many <;> decide
/-- the cells of somebody in a box -/
theorem per_cells {W : World} {N : Nat} {id si sp : Int} {n u h r y : List UInt8} {o d : Bool} (k : W.heap[N]? = some (.cells #[.int .i64 id, .string (bs n), .string (bs u), .string (bs h), .string (bs r), .string (bs y), .bool o, .bool d, .int .i64 si, .int .i64 sp] 23 (0, 0))) :
    W.cell? ⟨N, 1, none⟩ = some (.string (bs n)) ∧ W.cell? ⟨N, 2, none⟩ = some (.string (bs u)) ∧ W.cell? ⟨N, 3, none⟩ = some (.string (bs h)) ∧ W.cell? ⟨N, 4, none⟩ = some (.string (bs r)) ∧ W.cell? ⟨N, 5, none⟩ = some (.string (bs y)) ∧ W.cell? ⟨N, 6, none⟩ = some (.bool o) :=
  ⟨blk_cell k 1, blk_cell k 2, blk_cell k 3, blk_cell k 4, blk_cell k 5, blk_cell k 6⟩
set_option maxRecDepth 100000 in
set_option maxHeartbeats 16000000 in
theorem who_m (server whom ch n u h r y : List UInt8) (id si sp : Int) (o d : Bool) (mi : Int) (op vo many : Bool) (w : World) (hsv : server.length ≤ 200) (hwh : whom.length ≤ 1000) (hch : ch.length ≤ 200) (hn : n.length ≤ 200) (hu : u.length ≤ 200) (hh : h.length ≤ 200) (hr : r.length ≤ 200) (hm : Mx w) (hp : PowW w) :
    Calls Tryz.prog 6 #[.string (bs server), .string (bs whom), .string (bs ch), per id (bs n) (bs u) (bs h) (bs r) (bs y) o d si sp, memb mi op vo, .bool many] w fun e w' => e = .returned (.string (bs (numL server whom 352 [ch, u, h, server, n, flagsL (decide (y ≠ [])) o (marksB op vo many), 48 :: 32 :: r]))) ∧ Below w.heap.size w w' := by
  have HMk := Lib.hid (fun W => marks_any mi op vo many W)
  obtain ⟨mk, hmk⟩ : ∃ mk, marksB op vo many = mk := ⟨_, rfl⟩
  have hml := marks_len op vo many
  rw [hmk] at HMk hml ⊢
  have hfl := flags_len (decide (y ≠ [])) o hml
  have hFB : bs (flagsL (decide (y ≠ [])) o mk) = (if o then ((if decide (y ≠ []) then (⟨#[71]⟩ : ByteArray) else ⟨#[72]⟩) ++ ⟨#[42]⟩) else (if decide (y ≠ []) then (⟨#[71]⟩ : ByteArray) else ⟨#[72]⟩)) ++ mk := bs_of22 _
  obtain ⟨F, hF⟩ : ∃ F, flagsL (decide (y ≠ [])) o mk = F := ⟨_, rfl⟩
  rw [hF] at hfl hFB ⊢
  have hall : ∀ p ∈ [ch, u, h, server, n, F, 48 :: 32 :: r], p.length ≤ 1000 := by
    intro p hp
    simp only [List.mem_cons, List.not_mem_nil, or_false] at hp
    rcases hp with rfl | rfl | rfl | rfl | rfl | rfl | rfl <;> first | omega | (simp only [List.length_cons]; omega)
  have hsv : server.length ≤ 1000 := by omega
  have hz : ({ data := #[48, 32] } : ByteArray) ++ bs r = bs (48 :: 32 :: r) := ba_ext (by simp)
  have HALL := Lib.hid hall
  unfold per memb at *
  obtain ⟨N, hN⟩ : ∃ N, w.heap.size = N := ⟨_, rfl⟩
  obtain ⟨W0, hW0⟩ : ∃ W, (w.alloc (.cells #[.int .i64 id, .string (bs n), .string (bs u), .string (bs h), .string (bs r), .string (bs y), .bool o, .bool d, .int .i64 si, .int .i64 sp] 23)).alloc (.cells #[.int .i64 mi, .bool op, .bool vo] 25) = W := ⟨_, rfl⟩
  have k1 : W0.heap[N]? = some (.cells #[.int .i64 id, .string (bs n), .string (bs u), .string (bs h), .string (bs r), .string (bs y), .bool o, .bool d, .int .i64 si, .int .i64 sp] 23 (0, 0)) := by rw [← hW0, ← hN]; exact blk_alloc (heap_alloc_new w _) _
  have k2 : W0.heap[N + 1]? = some (.cells #[.int .i64 mi, .bool op, .bool vo] 25 (0, 0)) := by
    rw [← hW0, ← hN]
    have h9 := heap_alloc_new (w.alloc (.cells #[.int .i64 id, .string (bs n), .string (bs u), .string (bs h), .string (bs r), .string (bs y), .bool o, .bool d, .int .i64 si, .int .i64 sp] 23)) (.cells #[.int .i64 mi, .bool op, .bool vo] 25)
    rw [World.size_alloc] at h9
    exact h9
  have f0 : Fr (fun _ => False) w W0 := by rw [← hW0]; exact ((Fr.refl _ w).alloc _).alloc _
  have HF0 := Lib.hid f0
  have HP : Hid (∀ W, Fr (fun _ => False) W0 W → W.cell? ⟨N, 1, none⟩ = some (.string (bs n)) ∧ W.cell? ⟨N, 2, none⟩ = some (.string (bs u)) ∧ W.cell? ⟨N, 3, none⟩ = some (.string (bs h)) ∧ W.cell? ⟨N, 4, none⟩ = some (.string (bs r)) ∧ W.cell? ⟨N + 1, 0, none⟩ = some (.int .i64 mi) ∧ W.cell? ⟨N + 1, 1, none⟩ = some (.bool op) ∧ W.cell? ⟨N + 1, 2, none⟩ = some (.bool vo)) := Lib.hid fun W hf => by
    have h1 := per_cells (hf.blk k1 fun e => e)
    have h2 := hf.blk k2 fun e => e
    exact ⟨h1.1, h1.2.1, h1.2.2.1, h1.2.2.2.1, blk_cell h2 0, blk_cell h2 1, blk_cell h2 2⟩
  obtain ⟨c1, c2, c3, c4, c5, c6⟩ := per_cells k1
  obtain ⟨_, _, _, _, d0, d1, d2⟩ := HP.out W0 (Fr.refl _ _)
  have HMX : Hid (∀ W, Fr (fun _ => False) W0 W → Mx W ∧ PowW W) := Lib.hid fun W hf => ⟨(hm.fr f0).fr hf, (hp.fr f0).fr hf⟩
  clear hmk hF hfl hall f0 k1 k2 hn hu hh hch hm hp
  cases y with
  | nil =>
    have e0 : bs ([] : List UInt8) = ({ data := #[] } : ByteArray) := rfl
    rw [e0] at c5
    try rw [e0] at hW0
    try rw [e0]
    clear e0
    cases o
    · have HE : Hid (bs F = (⟨#[72]⟩ : ByteArray) ++ mk ∧ bs (48 :: 32 :: r) = ({ data := #[48, 32] } : ByteArray) ++ bs r) := Lib.hid ⟨hFB, hz.symm⟩
      clear hFB hz
      go_enter Tryz.func6, Tryz.ntmps6
      go_wp2_with fail
      try rw [hW0]
      refine (HMk.out _).mono ?_
      rintro e w1 ⟨rfl, hb1⟩
      have F1 : Hid (Fr (fun _ => False) W0 w1) := Lib.hid (Fr.of_below hb1)
      obtain ⟨e1, e2, e3, e4, e5, e6, e7⟩ := HP.out w1 F1.out
      clear hb1 c1 c2 c3 c4 c5 c6 d0 d1 d2
      go_wp2_with fail
      refine (num_m (n := 352) (k := 7) server whom [ch, u, h, server, n, F, 48 :: 32 :: r] w1 _ (by simp only [List.map_cons, List.map_nil, encT, HE.out.1, HE.out.2]) rfl (by decide) (by decide) (by decide) hsv hwh HALL.out (HMX.out w1 F1.out).1 (HMX.out w1 F1.out).2).mono ?_
      rintro e w2 ⟨rfl, hb2⟩
      have HB2 := Lib.hid hb2
      clear hb2
      go_wp2_with fail
      go_ret
      exact ⟨rfl, ((HF0.out.trans F1.out).trans (Fr.of_below HB2.out)).below (Nat.le_refl _) fun _ _ e => e.elim⟩
    · have HE : Hid (bs F = ((⟨#[72]⟩ : ByteArray) ++ ⟨#[42]⟩) ++ mk ∧ bs (48 :: 32 :: r) = ({ data := #[48, 32] } : ByteArray) ++ bs r) := Lib.hid ⟨hFB, hz.symm⟩
      clear hFB hz
      go_enter Tryz.func6, Tryz.ntmps6
      go_wp2_with fail
      try rw [hW0]
      refine (HMk.out _).mono ?_
      rintro e w1 ⟨rfl, hb1⟩
      have F1 : Hid (Fr (fun _ => False) W0 w1) := Lib.hid (Fr.of_below hb1)
      obtain ⟨e1, e2, e3, e4, e5, e6, e7⟩ := HP.out w1 F1.out
      clear hb1 c1 c2 c3 c4 c5 c6 d0 d1 d2
      go_wp2_with fail
      refine (num_m (n := 352) (k := 7) server whom [ch, u, h, server, n, F, 48 :: 32 :: r] w1 _ (by simp only [List.map_cons, List.map_nil, encT, HE.out.1, HE.out.2]) rfl (by decide) (by decide) (by decide) hsv hwh HALL.out (HMX.out w1 F1.out).1 (HMX.out w1 F1.out).2).mono ?_
      rintro e w2 ⟨rfl, hb2⟩
      have HB2 := Lib.hid hb2
      clear hb2
      go_wp2_with fail
      go_ret
      exact ⟨rfl, ((HF0.out.trans F1.out).trans (Fr.of_below HB2.out)).below (Nat.le_refl _) fun _ _ e => e.elim⟩
  | cons y0 yr =>
    have hemp := str_ne (s := bs (y0 :: yr)) (by simp)
    cases o
    · have HE : Hid (bs F = (⟨#[71]⟩ : ByteArray) ++ mk ∧ bs (48 :: 32 :: r) = ({ data := #[48, 32] } : ByteArray) ++ bs r) := Lib.hid ⟨hFB, hz.symm⟩
      clear hFB hz
      go_enter Tryz.func6, Tryz.ntmps6
      go_wp2_with fail
      try rw [hW0]
      refine (HMk.out _).mono ?_
      rintro e w1 ⟨rfl, hb1⟩
      have F1 : Hid (Fr (fun _ => False) W0 w1) := Lib.hid (Fr.of_below hb1)
      obtain ⟨e1, e2, e3, e4, e5, e6, e7⟩ := HP.out w1 F1.out
      clear hb1 c1 c2 c3 c4 c5 c6 d0 d1 d2
      go_wp2_with fail
      refine (num_m (n := 352) (k := 7) server whom [ch, u, h, server, n, F, 48 :: 32 :: r] w1 _ (by simp only [List.map_cons, List.map_nil, encT, HE.out.1, HE.out.2]) rfl (by decide) (by decide) (by decide) hsv hwh HALL.out (HMX.out w1 F1.out).1 (HMX.out w1 F1.out).2).mono ?_
      rintro e w2 ⟨rfl, hb2⟩
      have HB2 := Lib.hid hb2
      clear hb2
      go_wp2_with fail
      go_ret
      exact ⟨rfl, ((HF0.out.trans F1.out).trans (Fr.of_below HB2.out)).below (Nat.le_refl _) fun _ _ e => e.elim⟩
    · have HE : Hid (bs F = ((⟨#[71]⟩ : ByteArray) ++ ⟨#[42]⟩) ++ mk ∧ bs (48 :: 32 :: r) = ({ data := #[48, 32] } : ByteArray) ++ bs r) := Lib.hid ⟨hFB, hz.symm⟩
      clear hFB hz
      go_enter Tryz.func6, Tryz.ntmps6
      go_wp2_with fail
      try rw [hW0]
      refine (HMk.out _).mono ?_
      rintro e w1 ⟨rfl, hb1⟩
      have F1 : Hid (Fr (fun _ => False) W0 w1) := Lib.hid (Fr.of_below hb1)
      obtain ⟨e1, e2, e3, e4, e5, e6, e7⟩ := HP.out w1 F1.out
      clear hb1 c1 c2 c3 c4 c5 c6 d0 d1 d2
      go_wp2_with fail
      refine (num_m (n := 352) (k := 7) server whom [ch, u, h, server, n, F, 48 :: 32 :: r] w1 _ (by simp only [List.map_cons, List.map_nil, encT, HE.out.1, HE.out.2]) rfl (by decide) (by decide) (by decide) hsv hwh HALL.out (HMX.out w1 F1.out).1 (HMX.out w1 F1.out).2).mono ?_
      rintro e w2 ⟨rfl, hb2⟩
      have HB2 := Lib.hid hb2
      clear hb2
      go_wp2_with fail
      go_ret
      exact ⟨rfl, ((HF0.out.trans F1.out).trans (Fr.of_below HB2.out)).below (Nat.le_refl _) fun _ _ e => e.elim⟩
set_option maxRecDepth 100000 in
set_option maxHeartbeats 16000000 in
theorem who_r (server whom ch n u h r y : List UInt8) (id si sp : Int) (o d : Bool) (mi : Int) (op vo many : Bool) (w : World) (hsv : server.length ≤ 200) (hwh : whom.length ≤ 1000) (hch : ch.length ≤ 200) (hn : n.length ≤ 200) (hu : u.length ≤ 200) (hh : h.length ≤ 200) (hr : r.length ≤ 200) :
    Calls Tryz.prog 7 #[.string (bs server), .string (bs whom), .string (bs ch), per id (bs n) (bs u) (bs h) (bs r) (bs y) o d si sp, memb mi op vo, .bool many] w fun e w' => e = .returned (.string (bs (numL server whom 352 [ch, u, h, server, n, flagsL (decide (y ≠ [])) o (marksB op vo many), 48 :: 32 :: r]))) ∧ Below w.heap.size w w' := by
  have HMk := Lib.hid (fun W => rmarks_any mi op vo many W)
  obtain ⟨mk, hmk⟩ : ∃ mk, marksB op vo many = mk := ⟨_, rfl⟩
  have hml := marks_len op vo many
  rw [hmk] at HMk hml ⊢
  have hfl := flags_len (decide (y ≠ [])) o hml
  have hFB : bs (flagsL (decide (y ≠ [])) o mk) = (if o then ((if decide (y ≠ []) then (⟨#[71]⟩ : ByteArray) else ⟨#[72]⟩) ++ ⟨#[42]⟩) else (if decide (y ≠ []) then (⟨#[71]⟩ : ByteArray) else ⟨#[72]⟩)) ++ mk := bs_of22 _
  obtain ⟨F, hF⟩ : ∃ F, flagsL (decide (y ≠ [])) o mk = F := ⟨_, rfl⟩
  rw [hF] at hfl hFB ⊢
  have hall : ∀ p ∈ [ch, u, h, server, n, F, 48 :: 32 :: r], p.length ≤ 1000 := by
    intro p hp
    simp only [List.mem_cons, List.not_mem_nil, or_false] at hp
    rcases hp with rfl | rfl | rfl | rfl | rfl | rfl | rfl <;> first | omega | (simp only [List.length_cons]; omega)
  have hsv : server.length ≤ 1000 := by omega
  have hz : ({ data := #[48, 32] } : ByteArray) ++ bs r = bs (48 :: 32 :: r) := ba_ext (by simp)
  have HALL := Lib.hid hall
  unfold per memb at *
  obtain ⟨N, hN⟩ : ∃ N, w.heap.size = N := ⟨_, rfl⟩
  obtain ⟨W0, hW0⟩ : ∃ W, (w.alloc (.cells #[.int .i64 id, .string (bs n), .string (bs u), .string (bs h), .string (bs r), .string (bs y), .bool o, .bool d, .int .i64 si, .int .i64 sp] 23)).alloc (.cells #[.int .i64 mi, .bool op, .bool vo] 25) = W := ⟨_, rfl⟩
  have k1 : W0.heap[N]? = some (.cells #[.int .i64 id, .string (bs n), .string (bs u), .string (bs h), .string (bs r), .string (bs y), .bool o, .bool d, .int .i64 si, .int .i64 sp] 23 (0, 0)) := by rw [← hW0, ← hN]; exact blk_alloc (heap_alloc_new w _) _
  have k2 : W0.heap[N + 1]? = some (.cells #[.int .i64 mi, .bool op, .bool vo] 25 (0, 0)) := by
    rw [← hW0, ← hN]
    have h9 := heap_alloc_new (w.alloc (.cells #[.int .i64 id, .string (bs n), .string (bs u), .string (bs h), .string (bs r), .string (bs y), .bool o, .bool d, .int .i64 si, .int .i64 sp] 23)) (.cells #[.int .i64 mi, .bool op, .bool vo] 25)
    rw [World.size_alloc] at h9
    exact h9
  have f0 : Fr (fun _ => False) w W0 := by rw [← hW0]; exact ((Fr.refl _ w).alloc _).alloc _
  have HF0 := Lib.hid f0
  have HP : Hid (∀ W, Fr (fun _ => False) W0 W → W.cell? ⟨N, 1, none⟩ = some (.string (bs n)) ∧ W.cell? ⟨N, 2, none⟩ = some (.string (bs u)) ∧ W.cell? ⟨N, 3, none⟩ = some (.string (bs h)) ∧ W.cell? ⟨N, 4, none⟩ = some (.string (bs r)) ∧ W.cell? ⟨N + 1, 0, none⟩ = some (.int .i64 mi) ∧ W.cell? ⟨N + 1, 1, none⟩ = some (.bool op) ∧ W.cell? ⟨N + 1, 2, none⟩ = some (.bool vo)) := Lib.hid fun W hf => by
    have h1 := per_cells (hf.blk k1 fun e => e)
    have h2 := hf.blk k2 fun e => e
    exact ⟨h1.1, h1.2.1, h1.2.2.1, h1.2.2.2.1, blk_cell h2 0, blk_cell h2 1, blk_cell h2 2⟩
  obtain ⟨c1, c2, c3, c4, c5, c6⟩ := per_cells k1
  obtain ⟨_, _, _, _, d0, d1, d2⟩ := HP.out W0 (Fr.refl _ _)
  clear hmk hF hfl hall f0 k1 k2 hn hu hh hch
  cases y with
  | nil =>
    have e0 : bs ([] : List UInt8) = ({ data := #[] } : ByteArray) := rfl
    rw [e0] at c5
    try rw [e0] at hW0
    try rw [e0]
    clear e0
    cases o
    · have HE : Hid (bs F = (⟨#[72]⟩ : ByteArray) ++ mk ∧ bs (48 :: 32 :: r) = ({ data := #[48, 32] } : ByteArray) ++ bs r) := Lib.hid ⟨hFB, hz.symm⟩
      clear hFB hz
      go_enter Tryz.func7, Tryz.ntmps7
      go_wp2_with fail
      try rw [hW0]
      have hall := HALL.out
      clear hW0 hN
      refine wp_region_held_drew (S := fun W => Fr (fun _ => False) W0 W) (by kernel_rfl) (by exact (Fr.refl _ W0).drew) (fun hHeld => ?_)
      refine wpAnyH_read (i := 0) (oi := { dst := some 21, op := Go.Op.move (Go.Operand.tmp 0), type := 9, pos := "ref.go:45", after := #[], guard := none }) ?_ rfl (by kernel_rfl) (by kernel_rfl) (by kernel_rfl) (fun _ _ _ h => h) (by rfl) (by assumption) ?_ ?_
      rotate_left
      · (intro w0 hS0; go_simp <;> (try with_reducible rfl))
      try simp only [Act.put, List.setIfInBounds_toArray, List.set_cons_zero, List.set_cons_succ]
      refine wpAnyH_read (i := 1) (oi := { dst := some 22, op := Go.Op.move (Go.Operand.tmp 1), type := 9, pos := "ref.go:45", after := #[], guard := none }) ?_ rfl (by kernel_rfl) (by kernel_rfl) (by kernel_rfl) (fun _ _ _ h => h) (by rfl) (by assumption) ?_ ?_
      rotate_left
      · (intro w0 hS0; go_simp <;> (try with_reducible rfl))
      try simp only [Act.put, List.setIfInBounds_toArray, List.set_cons_zero, List.set_cons_succ]
      refine wpAnyH_read (i := 2) (oi := { dst := some 23, op := Go.Op.move (Go.Operand.tmp 2), type := 9, pos := "ref.go:45", after := #[], guard := none }) ?_ rfl (by kernel_rfl) (by kernel_rfl) (by kernel_rfl) (fun _ _ _ h => h) (by rfl) (by assumption) ?_ ?_
      rotate_left
      · (intro w0 hS0; go_simp <;> (try with_reducible rfl))
      try simp only [Act.put, List.setIfInBounds_toArray, List.set_cons_zero, List.set_cons_succ]
      refine wpAnyH_read (i := 3) (oi := { dst := some 24, op := Go.Op.fieldAddr 23 (Go.Operand.tmp 9) 2, type := 0, pos := "ref.go:45", after := #[], guard := none }) ?_ rfl (by kernel_rfl) (by kernel_rfl) (by kernel_rfl) (fun _ _ _ h => h) (by rfl) (by assumption) ?_ ?_
      rotate_left
      · (intro w0 hS0; go_simp <;> (try with_reducible rfl))
      try simp only [Act.put, List.setIfInBounds_toArray, List.set_cons_zero, List.set_cons_succ]
      refine wpAnyH_read (i := 5) (oi := { dst := some 26, op := Go.Op.fieldAddr 23 (Go.Operand.tmp 9) 3, type := 0, pos := "ref.go:45", after := #[], guard := none }) ?_ rfl (by kernel_rfl) (by kernel_rfl) (by kernel_rfl) (fun _ _ _ h => h) (by rfl) (by assumption) ?_ ?_
      rotate_left
      · (intro w0 hS0; go_simp <;> (try with_reducible rfl))
      try simp only [Act.put, List.setIfInBounds_toArray, List.set_cons_zero, List.set_cons_succ]
      refine wpAnyH_read (i := 7) (oi := { dst := some 28, op := Go.Op.move (Go.Operand.tmp 0), type := 9, pos := "ref.go:45", after := #[], guard := none }) ?_ rfl (by kernel_rfl) (by kernel_rfl) (by kernel_rfl) (fun _ _ _ h => h) (by rfl) (by assumption) ?_ ?_
      rotate_left
      · (intro w0 hS0; go_simp <;> (try with_reducible rfl))
      try simp only [Act.put, List.setIfInBounds_toArray, List.set_cons_zero, List.set_cons_succ]
      refine wpAnyH_read (i := 8) (oi := { dst := some 29, op := Go.Op.fieldAddr 23 (Go.Operand.tmp 9) 1, type := 0, pos := "ref.go:45", after := #[], guard := none }) ?_ rfl (by kernel_rfl) (by kernel_rfl) (by kernel_rfl) (fun _ _ _ h => h) (by rfl) (by assumption) ?_ ?_
      rotate_left
      · (intro w0 hS0; go_simp <;> (try with_reducible rfl))
      try simp only [Act.put, List.setIfInBounds_toArray, List.set_cons_zero, List.set_cons_succ]
      refine wpAnyH_read (i := 10) (oi := { dst := some 31, op := Go.Op.move (Go.Operand.tmp 13), type := 9, pos := "ref.go:45", after := #[], guard := none }) ?_ rfl (by kernel_rfl) (by kernel_rfl) (by kernel_rfl) (fun _ _ _ h => h) (by rfl) (by assumption) ?_ ?_
      rotate_left
      · (intro w0 hS0; go_simp <;> (try with_reducible rfl))
      try simp only [Act.put, List.setIfInBounds_toArray, List.set_cons_zero, List.set_cons_succ]
      refine wpAnyH_read (i := 12) (oi := { dst := some 33, op := Go.Op.move (Go.Operand.tmp 5), type := 4, pos := "ref.go:45", after := #[], guard := none }) ?_ rfl (by kernel_rfl) (by kernel_rfl) (by kernel_rfl) (fun _ _ _ h => h) (by rfl) (by assumption) ?_ ?_
      rotate_left
      · (intro w0 hS0; go_simp <;> (try with_reducible rfl))
      try simp only [Act.put, List.setIfInBounds_toArray, List.set_cons_zero, List.set_cons_succ]
      refine wpAnyH_read (i := 15) (oi := { dst := some 36, op := Go.Op.fieldAddr 23 (Go.Operand.tmp 9) 4, type := 0, pos := "ref.go:45", after := #[], guard := none }) ?_ rfl (by kernel_rfl) (by kernel_rfl) (by kernel_rfl) (fun _ _ _ h => h) (by rfl) (by assumption) ?_ ?_
      rotate_left
      · (intro w0 hS0; go_simp <;> (try with_reducible rfl))
      try simp only [Act.put, List.setIfInBounds_toArray, List.set_cons_zero, List.set_cons_succ]
      refine wpAnyH_read (i := 4) (oi := { dst := some 25, op := Go.Op.load 9 (Go.Operand.tmp 24), type := 9, pos := "ref.go:45", after := #[{ on := 3, ground := Go.Ground.data }], guard := none }) ?_ rfl (by kernel_rfl) (by kernel_rfl) (by kernel_rfl) (fun _ _ _ h => h) (by rfl) (by assumption) ?_ ?_
      rotate_left
      · (intro w0 hS0; obtain ⟨s1, s2, s3, s4, t0, t1, t2⟩ := HP.out w0 hS0; go_simp <;> (try with_reducible rfl))
      try simp only [Act.put, List.setIfInBounds_toArray, List.set_cons_zero, List.set_cons_succ]
      refine wpAnyH_read (i := 6) (oi := { dst := some 27, op := Go.Op.load 9 (Go.Operand.tmp 26), type := 9, pos := "ref.go:45", after := #[{ on := 5, ground := Go.Ground.data }], guard := none }) ?_ rfl (by kernel_rfl) (by kernel_rfl) (by kernel_rfl) (fun _ _ _ h => h) (by rfl) (by assumption) ?_ ?_
      rotate_left
      · (intro w0 hS0; obtain ⟨s1, s2, s3, s4, t0, t1, t2⟩ := HP.out w0 hS0; go_simp <;> (try with_reducible rfl))
      try simp only [Act.put, List.setIfInBounds_toArray, List.set_cons_zero, List.set_cons_succ]
      refine wpAnyH_read (i := 9) (oi := { dst := some 30, op := Go.Op.load 9 (Go.Operand.tmp 29), type := 9, pos := "ref.go:45", after := #[{ on := 8, ground := Go.Ground.data }], guard := none }) ?_ rfl (by kernel_rfl) (by kernel_rfl) (by kernel_rfl) (fun _ _ _ h => h) (by rfl) (by assumption) ?_ ?_
      rotate_left
      · (intro w0 hS0; obtain ⟨s1, s2, s3, s4, t0, t1, t2⟩ := HP.out w0 hS0; go_simp <;> (try with_reducible rfl))
      try simp only [Act.put, List.setIfInBounds_toArray, List.set_cons_zero, List.set_cons_succ]
      refine wpAnyH_read (i := 11) (oi := { dst := some 32, op := Go.Op.load 25 (Go.Operand.tmp 10), type := 25, pos := "ref.go:45", after := #[], guard := none }) ?_ rfl (by kernel_rfl) (by kernel_rfl) (by kernel_rfl) (fun _ _ _ h => h) (by rfl) (by assumption) ?_ ?_
      rotate_left
      · (intro w0 hS0; obtain ⟨s1, s2, s3, s4, t0, t1, t2⟩ := HP.out w0 hS0; go_simp <;> (try with_reducible rfl))
      try simp only [Act.put, List.setIfInBounds_toArray, List.set_cons_zero, List.set_cons_succ]
      refine wpAnyH_read (i := 16) (oi := { dst := some 37, op := Go.Op.load 9 (Go.Operand.tmp 36), type := 9, pos := "ref.go:45", after := #[{ on := 15, ground := Go.Ground.data }], guard := none }) ?_ rfl (by kernel_rfl) (by kernel_rfl) (by kernel_rfl) (fun _ _ _ h => h) (by rfl) (by assumption) ?_ ?_
      rotate_left
      · (intro w0 hS0; obtain ⟨s1, s2, s3, s4, t0, t1, t2⟩ := HP.out w0 hS0; go_simp <;> (try with_reducible rfl))
      try simp only [Act.put, List.setIfInBounds_toArray, List.set_cons_zero, List.set_cons_succ]
      refine wpAnyH_read (i := 17) (oi := { dst := some 38, op := Go.Op.binOp Go.BinOp.add 9 (Go.Operand.const (Go.Value.string { data := #[48, 32] })) (Go.Operand.tmp 37) 9, type := 9, pos := "ref.go:45", after := #[{ on := 16, ground := Go.Ground.data }], guard := none }) ?_ rfl (by kernel_rfl) (by kernel_rfl) (by kernel_rfl) (fun _ _ _ h => h) (by rfl) (by assumption) ?_ ?_
      rotate_left
      · (intro w0 hS0; go_simp; first | done | (rw [if_neg (by omega)]; try with_reducible rfl))
      try simp only [Act.put, List.setIfInBounds_toArray, List.set_cons_zero, List.set_cons_succ]
      refine wpAnyH_one (i := 13) (o := { dst := some 34, op := Go.Op.call { callee := Go.Callee.value (Go.Operand.func 18), args := #[Go.Operand.tmp 32, Go.Operand.tmp 33], argTypes := #[25, 4] }, type := 9, pos := "ref.go:45", after := #[{ on := 11, ground := Go.Ground.data }, { on := 12, ground := Go.Ground.data }], guard := none }) (by kernel_rfl) rfl (by rfl) (fun K hK => ?_)
      go_simp
      refine ((HMk.out _)).mono ?_
      rintro e9 V1 ⟨rfl, hb1⟩
      have F1 : Fr (fun _ => False) W0 V1 := ((Fr.refl _ W0).drew).trans (Fr.of_below hb1)
      clear hb1
      refine hK.out _ _ ?_ (fun hHeld => ?_)
      · exact F1
      clear hK K
      try simp only [Act.put, List.setIfInBounds_toArray, List.set_cons_zero, List.set_cons_succ]
      refine wpAnyH_read (i := 14) (oi := { dst := some 35, op := Go.Op.binOp Go.BinOp.add 9 (Go.Operand.tmp 31) (Go.Operand.tmp 34) 9, type := 9, pos := "ref.go:45", after := #[{ on := 10, ground := Go.Ground.data }, { on := 13, ground := Go.Ground.data }], guard := none }) ?_ rfl (by kernel_rfl) (by kernel_rfl) (by kernel_rfl) (fun _ _ _ h => h) (by rfl) (by assumption) ?_ ?_
      rotate_left
      · (intro w0 hS0; go_simp; first | done | (rw [if_neg (by omega)]; try with_reducible rfl))
      try simp only [Act.put, List.setIfInBounds_toArray, List.set_cons_zero, List.set_cons_succ]
      refine wpAnyH_one (i := 18) (o := { dst := some 39, op := Go.Op.buildSlice 26 7 #[(0, Go.Operand.tmp 23), (1, Go.Operand.tmp 25), (2, Go.Operand.tmp 27), (3, Go.Operand.tmp 28), (4, Go.Operand.tmp 30), (5, Go.Operand.tmp 35), (6, Go.Operand.tmp 38)], type := 26, pos := "ref.go:45", after := #[{ on := 2, ground := Go.Ground.data }, { on := 4, ground := Go.Ground.data }, { on := 6, ground := Go.Ground.data }, { on := 7, ground := Go.Ground.data }, { on := 9, ground := Go.Ground.data }, { on := 14, ground := Go.Ground.data }, { on := 17, ground := Go.Ground.data }], guard := none }) (by kernel_rfl) rfl (by rfl) (fun K hK => ?_)
      go_simp
      refine hK.out _ _ ?_ (fun hHeld => ?_)
      · exact F1.alloc _
      clear hK K
      try simp only [Act.put, List.setIfInBounds_toArray, List.set_cons_zero, List.set_cons_succ]
      refine wpAnyH_one (i := 19) (o := { dst := some 40, op := Go.Op.call { callee := Go.Callee.value (Go.Operand.func 17), args := #[Go.Operand.tmp 21, Go.Operand.const (Go.Value.int Go.IntKind.i64 352), Go.Operand.tmp 22, Go.Operand.tmp 39], argTypes := #[9, 3, 9, 26] }, type := 9, pos := "ref.go:45", after := #[{ on := 0, ground := Go.Ground.data }, { on := 1, ground := Go.Ground.data }, { on := 18, ground := Go.Ground.data }, { on := 13, ground := Go.Ground.chain }], guard := none }) (by kernel_rfl) rfl (by rfl) (fun K hK => ?_)
      go_simp
      have HN := num_r (n := 352) (k := 7) server whom [ch, u, h, server, n, F, 48 :: 32 :: r] V1 _ (by simp only [List.map_cons, List.map_nil, encT, HE.out.1, HE.out.2]; rfl) rfl (by decide) (by decide) (by decide) hsv hwh hall
      refine HN.mono ?_
      rintro e9 V2 ⟨rfl, hb2⟩
      have F2 : Fr (fun _ => False) W0 V2 := F1.trans (Fr.of_below hb2)
      clear hb2
      refine hK.out _ _ ?_ (fun hHeld => ?_)
      · exact F2
      clear hK K
      try simp only [Act.put, List.setIfInBounds_toArray, List.set_cons_zero, List.set_cons_succ]
      refine wpAnyH_read (i := 20) (oi := { dst := some 12, op := Go.Op.assign (Go.Operand.tmp 40), type := 9, pos := "ref.go:45", after := #[{ on := 19, ground := Go.Ground.data }, { on := 19, ground := Go.Ground.chain }, { on := 0, ground := Go.Ground.phase }, { on := 1, ground := Go.Ground.phase }, { on := 2, ground := Go.Ground.phase }, { on := 3, ground := Go.Ground.phase }, { on := 4, ground := Go.Ground.phase }, { on := 5, ground := Go.Ground.phase }, { on := 6, ground := Go.Ground.phase }, { on := 7, ground := Go.Ground.phase }, { on := 8, ground := Go.Ground.phase }, { on := 9, ground := Go.Ground.phase }, { on := 10, ground := Go.Ground.phase }, { on := 11, ground := Go.Ground.phase }, { on := 12, ground := Go.Ground.phase }, { on := 13, ground := Go.Ground.phase }, { on := 14, ground := Go.Ground.phase }, { on := 15, ground := Go.Ground.phase }, { on := 16, ground := Go.Ground.phase }, { on := 17, ground := Go.Ground.phase }, { on := 18, ground := Go.Ground.phase }, { on := 19, ground := Go.Ground.phase }], guard := none }) ?_ rfl (by kernel_rfl) (by kernel_rfl) (by kernel_rfl) (fun _ _ _ h => h) (by rfl) (by assumption) ?_ ?_
      rotate_left
      · (intro w0 hS0; go_simp <;> (try with_reducible rfl))
      try simp only [Act.put, List.setIfInBounds_toArray, List.set_cons_zero, List.set_cons_succ]
      refine wpAnyH_done (by kernel_rfl) ?_ _
      have HFin : Hid (Fr (fun _ => False) w V2) := Lib.hid (HF0.out.trans F2)
      clear F1 F2
      go_wp2_with fail
      go_ret
      exact ⟨rfl, HFin.out.below (Nat.le_refl _) fun _ _ e => e.elim⟩
    · have HE : Hid (bs F = ((⟨#[72]⟩ : ByteArray) ++ ⟨#[42]⟩) ++ mk ∧ bs (48 :: 32 :: r) = ({ data := #[48, 32] } : ByteArray) ++ bs r) := Lib.hid ⟨hFB, hz.symm⟩
      clear hFB hz
      go_enter Tryz.func7, Tryz.ntmps7
      go_wp2_with fail
      try rw [hW0]
      have hall := HALL.out
      clear hW0 hN
      refine wp_region_held_drew (S := fun W => Fr (fun _ => False) W0 W) (by kernel_rfl) (by exact (Fr.refl _ W0).drew) (fun hHeld => ?_)
      refine wpAnyH_read (i := 0) (oi := { dst := some 21, op := Go.Op.move (Go.Operand.tmp 0), type := 9, pos := "ref.go:45", after := #[], guard := none }) ?_ rfl (by kernel_rfl) (by kernel_rfl) (by kernel_rfl) (fun _ _ _ h => h) (by rfl) (by assumption) ?_ ?_
      rotate_left
      · (intro w0 hS0; go_simp <;> (try with_reducible rfl))
      try simp only [Act.put, List.setIfInBounds_toArray, List.set_cons_zero, List.set_cons_succ]
      refine wpAnyH_read (i := 1) (oi := { dst := some 22, op := Go.Op.move (Go.Operand.tmp 1), type := 9, pos := "ref.go:45", after := #[], guard := none }) ?_ rfl (by kernel_rfl) (by kernel_rfl) (by kernel_rfl) (fun _ _ _ h => h) (by rfl) (by assumption) ?_ ?_
      rotate_left
      · (intro w0 hS0; go_simp <;> (try with_reducible rfl))
      try simp only [Act.put, List.setIfInBounds_toArray, List.set_cons_zero, List.set_cons_succ]
      refine wpAnyH_read (i := 2) (oi := { dst := some 23, op := Go.Op.move (Go.Operand.tmp 2), type := 9, pos := "ref.go:45", after := #[], guard := none }) ?_ rfl (by kernel_rfl) (by kernel_rfl) (by kernel_rfl) (fun _ _ _ h => h) (by rfl) (by assumption) ?_ ?_
      rotate_left
      · (intro w0 hS0; go_simp <;> (try with_reducible rfl))
      try simp only [Act.put, List.setIfInBounds_toArray, List.set_cons_zero, List.set_cons_succ]
      refine wpAnyH_read (i := 3) (oi := { dst := some 24, op := Go.Op.fieldAddr 23 (Go.Operand.tmp 9) 2, type := 0, pos := "ref.go:45", after := #[], guard := none }) ?_ rfl (by kernel_rfl) (by kernel_rfl) (by kernel_rfl) (fun _ _ _ h => h) (by rfl) (by assumption) ?_ ?_
      rotate_left
      · (intro w0 hS0; go_simp <;> (try with_reducible rfl))
      try simp only [Act.put, List.setIfInBounds_toArray, List.set_cons_zero, List.set_cons_succ]
      refine wpAnyH_read (i := 5) (oi := { dst := some 26, op := Go.Op.fieldAddr 23 (Go.Operand.tmp 9) 3, type := 0, pos := "ref.go:45", after := #[], guard := none }) ?_ rfl (by kernel_rfl) (by kernel_rfl) (by kernel_rfl) (fun _ _ _ h => h) (by rfl) (by assumption) ?_ ?_
      rotate_left
      · (intro w0 hS0; go_simp <;> (try with_reducible rfl))
      try simp only [Act.put, List.setIfInBounds_toArray, List.set_cons_zero, List.set_cons_succ]
      refine wpAnyH_read (i := 7) (oi := { dst := some 28, op := Go.Op.move (Go.Operand.tmp 0), type := 9, pos := "ref.go:45", after := #[], guard := none }) ?_ rfl (by kernel_rfl) (by kernel_rfl) (by kernel_rfl) (fun _ _ _ h => h) (by rfl) (by assumption) ?_ ?_
      rotate_left
      · (intro w0 hS0; go_simp <;> (try with_reducible rfl))
      try simp only [Act.put, List.setIfInBounds_toArray, List.set_cons_zero, List.set_cons_succ]
      refine wpAnyH_read (i := 8) (oi := { dst := some 29, op := Go.Op.fieldAddr 23 (Go.Operand.tmp 9) 1, type := 0, pos := "ref.go:45", after := #[], guard := none }) ?_ rfl (by kernel_rfl) (by kernel_rfl) (by kernel_rfl) (fun _ _ _ h => h) (by rfl) (by assumption) ?_ ?_
      rotate_left
      · (intro w0 hS0; go_simp <;> (try with_reducible rfl))
      try simp only [Act.put, List.setIfInBounds_toArray, List.set_cons_zero, List.set_cons_succ]
      refine wpAnyH_read (i := 10) (oi := { dst := some 31, op := Go.Op.move (Go.Operand.tmp 13), type := 9, pos := "ref.go:45", after := #[], guard := none }) ?_ rfl (by kernel_rfl) (by kernel_rfl) (by kernel_rfl) (fun _ _ _ h => h) (by rfl) (by assumption) ?_ ?_
      rotate_left
      · (intro w0 hS0; go_simp <;> (try with_reducible rfl))
      try simp only [Act.put, List.setIfInBounds_toArray, List.set_cons_zero, List.set_cons_succ]
      refine wpAnyH_read (i := 12) (oi := { dst := some 33, op := Go.Op.move (Go.Operand.tmp 5), type := 4, pos := "ref.go:45", after := #[], guard := none }) ?_ rfl (by kernel_rfl) (by kernel_rfl) (by kernel_rfl) (fun _ _ _ h => h) (by rfl) (by assumption) ?_ ?_
      rotate_left
      · (intro w0 hS0; go_simp <;> (try with_reducible rfl))
      try simp only [Act.put, List.setIfInBounds_toArray, List.set_cons_zero, List.set_cons_succ]
      refine wpAnyH_read (i := 15) (oi := { dst := some 36, op := Go.Op.fieldAddr 23 (Go.Operand.tmp 9) 4, type := 0, pos := "ref.go:45", after := #[], guard := none }) ?_ rfl (by kernel_rfl) (by kernel_rfl) (by kernel_rfl) (fun _ _ _ h => h) (by rfl) (by assumption) ?_ ?_
      rotate_left
      · (intro w0 hS0; go_simp <;> (try with_reducible rfl))
      try simp only [Act.put, List.setIfInBounds_toArray, List.set_cons_zero, List.set_cons_succ]
      refine wpAnyH_read (i := 4) (oi := { dst := some 25, op := Go.Op.load 9 (Go.Operand.tmp 24), type := 9, pos := "ref.go:45", after := #[{ on := 3, ground := Go.Ground.data }], guard := none }) ?_ rfl (by kernel_rfl) (by kernel_rfl) (by kernel_rfl) (fun _ _ _ h => h) (by rfl) (by assumption) ?_ ?_
      rotate_left
      · (intro w0 hS0; obtain ⟨s1, s2, s3, s4, t0, t1, t2⟩ := HP.out w0 hS0; go_simp <;> (try with_reducible rfl))
      try simp only [Act.put, List.setIfInBounds_toArray, List.set_cons_zero, List.set_cons_succ]
      refine wpAnyH_read (i := 6) (oi := { dst := some 27, op := Go.Op.load 9 (Go.Operand.tmp 26), type := 9, pos := "ref.go:45", after := #[{ on := 5, ground := Go.Ground.data }], guard := none }) ?_ rfl (by kernel_rfl) (by kernel_rfl) (by kernel_rfl) (fun _ _ _ h => h) (by rfl) (by assumption) ?_ ?_
      rotate_left
      · (intro w0 hS0; obtain ⟨s1, s2, s3, s4, t0, t1, t2⟩ := HP.out w0 hS0; go_simp <;> (try with_reducible rfl))
      try simp only [Act.put, List.setIfInBounds_toArray, List.set_cons_zero, List.set_cons_succ]
      refine wpAnyH_read (i := 9) (oi := { dst := some 30, op := Go.Op.load 9 (Go.Operand.tmp 29), type := 9, pos := "ref.go:45", after := #[{ on := 8, ground := Go.Ground.data }], guard := none }) ?_ rfl (by kernel_rfl) (by kernel_rfl) (by kernel_rfl) (fun _ _ _ h => h) (by rfl) (by assumption) ?_ ?_
      rotate_left
      · (intro w0 hS0; obtain ⟨s1, s2, s3, s4, t0, t1, t2⟩ := HP.out w0 hS0; go_simp <;> (try with_reducible rfl))
      try simp only [Act.put, List.setIfInBounds_toArray, List.set_cons_zero, List.set_cons_succ]
      refine wpAnyH_read (i := 11) (oi := { dst := some 32, op := Go.Op.load 25 (Go.Operand.tmp 10), type := 25, pos := "ref.go:45", after := #[], guard := none }) ?_ rfl (by kernel_rfl) (by kernel_rfl) (by kernel_rfl) (fun _ _ _ h => h) (by rfl) (by assumption) ?_ ?_
      rotate_left
      · (intro w0 hS0; obtain ⟨s1, s2, s3, s4, t0, t1, t2⟩ := HP.out w0 hS0; go_simp <;> (try with_reducible rfl))
      try simp only [Act.put, List.setIfInBounds_toArray, List.set_cons_zero, List.set_cons_succ]
      refine wpAnyH_read (i := 16) (oi := { dst := some 37, op := Go.Op.load 9 (Go.Operand.tmp 36), type := 9, pos := "ref.go:45", after := #[{ on := 15, ground := Go.Ground.data }], guard := none }) ?_ rfl (by kernel_rfl) (by kernel_rfl) (by kernel_rfl) (fun _ _ _ h => h) (by rfl) (by assumption) ?_ ?_
      rotate_left
      · (intro w0 hS0; obtain ⟨s1, s2, s3, s4, t0, t1, t2⟩ := HP.out w0 hS0; go_simp <;> (try with_reducible rfl))
      try simp only [Act.put, List.setIfInBounds_toArray, List.set_cons_zero, List.set_cons_succ]
      refine wpAnyH_read (i := 17) (oi := { dst := some 38, op := Go.Op.binOp Go.BinOp.add 9 (Go.Operand.const (Go.Value.string { data := #[48, 32] })) (Go.Operand.tmp 37) 9, type := 9, pos := "ref.go:45", after := #[{ on := 16, ground := Go.Ground.data }], guard := none }) ?_ rfl (by kernel_rfl) (by kernel_rfl) (by kernel_rfl) (fun _ _ _ h => h) (by rfl) (by assumption) ?_ ?_
      rotate_left
      · (intro w0 hS0; go_simp; first | done | (rw [if_neg (by omega)]; try with_reducible rfl))
      try simp only [Act.put, List.setIfInBounds_toArray, List.set_cons_zero, List.set_cons_succ]
      refine wpAnyH_one (i := 13) (o := { dst := some 34, op := Go.Op.call { callee := Go.Callee.value (Go.Operand.func 18), args := #[Go.Operand.tmp 32, Go.Operand.tmp 33], argTypes := #[25, 4] }, type := 9, pos := "ref.go:45", after := #[{ on := 11, ground := Go.Ground.data }, { on := 12, ground := Go.Ground.data }], guard := none }) (by kernel_rfl) rfl (by rfl) (fun K hK => ?_)
      go_simp
      refine ((HMk.out _)).mono ?_
      rintro e9 V1 ⟨rfl, hb1⟩
      have F1 : Fr (fun _ => False) W0 V1 := ((Fr.refl _ W0).drew).trans (Fr.of_below hb1)
      clear hb1
      refine hK.out _ _ ?_ (fun hHeld => ?_)
      · exact F1
      clear hK K
      try simp only [Act.put, List.setIfInBounds_toArray, List.set_cons_zero, List.set_cons_succ]
      refine wpAnyH_read (i := 14) (oi := { dst := some 35, op := Go.Op.binOp Go.BinOp.add 9 (Go.Operand.tmp 31) (Go.Operand.tmp 34) 9, type := 9, pos := "ref.go:45", after := #[{ on := 10, ground := Go.Ground.data }, { on := 13, ground := Go.Ground.data }], guard := none }) ?_ rfl (by kernel_rfl) (by kernel_rfl) (by kernel_rfl) (fun _ _ _ h => h) (by rfl) (by assumption) ?_ ?_
      rotate_left
      · (intro w0 hS0; go_simp; first | done | (rw [if_neg (by omega)]; try with_reducible rfl))
      try simp only [Act.put, List.setIfInBounds_toArray, List.set_cons_zero, List.set_cons_succ]
      refine wpAnyH_one (i := 18) (o := { dst := some 39, op := Go.Op.buildSlice 26 7 #[(0, Go.Operand.tmp 23), (1, Go.Operand.tmp 25), (2, Go.Operand.tmp 27), (3, Go.Operand.tmp 28), (4, Go.Operand.tmp 30), (5, Go.Operand.tmp 35), (6, Go.Operand.tmp 38)], type := 26, pos := "ref.go:45", after := #[{ on := 2, ground := Go.Ground.data }, { on := 4, ground := Go.Ground.data }, { on := 6, ground := Go.Ground.data }, { on := 7, ground := Go.Ground.data }, { on := 9, ground := Go.Ground.data }, { on := 14, ground := Go.Ground.data }, { on := 17, ground := Go.Ground.data }], guard := none }) (by kernel_rfl) rfl (by rfl) (fun K hK => ?_)
      go_simp
      refine hK.out _ _ ?_ (fun hHeld => ?_)
      · exact F1.alloc _
      clear hK K
      try simp only [Act.put, List.setIfInBounds_toArray, List.set_cons_zero, List.set_cons_succ]
      refine wpAnyH_one (i := 19) (o := { dst := some 40, op := Go.Op.call { callee := Go.Callee.value (Go.Operand.func 17), args := #[Go.Operand.tmp 21, Go.Operand.const (Go.Value.int Go.IntKind.i64 352), Go.Operand.tmp 22, Go.Operand.tmp 39], argTypes := #[9, 3, 9, 26] }, type := 9, pos := "ref.go:45", after := #[{ on := 0, ground := Go.Ground.data }, { on := 1, ground := Go.Ground.data }, { on := 18, ground := Go.Ground.data }, { on := 13, ground := Go.Ground.chain }], guard := none }) (by kernel_rfl) rfl (by rfl) (fun K hK => ?_)
      go_simp
      have HN := num_r (n := 352) (k := 7) server whom [ch, u, h, server, n, F, 48 :: 32 :: r] V1 _ (by simp only [List.map_cons, List.map_nil, encT, HE.out.1, HE.out.2]; rfl) rfl (by decide) (by decide) (by decide) hsv hwh hall
      refine HN.mono ?_
      rintro e9 V2 ⟨rfl, hb2⟩
      have F2 : Fr (fun _ => False) W0 V2 := F1.trans (Fr.of_below hb2)
      clear hb2
      refine hK.out _ _ ?_ (fun hHeld => ?_)
      · exact F2
      clear hK K
      try simp only [Act.put, List.setIfInBounds_toArray, List.set_cons_zero, List.set_cons_succ]
      refine wpAnyH_read (i := 20) (oi := { dst := some 12, op := Go.Op.assign (Go.Operand.tmp 40), type := 9, pos := "ref.go:45", after := #[{ on := 19, ground := Go.Ground.data }, { on := 19, ground := Go.Ground.chain }, { on := 0, ground := Go.Ground.phase }, { on := 1, ground := Go.Ground.phase }, { on := 2, ground := Go.Ground.phase }, { on := 3, ground := Go.Ground.phase }, { on := 4, ground := Go.Ground.phase }, { on := 5, ground := Go.Ground.phase }, { on := 6, ground := Go.Ground.phase }, { on := 7, ground := Go.Ground.phase }, { on := 8, ground := Go.Ground.phase }, { on := 9, ground := Go.Ground.phase }, { on := 10, ground := Go.Ground.phase }, { on := 11, ground := Go.Ground.phase }, { on := 12, ground := Go.Ground.phase }, { on := 13, ground := Go.Ground.phase }, { on := 14, ground := Go.Ground.phase }, { on := 15, ground := Go.Ground.phase }, { on := 16, ground := Go.Ground.phase }, { on := 17, ground := Go.Ground.phase }, { on := 18, ground := Go.Ground.phase }, { on := 19, ground := Go.Ground.phase }], guard := none }) ?_ rfl (by kernel_rfl) (by kernel_rfl) (by kernel_rfl) (fun _ _ _ h => h) (by rfl) (by assumption) ?_ ?_
      rotate_left
      · (intro w0 hS0; go_simp <;> (try with_reducible rfl))
      try simp only [Act.put, List.setIfInBounds_toArray, List.set_cons_zero, List.set_cons_succ]
      refine wpAnyH_done (by kernel_rfl) ?_ _
      have HFin : Hid (Fr (fun _ => False) w V2) := Lib.hid (HF0.out.trans F2)
      clear F1 F2
      go_wp2_with fail
      go_ret
      exact ⟨rfl, HFin.out.below (Nat.le_refl _) fun _ _ e => e.elim⟩
  | cons y0 yr =>
    have hemp := str_ne (s := bs (y0 :: yr)) (by simp)
    cases o
    · have HE : Hid (bs F = (⟨#[71]⟩ : ByteArray) ++ mk ∧ bs (48 :: 32 :: r) = ({ data := #[48, 32] } : ByteArray) ++ bs r) := Lib.hid ⟨hFB, hz.symm⟩
      clear hFB hz
      go_enter Tryz.func7, Tryz.ntmps7
      go_wp2_with fail
      try rw [hW0]
      have hall := HALL.out
      clear hW0 hN
      refine wp_region_held_drew (S := fun W => Fr (fun _ => False) W0 W) (by kernel_rfl) (by exact (Fr.refl _ W0).drew) (fun hHeld => ?_)
      refine wpAnyH_read (i := 0) (oi := { dst := some 21, op := Go.Op.move (Go.Operand.tmp 0), type := 9, pos := "ref.go:45", after := #[], guard := none }) ?_ rfl (by kernel_rfl) (by kernel_rfl) (by kernel_rfl) (fun _ _ _ h => h) (by rfl) (by assumption) ?_ ?_
      rotate_left
      · (intro w0 hS0; go_simp <;> (try with_reducible rfl))
      try simp only [Act.put, List.setIfInBounds_toArray, List.set_cons_zero, List.set_cons_succ]
      refine wpAnyH_read (i := 1) (oi := { dst := some 22, op := Go.Op.move (Go.Operand.tmp 1), type := 9, pos := "ref.go:45", after := #[], guard := none }) ?_ rfl (by kernel_rfl) (by kernel_rfl) (by kernel_rfl) (fun _ _ _ h => h) (by rfl) (by assumption) ?_ ?_
      rotate_left
      · (intro w0 hS0; go_simp <;> (try with_reducible rfl))
      try simp only [Act.put, List.setIfInBounds_toArray, List.set_cons_zero, List.set_cons_succ]
      refine wpAnyH_read (i := 2) (oi := { dst := some 23, op := Go.Op.move (Go.Operand.tmp 2), type := 9, pos := "ref.go:45", after := #[], guard := none }) ?_ rfl (by kernel_rfl) (by kernel_rfl) (by kernel_rfl) (fun _ _ _ h => h) (by rfl) (by assumption) ?_ ?_
      rotate_left
      · (intro w0 hS0; go_simp <;> (try with_reducible rfl))
      try simp only [Act.put, List.setIfInBounds_toArray, List.set_cons_zero, List.set_cons_succ]
      refine wpAnyH_read (i := 3) (oi := { dst := some 24, op := Go.Op.fieldAddr 23 (Go.Operand.tmp 9) 2, type := 0, pos := "ref.go:45", after := #[], guard := none }) ?_ rfl (by kernel_rfl) (by kernel_rfl) (by kernel_rfl) (fun _ _ _ h => h) (by rfl) (by assumption) ?_ ?_
      rotate_left
      · (intro w0 hS0; go_simp <;> (try with_reducible rfl))
      try simp only [Act.put, List.setIfInBounds_toArray, List.set_cons_zero, List.set_cons_succ]
      refine wpAnyH_read (i := 5) (oi := { dst := some 26, op := Go.Op.fieldAddr 23 (Go.Operand.tmp 9) 3, type := 0, pos := "ref.go:45", after := #[], guard := none }) ?_ rfl (by kernel_rfl) (by kernel_rfl) (by kernel_rfl) (fun _ _ _ h => h) (by rfl) (by assumption) ?_ ?_
      rotate_left
      · (intro w0 hS0; go_simp <;> (try with_reducible rfl))
      try simp only [Act.put, List.setIfInBounds_toArray, List.set_cons_zero, List.set_cons_succ]
      refine wpAnyH_read (i := 7) (oi := { dst := some 28, op := Go.Op.move (Go.Operand.tmp 0), type := 9, pos := "ref.go:45", after := #[], guard := none }) ?_ rfl (by kernel_rfl) (by kernel_rfl) (by kernel_rfl) (fun _ _ _ h => h) (by rfl) (by assumption) ?_ ?_
      rotate_left
      · (intro w0 hS0; go_simp <;> (try with_reducible rfl))
      try simp only [Act.put, List.setIfInBounds_toArray, List.set_cons_zero, List.set_cons_succ]
      refine wpAnyH_read (i := 8) (oi := { dst := some 29, op := Go.Op.fieldAddr 23 (Go.Operand.tmp 9) 1, type := 0, pos := "ref.go:45", after := #[], guard := none }) ?_ rfl (by kernel_rfl) (by kernel_rfl) (by kernel_rfl) (fun _ _ _ h => h) (by rfl) (by assumption) ?_ ?_
      rotate_left
      · (intro w0 hS0; go_simp <;> (try with_reducible rfl))
      try simp only [Act.put, List.setIfInBounds_toArray, List.set_cons_zero, List.set_cons_succ]
      refine wpAnyH_read (i := 10) (oi := { dst := some 31, op := Go.Op.move (Go.Operand.tmp 13), type := 9, pos := "ref.go:45", after := #[], guard := none }) ?_ rfl (by kernel_rfl) (by kernel_rfl) (by kernel_rfl) (fun _ _ _ h => h) (by rfl) (by assumption) ?_ ?_
      rotate_left
      · (intro w0 hS0; go_simp <;> (try with_reducible rfl))
      try simp only [Act.put, List.setIfInBounds_toArray, List.set_cons_zero, List.set_cons_succ]
      refine wpAnyH_read (i := 12) (oi := { dst := some 33, op := Go.Op.move (Go.Operand.tmp 5), type := 4, pos := "ref.go:45", after := #[], guard := none }) ?_ rfl (by kernel_rfl) (by kernel_rfl) (by kernel_rfl) (fun _ _ _ h => h) (by rfl) (by assumption) ?_ ?_
      rotate_left
      · (intro w0 hS0; go_simp <;> (try with_reducible rfl))
      try simp only [Act.put, List.setIfInBounds_toArray, List.set_cons_zero, List.set_cons_succ]
      refine wpAnyH_read (i := 15) (oi := { dst := some 36, op := Go.Op.fieldAddr 23 (Go.Operand.tmp 9) 4, type := 0, pos := "ref.go:45", after := #[], guard := none }) ?_ rfl (by kernel_rfl) (by kernel_rfl) (by kernel_rfl) (fun _ _ _ h => h) (by rfl) (by assumption) ?_ ?_
      rotate_left
      · (intro w0 hS0; go_simp <;> (try with_reducible rfl))
      try simp only [Act.put, List.setIfInBounds_toArray, List.set_cons_zero, List.set_cons_succ]
      refine wpAnyH_read (i := 4) (oi := { dst := some 25, op := Go.Op.load 9 (Go.Operand.tmp 24), type := 9, pos := "ref.go:45", after := #[{ on := 3, ground := Go.Ground.data }], guard := none }) ?_ rfl (by kernel_rfl) (by kernel_rfl) (by kernel_rfl) (fun _ _ _ h => h) (by rfl) (by assumption) ?_ ?_
      rotate_left
      · (intro w0 hS0; obtain ⟨s1, s2, s3, s4, t0, t1, t2⟩ := HP.out w0 hS0; go_simp <;> (try with_reducible rfl))
      try simp only [Act.put, List.setIfInBounds_toArray, List.set_cons_zero, List.set_cons_succ]
      refine wpAnyH_read (i := 6) (oi := { dst := some 27, op := Go.Op.load 9 (Go.Operand.tmp 26), type := 9, pos := "ref.go:45", after := #[{ on := 5, ground := Go.Ground.data }], guard := none }) ?_ rfl (by kernel_rfl) (by kernel_rfl) (by kernel_rfl) (fun _ _ _ h => h) (by rfl) (by assumption) ?_ ?_
      rotate_left
      · (intro w0 hS0; obtain ⟨s1, s2, s3, s4, t0, t1, t2⟩ := HP.out w0 hS0; go_simp <;> (try with_reducible rfl))
      try simp only [Act.put, List.setIfInBounds_toArray, List.set_cons_zero, List.set_cons_succ]
      refine wpAnyH_read (i := 9) (oi := { dst := some 30, op := Go.Op.load 9 (Go.Operand.tmp 29), type := 9, pos := "ref.go:45", after := #[{ on := 8, ground := Go.Ground.data }], guard := none }) ?_ rfl (by kernel_rfl) (by kernel_rfl) (by kernel_rfl) (fun _ _ _ h => h) (by rfl) (by assumption) ?_ ?_
      rotate_left
      · (intro w0 hS0; obtain ⟨s1, s2, s3, s4, t0, t1, t2⟩ := HP.out w0 hS0; go_simp <;> (try with_reducible rfl))
      try simp only [Act.put, List.setIfInBounds_toArray, List.set_cons_zero, List.set_cons_succ]
      refine wpAnyH_read (i := 11) (oi := { dst := some 32, op := Go.Op.load 25 (Go.Operand.tmp 10), type := 25, pos := "ref.go:45", after := #[], guard := none }) ?_ rfl (by kernel_rfl) (by kernel_rfl) (by kernel_rfl) (fun _ _ _ h => h) (by rfl) (by assumption) ?_ ?_
      rotate_left
      · (intro w0 hS0; obtain ⟨s1, s2, s3, s4, t0, t1, t2⟩ := HP.out w0 hS0; go_simp <;> (try with_reducible rfl))
      try simp only [Act.put, List.setIfInBounds_toArray, List.set_cons_zero, List.set_cons_succ]
      refine wpAnyH_read (i := 16) (oi := { dst := some 37, op := Go.Op.load 9 (Go.Operand.tmp 36), type := 9, pos := "ref.go:45", after := #[{ on := 15, ground := Go.Ground.data }], guard := none }) ?_ rfl (by kernel_rfl) (by kernel_rfl) (by kernel_rfl) (fun _ _ _ h => h) (by rfl) (by assumption) ?_ ?_
      rotate_left
      · (intro w0 hS0; obtain ⟨s1, s2, s3, s4, t0, t1, t2⟩ := HP.out w0 hS0; go_simp <;> (try with_reducible rfl))
      try simp only [Act.put, List.setIfInBounds_toArray, List.set_cons_zero, List.set_cons_succ]
      refine wpAnyH_read (i := 17) (oi := { dst := some 38, op := Go.Op.binOp Go.BinOp.add 9 (Go.Operand.const (Go.Value.string { data := #[48, 32] })) (Go.Operand.tmp 37) 9, type := 9, pos := "ref.go:45", after := #[{ on := 16, ground := Go.Ground.data }], guard := none }) ?_ rfl (by kernel_rfl) (by kernel_rfl) (by kernel_rfl) (fun _ _ _ h => h) (by rfl) (by assumption) ?_ ?_
      rotate_left
      · (intro w0 hS0; go_simp; first | done | (rw [if_neg (by omega)]; try with_reducible rfl))
      try simp only [Act.put, List.setIfInBounds_toArray, List.set_cons_zero, List.set_cons_succ]
      refine wpAnyH_one (i := 13) (o := { dst := some 34, op := Go.Op.call { callee := Go.Callee.value (Go.Operand.func 18), args := #[Go.Operand.tmp 32, Go.Operand.tmp 33], argTypes := #[25, 4] }, type := 9, pos := "ref.go:45", after := #[{ on := 11, ground := Go.Ground.data }, { on := 12, ground := Go.Ground.data }], guard := none }) (by kernel_rfl) rfl (by rfl) (fun K hK => ?_)
      go_simp
      refine ((HMk.out _)).mono ?_
      rintro e9 V1 ⟨rfl, hb1⟩
      have F1 : Fr (fun _ => False) W0 V1 := ((Fr.refl _ W0).drew).trans (Fr.of_below hb1)
      clear hb1
      refine hK.out _ _ ?_ (fun hHeld => ?_)
      · exact F1
      clear hK K
      try simp only [Act.put, List.setIfInBounds_toArray, List.set_cons_zero, List.set_cons_succ]
      refine wpAnyH_read (i := 14) (oi := { dst := some 35, op := Go.Op.binOp Go.BinOp.add 9 (Go.Operand.tmp 31) (Go.Operand.tmp 34) 9, type := 9, pos := "ref.go:45", after := #[{ on := 10, ground := Go.Ground.data }, { on := 13, ground := Go.Ground.data }], guard := none }) ?_ rfl (by kernel_rfl) (by kernel_rfl) (by kernel_rfl) (fun _ _ _ h => h) (by rfl) (by assumption) ?_ ?_
      rotate_left
      · (intro w0 hS0; go_simp; first | done | (rw [if_neg (by omega)]; try with_reducible rfl))
      try simp only [Act.put, List.setIfInBounds_toArray, List.set_cons_zero, List.set_cons_succ]
      refine wpAnyH_one (i := 18) (o := { dst := some 39, op := Go.Op.buildSlice 26 7 #[(0, Go.Operand.tmp 23), (1, Go.Operand.tmp 25), (2, Go.Operand.tmp 27), (3, Go.Operand.tmp 28), (4, Go.Operand.tmp 30), (5, Go.Operand.tmp 35), (6, Go.Operand.tmp 38)], type := 26, pos := "ref.go:45", after := #[{ on := 2, ground := Go.Ground.data }, { on := 4, ground := Go.Ground.data }, { on := 6, ground := Go.Ground.data }, { on := 7, ground := Go.Ground.data }, { on := 9, ground := Go.Ground.data }, { on := 14, ground := Go.Ground.data }, { on := 17, ground := Go.Ground.data }], guard := none }) (by kernel_rfl) rfl (by rfl) (fun K hK => ?_)
      go_simp
      refine hK.out _ _ ?_ (fun hHeld => ?_)
      · exact F1.alloc _
      clear hK K
      try simp only [Act.put, List.setIfInBounds_toArray, List.set_cons_zero, List.set_cons_succ]
      refine wpAnyH_one (i := 19) (o := { dst := some 40, op := Go.Op.call { callee := Go.Callee.value (Go.Operand.func 17), args := #[Go.Operand.tmp 21, Go.Operand.const (Go.Value.int Go.IntKind.i64 352), Go.Operand.tmp 22, Go.Operand.tmp 39], argTypes := #[9, 3, 9, 26] }, type := 9, pos := "ref.go:45", after := #[{ on := 0, ground := Go.Ground.data }, { on := 1, ground := Go.Ground.data }, { on := 18, ground := Go.Ground.data }, { on := 13, ground := Go.Ground.chain }], guard := none }) (by kernel_rfl) rfl (by rfl) (fun K hK => ?_)
      go_simp
      have HN := num_r (n := 352) (k := 7) server whom [ch, u, h, server, n, F, 48 :: 32 :: r] V1 _ (by simp only [List.map_cons, List.map_nil, encT, HE.out.1, HE.out.2]; rfl) rfl (by decide) (by decide) (by decide) hsv hwh hall
      refine HN.mono ?_
      rintro e9 V2 ⟨rfl, hb2⟩
      have F2 : Fr (fun _ => False) W0 V2 := F1.trans (Fr.of_below hb2)
      clear hb2
      refine hK.out _ _ ?_ (fun hHeld => ?_)
      · exact F2
      clear hK K
      try simp only [Act.put, List.setIfInBounds_toArray, List.set_cons_zero, List.set_cons_succ]
      refine wpAnyH_read (i := 20) (oi := { dst := some 12, op := Go.Op.assign (Go.Operand.tmp 40), type := 9, pos := "ref.go:45", after := #[{ on := 19, ground := Go.Ground.data }, { on := 19, ground := Go.Ground.chain }, { on := 0, ground := Go.Ground.phase }, { on := 1, ground := Go.Ground.phase }, { on := 2, ground := Go.Ground.phase }, { on := 3, ground := Go.Ground.phase }, { on := 4, ground := Go.Ground.phase }, { on := 5, ground := Go.Ground.phase }, { on := 6, ground := Go.Ground.phase }, { on := 7, ground := Go.Ground.phase }, { on := 8, ground := Go.Ground.phase }, { on := 9, ground := Go.Ground.phase }, { on := 10, ground := Go.Ground.phase }, { on := 11, ground := Go.Ground.phase }, { on := 12, ground := Go.Ground.phase }, { on := 13, ground := Go.Ground.phase }, { on := 14, ground := Go.Ground.phase }, { on := 15, ground := Go.Ground.phase }, { on := 16, ground := Go.Ground.phase }, { on := 17, ground := Go.Ground.phase }, { on := 18, ground := Go.Ground.phase }, { on := 19, ground := Go.Ground.phase }], guard := none }) ?_ rfl (by kernel_rfl) (by kernel_rfl) (by kernel_rfl) (fun _ _ _ h => h) (by rfl) (by assumption) ?_ ?_
      rotate_left
      · (intro w0 hS0; go_simp <;> (try with_reducible rfl))
      try simp only [Act.put, List.setIfInBounds_toArray, List.set_cons_zero, List.set_cons_succ]
      refine wpAnyH_done (by kernel_rfl) ?_ _
      have HFin : Hid (Fr (fun _ => False) w V2) := Lib.hid (HF0.out.trans F2)
      clear F1 F2
      go_wp2_with fail
      go_ret
      exact ⟨rfl, HFin.out.below (Nat.le_refl _) fun _ _ e => e.elim⟩
    · have HE : Hid (bs F = ((⟨#[71]⟩ : ByteArray) ++ ⟨#[42]⟩) ++ mk ∧ bs (48 :: 32 :: r) = ({ data := #[48, 32] } : ByteArray) ++ bs r) := Lib.hid ⟨hFB, hz.symm⟩
      clear hFB hz
      go_enter Tryz.func7, Tryz.ntmps7
      go_wp2_with fail
      try rw [hW0]
      have hall := HALL.out
      clear hW0 hN
      refine wp_region_held_drew (S := fun W => Fr (fun _ => False) W0 W) (by kernel_rfl) (by exact (Fr.refl _ W0).drew) (fun hHeld => ?_)
      refine wpAnyH_read (i := 0) (oi := { dst := some 21, op := Go.Op.move (Go.Operand.tmp 0), type := 9, pos := "ref.go:45", after := #[], guard := none }) ?_ rfl (by kernel_rfl) (by kernel_rfl) (by kernel_rfl) (fun _ _ _ h => h) (by rfl) (by assumption) ?_ ?_
      rotate_left
      · (intro w0 hS0; go_simp <;> (try with_reducible rfl))
      try simp only [Act.put, List.setIfInBounds_toArray, List.set_cons_zero, List.set_cons_succ]
      refine wpAnyH_read (i := 1) (oi := { dst := some 22, op := Go.Op.move (Go.Operand.tmp 1), type := 9, pos := "ref.go:45", after := #[], guard := none }) ?_ rfl (by kernel_rfl) (by kernel_rfl) (by kernel_rfl) (fun _ _ _ h => h) (by rfl) (by assumption) ?_ ?_
      rotate_left
      · (intro w0 hS0; go_simp <;> (try with_reducible rfl))
      try simp only [Act.put, List.setIfInBounds_toArray, List.set_cons_zero, List.set_cons_succ]
      refine wpAnyH_read (i := 2) (oi := { dst := some 23, op := Go.Op.move (Go.Operand.tmp 2), type := 9, pos := "ref.go:45", after := #[], guard := none }) ?_ rfl (by kernel_rfl) (by kernel_rfl) (by kernel_rfl) (fun _ _ _ h => h) (by rfl) (by assumption) ?_ ?_
      rotate_left
      · (intro w0 hS0; go_simp <;> (try with_reducible rfl))
      try simp only [Act.put, List.setIfInBounds_toArray, List.set_cons_zero, List.set_cons_succ]
      refine wpAnyH_read (i := 3) (oi := { dst := some 24, op := Go.Op.fieldAddr 23 (Go.Operand.tmp 9) 2, type := 0, pos := "ref.go:45", after := #[], guard := none }) ?_ rfl (by kernel_rfl) (by kernel_rfl) (by kernel_rfl) (fun _ _ _ h => h) (by rfl) (by assumption) ?_ ?_
      rotate_left
      · (intro w0 hS0; go_simp <;> (try with_reducible rfl))
      try simp only [Act.put, List.setIfInBounds_toArray, List.set_cons_zero, List.set_cons_succ]
      refine wpAnyH_read (i := 5) (oi := { dst := some 26, op := Go.Op.fieldAddr 23 (Go.Operand.tmp 9) 3, type := 0, pos := "ref.go:45", after := #[], guard := none }) ?_ rfl (by kernel_rfl) (by kernel_rfl) (by kernel_rfl) (fun _ _ _ h => h) (by rfl) (by assumption) ?_ ?_
      rotate_left
      · (intro w0 hS0; go_simp <;> (try with_reducible rfl))
      try simp only [Act.put, List.setIfInBounds_toArray, List.set_cons_zero, List.set_cons_succ]
      refine wpAnyH_read (i := 7) (oi := { dst := some 28, op := Go.Op.move (Go.Operand.tmp 0), type := 9, pos := "ref.go:45", after := #[], guard := none }) ?_ rfl (by kernel_rfl) (by kernel_rfl) (by kernel_rfl) (fun _ _ _ h => h) (by rfl) (by assumption) ?_ ?_
      rotate_left
      · (intro w0 hS0; go_simp <;> (try with_reducible rfl))
      try simp only [Act.put, List.setIfInBounds_toArray, List.set_cons_zero, List.set_cons_succ]
      refine wpAnyH_read (i := 8) (oi := { dst := some 29, op := Go.Op.fieldAddr 23 (Go.Operand.tmp 9) 1, type := 0, pos := "ref.go:45", after := #[], guard := none }) ?_ rfl (by kernel_rfl) (by kernel_rfl) (by kernel_rfl) (fun _ _ _ h => h) (by rfl) (by assumption) ?_ ?_
      rotate_left
      · (intro w0 hS0; go_simp <;> (try with_reducible rfl))
      try simp only [Act.put, List.setIfInBounds_toArray, List.set_cons_zero, List.set_cons_succ]
      refine wpAnyH_read (i := 10) (oi := { dst := some 31, op := Go.Op.move (Go.Operand.tmp 13), type := 9, pos := "ref.go:45", after := #[], guard := none }) ?_ rfl (by kernel_rfl) (by kernel_rfl) (by kernel_rfl) (fun _ _ _ h => h) (by rfl) (by assumption) ?_ ?_
      rotate_left
      · (intro w0 hS0; go_simp <;> (try with_reducible rfl))
      try simp only [Act.put, List.setIfInBounds_toArray, List.set_cons_zero, List.set_cons_succ]
      refine wpAnyH_read (i := 12) (oi := { dst := some 33, op := Go.Op.move (Go.Operand.tmp 5), type := 4, pos := "ref.go:45", after := #[], guard := none }) ?_ rfl (by kernel_rfl) (by kernel_rfl) (by kernel_rfl) (fun _ _ _ h => h) (by rfl) (by assumption) ?_ ?_
      rotate_left
      · (intro w0 hS0; go_simp <;> (try with_reducible rfl))
      try simp only [Act.put, List.setIfInBounds_toArray, List.set_cons_zero, List.set_cons_succ]
      refine wpAnyH_read (i := 15) (oi := { dst := some 36, op := Go.Op.fieldAddr 23 (Go.Operand.tmp 9) 4, type := 0, pos := "ref.go:45", after := #[], guard := none }) ?_ rfl (by kernel_rfl) (by kernel_rfl) (by kernel_rfl) (fun _ _ _ h => h) (by rfl) (by assumption) ?_ ?_
      rotate_left
      · (intro w0 hS0; go_simp <;> (try with_reducible rfl))
      try simp only [Act.put, List.setIfInBounds_toArray, List.set_cons_zero, List.set_cons_succ]
      refine wpAnyH_read (i := 4) (oi := { dst := some 25, op := Go.Op.load 9 (Go.Operand.tmp 24), type := 9, pos := "ref.go:45", after := #[{ on := 3, ground := Go.Ground.data }], guard := none }) ?_ rfl (by kernel_rfl) (by kernel_rfl) (by kernel_rfl) (fun _ _ _ h => h) (by rfl) (by assumption) ?_ ?_
      rotate_left
      · (intro w0 hS0; obtain ⟨s1, s2, s3, s4, t0, t1, t2⟩ := HP.out w0 hS0; go_simp <;> (try with_reducible rfl))
      try simp only [Act.put, List.setIfInBounds_toArray, List.set_cons_zero, List.set_cons_succ]
      refine wpAnyH_read (i := 6) (oi := { dst := some 27, op := Go.Op.load 9 (Go.Operand.tmp 26), type := 9, pos := "ref.go:45", after := #[{ on := 5, ground := Go.Ground.data }], guard := none }) ?_ rfl (by kernel_rfl) (by kernel_rfl) (by kernel_rfl) (fun _ _ _ h => h) (by rfl) (by assumption) ?_ ?_
      rotate_left
      · (intro w0 hS0; obtain ⟨s1, s2, s3, s4, t0, t1, t2⟩ := HP.out w0 hS0; go_simp <;> (try with_reducible rfl))
      try simp only [Act.put, List.setIfInBounds_toArray, List.set_cons_zero, List.set_cons_succ]
      refine wpAnyH_read (i := 9) (oi := { dst := some 30, op := Go.Op.load 9 (Go.Operand.tmp 29), type := 9, pos := "ref.go:45", after := #[{ on := 8, ground := Go.Ground.data }], guard := none }) ?_ rfl (by kernel_rfl) (by kernel_rfl) (by kernel_rfl) (fun _ _ _ h => h) (by rfl) (by assumption) ?_ ?_
      rotate_left
      · (intro w0 hS0; obtain ⟨s1, s2, s3, s4, t0, t1, t2⟩ := HP.out w0 hS0; go_simp <;> (try with_reducible rfl))
      try simp only [Act.put, List.setIfInBounds_toArray, List.set_cons_zero, List.set_cons_succ]
      refine wpAnyH_read (i := 11) (oi := { dst := some 32, op := Go.Op.load 25 (Go.Operand.tmp 10), type := 25, pos := "ref.go:45", after := #[], guard := none }) ?_ rfl (by kernel_rfl) (by kernel_rfl) (by kernel_rfl) (fun _ _ _ h => h) (by rfl) (by assumption) ?_ ?_
      rotate_left
      · (intro w0 hS0; obtain ⟨s1, s2, s3, s4, t0, t1, t2⟩ := HP.out w0 hS0; go_simp <;> (try with_reducible rfl))
      try simp only [Act.put, List.setIfInBounds_toArray, List.set_cons_zero, List.set_cons_succ]
      refine wpAnyH_read (i := 16) (oi := { dst := some 37, op := Go.Op.load 9 (Go.Operand.tmp 36), type := 9, pos := "ref.go:45", after := #[{ on := 15, ground := Go.Ground.data }], guard := none }) ?_ rfl (by kernel_rfl) (by kernel_rfl) (by kernel_rfl) (fun _ _ _ h => h) (by rfl) (by assumption) ?_ ?_
      rotate_left
      · (intro w0 hS0; obtain ⟨s1, s2, s3, s4, t0, t1, t2⟩ := HP.out w0 hS0; go_simp <;> (try with_reducible rfl))
      try simp only [Act.put, List.setIfInBounds_toArray, List.set_cons_zero, List.set_cons_succ]
      refine wpAnyH_read (i := 17) (oi := { dst := some 38, op := Go.Op.binOp Go.BinOp.add 9 (Go.Operand.const (Go.Value.string { data := #[48, 32] })) (Go.Operand.tmp 37) 9, type := 9, pos := "ref.go:45", after := #[{ on := 16, ground := Go.Ground.data }], guard := none }) ?_ rfl (by kernel_rfl) (by kernel_rfl) (by kernel_rfl) (fun _ _ _ h => h) (by rfl) (by assumption) ?_ ?_
      rotate_left
      · (intro w0 hS0; go_simp; first | done | (rw [if_neg (by omega)]; try with_reducible rfl))
      try simp only [Act.put, List.setIfInBounds_toArray, List.set_cons_zero, List.set_cons_succ]
      refine wpAnyH_one (i := 13) (o := { dst := some 34, op := Go.Op.call { callee := Go.Callee.value (Go.Operand.func 18), args := #[Go.Operand.tmp 32, Go.Operand.tmp 33], argTypes := #[25, 4] }, type := 9, pos := "ref.go:45", after := #[{ on := 11, ground := Go.Ground.data }, { on := 12, ground := Go.Ground.data }], guard := none }) (by kernel_rfl) rfl (by rfl) (fun K hK => ?_)
      go_simp
      refine ((HMk.out _)).mono ?_
      rintro e9 V1 ⟨rfl, hb1⟩
      have F1 : Fr (fun _ => False) W0 V1 := ((Fr.refl _ W0).drew).trans (Fr.of_below hb1)
      clear hb1
      refine hK.out _ _ ?_ (fun hHeld => ?_)
      · exact F1
      clear hK K
      try simp only [Act.put, List.setIfInBounds_toArray, List.set_cons_zero, List.set_cons_succ]
      refine wpAnyH_read (i := 14) (oi := { dst := some 35, op := Go.Op.binOp Go.BinOp.add 9 (Go.Operand.tmp 31) (Go.Operand.tmp 34) 9, type := 9, pos := "ref.go:45", after := #[{ on := 10, ground := Go.Ground.data }, { on := 13, ground := Go.Ground.data }], guard := none }) ?_ rfl (by kernel_rfl) (by kernel_rfl) (by kernel_rfl) (fun _ _ _ h => h) (by rfl) (by assumption) ?_ ?_
      rotate_left
      · (intro w0 hS0; go_simp; first | done | (rw [if_neg (by omega)]; try with_reducible rfl))
      try simp only [Act.put, List.setIfInBounds_toArray, List.set_cons_zero, List.set_cons_succ]
      refine wpAnyH_one (i := 18) (o := { dst := some 39, op := Go.Op.buildSlice 26 7 #[(0, Go.Operand.tmp 23), (1, Go.Operand.tmp 25), (2, Go.Operand.tmp 27), (3, Go.Operand.tmp 28), (4, Go.Operand.tmp 30), (5, Go.Operand.tmp 35), (6, Go.Operand.tmp 38)], type := 26, pos := "ref.go:45", after := #[{ on := 2, ground := Go.Ground.data }, { on := 4, ground := Go.Ground.data }, { on := 6, ground := Go.Ground.data }, { on := 7, ground := Go.Ground.data }, { on := 9, ground := Go.Ground.data }, { on := 14, ground := Go.Ground.data }, { on := 17, ground := Go.Ground.data }], guard := none }) (by kernel_rfl) rfl (by rfl) (fun K hK => ?_)
      go_simp
      refine hK.out _ _ ?_ (fun hHeld => ?_)
      · exact F1.alloc _
      clear hK K
      try simp only [Act.put, List.setIfInBounds_toArray, List.set_cons_zero, List.set_cons_succ]
      refine wpAnyH_one (i := 19) (o := { dst := some 40, op := Go.Op.call { callee := Go.Callee.value (Go.Operand.func 17), args := #[Go.Operand.tmp 21, Go.Operand.const (Go.Value.int Go.IntKind.i64 352), Go.Operand.tmp 22, Go.Operand.tmp 39], argTypes := #[9, 3, 9, 26] }, type := 9, pos := "ref.go:45", after := #[{ on := 0, ground := Go.Ground.data }, { on := 1, ground := Go.Ground.data }, { on := 18, ground := Go.Ground.data }, { on := 13, ground := Go.Ground.chain }], guard := none }) (by kernel_rfl) rfl (by rfl) (fun K hK => ?_)
      go_simp
      have HN := num_r (n := 352) (k := 7) server whom [ch, u, h, server, n, F, 48 :: 32 :: r] V1 _ (by simp only [List.map_cons, List.map_nil, encT, HE.out.1, HE.out.2]; rfl) rfl (by decide) (by decide) (by decide) hsv hwh hall
      refine HN.mono ?_
      rintro e9 V2 ⟨rfl, hb2⟩
      have F2 : Fr (fun _ => False) W0 V2 := F1.trans (Fr.of_below hb2)
      clear hb2
      refine hK.out _ _ ?_ (fun hHeld => ?_)
      · exact F2
      clear hK K
      try simp only [Act.put, List.setIfInBounds_toArray, List.set_cons_zero, List.set_cons_succ]
      refine wpAnyH_read (i := 20) (oi := { dst := some 12, op := Go.Op.assign (Go.Operand.tmp 40), type := 9, pos := "ref.go:45", after := #[{ on := 19, ground := Go.Ground.data }, { on := 19, ground := Go.Ground.chain }, { on := 0, ground := Go.Ground.phase }, { on := 1, ground := Go.Ground.phase }, { on := 2, ground := Go.Ground.phase }, { on := 3, ground := Go.Ground.phase }, { on := 4, ground := Go.Ground.phase }, { on := 5, ground := Go.Ground.phase }, { on := 6, ground := Go.Ground.phase }, { on := 7, ground := Go.Ground.phase }, { on := 8, ground := Go.Ground.phase }, { on := 9, ground := Go.Ground.phase }, { on := 10, ground := Go.Ground.phase }, { on := 11, ground := Go.Ground.phase }, { on := 12, ground := Go.Ground.phase }, { on := 13, ground := Go.Ground.phase }, { on := 14, ground := Go.Ground.phase }, { on := 15, ground := Go.Ground.phase }, { on := 16, ground := Go.Ground.phase }, { on := 17, ground := Go.Ground.phase }, { on := 18, ground := Go.Ground.phase }, { on := 19, ground := Go.Ground.phase }], guard := none }) ?_ rfl (by kernel_rfl) (by kernel_rfl) (by kernel_rfl) (fun _ _ _ h => h) (by rfl) (by assumption) ?_ ?_
      rotate_left
      · (intro w0 hS0; go_simp <;> (try with_reducible rfl))
      try simp only [Act.put, List.setIfInBounds_toArray, List.set_cons_zero, List.set_cons_succ]
      refine wpAnyH_done (by kernel_rfl) ?_ _
      have HFin : Hid (Fr (fun _ => False) w V2) := Lib.hid (HF0.out.trans F2)
      clear F1 F2
      go_wp2_with fail
      go_ret
      exact ⟨rfl, HFin.out.below (Nat.le_refl _) fun _ _ e => e.elim⟩
end Go.Proofs.YtkbgpajconhgjaaGreatDoor
end
