/- Texts of this proof, one behind the other. -/
import Derived.Test.YtmgnhbihfgpccaaGreatDoorRoomPlaysG10
import Derived.Test.YtmgnhbihfgpccaaGreatDoorRoomPlaysG3
import Derived.Test.YtmgnhbihfgpccaaGreatDoorRoomPlaysG7
import Derived.OwnWalk
import Derived.Test.YtmgnhbihfgpccaaGreatDoorRoomPlaysG6
import Derived.Test.YtmgnhbihfgpccaaGreatDoorRoomPlaysG2
import Derived.IntWalk
set_option linter.unusedVariables false
set_option linter.unusedSimpArgs false
section
/- Layer 19: the document's room as it lies; At, Flag, New. -/
namespace Go.Proofs.YtmgnhbihfgpccaaGreatDoor
open Go Go.RowKit

/-- the document's room -/
structure Rx where
  nm : List UInt8
  mb : Int
  L : List Mem
  tp : List UInt8
  on : List UInt8
  key : List UInt8
  lim : Int
  bans : List (List UInt8)
  gs : List Int
structure RxV where
  vl : Value
  vb : Value
  vg : Value
def rxO (x : Rx) (q : RxV) : Obj := .cells #[.string (bs x.nm), .int .i64 x.mb, q.vl, .string (bs x.tp), .string (bs x.on), .string (bs x.key), .int .i64 x.lim, q.vb, q.vg] 46 (0, 0)
def RxAt (base B : Nat) (q : RxV) (x : Rx) (W : World) : Prop :=
  W.heap[B]? = some (rxO x q) ∧ OwnM base W q.vl x.L ∧ OwnT base W q.vb x.bans ∧ OwnI base W q.vg x.gs ∧ base ≤ B
theorem atM_first : ∀ {l : List Mem} {id : Int} {k : Nat} (h : k < l.length), l[k].1 = id → (∀ j (hj : j < k), (l[j]'(by omega)).1 ≠ id) → atM l id = k
  | [], _, _, h, _, _ => absurd h (Nat.not_lt_zero _)
  | a :: l, id, 0, _, h1, _ => by unfold atM; rw [if_pos (by simpa using h1)]; rfl
  | a :: l, id, k + 1, h, h1, h2 => by
    have ih := atM_first (l := l) (id := id) (k := k) (by simpa using h) (by simpa using h1) (fun j hj => by simpa using h2 (j + 1) (by omega))
    unfold atM
    rw [if_neg (by simpa using h2 0 (by omega)), if_neg (by omega)]
    omega
theorem atM_none {l : List Mem} {id : Int} (h : ∀ j (hj : j < l.length), l[j].1 ≠ id) : atM l id = -1 := by
  have h1 := (atM_lt l id).1
  have h2 : atM l id < 0 := atM_no.2 (hasM_no.2 fun a ha => by obtain ⟨j, hj, rfl⟩ := List.getElem_of_mem ha; exact h j hj)
  omega
set_option maxRecDepth 100000 in
set_option maxHeartbeats 4000000 in
theorem refAt_any {base B : Nat} {q : RxV} {x : Rx} {w : World} (h : RxAt base B q x w) (id : Int) (hl : x.L.length ≤ 1000000) :
    Calls Tryz.prog 14 #[.pointer (some ⟨B, 0, none⟩), .int .i64 id] w fun e w' => e = .returned (.int .i64 (atM x.L id)) ∧ w' = w := by
  have c2 : w.cell? ⟨B, 2, none⟩ = some q.vl := blk_cell h.1 2
  obtain ⟨A, c, hv⟩ := ownM_slice h.2.1
  rw [hv] at c2
  have hown := h.2.1
  rw [hv] at hown
  have HR := Lib.hid (reads_ownM hown)
  obtain ⟨L, hL⟩ : ∃ L, x.L = L := ⟨_, rfl⟩
  rw [hL] at HR c2 hl ⊢
  clear h hv hown hL
  go_enter Tryz.func14, Tryz.ntmps14
  go_wp2_with fail
  go_loopw [5] (fun s wr => ∃ k : Nat, k ≤ L.length ∧ s = .int .i64 k ∧ Hid (∀ j (hj : j < L.length), j < k → L[j].1 ≠ id) ∧ wr = w) (fun s _ => L.length - (Go.RowKit.intOf s).toNat)
  case atStart => exact ⟨0, Nat.zero_le _, rfl, Lib.hid fun _ _ h => absurd h (Nat.not_lt_zero _), rfl⟩
  case round =>
    obtain ⟨k, hk, rfl, HA, rfl⟩ := hrel
    by_cases hlt : k < L.length
    · obtain ⟨g, o, rfl, hg, hc⟩ := HR.out (by omega)
      have e0 := (hc k hlt).1
      obtain ⟨y, hy⟩ : ∃ y, L[k].1 = y := ⟨_, rfl⟩
      rw [hy] at e0
      have HY := Lib.hid hy
      clear hc hy hg
      by_cases hid : y = id
      · have he : atM L id = k := atM_first hlt (HY.out.trans hid) fun j hj => HA.out j (by omega) hj
        have HE := Lib.hid he
        have hye : (y == id) = true := by rw [hid]; simp
        clear he hid
        go_wp2_with fail
        go_ret
        exact ⟨by rw [HE.out]; rfl, rfl⟩
      · have hne : (y == id) = false := by simpa using hid
        have HID := Lib.hid hid
        clear hid
        go_wp2_with fail
        refine ⟨⟨k + 1, by omega, by push_cast; rfl, Lib.hid fun j h hj => ?_, by first | trivial | rfl⟩, by simp only [Go.RowKit.intOf]; omega⟩
        rcases Nat.lt_succ_iff_lt_or_eq.1 hj with h1 | rfl
        · exact HA.out j h h1
        · rw [HY.out]; exact HID.out
    · obtain rfl : k = L.length := by omega
      have HE := Lib.hid (atM_none fun j hj => HA.out j hj hj)
      go_wp2_with fail
      go_ret
      exact ⟨by rw [HE.out]; rfl, rfl⟩
set_option maxRecDepth 100000 in
set_option maxHeartbeats 4000000 in
theorem refFlag_any {base B : Nat} {q : RxV} {x : Rx} {w : World} (h : RxAt base B q x w) (c : UInt8) (hl : x.on.length ≤ 1000000) :
    Calls Tryz.prog 23 #[.pointer (some ⟨B, 0, none⟩), .int .u8 c.toNat] w fun e w' => e = .returned (.bool (x.on.contains c)) ∧ w' = w := by
  obtain ⟨s, hs⟩ : ∃ s, bs x.on = s := ⟨_, rfl⟩
  have c4 : w.cell? ⟨B, 4, none⟩ = some (.string s) := by rw [← hs]; exact blk_cell h.1 4
  have hsz : s.size ≤ 1000000 := by rw [← hs]; show x.on.toArray.size ≤ _; simpa using hl
  have hcn : x.on.contains c = s.data.toList.contains c := by rw [← hs]; rfl
  rw [hcn]
  obtain ⟨z, hz⟩ : ∃ z : Int, (c.toNat : Int) = z := ⟨_, rfl⟩
  have HZ := Lib.hid hz
  rw [hz]
  clear h hs hl hcn hz
  go_enter Tryz.func23, Tryz.ntmps23
  go_wp2_with fail
  go_loopw [5] (fun u wr => ∃ k : Nat, k ≤ s.size ∧ u = .int .i64 k ∧ Hid (∀ j (hj : j < s.size), j < k → s[j] ≠ c) ∧ wr = w) (fun u _ => s.size - (Go.RowKit.intOf u).toNat)
  case atStart => exact ⟨0, Nat.zero_le _, rfl, Lib.hid fun _ _ h => absurd h (Nat.not_lt_zero _), rfl⟩
  case round =>
    obtain ⟨k, hk, rfl, HA, rfl⟩ := hrel
    by_cases hlt : k < s.size
    · by_cases hid : s[k] = c
      · have he : ((s[k].toNat : Int) == z) = true := by rw [hid, HZ.out]; simp
        have hg : s.data.toList.contains c = true := by
          rw [List.contains_iff_mem, ← hid]
          exact List.getElem_mem (l := s.data.toList) (by simpa using hlt)
        have HE := Lib.hid hg
        clear hg hid
        go_wp2_with fail
        go_ret
        exact ⟨by rw [HE.out]; rfl, rfl⟩
      · have he : ((s[k].toNat : Int) == z) = false := by
          rw [← HZ.out]
          apply beq_false_of_ne
          intro e
          exact hid (UInt8.toNat_inj.1 (by omega))
        have HID := Lib.hid hid
        clear hid
        go_wp2_with fail
        refine ⟨⟨k + 1, by omega, by push_cast; rfl, Lib.hid fun j h hj => ?_, by first | trivial | rfl⟩, by simp only [Go.RowKit.intOf]; omega⟩
        rcases Nat.lt_succ_iff_lt_or_eq.1 hj with h1 | rfl
        · exact HA.out j h h1
        · exact HID.out
    · obtain rfl : k = s.size := by omega
      have hg : s.data.toList.contains c = false := by
        rw [Bool.eq_false_iff]
        intro h
        rw [List.contains_iff_mem] at h
        obtain ⟨j, hj, e⟩ := List.getElem_of_mem h
        exact HA.out j (by simpa using hj) (by simpa using hj) e
      have HE := Lib.hid hg
      clear hg
      go_wp2_with fail
      go_ret
      exact ⟨by rw [HE.out]; rfl, rfl⟩
/-- the document's new room -/
def rx0 (nm : List UInt8) (mb : Int) : Rx := ⟨nm, mb, [], [], [110, 116], [], 0, [], []⟩
theorem refNew_any (nm : List UInt8) (mb : Int) (w : World) :
    Calls Tryz.prog 10 #[.string (bs nm), .int .i64 mb] w fun e w' => ∃ B q, e = .returned (.pointer (some ⟨B, 0, none⟩)) ∧ RxAt w.heap.size B q (rx0 nm mb) w' ∧ Below w.heap.size w w' := by
  go_enter Tryz.func10, Tryz.ntmps10
  go_wp2_with fail
  go_ret
  exact ⟨w.heap.size, ⟨.slice none 0 0, .slice none 0 0, .slice none 0 0⟩, rfl, ⟨heap_alloc_new w _, ownM_nil _ _, ownT_nil _ _, World.ownsRow_nil _ _ _ _, Nat.le_refl _⟩, (Below.refl _ w).alloc (Nat.le_refl _) _⟩
end Go.Proofs.YtmgnhbihfgpccaaGreatDoor
end
section
/- Layer 19: the limit that a text tells. -/
namespace Go.Proofs.YtmgnhbihfgpccaaGreatDoor
open Go Go.RowKit

def digsL : List UInt8 := [48, 49, 50, 51, 52, 53, 54, 55, 56, 57]
theorem all_of_drop {p : UInt8 → Bool} : ∀ {l : List UInt8}, (∀ x ∈ l.dropWhile p, p x = true) → ∀ x ∈ l, p x = true
  | [], _ => by simp
  | a :: r, h => by
    by_cases ha : p a = true
    · rw [List.dropWhile_cons_of_pos ha] at h
      intro x hx
      rcases List.mem_cons.1 hx with rfl | hx
      · exact ha
      · exact all_of_drop h x hx
    · rw [List.dropWhile_cons_of_neg ha] at h
      exact absurd (h a List.mem_cons_self) ha
theorem drop_nil' {p : UInt8 → Bool} : ∀ {l : List UInt8}, l.dropWhile p = [] ↔ ∀ x ∈ l, p x = true
  | [] => by simp
  | a :: r => by
    by_cases ha : p a = true
    · rw [List.dropWhile_cons_of_pos ha, drop_nil' (l := r)]
      simp [ha]
    · rw [List.dropWhile_cons_of_neg ha]
      simp [ha]
theorem trimS_nil {l cs : List UInt8} : Lib.trimS l cs = [] ↔ ∀ b ∈ l, cs.contains b = true := by
  unfold Lib.trimS Lib.trimLeftS Lib.trimRightS
  rw [drop_nil']
  constructor
  · intro h b hb
    exact all_of_drop (l := l.reverse) (p := fun b => cs.contains b) (fun x hx => h x (by simpa using hx)) b (by simpa using hb)
  · intro h x hx
    have : x ∈ l.reverse := List.dropWhile_sublist _ |>.subset (by simpa using hx)
    exact h x (by simpa using this)
theorem trim_digs (s : ByteArray) (w : World) (hs : s.size ≤ 1000) :
    Calls Tryz.prog 106 #[.string s, .string ⟨#[48, 49, 50, 51, 52, 53, 54, 55, 56, 57]⟩] w fun e w' => e = .returned (.string ⟨(Lib.trimS s.data.toList digsL).toArray⟩) ∧ Below w.heap.size w w' :=
  Any.strings_Trim_ascii Tryz.lays160 (zero_of_info Tryz.infoSet).1 (by kernel_rfl) s ⟨#[48, 49, 50, 51, 52, 53, 54, 55, 56, 57]⟩ w (by omega) (by decide) (fun j b h => by
    have hm : b ∈ digsL := List.mem_of_getElem? h
    simp only [digsL, List.mem_cons, List.not_mem_nil, or_false] at hm
    rcases hm with rfl | rfl | rfl | rfl | rfl | rfl | rfl | rfl | rfl | rfl <;> decide)
end Go.Proofs.YtmgnhbihfgpccaaGreatDoor
end
section
/- Layer 19: limitOf. -/
namespace Go.Proofs.YtmgnhbihfgpccaaGreatDoor
open Go Go.RowKit

theorem digit_val {b : UInt8} (h : digsL.contains b = true) : ∃ d, Lib.digitVal b = some d := by
  rw [List.contains_iff_mem] at h
  simp only [digsL, List.mem_cons, List.not_mem_nil, or_false] at h
  rcases h with rfl | rfl | rfl | rfl | rfl | rfl | rfl | rfl | rfl | rfl <;> exact ⟨_, rfl⟩
theorem decFrom_some : ∀ {l : List UInt8} (acc : Nat), (∀ b ∈ l, digsL.contains b = true) → ∃ n, Lib.decFrom acc l = some n
  | [], acc, _ => ⟨acc, rfl⟩
  | b :: r, acc, h => by
    obtain ⟨d, hd⟩ := digit_val (h b List.mem_cons_self)
    obtain ⟨n, hn⟩ := decFrom_some (l := r) (acc * 10 + d) (fun x hx => h x (List.mem_cons_of_mem _ hx))
    exact ⟨n, by unfold Lib.decFrom; rw [hd]; exact hn⟩
/-- the limit that a text tells; 0: none -/
def limL (l : List UInt8) : Nat := if l.length < 1 ∨ 4 < l.length ∨ l.head? = some 48 ∨ ¬ (∀ b ∈ l, digsL.contains b = true) then 0 else (Lib.decFrom 0 l).getD 0
theorem atoi_digs {l : List UInt8} (h0 : 0 < l.length) (h : ∀ b ∈ l, digsL.contains b = true) : Lib.atoi l = some (((Lib.decFrom 0 l).getD 0 : Nat) : Int) := by
  obtain ⟨n, hn⟩ := decFrom_some 0 h
  cases l with
  | nil => simp at h0
  | cons b r =>
    have hb := h b List.mem_cons_self
    have h45 : (b == 45) = false := by
      rw [List.contains_iff_mem] at hb
      simp only [digsL, List.mem_cons, List.not_mem_nil, or_false] at hb
      rcases hb with rfl | rfl | rfl | rfl | rfl | rfl | rfl | rfl | rfl | rfl <;> decide
    have h43 : (b == 43) = false := by
      rw [List.contains_iff_mem] at hb
      simp only [digsL, List.mem_cons, List.not_mem_nil, or_false] at hb
      rcases hb with rfl | rfl | rfl | rfl | rfl | rfl | rfl | rfl | rfl | rfl <;> decide
    unfold Lib.atoi
    dsimp only
    rw [h45, h43, if_neg (by simp), if_neg (by simp)]
    unfold Lib.decNat
    rw [List.isEmpty_cons, if_neg (by simp), hn]
    rfl
theorem below_byt (w : World) (e : TypeId) (s : ByteArray) : Below w.heap.size w (Lib.bytesWorld w e s) := ⟨rfl, rfl, rfl, by rw [Lib.bytesWorld_size]; omega, fun j hj => Lib.bytesWorld_at_old w e s j hj⟩
def LimP (s : ByteArray) (w : World) (e : Ending) (w' : World) : Prop := e = .returned (.int .i64 (limL s.data.toList)) ∧ Below w.heap.size w w'
set_option maxRecDepth 100000 in
set_option maxHeartbeats 4000000 in
theorem limitOf_any (s : ByteArray) (w : World) : Calls Tryz.prog 76 #[.string s] w (LimP s w) := by
  have hsz : s.data.toList.length = s.size := by simp
  by_cases h1 : s.size < 1
  · have e : limL s.data.toList = 0 := if_pos (.inl (by omega))
    have E := Lib.hid e
    have q1 : (s.size : Int) < 1 := by omega
    clear e h1 hsz
    go_enter Tryz.func76, Tryz.ntmps76
    go_wp2_with fail
    go_ret
    exact ⟨by rw [E.out]; rfl, Below.refl _ _⟩
  have q1 : ¬ (s.size : Int) < 1 := by omega
  by_cases h2 : 4 < s.size
  · have e : limL s.data.toList = 0 := if_pos (.inr (.inl (by omega)))
    have E := Lib.hid e
    have q2 : (4 : Int) < s.size := by omega
    clear e h1 h2 hsz
    go_enter Tryz.func76, Tryz.ntmps76
    go_wp2_with fail
    go_ret
    exact ⟨by rw [E.out]; rfl, Below.refl _ _⟩
  have q2 : ¬ (4 : Int) < s.size := by omega
  have h0 : 0 < s.size := by omega
  have hhead : s.data.toList.head? = some s[0] := by rw [List.head?_eq_getElem?]; exact List.getElem?_eq_getElem (by simpa using h0)
  by_cases h3 : s[0] = 48
  · have e : limL s.data.toList = 0 := if_pos (.inr (.inr (.inl (by rw [hhead, h3]))))
    have E := Lib.hid e
    have q3 : ((s[0].toNat : Int) == 48) = true := by rw [h3]; decide
    clear e h1 h2 hsz hhead h3
    go_enter Tryz.func76, Tryz.ntmps76
    go_wp2_with fail
    go_ret
    exact ⟨by rw [E.out]; rfl, Below.refl _ _⟩
  have q3 : ((s[0].toNat : Int) == 48) = false := by
    apply beq_false_of_ne
    intro e
    exact h3 (UInt8.toNat_inj.1 (by have : (48 : UInt8).toNat = 48 := rfl; omega))
  have HT := Lib.hid (trim_digs s w (by omega))
  by_cases h4 : ∀ b ∈ s.data.toList, digsL.contains b = true
  · have ht : Lib.trimS s.data.toList digsL = [] := trimS_nil.2 h4
    rw [ht] at HT
    have e : limL s.data.toList = (Lib.decFrom 0 s.data.toList).getD 0 := if_neg (by
      rintro (e | e | e | e)
      · omega
      · omega
      · rw [hhead] at e; exact h3 (Option.some.inj e)
      · exact e h4)
    have HA := Lib.hid (fun W => Tryz.strconv_Atoi s _ (by omega) (atoi_digs (by omega) h4) W)
    rw [← e] at HA
    obtain ⟨n, hn⟩ : ∃ n : Int, ((limL s.data.toList : Nat) : Int) = n := ⟨_, rfl⟩
    unfold LimP
    rw [hn] at HA ⊢
    clear e hn h1 h2 hsz hhead h3 h4 ht
    go_enter Tryz.func76, Tryz.ntmps76
    go_wp2_with fail
    refine HT.out.mono ?_
    rintro e w1 ⟨rfl, hb1⟩
    have HB := Lib.hid hb1
    clear hb1
    go_wp2_with fail
    refine (HA.out w1).mono ?_
    rintro e w2 ⟨rfl, t, hw2⟩
    have HW := Lib.hid hw2
    clear hw2
    go_wp2_with fail
    go_ret
    exact ⟨rfl, HB.out.trans (by rw [HW.out]; exact (below_byt w1 _ t).mono HB.out.size)⟩
  · have ht : Lib.trimS s.data.toList digsL ≠ [] := fun e => h4 (trimS_nil.1 e)
    obtain ⟨z, hz⟩ : ∃ z : ByteArray, ⟨(Lib.trimS s.data.toList digsL).toArray⟩ = z := ⟨_, rfl⟩
    have hzn : z.toList.isEmpty = false := by
      rw [← hz, ByteArray.toList_eq, List.isEmpty_eq_false_iff]
      simpa using ht
    rw [hz] at HT
    have e : limL s.data.toList = 0 := if_pos (.inr (.inr (.inr h4)))
    have E := Lib.hid e
    clear e hz ht h4 h1 h2 hsz hhead h3
    go_enter Tryz.func76, Tryz.ntmps76
    go_wp2_with fail
    refine HT.out.mono ?_
    rintro e w1 ⟨rfl, hb1⟩
    have HB := Lib.hid hb1
    clear hb1
    go_wp2_with fail
    go_ret
    exact ⟨by rw [E.out]; rfl, HB.out⟩
end Go.Proofs.YtmgnhbihfgpccaaGreatDoor
end
section
/- Layer 19: a change of the limit. -/
namespace Go.Proofs.YtmgnhbihfgpccaaGreatDoor
open Go Go.RowKit

theorem ChgW.boxedZ {base B : Nat} {q : RmV} {r' : Rm} {w W W' w' : World} (h : ChgW base B q r' W W') (h1 : RowKit.Below w.heap.size w W) (hl : ∀ k, RmX B q k → k < w.heap.size) {Z : Nat → Prop} (hZ : ∀ k, Z k → w.heap.size ≤ k ∧ k < W.heap.size) (h2 : Fr Z W' w') : ChgW base B q r' w w' := by
  obtain ⟨q', a, b, c⟩ := h
  refine ⟨q', a.fr h2 fun k hk e => ?_, ((Fr.of_below (X := RmX B q) h1).trans3 b fun _ _ e => e).trans3 h2 fun k hk e => by have := (hZ k e).1; omega, fun k hk hl2 => c k hk (Nat.lt_of_lt_of_le hl2 h1.size)⟩
  have := hl _ (c _ hk (hZ k e).2)
  have := (hZ k e).1
  omega
def chgLim (r : Rm) (on : Bool) (c : UInt8) (arg : List UInt8) : Told × Rm :=
  if on then (if limL arg = 0 ∨ limL arg = r.lim then (noT 0, r) else (⟨true, c, arg, 0⟩, { r with lim := limL arg }))
  else (if r.lim = 0 then (noT 0, r) else (⟨false, c, [], 0⟩, { r with lim := 0 }))
set_option maxRecDepth 100000 in
set_option maxHeartbeats 8000000 in
theorem changeLimit_any {base B : Nat} {q : RmV} {r : Rm} {w : World} (h : RoomAt base B q r w) (on : Bool) (c : UInt8) (arg : List UInt8) :
    Calls Tryz.prog 49 #[.pointer (some ⟨B, 0, none⟩), chgV on c arg] w fun e w' => e = .returned (chgLim r on c arg).1.val ∧ ChgW base B q (chgLim r on c arg).2 w w' := by
  obtain ⟨N, hN⟩ : ∃ N, w.heap.size = N := ⟨_, rfl⟩
  obtain ⟨ab, hab⟩ : ∃ ab, bs arg = ab := ⟨_, rfl⟩
  have hcv : chgV on c arg = .agg #[.bool on, .int .u8 c.toNat, .string ab] := by rw [← hab]; rfl
  rw [hcv]
  obtain ⟨W0, hW0⟩ : ∃ W0, ((w.alloc (.cells #[.bool on, .int .u8 c.toNat, .string ab] 31)).alloc (.cells #[.bool false, .int .u8 0, .string ⟨#[]⟩] 31)) = W0 := ⟨_, rfl⟩
  have b0 : RowKit.Below w.heap.size w W0 := by rw [← hW0]; exact ((Below.refl _ w).alloc (Nat.le_refl _) _).alloc (by simp) _
  have k0 : W0.heap[N]? = some (.cells #[.bool on, .int .u8 c.toNat, .string ab] 31 (0, 0)) := by rw [← hW0, ← hN]; exact blk_alloc (heap_alloc_new w _) _
  have k1 : W0.heap[N + 1]? = some (.cells #[.bool false, .int .u8 0, .string ⟨#[]⟩] 31 (0, 0)) := by rw [← hW0, ← hN]; exact heap_alloc2_new w _ _
  have h0 := h.below b0
  have hlt : ∀ k, RmX B q k → k < w.heap.size := fun k hk => (h.lt k hk).2
  have hl : limL arg = limL ab.data.toList := by rw [← hab]; rfl
  have HL := Lib.hid (fun W => limitOf_any ab W)
  unfold LimP at HL
  rw [← hl] at HL
  have H := Lib.hid (And.intro h0 (And.intro b0 (And.intro k0 (And.intro k1 (And.intro hN hlt)))))
  have HW := Lib.hid hW0
  have HAB := Lib.hid hab
  clear h h0 b0 k0 k1 hW0 hN hab hcv hlt hl
  unfold chgLim
  cases on with
  | true =>
    rw [if_pos rfl]
    obtain ⟨nl, hnl⟩ : ∃ nl, limL arg = nl := ⟨_, rfl⟩
    rw [hnl] at HL ⊢
    clear hnl
    obtain ⟨n, hn⟩ : ∃ n : Int, (nl : Int) = n := ⟨_, rfl⟩
    obtain ⟨m, hm⟩ : ∃ m : Int, (r.lim : Int) = m := ⟨_, rfl⟩
    rw [hn] at HL
    have HNM := Lib.hid (And.intro hn hm)
    by_cases hx : nl = 0 ∨ nl = r.lim
    · rw [if_pos hx]
      unfold noT Told.val chgV
      have hcase : (n == 0) = true ∨ ((n == 0) = false ∧ (n == m) = true) := by
        rcases Int.decEq n 0 with e | e
        · refine .inr ⟨by simpa using e, ?_⟩
          rw [beq_iff_eq]
          rcases hx with h1 | h1 <;> omega
        · exact .inl (by simpa using e)
      clear hx hn hm
      rcases hcase with he | ⟨he, he2⟩
      all_goals
        have hW0 := HW.out
        have hN := H.out.2.2.2.2.1
        go_enter Tryz.func49, Tryz.ntmps49
        have z0 := blk_cell H.out.2.2.1 0; have z2 := blk_cell H.out.2.2.1 2
        go_wp2_with fail
        clear hW0 hN z0 z2
        refine (HL.out W0).mono ?_
        rintro e w1 ⟨rfl, hb1⟩
        have f1 : Fr (fun _ => False) W0 w1 := Fr.of_below hb1
        have k1 := f1.blk H.out.2.2.1 fun e => e
        have r1 := f1.blk H.out.2.2.2.1 fun e => e
        have a1 := H.out.1.below hb1
        have H1 := Lib.hid (And.intro (H.out.2.1.trans (hb1.mono H.out.2.1.size)) (And.intro k1 (And.intro r1 (And.intro a1 (And.intro H.out.2.2.2.2.1 H.out.2.2.2.2.2)))))
        have q0 := blk_cell r1 0; have q1 := blk_cell r1 1; have q2 := blk_cell r1 2; have g0 := blk_free r1 0; have g1 := blk_free r1 1; have g2 := blk_free r1 2
        have z0 := blk_cell k1 0
        have c5 : w1.cell? ⟨B, 5, none⟩ = some (.int .i64 m) := by rw [← HNM.out.2]; exact blk_cell a1.1 5
        clear hb1 f1 r1 k1 a1 H HW HL
        go_wp2_with fail
        obtain ⟨b5, k5, r5, a5, hN, hlt⟩ := H1.out
        have kk := fun j => blk_cell (set3R (x := .bool false) (y := .int .u8 0) (z := .string ⟨#[]⟩) r5) j
        refine bodyPost_ret (res_three rfl rfl (Tryz.isAgg31 _) (Tryz.sizeOf31 _) (kk 0) (kk 1) (kk 2)) rfl ⟨rfl, ?_⟩
        exact ChgW.boxed (W := w1) (N := N + 1) ⟨q, a5, Fr.refl _ _, fun _ hk _ => hk⟩ b5 hlt (by omega) (blk_lt r5) set3R_fr
    · rw [if_neg hx]
      unfold Told.val chgV
      dsimp only
      rw [HAB.out]
      have he : (n == 0) = false := by apply beq_false_of_ne; intro e; exact hx (.inl (by omega))
      have he2 : (n == m) = false := by apply beq_false_of_ne; intro e; exact hx (.inr (by omega))
      clear hx hn hm
      have hW0 := HW.out
      have hN := H.out.2.2.2.2.1
      go_enter Tryz.func49, Tryz.ntmps49
      have z0 := blk_cell H.out.2.2.1 0; have z2 := blk_cell H.out.2.2.1 2
      go_wp2_with fail
      clear hW0 hN z0 z2
      refine (HL.out W0).mono ?_
      rintro e w1 ⟨rfl, hb1⟩
      have f1 : Fr (fun _ => False) W0 w1 := Fr.of_below hb1
      have k1 := f1.blk H.out.2.2.1 fun e => e
      have r1 := f1.blk H.out.2.2.2.1 fun e => e
      have a1 := H.out.1.below hb1
      have hBN : B < N := by have := H.out.2.2.2.2.2 B (.inl rfl); have := H.out.2.2.2.2.1; omega
      have H1 := Lib.hid (And.intro (H.out.2.1.trans (hb1.mono H.out.2.1.size)) (And.intro k1 (And.intro r1 (And.intro a1 (And.intro H.out.2.2.2.2.1 H.out.2.2.2.2.2)))))
      have q0 := blk_cell r1 0; have q1 := blk_cell r1 1; have q2 := blk_cell r1 2; have g0 := blk_free r1 0; have g1 := blk_free r1 1; have g2 := blk_free r1 2
      have z0 := blk_cell k1 0; have z1 := blk_cell k1 1; have z2 := blk_cell k1 2
      have c5 : w1.cell? ⟨B, 5, none⟩ = some (.int .i64 m) := by rw [← HNM.out.2]; exact blk_cell a1.1 5
      have f5 : w1.frozen? ⟨B, 5, none⟩ = false := blk_free a1.1 5
      clear hb1 f1 r1 k1 a1 H HW HL
      go_wp2_with fail
      obtain ⟨b5, k5, r5, a5, hN, hlt⟩ := H1.out
      have f9 : Fr (fun k => k = B) w1 (w1.setCell ⟨B, 5, none⟩ (.int .i64 n)) := Fr.setCell (X := fun k => k = B) (Fr.refl _ w1) ⟨B, 5, none⟩ rfl _
      have r9 := f9.blk r5 (by omega)
      have a9 : RoomAt base B q { r with lim := nl } (w1.setCell ⟨B, 5, none⟩ (.int .i64 n)) := by rw [← HNM.out.1]; exact a5.upd (r' := { r with lim := nl }) 5 _ rfl rfl rfl rfl
      have kk := fun j => blk_cell (set3R (x := .bool true) (y := .int .u8 c.toNat) (z := .string ab) r9) j
      refine bodyPost_ret (res_three rfl rfl (Tryz.isAgg31 _) (Tryz.sizeOf31 _) (kk 0) (kk 1) (kk 2)) rfl ⟨rfl, ?_⟩
      exact ChgW.boxed (W := w1) (N := N + 1) ⟨q, a9, f9.mono fun k _ e => .inl e, fun _ hk _ => hk⟩ b5 hlt (by omega) (blk_lt r5) set3R_fr
  | false =>
    rw [if_neg (by simp)]
    obtain ⟨m, hm⟩ : ∃ m : Int, (r.lim : Int) = m := ⟨_, rfl⟩
    have HM := Lib.hid hm
    clear HL
    by_cases hx : r.lim = 0
    · rw [if_pos hx]
      unfold noT Told.val chgV
      have he : ((0 : Int) == m) = true := by rw [beq_iff_eq]; omega
      clear hx hm
      have hW0 := HW.out
      have hN := H.out.2.2.2.2.1
      go_enter Tryz.func49, Tryz.ntmps49
      have q0 := blk_cell H.out.2.2.2.1 0; have q1 := blk_cell H.out.2.2.2.1 1; have q2 := blk_cell H.out.2.2.2.1 2; have g0 := blk_free H.out.2.2.2.1 0; have g1 := blk_free H.out.2.2.2.1 1; have g2 := blk_free H.out.2.2.2.1 2
      have z0 := blk_cell H.out.2.2.1 0
      have c5 : W0.cell? ⟨B, 5, none⟩ = some (.int .i64 m) := by rw [← HM.out]; exact blk_cell H.out.1.1 5
      go_wp2_with fail
      obtain ⟨a5, b5, k5, r5, _, hlt⟩ := H.out
      have kk := fun j => blk_cell (set3R (x := .bool false) (y := .int .u8 0) (z := .string ⟨#[]⟩) r5) j
      refine bodyPost_ret (res_three rfl rfl (Tryz.isAgg31 _) (Tryz.sizeOf31 _) (kk 0) (kk 1) (kk 2)) rfl ⟨rfl, ?_⟩
      exact ChgW.boxed (W := W0) (N := N + 1) ⟨q, a5, Fr.refl _ _, fun _ hk _ => hk⟩ b5 hlt (by omega) (blk_lt r5) set3R_fr
    · rw [if_neg hx]
      unfold Told.val chgV
      have he : ((0 : Int) == m) = false := by apply beq_false_of_ne; omega
      clear hx hm
      have hW0 := HW.out
      have hN := H.out.2.2.2.2.1
      have hBN : B < N := by have := H.out.2.2.2.2.2 B (.inl rfl); omega
      go_enter Tryz.func49, Tryz.ntmps49
      have q0 := blk_cell H.out.2.2.2.1 0; have q1 := blk_cell H.out.2.2.2.1 1; have q2 := blk_cell H.out.2.2.2.1 2; have g0 := blk_free H.out.2.2.2.1 0; have g1 := blk_free H.out.2.2.2.1 1; have g2 := blk_free H.out.2.2.2.1 2
      have z0 := blk_cell H.out.2.2.1 0; have z1 := blk_cell H.out.2.2.1 1; have z2 := blk_cell H.out.2.2.1 2; have y2 := blk_free H.out.2.2.1 2
      have c5 : W0.cell? ⟨B, 5, none⟩ = some (.int .i64 m) := by rw [← HM.out]; exact blk_cell H.out.1.1 5
      have f5 : W0.frozen? ⟨B, 5, none⟩ = false := blk_free H.out.1.1 5
      go_wp2_with fail
      obtain ⟨a5, b5, k5, r5, _, hlt⟩ := H.out
      have f9 : Fr (fun k => k = B) W0 (W0.setCell ⟨B, 5, none⟩ (.int .i64 0)) := Fr.setCell (X := fun k => k = B) (Fr.refl _ W0) ⟨B, 5, none⟩ rfl _
      have f10 : Fr (fun k => k = B ∨ k = N) W0 ((W0.setCell ⟨B, 5, none⟩ (.int .i64 0)).setCell ⟨N, 2, none⟩ (.string ⟨#[]⟩)) := Fr.setCell (X := fun k => k = B ∨ k = N) (f9.mono fun k _ e => .inl e) ⟨N, 2, none⟩ (.inr rfl) _
      have r10 := f10.blk r5 (by omega)
      have a9 : RoomAt base B q { r with lim := 0 } (W0.setCell ⟨B, 5, none⟩ (.int .i64 0)) := a5.upd (r' := { r with lim := 0 }) 5 _ rfl rfl rfl rfl
      have kk := fun j => blk_cell (set3R (x := .bool false) (y := .int .u8 c.toNat) (z := .string ⟨#[]⟩) r10) j
      refine bodyPost_ret (res_three rfl rfl (Tryz.isAgg31 _) (Tryz.sizeOf31 _) (kk 0) (kk 1) (kk 2)) rfl ⟨rfl, ?_⟩
      refine ChgW.boxedZ (W := W0) (Z := fun k => k = N ∨ k = N + 1) ⟨q, a9, f9.mono fun k _ e => .inl e, fun _ hk _ => hk⟩ b5 hlt (fun k hk => ?_) ((Fr.setCell (X := fun k => k = N ∨ k = N + 1) (Fr.refl _ _) ⟨N, 2, none⟩ (.inl rfl) _).trans3 set3R_fr fun k _ e => .inr e)
      have := blk_lt r5
      rcases hk with e | e <;> omega
end Go.Proofs.YtmgnhbihfgpccaaGreatDoor
end
section
/- Layer 19: Bans of a room that is there. -/
namespace Go.Proofs.YtmgnhbihfgpccaaGreatDoor
open Go Go.RowKit

theorem clone_t {base : Nat} {w : World} {A : Option Addr} {c : Nat} {xs : List (List UInt8)} (ho : OwnT base w (.slice A xs.length c) xs) (hl : xs.length ≤ 1000000) :
    Calls Tryz.prog 65 #[.slice A xs.length c] w fun e w' => (∃ A2 c2, e = .returned (.slice A2 xs.length c2) ∧ OwnT w.heap.size w' (.slice A2 xs.length c2) xs) ∧ Below w.heap.size w w' := by
  rcases ho.2 with ⟨h1, h2⟩ | ⟨g, cap, cur, h1, _⟩
  · injection h1 with e1 _ e3
    subst e1; subst e3
    have hx : xs = [] := List.eq_nil_of_length_eq_zero h2
    subst hx
    refine (Tryz.slices_Clone_string_nil 0 0 w).mono ?_
    rintro e w' ⟨rfl, rfl⟩
    exact ⟨⟨none, 0, rfl, ownT_nil _ _⟩, Below.refl _ _⟩
  · injection h1 with e1 _ e3
    subst e1; subst e3
    have hcell : ∀ j, j < (xs.map bs).length → w.cell? ⟨g, 0 + j, none⟩ = some (.string ((xs.map bs).getD j ByteArray.empty)) := fun j hj => by
      rw [List.length_map] at hj
      obtain ⟨g', o, e, hg, hc⟩ := reads_ownT ho (by omega)
      have e1 : g = g' ∧ 0 = o := by injection e with e; injection e with a b _; exact ⟨a, b⟩
      obtain ⟨rfl, rfl⟩ := e1
      rw [hc j hj, List.getD_eq_getElem?_getD, List.getElem?_eq_getElem (by rw [List.length_map]; exact hj), List.getElem_map]
      rfl
    refine (Tryz.slices_Clone_string g 0 xs.length c (xs.map bs) w (by rw [List.length_map]; exact Nat.le_refl _) (by omega) hcell).mono ?_
    rintro e w' ⟨v', rfl, ho2, _, hb⟩
    have ho3 : OwnT w.heap.size w' v' xs := by
      unfold OwnT
      rw [List.take_of_length_le (by rw [List.length_map]; exact Nat.le_refl _), List.map_map] at ho2
      exact ho2
    obtain ⟨A2, c2, rfl⟩ := row_slice ho3
    exact ⟨⟨A2, c2, rfl, ho3⟩, hb⟩
theorem bans_any {base B : Nat} {q : RmV} {r : Rm} {w : World} (h : RoomAt base B q r w) (hl : r.bans.length ≤ 1000000) : Calls Tryz.prog 37 #[.pointer (some ⟨B, 0, none⟩)] w (RetST r.bans w) := by
  obtain ⟨A, c, hv⟩ := row_slice h.2.2.1
  have c7 : w.cell? ⟨B, 7, none⟩ = some (.slice A r.bans.length c) := by rw [← hv]; exact blk_cell h.1 7
  have ho := h.2.2.1
  rw [hv] at ho
  have HC := Lib.hid (clone_t ho hl)
  clear h ho hv
  obtain ⟨n, hn⟩ : ∃ n, r.bans.length = n := ⟨_, rfl⟩
  rw [hn] at c7 HC
  have HN := Lib.hid hn
  clear hn
  go_enter Tryz.func37, Tryz.ntmps37
  go_wp2_with fail
  refine HC.out.mono ?_
  rintro e w1 ⟨⟨A1, c2, rfl, o1⟩, b1⟩
  have H1 := Lib.hid (And.intro o1 b1)
  have HV := Lib.hid (values_callsT A1 n c2 w1)
  clear o1 b1
  go_wp2_with fail
  refine HV.out.mono ?_
  rintro e w2 hv
  have ho1 := H1.out.1
  obtain ⟨F, rfl, h1, h2⟩ := tale_ofT H1.out.2.size ho1 hv
  have H := Lib.hid (And.intro h1 (H1.out.2.trans (h2.mono H1.out.2.size)))
  clear h1 h2 hv ho1
  go_wp2_with fail
  go_ret
  exact ⟨⟨_, rfl, H.out.1⟩, H.out.2⟩
end Go.Proofs.YtmgnhbihfgpccaaGreatDoor
end
section
/- Layer 19: the document's Number. -/
namespace Go.Proofs.YtmgnhbihfgpccaaGreatDoor
open Go Go.RowKit

theorem digs_iff (b : UInt8) : digsL.contains b = true ↔ (48 ≤ b.toNat ∧ b.toNat ≤ 57) := by
  rw [List.contains_iff_mem]
  constructor
  · intro h
    simp only [digsL, List.mem_cons, List.not_mem_nil, or_false] at h
    rcases h with rfl | rfl | rfl | rfl | rfl | rfl | rfl | rfl | rfl | rfl <;> decide
  · intro h
    have : b = UInt8.ofNat b.toNat := by simp
    rw [this]
    have h2 : b.toNat = 48 ∨ b.toNat = 49 ∨ b.toNat = 50 ∨ b.toNat = 51 ∨ b.toNat = 52 ∨ b.toNat = 53 ∨ b.toNat = 54 ∨ b.toNat = 55 ∨ b.toNat = 56 ∨ b.toNat = 57 := by omega
    rcases h2 with h | h | h | h | h | h | h | h | h | h <;> rw [h] <;> decide
theorem digit_anyL (b : UInt8) (w : World) : Calls Tryz.prog 95 #[.int .u8 b.toNat] w fun e w' => e = .returned (.bool (digsL.contains b)) ∧ w' = w := by
  cases hd : digsL.contains b with
  | true =>
    obtain ⟨h1, h2⟩ := (digs_iff b).1 hd
    have q1 : (48 : Int) ≤ b.toNat := by omega
    have q2 : (b.toNat : Int) ≤ 57 := by omega
    clear h1 h2 hd
    go_enter Tryz.func95, Tryz.ntmps95
    go_wp2_with fail
    go_ret
    exact ⟨rfl, rfl⟩
  | false =>
    have hn : ¬ (48 ≤ b.toNat ∧ b.toNat ≤ 57) := fun h => by rw [(digs_iff b).2 h] at hd; cases hd
    by_cases h1 : 48 ≤ b.toNat
    · have q1 : (48 : Int) ≤ b.toNat := by omega
      have q2 : ¬ (b.toNat : Int) ≤ 57 := by omega
      clear hn h1 hd
      go_enter Tryz.func95, Tryz.ntmps95
      go_wp2_with fail
      go_ret
      exact ⟨rfl, rfl⟩
    · have q1 : ¬ (48 : Int) ≤ b.toNat := by omega
      clear hn h1 hd
      go_enter Tryz.func95, Tryz.ntmps95
      go_wp2_with fail
      go_ret
      exact ⟨rfl, rfl⟩
theorem decFrom_lt : ∀ {l : List UInt8} {acc n : Nat}, Lib.decFrom acc l = some n → n < (acc + 1) * 10 ^ l.length
  | [], acc, n, h => by simp [Lib.decFrom] at h; subst h; simp
  | b :: r, acc, n, h => by
    unfold Lib.decFrom at h
    cases hd : Lib.digitVal b with
    | none => rw [hd] at h; cases h
    | some d =>
      rw [hd] at h
      have h9 : d ≤ 9 := by
        unfold Lib.digitVal at hd
        split at hd
        · injection hd with hd; omega
        · cases hd
      have h1 := decFrom_lt h
      have h2 : (acc * 10 + d + 1) * 10 ^ r.length ≤ (acc * 10 + 10) * 10 ^ r.length := Nat.mul_le_mul_right _ (by omega)
      have h3 : (acc + 1) * 10 ^ (b :: r).length = (acc * 10 + 10) * 10 ^ r.length := by
        rw [List.length_cons, Nat.pow_succ, Nat.mul_comm (10 ^ r.length) 10, ← Nat.mul_assoc, Nat.add_mul]
      omega
theorem decFrom_bound {l : List UInt8} {n : Nat} (h : Lib.decFrom 0 l = some n) (hl : l.length ≤ 4) : n ≤ 9999 := by
  have h1 := decFrom_lt h
  have h2 : 10 ^ l.length ≤ 10 ^ 4 := Nat.pow_le_pow_right (by decide) hl
  omega
set_option maxRecDepth 100000 in
set_option maxHeartbeats 4000000 in
theorem numberR_any (s : ByteArray) (w : World) (hs : s.size ≤ 1000000) : Calls Tryz.prog 62 #[.string s] w (LimP s w) := by
  have hsz : s.data.toList.length = s.size := by simp
  have HD := Lib.hid (fun b W => digit_anyL b W)
  have HS := Lib.hid hsz
  clear hsz
  go_enter Tryz.func62, Tryz.ntmps62
  go_wp2_with fail
  go_loopw [3, 4] (fun u v wr => ∃ k n : Nat, k ≤ s.size ∧ k ≤ 4 ∧ n ≤ 9999 ∧ u = .int .i64 n ∧ v = .int .i64 k ∧ Hid (Lib.decFrom 0 (s.data.toList.take k) = some n) ∧ Hid (∀ b ∈ s.data.toList.take k, digsL.contains b = true) ∧ Hid (0 < k → s.data.toList.head? ≠ some 48) ∧ wr = w) (fun _ v _ => s.size - (Go.RowKit.intOf v).toNat)
  case atStart => exact ⟨0, 0, Nat.zero_le _, by omega, by omega, rfl, rfl, rfl, fun b hb => by simp at hb, fun h => absurd h (Nat.lt_irrefl _), rfl⟩
  case round =>
    obtain ⟨k, n, hk, hk4, hn9, rfl, rfl, HN, HA, HZ, rfl⟩ := hrel
    by_cases hlt : k < s.size
    · have hget : s.data.toList[k]? = some s[k] := List.getElem?_eq_getElem (by simpa using hlt)
      have hmem : s[k] ∈ s.data.toList := List.mem_of_getElem? hget
      have HG := Lib.hid (And.intro hget hmem)
      have HDK := HD.out s[k]
      clear hget hmem
      cases hd : digsL.contains s[k] with
      | false =>
        have e : limL s.data.toList = 0 := if_pos (.inr (.inr (.inr fun h => by rw [h _ HG.out.2] at hd; cases hd)))
        have E := Lib.hid e
        simp only [hd] at HDK
        have HDL := Lib.hid HDK
        clear e HDK hd
        go_wp2_with fail
        refine (HDL.out wr).mono ?_
        rintro e w1 ⟨rfl, rfl⟩
        go_wp2_with fail
        go_ret
        exact ⟨by rw [E.out]; rfl, Below.refl _ _⟩
      | true =>
        obtain ⟨g1, g2⟩ := (digs_iff s[k]).1 hd
        have hdv : Lib.digitVal s[k] = some (s[k].toNat - 48) := if_pos ⟨g1, g2⟩
        have hx := Lib.decFrom_take s.data.toList k 0 n s[k] (s[k].toNat - 48) HN.out HG.out.1 hdv
        have hal : ∀ b ∈ s.data.toList.take (k + 1), digsL.contains b = true := fun b hb => by
          rw [List.take_succ_eq_append_getElem (by simpa using hlt)] at hb
          rcases List.mem_append.1 hb with h | h
          · exact HA.out b h
          · rw [List.mem_singleton.1 h]; exact hd
        simp only [hd] at HDK
        have HDL := Lib.hid HDK
        have HAL := Lib.hid hal
        have t1 : (0 : Int) ≤ (s[k].toNat : Int) := by omega
        have t2 : (s[k].toNat : Int) ≤ 57 := by omega
        have t3 : (48 : Int) ≤ (s[k].toNat : Int) := by omega
        clear HDK hd hdv hal
        by_cases hk0 : k = 0
        · subst hk0
          have hh : s.data.toList.head? = some s[0] := by rw [List.head?_eq_getElem?]; exact HG.out.1
          by_cases h48 : s[0] = 48
          · have e : limL s.data.toList = 0 := if_pos (.inr (.inr (.inl (by rw [hh, h48]))))
            have E := Lib.hid e
            have q3 : ((s[0].toNat : Int) == 48) = true := by rw [h48]; decide
            clear e hh h48 hx
            go_wp2_with fail
            refine (HDL.out wr).mono ?_
            rintro e w1 ⟨rfl, rfl⟩
            go_wp2_with fail
            go_ret
            exact ⟨by rw [E.out]; rfl, Below.refl _ _⟩
          · have q3 : ((s[0].toNat : Int) == 48) = false := by
              apply beq_false_of_ne
              intro e
              exact h48 (UInt8.toNat_inj.1 (by have : (48 : UInt8).toNat = 48 := rfl; omega))
            have HX := Lib.hid (And.intro g1 (And.intro hx (decFrom_bound hx (by rw [List.length_take]; omega))))
            have HZZ : Hid (0 < 0 + 1 → s.data.toList.head? ≠ some 48) := fun _ e => by rw [hh] at e; exact h48 (Option.some.inj e)
            clear hh h48 hx g1 g2
            go_wp2_with fail
            refine (HDL.out wr).mono ?_
            rintro e w1 ⟨rfl, rfl⟩
            go_wp2_with fail
            refine ⟨⟨0 + 1, n * 10 + (s[0].toNat - 48), by omega, by omega, HX.out.2.2, congrArg (Value.int .i64) (by have := HX.out.1; omega), by simp, HX.out.2.1, HAL.out, HZZ.out, trivial⟩, by simp only [Go.RowKit.intOf]; omega⟩
        · by_cases hk44 : k = 4
          · have e : limL s.data.toList = 0 := if_pos (.inr (.inl (by have := HS.out; omega)))
            have E := Lib.hid e
            clear e hx
            subst hk44
            go_wp2_with fail
            refine (HDL.out wr).mono ?_
            rintro e w1 ⟨rfl, rfl⟩
            go_wp2_with fail
            go_ret
            exact ⟨by rw [E.out]; rfl, Below.refl _ _⟩
          · have q4 : ((k : Int) == 4) = false := by apply beq_false_of_ne; omega
            have q5 : ((k : Int) == 0) = false := by apply beq_false_of_ne; omega
            have HX := Lib.hid (And.intro g1 (And.intro hx (decFrom_bound hx (by rw [List.length_take]; omega))))
            have HZZ : Hid (0 < k + 1 → s.data.toList.head? ≠ some 48) := fun _ => HZ.out (by omega)
            clear hx g1 g2
            go_wp2_with fail
            refine (HDL.out wr).mono ?_
            rintro e w1 ⟨rfl, rfl⟩
            go_wp2_with fail
            refine ⟨⟨k + 1, n * 10 + (s[k].toNat - 48), by omega, by omega, HX.out.2.2, congrArg (Value.int .i64) (by have := HX.out.1; omega), by push_cast; rfl, HX.out.2.1, HAL.out, HZZ.out, trivial⟩, by simp only [Go.RowKit.intOf]; omega⟩
    · obtain rfl : k = s.size := by omega
      have hN := HN.out
      rw [List.take_of_length_le (by rw [HS.out]; exact Nat.le_refl _)] at hN
      have hA := HA.out
      rw [List.take_of_length_le (by rw [HS.out]; exact Nat.le_refl _)] at hA
      have e : limL s.data.toList = n := by
        unfold limL
        by_cases h0 : s.size = 0
        · have hl : s.data.toList = [] := List.eq_nil_of_length_eq_zero (by rw [HS.out]; exact h0)
          rw [hl] at hN ⊢
          simp [Lib.decFrom] at hN
          simp [hN]
        · rw [if_neg (by
            rintro (e | e | e | e)
            · rw [HS.out] at e; omega
            · rw [HS.out] at e; omega
            · exact HZ.out (by omega) e
            · exact e hA), hN]
          rfl
      have E := Lib.hid e
      clear e hN hA
      go_wp2_with fail
      go_ret
      exact ⟨by rw [E.out]; rfl, Below.refl _ _⟩
end Go.Proofs.YtmgnhbihfgpccaaGreatDoor
end
section
/- glob.Cut and the answers' Cut. -/
namespace Go.Proofs.YtmgnhbihfgpccaaGreatDoor
open Go.RowKit

theorem results_tmp4 {fn : Func} {t u v x : Tmp} (h : fn.results = #[.tmp t, .tmp u, .tmp v, .tmp x]) (tmps : Array Value) (P : Program) (w : World) :
    (results fn tmps).run P w = .ok (.tuple #[tmps.getD t undef, tmps.getD u undef, tmps.getD v undef, tmps.getD x undef]) w := by
  simp [results, h]

def noCut : Value := .tuple #[.string ⟨#[]⟩, .string ⟨#[]⟩, .string ⟨#[]⟩, .bool false]










/-- what a mask with a ! at b and an @ as many behind it is cut into -/
def gV (s : ByteArray) (b o : Nat) : Value := if (64 ∈ s.data.toList.take b) ∨ (s.extract 0 b).toList = [] ∨ ((s.extract (b + 1) s.size).extract 0 o).toList = [] ∨ ((s.extract (b + 1) s.size).extract (o + 1) (s.size - (b + 1))).toList = [] then noCut else .tuple #[.string (s.extract 0 b), .string ((s.extract (b + 1) s.size).extract 0 o), .string ((s.extract (b + 1) s.size).extract (o + 1) (s.size - (b + 1))), .bool true]


end Go.Proofs.YtmgnhbihfgpccaaGreatDoor
end
section
/- glob.Cut and the answers' Cut: one answer; whole masks, as mathematics. -/
namespace Go.Proofs.YtmgnhbihfgpccaaGreatDoor
open Go.RowKit

/-- a whole mask and its parts -/
def Whole (l n u h : List UInt8) : Prop := l = n ++ 33 :: (u ++ 64 :: h) ∧ n ≠ [] ∧ u ≠ [] ∧ h ≠ [] ∧ 33 ∉ n ∧ 64 ∉ n ∧ 64 ∉ u

theorem idx_app {n r : List UInt8} {c : UInt8} (h : c ∉ n) : Lib.indexByte (n ++ c :: r) c = n.length := by
  refine idx_of (by simp) fun j hj e => ?_
  rw [List.getElem?_append_left hj] at e
  exact h (List.mem_of_getElem? e)
theorem idx_split {l : List UInt8} {c : UInt8} {b : Nat} (h : Lib.indexByte l c = b) : l = l.take b ++ c :: l.drop (b + 1) ∧ c ∉ l.take b := by
  have hb := idx_lt h
  have ⟨h1, h2⟩ := Lib.indexByte_some h
  constructor
  · have e : l[b] = c := by
      have := List.getElem?_eq_getElem hb
      rw [this] at h1; exact Option.some.inj h1
    conv => lhs; rw [← List.take_append_drop b l, List.drop_eq_getElem_cons hb, e]
  · intro hm
    have := contains_take_no (l := l) (c := c) (b := b) h2
    rw [Bool.eq_false_iff, ne_eq, List.contains_iff_mem] at this
    exact this hm
theorem whole_idx {l n u h : List UInt8} (H : Whole l n u h) : Lib.indexByte l 33 = n.length := by
  rw [H.1]; exact idx_app H.2.2.2.2.1
theorem whole_rest {l n u h : List UInt8} (H : Whole l n u h) : l.drop (n.length + 1) = u ++ 64 :: h := by
  rw [H.1, List.drop_append]; simp
theorem whole_idx2 {l n u h : List UInt8} (H : Whole l n u h) : Lib.indexByte (l.drop (n.length + 1)) 64 = u.length := by
  rw [whole_rest H]; exact idx_app H.2.2.2.2.2.2
theorem whole_of {l : List UInt8} {b o : Nat} (hb : Lib.indexByte l 33 = b) (ho : Lib.indexByte (l.drop (b + 1)) 64 = o) (h1 : 64 ∉ l.take b) (h2 : l.take b ≠ []) (h3 : (l.drop (b + 1)).take o ≠ []) (h4 : (l.drop (b + 1)).drop (o + 1) ≠ []) :
    Whole l (l.take b) ((l.drop (b + 1)).take o) ((l.drop (b + 1)).drop (o + 1)) := by
  have ⟨e1, e2⟩ := idx_split hb
  have ⟨e3, e4⟩ := idx_split ho
  refine ⟨?_, h2, h3, h4, e2, h1, e4⟩
  rw [← e3]; exact e1

/-- what a mask is cut into -/
def cutV (s : ByteArray) : Value :=
  if Lib.indexByte s.data.toList 33 = -1 then noCut
  else if Lib.indexByte (s.data.toList.drop ((Lib.indexByte s.data.toList 33).toNat + 1)) 64 = -1 then noCut
  else gV s (Lib.indexByte s.data.toList 33).toNat (Lib.indexByte (s.data.toList.drop ((Lib.indexByte s.data.toList 33).toNat + 1)) 64).toNat
theorem cutV_n {s : ByteArray} (h : Lib.indexByte s.data.toList 33 = -1) : cutV s = noCut := by unfold cutV; rw [if_pos h]
theorem cutV_m {s : ByteArray} {b : Nat} (h : Lib.indexByte s.data.toList 33 = b) (h2 : Lib.indexByte (s.data.toList.drop (b + 1)) 64 = -1) : cutV s = noCut := by
  unfold cutV; rw [if_neg (by omega), h, if_pos (by simpa using h2)]
theorem cutV_y {s : ByteArray} {b o : Nat} (h : Lib.indexByte s.data.toList 33 = b) (h2 : Lib.indexByte (s.data.toList.drop (b + 1)) 64 = o) : cutV s = gV s b o := by
  unfold cutV; rw [if_neg (by omega), h, Int.toNat_natCast, if_neg (by omega), h2, Int.toNat_natCast]

theorem ex_nil {s : ByteArray} : (s.toList = []) ↔ s.data.toList = [] := by rw [ByteArray.toList_eq]
theorem gV_data (s : ByteArray) (b o : Nat) : gV s b o = if (64 ∈ s.data.toList.take b) ∨ s.data.toList.take b = [] ∨ (s.data.toList.drop (b + 1)).take o = [] ∨ (s.data.toList.drop (b + 1)).drop (o + 1) = [] then noCut else .tuple #[.string (bs (s.data.toList.take b)), .string (bs ((s.data.toList.drop (b + 1)).take o)), .string (bs ((s.data.toList.drop (b + 1)).drop (o + 1))), .bool true] := by
  have e1 : (s.extract 0 b).data.toList = s.data.toList.take b := ba_extract0 _ _
  have e2 : ((s.extract (b + 1) s.size).extract 0 o).data.toList = (s.data.toList.drop (b + 1)).take o := by rw [ba_extract0, ba_extract_to]
  have e3 : ((s.extract (b + 1) s.size).extract (o + 1) (s.size - (b + 1))).data.toList = (s.data.toList.drop (b + 1)).drop (o + 1) := by
    have := ba_extract_to (s.extract (b + 1) s.size) (o + 1)
    rw [show (s.extract (b + 1) s.size).size = s.size - (b + 1) from by simp [ByteArray.size_extract]] at this
    rw [this, ba_extract_to]
  unfold gV
  simp only [ex_nil, e1, e2, e3]
  rw [show s.extract 0 b = bs (s.data.toList.take b) from ba_ext (by rw [e1]; simp), show (s.extract (b + 1) s.size).extract 0 o = bs ((s.data.toList.drop (b + 1)).take o) from ba_ext (by rw [e2]; simp), show (s.extract (b + 1) s.size).extract (o + 1) (s.size - (b + 1)) = bs ((s.data.toList.drop (b + 1)).drop (o + 1)) from ba_ext (by rw [e3]; simp)]

theorem cutV_yes {s : ByteArray} {n u h : List UInt8} (H : Whole s.data.toList n u h) : cutV s = .tuple #[.string (bs n), .string (bs u), .string (bs h), .bool true] := by
  rw [cutV_y (whole_idx H) (whole_idx2 H), gV_data]
  have e1 : s.data.toList.take n.length = n := by rw [H.1]; simp
  rw [whole_rest H, e1, List.take_left, show (u ++ 64 :: h).drop (u.length + 1) = h from by rw [List.drop_append]; simp]
  rw [if_neg]
  rintro (h1 | h1 | h1 | h1)
  · exact H.2.2.2.2.2.1 h1
  · exact H.2.1 h1
  · exact H.2.2.1 h1
  · exact H.2.2.2.1 h1
theorem cutV_no {s : ByteArray} (H : ¬ ∃ n u h, Whole s.data.toList n u h) : cutV s = noCut := by
  rcases idx_cases s.data.toList 33 with hb | ⟨b, hb⟩
  · exact cutV_n hb
  · rcases idx_cases (s.data.toList.drop (b + 1)) 64 with ho | ⟨o, ho⟩
    · exact cutV_m hb ho
    · rw [cutV_y hb ho, gV_data]
      by_cases h1 : (64 ∈ s.data.toList.take b) ∨ s.data.toList.take b = [] ∨ (s.data.toList.drop (b + 1)).take o = [] ∨ (s.data.toList.drop (b + 1)).drop (o + 1) = []
      · rw [if_pos h1]
      · exfalso
        simp only [not_or] at h1
        exact H ⟨_, _, _, whole_of hb ho h1.1 h1.2.1 h1.2.2.1 h1.2.2.2⟩


theorem drew_of_same {P : Program} {f : Nat} {args : Array Value} {w : World} {v : Value} (h : Calls P f args w fun e w' => e = .returned v ∧ w = w') : Calls P f args w fun e w' => e = .returned v ∧ ∃ n, w' = w.drewN n :=
  h.mono fun _ _ ⟨h1, h2⟩ => ⟨h1, 0, h2.symm⟩


/-! what is made a whole one is one, and stays -/
theorem starL_ne (l : List UInt8) : starL l ≠ [] := by
  unfold starL
  split
  · simp
  · intro h; subst h; simp at *
theorem starL_of {l : List UInt8} (h : l ≠ []) : starL l = l := by
  unfold starL
  rw [if_neg (by intro e; exact h (List.length_eq_zero_iff.1 e))]
theorem starL_mem {l : List UInt8} {c : UInt8} (hc : c ≠ 42) (h : c ∉ l) : c ∉ starL l := by
  unfold starL
  split
  · simpa using hc
  · exact h
theorem join_whole {n u h : List UInt8} (h1 : 33 ∉ n) (h2 : 64 ∉ n) (h3 : 64 ∉ u) : Whole (joinL n u h) (starL n) (starL u) (starL h) := by
  refine ⟨by unfold joinL; simp, starL_ne _, starL_ne _, starL_ne _, starL_mem (by decide) h1, starL_mem (by decide) h2, starL_mem (by decide) h3⟩
theorem whole_comp {s : ByteArray} {n u h : List UInt8} (H : Whole s.data.toList n u h) : compS s = s.data.toList := by
  have hb := whole_idx H
  have ho := whole_idx2 H
  have hbl := idx_lt hb
  have hj : joinL n u h = s.data.toList := by unfold joinL; rw [starL_of H.2.1, starL_of H.2.2.1, starL_of H.2.2.2.1, H.1]; simp
  have ha : Lib.indexByte s.data.toList 64 = ((n.length + 1 + u.length : Nat) : Int) := by
    refine idx_of ?_ fun j hj e => ?_
    · rw [H.1, List.getElem?_append_right (by omega)]
      rw [show n.length + 1 + u.length - n.length = u.length + 1 by omega, List.getElem?_cons_succ]
      simp
    · rw [H.1] at e
      by_cases h1 : j < n.length
      · rw [List.getElem?_append_left h1] at e
        exact H.2.2.2.2.2.1 (List.mem_of_getElem? e)
      · rw [List.getElem?_append_right (by omega)] at e
        by_cases h2 : j = n.length
        · rw [h2] at e; simp at e
        · rw [show j - n.length = (j - n.length - 1) + 1 by omega, List.getElem?_cons_succ, List.getElem?_append_left (by omega)] at e
          exact H.2.2.2.2.2.2 (List.mem_of_getElem? e)
  unfold compS
  rw [ha, hb]
  simp only []
  rw [if_neg (by omega), if_neg (by omega)]
  simp only [Int.toNat_natCast]
  rw [← hj]
  congr 1
  · rw [ba_extract0, H.1]; simp
  · rw [Lib.extract_data, show n.length + 1 + u.length - (n.length + 1) = u.length by omega, whole_rest H]; simp
  · rw [ba_extract_to, show n.length + 1 + u.length + 1 = (n.length + 1) + (u.length + 1) by omega, ← List.drop_drop, whole_rest H, List.drop_append]; simp
theorem not_mem_take {l : List UInt8} {c : UInt8} {k : Nat} (h : ∀ j, j < k → l[j]? ≠ some c) : c ∉ l.take k := by
  have := contains_take_no h
  rw [Bool.eq_false_iff, ne_eq, List.contains_iff_mem] at this
  exact this
theorem not_mem_all {l : List UInt8} {c : UInt8} (h : Lib.indexByte l c = -1) : c ∉ l := by
  have := contains_none h
  rw [Bool.eq_false_iff, ne_eq, List.contains_iff_mem] at this
  exact this
theorem comp_whole (s : ByteArray) : ∃ n u h, Whole (compS s) n u h := by
  unfold compS
  simp only []
  rcases idx_cases s.data.toList 64 with ha | ⟨a, ha⟩
  · rw [if_pos ha]
    have n64 := not_mem_all ha
    rcases idx_cases s.data.toList 33 with hb | ⟨b, hb⟩
    · rw [if_pos hb]
      exact ⟨_, _, _, join_whole (not_mem_all hb) n64 (by simp)⟩
    · rw [if_neg (by omega), hb, Int.toNat_natCast]
      refine ⟨_, _, _, join_whole ?_ ?_ ?_⟩
      · rw [ba_extract0]; exact (idx_split hb).2
      · rw [ba_extract0]; exact fun h => n64 (List.mem_of_mem_take h)
      · rw [ba_extract_to]; exact fun h => n64 (List.mem_of_mem_drop h)
  · rw [if_neg (by omega)]
    have h2 := (Lib.indexByte_some ha).2
    by_cases hc : Lib.indexByte s.data.toList 33 = -1 ∨ Lib.indexByte s.data.toList 64 < Lib.indexByte s.data.toList 33
    · rw [if_pos hc, ha, Int.toNat_natCast]
      refine ⟨_, _, _, join_whole (by simp) (by simp) ?_⟩
      rw [ba_extract0]; exact not_mem_take h2
    · rw [if_neg hc]
      rcases idx_cases s.data.toList 33 with hb | ⟨b, hb⟩
      · exact absurd (.inl hb) hc
      · rw [ha, hb] at hc
        rw [ha, hb, Int.toNat_natCast, Int.toNat_natCast]
        have hba : b ≤ a := by omega
        refine ⟨_, _, _, join_whole ?_ ?_ ?_⟩
        · rw [ba_extract0]; exact (idx_split hb).2
        · rw [ba_extract0]; exact not_mem_take fun j hj => h2 j (by omega)
        · rw [Lib.extract_data]
          refine not_mem_take fun j hj => ?_
          rw [List.getElem?_drop]
          exact h2 _ (by omega)
end Go.Proofs.YtmgnhbihfgpccaaGreatDoor
end
section
/- The answers' Match: row by row. -/
namespace Go.Proofs.YtmgnhbihfgpccaaGreatDoor
open Go.RowKit

theorem bl_congr {f g : Nat → Bool} {n : Nat} (h : ∀ i, i < n → f i = g i) : bl f n = bl g n := by
  apply List.ext_getElem?
  intro i
  by_cases hl : i < n
  · rw [bl_get f hl, bl_get g hl, h i hl]
  · rw [List.getElem?_eq_none (by rw [bl_len]; omega), List.getElem?_eq_none (by rw [bl_len]; omega)]
/-- a row as far as it is reckoned -/
def part (m s : List UInt8) (k i j : Nat) : Bool := decide (j < i) && row m s k j
theorem part_zero (m s : List UInt8) (k : Nat) (n : Nat) : bl (part m s k 0) n = bl (fun _ => false) n := bl_congr fun i _ => by simp [part]
theorem part_all (m s : List UInt8) (k : Nat) (n : Nat) : bl (part m s k n) n = bl (row m s k) n := bl_congr fun i h => by simp [part, h]
theorem part_set (m s : List UInt8) (k i n : Nat) (b : Bool) (h : row m s k i = b) : (bl (part m s k i) n).set i (.bool b) = bl (part m s k (i + 1)) n :=
  bl_set _ _ b (by simp [part, h]) fun j _ hj => by
    unfold part
    by_cases h1 : j < i
    · simp [h1, show j < i + 1 by omega]
    · simp [h1, show ¬ j < i + 1 by omega]
theorem part_same (m s : List UInt8) (k i n : Nat) (h : row m s k i = false) : bl (part m s k i) n = bl (part m s k (i + 1)) n :=
  bl_congr fun j _ => by
    unfold part
    by_cases h1 : j = i
    · subst h1; simp [h]
    · by_cases h2 : j < i
      · simp [h2, show j < i + 1 by omega]
      · simp [h2, show ¬ j < i + 1 by omega]
theorem Tryz.infoB : (Tryz.prog.info? 4).map (fun i => (i.zero, i.size, i.bytes)) = some (some (.bool false), 1, 1) := by kernel_rfl

/-- what the inner loop keeps -/
structure Two (w : World) (m s : List UInt8) (k g g2 i n : Nat) (W : World) : Prop where
  now : W.ownsRow w.heap.size 4 1 (.slice (some ⟨g, 0, none⟩) n n) n (bl (row m s k) n)
  next : W.ownsRow w.heap.size 4 1 (.slice (some ⟨g2, 0, none⟩) n n) n (bl (part m s (k + 1) i) n)
  below : Below w.heap.size w W
  ne : g ≠ g2
theorem Two.set {w : World} {m s : List UInt8} {k g g2 i n : Nat} {W : World} (h : Two w m s k g g2 i n W) (b : Bool) (hb : row m s (k + 1) i = b) : Two w m s k g g2 (i + 1) n (W.setCell ⟨g2, i, none⟩ (.bool b)) := by
  obtain ⟨h1, h2⟩ := h.next.stored i (.bool b)
  refine ⟨h.now.kept h2 (.inr ?_), ?_, ?_, h.ne⟩
  · simp [Value.ownBlock]; exact h.ne
  · rw [part_set _ _ _ _ _ _ hb] at h1; exact h1
  · exact h.below.setCell (p := ⟨g2, i, none⟩) (h.next.lt g2 rfl).1 _
theorem Two.skip {w : World} {m s : List UInt8} {k g g2 i n : Nat} {W : World} (h : Two w m s k g g2 i n W) (hb : row m s (k + 1) i = false) : Two w m s k g g2 (i + 1) n W :=
  ⟨h.now, part_same m s (k + 1) i n hb ▸ h.next, h.below, h.ne⟩
theorem Two.drew {w : World} {m s : List UInt8} {k g g2 i n : Nat} {W : World} (h : Two w m s k g g2 i n W) : Two w m s k g g2 i n W.drew := ⟨h.now, h.next, h.below.drew, h.ne⟩
theorem Two.cellNow {w : World} {m s : List UInt8} {k g g2 i n : Nat} {W : World} (h : Two w m s k g g2 i n W) {j : Nat} (hj : j < n) {b : Bool} (hb : row m s k j = b) : W.cell? ⟨g, j, none⟩ = some (.bool b) := by
  rw [h.now.cellAt j (by omega), bl_get _ hj, hb]
theorem Two.cellNext {w : World} {m s : List UInt8} {k g g2 i n : Nat} {W : World} (h : Two w m s k g g2 i n W) {j : Nat} (hj : j < n) : W.cell? ⟨g2, j, none⟩ = some (.bool (part m s (k + 1) i j)) := by
  rw [h.next.cellAt j (by omega), bl_get _ hj]

theorem own_first {w1 : World} {B n : Nat} {e : TypeId} (h : w1.ownsRow B e 1 (.slice (some ⟨B, 0, none⟩) (n + 1) (n + 1)) (n + 1) (madeCells (Value.bool false).cells ((n + 1) * 1)).toList) : w1.cell? ⟨B, 0, none⟩ = some (.bool false) := by
  rw [show (madeCells (Value.bool false).cells ((n + 1) * 1)).toList = bl (fun _ => false) (n + 1) from by rw [Nat.mul_one]; exact bl_false _] at h
  rw [h.cellAt 0 (by omega), bl_get _ (by omega)]
set_option maxRecDepth 100000 in
set_option maxHeartbeats 8000000 in
theorem rmatch_any (m s : ByteArray) (w : World) (hm : m.size ≤ 1000000) (hs : s.size ≤ 1000000) :
    Calls Tryz.prog 31 #[.string m, .string s] w fun e w' => e = .returned (.bool (mm m.data.toList s.data.toList)) ∧ Below w.heap.size w w' := by
  have mixed : Tryz.prog.follows Departure.mixedOrders = true := by kernel_rfl
  obtain ⟨i0, hi, hz0, hz1, hz2⟩ := info_parts Tryz.infoB
  have hlm := len_ba m
  have hls := len_ba s
  go_enter Tryz.func31, Tryz.ntmps31
  go_wp2_with (at_make; refine wpList_make_full _ rfl _ _ 89 rfl w.heap.size 4 i0 (.bool false) 1 Tryz.underlying89 hi hz0 hz1 .i64 .i64 ((s.size : Int) + 1) ((s.size : Int) + 1) (s.size + 1) rfl rfl (by push_cast; rfl) (by push_cast; rfl) (by rw [hz2]; omega) (by unfold maxLen; omega) (Nat.le_refl _) ?_; intro w1 hown hgrow; have hc0 := own_first hown; have hf0 := hown.frozenAt 0)
  have hB0 : Below w.heap.size w w1 := (Below.refl _ _).grown hgrow (Nat.le_refl _) (by intro k hk; cases hk)
  have hb0 := hgrow.size
  rw [show (madeCells (Value.bool false).cells ((s.size + 1) * 1)).toList = bl (fun _ => false) (s.size + 1) from by rw [Nat.mul_one]; exact bl_false _] at hown
  have hown1 := (hown.stored 0 (.bool true)).1
  have hB1 : Below w.heap.size w (w1.setCell ⟨w.heap.size, 0, none⟩ (.bool true)) := hB0.setCell (p := ⟨w.heap.size, 0, none⟩) (Nat.le_refl _) _
  rw [show (bl (fun _ => false) (s.size + 1)).set 0 (.bool true) = bl (row m.data.toList s.data.toList 0) (s.size + 1) from bl_set _ _ true (by rw [row_zero _ _ (by omega)]; rfl) fun i hi hi2 => by rw [row_zero _ _ (by omega)]; simpa using hi2] at hown1
  clear hown hgrow hB0
  go_wp2_with fail
  go_loopw [5, 6] (fun v i wr => ∃ k g : Nat, i = .int .i64 k ∧ k ≤ m.size ∧ v = .slice (some ⟨g, 0, none⟩) (s.size + 1) (s.size + 1) ∧ wr.ownsRow w.heap.size 4 1 v (s.size + 1) (bl (row m.data.toList s.data.toList k) (s.size + 1)) ∧ Below w.heap.size w wr) (fun _ i _ => m.size - (Go.RowKit.intOf i).toNat)
  case atStart => exact ⟨0, _, rfl, Nat.zero_le _, rfl, hown1, hB1⟩
  case round =>
    clear hown1 hB1 hc0 hf0 hb0
    obtain ⟨k, g, rfl, hk, rfl, hown, hB⟩ := hrel
    by_cases hlt : k < m.size
    · have hbs := hB.size
      go_wp2_with (at_make; refine wpList_make_full _ rfl _ _ 89 rfl w.heap.size 4 i0 (.bool false) 1 Tryz.underlying89 hi hz0 hz1 .i64 .i64 ((s.size : Int) + 1) ((s.size : Int) + 1) (s.size + 1) rfl rfl (by push_cast; rfl) (by push_cast; rfl) (by rw [hz2]; omega) (by unfold maxLen; omega) (by omega) ?_; intro w2 hown2 hgrow2)
      have hT : Two w m.data.toList s.data.toList k g wr.heap.size 0 (s.size + 1) w2 := by
        refine ⟨hown.kept hgrow2 (.inr (by simp [Value.ownBlock])), ?_, hB.grown hgrow2 hbs (by intro k hk; cases hk), ?_⟩
        · rw [part_zero]
          rw [show (madeCells (Value.bool false).cells ((s.size + 1) * 1)).toList = bl (fun _ => false) (s.size + 1) from by rw [Nat.mul_one]; exact bl_false _] at hown2
          exact hown2
        · have := (hown.lt g rfl).2; omega
      have hgl := (hown.lt g rfl).1
      clear hown hB hown2 hgrow2 hbs
      obtain ⟨wo, hwo⟩ : ∃ wo : World, wo = wr := ⟨_, rfl⟩
      subst hwo
      go_loopw [8] (fun j wi => ∃ i : Nat, j = .int .i64 i ∧ i ≤ s.size + 1 ∧ Two w m.data.toList s.data.toList k g wo.heap.size i (s.size + 1) wi) (fun j _ => s.size + 1 - (Go.RowKit.intOf j).toNat)
      case atStart => exact ⟨0, rfl, Nat.zero_le _, hT⟩
      case round =>
        clear hT
        obtain ⟨i, rfl, hi2, hT⟩ := hrel
        have hge : 0 ≤ (m[k].toNat : Int) := by omega
        by_cases hin : i < s.size + 1
        · have hle : i ≤ s.size := by omega
          have hcs := hT.cellNext hin
          have hfs := hT.next.frozenAt i
          have HT := Lib.hid hT
          by_cases h1 : m[k] = 42
          · have hc1 : ((m[k].toNat : Int) == 42) = true := by rw [h1]; rfl
            have hstar := row_star m.data.toList s.data.toList (k := k) (i := i) (by omega) (by omega) h1
            cases hb1 : row m.data.toList s.data.toList k i with
            | true =>
              have hcn := hT.cellNow hin hb1
              rw [hb1, Bool.true_or] at hstar
              have R := Lib.hid (hT.set true hstar)
              clear hT hstar hb1 h1
              go_wp2_with fail
              go_roundw
              case rel => exact ⟨i + 1, by go_num, by omega, R.out⟩
              case measure => simp [Go.RowKit.intOf]; omega
            | false =>
              have hcn := hT.cellNow hin hb1
              rw [hb1, Bool.false_or] at hstar
              by_cases h0 : i = 0
              · subst h0
                have R := Lib.hid (hT.set false (by rw [hstar]; rfl))
                clear hT hstar hb1 h1
                go_wp2_with fail
                go_roundw
                case rel => exact ⟨1, by go_num, by omega, R.out⟩
                case measure => simp [Go.RowKit.intOf]
              · have h0' : 1 ≤ i := by omega
                have hi1 : i - 1 < s.size + 1 := by omega
                have hcp := hT.cellNext hi1
                have hp : part m.data.toList s.data.toList (k + 1) i (i - 1) = row m.data.toList s.data.toList (k + 1) (i - 1) := by unfold part; simp; omega
                rw [hp] at hcp
                rw [show decide (0 < i) = true from decide_eq_true (by omega), Bool.true_and] at hstar
                have R := Lib.hid (hT.set _ hstar)
                cases hb2 : row m.data.toList s.data.toList (k + 1) (i - 1)
                all_goals
                  rw [hb2] at hcp R
                  clear hT hstar hb1 h1 hb2 hp h0
                  go_wp2_with fail
                  go_roundw
                  case rel => exact ⟨i + 1, by go_num, by omega, R.out⟩
                  case measure => simp [Go.RowKit.intOf]; omega
          · have hc1 : ((m[k].toNat : Int) == 42) = false := by
              rw [beq_eq_false_iff_ne]; intro e; exact h1 (UInt8.toNat_inj.mp (by have : (42 : UInt8).toNat = 42 := rfl; omega))
            by_cases h0 : i = 0
            · subst h0
              have R := Lib.hid (hT.skip (row_other0 m.data.toList s.data.toList (k := k) (by omega) h1))
              clear hT h1
              go_wp2_with fail
              go_roundw
              case rel => exact ⟨1, by go_num, by omega, R.out⟩
              case measure => simp [Go.RowKit.intOf]
            · have h0' : 1 ≤ i := by omega
              have hi1 : i - 1 < s.size + 1 := by omega
              have hi1s : i - 1 < s.size := by omega
              have hoth := row_other m.data.toList s.data.toList (k := k) (i := i - 1) (by omega) (by omega) h1
              rw [show i - 1 + 1 = i by omega] at hoth
              cases hb1 : row m.data.toList s.data.toList k (i - 1) with
              | false =>
                have hcn := hT.cellNow hi1 hb1
                rw [hb1, Bool.false_and] at hoth
                have R := Lib.hid (hT.skip hoth)
                clear hT hoth hb1 h1 h0
                go_wp2_with fail
                go_roundw
                case rel => exact ⟨i + 1, by go_num, by omega, R.out⟩
                case measure => simp [Go.RowKit.intOf]; omega
              | true =>
                have hcn := hT.cellNow hi1 hb1
                rw [hb1, Bool.true_and, get_ba m k hlt, get_ba s _ hi1s] at hoth
                have R := Lib.hid (hT.set _ hoth)
                have q1 : (1 : Int) ≤ (i : Int) ∧ (i : Int) - 1 < (s.size : Int) := by omega
                have q2 : (1 : Int) ≤ (i : Int) := by omega
                have q3 : (i : Int) - 1 < (s.size : Int) := by omega
                have q4 : (i : Int) < (s.size : Int) + 1 := by omega
                have q5 : (k : Int) < (m.size : Int) := by omega
                cases h2 : ((m[k].toNat : Int) == 63)
                · have e : (m[k] == 63) = false := by rw [← u8_beq m[k] 63]; exact h2
                  obtain ⟨bb, hbb⟩ : ∃ bb, mb m[k] s[i - 1] = bb := ⟨_, rfl⟩
                  rw [hbb] at R
                  unfold mb at hbb
                  rw [e, Bool.false_or, ← u8_beq] at hbb
                  clear hT hoth hb1 h1 h0 e
                  go_wp2_with fail
                  have s1 : IntKind.i64.wrap ((i : Int) - 1) = (i : Int) - 1 := IntWalk.i64_in _ (by omega)
                  have s2 : (0 : Int) ≤ (i : Int) - 1 := by omega
                  have s3 : ((i : Int) - 1).toNat = i - 1 := by omega
                  go_region_with_o (refine (refbyte _ _).mono ?_; rintro e w' ⟨rfl, rfl⟩)
                  all_goals try clear s1
                  all_goals go_wp2_with fail
                  all_goals go_roundw
                  all_goals first | (case rel => exact ⟨i + 1, by go_num, by omega, R.out.drew⟩) | (case measure => simp [Go.RowKit.intOf]; omega)
                · have e : (m[k] == 63) = true := by rw [← u8_beq m[k] 63]; exact h2
                  rw [show mb m[k] s[i - 1] = true from by unfold mb; rw [e, Bool.true_or]] at R
                  clear hT hoth hb1 h1 h0 e
                  go_wp2_with fail
                  go_region
                  all_goals go_wp2_with fail
                  all_goals go_roundw
                  all_goals first | (case rel => exact ⟨i + 1, by go_num, by omega, R.out.drew⟩) | (case measure => simp [Go.RowKit.intOf]; omega)
        · obtain rfl : i = s.size + 1 := by omega
          have hnow := hT.next
          rw [part_all] at hnow
          have hB := hT.below
          clear hT
          go_wp2_with fail
          go_roundw
          case rel => exact ⟨k + 1, _, by go_num, by omega, rfl, hnow, hB⟩
          case measure => simp [Go.RowKit.intOf]; omega
    · obtain rfl : k = m.size := by omega
      have hc : wr.cell? ⟨g, s.size, none⟩ = some (.bool (mm m.data.toList s.data.toList)) := by
        rw [hown.cellAt _ (by omega), bl_get _ (by omega), ← row_all, hlm, hls]
      go_wp2_with fail
      go_ret
      exact ⟨rfl, hB⟩
end Go.Proofs.YtmgnhbihfgpccaaGreatDoor
end
section
/- glob.Short and the answers' Short. -/
namespace Go.Proofs.YtmgnhbihfgpccaaGreatDoor
open Go.RowKit

/-- what is written so far, and whether a star waits -/
def shStep (st : List UInt8 × Bool) (c : UInt8) : List UInt8 × Bool :=
  if c = 42 then (st.1, true) else if c = 63 then (st.1 ++ [63], st.2) else ((if st.2 then st.1 ++ [42] else st.1) ++ [c], false)
def shS (l : List UInt8) : List UInt8 × Bool := l.foldl shStep ([], false)
def shortL (l : List UInt8) : List UInt8 := if (shS l).2 then (shS l).1 ++ [42] else (shS l).1
theorem shS_snoc (l : List UInt8) (c : UInt8) : shS (l ++ [c]) = shStep (shS l) c := by simp [shS]
theorem shS_next (s : ByteArray) (k : Nat) (h : k < s.size) : shS (s.data.toList.take (k + 1)) = shStep (shS (s.data.toList.take k)) s[k] := by
  rw [ba_take s k h, shS_snoc]
theorem shS_len (l : List UInt8) : (shS l).1.length + (if (shS l).2 then 1 else 0) ≤ l.length := by
  induction l using snoc_ind with
  | nil => simp [shS]
  | snoc l c ih =>
    rw [shS_snoc]
    unfold shStep
    simp only [List.length_append, List.length_cons, List.length_nil]
    by_cases h1 : c = 42
    · rw [if_pos h1]; simp only [if_true]; split at ih <;> omega
    · rw [if_neg h1]
      by_cases h2 : c = 63
      · rw [if_pos h2]; simp only [List.length_append, List.length_cons, List.length_nil]; split at ih <;> simp_all <;> omega
      · rw [if_neg h2]; simp only [List.length_append, List.length_cons, List.length_nil]; split at ih <;> simp_all
theorem shS_last (l : List UInt8) : ∀ x, (shS l).1.getLast? = some x → x ≠ 42 := by
  induction l using snoc_ind with
  | nil => simp [shS]
  | snoc l c ih =>
    rw [shS_snoc]
    unfold shStep
    intro x
    by_cases h1 : c = 42
    · rw [if_pos h1]; exact ih x
    · rw [if_neg h1]
      by_cases h2 : c = 63
      · rw [if_pos h2]; simp; intro h; subst h; decide
      · rw [if_neg h2]; simp; intro h; subst h; exact h1

/-- bytes as cells -/
def u8c (l : List UInt8) : List Value := l.map fun b => Value.int .u8 b.toNat
theorem u8c_append (a b : List UInt8) : u8c (a ++ b) = u8c a ++ u8c b := by simp [u8c]
theorem Tryz.infoU8b : (Tryz.prog.info? 5).map (fun i => (i.zero, i.size, i.bytes)) = some (some (.int .u8 0), 1, 1) := by kernel_rfl

end Go.Proofs.YtmgnhbihfgpccaaGreatDoor
end
section
/- The answers' Short. -/
namespace Go.Proofs.YtmgnhbihfgpccaaGreatDoor
open Go.RowKit

theorem short_len (l : List UInt8) : (shortL l).length ≤ l.length := by
  have := shS_len l
  unfold shortL
  split <;> rename_i h <;> simp [h] at this ⊢ <;> omega
/-- one byte more -/
theorem short_next (s : ByteArray) (k : Nat) (h : k < s.size) : shortL (s.data.toList.take (k + 1)) =
    if s[k] = 42 then (shS (s.data.toList.take k)).1 ++ [42] else if s[k] = 63 ∧ (shS (s.data.toList.take k)).2 = true then (shS (s.data.toList.take k)).1 ++ [63, 42] else shortL (s.data.toList.take k) ++ [s[k]] := by
  unfold shortL
  rw [shS_next s k h]
  obtain ⟨⟨o, st⟩, ho⟩ : ∃ x, shS (s.data.toList.take k) = x := ⟨_, rfl⟩
  rw [ho]
  unfold shStep
  by_cases h1 : s[k] = 42
  · simp [h1]
  · by_cases h2 : s[k] = 63
    · cases st <;> simp [h2]
    · cases st <;> simp [h1, h2]
theorem app_one (t s : ByteArray) (k : Nat) (h : k < s.size) : (t ++ s.extract k (k + 1)).data.toList = t.data.toList ++ [s[k]] := by
  have : (s.extract k (k + 1)).data.toList = [s[k]] := by
    rw [Lib.extract_data, show k + 1 - k = 1 by omega, List.drop_eq_getElem_cons (by simpa using h), get_ba s k h]; rfl
  rw [← this]; simp
theorem last_at {t : ByteArray} {o : List UInt8} {c : UInt8} (h : t.data.toList = o ++ [c]) (h0 : 0 < t.size) : t[t.size - 1] = c := by
  have h1 : t[t.size - 1] = t.data.toList[t.size - 1]'(by simp; omega) := rfl
  have h2 : t.size = o.length + 1 := by rw [← len_ba, h]; simp
  rw [h1]
  have : t.data.toList[t.size - 1]? = some c := by rw [h, h2]; simp
  rw [List.getElem?_eq_getElem (by simp; omega)] at this
  exact Option.some.inj this
theorem last_ne {t : ByteArray} {o : List UInt8} (h : t.data.toList = o) (hl : ∀ x, o.getLast? = some x → x ≠ 42) (h0 : 0 < t.size) : t[t.size - 1] ≠ 42 := by
  refine hl _ ?_
  rw [← h, List.getLast?_eq_getElem?, len_ba, List.getElem?_eq_getElem (by simp; omega)]
  rfl

end Go.Proofs.YtmgnhbihfgpccaaGreatDoor
end
