/- Texts of this proof, one behind the other. -/
import Derived.Test.YtmgnhbihfgpccaaGreatDoorRoomPlaysG12
import Derived.Lib.Overlaps
import Derived.Lib.AppendZerosOnto
import Derived.Shelf.RegionOpenPlain
import Derived.Shelf.Spec.SlicesInsert
set_option linter.unusedVariables false
set_option linter.unusedSimpArgs false
section
/- Layer 19: Change, whatever letter. -/
namespace Go.Proofs.YtmgnhbihfgpccaaGreatDoor
open Go Go.RowKit

set_option maxRecDepth 100000 in
set_option maxHeartbeats 4000000 in
theorem change_L105 {base B : Nat} {q : RmV} {r r' : Rm} {t : Told} {w : World} (h : RoomAt base B q r w) (on : Bool) (arg : List UInt8) (id : Int)
    (hc0 : ∀ W, RowKit.Below w.heap.size w W → Calls Tryz.prog 46 #[.pointer (some ⟨B, 0, none⟩), chgV on 105 arg] W fun e w' => e = .returned t.val ∧ ChgW base B q r' W w') :
    Calls Tryz.prog 24 #[.pointer (some ⟨B, 0, none⟩), chgV on 105 arg, .int .i64 id] w fun e w' => e = .returned t.val ∧ ChgW base B q r' w w' := by
  obtain ⟨W, hW⟩ : ∃ W, ((w.alloc (Obj.cells #[Value.bool on, Value.int IntKind.u8 105, Value.string (bs arg)] 31)).alloc (Obj.cells #[Value.bool false, Value.int IntKind.u8 0, Value.string ⟨#[]⟩] 31)) = W := ⟨_, rfl⟩
  have hb : RowKit.Below w.heap.size w W := by rw [← hW]; exact ((Below.refl _ w).alloc (Nat.le_refl _) _).alloc (by simp) _
  have hz : W.heap.size = w.heap.size + 2 := by rw [← hW]; simp
  have k1 : W.heap[w.heap.size + 1]? = some (.cells #[Value.bool false, Value.int IntKind.u8 0, Value.string ⟨#[]⟩] 31 (0, 0)) := by rw [← hW]; exact heap_alloc2_new w _ _
  have hlt : ∀ k, RmX B q k → k < w.heap.size := fun k hk => (h.lt k hk).2
  have hc := hc0 W hb
  have HC := Lib.hid hc
  have HW := Lib.hid hW
  have H := Lib.hid (And.intro hb (And.intro hz (And.intro k1 hlt)))
  clear h hc hc0 hW hb hz k1 hlt
  unfold chgV at HC ⊢
  go_enter Tryz.func24, Tryz.ntmps24
  go_wp2_with fail
  rw [HW.out]
  refine HC.out.mono ?_
  rintro e w1 ⟨rfl, hcw⟩
  obtain ⟨hb, hz, k1, hlt⟩ := H.out
  have hfr : Fr (RmX B q) W w1 := by obtain ⟨q', _, b, _⟩ := hcw; exact b
  have k2 := hfr.blk k1 fun e => by have := hlt _ e; omega
  have d0 := blk_cell k2 0
  have d1 := blk_cell k2 1
  have d2 := blk_cell k2 2
  have g0 := blk_free k2 0
  have g1 := blk_free k2 1
  have g2 := blk_free k2 2
  have HQ := Lib.hid (And.intro hcw k2)
  obtain ⟨on2, c2, arg2, code⟩ := t
  clear hb hz k1 hlt hfr k2 hcw
  dsimp only [Told.val, chgV]
  go_wp2_with fail
  obtain ⟨hcw, k2⟩ := HQ.out
  obtain ⟨hb, hz, k1, hlt⟩ := H.out
  have k3 := set3R (x := .bool on2) (y := .int .u8 c2.toNat) (z := .string (bs arg2)) k2
  refine bodyPost_ret (res_three rfl rfl (Tryz.isAgg31 _) (Tryz.sizeOf31 _) (blk_cell k3 0) (blk_cell k3 1) (blk_cell k3 2)) rfl ⟨rfl, ?_⟩
  exact hcw.boxed hb hlt (Nat.le_succ _) (by omega) set3R_fr
set_option maxRecDepth 100000 in
set_option maxHeartbeats 4000000 in
theorem change_L109 {base B : Nat} {q : RmV} {r r' : Rm} {t : Told} {w : World} (h : RoomAt base B q r w) (on : Bool) (arg : List UInt8) (id : Int)
    (hc0 : ∀ W, RowKit.Below w.heap.size w W → Calls Tryz.prog 46 #[.pointer (some ⟨B, 0, none⟩), chgV on 109 arg] W fun e w' => e = .returned t.val ∧ ChgW base B q r' W w') :
    Calls Tryz.prog 24 #[.pointer (some ⟨B, 0, none⟩), chgV on 109 arg, .int .i64 id] w fun e w' => e = .returned t.val ∧ ChgW base B q r' w w' := by
  obtain ⟨W, hW⟩ : ∃ W, ((w.alloc (Obj.cells #[Value.bool on, Value.int IntKind.u8 109, Value.string (bs arg)] 31)).alloc (Obj.cells #[Value.bool false, Value.int IntKind.u8 0, Value.string ⟨#[]⟩] 31)) = W := ⟨_, rfl⟩
  have hb : RowKit.Below w.heap.size w W := by rw [← hW]; exact ((Below.refl _ w).alloc (Nat.le_refl _) _).alloc (by simp) _
  have hz : W.heap.size = w.heap.size + 2 := by rw [← hW]; simp
  have k1 : W.heap[w.heap.size + 1]? = some (.cells #[Value.bool false, Value.int IntKind.u8 0, Value.string ⟨#[]⟩] 31 (0, 0)) := by rw [← hW]; exact heap_alloc2_new w _ _
  have hlt : ∀ k, RmX B q k → k < w.heap.size := fun k hk => (h.lt k hk).2
  have hc := hc0 W hb
  have HC := Lib.hid hc
  have HW := Lib.hid hW
  have H := Lib.hid (And.intro hb (And.intro hz (And.intro k1 hlt)))
  clear h hc hc0 hW hb hz k1 hlt
  unfold chgV at HC ⊢
  go_enter Tryz.func24, Tryz.ntmps24
  go_wp2_with fail
  rw [HW.out]
  refine HC.out.mono ?_
  rintro e w1 ⟨rfl, hcw⟩
  obtain ⟨hb, hz, k1, hlt⟩ := H.out
  have hfr : Fr (RmX B q) W w1 := by obtain ⟨q', _, b, _⟩ := hcw; exact b
  have k2 := hfr.blk k1 fun e => by have := hlt _ e; omega
  have d0 := blk_cell k2 0
  have d1 := blk_cell k2 1
  have d2 := blk_cell k2 2
  have g0 := blk_free k2 0
  have g1 := blk_free k2 1
  have g2 := blk_free k2 2
  have HQ := Lib.hid (And.intro hcw k2)
  obtain ⟨on2, c2, arg2, code⟩ := t
  clear hb hz k1 hlt hfr k2 hcw
  dsimp only [Told.val, chgV]
  go_wp2_with fail
  obtain ⟨hcw, k2⟩ := HQ.out
  obtain ⟨hb, hz, k1, hlt⟩ := H.out
  have k3 := set3R (x := .bool on2) (y := .int .u8 c2.toNat) (z := .string (bs arg2)) k2
  refine bodyPost_ret (res_three rfl rfl (Tryz.isAgg31 _) (Tryz.sizeOf31 _) (blk_cell k3 0) (blk_cell k3 1) (blk_cell k3 2)) rfl ⟨rfl, ?_⟩
  exact hcw.boxed hb hlt (Nat.le_succ _) (by omega) set3R_fr
set_option maxRecDepth 100000 in
set_option maxHeartbeats 4000000 in
theorem change_L110 {base B : Nat} {q : RmV} {r r' : Rm} {t : Told} {w : World} (h : RoomAt base B q r w) (on : Bool) (arg : List UInt8) (id : Int)
    (hc0 : ∀ W, RowKit.Below w.heap.size w W → Calls Tryz.prog 46 #[.pointer (some ⟨B, 0, none⟩), chgV on 110 arg] W fun e w' => e = .returned t.val ∧ ChgW base B q r' W w') :
    Calls Tryz.prog 24 #[.pointer (some ⟨B, 0, none⟩), chgV on 110 arg, .int .i64 id] w fun e w' => e = .returned t.val ∧ ChgW base B q r' w w' := by
  obtain ⟨W, hW⟩ : ∃ W, ((w.alloc (Obj.cells #[Value.bool on, Value.int IntKind.u8 110, Value.string (bs arg)] 31)).alloc (Obj.cells #[Value.bool false, Value.int IntKind.u8 0, Value.string ⟨#[]⟩] 31)) = W := ⟨_, rfl⟩
  have hb : RowKit.Below w.heap.size w W := by rw [← hW]; exact ((Below.refl _ w).alloc (Nat.le_refl _) _).alloc (by simp) _
  have hz : W.heap.size = w.heap.size + 2 := by rw [← hW]; simp
  have k1 : W.heap[w.heap.size + 1]? = some (.cells #[Value.bool false, Value.int IntKind.u8 0, Value.string ⟨#[]⟩] 31 (0, 0)) := by rw [← hW]; exact heap_alloc2_new w _ _
  have hlt : ∀ k, RmX B q k → k < w.heap.size := fun k hk => (h.lt k hk).2
  have hc := hc0 W hb
  have HC := Lib.hid hc
  have HW := Lib.hid hW
  have H := Lib.hid (And.intro hb (And.intro hz (And.intro k1 hlt)))
  clear h hc hc0 hW hb hz k1 hlt
  unfold chgV at HC ⊢
  go_enter Tryz.func24, Tryz.ntmps24
  go_wp2_with fail
  rw [HW.out]
  refine HC.out.mono ?_
  rintro e w1 ⟨rfl, hcw⟩
  obtain ⟨hb, hz, k1, hlt⟩ := H.out
  have hfr : Fr (RmX B q) W w1 := by obtain ⟨q', _, b, _⟩ := hcw; exact b
  have k2 := hfr.blk k1 fun e => by have := hlt _ e; omega
  have d0 := blk_cell k2 0
  have d1 := blk_cell k2 1
  have d2 := blk_cell k2 2
  have g0 := blk_free k2 0
  have g1 := blk_free k2 1
  have g2 := blk_free k2 2
  have HQ := Lib.hid (And.intro hcw k2)
  obtain ⟨on2, c2, arg2, code⟩ := t
  clear hb hz k1 hlt hfr k2 hcw
  dsimp only [Told.val, chgV]
  go_wp2_with fail
  obtain ⟨hcw, k2⟩ := HQ.out
  obtain ⟨hb, hz, k1, hlt⟩ := H.out
  have k3 := set3R (x := .bool on2) (y := .int .u8 c2.toNat) (z := .string (bs arg2)) k2
  refine bodyPost_ret (res_three rfl rfl (Tryz.isAgg31 _) (Tryz.sizeOf31 _) (blk_cell k3 0) (blk_cell k3 1) (blk_cell k3 2)) rfl ⟨rfl, ?_⟩
  exact hcw.boxed hb hlt (Nat.le_succ _) (by omega) set3R_fr
set_option maxRecDepth 100000 in
set_option maxHeartbeats 4000000 in
theorem change_L115 {base B : Nat} {q : RmV} {r r' : Rm} {t : Told} {w : World} (h : RoomAt base B q r w) (on : Bool) (arg : List UInt8) (id : Int)
    (hc0 : ∀ W, RowKit.Below w.heap.size w W → Calls Tryz.prog 46 #[.pointer (some ⟨B, 0, none⟩), chgV on 115 arg] W fun e w' => e = .returned t.val ∧ ChgW base B q r' W w') :
    Calls Tryz.prog 24 #[.pointer (some ⟨B, 0, none⟩), chgV on 115 arg, .int .i64 id] w fun e w' => e = .returned t.val ∧ ChgW base B q r' w w' := by
  obtain ⟨W, hW⟩ : ∃ W, ((w.alloc (Obj.cells #[Value.bool on, Value.int IntKind.u8 115, Value.string (bs arg)] 31)).alloc (Obj.cells #[Value.bool false, Value.int IntKind.u8 0, Value.string ⟨#[]⟩] 31)) = W := ⟨_, rfl⟩
  have hb : RowKit.Below w.heap.size w W := by rw [← hW]; exact ((Below.refl _ w).alloc (Nat.le_refl _) _).alloc (by simp) _
  have hz : W.heap.size = w.heap.size + 2 := by rw [← hW]; simp
  have k1 : W.heap[w.heap.size + 1]? = some (.cells #[Value.bool false, Value.int IntKind.u8 0, Value.string ⟨#[]⟩] 31 (0, 0)) := by rw [← hW]; exact heap_alloc2_new w _ _
  have hlt : ∀ k, RmX B q k → k < w.heap.size := fun k hk => (h.lt k hk).2
  have hc := hc0 W hb
  have HC := Lib.hid hc
  have HW := Lib.hid hW
  have H := Lib.hid (And.intro hb (And.intro hz (And.intro k1 hlt)))
  clear h hc hc0 hW hb hz k1 hlt
  unfold chgV at HC ⊢
  go_enter Tryz.func24, Tryz.ntmps24
  go_wp2_with fail
  rw [HW.out]
  refine HC.out.mono ?_
  rintro e w1 ⟨rfl, hcw⟩
  obtain ⟨hb, hz, k1, hlt⟩ := H.out
  have hfr : Fr (RmX B q) W w1 := by obtain ⟨q', _, b, _⟩ := hcw; exact b
  have k2 := hfr.blk k1 fun e => by have := hlt _ e; omega
  have d0 := blk_cell k2 0
  have d1 := blk_cell k2 1
  have d2 := blk_cell k2 2
  have g0 := blk_free k2 0
  have g1 := blk_free k2 1
  have g2 := blk_free k2 2
  have HQ := Lib.hid (And.intro hcw k2)
  obtain ⟨on2, c2, arg2, code⟩ := t
  clear hb hz k1 hlt hfr k2 hcw
  dsimp only [Told.val, chgV]
  go_wp2_with fail
  obtain ⟨hcw, k2⟩ := HQ.out
  obtain ⟨hb, hz, k1, hlt⟩ := H.out
  have k3 := set3R (x := .bool on2) (y := .int .u8 c2.toNat) (z := .string (bs arg2)) k2
  refine bodyPost_ret (res_three rfl rfl (Tryz.isAgg31 _) (Tryz.sizeOf31 _) (blk_cell k3 0) (blk_cell k3 1) (blk_cell k3 2)) rfl ⟨rfl, ?_⟩
  exact hcw.boxed hb hlt (Nat.le_succ _) (by omega) set3R_fr
set_option maxRecDepth 100000 in
set_option maxHeartbeats 4000000 in
theorem change_L116 {base B : Nat} {q : RmV} {r r' : Rm} {t : Told} {w : World} (h : RoomAt base B q r w) (on : Bool) (arg : List UInt8) (id : Int)
    (hc0 : ∀ W, RowKit.Below w.heap.size w W → Calls Tryz.prog 46 #[.pointer (some ⟨B, 0, none⟩), chgV on 116 arg] W fun e w' => e = .returned t.val ∧ ChgW base B q r' W w') :
    Calls Tryz.prog 24 #[.pointer (some ⟨B, 0, none⟩), chgV on 116 arg, .int .i64 id] w fun e w' => e = .returned t.val ∧ ChgW base B q r' w w' := by
  obtain ⟨W, hW⟩ : ∃ W, ((w.alloc (Obj.cells #[Value.bool on, Value.int IntKind.u8 116, Value.string (bs arg)] 31)).alloc (Obj.cells #[Value.bool false, Value.int IntKind.u8 0, Value.string ⟨#[]⟩] 31)) = W := ⟨_, rfl⟩
  have hb : RowKit.Below w.heap.size w W := by rw [← hW]; exact ((Below.refl _ w).alloc (Nat.le_refl _) _).alloc (by simp) _
  have hz : W.heap.size = w.heap.size + 2 := by rw [← hW]; simp
  have k1 : W.heap[w.heap.size + 1]? = some (.cells #[Value.bool false, Value.int IntKind.u8 0, Value.string ⟨#[]⟩] 31 (0, 0)) := by rw [← hW]; exact heap_alloc2_new w _ _
  have hlt : ∀ k, RmX B q k → k < w.heap.size := fun k hk => (h.lt k hk).2
  have hc := hc0 W hb
  have HC := Lib.hid hc
  have HW := Lib.hid hW
  have H := Lib.hid (And.intro hb (And.intro hz (And.intro k1 hlt)))
  clear h hc hc0 hW hb hz k1 hlt
  unfold chgV at HC ⊢
  go_enter Tryz.func24, Tryz.ntmps24
  go_wp2_with fail
  rw [HW.out]
  refine HC.out.mono ?_
  rintro e w1 ⟨rfl, hcw⟩
  obtain ⟨hb, hz, k1, hlt⟩ := H.out
  have hfr : Fr (RmX B q) W w1 := by obtain ⟨q', _, b, _⟩ := hcw; exact b
  have k2 := hfr.blk k1 fun e => by have := hlt _ e; omega
  have d0 := blk_cell k2 0
  have d1 := blk_cell k2 1
  have d2 := blk_cell k2 2
  have g0 := blk_free k2 0
  have g1 := blk_free k2 1
  have g2 := blk_free k2 2
  have HQ := Lib.hid (And.intro hcw k2)
  obtain ⟨on2, c2, arg2, code⟩ := t
  clear hb hz k1 hlt hfr k2 hcw
  dsimp only [Told.val, chgV]
  go_wp2_with fail
  obtain ⟨hcw, k2⟩ := HQ.out
  obtain ⟨hb, hz, k1, hlt⟩ := H.out
  have k3 := set3R (x := .bool on2) (y := .int .u8 c2.toNat) (z := .string (bs arg2)) k2
  refine bodyPost_ret (res_three rfl rfl (Tryz.isAgg31 _) (Tryz.sizeOf31 _) (blk_cell k3 0) (blk_cell k3 1) (blk_cell k3 2)) rfl ⟨rfl, ?_⟩
  exact hcw.boxed hb hlt (Nat.le_succ _) (by omega) set3R_fr
set_option maxRecDepth 100000 in
set_option maxHeartbeats 4000000 in
theorem change_L111 {base B : Nat} {q : RmV} {r r' : Rm} {t : Told} {w : World} (h : RoomAt base B q r w) (on : Bool) (arg : List UInt8) (id : Int)
    (hc0 : ∀ W, RowKit.Below w.heap.size w W → Calls Tryz.prog 47 #[.pointer (some ⟨B, 0, none⟩), chgV on 111 arg, .int .i64 id] W fun e w' => e = .returned t.val ∧ ChgW base B q r' W w') :
    Calls Tryz.prog 24 #[.pointer (some ⟨B, 0, none⟩), chgV on 111 arg, .int .i64 id] w fun e w' => e = .returned t.val ∧ ChgW base B q r' w w' := by
  obtain ⟨W, hW⟩ : ∃ W, ((w.alloc (Obj.cells #[Value.bool on, Value.int IntKind.u8 111, Value.string (bs arg)] 31)).alloc (Obj.cells #[Value.bool false, Value.int IntKind.u8 0, Value.string ⟨#[]⟩] 31)) = W := ⟨_, rfl⟩
  have hb : RowKit.Below w.heap.size w W := by rw [← hW]; exact ((Below.refl _ w).alloc (Nat.le_refl _) _).alloc (by simp) _
  have hz : W.heap.size = w.heap.size + 2 := by rw [← hW]; simp
  have k1 : W.heap[w.heap.size + 1]? = some (.cells #[Value.bool false, Value.int IntKind.u8 0, Value.string ⟨#[]⟩] 31 (0, 0)) := by rw [← hW]; exact heap_alloc2_new w _ _
  have hlt : ∀ k, RmX B q k → k < w.heap.size := fun k hk => (h.lt k hk).2
  have hc := hc0 W hb
  have HC := Lib.hid hc
  have HW := Lib.hid hW
  have H := Lib.hid (And.intro hb (And.intro hz (And.intro k1 hlt)))
  clear h hc hc0 hW hb hz k1 hlt
  unfold chgV at HC ⊢
  go_enter Tryz.func24, Tryz.ntmps24
  go_wp2_with fail
  rw [HW.out]
  refine HC.out.mono ?_
  rintro e w1 ⟨rfl, hcw⟩
  obtain ⟨hb, hz, k1, hlt⟩ := H.out
  have hfr : Fr (RmX B q) W w1 := by obtain ⟨q', _, b, _⟩ := hcw; exact b
  have k2 := hfr.blk k1 fun e => by have := hlt _ e; omega
  have d0 := blk_cell k2 0
  have d1 := blk_cell k2 1
  have d2 := blk_cell k2 2
  have g0 := blk_free k2 0
  have g1 := blk_free k2 1
  have g2 := blk_free k2 2
  have HQ := Lib.hid (And.intro hcw k2)
  obtain ⟨on2, c2, arg2, code⟩ := t
  clear hb hz k1 hlt hfr k2 hcw
  dsimp only [Told.val, chgV]
  go_wp2_with fail
  obtain ⟨hcw, k2⟩ := HQ.out
  obtain ⟨hb, hz, k1, hlt⟩ := H.out
  have k3 := set3R (x := .bool on2) (y := .int .u8 c2.toNat) (z := .string (bs arg2)) k2
  refine bodyPost_ret (res_three rfl rfl (Tryz.isAgg31 _) (Tryz.sizeOf31 _) (blk_cell k3 0) (blk_cell k3 1) (blk_cell k3 2)) rfl ⟨rfl, ?_⟩
  exact hcw.boxed hb hlt (Nat.le_succ _) (by omega) set3R_fr
set_option maxRecDepth 100000 in
set_option maxHeartbeats 4000000 in
theorem change_L118 {base B : Nat} {q : RmV} {r r' : Rm} {t : Told} {w : World} (h : RoomAt base B q r w) (on : Bool) (arg : List UInt8) (id : Int)
    (hc0 : ∀ W, RowKit.Below w.heap.size w W → Calls Tryz.prog 47 #[.pointer (some ⟨B, 0, none⟩), chgV on 118 arg, .int .i64 id] W fun e w' => e = .returned t.val ∧ ChgW base B q r' W w') :
    Calls Tryz.prog 24 #[.pointer (some ⟨B, 0, none⟩), chgV on 118 arg, .int .i64 id] w fun e w' => e = .returned t.val ∧ ChgW base B q r' w w' := by
  obtain ⟨W, hW⟩ : ∃ W, ((w.alloc (Obj.cells #[Value.bool on, Value.int IntKind.u8 118, Value.string (bs arg)] 31)).alloc (Obj.cells #[Value.bool false, Value.int IntKind.u8 0, Value.string ⟨#[]⟩] 31)) = W := ⟨_, rfl⟩
  have hb : RowKit.Below w.heap.size w W := by rw [← hW]; exact ((Below.refl _ w).alloc (Nat.le_refl _) _).alloc (by simp) _
  have hz : W.heap.size = w.heap.size + 2 := by rw [← hW]; simp
  have k1 : W.heap[w.heap.size + 1]? = some (.cells #[Value.bool false, Value.int IntKind.u8 0, Value.string ⟨#[]⟩] 31 (0, 0)) := by rw [← hW]; exact heap_alloc2_new w _ _
  have hlt : ∀ k, RmX B q k → k < w.heap.size := fun k hk => (h.lt k hk).2
  have hc := hc0 W hb
  have HC := Lib.hid hc
  have HW := Lib.hid hW
  have H := Lib.hid (And.intro hb (And.intro hz (And.intro k1 hlt)))
  clear h hc hc0 hW hb hz k1 hlt
  unfold chgV at HC ⊢
  go_enter Tryz.func24, Tryz.ntmps24
  go_wp2_with fail
  rw [HW.out]
  refine HC.out.mono ?_
  rintro e w1 ⟨rfl, hcw⟩
  obtain ⟨hb, hz, k1, hlt⟩ := H.out
  have hfr : Fr (RmX B q) W w1 := by obtain ⟨q', _, b, _⟩ := hcw; exact b
  have k2 := hfr.blk k1 fun e => by have := hlt _ e; omega
  have d0 := blk_cell k2 0
  have d1 := blk_cell k2 1
  have d2 := blk_cell k2 2
  have g0 := blk_free k2 0
  have g1 := blk_free k2 1
  have g2 := blk_free k2 2
  have HQ := Lib.hid (And.intro hcw k2)
  obtain ⟨on2, c2, arg2, code⟩ := t
  clear hb hz k1 hlt hfr k2 hcw
  dsimp only [Told.val, chgV]
  go_wp2_with fail
  obtain ⟨hcw, k2⟩ := HQ.out
  obtain ⟨hb, hz, k1, hlt⟩ := H.out
  have k3 := set3R (x := .bool on2) (y := .int .u8 c2.toNat) (z := .string (bs arg2)) k2
  refine bodyPost_ret (res_three rfl rfl (Tryz.isAgg31 _) (Tryz.sizeOf31 _) (blk_cell k3 0) (blk_cell k3 1) (blk_cell k3 2)) rfl ⟨rfl, ?_⟩
  exact hcw.boxed hb hlt (Nat.le_succ _) (by omega) set3R_fr
set_option maxRecDepth 100000 in
set_option maxHeartbeats 4000000 in
theorem change_L107 {base B : Nat} {q : RmV} {r r' : Rm} {t : Told} {w : World} (h : RoomAt base B q r w) (on : Bool) (arg : List UInt8) (id : Int)
    (hc0 : ∀ W, RowKit.Below w.heap.size w W → Calls Tryz.prog 48 #[.pointer (some ⟨B, 0, none⟩), chgV on 107 arg] W fun e w' => e = .returned t.val ∧ ChgW base B q r' W w') :
    Calls Tryz.prog 24 #[.pointer (some ⟨B, 0, none⟩), chgV on 107 arg, .int .i64 id] w fun e w' => e = .returned t.val ∧ ChgW base B q r' w w' := by
  obtain ⟨W, hW⟩ : ∃ W, ((w.alloc (Obj.cells #[Value.bool on, Value.int IntKind.u8 107, Value.string (bs arg)] 31)).alloc (Obj.cells #[Value.bool false, Value.int IntKind.u8 0, Value.string ⟨#[]⟩] 31)) = W := ⟨_, rfl⟩
  have hb : RowKit.Below w.heap.size w W := by rw [← hW]; exact ((Below.refl _ w).alloc (Nat.le_refl _) _).alloc (by simp) _
  have hz : W.heap.size = w.heap.size + 2 := by rw [← hW]; simp
  have k1 : W.heap[w.heap.size + 1]? = some (.cells #[Value.bool false, Value.int IntKind.u8 0, Value.string ⟨#[]⟩] 31 (0, 0)) := by rw [← hW]; exact heap_alloc2_new w _ _
  have hlt : ∀ k, RmX B q k → k < w.heap.size := fun k hk => (h.lt k hk).2
  have hc := hc0 W hb
  have HC := Lib.hid hc
  have HW := Lib.hid hW
  have H := Lib.hid (And.intro hb (And.intro hz (And.intro k1 hlt)))
  clear h hc hc0 hW hb hz k1 hlt
  unfold chgV at HC ⊢
  go_enter Tryz.func24, Tryz.ntmps24
  go_wp2_with fail
  rw [HW.out]
  refine HC.out.mono ?_
  rintro e w1 ⟨rfl, hcw⟩
  obtain ⟨hb, hz, k1, hlt⟩ := H.out
  have hfr : Fr (RmX B q) W w1 := by obtain ⟨q', _, b, _⟩ := hcw; exact b
  have k2 := hfr.blk k1 fun e => by have := hlt _ e; omega
  have d0 := blk_cell k2 0
  have d1 := blk_cell k2 1
  have d2 := blk_cell k2 2
  have g0 := blk_free k2 0
  have g1 := blk_free k2 1
  have g2 := blk_free k2 2
  have HQ := Lib.hid (And.intro hcw k2)
  obtain ⟨on2, c2, arg2, code⟩ := t
  clear hb hz k1 hlt hfr k2 hcw
  dsimp only [Told.val, chgV]
  go_wp2_with fail
  obtain ⟨hcw, k2⟩ := HQ.out
  obtain ⟨hb, hz, k1, hlt⟩ := H.out
  have k3 := set3R (x := .bool on2) (y := .int .u8 c2.toNat) (z := .string (bs arg2)) k2
  refine bodyPost_ret (res_three rfl rfl (Tryz.isAgg31 _) (Tryz.sizeOf31 _) (blk_cell k3 0) (blk_cell k3 1) (blk_cell k3 2)) rfl ⟨rfl, ?_⟩
  exact hcw.boxed hb hlt (Nat.le_succ _) (by omega) set3R_fr
set_option maxRecDepth 100000 in
set_option maxHeartbeats 4000000 in
theorem change_L108 {base B : Nat} {q : RmV} {r r' : Rm} {t : Told} {w : World} (h : RoomAt base B q r w) (on : Bool) (arg : List UInt8) (id : Int)
    (hc0 : ∀ W, RowKit.Below w.heap.size w W → Calls Tryz.prog 49 #[.pointer (some ⟨B, 0, none⟩), chgV on 108 arg] W fun e w' => e = .returned t.val ∧ ChgW base B q r' W w') :
    Calls Tryz.prog 24 #[.pointer (some ⟨B, 0, none⟩), chgV on 108 arg, .int .i64 id] w fun e w' => e = .returned t.val ∧ ChgW base B q r' w w' := by
  obtain ⟨W, hW⟩ : ∃ W, ((w.alloc (Obj.cells #[Value.bool on, Value.int IntKind.u8 108, Value.string (bs arg)] 31)).alloc (Obj.cells #[Value.bool false, Value.int IntKind.u8 0, Value.string ⟨#[]⟩] 31)) = W := ⟨_, rfl⟩
  have hb : RowKit.Below w.heap.size w W := by rw [← hW]; exact ((Below.refl _ w).alloc (Nat.le_refl _) _).alloc (by simp) _
  have hz : W.heap.size = w.heap.size + 2 := by rw [← hW]; simp
  have k1 : W.heap[w.heap.size + 1]? = some (.cells #[Value.bool false, Value.int IntKind.u8 0, Value.string ⟨#[]⟩] 31 (0, 0)) := by rw [← hW]; exact heap_alloc2_new w _ _
  have hlt : ∀ k, RmX B q k → k < w.heap.size := fun k hk => (h.lt k hk).2
  have hc := hc0 W hb
  have HC := Lib.hid hc
  have HW := Lib.hid hW
  have H := Lib.hid (And.intro hb (And.intro hz (And.intro k1 hlt)))
  clear h hc hc0 hW hb hz k1 hlt
  unfold chgV at HC ⊢
  go_enter Tryz.func24, Tryz.ntmps24
  go_wp2_with fail
  rw [HW.out]
  refine HC.out.mono ?_
  rintro e w1 ⟨rfl, hcw⟩
  obtain ⟨hb, hz, k1, hlt⟩ := H.out
  have hfr : Fr (RmX B q) W w1 := by obtain ⟨q', _, b, _⟩ := hcw; exact b
  have k2 := hfr.blk k1 fun e => by have := hlt _ e; omega
  have d0 := blk_cell k2 0
  have d1 := blk_cell k2 1
  have d2 := blk_cell k2 2
  have g0 := blk_free k2 0
  have g1 := blk_free k2 1
  have g2 := blk_free k2 2
  have HQ := Lib.hid (And.intro hcw k2)
  obtain ⟨on2, c2, arg2, code⟩ := t
  clear hb hz k1 hlt hfr k2 hcw
  dsimp only [Told.val, chgV]
  go_wp2_with fail
  obtain ⟨hcw, k2⟩ := HQ.out
  obtain ⟨hb, hz, k1, hlt⟩ := H.out
  have k3 := set3R (x := .bool on2) (y := .int .u8 c2.toNat) (z := .string (bs arg2)) k2
  refine bodyPost_ret (res_three rfl rfl (Tryz.isAgg31 _) (Tryz.sizeOf31 _) (blk_cell k3 0) (blk_cell k3 1) (blk_cell k3 2)) rfl ⟨rfl, ?_⟩
  exact hcw.boxed hb hlt (Nat.le_succ _) (by omega) set3R_fr
set_option maxRecDepth 100000 in
set_option maxHeartbeats 4000000 in
theorem change_L98 {base B : Nat} {q : RmV} {r r' : Rm} {t : Told} {w : World} (h : RoomAt base B q r w) (on : Bool) (arg : List UInt8) (id : Int)
    (hc0 : ∀ W, RowKit.Below w.heap.size w W → Calls Tryz.prog 50 #[.pointer (some ⟨B, 0, none⟩), chgV on 98 arg] W fun e w' => e = .returned t.val ∧ ChgW base B q r' W w') :
    Calls Tryz.prog 24 #[.pointer (some ⟨B, 0, none⟩), chgV on 98 arg, .int .i64 id] w fun e w' => e = .returned t.val ∧ ChgW base B q r' w w' := by
  obtain ⟨W, hW⟩ : ∃ W, ((w.alloc (Obj.cells #[Value.bool on, Value.int IntKind.u8 98, Value.string (bs arg)] 31)).alloc (Obj.cells #[Value.bool false, Value.int IntKind.u8 0, Value.string ⟨#[]⟩] 31)) = W := ⟨_, rfl⟩
  have hb : RowKit.Below w.heap.size w W := by rw [← hW]; exact ((Below.refl _ w).alloc (Nat.le_refl _) _).alloc (by simp) _
  have hz : W.heap.size = w.heap.size + 2 := by rw [← hW]; simp
  have k1 : W.heap[w.heap.size + 1]? = some (.cells #[Value.bool false, Value.int IntKind.u8 0, Value.string ⟨#[]⟩] 31 (0, 0)) := by rw [← hW]; exact heap_alloc2_new w _ _
  have hlt : ∀ k, RmX B q k → k < w.heap.size := fun k hk => (h.lt k hk).2
  have hc := hc0 W hb
  have HC := Lib.hid hc
  have HW := Lib.hid hW
  have H := Lib.hid (And.intro hb (And.intro hz (And.intro k1 hlt)))
  clear h hc hc0 hW hb hz k1 hlt
  unfold chgV at HC ⊢
  go_enter Tryz.func24, Tryz.ntmps24
  go_wp2_with fail
  rw [HW.out]
  refine HC.out.mono ?_
  rintro e w1 ⟨rfl, hcw⟩
  obtain ⟨hb, hz, k1, hlt⟩ := H.out
  have hfr : Fr (RmX B q) W w1 := by obtain ⟨q', _, b, _⟩ := hcw; exact b
  have k2 := hfr.blk k1 fun e => by have := hlt _ e; omega
  have d0 := blk_cell k2 0
  have d1 := blk_cell k2 1
  have d2 := blk_cell k2 2
  have g0 := blk_free k2 0
  have g1 := blk_free k2 1
  have g2 := blk_free k2 2
  have HQ := Lib.hid (And.intro hcw k2)
  obtain ⟨on2, c2, arg2, code⟩ := t
  clear hb hz k1 hlt hfr k2 hcw
  dsimp only [Told.val, chgV]
  go_wp2_with fail
  obtain ⟨hcw, k2⟩ := HQ.out
  obtain ⟨hb, hz, k1, hlt⟩ := H.out
  have k3 := set3R (x := .bool on2) (y := .int .u8 c2.toNat) (z := .string (bs arg2)) k2
  refine bodyPost_ret (res_three rfl rfl (Tryz.isAgg31 _) (Tryz.sizeOf31 _) (blk_cell k3 0) (blk_cell k3 1) (blk_cell k3 2)) rfl ⟨rfl, ?_⟩
  exact hcw.boxed hb hlt (Nat.le_succ _) (by omega) set3R_fr
def Other19 (c : UInt8) : Prop := c ≠ 105 ∧ c ≠ 109 ∧ c ≠ 110 ∧ c ≠ 115 ∧ c ≠ 116 ∧ c ≠ 111 ∧ c ≠ 118 ∧ c ≠ 107 ∧ c ≠ 108 ∧ c ≠ 98
set_option maxRecDepth 100000 in
set_option maxHeartbeats 4000000 in
theorem change_other {base B : Nat} {q : RmV} {r : Rm} {w : World} (h : RoomAt base B q r w) (on : Bool) (c : UInt8) (arg : List UInt8) (id : Int) (hc : Other19 c) :
    Calls Tryz.prog 24 #[.pointer (some ⟨B, 0, none⟩), chgV on c arg, .int .i64 id] w fun e w' => e = .returned (noT 472).val ∧ ChgW base B q r w w' := by
  have ne : ∀ n : Nat, n < 256 → c ≠ UInt8.ofNat n → ((c.toNat : Int) == (n : Int)) = false := fun n hn e => by rw [u8_eqR c n hn]; exact decide_eq_false e
  obtain ⟨x1, x2, x3, x4, x5, x6, x7, x8, x9, x10⟩ := hc
  have e1 : ((c.toNat : Int) == 105) = false := ne 105 (by decide) x1
  have e2 : ((c.toNat : Int) == 109) = false := ne 109 (by decide) x2
  have e3 : ((c.toNat : Int) == 110) = false := ne 110 (by decide) x3
  have e4 : ((c.toNat : Int) == 115) = false := ne 115 (by decide) x4
  have e5 : ((c.toNat : Int) == 116) = false := ne 116 (by decide) x5
  have e6 : ((c.toNat : Int) == 111) = false := ne 111 (by decide) x6
  have e7 : ((c.toNat : Int) == 118) = false := ne 118 (by decide) x7
  have e8 : ((c.toNat : Int) == 107) = false := ne 107 (by decide) x8
  have e9 : ((c.toNat : Int) == 108) = false := ne 108 (by decide) x9
  have e10 : ((c.toNat : Int) == 98) = false := ne 98 (by decide) x10
  have H := Lib.hid h
  clear ne x1 x2 x3 x4 x5 x6 x7 x8 x9 x10 h
  unfold chgV
  go_enter Tryz.func24, Tryz.ntmps24
  go_wp2_with fail
  refine bodyPost_ret (v := .tuple #[.agg #[.bool false, .int .u8 0, .string ⟨#[]⟩], .int .i64 472]) (by simp [results, Tryz.results24, go_sem]) rfl ⟨rfl, ?_⟩
  exact ChgW.around ⟨q, H.out, Fr.refl _ _, fun _ hk _ => hk⟩ (Below.refl _ _) (((Below.refl _ w).alloc (Nat.le_refl _) _).alloc (by simp) _)
/-- a change -/
noncomputable def chgAll (r : Rm) (on : Bool) (c : UInt8) (arg : List UInt8) (id : Int) : Told × Rm :=
  if c = 105 ∨ c = 109 ∨ c = 110 ∨ c = 115 ∨ c = 116 then chgFl r on c
  else if c = 111 ∨ c = 118 then chgMark r on c arg id
  else if c = 107 then chgKey r on c arg
  else if c = 108 then chgLim r on c arg
  else if c = 98 then chgBan r on c arg
  else (noT 472, r)
theorem change_any {base B : Nat} {q : RmV} {r : Rm} {w : World} (h : RoomAt base B q r w) (on : Bool) (c : UInt8) (arg : List UInt8) (id : Int) (ha : arg.length ≤ 100000) (hr : Rowed w) (hm : r.mem.length ≤ 1000000) (hbl : r.bans.length ≤ 100000) (hbx : ∀ x ∈ r.bans, x.length ≤ 1000000) :
    Calls Tryz.prog 24 #[.pointer (some ⟨B, 0, none⟩), chgV on c arg, .int .i64 id] w fun e w' => e = .returned (chgAll r on c arg id).1.val ∧ ChgW base B q (chgAll r on c arg id).2 w w' := by
  unfold chgAll
  by_cases h1 : c = 105 ∨ c = 109 ∨ c = 110 ∨ c = 115 ∨ c = 116
  · rw [if_pos h1]
    rcases h1 with rfl | rfl | rfl | rfl | rfl
    · exact change_L105 h on arg id fun W hb => changeFlag_any (h.below hb) on 105 arg
    · exact change_L109 h on arg id fun W hb => changeFlag_any (h.below hb) on 109 arg
    · exact change_L110 h on arg id fun W hb => changeFlag_any (h.below hb) on 110 arg
    · exact change_L115 h on arg id fun W hb => changeFlag_any (h.below hb) on 115 arg
    · exact change_L116 h on arg id fun W hb => changeFlag_any (h.below hb) on 116 arg
  · rw [if_neg h1]
    by_cases h2 : c = 111 ∨ c = 118
    · rw [if_pos h2]
      rcases h2 with rfl | rfl
      · exact change_L111 h on arg id fun W hb => changeMark_any (h.below hb) on 111 arg id hm
      · exact change_L118 h on arg id fun W hb => changeMark_any (h.below hb) on 118 arg id hm
    · rw [if_neg h2]
      by_cases h3 : c = 107
      · rw [if_pos h3]; subst h3
        exact change_L107 h on arg id fun W hb => changeKey_any (h.below hb) on 107 arg (by omega) (hr.keep hb)
      · rw [if_neg h3]
        by_cases h4 : c = 108
        · rw [if_pos h4]; subst h4
          exact change_L108 h on arg id fun W hb => changeLimit_any (h.below hb) on 108 arg
        · rw [if_neg h4]
          by_cases h5 : c = 98
          · rw [if_pos h5]; subst h5
            exact change_L98 h on arg id fun W hb => changeBan_any (h.below hb) on 98 arg ha hbl hbx
          · rw [if_neg h5]
            exact change_other h on c arg id ⟨fun e => h1 (.inl e), fun e => h1 (.inr (.inl e)), fun e => h1 (.inr (.inr (.inl e))), fun e => h1 (.inr (.inr (.inr (.inl e)))), fun e => h1 (.inr (.inr (.inr (.inr e)))), fun e => h2 (.inl e), fun e => h2 (.inr e), h3, h4, h5⟩
end Go.Proofs.YtmgnhbihfgpccaaGreatDoor
end
section
/- Layer 19: slices.Insert of a member. -/
namespace Go.Proofs.YtmgnhbihfgpccaaGreatDoor
open Go Go.RowKit

theorem ins_take {A B : List Value} {p : Nat} (hp : p ≤ A.length) {c : Array Value} (h1 : ∀ j, j < p → c[j]? = A[j]?) (h2 : ∀ j, j < B.length → c[p + j]? = B[j]?) (h3 : ∀ j, p + j < A.length → c[p + B.length + j]? = A[p + j]?) :
    c.toList.take (A.length + B.length) = A.take p ++ B ++ A.drop p := by
  apply List.ext_getElem?
  intro j
  have hpl : (A.take p).length = p := by rw [List.length_take]; omega
  by_cases a : j < p
  · rw [List.getElem?_take_of_lt (by omega), Array.getElem?_toList, h1 j a, List.append_assoc, List.getElem?_append_left (by omega), List.getElem?_take_of_lt a]
  · by_cases b : j < p + B.length
    · rw [List.getElem?_take_of_lt (by omega), Array.getElem?_toList]
      have := h2 (j - p) (by omega)
      rw [show p + (j - p) = j by omega] at this
      rw [this, List.getElem?_append_left (by rw [List.length_append]; omega), List.getElem?_append_right (by omega), hpl]
    · by_cases d : j < A.length + B.length
      · rw [List.getElem?_take_of_lt d, Array.getElem?_toList]
        have := h3 (j - p - B.length) (by omega)
        rw [show p + B.length + (j - p - B.length) = j by omega] at this
        rw [this, List.getElem?_append_right (by rw [List.length_append]; omega), List.length_append, hpl, List.getElem?_drop]
        congr 1; omega
      · rw [List.getElem?_take_eq_none (by omega), List.getElem?_eq_none (by rw [List.length_append, List.length_append, List.length_drop]; omega)]
theorem flat_drop (xs : List Mem) (i : Nat) : (xs.flatMap encM).drop (i * 3) = (xs.drop i).flatMap encM := by
  have h := List.take_append_drop i xs
  have h2 : (xs.flatMap encM) = (xs.take i).flatMap encM ++ (xs.drop i).flatMap encM := by rw [← List.flatMap_append, h]
  by_cases hi : i ≤ xs.length
  · rw [h2, List.drop_append, List.drop_of_length_le (by rw [flat3, List.length_take]; omega), flat3, List.length_take, show i * 3 - min i xs.length * 3 = 0 by rw [Nat.min_eq_left hi]; omega]
    simp
  · rw [List.drop_of_length_le (by rw [flat3]; omega), List.drop_of_length_le (by omega)]; rfl
theorem encM_one1 {m : Mem} {u : Value} (h : u ∈ encM m) : u.oneCell' = true := by
  simp only [encM, List.mem_cons, List.not_mem_nil, or_false] at h
  rcases h with rfl | rfl | rfl <;> rfl
theorem flat_one {xs : List Mem} : ∀ u ∈ xs.flatMap encM, u.oneCell' = true := fun u hu => by
  obtain ⟨m, _, h⟩ := List.mem_flatMap.1 hu
  exact encM_one1 h
/-- what slices.Insert leaves -/
def InsP (base : Nat) (W : World) (v : Value) (ys : List Mem) (e : Ending) (w' : World) : Prop := (∃ A c, e = .returned (.slice A ys.length c) ∧ OwnM base w' (.slice A ys.length c) ys ∧ Tie W v (.slice A ys.length c)) ∧ Fr (fun k => v.ownBlock = some k) W w'
set_option maxRecDepth 100000 in
set_option maxHeartbeats 8000000 in
theorem insM_end {base : Nat} {W : World} {A : Option Addr} {c : Nat} {xs : List Mem} (h : OwnM base W (.slice A xs.length c) xs) (m : Mem) {N : Nat} (hk : W.heap[N]? = some (.cells #[.int .i64 m.1, .bool m.2.1, .bool m.2.2] 38 (0, 0))) (hl : xs.length ≤ 1000000) (hb : base ≤ W.heap.size) :
    Calls Tryz.prog 51 #[.slice A xs.length c, .int .i64 xs.length, .slice (some ⟨N, 0, none⟩) 1 1] W (InsP base W (.slice A xs.length c) (xs ++ [m])) := by
  obtain ⟨i0, hi0, hz0, hz1, hz2⟩ := info_parts Tryz.infoMb
  obtain ⟨v', w', hr, r1, r2, r3⟩ := run_app_any (P := Tryz.prog) W base 43 43 43 38 i0 _ 3 16 Tryz.underlying43 hi0 hz0 hz1 hz2 rfl _ xs.length (xs.flatMap encM) h (.slice (some ⟨N, 0, none⟩) 1 1) 1 (encM m)
    (Src.ofSlice W Tryz.underlying43 ⟨N, 0, none⟩ 1 1 (encM m) rfl (fun j u hu => by
      rw [add_at, Nat.zero_add, blk_cell hk j, ← hu]; simp [encM]) (fun u hu => encM_one1 hu)) (by unfold maxLen; omega) (by omega) hb
  obtain ⟨A2, c2, rfl⟩ := row_slice r1
  have hcap : A = none ∧ xs.length = 0 ∧ c = 0 ∨ (∃ g, A = some ⟨g, 0, none⟩) ∧ xs.length ≤ c ∧ c ≤ 9223372036854775807 := by
    rcases h.2 with ⟨h2, h3⟩ | ⟨g', cap', cur, h2, _, _, h5, h6, _⟩
    · injection h2 with e1 e2 e3; exact .inl ⟨e1, h3, e3⟩
    · injection h2 with e1 e2 e3
      subst e3
      exact .inr ⟨⟨g', e1⟩, h5, by unfold maxLen at h6; omega⟩
  have HR := Lib.hid (And.intro (ownM_snoc r1) (And.intro r2 r3))
  obtain ⟨n, hn⟩ : ∃ n, xs.length = n := ⟨_, rfl⟩
  have HN := Lib.hid hn
  rw [hn] at hr hcap ⊢
  have hn6 : n ≤ 1000000 := by omega
  clear h hk hb r1 r2 r3 hi0 hz0 hz1 hz2 hn hl
  rcases hcap with ⟨rfl, rfl, rfl⟩ | ⟨⟨g, rfl⟩, hnc, hc63⟩
  · go_enter Tryz.func51, Tryz.ntmps51
    go_wp2_with (at_builtin; refine Lib.wpList_append_run _ rfl _ _ _ _ rfl _ _ rfl rfl _ _ hr ?_)
    go_ret
    obtain ⟨a, b, d⟩ := HR.out
    rw [HN.out] at a
    refine ⟨⟨A2, c2, by rw [List.length_append, HN.out]; rfl, by rw [List.length_append, HN.out]; exact a, fun k hk hlt => ?_⟩, b⟩
    rcases d k (by rw [List.length_append] at hk; exact hk) with e | e
    · exact e
    · omega
  · by_cases hcn : c = n
    all_goals
      go_enter Tryz.func51, Tryz.ntmps51
      go_wp2_with (at_builtin; refine Lib.wpList_append_run _ rfl _ _ _ _ rfl _ _ rfl rfl _ _ hr ?_)
      go_ret
      obtain ⟨a, b, d⟩ := HR.out
      rw [HN.out] at a
      refine ⟨⟨A2, c2, by rw [List.length_append, HN.out]; rfl, by rw [List.length_append, HN.out]; exact a, fun k hk hlt => ?_⟩, b⟩
      rcases d k (by rw [List.length_append] at hk; exact hk) with e | e
      · exact e
      · omega
end Go.Proofs.YtmgnhbihfgpccaaGreatDoor
end
section
/- Layer 19: slices.Insert of a member: there is room. -/
namespace Go.Proofs.YtmgnhbihfgpccaaGreatDoor
open Go Go.RowKit Go.Lib

theorem ins_flat (xs : List Mem) (i : Nat) (m : Mem) : (xs.take i ++ m :: xs.drop i).flatMap encM = (xs.flatMap encM).take (i * 3) ++ encM m ++ (xs.flatMap encM).drop (i * 3) := by
  rw [List.flatMap_append, List.flatMap_cons, flat_take, flat_drop, List.append_assoc]
theorem overlaps_no {W : World} {N g : Nat} {m : Mem} (hNg : N ≠ g) (hk : W.heap[N]? = some (.cells #[.int .i64 m.1, .bool m.2.1, .bool m.2.2] 38 (0, 0))) {cur : Array Value} {tB : TypeId} (hg : W.heap[g]? = some (.cells cur tB (0, 0))) (hz : cur.size ≠ 0) (o lb cb : Nat) :
    (callFunc 83 #[.slice (some ⟨N, 0, none⟩) 1 1, .slice (some ⟨g, o, none⟩) lb cb]).run Tryz.prog W = .ok (.value (.bool false)) W := by
  rw [run_callFunc_extern Tryz.func83 (by kernel_rfl) (by kernel_rfl) (by kernel_rfl) (e := Extern.SlicesOverlaps.overlaps #[43, 43] #[4]) (by kernel_rfl),
    Lib.run_overlaps_apart W 43 4 38 Tryz.underlying43 3 Tryz.sizeOf38 ⟨N, 0, none⟩ ⟨g, o, none⟩ 1 1 lb cb hNg 38 tB 3 cur.size (by simp [World.shape?, hk]) (by simp [World.shape?, hg]) hz (blk_free hk _) (by simp [World.frozen?, hk])]
  rfl
set_option maxRecDepth 100000 in
set_option maxHeartbeats 8000000 in
theorem insM_shift {base : Nat} {W : World} {g c : Nat} {xs : List Mem} (h : OwnM base W (.slice (some ⟨g, 0, none⟩) xs.length c) xs) (m : Mem) {N : Nat} (hk : W.heap[N]? = some (.cells #[.int .i64 m.1, .bool m.2.1, .bool m.2.2] 38 (0, 0))) (hNg : N ≠ g) (hl : xs.length ≤ 1000000)
    (i : Nat) (hi : i < xs.length) (hroom : xs.length + 1 ≤ c) :
    Calls Tryz.prog 51 #[.slice (some ⟨g, 0, none⟩) xs.length c, .int .i64 i, .slice (some ⟨N, 0, none⟩) 1 1] W (InsP base W (.slice (some ⟨g, 0, none⟩) xs.length c) (xs.take i ++ m :: xs.drop i)) := by
  obtain ⟨i0, hi0, hz0, hz1, hz2⟩ := info_parts Tryz.infoMb
  obtain ⟨cur, hgr, hcm, hcs, hbg⟩ : ∃ cur, W.heap[g]? = some (.cells cur 38 (0, 0)) ∧ c ≤ maxLen ∧ cur.size = c * 3 ∧ base ≤ g := by
    rcases h.2 with ⟨h2, _⟩ | ⟨g', cap', cur, h2, h3, h4, h5, h6, h7, _⟩
    · cases h2
    · injection h2 with e1 _ e3
      injection e1 with e1; injection e1 with e1
      subst e1; subst e3
      exact ⟨cur, h4, h6, h7, h3⟩
  have hc63 : c ≤ 9223372036854775807 := by unfold maxLen at hcm; omega
  have hov : ∀ lb cb, (callFunc 83 #[.slice (some ⟨N, 0, none⟩) 1 1, .slice (some ⟨g, (i + 1) * 3, none⟩) lb cb]).run Tryz.prog W = .ok (.value (.bool false)) W := fun lb cb => overlaps_no hNg hk hgr (by omega) _ lb cb
  obtain ⟨A, hA⟩ : ∃ A, xs.flatMap encM = A := ⟨_, rfl⟩
  have hAl : A.length = xs.length * 3 := by rw [← hA, flat3]
  have hcell : ∀ j, j < xs.length * 3 → W.cell? ⟨g, j, none⟩ = A[j]? := fun j hj => by rw [← hA]; exact World.ownsRow.cellAt h j hj
  have hsz : (Tryz.prog.info? 38).map (·.size) = some 3 := by rw [hi0]; simp [hz1]
  have hdl : (A.drop (i * 3)).length = (xs.length - i) * 3 := by rw [List.length_drop, hAl, Nat.sub_mul]
  have hone : ∀ u ∈ A, u.oneCell' = true := fun u hu => encM_one (by rw [hA]; exact hu)
  have hsome : ∀ j, j < c * 3 → (W.cell? ⟨g, j, none⟩).isSome = true ∧ W.frozen? ⟨g, j, none⟩ = false := fun j hj => row_spare h j hj
  have hcp1 : ∀ ty dc sc, (Builtin.copy_ #[43, 43] ty #[.slice (some ⟨g, (i + 1) * 3, none⟩) (xs.length - i) dc, .slice (some ⟨g, i * 3, none⟩) (xs.length + 1 - i) sc]).run Tryz.prog W.drew = .ok (goInt (xs.length - i)) (W.drew.setCells g ((i + 1) * 3) (A.drop (i * 3))) := fun ty dc sc => by
    have := run_copy_flat (P := Tryz.prog) W.drew 43 43 ty 38 3 g ((i + 1) * 3) (xs.length - i) dc ⟨g, i * 3, none⟩ (xs.length + 1 - i) sc (A.drop (i * 3)) Tryz.underlying43 hsz (by rw [hdl]; congr 1; simp only [Nat.min_def]; split <;> omega)
      (fun j v hj => by
        rw [Addr.add_lit]
        rw [List.getElem?_drop] at hj
        have hj2 := (List.getElem?_eq_some_iff.1 hj).1
        exact (hcell (i * 3 + j) (by omega)).trans hj)
      (fun j hj => (hsome _ (by rw [hdl] at hj; omega)).1) (fun j hj => (hsome _ (by rw [hdl] at hj; omega)).2) (fun v hv => hone v (List.mem_of_mem_drop hv))
    rw [this]
    congr 2
    simp only [Nat.min_def]; split <;> omega
  obtain ⟨W1, hW1⟩ : ∃ W1, W1 = W.drew.setCells g ((i + 1) * 3) (A.drop (i * 3)) := ⟨_, rfl⟩
  have hcp2 : ∀ (V : World), (∀ x, V.cell? x = W1.cell? x) → (∀ x, V.frozen? x = W1.frozen? x) → ∀ ty dc, (Builtin.copy_ #[43, 43] ty #[.slice (some ⟨g, i * 3, none⟩) (xs.length + 1 - i) dc, .slice (some ⟨N, 0, none⟩) 1 1]).run Tryz.prog V = .ok (goInt 1) (V.setCells g (i * 3) (encM m)) := fun V hVc hVf ty dc => by
    have := run_copy_flat (P := Tryz.prog) V 43 43 ty 38 3 g (i * 3) (xs.length + 1 - i) dc ⟨N, 0, none⟩ 1 1 (encM m) Tryz.underlying43 hsz (by show 3 = _; simp only [Nat.min_def]; split <;> omega)
      (fun j v hj => by
        rw [Addr.add_lit, hVc, hW1, World.cell?_setCells_out _ _ _ _ _ (fun e _ => absurd e hNg), Nat.zero_add]
        exact (blk_cell hk j).trans (by rw [← hj]; simp [encM]))
      (fun j hj => by
        have hj3 : j < 3 := hj
        rw [hVc, hW1]
        exact Go.Proofs.isSome_setCells g _ ((i + 1) * 3) W.drew (fun t ht => (hsome ((i + 1) * 3 + t) (by rw [hdl] at ht; omega)).1) (i * 3 + j) (hsome (i * 3 + j) (by omega)).1)
      (fun j hj => by
        have hj3 : j < 3 := hj
        rw [hVf, hW1, World.frozen?_setCells]; exact (hsome _ (by omega)).2) (fun v hv => encM_one1 hv)
    rw [this]
    congr 2
    simp only [Nat.min_def]; split <;> omega
  rw [← hW1] at hcp1
  have hF1 : Fr (fun k => k = g) W W1 := by rw [hW1]; exact fr_setCells (X := fun k => k = g) (a := W) (b := g) (.inl rfl) _ _ _ (Fr.refl _ W).drew
  obtain ⟨c1, hg1, hs1, hc1⟩ := heap_setCells (b := g) (A.drop (i * 3)) ((i + 1) * 3) W.drew cur hgr
  rw [← hW1] at hg1
  have hfin : ∀ V, (∃ q, V = (W1.drewN q).setCells g (i * 3) (encM m)) → OwnM base V (.slice (some ⟨g, 0, none⟩) (xs.length + 1) c) (xs.take i ++ m :: xs.drop i) ∧ Fr (fun k => k = g) W V := fun V ⟨q, hV⟩ => by
    obtain ⟨c2, hg2, hs2, hc2⟩ := heap_setCells (b := g) (encM m) (i * 3) (W1.drewN q) c1 hg1
    rw [← hV] at hg2
    have hlen : (xs.take i ++ m :: xs.drop i).length = xs.length + 1 := by rw [List.length_append, List.length_cons, List.length_take, List.length_drop]; omega
    have h3 : (encM m).length = 3 := rfl
    have htk := ins_take (A := A) (B := encM m) (p := i * 3) (c := c2) (by omega) (fun j hj => by
        rw [hc2, if_neg (by omega), hc1, if_neg (by omega)]
        have := blk_cell hgr j
        rw [← this]; exact hcell j (by omega)) (fun j hj => by
        rw [hc2, if_pos ⟨by omega, by omega, by omega⟩, show i * 3 + j - i * 3 = j by omega]) (fun j hj => by
        rw [hc2, if_neg (by omega), hc1, if_pos ⟨by omega, by rw [hdl]; omega, by omega⟩, List.getElem?_drop]
        congr 1; omega)
    refine ⟨⟨by rw [hlen, ins_flat, hA, List.length_append, List.length_append, List.length_take, hdl, hAl, h3]; omega, .inr ⟨g, c, c2, ?_, hbg, hg2, by omega, hcm, by omega, ?_⟩⟩, ?_⟩
    · rw [hlen]
    · rw [hlen, ins_flat, hA, ← htk, hAl, h3]
      congr 1; omega
    · rw [hV]; exact fr_setCells (X := fun k => k = g) (a := W) (b := g) (.inl rfl) _ _ _ (hF1.drewN q)
  have HFIN := Lib.hid hfin
  obtain ⟨n, hn⟩ : ∃ n, xs.length = n := ⟨_, rfl⟩
  have HN := Lib.hid (And.intro hn hi)
  rw [hn] at hcp1 hcp2 hroom hl hi HFIN ⊢
  have hw1 : IntKind.i64.wrap ((i : Int) + 1) = (i : Int) + 1 := by rw [IntKind.wrap_i64]; omega
  have hb1 : (0 : Int) ≤ (i : Int) + 1 := by omega
  have hin : i ≤ n := by omega
  have htn : ((i : Int) + 1).toNat = i + 1 := by omega
  have hb2 : ¬ (c = i + 1) := by omega
  have hb3 : (i : Int) ≤ (n : Int) + 1 := by omega
  have hb4 : ¬ (c = i) := by omega
  have hz2 : ¬ ((i : Int) = (n : Int)) := by omega
  have mixed : Tryz.prog.follows Departure.mixedOrders = true := by kernel_rfl
  clear h hk hi0 hz0 hz1 hA hAl hcell hsz hdl hone hsome hF1 hg1 hs1 hc1 hfin hn hgr hcs hcm hbg hNg
  go_enter Tryz.func51, Tryz.ntmps51
  go_wp2_with (simp only [hov])
  go_region_law_o (refine Go.Proofs.step_copy_runI rfl _ _ 43 43 rfl _ _ (by simp [Act.eval, Act.put]) (by simp [Act.eval, Act.put]) (hcp1 _ _ _) ?_)
  go_wp2_with (at_builtin; refine Go.Proofs.wpList_copy_runI _ rfl _ _ 43 43 rfl _ _ rfl rfl (hcp2 _ (fun _ => rfl) (fun _ => rfl) _ _) ?_)
  go_ret
  obtain ⟨hn, hi⟩ := HN.out
  have hlen : (xs.take i ++ m :: xs.drop i).length = n + 1 := by rw [List.length_append, List.length_cons, List.length_take, List.length_drop]; omega
  obtain ⟨a, b⟩ := HFIN.out ((W.drew.setCells g ((i + 1) * 3) (A.drop (i * 3))).setCells g (i * 3) (encM m)) ⟨0, by rw [hW1]; rfl⟩
  refine ⟨⟨some ⟨g, 0, none⟩, c, by rw [hlen]; rfl, by rw [hlen]; exact a, tie_same rfl⟩, b.mono fun k _ e => by subst e; rfl⟩
end Go.Proofs.YtmgnhbihfgpccaaGreatDoor
end
section
/- Layer 19: slices.Insert of a member: there is no room; whatever there is. -/
namespace Go.Proofs.YtmgnhbihfgpccaaGreatDoor
open Go Go.RowKit Go.Lib

set_option maxRecDepth 100000 in
set_option maxHeartbeats 8000000 in
theorem insM_grow {base : Nat} {W : World} {g c : Nat} {xs : List Mem} (h : OwnM base W (.slice (some ⟨g, 0, none⟩) xs.length c) xs) (m : Mem) {N : Nat} (hk : W.heap[N]? = some (.cells #[.int .i64 m.1, .bool m.2.1, .bool m.2.2] 38 (0, 0))) (hb : base ≤ W.heap.size) (hl : xs.length ≤ 1000000)
    (i : Nat) (hi : i < xs.length) (hroom : c < xs.length + 1) :
    Calls Tryz.prog 51 #[.slice (some ⟨g, 0, none⟩) xs.length c, .int .i64 i, .slice (some ⟨N, 0, none⟩) 1 1] W (InsP base W (.slice (some ⟨g, 0, none⟩) xs.length c) (xs.take i ++ m :: xs.drop i)) := by
  obtain ⟨i0, hi0, hz0, hz1, hz2⟩ := info_parts Tryz.infoMb
  obtain ⟨cur, hgr, hnc⟩ : ∃ cur, W.heap[g]? = some (.cells cur 38 (0, 0)) ∧ xs.length ≤ c := by
    rcases h.2 with ⟨h2, _⟩ | ⟨g', cap', cur, h2, h3, h4, h5, h6, h7, _⟩
    · cases h2
    · injection h2 with e1 _ e3
      injection e1 with e1; injection e1 with e1
      subst e1; subst e3
      exact ⟨cur, h4, h5⟩
  obtain ⟨A, hA⟩ : ∃ A, xs.flatMap encM = A := ⟨_, rfl⟩
  have hAl : A.length = xs.length * 3 := by rw [← hA, flat3]
  have hcell : ∀ j, j < xs.length * 3 → W.cell? ⟨g, j, none⟩ = A[j]? := fun j hj => by rw [← hA]; exact World.ownsRow.cellAt h j hj
  have hsz : (Tryz.prog.info? 38).map (·.size) = some 3 := by rw [hi0]; simp [hz1]
  have hdl : (A.drop (i * 3)).length = (xs.length - i) * 3 := by rw [List.length_drop, hAl, Nat.sub_mul]
  have hone : ∀ u ∈ A, u.oneCell' = true := fun u hu => encM_one (by rw [hA]; exact hu)
  have hgl : g < W.heap.size := blk_lt hgr
  have hNl : N < W.heap.size := blk_lt hk
  have hik : i + (xs.length + 1 - i) = xs.length + 1 := by omega
  have hold : (Builtin.firstCells i0.size i (.slice (some ⟨g, 0, none⟩) i c)).run Tryz.prog W.drew = .ok (A.take (i * 3)).toArray W.drew := by
    rw [hz1]
    exact run_firstCells_some W.drew 3 i ⟨g, 0, none⟩ i c (A.take (i * 3)) (by rw [List.length_take]; omega) (fun j v hj => by
      rw [Addr.add_lit, Nat.zero_add]
      rw [List.getElem?_take] at hj
      split at hj
      · exact (hcell j (by omega)).trans hj
      · cases hj)
  obtain ⟨G, hG⟩ : ∃ G, G = grownCap W (xs.length + 1) c 38 := ⟨_, rfl⟩
  obtain ⟨ROW, hROW⟩ : ∃ ROW : Array Value, ROW = (A.take (i * 3)).toArray ++ Builtin.zeroCells (memV (0, false, false)).cells (xs.length + 1 - i) ++ Builtin.zeroCells (memV (0, false, false)).cells (G - (xs.length + 1)) := ⟨_, rfl⟩
  have hrz : ∀ ty, (Builtin.append_ #[43, 3] ty #[.slice (some ⟨g, 0, none⟩) i c, .int .i64 ((xs.length : Int) + 1 - (i : Int))]).run Tryz.prog W = .ok (.slice (some ⟨W.heap.size, 0, none⟩) (xs.length + 1) G) (W.drew.alloc (.cells ROW 38)) := fun ty => by
    have h := Lib.run_append_grow_zeros W 43 3 ty 38 i0 _ .i64 .i64 Tryz.underlying43 Tryz.underlying3 hi0 hz0 (some ⟨g, 0, none⟩) i c (A.take (i * 3)) hold (xs.length + 1 - i) (by omega) (by omega) (by omega) (by omega) (by rw [hz2]; omega) (by rw [hz2, hik]; exact growslice_fits hroom (by omega))
    rw [hik, ← hG, ← hROW] at h
    rw [show (xs.length : Int) + 1 - (i : Int) = ((xs.length + 1 - i : Nat) : Int) by omega]
    exact h
  have hRl : (xs.length + 1) * 3 ≤ ROW.size := by
    rw [hROW]
    simp only [Array.size_append, List.size_toArray, List.length_take, hAl]
    rw [size_zeroCells]
    show _ ≤ _ + (xs.length + 1 - i) * 3 + _
    omega
  have hGn : xs.length + 1 ≤ G := by rw [hG]; exact grownCap_ge W _ _ _
  have hRs : ROW.size = G * 3 := by
    rw [hROW]
    simp only [Array.size_append, List.size_toArray, List.length_take, hAl]
    rw [size_zeroCells, size_zeroCells]
    show min (i * 3) (xs.length * 3) + (xs.length + 1 - i) * 3 + (G - (xs.length + 1)) * 3 = G * 3
    omega
  have hRt : ∀ j, j < i * 3 → ROW[j]? = A[j]? := fun j hj => by
    rw [hROW, Array.append_assoc, Array.getElem?_append_left (by simp [hAl]; omega), List.getElem?_toArray, List.getElem?_take_of_lt hj]
  have hGm : G ≤ maxLen := by rw [hG]; exact grownCap_le_maxLen W (xs.length + 1) c _ (by unfold maxLen; omega)
  have hG63 : G ≤ 9223372036854775807 := by unfold maxLen at hGm; omega
  obtain ⟨K, hK⟩ : ∃ K, W.heap.size = K := ⟨_, rfl⟩
  obtain ⟨W1, hW1⟩ : ∃ W1, W1 = (W.alloc (.cells ROW 38)).drew := ⟨_, rfl⟩
  have hW1' : W.drew.alloc (.cells ROW 38) = W1 := by rw [hW1]; rfl
  have kK : W1.heap[K]? = some (.cells ROW 38 (0, 0)) := by rw [hW1, ← hK]; exact heap_alloc_new W _
  have f1 : Fr (fun _ => False) W W1 := by rw [hW1]; exact ((Fr.refl _ W).alloc _).drew
  have kN := f1.blk hk fun e => e
  have hgc : ∀ j, W1.cell? ⟨g, j, none⟩ = W.cell? ⟨g, j, none⟩ := fun j => World.cell?_of_block (w := W) (w' := W1) (a := ⟨g, j, none⟩) (f1.block g hgl fun e => e)
  have hNs : ∀ j, j < (xs.length + 1) * 3 → (W1.cell? ⟨K, j, none⟩).isSome = true := fun j hj => by rw [blk_cell kK j, Array.getElem?_eq_getElem (by omega)]; rfl
  have hcpA : ∀ (V : World), (∀ x, V.cell? x = W1.cell? x) → (∀ x, V.frozen? x = W1.frozen? x) → ∀ ty dc, (Builtin.copy_ #[43, 43] ty #[.slice (some ⟨K, i * 3, none⟩) (xs.length + 1 - i) dc, .slice (some ⟨N, 0, none⟩) 1 1]).run Tryz.prog V = .ok (goInt 1) (V.setCells K (i * 3) (encM m)) := fun V hVc hVf ty dc => by
    have := run_copy_flat (P := Tryz.prog) V 43 43 ty 38 3 K (i * 3) (xs.length + 1 - i) dc ⟨N, 0, none⟩ 1 1 (encM m) Tryz.underlying43 hsz (by show 3 = _; simp only [Nat.min_def]; split <;> omega)
      (fun j v hj => by
        rw [Addr.add_lit, hVc, Nat.zero_add]
        exact (blk_cell kN j).trans (by rw [← hj]; simp [encM]))
      (fun j hj => by
        have hj3 : j < 3 := hj
        rw [hVc]; exact hNs _ (by omega))
      (fun j hj => by rw [hVf]; exact blk_free kK _) (fun v hv => encM_one1 hv)
    rw [this]
    congr 2
    simp only [Nat.min_def]; split <;> omega
  have hcpB : ∀ (V : World), (∀ x, V.cell? x = (W1.setCells K (i * 3) (encM m)).cell? x) → (∀ x, V.frozen? x = (W1.setCells K (i * 3) (encM m)).frozen? x) → ∀ ty dc sc, (Builtin.copy_ #[43, 43] ty #[.slice (some ⟨K, (i + 1) * 3, none⟩) (xs.length - i) dc, .slice (some ⟨g, i * 3, none⟩) (xs.length - i) sc]).run Tryz.prog V = .ok (goInt (xs.length - i)) (V.setCells K ((i + 1) * 3) (A.drop (i * 3))) := fun V hVc hVf ty dc sc => by
    have := run_copy_flat (P := Tryz.prog) V 43 43 ty 38 3 K ((i + 1) * 3) (xs.length - i) dc ⟨g, i * 3, none⟩ (xs.length - i) sc (A.drop (i * 3)) Tryz.underlying43 hsz (by rw [hdl]; congr 1; simp only [Nat.min_def]; split <;> omega)
      (fun j v hj => by
        rw [Addr.add_lit, hVc, World.cell?_setCells_out _ _ _ _ _ (fun e _ => by exfalso; have e2 : g = K := e; omega), hgc]
        rw [List.getElem?_drop] at hj
        have hj2 := (List.getElem?_eq_some_iff.1 hj).1
        exact (hcell (i * 3 + j) (by omega)).trans hj)
      (fun j hj => by rw [hdl] at hj; rw [hVc]; exact Go.Proofs.isSome_setCells K _ (i * 3) W1 (fun t ht => hNs _ (by have ht3 : t < 3 := ht; omega)) _ (hNs _ (by omega)))
      (fun j hj => by rw [hVf, World.frozen?_setCells]; exact blk_free kK _) (fun v hv => hone v (List.mem_of_mem_drop hv))
    rw [this]
    congr 2
    simp only [Nat.min_def]; split <;> omega
  obtain ⟨c1, hg1, hs1, hc1⟩ := heap_setCells (b := K) (encM m) (i * 3) W1 ROW kK
  have hfin : ∀ V, V = ((W1.setCells K (i * 3) (encM m)).drew).setCells K ((i + 1) * 3) (A.drop (i * 3)) → OwnM base V (.slice (some ⟨K, 0, none⟩) (xs.length + 1) G) (xs.take i ++ m :: xs.drop i) ∧ Fr (fun k => k = g) W V := fun V hV => by
    obtain ⟨c2, hg2, hs2, hc2⟩ := heap_setCells (b := K) (A.drop (i * 3)) ((i + 1) * 3) ((W1.setCells K (i * 3) (encM m)).drew) c1 hg1
    rw [← hV] at hg2
    have hlen : (xs.take i ++ m :: xs.drop i).length = xs.length + 1 := by rw [List.length_append, List.length_cons, List.length_take, List.length_drop]; omega
    have h3 : (encM m).length = 3 := rfl
    have htk := ins_take (A := A) (B := encM m) (p := i * 3) (c := c2) (by omega) (fun j hj => by
        rw [hc2, if_neg (by omega), hc1, if_neg (by omega)]
        exact hRt j hj) (fun j hj => by
        rw [hc2, if_neg (by omega), hc1, if_pos ⟨by omega, by omega, by omega⟩, show i * 3 + j - i * 3 = j by omega]) (fun j hj => by
        rw [hc2, if_pos ⟨by omega, by rw [hdl]; omega, by omega⟩, List.getElem?_drop]
        congr 1; omega)
    refine ⟨⟨by rw [hlen, ins_flat, hA, List.length_append, List.length_append, List.length_take, hdl, hAl, h3]; omega, .inr ⟨K, G, c2, ?_, by omega, hg2, by omega, hGm, by omega, ?_⟩⟩, ?_⟩
    · rw [hlen]
    · rw [hlen, ins_flat, hA, ← htk, hAl, h3]
      congr 1; omega
    · rw [hV]
      exact fr_setCells (X := fun k => k = g) (a := W) (b := K) (.inr (by omega)) _ _ _ (fr_setCells (X := fun k => k = g) (a := W) (b := K) (.inr (by omega)) _ _ _ (f1.mono fun _ _ e => e.elim)).drew
  have HFIN := Lib.hid (And.intro hW1 (And.intro hK hfin))
  obtain ⟨n, hn⟩ : ∃ n, xs.length = n := ⟨_, rfl⟩
  have HN := Lib.hid (And.intro hn hi)
  rw [hW1'] at hrz
  rw [hn] at hrz hcpA hcpB hroom hl hi HFIN hnc ⊢
  rw [hK] at hrz
  have hw1 : IntKind.i64.wrap ((i : Int) + 1) = (i : Int) + 1 := by rw [IntKind.wrap_i64]; omega
  have hb1 : (0 : Int) ≤ (i : Int) + 1 := by omega
  have hin : i ≤ n := by omega
  have htn : ((i : Int) + 1).toNat = i + 1 := by omega
  have hb3 : (i : Int) ≤ (n : Int) := by omega
  have hic : i ≤ c := by omega
  have hic2 : (i : Int) ≤ (c : Int) := by omega
  have hGi : ¬ (G = i) := by omega
  have hGim : ¬ (G = i + 1) := by omega
  have hci : ¬ (c = i) := by omega
  have hz2 : ¬ ((i : Int) = (n : Int)) := by omega
  have hz3 : (c : Int) < (n : Int) + 1 := by omega
  have hc63 : c ≤ 9223372036854775807 := by omega
  have mixed : Tryz.prog.follows Departure.mixedOrders = true := by kernel_rfl
  clear h hk hi0 hz0 hz1 hA hAl hcell hsz hdl hone hgr hold hG hROW hRl hGm hRs hRt hK kK f1 kN hgc hNs hg1 hs1 hc1 hfin hn hW1' hW1 hik hgl hNl hb hnc
  go_enter Tryz.func51, Tryz.ntmps51
  go_wp2_with (first
    | (at_builtin; refine Lib.wpList_append_run _ rfl _ _ _ _ rfl _ _ rfl rfl _ _ (hrz _) ?_)
    | (at_builtin; refine Go.Proofs.wpList_copy_runI _ rfl _ _ 43 43 rfl _ _ rfl rfl (hcpA _ (fun _ => rfl) (fun _ => rfl) _ _) ?_))
  go_region_law_o (refine Go.Proofs.step_copy_runI rfl _ _ 43 43 rfl (.slice (some ⟨K, (i + 1) * 3, none⟩) (n - i) (G - (i + 1))) (.slice (some ⟨g, i * 3, none⟩) (n - i) (c - i)) (by simp [Act.eval, Act.put]) (by simp [Act.eval, Act.put]) (hcpB (W1.setCells K (i * 3) (encM m)).drew (fun _ => rfl) (fun _ => rfl) 3 (G - (i + 1)) (c - i)) ?_)
  go_wp2
  go_ret
  obtain ⟨hn, hi⟩ := HN.out
  obtain ⟨hW1, hK, hfin⟩ := HFIN.out
  have hlen : (xs.take i ++ m :: xs.drop i).length = n + 1 := by rw [List.length_append, List.length_cons, List.length_take, List.length_drop]; omega
  obtain ⟨a, b⟩ := hfin _ rfl
  refine ⟨⟨some ⟨K, 0, none⟩, G, by rw [hlen]; rfl, by rw [hlen]; exact a, tie_new (n := K) rfl (by omega)⟩, b.mono fun k _ e => by subst e; rfl⟩
/-- a member more, wherever -/
theorem insM_any {base : Nat} {W : World} {A : Option Addr} {c : Nat} {xs : List Mem} (h : OwnM base W (.slice A xs.length c) xs) (m : Mem) {N : Nat} (hk : W.heap[N]? = some (.cells #[.int .i64 m.1, .bool m.2.1, .bool m.2.2] 38 (0, 0))) (hN : (Value.slice A xs.length c).ownBlock ≠ some N)
    (hb : base ≤ W.heap.size) (hl : xs.length ≤ 1000000) (i : Nat) (hi : i ≤ xs.length) :
    Calls Tryz.prog 51 #[.slice A xs.length c, .int .i64 i, .slice (some ⟨N, 0, none⟩) 1 1] W (InsP base W (.slice A xs.length c) (xs.take i ++ m :: xs.drop i)) := by
  rcases Nat.lt_or_ge i xs.length with hlt | hge
  · obtain ⟨g, rfl⟩ : ∃ g, A = some ⟨g, 0, none⟩ := by
      rcases h.2 with ⟨h2, h3⟩ | ⟨g', cap', cur, h2, _⟩
      · omega
      · injection h2 with e1 _ _; exact ⟨g', e1⟩
    rcases Nat.lt_or_ge c (xs.length + 1) with hr | hr
    · exact insM_grow h m hk hb hl i hlt hr
    · exact insM_shift h m hk (fun e => hN (by rw [e]; rfl)) hl i hlt hr
  · obtain rfl : i = xs.length := by omega
    rw [List.take_length, List.drop_length]
    exact insM_end h m hk hl hb
end Go.Proofs.YtmgnhbihfgpccaaGreatDoor
end
section
/- Layer 19: Add. -/
namespace Go.Proofs.YtmgnhbihfgpccaaGreatDoor
open Go Go.RowKit

theorem ChgW.then {base B : Nat} {q q' : RmV} {r2 : Rm} {w w1 w2 : World} (f : Fr (RmX B q) w w1) (c : ∀ k, RmX B q' k → k < w.heap.size → RmX B q k) (h2 : ChgW base B q' r2 w1 w2) : ChgW base B q r2 w w2 := by
  obtain ⟨q2, a, b, d⟩ := h2
  exact ⟨q2, a, f.trans3 b fun k hk e => c k e hk, fun k hk hl => c k (d k hk (Nat.lt_of_lt_of_le hl f.size)) hl⟩
/-- a member more -/
def addR (r : Rm) (id : Int) (op : Bool) : Rm := if hasM r.mem id then r else { r with mem := insM r.mem (id, op, false), inv := delAll r.inv [id] }
set_option maxRecDepth 100000 in
set_option maxHeartbeats 8000000 in
theorem add_any {base B : Nat} {q : RmV} {r : Rm} {w : World} (h : RoomAt base B q r w) (id : Int) (op : Bool) (hl : r.mem.length ≤ 100000) (hil : r.inv.length ≤ 100000) :
    Calls Tryz.prog 25 #[.pointer (some ⟨B, 0, none⟩), .int .i64 id, .bool op] w fun e w' => (∃ v, e = .returned v) ∧ ChgW base B q (addR r id op) w w' := by
  have HP := Lib.hid (place_any h id (by omega))
  cases hb : hasM r.mem id with
  | true =>
    have hr : addR r id op = r := by unfold addR; rw [if_pos hb]
    rw [hr]
    rw [hb] at HP
    have H := Lib.hid h
    obtain ⟨i, hi⟩ : ∃ i, ixM r.mem id = i := ⟨_, rfl⟩
    rw [hi] at HP
    clear h hb hi hr
    go_enter Tryz.func25, Tryz.ntmps25
    go_wp2_with fail
    refine HP.out.mono ?_
    rintro e w1 ⟨rfl, hb1⟩
    have HB := Lib.hid hb1
    clear hb1
    go_wp2_with fail
    first | (refine bodyPost_ret (results_none rfl _ _ _) rfl ?_; exact ⟨⟨_, rfl⟩, q, H.out.below HB.out, Fr.of_below HB.out, fun _ hk _ => hk⟩) | (go_end0; exact ⟨⟨_, rfl⟩, q, H.out.below HB.out, Fr.of_below HB.out, fun _ hk _ => hk⟩)
  | false =>
    have hr : addR r id op = { r with mem := insM r.mem (id, op, false), inv := delAll r.inv [id] } := by unfold addR; rw [hb]; rfl
    rw [hr]
    rw [hb] at HP
    obtain ⟨A, c, hv⟩ := ownM_slice h.2.1
    have H := Lib.hid (And.intro h (And.intro hb (And.intro hv (And.intro hl hil))))
    have hixl := ixM_le r.mem id
    obtain ⟨i, hi⟩ : ∃ i, ixM r.mem id = i := ⟨_, rfl⟩
    obtain ⟨n, hn⟩ : ∃ n, r.mem.length = n := ⟨_, rfl⟩
    rw [hi] at HP hixl
    have HI := Lib.hid (And.intro hi (And.intro hn hixl))
    clear h hb hi hr hn hv hl hil hixl
    go_enter Tryz.func25, Tryz.ntmps25
    go_wp2_with fail
    refine HP.out.mono ?_
    rintro e w1 ⟨rfl, hb1⟩
    have h1 := H.out.1.below hb1
    obtain ⟨N, hN⟩ : ∃ N, w1.heap.size = N := ⟨_, rfl⟩
    obtain ⟨W2, hW2⟩ : ∃ W2, w1.alloc (.cells #[.int .i64 id, .bool op, .bool false] 38) = W2 := ⟨_, rfl⟩
    have b2 : RowKit.Below w1.heap.size w1 W2 := by rw [← hW2]; exact (Below.refl _ w1).alloc (Nat.le_refl _) _
    have k2 : W2.heap[N]? = some (.cells #[.int .i64 id, .bool op, .bool false] 38 (0, 0)) := by rw [← hW2, ← hN]; exact heap_alloc_new w1 _
    have h2 := h1.below b2
    have ho := h2.2.1
    rw [H.out.2.2.1] at ho
    have hbase : base ≤ W2.heap.size := by have := h2.2.2.2.2.1; have := blk_lt h2.1; omega
    have hvl : ∀ k, q.vm.ownBlock = some k → k < N ∧ k ≠ B := fun k hk => ⟨by have := (h1.lt k (.inr (.inl hk))).2; omega, fun e => h1.apart.1.1 (by rw [hk, e])⟩
    have hBN : B < N := by have := blk_lt h1.1; omega
    have hI := insM_any ho (id, op, false) k2 (fun e => by have := (hvl N (by rw [H.out.2.2.1]; exact e)).1; omega) hbase (by have := H.out.2.2.2.1; omega) i (by have := HI.out.2.2; omega)
    rw [HI.out.2.1] at hI
    have c1 : w1.cell? ⟨B, 1, none⟩ = some (.slice A n c) := by rw [← HI.out.2.1, ← H.out.2.2.1]; exact blk_cell h1.1 1
    have HN := Lib.hid hI
    have H2 := Lib.hid (And.intro hb1 (And.intro h1 (And.intro b2 (And.intro h2 (And.intro hvl (And.intro hBN hN))))))
    clear hb1 h1 b2 k2 h2 ho hbase hvl hBN hI
    go_wp2_with fail
    clear hW2 hN
    refine HN.out.mono ?_
    rintro e w3 ⟨⟨A3, c3, rfl, o3, t3⟩, f3⟩
    obtain ⟨hb1, h1, b2, h2, hvl, hBN, hN⟩ := H2.out
    have hq : (Value.slice A n c).ownBlock = q.vm.ownBlock := by rw [H.out.2.2.1, HI.out.2.1]
    have k3 : w3.heap[B]? = some (rmO r q) := f3.blk h2.1 fun e => by rw [hq] at e; exact (hvl B e).2 rfl
    have hins : r.mem.take i ++ (id, op, false) :: r.mem.drop i = insM r.mem (id, op, false) := by rw [← HI.out.1]; rfl
    rw [hins] at o3 t3 ⊢
    obtain ⟨n3, hn3⟩ : ∃ n3, (insM r.mem (id, op, false)).length = n3 := ⟨_, rfl⟩
    rw [hn3] at o3 t3 ⊢
    have d1 := blk_cell k3 1
    have g1 := blk_free k3 1
    obtain ⟨W4, hW4⟩ : ∃ W4, w3.setCell ⟨B, 1, none⟩ (.slice A3 n3 c3) = W4 := ⟨_, rfl⟩
    have f4 : Fr (fun k => k = B) w3 W4 := by rw [← hW4]; exact Fr.setCell (X := fun k => k = B) (Fr.refl _ w3) ⟨B, 1, none⟩ rfl _
    have k4 : W4.heap[B]? = some (rmO { r with mem := insM r.mem (id, op, false) } { q with vm := .slice A3 n3 c3 }) := by rw [← hW4]; exact blk_set k3 1 _
    have o4 : OwnM base W4 (.slice A3 n3 c3) (insM r.mem (id, op, false)) := ownM_kept o3 fun g hg => f4.block g (o3.lt g hg).2 fun e => by
      subst e
      have := t3 _ hg (by have := blk_lt h2.1; omega)
      rw [hq] at this
      exact (hvl _ this).2 rfl
    have f14 : Fr (fun k => k = B ∨ q.vm.ownBlock = some k) w1 W4 := ((Fr.of_below (X := fun k => k = B ∨ q.vm.ownBlock = some k) b2).trans3 f3 fun k _ e => .inr (by rw [hq] at e; exact e)).trans3 f4 fun k _ e => .inl e
    have hup : UpM (insM r.mem (id, op, false)) := insM_up h1.2.2.2.2.2.2 H.out.2.1
    have h4 : RoomAt base B { q with vm := .slice A3 n3 c3 } { r with mem := insM r.mem (id, op, false) } W4 := h1.toMem o4 hup k4 f14
    have hc4 : ∀ k, RmX B { q with vm := .slice A3 n3 c3 } k → k < w1.heap.size → RmX B q k := fun k hk hlt => by
      rcases hk with e | e | e | e | e
      · exact .inl e
      · exact .inr (.inl (by have := t3 k e (Nat.lt_of_lt_of_le hlt b2.size); rw [hq] at this; exact this))
      · exact .inr (.inr (.inl e))
      · exact .inr (.inr (.inr (.inl e)))
      · exact .inr (.inr (.inr (.inr e)))
    have f14' : Fr (RmX B q) w1 W4 := f14.mono fun k _ e => by
      rcases e with e | e
      · exact .inl e
      · exact .inr (.inl e)
    have b5 : RowKit.Below W4.heap.size W4 (W4.alloc (.cells #[.int .i64 id] 3)) := (Below.refl _ W4).alloc (Nat.le_refl _) _
    have h5 := h4.below b5
    have hlt := h4.lt
    have hS := (hlt q.S (.inr (.inr (.inr (.inl rfl)))))
    have hSA := set_rem h5.2.2.2.1 (by have := h4.2.2.2.2.1; have := blk_lt h4.1; simp; omega) (some ⟨W4.heap.size, 0, none⟩) [id] 1 (by simp; have := H.out.2.2.2.2; omega) (by simp) (fun _ => ⟨W4.heap.size, 0, rfl, by simp, fun e => by have e2 : W4.heap.size = q.S := e; omega, fun e => by have := (hlt _ (.inr (.inr (.inr (.inr e))))).2; omega, fun j hj => by
      obtain rfl : j = 0 := by simpa using hj
      exact blk_cell (heap_alloc_new W4 _) 0⟩)
    have c8 : W4.cell? ⟨B, 8, none⟩ = some (.pointer (some ⟨q.S, 0, none⟩)) := blk_cell h4.1 8
    obtain ⟨nr, hnr⟩ : ∃ nr : Int, ((({ r with mem := insM r.mem (id, op, false) } : Rm).inv.length - (delAll ({ r with mem := insM r.mem (id, op, false) } : Rm).inv [id]).length : Nat) : Int) = nr := ⟨_, rfl⟩
    rw [hnr] at hSA
    have HS := Lib.hid hSA
    have H4 := Lib.hid (And.intro h5 (And.intro b5 (And.intro hc4 f14')))
    clear hb1 h1 b2 h2 hvl hBN hN hq k3 hins o3 t3 hn3 f3 f4 k4 o4 f14 hup h4 hc4 f14' b5 h5 hlt hS hSA hnr c1
    go_wp2_with fail
    refine HS.out.mono ?_
    rintro e w6 ⟨rfl, ha⟩
    have HA := Lib.hid ha
    clear ha
    go_wp2_with fail
    go_end0
    obtain ⟨ob', a1, a2, a3⟩ := HA.out
    obtain ⟨h5, b5, hc4, f14'⟩ := H4.out
    refine ⟨⟨_, rfl⟩, ChgW.around (W := w1) ?_ H2.out.1 (Below.refl _ _)⟩
    exact ChgW.then f14' hc4 ((chgW_set h5 a1 a2 a3).around b5 (Below.refl _ _))
end Go.Proofs.YtmgnhbihfgpccaaGreatDoor
end
