/- Texts of this proof, one behind the other. -/
import Derived.Test.YtmgnhbihfgpccaaGreatDoorRoomPlaysG5
import Derived.Test.YtmgnhbihfgpccaaGreatDoorRoomPlaysG7
import Derived.Test.YtmgnhbihfgpccaaGreatDoorChecked
import Derived.Test.YtmgnhbihfgpccaaGreatDoorRoomPlaysG2
import Derived.RangeFuncKeeps
import Derived.Outline
import Derived.Deep.QuietTactic
import Derived.BigQuiet
import Derived.Laws.StructEq
import Derived.ChangeKeysEq
import Derived.Sort.QuietThIn
import Derived.Sort.QuietTacIn
import Derived.StillTail
import Derived.TacticsIn
import Derived.RangeFuncWrites
import Derived.RangeFuncBox
import Derived.Sort.CutIn
import Derived.Stop.RegionWithIn
import Derived.Test.YtmgnhbihfgpccaaGreatDoorRoomPlaysG3
import Derived.Laws.ResultCell
set_option linter.unusedVariables false
set_option linter.unusedSimpArgs false
section
/- Layer 19: Change: a key. -/
namespace Go.Proofs.YtmgnhbihfgpccaaGreatDoor
open Go Go.RowKit

/-- a change, as a value -/
def chgV (on : Bool) (c : UInt8) (arg : List UInt8) : Value := .agg #[.bool on, .int .u8 c.toNat, .string (bs arg)]
def noChg : Value := chgV false 0 []
/-- what a change makes of a room: what is told, the room then -/
structure Told where
  on : Bool
  c : UInt8
  arg : List UInt8
  code : Int
def Told.val (t : Told) : Value := .tuple #[chgV t.on t.c t.arg, .int .i64 t.code]
def noT (code : Int) : Told := ⟨false, 0, [], code⟩
/-- behind a change -/
def ChgP (base B : Nat) (q : RmV) (r' : Rm) (t : Told) (w : World) (e : Ending) (w' : World) : Prop :=
  e = .returned t.val ∧ ∃ q', RoomAt base B q' r' w' ∧ Fr (RmX B q) w w' ∧ ∀ k, RmX B q' k → k < w.heap.size → RmX B q k
theorem RoomAt.upd {base B : Nat} {q : RmV} {r r' : Rm} {W : World} (h : RoomAt base B q r W) (j : Nat) (v : Value)
    (ho : rmO r' q = .cells (#[.string (bs r.nm), q.vm, .string (bs r.tp), .int .i64 (flN r.fl), .string (bs r.key), .int .i64 r.lim, .int .i64 r.mb, q.vb, .pointer (some ⟨q.S, 0, none⟩)].setIfInBounds j v) 68 (0, 0))
    (h1 : r'.mem = r.mem) (h2 : r'.bans = r.bans) (h3 : r'.inv = r.inv) : RoomAt base B q r' (W.setCell ⟨B, j, none⟩ v) := by
  have ha := h.apart
  obtain ⟨g1, g2, g3, g4, g5, g6, g7⟩ := h
  have ne : ∀ k, k ≠ B → (W.setCell ⟨B, j, none⟩ v).heap[k]? = W.heap[k]? := fun k hk => heap_setCell_other W _ k _ hk
  refine ⟨?_, ?_, ?_, ?_, g5, g6, by rw [h1]; exact g7⟩
  · rw [ho]; exact heap_setCell_same W B j _ _ v g1
  · rw [h1]; exact ownM_kept g2 fun g hg => ne g fun e => ha.1.1 (e ▸ hg)
  · rw [h2]; exact ownT_kept g3 fun g hg => ne g fun e => ha.1.2.1 (e ▸ hg)
  · rw [h3]; exact set_kept g4 (ne _ ha.1.2.2.1) fun g hg => ne g fun e => ha.1.2.2.2 (e ▸ hg)
/-- nothing changed -/
theorem ChgP.same {base B : Nat} {q : RmV} {r : Rm} {t : Told} {w w' : World} (h : RoomAt base B q r w) (hb : RowKit.Below w.heap.size w w') : ChgP base B q r t w (.returned t.val) w' :=
  ⟨rfl, q, h.below hb, Fr.of_below hb, fun _ hk _ => hk⟩
theorem ChgP.set {base B : Nat} {q : RmV} {r r' : Rm} {t : Told} {w w' : World} (h : RoomAt base B q r w) (j : Nat) (v : Value)
    (ho : rmO r' q = .cells (#[.string (bs r.nm), q.vm, .string (bs r.tp), .int .i64 (flN r.fl), .string (bs r.key), .int .i64 r.lim, .int .i64 r.mb, q.vb, .pointer (some ⟨q.S, 0, none⟩)].setIfInBounds j v) 68 (0, 0))
    (h1 : r'.mem = r.mem) (h2 : r'.bans = r.bans) (h3 : r'.inv = r.inv) (hb : RowKit.Below (w.setCell ⟨B, j, none⟩ v).heap.size (w.setCell ⟨B, j, none⟩ v) w') : ChgP base B q r' t w (.returned t.val) w' :=
  ⟨rfl, q, (h.upd j v ho h1 h2 h3).below hb, ((Fr.refl (RmX B q) w).setCell ⟨B, j, none⟩ (.inl rfl) v).trans3 (Fr.of_below (X := fun _ => False) hb) fun _ _ e => e.elim, fun _ hk _ => hk⟩
/-- a key -/
noncomputable def chgKey (r : Rm) (on : Bool) (c : UInt8) (arg : List UInt8) : Told × Rm :=
  if on then (if r.key ≠ [] then (noT 475, r) else if dec (KeyP (bs arg)) then (⟨true, c, arg, 0⟩, { r with key := arg }) else (noT 475, r))
  else if r.key = [] then (noT 0, r) else (⟨false, c, [42], 0⟩, { r with key := [] })
theorem Rowed.keep {w W : World} (h : Rowed w) {n : Nat} (hb : RowKit.Below n w W) (hn : w.heap.size ≤ n := by exact Nat.le_refl _) : Rowed W := fun i hi => by
  obtain ⟨s, h1, h2⟩ := h i hi
  exact ⟨s, (hb.cell (p := ⟨_, i, none⟩) (Nat.lt_of_lt_of_le (World.block_lt_of_cell? _ _ h1) hn)).trans h1, h2⟩
set_option maxRecDepth 100000 in
set_option maxHeartbeats 4000000 in
theorem changeKey_any {base B : Nat} {q : RmV} {r : Rm} {w : World} (h : RoomAt base B q r w) (on : Bool) (c : UInt8) (arg : List UInt8) (ha : arg.length ≤ 1000000) (hr : Rowed w) :
    Calls Tryz.prog 48 #[.pointer (some ⟨B, 0, none⟩), chgV on c arg] w (ChgP base B q (chgKey r on c arg).2 (chgKey r on c arg).1 w) := by
  have c4 : w.cell? ⟨B, 4, none⟩ = some (.string (bs r.key)) := blk_cell h.1 4
  have hf4 : w.frozen? ⟨B, 4, none⟩ = false := blk_free h.1 4
  have hBl := blk_lt h.1
  have H := Lib.hid h
  have HK := Lib.hid (fun W (hb : RowKit.Below w.heap.size w W) => key_v (bs arg) W (by simpa using ha) (hr.keep hb))
  clear h hr
  unfold chgKey chgV
  cases on with
  | true =>
    simp only [if_true]
    cases hkey : r.key with
    | cons a b =>
      rw [if_pos (show a :: b ≠ [] by simp)]
      rw [hkey] at c4
      have hemp := str_ne (s := bs (a :: b)) (by simp)
      clear hkey
      go_enter Tryz.func48, Tryz.ntmps48
      go_wp2_with fail
      refine bodyPost_ret (v := .tuple #[.agg #[.bool false, .int .u8 0, .string ⟨#[]⟩], .int .i64 475]) (by simp [results, Tryz.results48, go_sem]) rfl ?_
      exact ChgP.same H.out (((Below.refl _ w).alloc (Nat.le_refl _) _).alloc (by simp) _)
    | nil =>
      rw [if_neg (show ¬ (([] : List UInt8) ≠ []) by simp)]
      rw [hkey, show bs ([] : List UInt8) = ({ data := #[] } : ByteArray) from rfl] at c4
      have HKEY := Lib.hid hkey
      clear hkey
      have hb2 : RowKit.Below w.heap.size w ((w.alloc (Obj.cells #[Value.bool true, Value.int IntKind.u8 ↑c.toNat, Value.string (bs arg)] 31)).alloc (Obj.cells #[Value.bool false, Value.int IntKind.u8 0, Value.string ⟨#[]⟩] 31)) := (((Below.refl _ w).alloc (Nat.le_refl _) _).alloc (by simp) _)
      have hk := HK.out _ hb2
      cases hd : dec (KeyP (bs arg))
      · rw [hd] at hk
        have HKK := Lib.hid hk
        clear hk hd hb2
        rw [if_neg (by simp)]
        go_enter Tryz.func48, Tryz.ntmps48
        go_wp2_with (go_at_call 75; refine HKK.out.mono ?_; rintro e w' ⟨rfl, rfl⟩)
        refine bodyPost_ret (v := .tuple #[.agg #[.bool false, .int .u8 0, .string ⟨#[]⟩], .int .i64 475]) (by simp [results, Tryz.results48, go_sem]) rfl ?_
        exact ChgP.same H.out (((Below.refl _ w).alloc (Nat.le_refl _) _).alloc (by simp) _)
      · rw [hd] at hk
        have HKK := Lib.hid hk
        clear hk hd hb2
        rw [if_pos rfl]
        go_enter Tryz.func48, Tryz.ntmps48
        go_wp2_with (go_at_call 75; refine HKK.out.mono ?_; rintro e w' ⟨rfl, rfl⟩)
        refine bodyPost_ret (v := .tuple #[.agg #[.bool true, .int .u8 c.toNat, .string (bs arg)], .int .i64 0]) (by simp [results, Tryz.results48, go_sem]) rfl ?_
        exact ChgP.set (r' := { r with key := arg }) H.out 4 _ rfl rfl rfl rfl (((Below.refl _ _).alloc (Nat.le_refl _) _).alloc (by simp) _)
  | false =>
    simp only [Bool.false_eq_true, if_false]
    cases hkey : r.key with
    | nil =>
      rw [if_pos rfl]
      rw [hkey, show bs ([] : List UInt8) = ({ data := #[] } : ByteArray) from rfl] at c4
      clear hkey
      go_enter Tryz.func48, Tryz.ntmps48
      go_wp2_with fail
      refine bodyPost_ret (v := .tuple #[.agg #[.bool false, .int .u8 0, .string ⟨#[]⟩], .int .i64 0]) (by simp [results, Tryz.results48, go_sem]) rfl ?_
      exact ChgP.same H.out (((Below.refl _ w).alloc (Nat.le_refl _) _).alloc (by simp) _)
    | cons a b =>
      rw [if_neg (show ¬ (a :: b = []) by simp)]
      rw [hkey] at c4
      have hemp := str_ne (s := bs (a :: b)) (by simp)
      clear hkey
      go_enter Tryz.func48, Tryz.ntmps48
      go_wp2_with fail
      refine bodyPost_ret (v := .tuple #[.agg #[.bool false, .int .u8 c.toNat, .string ⟨#[42]⟩], .int .i64 0]) (by simp [results, Tryz.results48, go_sem]) rfl ?_
      exact ChgP.set (r' := { r with key := [] }) H.out 4 _ rfl rfl rfl rfl (((Below.refl _ _).alloc (Nat.le_refl _) _).alloc (by simp) _)
theorem change_nil (c : Value) (id : Int) (w : World) (on : Bool) (l : UInt8) (arg : List UInt8) : Calls Tryz.prog 24 #[.pointer none, chgV on l arg, .int .i64 id] w fun e w' => e = .returned (noT 403).val ∧ RowKit.Below w.heap.size w w' := by
  unfold chgV noT Told.val chgV
  go_enter Tryz.func24, Tryz.ntmps24
  go_wp2_with fail
  refine bodyPost_ret (v := .tuple #[.agg #[.bool false, .int .u8 0, .string ⟨#[]⟩], .int .i64 403]) (by simp [results, Tryz.results24, go_sem]) rfl ⟨rfl, ?_⟩
  exact ((Below.refl _ w).alloc (Nat.le_refl _) _).alloc (by simp) _
end Go.Proofs.YtmgnhbihfgpccaaGreatDoor
end
section
/- Layer 18: modes.Seq, the letters of a row, as a function that ranges; Takes on both sides. -/
namespace Go.Proofs.YtmgnhbihfgpccaaGreatDoor
open Go.RowKit Go.Shelf
attribute [local go_sem] Oper.semAt_some

/-- a letter, and whether it is on -/
abbrev Letter := UInt8 × Bool
abbrev encLet (x : Letter) : Array Value := #[.int .u8 x.1.toNat, .bool x.2]
/-- the letters of a row, from a sign on -/
def seqL (on : Bool) : List UInt8 → List Letter
  | [] => []
  | c :: r => if c = 43 then seqL true r else if c = 45 then seqL false r else (c, on) :: seqL on r
theorem seqL_len (on : Bool) (l : List UInt8) : (seqL on l).length ≤ l.length := by
  induction l generalizing on with
  | nil => simp [seqL]
  | cons c r ih =>
    unfold seqL
    split
    · have := ih true; simp; omega
    · split
      · have := ih false; simp; omega
      · have := ih on; simp; omega
theorem seqL_at (on : Bool) (s : ByteArray) (k : Nat) (h : k < s.size) : seqL on (s.data.toList.drop k) = if s[k] = 43 then seqL true (s.data.toList.drop (k + 1)) else if s[k] = 45 then seqL false (s.data.toList.drop (k + 1)) else (s[k], on) :: seqL on (s.data.toList.drop (k + 1)) := by
  rw [List.drop_eq_getElem_cons (by simpa using h)]
  rfl





/-- block B lies as it lay -/
def KeptAt (B : Nat) (W1 W' : World) : Prop := W'.heap[B]? = W1.heap[B]?
theorem KeptAt.cell {B : Nat} {W1 W' : World} (h : KeptAt B W1 W') : W'.cell? ⟨B, 0, none⟩ = W1.cell? ⟨B, 0, none⟩ := World.cell?_of_block (w := W1) h

end Go.Proofs.YtmgnhbihfgpccaaGreatDoor
end
section
/- Layer 18: changes as data; Lists, the answers' Takes and Same. -/
namespace Go.Proofs.YtmgnhbihfgpccaaGreatDoor
open Go.RowKit

/-- does a letter take an argument? -/
def takesB (c : UInt8) (on : Bool) : Bool := c == 111 || c == 118 || c == 98 || c == 107 || (c == 108 && on)



/-- a change: on, its letter, its argument -/
abbrev Chg := Bool × UInt8 × ByteArray
def chV (x : Chg) : Value := .agg #[.bool x.1, .int .u8 x.2.1.toNat, .string x.2.2]
def listsB (x : Chg) : Bool := x.2.1 == 98 && x.2.2.toList.isEmpty


theorem Tryz.chgStruct : Tryz.prog.underlying 31 = some (.struct (Tryz.prog.fieldsOf 31)) := by kernel_rfl
theorem Tryz.chgHeld : Tryz.prog.stoodInHeld 31 = false := by kernel_rfl
theorem Tryz.chgGuard : Tryz.prog.eqGuardType Tryz.prog.depth 31 = false := by kernel_rfl
/-- are two changes one? -/
def eqB (x y : Chg) : Bool := x.1 == y.1 && (x.2.1 == y.2.1 && x.2.2.toList == y.2.2.toList)
theorem eqB_iff {x y : Chg} : eqB x y = true ↔ x = y := by
  obtain ⟨a, b, c⟩ := x
  obtain ⟨a', b', c'⟩ := y
  unfold eqB
  simp only [Bool.and_eq_true, beq_iff_eq, Prod.mk.injEq]
  rw [ByteArray.toList_eq, ByteArray.toList_eq]
  constructor
  · rintro ⟨h1, h2, h3⟩; exact ⟨h1, h2, ba_ext h3⟩
  · rintro ⟨h1, h2, h3⟩; exact ⟨h1, h2, by rw [h3]⟩
theorem neq_chg (x y : Chg) (w : World) : (binOp .neq 31 (.agg #[.bool x.1, .int .u8 x.2.1.toNat, .string x.2.2]) (.agg #[.bool y.1, .int .u8 y.2.1.toNat, .string y.2.2])).run Tryz.prog w = .ok (.bool (!eqB x y)) w := by
  rw [run_neq_struct, run_equalIn_agg (P := Tryz.prog) w 9999 31 _ _ Tryz.chgStruct Tryz.chgHeld]
  have hf : (Tryz.prog.fieldsOf 31).toList.map (fun f => (f.name, f.type, f.offset)) = [("On", 4, 0), ("Letter", 5, 1), ("Arg", 9, 2)] := by kernel_rfl
  generalize (Tryz.prog.fieldsOf 31).toList = fs at hf ⊢
  rcases fs with _ | ⟨f1, _ | ⟨f2, _ | ⟨f3, _ | ⟨f4, fs⟩⟩⟩⟩
  all_goals simp only [List.map_nil, List.map_cons, List.cons.injEq, Prod.mk.injEq, reduceCtorEq, and_false, and_true, false_and] at hf
  obtain ⟨⟨n1, t1, z1⟩, ⟨n2, t2, z2⟩, n3, t3, z3⟩ := hf
  have k1 : Tryz.prog.plainKey 4 = true := by kernel_rfl
  have k2 : Tryz.prog.plainKey 5 = true := by kernel_rfl
  have k3 : Tryz.prog.plainKey 9 = true := by kernel_rfl
  have u1 : Tryz.prog.underlying 4 = some .bool := by kernel_rfl
  have u2 : Tryz.prog.underlying 5 = some (.int .u8) := by kernel_rfl
  have u3 : Tryz.prog.underlying 9 = some .string := by kernel_rfl
  have e2 : ((x.2.1.toNat : Int) == (y.2.1.toNat : Int)) = (x.2.1 == y.2.1) := by
    rw [Bool.eq_iff_iff, beq_iff_eq, beq_iff_eq]
    constructor
    · intro h; exact UInt8.toNat_inj.mp (by omega)
    · intro h; rw [h]
  have s1 : ("On" = "_") = False := by simp
  have s2 : ("Letter" = "_") = False := by simp
  have s3 : ("Arg" = "_") = False := by simp
  unfold eqB
  cases h1 : (x.1 == y.1) <;> cases h2 : (x.2.1 == y.2.1) <;> cases h3 : (x.2.2.toList == y.2.2.toList) <;>
    simp only [Op.eqFields, n1, t1, z1, n2, t2, z2, n3, t3, z3, s1, s2, s3, ne_eq, not_false_eq_true, if_true, Sem.run_bind,
      run_part_plain (w := w) k1 (xs := #[.bool x.1, .int .u8 x.2.1.toNat, .string x.2.2]) (off := 0) (v := .bool x.1) rfl,
      run_part_plain (w := w) k1 (xs := #[.bool y.1, .int .u8 y.2.1.toNat, .string y.2.2]) (off := 0) (v := .bool y.1) rfl,
      run_part_plain (w := w) k2 (xs := #[.bool x.1, .int .u8 x.2.1.toNat, .string x.2.2]) (off := 1) (v := .int .u8 x.2.1.toNat) rfl,
      run_part_plain (w := w) k2 (xs := #[.bool y.1, .int .u8 y.2.1.toNat, .string y.2.2]) (off := 1) (v := .int .u8 y.2.1.toNat) rfl,
      run_part_plain (w := w) k3 (xs := #[.bool x.1, .int .u8 x.2.1.toNat, .string x.2.2]) (off := 2) (v := .string x.2.2) rfl,
      run_part_plain (w := w) k3 (xs := #[.bool y.1, .int .u8 y.2.1.toNat, .string y.2.2]) (off := 2) (v := .string y.2.2) rfl,
      run_equalIn_bool' w 9998 4 x.1 y.1 u1, run_equalIn_int w 9998 5 _ _ _ _ u2, run_equalIn_string w 9998 9 _ _ u3, Result.andThen_ok, Sem.run_pure, Sem.run_ite, e2, h1, h2, h3,
      Bool.not_true, Bool.not_false, Bool.false_eq_true, if_false, if_true, Bool.and_true, Bool.and_false]
/-- a slice reads as changes -/
def ReadsC (W : World) (v : Value) (l : List Chg) : Prop :=
  (v = .slice none 0 0 ∧ l = []) ∨ ∃ g off cap, v = .slice (some ⟨g, off, none⟩) l.length cap ∧ ∀ i (h : i < l.length), W.cell? ⟨g, off + i * 3, none⟩ = some (.bool l[i].1) ∧ W.cell? ⟨g, off + i * 3 + 1, none⟩ = some (.int .u8 l[i].2.1.toNat) ∧ W.cell? ⟨g, off + i * 3 + 2, none⟩ = some (.string l[i].2.2)

end Go.Proofs.YtmgnhbihfgpccaaGreatDoor
end
section
/- Layer 18: the answers' Parse. -/
namespace Go.Proofs.YtmgnhbihfgpccaaGreatDoor
open Go.RowKit

/-- one letter more: the changes, the next argument, how many took one -/
abbrev PSt := List Chg × Nat × Nat
def noArg : ByteArray := ⟨#[]⟩
def stepP (ps : List ByteArray) (st : PSt) (x : Letter) : PSt :=
  if takesB x.1 x.2 = true then
    if st.2.2 = 4 then st
    else if h : st.2.1 < ps.length then (st.1 ++ [(x.2, x.1, ps[st.2.1])], st.2.1 + 1, st.2.2 + 1)
    else if x.1 = 98 then (st.1 ++ [(x.2, x.1, noArg)], st.2.1, st.2.2 + 1)
    else st
  else (st.1 ++ [(x.2, x.1, noArg)], st.2.1, st.2.2)
theorem stepP_no {ps : List ByteArray} {out : List Chg} {a n : Nat} {c : UInt8} {o : Bool} (h : takesB c o = false) : stepP ps (out, a, n) (c, o) = (out ++ [(o, c, noArg)], a, n) := by simp [stepP, h]
theorem stepP_full {ps : List ByteArray} {out : List Chg} {a : Nat} {c : UInt8} {o : Bool} (h : takesB c o = true) : stepP ps (out, a, 4) (c, o) = (out, a, 4) := by simp [stepP, h]
theorem stepP_arg {ps : List ByteArray} {out : List Chg} {a n : Nat} {c : UInt8} {o : Bool} (h : takesB c o = true) (hn : n ≠ 4) (ha : a < ps.length) : stepP ps (out, a, n) (c, o) = (out ++ [(o, c, ps[a])], a + 1, n + 1) := by simp [stepP, h, hn, ha]
theorem stepP_list {ps : List ByteArray} {out : List Chg} {a n : Nat} {o : Bool} (h : takesB 98 o = true) (hn : n ≠ 4) (ha : ¬ a < ps.length) : stepP ps (out, a, n) (98, o) = (out ++ [(o, 98, noArg)], a, n + 1) := by simp [stepP, h, hn, ha]
theorem stepP_drop {ps : List ByteArray} {out : List Chg} {a n : Nat} {c : UInt8} {o : Bool} (h : takesB c o = true) (hn : n ≠ 4) (ha : ¬ a < ps.length) (hc : c ≠ 98) : stepP ps (out, a, n) (c, o) = (out, a, n) := by simp [stepP, h, hn, ha, hc]
def parseM (ps : List ByteArray) : List Chg := if h : 0 < ps.length then ((seqL true ps[0].data.toList).foldl (stepP ps) ([], 1, 0)).1 else []
/-- changes as cells -/
def chL (l : List Chg) : List Value := l.flatMap fun x => [.bool x.1, .int .u8 x.2.1.toNat, .string x.2.2]
theorem chL_snoc (l : List Chg) (x : Chg) : chL (l ++ [x]) = chL l ++ [.bool x.1, .int .u8 x.2.1.toNat, .string x.2.2] := by simp [chL]

theorem Tryz.infoChg : (Tryz.prog.info? 31).map (fun i => (i.zero, i.size, i.bytes)) = some (some (.agg #[.bool false, .int .u8 0, .string ⟨#[]⟩]), 3, 24) := by kernel_rfl

end Go.Proofs.YtmgnhbihfgpccaaGreatDoor
end
section
/- A region that draws its order, anywhere, a loop's round over a function too: what only reads, in whatever order; then what must come last, in its order. -/
namespace Go.Proofs.YtmgnhbihfgpccaaGreatDoor
open Go

section
variable {F : Fence} {n : Nat} {P : Program} {ops : Array Oper} {md : Region.Mode} {C : World → Prop}

/-- no operation puts a call off -/
def noDefer (ops : Array Oper) : Bool := ops.all fun o => match o.op with | .defer _ => false | _ => true
theorem noDefer_spec (h : noDefer ops = true) {i : Nat} {o : Oper} (ho : ops[i]? = some o) : ∀ c, o.op ≠ .defer c := by
  intro c hc
  have := Array.all_eq_true.1 h i (Array.getElem?_eq_some_iff.1 ho).1
  rw [(Array.getElem?_eq_some_iff.1 ho).2, hc] at this
  cases this

theorem quiet_wpIn {o : Oper} {a : Act} {K : Act → Prop} {K' : Act → World → Prop} {Q' : Exit → Act → World → Prop} {w : World} (hd : ∀ c, o.op ≠ .defer c) (hw : C w) (h : ∀ a w', C w' → K a → K' a w')
    (ha : o.askedIn F P a C) (hh : o.quietIn F n P a C K) : o.wpIn F n P a w K' Q' := by
  obtain ⟨v, h1, h2⟩ := hh
  have h3 := h1 w hw
  unfold Oper.quietAtIn at h3
  refine ⟨ha w hw, ?_⟩
  rw [Oper.semAt_eq _ _ _ hd]
  generalize (execOp a.eval o).run P w = r at h3 ⊢
  match r, h3 with
  | .ok (.value u) w', h3 =>
    obtain ⟨rfl, rfl⟩ := h3
    exact h _ _ hw h2
  | .ok .skip w', h3 =>
    obtain ⟨rfl, rfl⟩ := h3
    exact h _ _ hw h2
  | .ok (.enter f args) w', h3 =>
    obtain ⟨rfl, hdep, hc⟩ := h3
    exact ⟨hdep, hc.mono fun e w'' hx => by obtain ⟨rfl, hw''⟩ := hx; exact h _ _ hw'' h2⟩

theorem quiet_wpOpIn {i : Nat} {a : Act} {K : Act → Prop} {K' : Act → World → Prop} {Q' : Exit → Act → World → Prop} {w : World} (hnd : noDefer ops = true) (hC : C w) (h : ∀ a w', C w' → K a → K' a w')
    (hh : qOpIn F n P ops C i K a) : wpOpIn F n P ops Q' i K' a w := by
  unfold qOpIn at hh
  unfold wpOpIn
  cases ho : ops[i]? with
  | none => simp only [ho] at hh ⊢; exact h _ _ hC hh
  | some o =>
    simp only [ho] at hh ⊢
    obtain ⟨ha, hh⟩ := hh
    by_cases hw : Region.wanted o (yielded ops a.tmps) = true
    · simp only [hw, if_true] at hh ⊢
      exact quiet_wpIn (noDefer_spec hnd ho) hC h ha hh
    · simp only [hw] at hh ⊢
      exact ⟨ha w hC, h _ _ hC hh⟩

/-- the head of a region: so many operations, whatever comes up, each below m -/
def headQ (F : Fence) (n : Nat) (P : Program) (md : Region.Mode) (ops : Array Oper) (C : World → Prop) (m : Nat) (L : Array Bool → Act → Prop) : Nat → Array Bool → Act → Prop
  | 0, listed, a => L listed a
  | f + 1, listed, a =>
    Region.ready md ops listed ≠ [] ∧ ∀ i ∈ Region.ready md ops listed, i < m ∧ qOpIn F n P ops C i (headQ F n P md ops C m L f (listed.setIfInBounds i true)) a

theorem wpAnyIn_of_headQ {m g : Nat} {L : Array Bool → Act → Prop} {Q' : Exit → Act → World → Prop} (hnd : noDefer ops = true) (hL : ∀ listed a w, C w → L listed a → wpAnyIn F n P md ops Q' g listed a w) :
    ∀ (f : Nat) (listed : Array Bool) (a : Act) (w : World), C w → headQ F n P md ops C m L f listed a → wpAnyIn F n P md ops Q' (f + g) listed a w
  | 0, listed, a, w, hw, h => by rw [Nat.zero_add]; exact hL _ _ _ hw h
  | f + 1, listed, a, w, hw, h => by
    rw [show f + 1 + g = (f + g) + 1 by omega]
    exact ⟨fun h0 => absurd h0 h.1, fun i hi => quiet_wpOpIn hnd hw (fun a' w' hw' h' => wpAnyIn_of_headQ hnd hL f _ a' w' hw' h') (h.2 i hi).2⟩

theorem headQ_first {m i : Nat} {oi : Oper} {v : Value} {L : Array Bool → Act → Prop} (hi : ops[i]? = some oi) (hsel : ∀ (j : Nat) (o : Oper) cs b, ops[j]? = some o → o.op ≠ .select cs b)
    (hs : Region.sinkB md ops m = true) (hc : Region.chainB md ops m = true) (hn : m < ops.size) (hin : i < m)
    (hdone : ∀ listed a, L listed a → ∀ j ∈ Region.ready md ops listed, m ≤ j) :
    ∀ (f : Nat) (listed : Array Bool) (a : Act), HeadInv md ops m listed →
      (∀ j oj, ops[j]? = some oj → j ≠ i → listed.getD j true = false → (∀ e ∈ oj.after, Region.binds md e = true → e.on ≠ i) → oi.apart ops oj = true) →
      i ∈ Region.ready md ops listed → YieldsQuiet F n P ops C oi v a →
      headQ F n P md ops C m L f (listed.setIfInBounds i true) (a.put oi.dst v) → headQ F n P md ops C m L (f + 1) listed a := by
  intro f
  induction f with
  | zero =>
    intro listed a inv _ hr hy H
    have hun := (mem_ready.1 hr).1
    refine ⟨fun h => (by rw [h] at hr; cases hr), fun j hj => ?_⟩
    have hjn : j < m := Nat.lt_of_not_le fun h => tail_waits hs hc hn inv _ i rfl hin hun j h hj
    refine ⟨hjn, ?_⟩
    by_cases hji : j = i
    · subst hji; exact hy.qOpIn hi H
    · exact absurd (hdone _ _ H j (ready_mono hj hji)) (by omega)
  | succ f ih =>
    intro listed a inv hfree hr hy H
    have hun := (mem_ready.1 hr).1
    refine ⟨fun h => (by rw [h] at hr; cases hr), fun j hj => ?_⟩
    have hjn : j < m := Nat.lt_of_not_le fun h => tail_waits hs hc hn inv _ i rfl hin hun j h hj
    refine ⟨hjn, ?_⟩
    by_cases hji : j = i
    · subst hji; exact hy.qOpIn hi H
    · have h1 := (H.2 j (ready_mono hj hji)).2
      obtain ⟨hjun, oj, hoj, hall⟩ := mem_ready.1 hj
      have hnot : ∀ e ∈ oj.after, Region.binds md e = true → e.on ≠ i := fun e he hb heq => by
        have h1 := hall e he hb
        rw [heq, getD_both hun] at h1
        cases h1
      have h2 := qOpIn_put hoj (hfree j oj hoj hji hjun hnot) (fun cs b => hsel i oi cs b hi) (fun cs b => hsel j oj cs b hoj) hy h1
      have hfree' : ∀ k ok, ops[k]? = some ok → k ≠ i → (listed.setIfInBounds j true).getD k true = false →
          (∀ e ∈ ok.after, Region.binds md e = true → e.on ≠ i) → oi.apart ops ok = true := fun k ok hk hki hun hno => by
        refine hfree k ok hk hki ?_ hno
        by_cases hjk : j = k
        · subst hjk; exact hjun
        · rw [getD_set_ne true hjk] at hun; exact hun
      refine qOpIn_mono (fun a' h3 => ih (listed.setIfInBounds j true) a' (inv.set hj hjn) hfree' (ready_mono hr (Ne.symm hji)) h3.1 ?_) h2
      rw [Array.setIfInBounds_comm _ _ hji]
      exact h3.2

theorem wpAnyIn_of_seq {Q' : Exit → Act → World → Prop} : ∀ (l : List Oper) (k : Nat) (listed : Array Bool) (a : Act) (w : World), (∀ j, l[j]? = ops[k + j]?) →
    Region.seqB md ops l.length k listed = true → wpListIn F n P ops Q' l a w → wpAnyIn F n P md ops Q' l.length listed a w
  | [], _, _, _, _, _, hB, h => ⟨by simpa [Region.seqB] using hB, h⟩
  | o :: l, k, listed, a, w, hl, hB, h => by
    have h0 : ops[k]? = some o := by simpa using (hl 0).symm
    simp only [List.length_cons, Region.seqB, Bool.and_eq_true, decide_eq_true_eq] at hB
    refine ⟨fun h1 => (by rw [hB.1] at h1; cases h1), fun i hi => ?_⟩
    rw [hB.1] at hi
    have hik : i = k := by simpa using hi
    subst hik
    have hw : wpOpIn F n P ops Q' i (wpListIn F n P ops Q' l) a w := by unfold wpOpIn; simp only [h0]; exact h
    exact wpOpIn_mono (fun a' w' h' => wpAnyIn_of_seq l (i + 1) _ a' w' (fun j => by have := hl (j + 1); simpa [Nat.add_assoc, Nat.add_comm 1 j] using this) hB.2 h') hw

theorem headQ_lex {m g : Nat} {Lq : Act → Prop} (hsel : Region.noSelect ops = true) (hs : Region.sinkB md ops m = true) (hc : Region.chainB md ops m = true) (hn : m < ops.size) :
    ∀ (l : List Oper) (k : Nat) (listed : Array Bool) (a : Act), (∀ j, j < l.length → l[j]? = ops[k + j]?) → k + l.length = m → HeadInv md ops m listed →
    Region.lexHead md ops g l.length k listed = true → wpQuietIn F n P ops C Lq l a →
    headQ F n P md ops C m (fun listed' a' => Region.seqB md ops g m listed' = true ∧ Lq a') l.length listed a
  | [], k, listed, a, _, hk, _, hB, h => by
    have : k = m := by simpa using hk
    subst this
    exact ⟨by simpa [Region.lexHead] using hB, h⟩
  | o :: l, k, listed, a, hl, hk, inv, hB, h => by
    have h0 : ops[k]? = some o := by simpa using (hl 0 (by simp)).symm
    simp only [List.length_cons, Region.lexHead, Bool.and_eq_true] at hB
    obtain ⟨⟨hr, hf⟩, hB'⟩ := hB
    have hkn : k < m := by simp only [List.length_cons] at hk; omega
    have hr' : k ∈ Region.ready md ops listed := by simpa using hr
    have hst : qOpIn F n P ops C k (wpQuietIn F n P ops C Lq l) a := by unfold qOpIn; simp only [h0]; exact h
    obtain ⟨v, hy, hK⟩ := yieldsQuiet_of_qOpIn h0 hst
    exact headQ_first h0 (Region.noSelect_spec hsel) hs hc hn hkn (fun listed' a' hL => seqB_ready hL.1) l.length listed a inv (Region.free_spec h0 hf) hr' hy
      (headQ_lex hsel hs hc hn l (k + 1) _ _ (fun j hj => by have := hl (j + 1) (by simp; omega); simpa [Nat.add_assoc, Nat.add_comm 1 j] using this) (by simp only [List.length_cons] at hk; omega) (inv.set hr' hkn) hB' hK)

/-- what only reads ahead, in whatever order; what must come last behind it, in its order -/
theorem wpIn_quiet_tail {id : Nat} {Q : Exit → Act → World → Prop} {a : Act} {w : World} {l : List Oper} (m : Nat) (hm : P.follows .mixedOrders = true) (hnd : noDefer l.toArray = true) (hB : Region.lexTailB .any l.toArray m = true)
    (h : wpQuietIn F n P l.toArray (fun w' => ∃ k, w' = w.drewN k) (fun a' => ∀ w', (∃ k, w' = w.drewN k) → wpListIn F n P l.toArray Q (l.drop m) a' w') (l.take m) a) : (Code.region id l.toArray true).wpIn F n P Q a w := by
  simp only [Region.lexTailB, Bool.and_eq_true, decide_eq_true_eq] at hB
  obtain ⟨⟨⟨⟨hsel, hn⟩, hs⟩, hc⟩, hlex⟩ := hB
  have hn' : m < l.length := by simpa using hn
  have htl : (l.take m).length = m := by simp; omega
  have hdl : (l.drop m).length = l.toArray.size - m := by simp
  have inv0 : HeadInv .any l.toArray m (Array.replicate l.toArray.size false) :=
    ⟨by simp, fun j oj _ hl => (by rw [getD_replicate_false] at hl; cases hl), fun t _ ht => getD_in (by simpa using ht) (getD_replicate_false _ _)⟩
  have H := headQ_lex (F := F) (n := n) (P := P) (md := .any) (g := l.toArray.size - m) hsel hs hc hn (l.take m) 0 _ a (fun j hj => by
    have hj' : j < m := by rw [htl] at hj; exact hj
    simp [hj']) (by simpa using htl) inv0 (by rw [htl]; exact hlex) h
  refine wpIn_region_any hm ?_
  have := wpAnyIn_of_headQ (Q' := Q) (g := l.toArray.size - m) hnd (fun listed a' w' hw' hL => by
    have := wpAnyIn_of_seq (F := F) (n := n) (P := P) (md := .any) (Q' := Q) (l.drop m) m listed a' w' (fun j => by simp [List.getElem?_drop]) (by rw [hdl]; exact hL.1) (hL.2 w' hw')
    rwa [hdl] at this) _ _ _ _ ⟨1, rfl⟩ H
  rw [htl, show m + (l.toArray.size - m) = l.toArray.size by omega] at this
  exact this

theorem wpAnyIn_of_allQ {Q : Act → Prop} {Q' : Exit → Act → World → Prop} (hnd : noDefer ops = true) (hQ : ∀ a w, C w → Q a → Q' .normal a w) : ∀ (fuel : Nat) (listed : Array Bool) (a : Act) (w : World), C w →
    wpAnyQIn F n P md ops C Q fuel listed a → wpAnyIn F n P md ops Q' fuel listed a w
  | 0, _, _, _, hw, h => ⟨h.1, hQ _ _ hw h.2⟩
  | fuel + 1, _, _, _, hw, h => ⟨fun h0 => hQ _ _ hw (h.1 h0), fun i hi => quiet_wpOpIn hnd hw (fun a' w' hw' => wpAnyIn_of_allQ hnd hQ fuel _ a' w' hw') (h.2 i hi)⟩

/-- all of it only reads -/
theorem wpIn_quiet_all {id : Nat} {Q : Exit → Act → World → Prop} {a : Act} {w : World} {l : List Oper} (hm : P.follows .mixedOrders = true) (hnd : noDefer l.toArray = true) (hB : Region.lexB .any l.toArray = true)
    (h : wpQuietIn F n P l.toArray (fun w' => ∃ k, w' = w.drewN k) (fun a' => ∀ w', (∃ k, w' = w.drewN k) → Q .normal a' w') l a) : (Code.region id l.toArray true).wpIn F n P Q a w := by
  simp only [Region.lexB, Bool.and_eq_true] at hB
  refine wpIn_region_any hm (wpAnyIn_of_allQ (Q := fun a' => ∀ w', (∃ k, w' = w.drewN k) → Q .normal a' w') hnd (fun _ w' hw' h => h w' hw') _ _ _ _ ⟨1, rfl⟩ ?_)
  have := wpAnyQIn_lex (F := F) (n := n) (P := P) (C := fun w' => ∃ k, w' = w.drewN k) (md := .any) hB.1 l.toArray.toList 0 (Array.replicate l.toArray.size false) a (by simp) (by simpa using hB.2) (by simpa using h)
  simpa using this

/-- one operation of the walk, where the fence lets every function by -/
theorem quiet_step_w (hF : ∀ f, F.fn f) {Q : Act → Prop} {a : Act} {o : Oper} {rest : List Oper}
    (h : ∀ K : Act → Prop, (∀ a, wpQuietIn F n P ops C Q rest a → K a) → if Region.wanted o (yielded ops a.tmps) then o.quietIn F n P a C K else K (a.put o.dst undef)) : wpQuietIn F n P ops C Q (o :: rest) a :=
  wpQuietIn_step (fun _ _ f _ => hF f) h
end
end Go.Proofs.YtmgnhbihfgpccaaGreatDoor
end
section
/- Layer 18: modes.Parse. -/
namespace Go.Proofs.YtmgnhbihfgpccaaGreatDoor
open Go.RowKit Go.Shelf
attribute [local go_sem] Oper.semAt_some

/-- what is left of the arguments -/
def ArgsAt (pg po : Nat) (ps : List ByteArray) (a : Nat) (v : Value) : Prop :=
  ∃ g o c, v = .slice (some ⟨g, o, none⟩) (ps.length - a) c ∧ ps.length - a ≤ c ∧ (a < ps.length → g = pg ∧ o = po + a)

/-- where the letters have led -/
def stP (ps : List ByteArray) (pre : List Letter) : PSt := pre.foldl (stepP ps) ([], 1, 0)
theorem stP_snoc (ps : List ByteArray) (pre : List Letter) (x : Letter) : stP ps (pre ++ [x]) = stepP ps (stP ps pre) x := by simp [stP]
theorem stP_bounds (ps : List ByteArray) (h : 0 < ps.length) (pre : List Letter) : (stP ps pre).1.length ≤ pre.length ∧ 1 ≤ (stP ps pre).2.1 ∧ (stP ps pre).2.1 ≤ ps.length ∧ (stP ps pre).2.2 ≤ pre.length := by
  have key : ∀ (l : List Letter) (s : PSt) (k : Nat), (s.1.length ≤ k ∧ 1 ≤ s.2.1 ∧ s.2.1 ≤ ps.length ∧ s.2.2 ≤ k) → ((l.foldl (stepP ps) s).1.length ≤ k + l.length ∧ 1 ≤ (l.foldl (stepP ps) s).2.1 ∧ (l.foldl (stepP ps) s).2.1 ≤ ps.length ∧ (l.foldl (stepP ps) s).2.2 ≤ k + l.length) := by
    intro l
    induction l with
    | nil => intro s k hs; simpa using hs
    | cons x r ih =>
      intro s k hs
      have h2 := ih (stepP ps s x) (k + 1) (by
        obtain ⟨h1, h2, h3, h4⟩ := hs
        unfold stepP
        split
        · split
          · exact ⟨by omega, h2, h3, by omega⟩
          · split
            · refine ⟨by simp; omega, by simp, by simp; omega, by simp; omega⟩
            · split
              · exact ⟨by simp; omega, h2, h3, by simp; omega⟩
              · exact ⟨by omega, h2, h3, by omega⟩
        · exact ⟨by simp; omega, h2, h3, by simp; omega⟩)
      simp only [List.foldl_cons, List.length_cons]
      have e : k + 1 + r.length = k + (r.length + 1) := by omega
      rw [e] at h2
      exact h2
  have := key pre ([], 1, 0) 0 (by simp; omega)
  simpa [stP] using this
theorem holds_own {β : Type} (B : Nat) (t : TypeId) (G : β → Value → Prop) : Own (fun s W => ∃ v, Boxed W B t v ∧ G s v) := fun s X Y row ⟨v, hs, hg⟩ hgr hrow =>
  ⟨v, hs.kept hgr (fun e' => by obtain ⟨o, ho, hc⟩ := hrow B e'.symm; rw [show X.heap[B]? = _ from hs] at ho; cases ho; cases hc), hg⟩

theorem grownBy_setAt (W : World) (b o : Nat) (v : Value) : W.grownBy (W.setCell ⟨b, o, none⟩ v) (some b) :=
  ⟨rfl, rfl, rfl, (KeepsWalks.setCell W _ v).size, fun k _ hk => Below.heap_setCell _ _ _ k (fun e => hk (by rw [e]))⟩
theorem boxed_otherAt {W : World} {B B' : Nat} {t : TypeId} {v : Value} (h : Boxed W B t v) (hne : B ≠ B') (o : Nat) (u : Value) : Boxed (W.setCell ⟨B', o, none⟩ u) B t v :=
  h.kept (grownBy_setAt W B' o u) (fun e => hne (by simpa using e))

theorem below_dn' {B : Nat} {a w : World} (h : Below B a w) (n : Nat) : Below B a (w.drewN n) := ⟨h.os, h.tape, h.output, h.size, h.block⟩
theorem keeps_dn' (W : World) (n : Nat) : KeepsOthers W (W.drewN n) := ⟨Nat.le_refl _, fun _ _ h _ => h⟩

theorem slice_from (g o n c : Nat) (h : 1 ≤ n) (hc : n ≤ c) : ∃ g1 o1, (∀ W, (Instr.slice 34 (.slice (some ⟨g, o, none⟩) n c) (some (.int .i64 1)) none none).run Tryz.prog W = .ok (.slice (some ⟨g1, o1, none⟩) (n - 1) (c - 1)) W) ∧ (1 < n → g1 = g ∧ o1 = o + 1) := by
  have hu : Tryz.prog.underlying 34 = some (.slice (Tryz.prog.elem 34)) := by kernel_rfl
  have hz : (Tryz.prog.info? (Tryz.prog.elem 34)).map (·.size) = some 1 := by kernel_rfl
  cases hie : Tryz.prog.info? (Tryz.prog.elem 34) with
  | none => rw [hie] at hz; cases hz
  | some ie =>
    rw [hie] at hz
    simp only [Option.map_some, Option.some.injEq] at hz
    by_cases h1 : c = 1
    · subst h1
      refine ⟨g, o, fun W => ?_, fun h2 => by omega⟩
      rw [run_slice_l W 34 _ _ _ hu _ _ (by omega) (by omega)]
      simp [sliced, sizeOf, hie, hz, go_sem]
    · refine ⟨g, o + 1, fun W => ?_, fun h2 => ⟨rfl, rfl⟩⟩
      rw [run_slice_l W 34 _ _ _ hu _ _ (by omega) (by omega)]
      have h3 : ¬ (c - 1 = 0) := by omega
      simp [sliced, sizeOf, hie, hz, go_sem, h1, Addr.add, show Tryz.t9.size = 1 from rfl]

end Go.Proofs.YtmgnhbihfgpccaaGreatDoor
end
section
/- Layer 18: what is written, as data; what is read is good; what is good comes back. -/
namespace Go.Proofs.YtmgnhbihfgpccaaGreatDoor
open Go.RowKit

/-- what is written: the row, the arguments, the sign that stands last -/
abbrev TSt := List UInt8 × List ByteArray × Option Bool
def sgn (on : Bool) : UInt8 := if on then 43 else 45
def stepT (st : TSt) (x : Chg) : TSt :=
  (st.1 ++ (if st.2.2 = some x.1 then [] else [sgn x.1]) ++ [x.2.1], if takesB x.2.1 x.1 = true then st.2.1 ++ [x.2.2] else st.2.1, some x.1)
def textS (l : List Chg) : TSt := l.foldl stepT ([], [], none)
def textM (l : List Chg) : List ByteArray := if l = [] then [] else bs (textS l).1 :: (textS l).2.1
theorem textS_take (l : List Chg) (k : Nat) (h : k < l.length) : textS (l.take (k + 1)) = stepT (textS (l.take k)) l[k] := by
  unfold textS
  rw [List.take_succ_eq_append_getElem h, List.foldl_append]
  rfl
theorem textS_last (l : List Chg) (k : Nat) (h : k < l.length) : (textS (l.take (k + 1))).2.2 = some l[k].1 := by
  rw [textS_take l k h]; rfl

def rowR (p : Option Bool) : List Chg → List UInt8
  | [] => []
  | x :: r => (if p = some x.1 then [] else [sgn x.1]) ++ x.2.1 :: rowR (some x.1) r
def tk (x : Chg) : Bool := takesB x.2.1 x.1
def argsR (l : List Chg) : List ByteArray := (l.filter tk).map (·.2.2)
def manyT (l : List Chg) : Nat := (l.filter tk).length
theorem fold_text : ∀ (l : List Chg) (r : List UInt8) (a : List ByteArray) (p : Option Bool), (l.foldl stepT (r, a, p)).1 = r ++ rowR p l ∧ (l.foldl stepT (r, a, p)).2.1 = a ++ argsR l
  | [], r, a, p => by simp [rowR, argsR]
  | x :: l, r, a, p => by
    have h := fold_text l (stepT (r, a, p) x).1 (stepT (r, a, p) x).2.1 (some x.1)
    have e : (x :: l).foldl stepT (r, a, p) = l.foldl stepT ((stepT (r, a, p) x).1, (stepT (r, a, p) x).2.1, some x.1) := rfl
    rw [e, h.1, h.2]
    refine ⟨by simp [stepT, rowR], ?_⟩
    cases ht : tk x with
    | true =>
      have ht' : takesB x.2.1 x.1 = true := ht
      simp [stepT, argsR, List.filter_cons, ht, ht']
    | false =>
      have ht' : takesB x.2.1 x.1 = false := ht
      simp [stepT, argsR, List.filter_cons, ht, ht']
theorem textS_row (l : List Chg) : (textS l).1 = rowR none l := by unfold textS; simpa using (fold_text l [] [] none).1
theorem textS_args (l : List Chg) : (textS l).2.1 = argsR l := by unfold textS; simpa using (fold_text l [] [] none).2
theorem rowR_len : ∀ (l : List Chg) (p : Option Bool), (rowR p l).length ≤ 2 * l.length
  | [], p => by simp [rowR]
  | x :: r, p => by
    have := rowR_len r (some x.1)
    unfold rowR
    split <;> simp <;> omega
theorem argsR_len (l : List Chg) : (argsR l).length = manyT l := by simp [argsR, manyT]
theorem manyT_le (l : List Chg) : manyT l ≤ l.length := List.length_filter_le _ _
theorem textS_len (l : List Chg) : (textS l).1.length ≤ 2 * l.length ∧ (textS l).2.1.length ≤ l.length := by
  rw [textS_row, textS_args, argsR_len]
  exact ⟨rowR_len l none, manyT_le l⟩

/-! what is read is good -/
def goodC (x : Chg) : Prop := x.2.1 ≠ 43 ∧ x.2.1 ≠ 45 ∧ (tk x = false → x.2.2 = noArg)
theorem seqL_mem : ∀ (l : List UInt8) (on : Bool) (x : Letter), x ∈ seqL on l → x.1 ≠ 43 ∧ x.1 ≠ 45
  | [], on, x, h => by simp [seqL] at h
  | c :: r, on, x, h => by
    unfold seqL at h
    split at h
    · exact seqL_mem r _ x h
    · split at h
      · exact seqL_mem r _ x h
      · rcases List.mem_cons.1 h with rfl | h
        · exact ⟨‹_›, ‹_›⟩
        · exact seqL_mem r _ x h
theorem manyT_snoc (l : List Chg) (x : Chg) : manyT (l ++ [x]) = manyT l + if tk x = true then 1 else 0 := by
  unfold manyT
  rw [List.filter_append, List.length_append]
  cases h : tk x <;> simp [List.filter_cons, h]
def okP (st : PSt) : Prop := (∀ x ∈ st.1, goodC x) ∧ manyT st.1 = st.2.2 ∧ st.2.2 ≤ 4
theorem okP_step (ps : List ByteArray) (st : PSt) (x : Letter) (h1 : x.1 ≠ 43) (h2 : x.1 ≠ 45) (h : okP st) : okP (stepP ps st x) := by
  obtain ⟨out, a, n⟩ := st
  obtain ⟨c, on⟩ := x
  obtain ⟨hg, hm, hn⟩ := h
  simp only at hg hm hn h1 h2
  have snoc : ∀ y : Chg, goodC y → ∀ z ∈ out ++ [y], goodC z := fun y hy z hz => by
    rcases List.mem_append.1 hz with hz | hz
    · exact hg z hz
    · rw [List.mem_singleton.1 hz]; exact hy
  cases ht : takesB c on with
  | false =>
    rw [stepP_no ht]
    have hk : ∀ b, tk (on, c, b) = false := fun b => ht
    exact ⟨snoc _ ⟨h1, h2, fun _ => rfl⟩, by show manyT (out ++ [_]) = n; rw [manyT_snoc, hk]; simpa using hm, hn⟩
  | true =>
    have hk : ∀ b, tk (on, c, b) = true := fun b => ht
    have good : ∀ b, goodC (on, c, b) := fun b => ⟨h1, h2, fun h => by rw [hk] at h; cases h⟩
    have many : ∀ b, manyT (out ++ [(on, c, b)]) = n + 1 := fun b => by rw [manyT_snoc, hk, hm]; rfl
    by_cases h4 : n = 4
    · subst h4; rw [stepP_full ht]; exact ⟨hg, hm, hn⟩
    · by_cases ha : a < ps.length
      · rw [stepP_arg ht h4 ha]; exact ⟨snoc _ (good _), many _, by show n + 1 ≤ 4; omega⟩
      · by_cases hc : c = 98
        · subst hc; rw [stepP_list ht h4 ha]; exact ⟨snoc _ (good _), many _, by show n + 1 ≤ 4; omega⟩
        · rw [stepP_drop ht h4 ha hc]; exact ⟨hg, hm, hn⟩
theorem okP_fold (ps : List ByteArray) : ∀ (l : List Letter) (st : PSt), (∀ x ∈ l, x.1 ≠ 43 ∧ x.1 ≠ 45) → okP st → okP (l.foldl (stepP ps) st)
  | [], st, _, h => h
  | x :: l, st, hl, h => okP_fold ps l _ (fun y hy => hl y (List.mem_cons_of_mem _ hy)) (okP_step ps st x (hl x List.mem_cons_self).1 (hl x List.mem_cons_self).2 h)
theorem parse_good (ps : List ByteArray) : (∀ x ∈ parseM ps, goodC x) ∧ manyT (parseM ps) ≤ 4 := by
  unfold parseM
  split
  · have h := okP_fold ps _ ([], 1, 0) (seqL_mem ps[0].data.toList true) ⟨by simp, rfl, by decide⟩
    exact ⟨h.1, by rw [h.2.1]; exact h.2.2⟩
  · exact ⟨by simp, by decide⟩

/-! what is good comes back -/
theorem seqL_row : ∀ (l : List Chg) (p : Option Bool) (on : Bool), (p = none ∨ p = some on) → (∀ x ∈ l, goodC x) → seqL on (rowR p l) = l.map fun x => (x.2.1, x.1)
  | [], p, on, _, _ => by simp [rowR, seqL]
  | x :: r, p, on, hp, hg => by
    have hx := hg x List.mem_cons_self
    have ih := fun o => seqL_row r (some x.1) o
    have rest := ih x.1 (.inr rfl) fun y hy => hg y (List.mem_cons_of_mem _ hy)
    unfold rowR
    by_cases h : p = some x.1
    · rw [if_pos h]
      have ho : on = x.1 := by
        rcases hp with hp | hp
        · rw [hp] at h; cases h
        · rw [hp] at h; injection h
      subst ho
      show seqL x.1 (x.2.1 :: rowR (some x.1) r) = _
      unfold seqL
      rw [if_neg hx.1, if_neg hx.2.1, rest]
      rfl
    · rw [if_neg h]
      have hs : seqL on (sgn x.1 :: x.2.1 :: rowR (some x.1) r) = seqL x.1 (x.2.1 :: rowR (some x.1) r) := by
        obtain ⟨o, c, b⟩ := x
        cases o
        · rfl
        · rfl
      show seqL on (sgn x.1 :: x.2.1 :: rowR (some x.1) r) = _
      rw [hs]
      show seqL x.1 (x.2.1 :: rowR (some x.1) r) = _
      conv => lhs; unfold seqL
      rw [if_neg hx.1, if_neg hx.2.1, rest]
      rfl
theorem manyT_app (a b : List Chg) : manyT (a ++ b) = manyT a + manyT b := by simp [manyT]
theorem back_fold (row : ByteArray) (l : List Chg) (hg : ∀ x ∈ l, goodC x) (h4 : manyT l ≤ 4) : ∀ (suf pre : List Chg), l = pre ++ suf →
    (suf.map fun x => (x.2.1, x.1)).foldl (stepP (row :: argsR l)) (pre, 1 + manyT pre, manyT pre) = (l, 1 + manyT l, manyT l)
  | [], pre, h => by
    have : l = pre := by simpa using h
    subst this; rfl
  | x :: suf, pre, h => by
    have hl : l = (pre ++ [x]) ++ suf := by rw [h]; simp
    have ih := back_fold row l hg h4 suf (pre ++ [x]) hl
    have hx := hg x (by rw [h]; simp)
    have hm := manyT_snoc pre x
    have hml : manyT l = manyT (pre ++ [x]) + manyT suf := by rw [← manyT_app, ← hl]
    rw [List.map_cons, List.foldl_cons]
    have step : stepP (row :: argsR l) (pre, 1 + manyT pre, manyT pre) (x.2.1, x.1) = (pre ++ [x], 1 + manyT (pre ++ [x]), manyT (pre ++ [x])) := by
      cases ht : tk x with
      | false =>
        have ht' : takesB x.2.1 x.1 = false := ht
        rw [stepP_no ht', hm, ht]
        have : x = (x.1, x.2.1, noArg) := by rw [← hx.2.2 ht]
        rw [← this]; rfl
      | true =>
        have ht' : takesB x.2.1 x.1 = true := ht
        rw [ht] at hm
        simp only [if_true] at hm
        have ha : 1 + manyT pre < (row :: argsR l).length := by rw [List.length_cons, argsR_len]; omega
        have hget : (row :: argsR l)[1 + manyT pre]'ha = x.2.2 := by
          have e1 : argsR l = argsR pre ++ x.2.2 :: argsR suf := by
            rw [h]; unfold argsR; simp [List.filter_append, List.filter_cons, ht]
          have e2 : (row :: argsR l)[1 + manyT pre]? = some x.2.2 := by
            rw [show 1 + manyT pre = manyT pre + 1 by omega, List.getElem?_cons_succ, e1, List.getElem?_append_right (by rw [argsR_len]; exact Nat.le_refl _), argsR_len, Nat.sub_self]
            rfl
          rw [List.getElem?_eq_getElem ha] at e2
          exact Option.some.inj e2
        rw [stepP_arg ht' (by omega) ha, hget, hm, show 1 + manyT pre + 1 = 1 + (manyT pre + 1) by omega]
    rw [step]
    exact ih
theorem back (l : List Chg) (hg : ∀ x ∈ l, goodC x) (h4 : manyT l ≤ 4) : parseM (textM l) = l := by
  by_cases h : l = []
  · subst h; rfl
  · have e : textM l = bs (rowR none l) :: argsR l := by unfold textM; rw [if_neg h, textS_row, textS_args]
    rw [e]
    unfold parseM
    rw [dif_pos (by simp)]
    have := back_fold (bs (rowR none l)) l hg h4 l [] (by simp)
    simp only [List.getElem_cons_zero, bs_toList]
    rw [seqL_row l none true (.inl rfl) hg]
    have h0 : ([], 1, 0) = (([] : List Chg), 1 + manyT [], manyT []) := rfl
    rw [h0, this]
theorem back_parse (ps : List ByteArray) : parseM (textM (parseM ps)) = parseM ps := back _ (parse_good ps).1 (parse_good ps).2
end Go.Proofs.YtmgnhbihfgpccaaGreatDoor
end
section
/- Layer 18: rows of changes and of texts, nil let in; Parse, Same, Texts of such rows; great. -/
namespace Go.Proofs.YtmgnhbihfgpccaaGreatDoor
open Go.RowKit Go.Shelf

/-- changes lie at an address, if there are any -/
def RowC (W : World) (A : Option Addr) (l : List Chg) : Prop :=
  0 < l.length → ∃ g o, A = some ⟨g, o, none⟩ ∧ ∀ i (h : i < l.length), W.cell? ⟨g, o + i * 3, none⟩ = some (.bool l[i].1) ∧ W.cell? ⟨g, o + i * 3 + 1, none⟩ = some (.int .u8 l[i].2.1.toNat) ∧ W.cell? ⟨g, o + i * 3 + 2, none⟩ = some (.string l[i].2.2)
/-- texts lie at an address, if there are any -/
def RowT (W : World) (A : Option Addr) (l : List ByteArray) : Prop :=
  0 < l.length → ∃ g o, A = some ⟨g, o, none⟩ ∧ ∀ i (h : i < l.length), W.cell? ⟨g, o + i, none⟩ = some (.string l[i])
theorem lt_of_cell {W : World} {g o : Nat} {v : Value} (h : W.cell? ⟨g, o, none⟩ = some v) : g < W.heap.size := by
  unfold World.cell? at h
  cases hb : W.heap[g]? with
  | none => simp [hb] at h
  | some x => exact (Array.getElem?_eq_some_iff.1 hb).1
theorem RowC.kept {W W' : World} {A : Option Addr} {l : List Chg} (h : RowC W A l) (hb : Below W.heap.size W W') : RowC W' A l := fun hl => by
  obtain ⟨g, o, rfl, hc⟩ := h hl
  have hg := lt_of_cell (hc 0 hl).1
  exact ⟨g, o, rfl, fun i hi => by
    rw [hb.cell (p := ⟨g, _, none⟩) hg, hb.cell (p := ⟨g, _, none⟩) hg, hb.cell (p := ⟨g, _, none⟩) hg]
    exact hc i hi⟩
theorem RowT.kept {W W' : World} {A : Option Addr} {l : List ByteArray} (h : RowT W A l) (hb : Below W.heap.size W W') : RowT W' A l := fun hl => by
  obtain ⟨g, o, rfl, hc⟩ := h hl
  have hg := lt_of_cell (hc 0 hl)
  exact ⟨g, o, rfl, fun i hi => by rw [hb.cell (p := ⟨g, _, none⟩) hg]; exact hc i hi⟩
theorem chL_len (l : List Chg) : (chL l).length = l.length * 3 := by
  induction l with
  | nil => rfl
  | cons x r ih =>
    have : chL (x :: r) = [.bool x.1, .int .u8 x.2.1.toNat, .string x.2.2] ++ chL r := by simp [chL]
    rw [this, List.length_append, ih]; simp; omega
theorem chL_get (l : List Chg) : ∀ i (h : i < l.length), (chL l)[i * 3]? = some (.bool l[i].1) ∧ (chL l)[i * 3 + 1]? = some (.int .u8 l[i].2.1.toNat) ∧ (chL l)[i * 3 + 2]? = some (.string l[i].2.2) := by
  induction l with
  | nil => intro i h; simp at h
  | cons x r ih =>
    intro i h
    have e : chL (x :: r) = .bool x.1 :: .int .u8 x.2.1.toNat :: .string x.2.2 :: chL r := by simp [chL]
    cases i with
    | zero => rw [e]; exact ⟨rfl, rfl, rfl⟩
    | succ k =>
      have := ih k (by simpa using h)
      rw [e, show (k + 1) * 3 = k * 3 + 3 by omega]
      exact this
/-- what the call has made -/
theorem RowC.owned {W : World} {base : Nat} {v : Value} {l : List Chg} (h : W.ownsRow base 31 3 v l.length (chL l)) : ∃ A c, v = .slice A l.length c ∧ l.length ≤ c ∧ RowC W A l := by
  have h0 := h
  rcases h.2 with ⟨rfl, hn⟩ | ⟨g, cap, cur, rfl, _, _, hc, _⟩
  · exact ⟨none, 0, by rw [hn], by omega, fun hl => by omega⟩
  · refine ⟨_, cap, rfl, hc, fun hl => ⟨g, 0, rfl, fun i hi => ?_⟩⟩
    have hg := chL_get l i hi
    refine ⟨?_, ?_, ?_⟩
    · rw [Nat.zero_add, h0.cellAt _ (by omega)]; exact hg.1
    · rw [Nat.zero_add, h0.cellAt _ (by omega)]; exact hg.2.1
    · rw [Nat.zero_add, h0.cellAt _ (by omega)]; exact hg.2.2
theorem RowT.owned {W : World} {base : Nat} {v : Value} {l : List ByteArray} (h : W.ownsRow base 9 1 v l.length (l.map .string)) : ∃ A c, v = .slice A l.length c ∧ l.length ≤ c ∧ RowT W A l := by
  have h0 := h
  rcases h.2 with ⟨rfl, hn⟩ | ⟨g, cap, cur, rfl, _, _, hc, _⟩
  · exact ⟨none, 0, by rw [hn], by omega, fun hl => by omega⟩
  · refine ⟨_, cap, rfl, hc, fun hl => ⟨g, 0, rfl, fun i hi => ?_⟩⟩
    rw [Nat.zero_add, h0.cellAt _ (by omega)]
    simp [hi]



def ParsedTo (w : World) (ps : List ByteArray) (e : Ending) (w' : World) : Prop := ∃ A c, e = .returned (.slice A (parseM ps).length c) ∧ (parseM ps).length ≤ c ∧ RowC w' A (parseM ps) ∧ Below w.heap.size w w'



/-! Same, Texts -/




set_option maxHeartbeats 4000000 in
theorem texts_any (A B : Option Addr) (a b : List ByteArray) (c1 c2 : Nat) (w : World) (ha1 : a.length ≤ 100000) (h1 : RowT w A a) (h2 : RowT w B b) :
    Calls Tryz.prog 15 #[.slice A a.length c1, .slice B b.length c2] w fun e w' => e = .returned (.bool (decide (a = b))) ∧ ∃ n, w' = w.drewN n := by
  by_cases hl : a.length = b.length
  · have H1 := Lib.hid h1
    have H2 := Lib.hid h2
    have HL := Lib.hid hl
    have hne : ((a.length : Int) != (b.length : Int)) = false := by rw [hl]; simp
    clear h1 h2 hl
    go_enter Tryz.func15, Tryz.ntmps15
    go_wp2_with fail
    go_loopw [5] (fun i wr => ∃ k : Nat, i = .int .i64 k ∧ k ≤ a.length ∧ Hid (a.take k = b.take k ∧ ∃ n, wr = w.drewN n)) (fun i _ => a.length - (Go.RowKit.intOf i).toNat)
    case atStart => exact ⟨0, rfl, Nat.zero_le _, rfl, 0, rfl⟩
    case round =>
      obtain ⟨k, rfl, hk, HQ⟩ := hrel
      by_cases hlt : k < a.length
      · have hlt2 : k < b.length := by have := HL.out; omega
        obtain ⟨g1, o1, rfl, k1⟩ := H1.out (by omega)
        obtain ⟨g2, o2, rfl, k2⟩ := H2.out (by omega)
        have ca : wr.cell? ⟨g1, o1 + k, none⟩ = some (.string a[k]) := by obtain ⟨_, n, hn⟩ := HQ.out; rw [hn]; exact k1 k hlt
        have cb : wr.cell? ⟨g2, o2 + k, none⟩ = some (.string b[k]) := by obtain ⟨_, n, hn⟩ := HQ.out; rw [hn]; exact k2 k hlt2
        obtain ⟨eb, heb⟩ : ∃ x, (a[k].toList == b[k].toList) = x := ⟨_, rfl⟩
        have hnq : (a[k].toList != b[k].toList) = !eb := by rw [← heb]; rfl
        have hnq2 : (!(a[k].toList == b[k].toList)) = !eb := by rw [heb]
        have HE := Lib.hid heb
        clear heb k1 k2
        have p1 : (k : Int) < (a.length : Int) := by omega
        have p2 : (k : Int) < (b.length : Int) := by omega
        cases eb with
        | false =>
          go_wp2_with fail
          go_quiet (fail)
          all_goals go_wp2_with fail
          have hd : decide (a = b) = false := by
            rw [decide_eq_false_iff_not]
            intro e
            have := HE.out
            simp only [e] at this
            simp at this
          obtain ⟨_, n, hn⟩ := HQ.out
          rw [hd]
          subst hn
          go_ret
          exact ⟨rfl, _, by rw [World.drewN_drewN]⟩
        | true =>
          go_wp2_with fail
          go_quiet (fail)
          all_goals go_wp2_with fail
          have h3 : a[k] = b[k] := by
            have := HE.out
            rw [beq_iff_eq, ByteArray.toList_eq, ByteArray.toList_eq] at this
            exact ba_ext this
          have h4 : a.take (k + 1) = b.take (k + 1) := by
            rw [List.take_succ_eq_append_getElem hlt, List.take_succ_eq_append_getElem hlt2, HQ.out.1, h3]
          obtain ⟨_, n, hn⟩ := HQ.out
          exact ⟨⟨k + 1, by go_num, by omega, h4, n + nq, by subst hn; rw [World.drewN_drewN]⟩, by simp [Go.RowKit.intOf]; omega⟩
      · obtain rfl : k = a.length := by omega
        have hab : a = b := by
          have := HQ.out.1
          rw [List.take_of_length_le (Nat.le_refl _), List.take_of_length_le (by have := HL.out; omega)] at this
          exact this
        have hd : decide (a = b) = true := by simp [hab]
        obtain ⟨_, n, hn⟩ := HQ.out
        have p1 : ¬ ((a.length : Int) < (a.length : Int)) := by omega
        subst hn
        have HD := Lib.hid hd
        clear hd hab
        go_wp2_with fail
        go_ret
        exact ⟨ret_bool HD.out.symm, _, rfl⟩
  · have hd : decide (a = b) = false := by rw [decide_eq_false_iff_not]; intro e; exact hl (by rw [e])
    have hne : ((a.length : Int) != (b.length : Int)) = true := by rw [bne_iff_ne]; omega
    rw [hd]
    clear hd hl h1 h2
    go_enter Tryz.func15, Tryz.ntmps15
    go_wp2_with fail
    go_ret
    exact ⟨rfl, 0, rfl⟩

/-- more than is looked at? -/
def greatB (l : List ByteArray) : Bool := decide (20 < l.length) || l.any fun s => decide (60 < s.size)
theorem greatB_no {l : List ByteArray} (h : greatB l = false) : l.length ≤ 20 ∧ ∀ s ∈ l, s.size ≤ 60 := by
  unfold greatB at h
  rw [Bool.or_eq_false_iff] at h
  refine ⟨by simpa using h.1, fun s hs => ?_⟩
  have := List.any_eq_false.1 h.2 s hs
  simpa using this
end Go.Proofs.YtmgnhbihfgpccaaGreatDoor
end
section
/- The answers' Texts of two rows that read as one. -/
namespace Go.Proofs.YtmgnhbihfgpccaaGreatDoor
open Go Go.RowKit Go.Lib Go.Shelf

theorem texts_is {W : World} {A B : Option Addr} {xs : List (List UInt8)} (c1 c2 : Nat) (hl : xs.length ≤ 100000) (h1 : ReadsT W A xs) (h2 : ReadsT W B xs) :
    Calls Tryz.prog 15 #[.slice A xs.length c1, .slice B xs.length c2] W fun e w' => e = .returned (.bool true) ∧ ∃ n, w' = W.drewN n := by
  have hR : ∀ {A : Option Addr}, ReadsT W A xs → RowT W A (xs.map bs) := fun {A} h h0 => by
    rw [List.length_map] at h0
    obtain ⟨g, o, e, _, hc⟩ := h h0
    refine ⟨g, o, e, fun i hi => ?_⟩
    rw [List.getElem_map]
    exact hc i (by rw [List.length_map] at hi; exact hi)
  have := texts_any A B (xs.map bs) (xs.map bs) c1 c2 W (by rw [List.length_map]; exact hl) (hR h1) (hR h2)
  rw [List.length_map, decide_eq_true rfl] at this
  exact this
/-- what a frame leaves reads as it read -/
theorem readsT_fr {W W' : World} {A : Option Addr} {xs : List (List UInt8)} {X : Nat → Prop} (h : ReadsT W A xs) (hf : Fr X W W') (hX : ∀ g o, A = some ⟨g, o, none⟩ → ¬ X g) : ReadsT W' A xs := fun h0 => by
  obtain ⟨g, o, e, hg, hc⟩ := h h0
  exact ⟨g, o, e, Nat.lt_of_lt_of_le hg hf.size, fun j hj => (hf.cell (p := ⟨g, o + j, none⟩) hg (hX g o e)).trans (hc j hj)⟩
end Go.Proofs.YtmgnhbihfgpccaaGreatDoor
end
section
/- Layer 19: Change of a key; awake. -/
namespace Go.Proofs.YtmgnhbihfgpccaaGreatDoor
open Go Go.RowKit

theorem res_three {P : Program} {fn : Func} {p u : Tmp} {ty : TypeId} {tmps : Array Value} {V : World} {N : Nat} {a b c : Value} (h : fn.results = #[.cell p ty, .tmp u]) (hp : tmps.getD p undef = .pointer (some ⟨N, 0, none⟩)) (hg : (isAgg ty).run P V = .ok true V) (hz : (sizeOf ty).run P V = .ok 3 V)
    (h0 : V.cell? ⟨N, 0, none⟩ = some a) (h1 : V.cell? ⟨N, 1, none⟩ = some b) (h2 : V.cell? ⟨N, 2, none⟩ = some c) : (results fn tmps).run P V = .ok (.tuple #[.agg #[a, b, c], tmps.getD u undef]) V := by
  rw [results_cell_tmp h, hp]
  simp [asAddr, loadVar, Sem.run_bind, hg, hz, loadCells, loadCellsFrom, h0, h1, h2, Result.andThen, go_sem]
theorem set3R {W : World} {B : Nat} {a b c x y z : Value} {T : TypeId} (h : W.heap[B]? = some (.cells #[a, b, c] T (0, 0))) : (((W.setCell ⟨B, 0, none⟩ x).setCell ⟨B, 1, none⟩ y).setCell ⟨B, 2, none⟩ z).heap[B]? = some (.cells #[x, y, z] T (0, 0)) :=
  blk_set (blk_set (blk_set h 0 x) 1 y) 2 z
theorem set3R_fr {W : World} {B : Nat} {x y z : Value} : Fr (fun k => k = B) W (((W.setCell ⟨B, 0, none⟩ x).setCell ⟨B, 1, none⟩ y).setCell ⟨B, 2, none⟩ z) :=
  Fr.setCell (Fr.setCell (Fr.setCell (Fr.refl (fun k => k = B) W) ⟨B, 0, none⟩ rfl x) ⟨B, 1, none⟩ rfl y) ⟨B, 2, none⟩ rfl z
/-- what a change leaves, apart from what it tells -/
def ChgW (base B : Nat) (q : RmV) (r' : Rm) (w w' : World) : Prop := ∃ q', RoomAt base B q' r' w' ∧ Fr (RmX B q) w w' ∧ ∀ k, RmX B q' k → k < w.heap.size → RmX B q k
theorem ChgW.around {base B : Nat} {q : RmV} {r' : Rm} {w W W' w' : World} (h : ChgW base B q r' W W') (h1 : RowKit.Below w.heap.size w W) (h2 : RowKit.Below W'.heap.size W' w') : ChgW base B q r' w w' := by
  obtain ⟨q', a, b, c⟩ := h
  exact ⟨q', a.below h2, ((Fr.of_below (X := RmX B q) h1).trans3 b fun _ _ e => e).trans3 (Fr.of_below (X := fun _ => False) h2) fun _ _ e => e.elim, fun k hk hl => c k hk (Nat.lt_of_lt_of_le hl h1.size)⟩
/-- .. and a block that came first, and is written last -/
theorem ChgW.boxed {base B : Nat} {q : RmV} {r' : Rm} {w W W' w' : World} (h : ChgW base B q r' W W') (h1 : RowKit.Below w.heap.size w W) (hl : ∀ k, RmX B q k → k < w.heap.size) {N : Nat} (hN : w.heap.size ≤ N) (hNW : N < W.heap.size) (h2 : Fr (fun k => k = N) W' w') : ChgW base B q r' w w' := by
  obtain ⟨q', a, b, c⟩ := h
  refine ⟨q', a.fr h2 fun k hk e => ?_, ((Fr.of_below (X := RmX B q) h1).trans3 b fun _ _ e => e).trans3 h2 fun k hk e => by omega, fun k hk hl2 => c k hk (Nat.lt_of_lt_of_le hl2 h1.size)⟩
  subst e
  have := hl _ (c _ hk hNW)
  omega
/-- a box of a change, that lies where it lay -/
theorem box_kept {base B : Nat} {q : RmV} {W W' : World} {N : Nat} {cs : Array Value} {T : TypeId} (hk : W.heap[N]? = some (.cells cs T (0, 0))) (hf : Fr (RmX B q) W W') (hn : ¬ RmX B q N) : W'.heap[N]? = some (.cells cs T (0, 0)) := hf.blk hk hn
set_option maxRecDepth 100000 in
set_option maxHeartbeats 4000000 in
theorem change_k {base B : Nat} {q : RmV} {r : Rm} {w : World} (h : RoomAt base B q r w) (on : Bool) (arg : List UInt8) (id : Int) (ha : arg.length ≤ 1000000) (hr : Rowed w) :
    Calls Tryz.prog 24 #[.pointer (some ⟨B, 0, none⟩), chgV on 107 arg, .int .i64 id] w (ChgP base B q (chgKey r on 107 arg).2 (chgKey r on 107 arg).1 w) := by
  obtain ⟨W, hW⟩ : ∃ W, ((w.alloc (Obj.cells #[Value.bool on, Value.int IntKind.u8 107, Value.string (bs arg)] 31)).alloc (Obj.cells #[Value.bool false, Value.int IntKind.u8 0, Value.string ⟨#[]⟩] 31)) = W := ⟨_, rfl⟩
  have hb : RowKit.Below w.heap.size w W := by rw [← hW]; exact ((Below.refl _ w).alloc (Nat.le_refl _) _).alloc (by simp) _
  have hz : W.heap.size = w.heap.size + 2 := by rw [← hW]; simp
  have k1 : W.heap[w.heap.size + 1]? = some (.cells #[Value.bool false, Value.int IntKind.u8 0, Value.string ⟨#[]⟩] 31 (0, 0)) := by rw [← hW]; exact heap_alloc2_new w _ _
  have hlt : ∀ k, RmX B q k → k < w.heap.size := fun k hk => (h.lt k hk).2
  have hc := changeKey_any (h.below hb) on 107 arg ha (hr.keep hb)
  obtain ⟨t, ht⟩ : ∃ t, (chgKey r on 107 arg).1 = t := ⟨_, rfl⟩
  obtain ⟨r', hr'⟩ : ∃ r', (chgKey r on 107 arg).2 = r' := ⟨_, rfl⟩
  rw [ht, hr'] at hc ⊢
  have HC := Lib.hid hc
  have HW := Lib.hid hW
  have H := Lib.hid (And.intro hb (And.intro hz (And.intro k1 hlt)))
  clear h hr ht hr' hc hW hb hz k1 hlt
  unfold chgV at HC ⊢
  go_enter Tryz.func24, Tryz.ntmps24
  go_wp2_with fail
  rw [HW.out]
  refine HC.out.mono ?_
  rintro e w1 ⟨rfl, hcw⟩
  obtain ⟨hb, hz, k1, hlt⟩ := H.out
  have hfr : Fr (RmX B q) W w1 := by obtain ⟨q', _, b, _⟩ := hcw; exact b
  have k2 := hfr.blk k1 fun e => by have := hlt _ e; omega
  have d0 := blk_cell k2 0
  have d1 := blk_cell k2 1
  have d2 := blk_cell k2 2
  have g0 := blk_free k2 0
  have g1 := blk_free k2 1
  have g2 := blk_free k2 2
  have HQ := Lib.hid (And.intro hcw k2)
  obtain ⟨on2, c2, arg2, code⟩ := t
  clear hb hz k1 hlt hfr k2 hcw
  dsimp only [Told.val, chgV]
  go_wp2_with fail
  obtain ⟨hcw, k2⟩ := HQ.out
  obtain ⟨hb, hz, k1, hlt⟩ := H.out
  have k3 := set3R (x := .bool on2) (y := .int .u8 c2.toNat) (z := .string (bs arg2)) k2
  have hcw' : ChgW base B q r' W w1 := hcw
  refine bodyPost_ret (res_three rfl rfl (Tryz.isAgg31 _) (Tryz.sizeOf31 _) (blk_cell k3 0) (blk_cell k3 1) (blk_cell k3 2)) rfl ⟨rfl, ?_⟩
  exact hcw'.boxed hb hlt (Nat.le_succ _) (by omega) set3R_fr
end Go.Proofs.YtmgnhbihfgpccaaGreatDoor
end
section
/- Layer 19: awake. -/
namespace Go.Proofs.YtmgnhbihfgpccaaGreatDoor
open Go Go.RowKit

theorem key_x : dec (KeyP (bs [120])) = true := by
  refine dec_iff.2 ?_
  refine ⟨⟨by decide, by decide⟩, fun i hi => ?_, by decide, by decide⟩
  have h1 : i < 1 := hi
  obtain rfl : i = 0 := by omega
  show (seen 120 && !decide ((120 : UInt8).toNat = 44)) = true
  decide +kernel
/-- a row held against one that is written down -/
theorem texts_lit {B0 : Nat} {A : Option Addr} {c : Nat} (xs : List (List UInt8)) (w : World) (h : OwnT B0 w (.slice A xs.length c) xs) (hl : xs.length ≤ 100) :
    Calls Tryz.prog 15 #[.slice A xs.length c, .slice (some ⟨w.heap.size, 0, none⟩) xs.length xs.length] (w.alloc (.cells (xs.map encT).toArray 9)) fun e w' => e = .returned (.bool true) ∧ RowKit.Below w.heap.size w w' := by
  have hb : RowKit.Below w.heap.size w (w.alloc (.cells (xs.map encT).toArray 9)) := (Below.refl _ w).alloc (Nat.le_refl _) _
  have h1 : ReadsT (w.alloc (.cells (xs.map encT).toArray 9)) A xs := (reads_ownT h).below hb
  have h2 : ReadsT (w.alloc (.cells (xs.map encT).toArray 9)) (some ⟨w.heap.size, 0, none⟩) xs := fun _ => ⟨_, 0, rfl, by simp, fun j hj => by
    rw [Nat.zero_add, blk_cell (heap_alloc_new w _) j]
    simp [hj, encT]⟩
  refine (texts_is c xs.length (by omega) h1 h2).mono ?_
  rintro e w' ⟨rfl, n, rfl⟩
  exact ⟨rfl, hb.trans (((Fr.refl (fun _ => False) _).drewN n).below (by simp) fun _ _ e => e.elim)⟩
def rmK : Rm := { rm0 [35, 97] 5 with key := [120] }
theorem chg_x : chgKey (rm0 [35, 97] 5) true 107 [120] = (⟨true, 107, [120], 0⟩, rmK) := by
  unfold chgKey
  rw [if_pos rfl, if_neg (by simp [rm0]), if_pos key_x]
  rfl
theorem md_a : modesL (rm0 [35, 97] 5).fl.has (rm0 [35, 97] 5).key (rm0 [35, 97] 5).lim (Lib.itoa (rm0 [35, 97] 5).lim) true = [[43, 110, 116]] := by
  show modesL fl0.has [] 0 _ true = _
  unfold modesL
  simp only [ne_eq, not_true_eq_false, false_and, if_false, if_true, decide_false, List.append_nil]
  rw [show rowU fl0.has false false 7 = [43, 110, 116] by decide +kernel]
theorem md_b (all : Bool) : modesL rmK.fl.has rmK.key rmK.lim (Lib.itoa rmK.lim) all = [[43, 107, 110, 116], if all then [120] else [42]] := by
  show modesL fl0.has [120] 0 _ all = _
  unfold modesL
  rw [show rowU fl0.has (decide (([120] : List UInt8) ≠ [])) (decide ((0 : Nat) ≠ 0)) 7 = [43, 107, 110, 116] by decide +kernel]
  simp
set_option maxRecDepth 100000 in
set_option maxHeartbeats 8000000 in
theorem awake19 (w : World) (hr : Rowed w) (hp : PowR w) : Calls Tryz.prog 7 #[] w fun e w' => e = .returned (.bool true) ∧ RowKit.Below w.heap.size w w' := by
  have HR := Lib.hid hr
  have HP := Lib.hid hp
  clear hr hp
  go_enter Tryz.func7, Tryz.ntmps7
  go_wp2_with fail
  refine (newR_any [35, 97] 5 w).mono ?_
  rintro e w1 ⟨B, q, rfl, h1, b1⟩
  have hm := modes_any h1 true (HP.out.below b1) (by decide)
  rw [md_a] at hm
  have HM := Lib.hid hm
  have H1 := Lib.hid (And.intro h1 b1)
  clear h1 b1 hm
  go_wp2_with fail
  refine HM.out.mono ?_
  rintro e w2 ⟨⟨A2, c2, rfl, o2⟩, b2⟩
  have HT := Lib.hid (texts_lit _ w2 o2 (by decide))
  have hb2 := H1.out.2.trans (b2.mono H1.out.2.size)
  have H2 := Lib.hid (And.intro (H1.out.1.below b2) hb2)
  clear o2 b2 hb2 HM H1
  go_wp2_with fail
  refine HT.out.mono ?_
  rintro e w3 ⟨rfl, b3⟩
  have hb3 := H2.out.2.trans (b3.mono H2.out.2.size)
  have hc := change_k (H2.out.1.below b3) true [120] 0 (by decide) (HR.out.keep hb3)
  rw [chg_x] at hc
  have HC := Lib.hid hc
  have hlt3 : ∀ k, RmX B q k → w.heap.size ≤ k := fun k hk => (H2.out.1.lt k hk).1
  have H3 := Lib.hid (And.intro hb3 hlt3)
  clear b3 hb3 hc hlt3 H2 HT
  go_wp2_with fail
  refine HC.out.mono ?_
  rintro e w4 ⟨rfl, q4, r4, f4, l4⟩
  have hb4 := H3.out.1.trans (f4.below H3.out.1.size fun k _ e => H3.out.2 k e)
  have hx : ((bs [120]).toList == [120]) = true := by decide +kernel
  have hx2 : (bs [120]).toList = [120] := by decide +kernel
  have HM1 := Lib.hid (fun W (hb : RowKit.Below w4.heap.size w4 W) all => md_b all ▸ modes_any (r4.below hb) all (HP.out.below (hb4.trans (hb.mono hb4.size))) (by decide))
  obtain ⟨W5, hW5⟩ : ∃ W5, w4.alloc (Obj.cells #[Value.bool true, Value.int IntKind.u8 107, Value.string (bs [120])] 31) = W5 := ⟨_, rfl⟩
  have b5 : RowKit.Below w4.heap.size w4 W5 := by rw [← hW5]; exact (Below.refl _ _).alloc (Nat.le_refl _) _
  have H4 := Lib.hid (And.intro r4 (And.intro hb4 b5))
  have HW5 := Lib.hid hW5
  clear r4 f4 l4 hb4 b5 HC H3 hW5
  dsimp only [Told.val, chgV]
  go_wp2_with fail
  rw [HW5.out]
  refine (HM1.out W5 H4.out.2.2 true).mono ?_
  rintro e w6 ⟨⟨A6, c6, rfl, o6⟩, b6⟩
  have HT6 := Lib.hid (texts_lit _ w6 o6 (by decide))
  have hb6 : RowKit.Below w4.heap.size w4 w6 := H4.out.2.2.trans (b6.mono H4.out.2.2.size)
  have HB6 := Lib.hid hb6
  clear o6 b6 hb6
  go_wp2_with fail
  refine HT6.out.mono ?_
  rintro e w7 ⟨rfl, b7⟩
  have hb7 : RowKit.Below w4.heap.size w4 w7 := HB6.out.trans (b7.mono HB6.out.size)
  have HB7 := Lib.hid hb7
  clear b7 hb7 HB6 HT6
  go_wp2_with fail
  refine (HM1.out w7 HB7.out false).mono ?_
  rintro e w8 ⟨⟨A8, c8, rfl, o8⟩, b8⟩
  have HT8 := Lib.hid (texts_lit _ w8 o8 (by decide))
  have hb8 : RowKit.Below w4.heap.size w4 w8 := HB7.out.trans (b8.mono HB7.out.size)
  have HB8 := Lib.hid hb8
  clear o8 b8 hb8 HB7
  go_wp2_with fail
  refine HT8.out.mono ?_
  rintro e w9 ⟨rfl, b9⟩
  have hb9 : RowKit.Below w4.heap.size w4 w9 := HB8.out.trans (b9.mono HB8.out.size)
  have HB9 := Lib.hid hb9
  clear b9 hb9 HB8 HT8
  go_wp2_with fail
  go_ret
  exact ⟨rfl, H4.out.2.1.trans (HB9.out.mono H4.out.2.1.size)⟩
end Go.Proofs.YtmgnhbihfgpccaaGreatDoor
end
