/- bytes.IndexAny of whatever bytes, among two ASCII ones: the long road, and all. -/
import Derived.Test.YtaajfbbogihbnaaDoorIdxS
import Derived.Shelf.Bytes.SlTrimWalks
import Derived.Test.YtaajfbbogihbnaaDoorScope
namespace Go.Proofs.YtaajfbbogihbnaaDoor
set_option linter.unusedVariables false
set_option linter.unusedSimpArgs false
open Go Go.RowKit

theorem Tryd.infoSet8 : (Tryd.prog.info? 56).map (fun i => (i.zero, i.size)) = some (some (.agg (Array.replicate 256 (.bool false))), 256) := by kernel_rfl
theorem mkSet8 (chars : ByteArray) (w : World) (hs : chars.size ≤ 1000) (ha : ascL chars.data.toList) :
    Calls Tryd.prog 27 #[.string chars] w fun e w' => e = .returned (.tuple #[.agg (Lib.setCells chars.data.toList), .bool true]) ∧ w' = w.alloc (.cells (Lib.setCells chars.data.toList) 56) :=
  Any.bytes_makeASCIISet Tryd.laysSet11 (zero_of_info Tryd.infoSet8).1 (zero_of_info Tryd.infoSet8).2 chars w (by omega) fun j b hj => ha.at b (List.mem_of_getElem? hj)
theorem inSet8 (b : Nat) (x : UInt8) (v : Bool) (w : World) (hc : w.cell? ⟨b, x.toNat, none⟩ = some (.bool v)) :
    Calls Tryd.prog 28 #[.pointer (some ⟨b, 0, none⟩), .int .u8 x.toNat] w fun e w' => e = .returned (.bool v) ∧ w' = w :=
  Any.bytes_asciiSet_contains Tryd.laysSet16 b x v w hc

set_option maxRecDepth 1000000 in
set_option maxHeartbeats 4000000 in
theorem idx8_nil (A : Option Addr) (c : Nat) (chars : ByteArray) (w : World) (h2 : chars.size = 2) :
    Calls Tryd.prog 20 #[.slice A ([] : List UInt8).length c, .string chars] w fun e w' => e = .returned (.int .i64 (Lib.indexAny [] chars.data.toList)) ∧ Below w.heap.size w w' := by
  have hemp := str_ne (s := chars) (by omega)
  have hn1 : ((chars.size : Int) == 1) = false := beq_eq_false_iff_ne.2 (by omega)
  clear h2
  go_enter Tryd.func20, Tryd.ntmps20
  go_wp2_with (go_at_call 26; refine (should8 _ _).mono ?_; rintro e w' ⟨rfl, rfl⟩)
  go_loopw [12] (fun s12 wr => s12 = .int .i64 0 ∧ wr = w) (fun _ _ => 0)
  case atStart => exact ⟨rfl, rfl⟩
  case round =>
    obtain ⟨rfl, rfl⟩ := hrel
    go_wp2_with fail
    go_ret
    exact ⟨rfl, Below.refl _ _⟩
set_option maxRecDepth 1000000 in
set_option maxHeartbeats 8000000 in
theorem idx8_long (l : List UInt8) (g o c : Nat) (chars : ByteArray) (w : World) (h2 : chars.size = 2) (ha : ascL chars.data.toList) (h8 : 8 < l.length) (hl : l.length ≤ 1000000000) (hg : g < w.heap.size) (hc : ∀ j (h : j < l.length), w.cell? ⟨g, o + j, none⟩ = some (enc8 l[j])) :
    Calls Tryd.prog 20 #[.slice (some ⟨g, o, none⟩) l.length c, .string chars] w fun e w' => e = .returned (.int .i64 (Lib.indexAny l chars.data.toList)) ∧ Below w.heap.size w w' := by
  have hM := mkSet8 chars w (by omega) ha
  have HC := Lib.hid (And.intro hc hg)
  have hemp := str_ne (s := chars) (by omega)
  have hn1 : ((chars.size : Int) == 1) = false := beq_eq_false_iff_ne.2 (by omega)
  have hl1 : ((l.length : Int) == 1) = false := beq_eq_false_iff_ne.2 (by omega)
  have h8z : decide ((8 : Int) < (l.length : Int)) = true := decide_eq_true (by omega)
  clear ha hc hg h2
  obtain ⟨S, hS⟩ : ∃ S, Lib.setCells chars.data.toList = S := ⟨_, rfl⟩
  have hsz : S.size = 256 := by rw [← hS]; exact Lib.setCells_size _
  have hone : S.all (·.oneCell') = true := by rw [← hS]; exact Lib.setCells_one _
  have hat : ∀ x : UInt8, S[x.toNat]? = some (.bool (chars.data.toList.contains x)) := fun x => by rw [← hS]; exact Lib.setCells_at _ x
  rw [hS] at hM
  have hz := (zero_of_info Tryd.infoSet8).1
  have hsc : (storeCells ⟨w.heap.size + 1, 0, none⟩ S.toList 0).run Tryd.prog ((w.alloc (.cells S 56)).alloc (.cells (Array.replicate 256 (.bool false)) 56)) = .ok () ((w.alloc (.cells S 56)).alloc (.cells S 56)) := by
    have := run_storeCells_new (P := Tryd.prog) (w.alloc (.cells S 56)) 56 (Array.replicate 256 (.bool false)) S (by rw [hsz]; exact (zero_of_info Tryd.infoSet8).2) (by rw [hsz, Array.size_replicate]) hone
    simpa using this
  obtain ⟨R, hR⟩ : ∃ R, Array.replicate 256 (Value.bool false) = R := ⟨_, rfl⟩
  rw [hR] at hz hsc
  obtain ⟨W1, hW1⟩ : ∃ W1, w.alloc (.cells S 56) = W1 := ⟨_, rfl⟩
  have hs1 : W1.heap.size = w.heap.size + 1 := by rw [← hW1]; simp
  rw [hW1] at hM hsc
  obtain ⟨W2, hW2⟩ : ∃ W2, W1.alloc (.cells S 56) = W2 := ⟨_, rfl⟩
  rw [hW2] at hsc
  have hcell : ∀ x : UInt8, W2.cell? ⟨w.heap.size + 1, x.toNat, none⟩ = some (.bool (chars.data.toList.contains x)) := fun x => by
    rw [← hW2, World.cell?_alloc_at _ _ _ _ (by rw [hs1]), hat]
  have hb2 : Below w.heap.size w W2 := by rw [← hW2]; rw [← hW1]; exact ((Below.refl _ _).alloc (Nat.le_refl _) _).alloc (by simp) _
  have HS := Lib.hid (And.intro hcell hb2)
  have HR := Lib.hid (And.intro hR (And.intro hW1 hW2))
  clear hS hone hat hcell hb2 hR hW1 hW2
  go_enter Tryd.func20, Tryd.ntmps20
  go_wp2_with (first
    | (go_at_call 26; refine (should8 _ _).mono ?_; rintro e w' ⟨rfl, rfl⟩; rw [h8z])
    | (go_at_call 27; refine hM.mono ?_; rintro e w' ⟨rfl, rfl⟩))
  clear hM hsc hz
  go_loopg [9, 10, 62] l.length (fun gm _ _ s62 wx => ∃ i : Nat, i + gm = l.length ∧ s62 = .int .i64 i ∧ wx = W2 ∧ Hid (Lib.NoAny l chars.data.toList i))
  case atStart => exact ⟨0, by omega, rfl, by first | rfl | exact HR.out.2.2, Lib.NoAny.zero _ _⟩
  case round =>
    obtain ⟨i, hig, rfl, rfl, HN⟩ := hrel
    cases gk with
    | zero =>
      obtain rfl : i = l.length := by omega
      have hiz : ¬ ((l.length : Int) < (l.length : Int)) := by omega
      go_wp2_with fail
      go_ret
      exact ⟨ret_int (by rw [Lib.indexAny_none HN.out]), HS.out.2⟩
    | succ gm =>
      have hi : i < l.length := by omega
      have hiz : (i : Int) < (l.length : Int) := by omega
      have hci := (HS.out.2.cell (p := ⟨g, o + i, none⟩) HC.out.2).trans (HC.out.1 i hi)
      obtain ⟨x, hx⟩ : ∃ x : UInt8, l[i] = x := ⟨_, rfl⟩
      have hxl : l[i]? = some x := by rw [List.getElem?_eq_getElem hi, hx]
      rw [hx] at hci
      unfold enc8 at hci
      have HX := Lib.hid hxl
      clear hxl hx
      have hcx := HS.out.1 x
      have hw1 : IntKind.i64.wrap ((i : Int) + 1) = (i : Int) + 1 := IntWalk.i64_in _ (by omega)
      cases hin : chars.data.toList.contains x <;> rw [hin] at hcx
      · have HI := Lib.hid hin
        clear hin
        go_wp2_with (go_at_call 28; refine (inSet8 _ x _ _ hcx).mono ?_; rintro e w' ⟨rfl, rfl⟩)
        go_roundg gm
        case measure => omega
        case rel => exact ⟨i + 1, by omega, by first | rfl | simp, rfl, HN.out.succ HX.out HI.out⟩
      · have HI := Lib.hid hin
        clear hin
        go_wp2_with (go_at_call 28; refine (inSet8 _ x _ _ hcx).mono ?_; rintro e w' ⟨rfl, rfl⟩)
        go_ret
        exact ⟨ret_int (by rw [Lib.indexAny_hit HN.out HX.out HI.out]), HS.out.2⟩
/-- whatever slice -/
theorem idx8_all (l : List UInt8) (v : Value) (chars : ByteArray) (w : World) (h2 : chars.size = 2) (ha : ascL chars.data.toList) (hl : l.length ≤ 1000000000) (hv : At8 w v l) (hT : Tabs8 w) :
    Calls Tryd.prog 20 #[v, .string chars] w fun e w' => e = .returned (.int .i64 (Lib.indexAny l chars.data.toList)) ∧ Below w.heap.size w w' := by
  obtain ⟨A, c, rfl, h1, h3, h4, h5⟩ := hv
  cases l with
  | nil => exact idx8_nil A c chars w h2
  | cons x l =>
    obtain ⟨g, o, rfl, hg, hc⟩ := h5 (by simp)
    cases l with
    | nil => exact idx8_one x g o c chars w h2 ha (by have := hc 0 (by simp); simpa using this)
    | cons y l =>
      by_cases h8 : (x :: y :: l).length ≤ 8
      · exact idx8_short _ g o c chars w h2 ha h8 (by simp) h1 hg hc hT
      · exact idx8_long _ g o c chars w h2 ha (by omega) hl hg hc
end Go.Proofs.YtaajfbbogihbnaaDoor
