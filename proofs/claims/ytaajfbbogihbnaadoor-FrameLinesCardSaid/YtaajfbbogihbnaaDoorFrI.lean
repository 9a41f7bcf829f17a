/- Layer 5: awake. -/
import Derived.Test.YtaajfbbogihbnaaDoorFrH
import Derived.Lib.SlBytesConst
namespace Go.Proofs.YtaajfbbogihbnaaDoor
set_option linter.unusedVariables false
set_option linter.unusedSimpArgs false
open Go Go.RowKit Go.Lib

theorem at8_new (w : World) (l : List UInt8) (hl : l.length ≤ maxLen) : At8 (w.alloc (.cells (l.map enc8).toArray 5)) (.slice (some ⟨w.heap.size, 0, none⟩) l.length l.length) l := by
  refine ⟨_, _, rfl, Nat.le_refl _, hl, (fun e => by cases e), fun _ => ⟨w.heap.size, 0, rfl, by simp, fun j hj => ?_⟩⟩
  rw [blk_cell (World.alloc_heap_new w _) (0 + j)]
  simp [hj]
theorem at8_mark (w : World) (l : List UInt8) (fr : Nat × Nat) (hl : l.length ≤ maxLen) : At8 (w.alloc (.cells (l.map enc8).toArray 5 fr)) (.slice (some ⟨w.heap.size, 0, none⟩) l.length l.length) l := by
  refine ⟨_, _, rfl, Nat.le_refl _, hl, (fun e => by cases e), fun _ => ⟨w.heap.size, 0, rfl, by simp, fun j hj => ?_⟩⟩
  rw [cell_of_row _ _ (0 + j) _ _ fr (World.alloc_heap_new w _)]
  simp [hj]
theorem abc_feed : feedM ([], false) [97, 98, 10, 99] = ([([97, 98], false)], ([99], false)) := by decide
set_option maxRecDepth 1000000 in
set_option maxHeartbeats 8000000 in
theorem awake05 (w : World) (hT : Tabs8 w) : Calls Tryd.prog 7 #[] w fun e w' => e = .returned (.bool true) ∧ Fr (fun _ => False) w w' := by
  have hT3 := tabs8_lt hT
  have HT := Lib.hid hT
  clear hT
  go_enter Tryd.func7, Tryd.ntmps7
  go_wp2_with fail
  refine (newFr _).mono ?_
  rintro e w1 ⟨rfl, r1, f1, z1⟩
  have hT1 : Tabs8 w1 := tabs8_kept HT.out f1 fun _ _ e => e
  have f2 : Fr (fun _ => False) w1 (w1.alloc (.cells #[.int .u8 97, .int .u8 98, .int .u8 10, .int .u8 99] 5 (4, 5))) := (Fr.refl _ w1).alloc _
  have hb : At8 (w1.alloc (.cells #[.int .u8 97, .int .u8 98, .int .u8 10, .int .u8 99] 5 (4, 5))) (.slice (some ⟨w1.heap.size, 0, none⟩) 4 4) [97, 98, 10, 99] := at8_mark w1 [97, 98, 10, 99] (4, 5) (by decide)
  have hnF : (Value.slice (some ⟨w1.heap.size, 0, none⟩) 4 4).ownBlock ≠ some w.heap.size := fun e => by
    have : w1.heap.size = w.heap.size := Option.some.inj e
    omega
  have hcv := Lib.run_convert_bytes_const (P := Tryd.prog) w1 26 5 #[.int .u8 97, .int .u8 98, .int .u8 10, .int .u8 99] 4 4 Tryd.underlying26 Tryd.underlying5
  simp only [List.size_toArray, List.length_cons, List.length_nil, Nat.reduceAdd] at hcv
  have hfd := feedFr w.heap.size _ _ (.slice (some ⟨w1.heap.size, 0, none⟩) 4 4) [97, 98, 10, 99] _ (by decide) hb (frA_kept r1 f2 (fun e => e) fun _ _ e => e) good_new (tabs8_kept hT1 f2 fun _ _ e => e) (by omega) (fun k hk => by cases hk) (fun _ => hnF)
  have HF := Lib.hid hfd
  have H1 := Lib.hid (And.intro f1 (And.intro f2 z1))
  clear hfd hb f1 f2 z1 hT1 r1 hnF
  go_wp2_with fail
  refine HF.out.mono ?_
  rintro e w3 ⟨v2, r, rfl, o3, r3, d3, f3⟩
  clear HF
  rw [abc_feed] at o3 r3
  obtain ⟨g, c, rfl, hbg, hgl, hcc⟩ := ownLn_cell o3 (by decide)
  have c0 : w3.cell? ⟨g, 0, none⟩ = some (.string { data := #[97, 98] }) := (hcc 0 (by decide)).1
  have hre := restFr w.heap.size v2 _ w3 r3
  have hlo := lostFr w.heap.size v2 _ w3 r3
  have HR := Lib.hid (And.intro hre hlo)
  have H3 := Lib.hid (And.intro o3 (And.intro r3 (And.intro d3 f3)))
  clear o3 r3 d3 f3 hre hlo hcc
  go_wp2_with (first
    | (go_at_call 12; refine HR.out.1.mono ?_; rintro e w4 ⟨rfl, rfl⟩)
    | (go_at_call 13; refine HR.out.2.mono ?_; rintro e w4 ⟨rfl, rfl⟩))
  go_ret
  obtain ⟨f1, f2, z1⟩ := H1.out
  obtain ⟨o3, r3, d3, f3⟩ := H3.out
  exact ⟨rfl, (f1.trans f2).trans3 f3 fun k hk e => by
    rcases e with e | e
    · omega
    · cases e⟩
end Go.Proofs.YtaajfbbogihbnaaDoor
