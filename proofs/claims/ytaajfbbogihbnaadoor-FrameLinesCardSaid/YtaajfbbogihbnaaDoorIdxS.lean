/- bytes.IndexAny of whatever bytes, among two ASCII ones: the short road. -/
import Derived.Test.YtaajfbbogihbnaaDoorIdxR
import Derived.Test.YtaajfbbogihbnaaDoorShelf
import Derived.Shelf.Spec.DecodeRune
import Derived.Lib.IndexEntry
namespace Go.Proofs.YtaajfbbogihbnaaDoor
set_option linter.unusedVariables false
set_option linter.unusedSimpArgs false
open Go Go.RowKit


set_option maxRecDepth 1000000 in
set_option maxHeartbeats 8000000 in
/-- eight bytes at most, and not one -/
theorem idx8_short (l : List UInt8) (g o c : Nat) (chars : ByteArray) (w : World) (h2 : chars.size = 2) (ha : ascL chars.data.toList) (h8 : l.length ≤ 8) (h1 : l.length ≠ 1) (hlc : l.length ≤ c) (hg : g < w.heap.size) (hc : ∀ j (h : j < l.length), w.cell? ⟨g, o + j, none⟩ = some (enc8 l[j])) (hT : Tabs8 w) :
    Calls Tryd.prog 20 #[.slice (some ⟨g, o, none⟩) l.length c, .string chars] w fun e w' => e = .returned (.int .i64 (Lib.indexAny l chars.data.toList)) ∧ Below w.heap.size w w' := by
  have HA := Lib.hid ha
  have HC := Lib.hid (And.intro hc (And.intro hT hg))
  have H2 := Lib.hid h2
  have hemp := str_ne (s := chars) (by omega)
  have hn1 : ((chars.size : Int) == 1) = false := beq_eq_false_iff_ne.2 (by omega)
  have hl1 : ((l.length : Int) == 1) = false := beq_eq_false_iff_ne.2 (by omega)
  have h8z : decide ((8 : Int) < (l.length : Int)) = false := decide_eq_false (by omega)
  clear ha hc hT hg h2 h1
  go_enter Tryd.func20, Tryd.ntmps20
  go_wp2_with (first | (go_at_call 26; refine (should8 _ _).mono ?_; rintro e w' ⟨rfl, rfl⟩; rw [h8z]))
  go_loopg [11, 12, 13, 15] l.length (fun gm _ s12 _ _ wx => ∃ i : Nat, i + gm = l.length ∧ s12 = .int .i64 i ∧ Hid (Below w.heap.size w wx ∧ Lib.NoAny l chars.data.toList i))
  case atStart => exact ⟨0, by omega, rfl, Below.refl _ _, Lib.NoAny.zero _ _⟩
  case round =>
    obtain ⟨i, hig, rfl, HX⟩ := hrel
    by_cases hi : i < l.length
    · have hiz : (i : Int) < (l.length : Int) := by omega
      obtain ⟨hC, hT, hg⟩ := HC.out
      have fr : Fr (fun _ => False) w wr := (Fr.of_below (X := fun _ => False) HX.out.1)
      have hcr : ∀ j (h : j < l.length), wr.cell? ⟨g, o + j, none⟩ = some (enc8 l[j]) := fun j h => (fr.cell (p := ⟨g, o + j, none⟩) hg (fun e => e)).trans (hC j h)
      have hci := hcr i hi
      unfold enc8 at hci
      have hTr : Tabs8 wr := tabs8_kept hT fr fun _ _ e => e
      have hTR := Lib.hid (And.intro hcr hTr)
      obtain ⟨x, hx⟩ : ∃ x : UInt8, l[i] = x := ⟨_, rfl⟩
      have hxl : l[i]? = some x := by rw [List.getElem?_eq_getElem hi, hx]
      rw [hx] at hci
      have hxx := x.toNat_lt
      by_cases hb : x.toNat < 128
      · have hb1 : (x.toNat : Int) < 128 := by omega
        have hb2 : (x.toNat : Int) % 4294967296 = x.toNat := by omega
        have hix := fun W => ixByteS chars (x.toNat : Int) W
        have hback : ((x.toNat : Int)).toNat.toUInt8 = x := by simp
        simp only [hback] at hix
        have hcon := Lib.contains_iff_indexByte chars.data.toList x
        clear hC hT hg fr hcr hTr
        cases hin : chars.data.toList.contains x
        · have HN := Lib.hid (HX.out.2.succ hxl hin)
          rw [hin] at hcon
          have hneg : ¬ (0 ≤ Lib.indexByte chars.data.toList x) := of_decide_eq_false hcon.symm
          clear hcon hin hxl hx
          have hw1 : IntKind.i64.wrap ((i : Int) + 1) = (i : Int) + 1 := IntWalk.i64_in _ (by omega)
          go_wp2_with fail
          go_roundg (l.length - (i + 1))
          case measure => omega
          case rel => exact ⟨i + 1, by omega, by simp, HX.out.1, HN.out⟩
        · have HN := Lib.hid (Lib.indexAny_hit HX.out.2 hxl hin)
          rw [hin] at hcon
          have hneg : 0 ≤ Lib.indexByte chars.data.toList x := of_decide_eq_true hcon.symm
          clear hcon hin hxl hx
          go_wp2_with fail
          go_ret
          exact ⟨ret_int HN.out.symm, HX.out.1⟩
      · have hb1 : ¬ ((x.toNat : Int) < 128) := by omega
        have hb2 : (x.toNat : Int) % 4294967296 = x.toNat := by omega
        obtain ⟨r, n, hd, d1, d2, d3, d4, d5, d6, d7, d8⟩ := dec_facts l i hi (by rw [hx]; omega)
        have HNA := Lib.hid (noAny_span HX.out.2 HA.out d8)
        have hdec := fun W (hW : Below wr.heap.size wr W) (cc : Nat) => decode8 l g o cc i hi W (fun j h => (hW.cell (p := ⟨g, o + j, none⟩) (Nat.lt_of_lt_of_le hg fr.size)).trans (hcr j h)) (tabs8_kept hTr (Fr.of_below (X := fun _ => False) hW) fun _ _ e => e) hd
        obtain ⟨m, hm⟩ := hTr.2
        have HD := Lib.hid hdec
        have HK := Lib.hid (And.intro fr.size HX.out.1)
        have HM := Lib.hid hm
        have hnot := rune_notin chars HA.out H2.out r d1 d3
        have HNOT := Lib.hid (And.intro hnot (And.intro d3 d8))
        clear hC hT hg fr hcr hTr hdec hd hnot d3 d8 hxl hx
        have hw1 : IntKind.i64.wrap ((i : Int) + n) = (i : Int) + n := IntWalk.i64_in _ (by omega)
        have s1 : (0 : Int) ≤ (i : Int) := by omega
        have s2 : (i : Int) ≤ (l.length : Int) := by omega
        have s3 : ¬ (c = i) := by omega
        by_cases hr : r = 65533
        · subst hr
          go_wp2_with (go_at_call 29; refine (HD.out _ (Below.refl _ _) _).mono ?_; rintro e w2 ⟨rfl, hw2⟩)
          -- the bytes among which it is looked for
          go_loopg [15] chars.size (fun g _ wx => ∃ k : Nat, k + g = chars.size ∧ wx.heap[w2.heap.size]? = some (.stringIter chars k) ∧ Hid (Below w.heap.size w wx))
          case atStart => exact ⟨0, by omega, World.iter_heap _ _ _, (HK.out.2.trans (hw2.mono HK.out.1)).alloc (by have := HK.out.2.size; have := hw2.size; omega) _⟩
          case round =>
            obtain ⟨k, hkg, hk, HB⟩ := hrel
            by_cases hkl : k < chars.size
            · have hk128 : (chars[k]'hkl).toNat < 128 := HA.out.at _ (by simp [ByteArray.getElem_eq_getElem_data])
              have hne : ((65533 : Int) == (((chars[k]'hkl).toNat : Nat) : Int)) = false := by rw [beq_eq_false_iff_ne]; omega
              have hnx := fun ty => Lib.run_next_ascii_at (P := Tryd.prog) wr w2.heap.size chars k ty hk hkl hk128
              have hk2 := Lib.iterAt_heap wr w2.heap.size chars k (k + 1) hk
              have hb2 : Below w.heap.size w (wr.iterAt w2.heap.size chars (k + 1)) := Lib.below_iterAt HB.out (by have := HK.out.2.size; have := hw2.size; omega) chars (k + 1)
              have HK2 := Lib.hid (And.intro hk2 hb2)
              clear hk hk2 hb2
              go_wp2_with fail

              go_roundg (chars.size - (k + 1))
              case measure => omega
              case rel => exact ⟨k + 1, by omega, HK2.out.1, HK2.out.2⟩
            · obtain rfl : k = chars.size := by omega
              have hnx := Lib.run_next_end_at (P := Tryd.prog) wr w2.heap.size chars chars.size
              have hk3 := fun ty => hnx ty hk (by omega)
              clear hnx
              have HKB := Lib.hid hk
              clear hk
              go_wp2_with fail
              go_roundg (l.length - (i + n))
              case measure => omega
              case rel => exact ⟨i + n, by omega, rfl, HB.out, HNA.out⟩
        · have hr1 : ((r : Int) != 65533) = true := by rw [bne_iff_ne]; omega
          obtain ⟨q1, q2⟩ := d7 hr
          obtain ⟨E, hE⟩ : ∃ E, Utf8.encode (r : Int) = E := ⟨_, rfl⟩
          have hcv : ∀ w, (convert 21 9 (.int .i32 (r : Int))).run Tryd.prog w = .ok (.string E) w := fun w => by
            rw [run_convert_int_string (P := Tryd.prog) w 21 9 .i32 r (by rw [Tryd.underlying21]; rfl) Tryd.underlying9, hE]
          have q3 : 2 ≤ E.size := by
            rw [← hE]; exact (encode_facts (r : Int) HNOT.out.2.1 (by omega)).1
          rw [hE] at q2
          have HIX := Lib.hid (HNOT.out.1.1)
          have HEQ := Lib.hid (HNOT.out.1.2)
          have HE := Lib.hid hE
          clear hE
          by_cases hn2 : n = 2
          · have hcn : ((chars.size : Int) == (n : Int)) = true := by rw [beq_iff_eq]; have := H2.out; omega
            clear hn2
            have hqq : (chars.toList == E.toList) = false := by
              rw [beq_ba, beq_eq_false_iff_ne, ← HE.out]
              exact fun e => HEQ.out (ByteArray.ext (Array.toList_inj.1 e))
            go_wp2_with (go_at_call 29; refine (HD.out _ (Below.refl _ _) _).mono ?_; rintro e w2 ⟨rfl, hw2⟩)
            go_roundg (l.length - (i + n))
            case measure => omega
            case rel => exact ⟨i + n, by omega, rfl, HX.out.1.trans (hw2.mono HK.out.1), HNA.out⟩
          · have hcn : ((chars.size : Int) == (n : Int)) = false := by rw [beq_eq_false_iff_ne]; have := H2.out; omega
            have hmg := fun W (hW : Below wr.heap.size wr W) => (hW.cell (p := ⟨0, 0, none⟩) (World.block_lt_of_cell? _ _ HM.out)).trans HM.out
            by_cases hmn : (n : Int) ≤ m
            · have hixs := fun W (hW : Below wr.heap.size wr W) => ixStr chars E m W (hmg W hW) q3 (by omega) (by have := H2.out; omega)
              have hlast : Lib.index chars.data.toList E.data.toList = -1 := by rw [← HE.out]; exact HIX.out
              rw [hlast] at hixs
              have HXS := Lib.hid hixs
              have HMG := Lib.hid hmg
              clear hixs hmg hlast
              go_wp2_with (go_at_call 29; refine (HD.out _ (Below.refl _ _) _).mono ?_; rintro e w2 ⟨rfl, hw2⟩; have hm2 := HMG.out _ hw2; have hx2 := HXS.out _ hw2)
              go_roundg (l.length - (i + n))
              case measure => omega
              case rel => exact ⟨i + n, by omega, rfl, HX.out.1.trans (hw2.mono HK.out.1), HNA.out⟩
            · have hmd : decide ((n : Int) ≤ m) = false := decide_eq_false hmn
              have HMG := Lib.hid hmg
              clear hmg
              go_wp2_with (go_at_call 29; refine (HD.out _ (Below.refl _ _) _).mono ?_; rintro e w2 ⟨rfl, hw2⟩; have hm2 := HMG.out _ hw2)
              clear hm2 hcv hcn hr1 hmn hmd q1 q2 q3
              -- the bytes among which it is looked for
              go_loopg [15] chars.size (fun g _ wx => ∃ k : Nat, k + g = chars.size ∧ wx.heap[w2.heap.size]? = some (.stringIter chars k) ∧ Hid (Below w.heap.size w wx))
              case atStart => exact ⟨0, by omega, World.iter_heap _ _ _, (HK.out.2.trans (hw2.mono HK.out.1)).alloc (by have := HK.out.2.size; have := hw2.size; omega) _⟩
              case round =>
                obtain ⟨k, hkg, hk, HB⟩ := hrel
                by_cases hkl : k < chars.size
                · have hk128 : (chars[k]'hkl).toNat < 128 := HA.out.at _ (by simp [ByteArray.getElem_eq_getElem_data])
                  have hne : ((r : Int) == (((chars[k]'hkl).toNat : Nat) : Int)) = false := by rw [beq_eq_false_iff_ne]; omega
                  have hnx := fun ty => Lib.run_next_ascii_at (P := Tryd.prog) wr w2.heap.size chars k ty hk hkl hk128
                  have hk2 := Lib.iterAt_heap wr w2.heap.size chars k (k + 1) hk
                  have hb2 : Below w.heap.size w (wr.iterAt w2.heap.size chars (k + 1)) := Lib.below_iterAt HB.out (by have := HK.out.2.size; have := hw2.size; omega) chars (k + 1)
                  have HK2 := Lib.hid (And.intro hk2 hb2)
                  clear hk hk2 hb2
                  go_wp2_with fail

                  go_roundg (chars.size - (k + 1))
                  case measure => omega
                  case rel => exact ⟨k + 1, by omega, HK2.out.1, HK2.out.2⟩
                · obtain rfl : k = chars.size := by omega
                  have hnx := Lib.run_next_end_at (P := Tryd.prog) wr w2.heap.size chars chars.size
                  have hk3 := fun ty => hnx ty hk (by omega)
                  clear hnx
                  have HKB := Lib.hid hk
                  clear hk
                  go_wp2_with fail
                  go_roundg (l.length - (i + n))
                  case measure => omega
                  case rel => exact ⟨i + n, by omega, rfl, HB.out, HNA.out⟩
    · have hiz : ¬ ((i : Int) < (l.length : Int)) := by omega
      go_wp2_with fail
      go_ret
      exact ⟨ret_int (by rw [Lib.indexAny_none (fun j b hj hb => HX.out.2 j b (by omega) hb)]), HX.out.1⟩
end Go.Proofs.YtaajfbbogihbnaaDoor
