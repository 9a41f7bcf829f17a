/- Texts of this proof, one behind the other. -/
import Derived.Test.YtnoeblnljfnecaaGreatDoorWishBothG7
import Derived.Test.YtnoeblnljfnecaaGreatDoorWishBothG4
import Derived.Outline
import Derived.Sort.CutIn
import Derived.Stop.RegionWithIn
import Derived.Deep.RegionHeld3
import Derived.Deep.DrawnRows
import Derived.WalkKit
import Derived.Test.YtnoeblnljfnecaaGreatDoorWishBothG5
import Derived.OwnWalk
import Derived.BigQuiet
section
/- fold.Same, fold.Prefix; the document's Byte. -/
namespace Go.Proofs.YtnoeblnljfnecaaGreatDoor
open Go.RowKit

theorem cmpL_zero : ∀ {a b : List UInt8}, cmpL a b = 0 ↔ a = b
  | [], [] => by simp [cmpL]
  | [], _ :: _ => by simp [cmpL]
  | _ :: _, [] => by simp [cmpL]
  | x :: xs, y :: ys => by
    simp only [cmpL, List.cons.injEq]
    by_cases h1 : x.toNat < y.toNat
    · rw [if_pos h1]; constructor
      · intro h; cases h
      · rintro ⟨rfl, _⟩; omega
    · rw [if_neg h1]
      by_cases h2 : y.toNat < x.toNat
      · rw [if_pos h2]; constructor
        · intro h; cases h
        · rintro ⟨rfl, _⟩; omega
      · rw [if_neg h2, cmpL_zero]
        have : x = y := UInt8.toNat_inj.mp (by omega)
        simp [this]

/-- are two texts alike? -/
def sameF (a b : List UInt8) : Bool := foldL a == foldL b
theorem sameF_iff {a b : List UInt8} : sameF a b = true ↔ foldL a = foldL b := by simp [sameF]
theorem sameF_len {a b : List UInt8} (h : a.length ≠ b.length) : sameF a b = false := by
  rw [Bool.eq_false_iff]; intro e
  rw [sameF_iff] at e
  have := congrArg List.length e
  simp at this; exact h this
theorem sameF_cmp (a b : List UInt8) : (cmpF a b == 0) = sameF a b := by
  rw [Bool.eq_iff_iff, sameF_iff, beq_iff_eq]; exact cmpL_zero

end Go.Proofs.YtnoeblnljfnecaaGreatDoor
end
section
/- fold.Prefix; the document's Byte. -/
namespace Go.Proofs.YtnoeblnljfnecaaGreatDoor
open Go.RowKit

theorem ba_extract0 (s : ByteArray) (n : Nat) : (s.extract 0 n).data.toList = s.data.toList.take n := by
  simp [ByteArray.data_extract]
theorem ba_extract_to (s : ByteArray) (n : Nat) : (s.extract n s.size).data.toList = s.data.toList.drop n := by
  simp only [ByteArray.data_extract, Array.toList_extract, List.extract_eq_take_drop]
  rw [List.take_of_length_le]; simp



def fromB : ByteArray := ⟨#[65, 66, 67, 68, 69, 70, 71, 72, 73, 74, 75, 76, 77, 78, 79, 80, 81, 82, 83, 84, 85, 86, 87, 88, 89, 90, 91, 93, 92, 126]⟩
def toB : ByteArray := ⟨#[97, 98, 99, 100, 101, 102, 103, 104, 105, 106, 107, 108, 109, 110, 111, 112, 113, 114, 115, 116, 117, 118, 119, 120, 121, 122, 123, 125, 124, 94]⟩
theorem from_found : ∀ k : Fin 30, foldB (fromB[k.1]'(k.2)) = toB[k.1]'(k.2) := by decide +kernel
theorem from_all : ∀ n : Fin 256, foldB (UInt8.ofNat n) = UInt8.ofNat n ∨ ∃ k : Fin 30, fromB[k.1]'(k.2) = UInt8.ofNat n := by decide +kernel
theorem from_none (b : UInt8) (h : ∀ k : Fin 30, fromB[k.1]'(k.2) ≠ b) : foldB b = b := by
  have := from_all ⟨b.toNat, b.toNat_lt⟩
  simp only [UInt8.ofNat_toNat] at this
  rcases this with h1 | ⟨k, hk⟩
  · exact h1
  · exact absurd hk (h k)

theorem refbyte (b : UInt8) (w : World) :
    Calls Tryz.prog 57 #[.int .u8 ↑b.toNat] w fun e w' => e = .returned (.int .u8 ↑(foldB b).toNat) ∧ w = w' := by
  obtain ⟨F, hF⟩ : ∃ F : ByteArray, F = fromB := ⟨_, rfl⟩
  obtain ⟨T, hT⟩ : ∃ T : ByteArray, T = toB := ⟨_, rfl⟩
  have hF1 : F.size = 30 := by rw [hF]; rfl
  have hT1 : T.size = 30 := by rw [hT]; rfl
  have hf1 : F.size ≤ 30 := by omega
  have hf2 : 30 ≤ F.size := by omega
  have ht1 : T.size ≤ 30 := by omega
  have ht2 : 30 ≤ T.size := by omega
  have hfound : ∀ k (h : k < F.size) (h' : k < T.size), F[k] = b → T[k] = foldB b := by
    intro k h h' e
    subst hF hT
    rw [← e]; exact (from_found ⟨k, by omega⟩).symm
  have hnone : (∀ k (h : k < F.size), F[k] ≠ b) → foldB b = b := by
    intro h
    subst hF
    exact from_none b fun k => h k.1 (by have := k.2; omega)
  have HF := Lib.hid hF
  have HT := Lib.hid hT
  have Hfound := Lib.hid hfound
  have Hnone := Lib.hid hnone
  clear hF hT hF1 hT1 hfound hnone
  go_enter Tryz.func57, Tryz.ntmps57
  go_wp2_with fail
  rw [show ({ data := #[65, 66, 67, 68, 69, 70, 71, 72, 73, 74, 75, 76, 77, 78, 79, 80, 81, 82, 83, 84, 85, 86, 87, 88, 89, 90, 91, 93, 92, 126] } : ByteArray) = F from HF.out.symm,
    show ({ data := #[97, 98, 99, 100, 101, 102, 103, 104, 105, 106, 107, 108, 109, 110, 111, 112, 113, 114, 115, 116, 117, 118, 119, 120, 121, 122, 123, 125, 124, 94] } : ByteArray) = T from HT.out.symm]
  go_loop [5] (fun i => ∃ k : Nat, k ≤ 30 ∧ i = .int .i64 k ∧ Hid (∀ j (h : j < F.size), j < k → F[j] ≠ b)) (fun i => 30 - (Go.RowKit.intOf i).toNat)
  case atStart => exact ⟨0, by omega, rfl, fun j _ h => absurd h (Nat.not_lt_zero j)⟩
  case round =>
    obtain ⟨k, hk, rfl, Hq⟩ := hrel
    by_cases hlt : k < 30
    · have hlF : k < F.size := by omega
      have hlT : k < T.size := by omega
      by_cases he : F[k] = b
      · have hr := Hfound.out k hlF hlT he
        have Hr := Lib.hid hr
        have heb : ((F[k].toNat : Int) == (b.toNat : Int)) = true := by rw [he]; simp
        clear hr he
        go_wp2
        go_ret
        exact ⟨ret_int (by rw [Hr.out]), rfl⟩
      · have heb : ((F[k].toNat : Int) == (b.toNat : Int)) = false := by
          rw [beq_eq_false_iff_ne]; intro h; exact he (UInt8.toNat_inj.mp (by omega))
        have He := Lib.hid he
        clear he
        go_wp2
        go_round
        case rel => exact ⟨k + 1, by omega, by go_num, fun j h hj => by
            by_cases hjk : j = k
            · subst hjk; exact He.out
            · exact Hq.out j h (by omega)⟩
        case measure => simp [Go.RowKit.intOf]; omega
    · have hr := Hnone.out (fun j h => Hq.out j h (by omega))
      have Hr := Lib.hid hr
      clear hr
      go_wp2
      go_ret
      exact ⟨ret_int (by rw [Hr.out]), rfl⟩
end Go.Proofs.YtnoeblnljfnecaaGreatDoor
end
section
/- fold.Runs: the pieces of a text, one by one, as a function that ranges. -/
namespace Go.Proofs.YtnoeblnljfnecaaGreatDoor
open Go.RowKit Go.Shelf
attribute [local go_sem] Oper.semAt_some

/-- a piece: its text, and whether its bytes are changed by folding -/
abbrev Piece := { x : ByteArray × Bool // x.1.size ≤ 1000000 }
abbrev encPiece (x : Piece) : Array Value := #[.string x.1.1, .bool x.1.2]
def tb (b : UInt8) : Bool := foldB b != b
theorem turns_tb (c : UInt8) (w : World) :
    Calls Tryz.prog 61 #[.int .u8 ↑c.toNat] w fun e w' => e = .returned (.bool (tb c)) ∧ w = w' := turns_u8 c w
/-- all bytes of pieces -/
def flat : List Piece → List UInt8
  | [] => []
  | x :: r => x.1.1.data.toList ++ flat r
theorem flat_snoc (l : List Piece) (x : Piece) : flat (l ++ [x]) = flat l ++ x.1.1.data.toList := by
  induction l with
  | nil => simp [flat]
  | cons y r ih => simp [flat, ih]
/-- is the next piece as it must be behind these: not empty, of one sort, of the other sort than the last one? -/
def okNext (pre : List Piece) (x : Piece) : Prop :=
  x.1.1.size ≠ 0 ∧ (∀ b ∈ x.1.1.data.toList, tb b = x.1.2) ∧ ∀ y, pre.getLast? = some y → x.1.2 ≠ y.1.2
/-- are pieces as they must be, each behind those ahead of it? -/
def okAll : List Piece → Prop
  | l => ∀ a x r, l = a ++ x :: r → okNext a x
theorem okAll_nil : okAll [] := by intro a x r h; simp at h
theorem okAll_snoc {l : List Piece} {x : Piece} : okAll (l ++ [x]) ↔ okAll l ∧ okNext l x := by
  constructor
  · intro h
    exact ⟨fun a y r e => h a y (r ++ [x]) (by rw [e]; simp), h l x [] rfl⟩
  · rintro ⟨h1, h2⟩ a y r e
    rcases List.eq_nil_or_concat r with rfl | ⟨r', z, rfl⟩
    · have : l ++ [x] = a ++ [y] := e
      obtain ⟨e1, e2⟩ := List.append_inj' this rfl
      simp at e2
      subst e1 e2; exact h2
    · have : l ++ [x] = (a ++ y :: r') ++ [z] := by rw [e]; simp
      obtain ⟨e1, e2⟩ := List.append_inj' this rfl
      exact h1 a y r' e1

/-- how far the pieces have come: what they are of, what is left -/
def RunsAt (l : List UInt8) (pre : List Piece) (rest : List UInt8) : Prop :=
  flat pre ++ rest = l ∧ okAll pre ∧ ∀ y b r, pre.getLast? = some y → rest = b :: r → tb b ≠ y.1.2

theorem flat_len {pre : List Piece} (h : okAll pre) : pre.length ≤ (flat pre).length := by
  induction pre using snoc_ind with
  | nil => simp
  | snoc l x ih =>
    rw [okAll_snoc] at h
    have := ih h.1
    have hx := h.2.1
    rw [flat_snoc]
    simp; omega

theorem runsAt_nil (l : List UInt8) : RunsAt l [] l := ⟨by simp [flat], okAll_nil, by intro y b r h; simp at h⟩

theorem RunsAt.snoc {l : List UInt8} {pre : List Piece} {p q : List UInt8} {t : Bool} (h : RunsAt l pre (p ++ q)) (hp : p ≠ [])
    (ht : ∀ b ∈ p, tb b = t) (hq : ∀ b r, q = b :: r → tb b ≠ t) (x : Piece) (hx : x.1 = (bs p, t)) : RunsAt l (pre ++ [x]) q := by
  obtain ⟨h1, h2, h3⟩ := h
  refine ⟨?_, okAll_snoc.2 ⟨h2, ?_⟩, ?_⟩
  · rw [flat_snoc, hx]; simpa using h1
  · refine ⟨?_, ?_, ?_⟩
    · rw [hx]; simp; exact hp
    · rw [hx]; simpa using ht
    · intro y hy
      rw [hx]
      obtain ⟨b, p', rfl⟩ := List.exists_cons_of_ne_nil hp
      have := h3 y b (p' ++ q) hy rfl
      rw [ht b (by simp)] at this
      exact this
  · intro y b r hy hr
    simp at hy
    subst hy
    rw [hx]
    exact hq b r hr

theorem RunsAt.bound {l : List UInt8} {pre : List Piece} {b : UInt8} {r : List UInt8} (h : RunsAt l pre (b :: r)) : pre.length < l.length := by
  have := flat_len h.2.1
  rw [← h.1]; simp; omega

theorem all_take (R : ByteArray) (t : Bool) (k : Nat) (hk : k ≤ R.size) (h : ∀ j (h : j < R.size), j < k → tb R[j] = t) : ∀ b ∈ R.data.toList.take k, tb b = t := by
  intro b hb
  obtain ⟨j, hj, rfl⟩ := List.mem_iff_getElem.1 hb
  simp only [List.length_take, ba_len] at hj
  rw [List.getElem_take]
  exact h j (by omega) (by omega)

theorem RunsAt.cut {l : List UInt8} {pre : List Piece} {R : ByteArray} (h : RunsAt l pre R.data.toList) (k : Nat) (hk : k < R.size) (t : Bool) (h0 : t = tb (R[0]'(by omega)))
    (ha : ∀ j (h : j < R.size), j < k → tb R[j] = t) (hn : tb R[k] ≠ t) (x : Piece) (hx : x.1 = (R.extract 0 k, t)) : RunsAt l (pre ++ [x]) (R.extract k R.size).data.toList := by
  have hk0 : k ≠ 0 := by rintro rfl; exact hn h0.symm
  rw [ba_extract_to]
  refine RunsAt.snoc (p := R.data.toList.take k) (t := t) (by rw [List.take_append_drop]; exact h) ?_ (all_take R t k (by omega) ha) ?_ x ?_
  · intro e
    have := congrArg List.length e
    rw [List.length_take, ba_len, List.length_nil] at this
    omega
  · intro b r e
    rw [ba_drop R k hk] at e
    cases e
    exact hn
  · rw [hx, ← ba_extract0]; rfl

theorem RunsAt.last {l : List UInt8} {pre : List Piece} {R : ByteArray} (h : RunsAt l pre R.data.toList) (hk : 0 < R.size) (t : Bool)
    (ha : ∀ j (h : j < R.size), j < R.size → tb R[j] = t) (x : Piece) (hx : x.1 = (R, t)) : RunsAt l (pre ++ [x]) [] := by
  refine RunsAt.snoc (p := R.data.toList) (t := t) (by rw [List.append_nil]; exact h) ?_ ?_ (by intro b r e; cases e) x (by rw [hx]; rfl)
  · intro e
    have := congrArg List.length e
    rw [ba_len, List.length_nil] at this
    omega
  · have := all_take R t R.size (Nat.le_refl _) ha
    rw [List.take_of_length_le (by rw [ba_len]; exact Nat.le_refl _)] at this
    exact this
end Go.Proofs.YtnoeblnljfnecaaGreatDoor
end
section
/- fold.Runs: the walk of its function that ranges. -/
namespace Go.Proofs.YtnoeblnljfnecaaGreatDoor
open Go.RowKit Go.Shelf
attribute [local go_sem] Oper.semAt_some

theorem runs_any (s : ByteArray) (w : World) :
    Calls Tryz.prog 45 #[.string s] w fun e w' => e = .returned (.func (.func 60) #[] #[.pointer (some ⟨w.heap.size, 0, none⟩)]) ∧ w' = w.alloc (.cells #[.string s] 9) := by
  go_enter Tryz.func45, Tryz.ntmps45
  go_wp2
  go_ret
  exact ⟨rfl, rfl⟩

set_option maxRecDepth 100000 in
set_option maxHeartbeats 1000000 in
theorem runs_stops (n : Nat) (hn : 2 ≤ n) (B : Nat) (s : ByteArray) (w : World) (hs : s.size ≤ 1000000) (hB : B < w.heap.size) (hc : w.cell? ⟨B, 0, none⟩ = some (.string s)) :
    SeqStopsK Fence.wide n Tryz.prog 60 #[.pointer (some ⟨B, 0, none⟩)] encPiece (fun _ _ => True)
      (fun xs => RunsAt s.data.toList xs []) (fun pre => ∃ r, RunsAt s.data.toList pre r) s.size w := fun l J Jx W hW hJ hJx hY h0 => by
  have hc1 : W.cell? ⟨B, 0, none⟩ = some (.string s) := (hW.cell (p := ⟨B, 0, none⟩) hB).trans hc
  refine callsIn_of_wp Tryz.func60 rfl trivial ?_ rfl
  simp only [Tryz.ntmps60, List.size_toArray, List.length_cons, List.length_nil, Nat.reduceAdd, Nat.reduceSub, Array.replicate_succ, Array.replicate_zero, List.push_toArray, List.append_toArray, List.nil_append, List.cons_append]
  gi_wp2
  refine wpIn_scope ?_
  gi_wp2
  refine wpIn_label ?_
  gi_wp2
  gi_loopw [3] (fun p wr => ∃ (pre : List Piece) (R : ByteArray), p = .string R ∧ Hid (RunsAt s.data.toList pre R.data.toList ∧ R.size ≤ s.size) ∧ J pre wr) (fun p _ => match p with | .string R => R.size | _ => 0)
  case atStart => exact ⟨[], s, rfl, ⟨runsAt_nil _, Nat.le_refl _⟩, h0⟩
  case round =>
    obtain ⟨pre, R, rfl, HR, hJs⟩ := hrel
    by_cases hR : R.size = 0
    · have hRb := str_em hR
      have hd := HR.out.1
      rw [str_nil hR] at hd
      have Hd := Lib.hid hd
      clear hd hR
      gi_wp2_with fail
      rw [noGoto_normal]
      go_end0
      exact ⟨⟨_, rfl⟩, .inl ⟨pre, Hd.out, hJs⟩⟩
    · have hR0 : 0 < R.size := by omega
      have hRb := str_ne hR0
      have hRs : R.size ≤ 1000000 := by have := HR.out.2; omega
      have hlen : pre.length < s.size := by
        have := HR.out.1
        rw [show R.data.toList = R.data.toList.drop 0 from rfl, ba_drop R 0 hR0] at this
        simpa using this.bound
      clear hR
      gi_wp2_with fail
      refine ⟨trivial, fun _ => by omega, ((callsIn_wide (n := n - 1)).2 (turns_tb _ _)).mono ?_⟩
      rintro e w' ⟨rfl, rfl⟩
      obtain ⟨t, ht⟩ : ∃ t, t = tb R[0] := ⟨_, rfl⟩
      rw [← ht]
      have Ht := Lib.hid ht
      clear ht
      gi_wp2_with fail
      gi_loop [3, 14] (fun p i => ∃ k : Nat, p = .string R ∧ i = .int .i64 k ∧ k ≤ R.size ∧ Hid (∀ j (h : j < R.size), j < k → tb R[j] = t)) (fun _ i => R.size - (Go.RowKit.intOf i).toNat)
      case atStart => exact ⟨0, rfl, rfl, Nat.zero_le _, fun j _ h => absurd h (Nat.not_lt_zero j)⟩
      case round =>
        obtain ⟨k, rfl, rfl, hk, Hk⟩ := hrel
        by_cases hlt : k < R.size
        · gi_wp2_with fail
          refine ⟨trivial, fun _ => by omega, ((callsIn_wide (n := n - 1)).2 (turns_tb _ _)).mono ?_⟩
          rintro e w' ⟨rfl, rfl⟩
          by_cases he : tb R[k] = t
          · have heb : (tb R[k] == t) = true := by rw [he]; simp
            have He := Lib.hid he
            clear he
            gi_wp2_with fail
            go_round
            case rel => exact ⟨k + 1, rfl, by go_num, by omega, fun j h hj => by
              by_cases hjk : j = k
              · subst hjk; exact He.out
              · exact Hk.out j h (by omega)⟩
            case measure => simp [Go.RowKit.intOf]; omega
          · have heb : (tb R[k] == t) = false := by rw [beq_eq_false_iff_ne]; exact he
            have He := Lib.hid he
            clear he
            have hsz : (R.extract 0 k).size ≤ 1000000 := by simp; omega
            obtain ⟨fn, tmps, assign, body, hy, hR⟩ := hY pre ⟨(R.extract 0 k, t), hsz⟩ wr hJs hlen
            dsimp only [encPiece] at hy
            gi_wp2_with fail
            refine ⟨fun _ => by omega, hR.mono ?_⟩
            rintro e W3 (⟨rfl, hJ3, _⟩ | ⟨rfl, hJx3⟩)
            · have hcut := HR.out.1.cut k hlt t Ht.out Hk.out He.out ⟨(R.extract 0 k, t), hsz⟩ rfl
              have hsm : (R.extract k R.size).size < R.size := by
                have hk0 : k ≠ 0 := by rintro rfl; exact He.out Ht.out.symm
                simp; omega
              have Hcut := Lib.hid (And.intro hcut (And.intro hsm HR.out.2))
              clear hcut hsm
              gi_wp2_with fail
              go_roundw
              case rel => exact ⟨pre ++ [⟨(R.extract 0 k, t), hsz⟩], _, rfl, ⟨Hcut.out.1, by have := Hcut.out.2; omega⟩, hJ3⟩
              case measure => exact Hcut.out.2.1
            · have hcut := HR.out.1.cut k hlt t Ht.out Hk.out He.out ⟨(R.extract 0 k, t), hsz⟩ rfl
              have Hcut := Lib.hid hcut
              clear hcut
              gi_wp2_with fail
              rw [noGoto_ret']
              refine bodyPost_ret (results_none rfl _ _ _) rfl ?_
              exact ⟨⟨_, rfl⟩, .inr ⟨_, ⟨_, Hcut.out⟩, hJx3⟩⟩
        · have hlast := HR.out.1.last hR0 t (fun j h hj => Hk.out j h (by omega)) ⟨(R, t), hRs⟩ rfl
          have Hlast := Lib.hid hlast
          clear hlast
          obtain ⟨fn, tmps, assign, body, hy, hR⟩ := hY pre ⟨(R, t), hRs⟩ wr hJs hlen
          dsimp only [encPiece] at hy
          gi_wp2_with fail
          refine ⟨fun _ => by omega, hR.mono ?_⟩
          rintro e W3 (⟨rfl, hJ3, _⟩ | ⟨rfl, hJx3⟩)
          · gi_wp2_with fail
            rw [noGoto_ret']
            refine bodyPost_ret (results_none rfl _ _ _) rfl ?_
            exact ⟨⟨_, rfl⟩, .inl ⟨_, Hlast.out, hJ3⟩⟩
          · gi_wp2_with fail
            rw [noGoto_ret']
            refine bodyPost_ret (results_none rfl _ _ _) rfl ?_
            exact ⟨⟨_, rfl⟩, .inr ⟨_, ⟨_, Hlast.out⟩, hJx3⟩⟩
end Go.Proofs.YtnoeblnljfnecaaGreatDoor
end
section
/- fold.Text: what is folded. -/
namespace Go.Proofs.YtnoeblnljfnecaaGreatDoor
open Go.RowKit Go.Shelf
attribute [local go_sem] Oper.semAt_some

/-- bytes as cells -/
def u8s (l : List UInt8) : List Value := l.map fun b => Value.int .u8 b.toNat
theorem u8s_append (a b : List UInt8) : u8s (a ++ b) = u8s a ++ u8s b := by simp [u8s]
theorem u8s_bytes (s : ByteArray) : byteCells s = u8s s.data.toList := rfl

theorem u8s_step (a : List UInt8) (p : ByteArray) (k : Nat) (h : k < p.size) :
    u8s (a ++ (p.data.toList.map foldB).take (k + 1)) = u8s (a ++ (p.data.toList.map foldB).take k) ++ [.int .u8 (foldB p[k]).toNat] := by
  rw [← List.map_take, ba_take p k h, List.map_append, ← List.append_assoc, u8s_append, List.map_take]
  rfl

/-- what pieces are folded to -/
def tx (pre : List Piece) : List UInt8 := pre.flatMap fun x => if x.1.2 then x.1.1.data.toList.map foldB else x.1.1.data.toList
theorem tx_snoc (pre : List Piece) (x : Piece) : tx (pre ++ [x]) = tx pre ++ (if x.1.2 then x.1.1.data.toList.map foldB else x.1.1.data.toList) := by simp [tx]
theorem tx_len (pre : List Piece) : (tx pre).length ≤ pre.length * 1000000 := by
  induction pre using snoc_ind with
  | nil => simp [tx]
  | snoc l x ih =>
    rw [tx_snoc, List.length_append]
    have hx := x.2
    have e : (if x.1.2 then x.1.1.data.toList.map foldB else x.1.1.data.toList).length = x.1.1.size := by split <;> simp
    rw [e]
    simp only [List.length_append, List.length_cons, List.length_nil]
    omega
theorem tx_fold {pre : List Piece} (h : okAll pre) : tx pre = foldL (flat pre) := by
  induction pre using snoc_ind with
  | nil => rfl
  | snoc l x ih =>
    rw [okAll_snoc] at h
    rw [tx_snoc, flat_snoc, foldL_append, ih h.1]
    congr 1
    obtain ⟨_, hb, _⟩ := h.2
    cases hx : x.1.2 with
    | true => simp [foldL]
    | false =>
      rw [hx] at hb
      simp only [Bool.false_eq_true, if_false]
      unfold foldL
      have : ∀ l : List UInt8, (∀ b ∈ l, tb b = false) → l = l.map foldB := by
        intro l
        induction l with
        | nil => intro _; rfl
        | cons b r ih =>
          intro h
          have hb := h b (by simp)
          simp only [tb, bne_eq_false_iff_eq] at hb
          rw [List.map_cons, hb, ← ih fun c hc => h c (by simp [hc])]
      exact this _ hb

/-- 'out = append(out, ..)' onto a box's own row: what the walk owes. -/
theorem boxed_app {W w1 : World} {n₀ B : Nat} {t e : TypeId} {size g cap k m : Nat} {v' : Value} {xs ys : List Value} (hv : Boxed W B t (.slice (some ⟨g, 0, none⟩) k cap)) (hte : t ≠ e)
    (hrow : W.ownsRow n₀ e size (.slice (some ⟨g, 0, none⟩) k cap) k xs) (hn₀ : n₀ ≤ W.heap.size) (hB : n₀ ≤ B) (hown' : w1.ownsRow n₀ e size v' m ys) (hgrow : W.grownBy w1 (some g)) :
    Boxed w1 B t (.slice (some ⟨g, 0, none⟩) k cap) ∧ Boxed (w1.setCell ⟨B, 0, none⟩ v') B t v' ∧ (w1.setCell ⟨B, 0, none⟩ v').ownsRow n₀ e size v' m ys ∧ KeepsOthers W (w1.setCell ⟨B, 0, none⟩ v') ∧ Below n₀ W (w1.setCell ⟨B, 0, none⟩ v') := by
  have hv1 : Boxed w1 B t (.slice (some ⟨g, 0, none⟩) k cap) := hv.kept hgrow (hv.not_row hte hrow)
  rcases hrow.2 with ⟨h, _⟩ | ⟨g0, cap0, cur, h, hb, hgb, _⟩
  · cases h
  · simp only [Value.slice.injEq, Option.some.injEq, Addr.mk.injEq, true_and, and_true] at h
    obtain ⟨rfl, rfl⟩ := h
    refine ⟨hv1, hv1.set v', hown'.kept (grownBy_setCell' w1 B v') (.inr (hv1.not_row hte hown').symm), ?_, ?_⟩
    · refine (KeepsOthers.of_grownBy hgrow fun j o ej hj => ?_).trans (KeepsOthers.setCell _ _ _)
      cases ej
      rw [hgb] at hj; cases hj; rfl
    · refine ((Below.refl n₀ W).grown hgrow hn₀ fun j ej => ?_).setCell (p := ⟨B, 0, none⟩) hB v'
      cases ej
      exact hb

theorem conv_own {P : Program} (W : World) (src dst e : TypeId) (base g cap : Nat) (l : List UInt8) (hs : P.underlying src = some (.slice e)) (he : P.underlying e = some (.int .u8)) (hd : P.underlying dst = some .string)
    (h : W.ownsRow base e 1 (.slice (some ⟨g, 0, none⟩) l.length cap) l.length (u8s l)) :
    (convert src dst (.slice (some ⟨g, 0, none⟩) l.length cap)).run P W = .ok (.string (bs l)) W :=
  run_convert_bytes_back W src dst e ⟨g, 0, none⟩ cap l hs he hd fun j hj => h.cells (g := g) rfl j _ (by simp [u8s, hj])

theorem Tryz.infoU8 : (Tryz.prog.info? 5).map (fun i => (i.zero, i.size, i.bytes)) = some (some (.int .u8 0), 1, 1) := by kernel_rfl

set_option maxRecDepth 100000 in
set_option maxHeartbeats 2000000 in
theorem text_any (s : ByteArray) (w : World) (hs : s.size ≤ 1000000) :
    Calls Tryz.prog 29 #[.string s] w fun e w' => e = .returned (.string (bs (foldL s.data.toList))) ∧ Below w.heap.size w w' := by
  obtain ⟨i0, hi, hz0, hz1, hz2⟩ := info_parts Tryz.infoU8
  refine (callsIn_wide (n := 5)).1 ?_
  refine callsIn_of_wp_marks Tryz.func29 rfl trivial ?_ rfl
  simp only [Tryz.ntmps29, List.size_toArray, List.length_cons, List.length_nil, Nat.reduceAdd, Nat.reduceSub, Array.replicate_succ, Array.replicate_zero, List.push_toArray, List.append_toArray, List.nil_append, List.cons_append]
  gi_wp2_with (gi_at_make; refine wpListIn_make_own _ rfl _ _ 86 rfl w.heap.size 5 i0 (.int .u8 0) 1 Tryz.underlying86 hi hz0 hz1 .i64 .i64 (s.size : Int) s.size rfl rfl rfl (by rw [hz2]; omega) (by unfold maxLen; omega) (Nat.le_refl _) ?_; intro w1 hown hgrow)
  refine ⟨trivial, ((callsIn_wide (n := 4)).2 (runs_any _ _)).mono ?_⟩
  rintro e w2 ⟨rfl, hw2⟩
  have hwl : w.heap.size ≤ w1.heap.size := hgrow.size
  have hB1 : Below w.heap.size w w1 := ⟨hgrow.os, hgrow.tape, hgrow.output, hgrow.size, fun i hi => hgrow.block i hi (by simp)⟩
  have bO := (Boxed.new w1 86 (.slice (some ⟨w.heap.size, 0, none⟩) 0 s.size)).alloc (.cells #[.string s] 9)
  have bS := Boxed.new (w1.alloc (.cells #[.slice (some ⟨w.heap.size, 0, none⟩) 0 s.size] 86)) 9 (.string s)
  have hrow := (hown.alloc (.cells #[.slice (some ⟨w.heap.size, 0, none⟩) 0 s.size] 86)).alloc (.cells #[.string s] 9)
  have hB2 : Below w.heap.size w w2 := by rw [hw2]; exact (hB1.alloc hwl _).alloc (by simp; omega) _
  have hsz : w2.heap.size = w1.heap.size + 2 := by rw [hw2]; simp
  rw [World.size_alloc] at bS
  rw [← hw2] at bO bS hrow
  obtain ⟨B, hBd⟩ : ∃ B, B = w1.heap.size := ⟨_, rfl⟩
  simp only [World.size_alloc]
  rw [← hBd] at bO bS hsz hwl ⊢
  have hle : B + 2 ≤ w2.heap.size := by omega
  have HX := Lib.hid (And.intro hw2 (And.intro hsz hBd))
  clear hw2 hsz hBd hB1 hown hgrow
  gi_wp2_with fail
  refine wpIn_rangeFunc_ownG rfl (by omega) (gf := 60) (lb := #[.pointer (some ⟨B + 1, 0, none⟩)]) rfl trivial (enters_of Tryz.func60 (by kernel_rfl) rfl)
    (runs_stops 4 (by omega) (B + 1) s w2 hs (by omega) bS.cell) (fun _ _ => trivial) (fun _ _ _ _ _ _ _ _ => trivial) (Below.refl _ _) (fun _ => rfl)
    (fun pre W => (∃ v, Boxed W B 86 v ∧ W.ownsRow w.heap.size 5 1 v (tx pre).length (u8s (tx pre)) ∧ ∃ g cap, v = .slice (some ⟨g, 0, none⟩) (tx pre).length cap) ∧ Below w.heap.size w W)
    (fun _ _ _ => False)
    (OwnFrom.and (Own.from (holdsRow_own w.heap.size B 86 5 1 (fun pre => (tx pre).length) (fun pre => u8s (tx pre)) (fun pre v => ∃ g cap, v = .slice (some ⟨g, 0, none⟩) (tx pre).length cap)) _) (ownFrom_below (by omega) (by omega)))
    (fun _ _ _ _ _ hs _ _ => hs)
    ⟨⟨_, bO, hrow, _, _, rfl⟩, hB2⟩
    (fun x => { tmps := #[.string s, undef, .string ⟨#[]⟩, .pointer (some ⟨B, 0, none⟩), .string x.1.1, .bool x.1.2, undef, .string s, .int .i64 s.size, .slice (some ⟨w.heap.size, 0, none⟩) 0 s.size, .string s, .func (.func 60) #[] #[.pointer (some ⟨B + 1, 0, none⟩)], .string x.1.1, .bool x.1.2, undef, undef, undef, undef, undef, undef, undef, undef, undef, undef, undef, undef, undef, undef, undef, undef, undef, undef, undef, undef], defers := [] }) ?assign ?body ?done ?stop
  case assign =>
    intro l x W K hK
    gi_wp2
    exact hK
  case stop =>
    rintro D c pre W _ _ h _
    exact h.elim
  case done =>
    rintro D xs W hD hS ⟨⟨v, hv, hrow, g, cap, rfl⟩, hB⟩ hK
    have hc := hv.cell
    have hconv := conv_own W 86 9 5 w.heap.size g cap (tx xs) Tryz.underlying86 Tryz.underlying5 Tryz.underlying9 hrow
    have ht : tx xs = foldL s.data.toList := by rw [tx_fold hS.2.1]; have := hS.1; rw [List.append_nil] at this; rw [this]
    have Ht := Lib.hid ht
    clear ht
    gi_wp2
    refine ⟨by simp, .inl ⟨_, _, rfl, run_takeDeferred hK, ?_⟩⟩
    exact ⟨_, results_tmp rfl _ _ _, by rw [← Ht.out]; rfl, hB.trans (belowK_b (w := w) (Nat.le_refl _) W D _ _ (by omega) hK rfl rfl)⟩
  case body =>
    rintro l pre x W ⟨⟨v, hv, hrow, g, cap, rfl⟩, hB⟩ hlt
    have htl := tx_len pre
    have hts := tx_snoc pre x
    have Hts := Lib.hid hts
    clear hts
    obtain ⟨⟨p, t⟩, hp⟩ := x
    have hp' : p.size ≤ 1000000 := hp
    have hc := hv.cell
    cases t with
    | false =>
      have hsrc := Src.ofString (P := Tryz.prog) W (tx := 9) Tryz.underlying9 p
      gi_wp2_with (gi_at_builtin; refine wpListIn_app_src _ rfl _ _ 86 9 rfl w.heap.size 5 i0 (.int .u8 0) 1 1 Tryz.underlying86 hi hz0 hz1 hz2 rfl g cap _ _ rfl hrow _ p.size _ rfl hsrc (by unfold maxLen; omega) (by omega) hB.size ?_; intro g1 cap1 w3 hown3 hgrow3; obtain ⟨hv1, hv2, hr2, hk2, hb2⟩ := boxed_app hv (by decide) hrow hB.size hwl hown3 hgrow3; have hc1 := hv1.cell; have hf1 := hv1.frozen)
      have e : tx (pre ++ [⟨(p, false), hp⟩]) = tx pre ++ p.data.toList := Hts.out
      have e2 : (tx pre).length + p.size = (tx (pre ++ [⟨(p, false), hp⟩])).length := by rw [e]; simp
      refine ⟨hk2.from _, trivial, ⟨_, hv2, ?_, g1, cap1, by rw [e2]⟩, hB.trans hb2⟩
      rw [e, u8s_append, ← u8s_bytes]
      simpa using hr2
    | true =>
      gi_wp2_with fail
      gi_loopw [21] (fun i wr => ∃ (k g cap : Nat), i = .int .i64 k ∧ k ≤ p.size ∧ Boxed wr B 86 (.slice (some ⟨g, 0, none⟩) ((tx pre).length + k) cap) ∧
        wr.ownsRow w.heap.size 5 1 (.slice (some ⟨g, 0, none⟩) ((tx pre).length + k) cap) ((tx pre).length + k) (u8s (tx pre ++ (p.data.toList.map foldB).take k)) ∧ Hid (KeepsOthers W wr ∧ Below w.heap.size W wr)) (fun i _ => p.size - (Go.RowKit.intOf i).toNat)
      case atStart => exact ⟨0, g, cap, rfl, Nat.zero_le _, hv, by simpa using hrow, KeepsOthers.refl _, Below.refl _ _⟩
      case round =>
        obtain ⟨k, g2, cap2, rfl, hk, hv2, hrow2, HK⟩ := hrel
        clear hc hv hrow
        have hc2 := hv2.cell
        by_cases hlt2 : k < p.size
        · have hsrc := Src.ofSlice (P := Tryz.prog) (w := (wr.alloc (.cells #[.int .u8 (foldB p[k]).toNat] 5)).drew) (size := 1) (tx := 86) Tryz.underlying86 ⟨wr.heap.size, 0, none⟩ 1 1 [.int .u8 (foldB p[k]).toNat] rfl (cell_one_new wr _ _) (by simp [Value.oneCell'])
          have hv3 : Boxed (wr.alloc (.cells #[.int .u8 (foldB p[k]).toNat] 5)).drew B 86 _ := hv2.alloc (.cells #[.int .u8 (foldB p[k]).toNat] 5)
          have hrow3 : (wr.alloc (.cells #[.int .u8 (foldB p[k]).toNat] 5)).drew.ownsRow _ _ _ _ _ _ := hrow2.alloc (.cells #[.int .u8 (foldB p[k]).toNat] 5)
          obtain ⟨g4, cap4, w4, hrun, hown4, hgrow4⟩ := run_app_src (P := Tryz.prog) _ w.heap.size 86 86 86 5 i0 (.int .u8 0) 1 1 Tryz.underlying86 hi hz0 hz1 hz2 rfl g2 cap2 _ _ hrow3 _ 1 _ hsrc (by unfold maxLen; omega) (by omega) (by have := HK.out.2.size; have := hB.size; simp; omega)
          obtain ⟨hv5, hv6, hr6, hk6, hb6⟩ := boxed_app hv3 (by decide) hrow3 (by have := HK.out.2.size; have := hB.size; simp; omega) hwl hown4 hgrow4
          have hc3 := hv3.cell
          have hc5 := hv5.cell
          have hf5 := hv5.frozen
          have H6 := Lib.hid (And.intro hv6 (And.intro hr6 (And.intro hk6 hb6)))
          clear hv6 hr6 hk6 hb6 hown4 hgrow4 hrow3 hv3 hv5 hsrc
          have hrun2 : (Sem.run Tryz.prog (Builtin.append_ #[86, 86] 86 #[.slice (some ⟨g2, 0, none⟩) ((tx pre).length + k) cap2, .slice (some ⟨wr.heap.size, 0, none⟩) 1 1]) (wr.alloc (.cells #[.int .u8 (foldB p[k]).toNat] 5)).drew).andThen (fun a w' => Result.ok (Next.value a) w') = .ok (.value (.slice (some ⟨g4, 0, none⟩) ((tx pre).length + k + 1) cap4)) w4 := by rw [hrun]; rfl
          simp [go_sem] at hrun2
          gi_upto_region 10 with (fail)
          gi_region_with (first | (refine ⟨trivial, ?_⟩; gi_at_call 46; refine (CallsIn.inRound l ((callsIn_wide (n := 2)).2 (byte_u8 _ _))).mono ?_; rintro e w' ⟨rfl, rfl⟩)| (fail))
          all_goals
            clear hrun hrun2 hc2 hc3 hc5 hf5
            gi_wp2_with fail
            go_roundw
            case rel =>
              refine ⟨k + 1, g4, cap4, by go_num, by omega, H6.out.1, ?_, (HK.out.1.trans (((KeepsOthers.alloc wr _).trans (KeepsOthers.drew _)).trans H6.out.2.2.1)), HK.out.2.trans ((((Below.refl _ wr).alloc (by have := HK.out.2.size; have := hB.size; omega) _).drew).trans H6.out.2.2.2)⟩
              rw [u8s_step _ p k hlt2]
              exact H6.out.2.1
            case measure => simp [Go.RowKit.intOf]; omega
        · have hkp : k = p.size := by omega
          have Hkp := Lib.hid hkp
          clear hkp
          gi_wp2_with fail
          have e : tx (pre ++ [⟨(p, true), hp⟩]) = tx pre ++ p.data.toList.map foldB := Hts.out
          have e2 : (tx pre).length + k = (tx (pre ++ [⟨(p, true), hp⟩])).length := by rw [e, Hkp.out]; simp
          refine ⟨HK.out.1.from _, trivial, ⟨_, hv2, ?_, g2, cap2, by rw [e2]⟩, hB.trans HK.out.2⟩
          have e3 : (p.data.toList.map foldB).take k = p.data.toList.map foldB := List.take_of_length_le (by rw [Hkp.out]; simp)
          rw [e3] at hrow2
          rw [e] at e2 ⊢
          rw [← e2]
          exact hrow2
end Go.Proofs.YtnoeblnljfnecaaGreatDoor
end
section
/- The document's Text, Same, Compare of layer 1; awake. -/
namespace Go.Proofs.YtnoeblnljfnecaaGreatDoor
open Go.RowKit

/-- 'string([]byte{b})' -/
theorem conv_one {P : Program} (W : World) (src dst e : TypeId) (b : UInt8) (hs : P.underlying src = some (.slice e)) (he : P.underlying e = some (.int .u8)) (hd : P.underlying dst = some .string) :
    (convert src dst (.slice (some ⟨W.heap.size, 0, none⟩) 1 1)).run P (W.alloc (.cells #[.int .u8 b.toNat] e)) = .ok (.string (bs [b])) (W.alloc (.cells #[.int .u8 b.toNat] e)) :=
  run_convert_bytes_back (W.alloc (.cells #[.int .u8 b.toNat] e)) src dst e ⟨W.heap.size, 0, none⟩ 1 [b] hs he hd fun j hj => by
    simp at hj
    subst hj
    simp [Addr.add]
theorem bs_append (a b : List UInt8) : bs a ++ bs b = bs (a ++ b) := by
  apply ba_ext
  simp [bs]
theorem foldL_step (s : ByteArray) (k : Nat) (h : k < s.size) : bs (foldL (s.data.toList.take k)) ++ bs [foldB s[k]] = bs (foldL (s.data.toList.take (k + 1))) := by
  rw [bs_append, ba_take s k h, foldL_append]; rfl

set_option maxHeartbeats 1000000 in
theorem reftext (s : ByteArray) (w : World) (hs : s.size ≤ 1000000) :
    Calls Tryz.prog 41 #[.string s] w fun e w' => e = .returned (.string (bs (foldL s.data.toList))) ∧ Below w.heap.size w w' := by
  go_enter Tryz.func41, Tryz.ntmps41
  go_wp2_with fail
  go_loopw [3, 4] (fun t i wr => ∃ k : Nat, k ≤ s.size ∧ i = .int .i64 k ∧ t = .string (bs (foldL (s.data.toList.take k))) ∧ Hid (Below w.heap.size w wr)) (fun _ i _ => s.size - (Go.RowKit.intOf i).toNat)
  case atStart => exact ⟨0, Nat.zero_le _, rfl, rfl, Below.refl _ _⟩
  case round =>
    obtain ⟨k, hk, rfl, rfl, HB⟩ := hrel
    by_cases hlt : k < s.size
    · have hconv := conv_one (P := Tryz.prog) wr 86 9 5 (foldB s[k]) Tryz.underlying86 Tryz.underlying5 Tryz.underlying9
      have hst := foldL_step s k hlt
      have Hst := Lib.hid hst
      clear hst
      have hn : (bs (foldL (s.data.toList.take k))).size ≤ 1000000 := by simp; omega
      go_wp2_with (go_at_call 57; refine (refbyte _ _).mono ?_; rintro e w' ⟨rfl, rfl⟩)
      go_roundw
      case rel => exact ⟨k + 1, by omega, by go_num, by rw [← Hst.out], (HB.out.alloc HB.out.size _)⟩
      case measure => simp [Go.RowKit.intOf]; omega
    · have hkp : k = s.size := by omega
      have Hkp := Lib.hid hkp
      clear hkp
      go_wp2_with fail
      go_ret
      exact ⟨by rw [Hkp.out, List.take_of_length_le (by simp)]; rfl, HB.out⟩

theorem bs_inj {a b : List UInt8} (h : bs a = bs b) : a = b := by
  have := congrArg (fun x : ByteArray => x.data.toList) h
  simpa using this
end Go.Proofs.YtnoeblnljfnecaaGreatDoor
end
section
/- The document's Same and Compare of layer 1. -/
namespace Go.Proofs.YtnoeblnljfnecaaGreatDoor
open Go.RowKit

theorem refsame (a b : ByteArray) (w : World) (ha : a.size ≤ 1000000) (hb : b.size ≤ 1000000) :
    Calls Tryz.prog 24 #[.string a, .string b] w fun e w' => e = .returned (.bool (sameF a.data.toList b.data.toList)) ∧ Below w.heap.size w w' := by
  go_enter Tryz.func24, Tryz.ntmps24
  go_wp2_with fail
  refine (reftext _ _ ha).mono ?_
  rintro e w1 ⟨rfl, hb1⟩
  go_wp2_with fail
  refine (reftext _ _ hb).mono ?_
  rintro e w2 ⟨rfl, hb2⟩
  go_wp2_with fail
  go_ret
  exact ⟨ret_bool (beq_bs _ _), hb1.trans (hb2.mono hb1.size)⟩

theorem less_cmpL : ∀ (x y : List UInt8), Op.bytesLess x y = true ↔ cmpL x y = -1
  | [], [] => by simp [Op.bytesLess, cmpL]
  | [], _ :: _ => by simp [Op.bytesLess, cmpL]
  | _ :: _, [] => by simp [Op.bytesLess, cmpL]
  | a :: x, b :: y => by
    simp only [Op.bytesLess, cmpL, Bool.or_eq_true, decide_eq_true_eq, Bool.and_eq_true, beq_iff_eq, UInt8.lt_iff_toNat_lt]
    by_cases h1 : a.toNat < b.toNat
    · simp [h1]
    · rw [if_neg h1]
      by_cases h2 : b.toNat < a.toNat
      · rw [if_pos h2]
        constructor
        · rintro (h | ⟨rfl, _⟩) <;> omega
        · intro h; cases h
      · rw [if_neg h2, ← less_cmpL x y]
        have : a = b := UInt8.toNat_inj.mp (by omega)
        subst this
        simp
theorem cmpL_three : ∀ (x y : List UInt8), cmpL x y = -1 ∨ cmpL x y = 0 ∨ cmpL x y = 1
  | [], [] => by simp [cmpL]
  | [], _ :: _ => by simp [cmpL]
  | _ :: _, [] => by simp [cmpL]
  | a :: x, b :: y => by
    simp only [cmpL]
    split
    · simp
    · split
      · simp
      · exact cmpL_three x y
theorem cmpF_lt {a b : List UInt8} {x y : ByteArray} (hx : x = bs (foldL a)) (hy : y = bs (foldL b)) (h : Op.bytesLess x.toList y.toList = true) : cmpF a b = -1 := by
  subst hx hy
  rw [ByteArray.toList_eq, ByteArray.toList_eq] at h
  exact (less_cmpL _ _).1 h
theorem cmpF_eq {a b : List UInt8} {x y : ByteArray} (hx : x = bs (foldL a)) (hy : y = bs (foldL b)) (h : (!x.toList == y.toList) = false) : cmpF a b = 0 := by
  subst hx hy
  rw [beq_bs] at h
  simp at h
  exact cmpL_zero.2 h
theorem cmpF_gt {a b : List UInt8} {x y : ByteArray} (hx : x = bs (foldL a)) (hy : y = bs (foldL b)) (h : Op.bytesLess x.toList y.toList = false) (h2 : (!x.toList == y.toList) = true) : cmpF a b = 1 := by
  subst hx hy
  rw [ByteArray.toList_eq, ByteArray.toList_eq] at h
  rw [beq_bs] at h2
  simp at h2
  rcases cmpL_three (foldL a) (foldL b) with h3 | h3 | h3
  · have := (less_cmpL (foldL a) (foldL b)).2 h3
    rw [bs_toList, bs_toList] at h
    rw [h] at this; cases this
  · exact absurd (cmpL_zero.1 h3) h2
  · exact h3

theorem refcompare (a b : ByteArray) (w : World) (ha : a.size ≤ 1000000) (hb : b.size ≤ 1000000) :
    Calls Tryz.prog 39 #[.string a, .string b] w fun e w' => e = .returned (.int .i64 (cmpF a.data.toList b.data.toList)) ∧ Below w.heap.size w w' := by
  go_enter Tryz.func39, Tryz.ntmps39
  go_wp2_with fail
  refine (reftext _ _ ha).mono ?_
  rintro e w1 ⟨rfl, hb1⟩
  go_wp2_with fail
  refine (reftext _ _ hb).mono ?_
  rintro e w2 ⟨rfl, hb2⟩
  obtain ⟨x, hx⟩ : ∃ x, x = bs (foldL a.data.toList) := ⟨_, rfl⟩
  obtain ⟨y, hy⟩ : ∃ y, y = bs (foldL b.data.toList) := ⟨_, rfl⟩
  rw [← hx, ← hy]
  have Hx := Lib.hid hx
  have Hy := Lib.hid hy
  clear hx hy
  go_wp2_with fail
  · go_ret
    exact ⟨ret_int (cmpF_lt Hx.out Hy.out (by assumption)).symm, hb1.trans (hb2.mono hb1.size)⟩
  · go_ret
    exact ⟨ret_int (cmpF_gt Hx.out Hy.out (by assumption) (by assumption)).symm, hb1.trans (hb2.mono hb1.size)⟩
  · go_ret
    exact ⟨ret_int (cmpF_eq Hx.out Hy.out (by assumption)).symm, hb1.trans (hb2.mono hb1.size)⟩
end Go.Proofs.YtnoeblnljfnecaaGreatDoor
end
section
/- Layer 21: mathematics of the lists: names of numbers, each with its folded form. -/
namespace Go.Proofs.YtnoeblnljfnecaaGreatDoor
set_option linter.unusedVariables false
set_option linter.unusedSimpArgs false
open Go Go.RowKit Go.Maps

/-- a key of what is spelled: a number and a folded name -/
abbrev PlK : Type := { p : Int × List UInt8 // (Lit.int .i64 p.1).wf = true ∧ p.2.length ≤ maxLen }
/-- a number and a name -/
abbrev WEnt : Type := Int × List UInt8
def fkW (u : WEnt) : Int × List UInt8 := (u.1, foldL u.2)
def OkW (U : List WEnt) : Prop := ∀ u ∈ U, (Lit.int .i64 u.1).wf = true ∧ u.2.length ≤ 1000
/-- what is spelled, under each key: the entries' names -/
structure SpellW (U : List WEnt) (T : List (PlK × List UInt8)) : Prop where
  nd : (T.map (·.1)).Nodup
  mem : ∀ k v, (k, v) ∈ T ↔ ∃ u ∈ U, fkW u = k.1 ∧ u.2 = v
theorem spell_nil : SpellW [] [] := ⟨by simp, fun k v => by simp⟩
def keyW (u : WEnt) (h1 : (Lit.int .i64 u.1).wf = true) (h2 : u.2.length ≤ 1000) : PlK := ⟨fkW u, h1, by unfold fkW maxLen; simp; omega⟩
theorem SpellW.look {U : List WEnt} {T : List (PlK × List UInt8)} (h : SpellW U T) {k : PlK} {u : WEnt} (hu : u ∈ U) (hk : fkW u = k.1) : lookM T k = some u.2 := mem_lookM h.nd ((h.mem k u.2).2 ⟨u, hu, hk, rfl⟩)
theorem SpellW.put {U : List WEnt} {T : List (PlK × List UInt8)} (h : SpellW U T) {k : PlK} {u : WEnt} (hk : fkW u = k.1) (hn : fkW u ∉ U.map fkW) : SpellW (U ++ [u]) (setM T k u.2) := by
  refine ⟨nodup_setM h.nd k _, fun j v => ?_⟩
  rw [mem_setM, h.mem]
  constructor
  · rintro (⟨⟨x, hx, h1, h2⟩, h3⟩ | e)
    · exact ⟨x, List.mem_append_left _ hx, h1, h2⟩
    · obtain ⟨rfl, rfl⟩ := Prod.mk.inj e
      exact ⟨u, by simp, hk, rfl⟩
  · rintro ⟨x, hx, h1, h2⟩
    rcases List.mem_append.1 hx with hx | hx
    · refine .inl ⟨⟨x, hx, h1, h2⟩, fun e => hn ?_⟩
      have e2 : j = k := e
      rw [hk, ← e2, ← h1]
      exact List.mem_map_of_mem hx
    · rw [List.mem_singleton] at hx
      subst hx
      refine .inr ?_
      have : j = k := Subtype.ext (h1.symm.trans hk)
      rw [this, h2]
theorem SpellW.del {U : List WEnt} {T : List (PlK × List UInt8)} (h : SpellW U T) (k : PlK) : SpellW (U.filter fun u => decide (fkW u ≠ k.1)) (delM T k) := by
  refine ⟨nodup_delM h.nd k, fun j v => ?_⟩
  rw [mem_delM, h.mem]
  simp only [List.mem_filter, decide_eq_true_eq]
  constructor
  · rintro ⟨⟨x, hx, h1, h2⟩, h3⟩
    exact ⟨x, ⟨hx, fun e => h3 (Subtype.ext (h1.symm.trans e))⟩, h1, h2⟩
  · rintro ⟨x, ⟨hx, h4⟩, h1, h2⟩
    exact ⟨⟨x, hx, h1, h2⟩, fun e => h4 (by have e2 : j = k := e; rw [h1, e2])⟩
theorem SpellW.len {U : List WEnt} {T : List (PlK × List UInt8)} (h : SpellW U T) : T.length ≤ U.length := by
  have h1 := nodup_len (A := T.map fun p => p.1.1) (B := U.map fkW) (by
    have := h.nd
    rw [show (T.map fun p => p.1.1) = (T.map (·.1)).map (·.1) by rw [List.map_map]; rfl]
    exact List.Pairwise.map _ (fun a b h e => h (Subtype.ext e)) this) fun x hx => by
      obtain ⟨p, hp, rfl⟩ := List.mem_map.1 hx
      obtain ⟨u, hu, h2, _⟩ := (h.mem p.1 p.2).1 hp
      rw [← h2]
      exact List.mem_map_of_mem hu
  simpa using h1
/-- those of a number's whose folded name isn't that -/
theorem fk_less (U : List WEnt) (a : Int) (b : List UInt8) : (U.filter fun u => decide (fkW u ≠ (a, b))).map fkW = lessLIS (U.map fkW) a b := by
  unfold lessLIS
  rw [List.filter_map]
  rfl
theorem fk_drop (U : List WEnt) (a : Int) : (U.filter fun u => decide (u.1 ≠ a)).map fkW = (U.map fkW).filter fun p => decide (p.1 ≠ a) := by
  rw [List.filter_map]
  rfl
/-- the names of a number, by the order of their folded forms -/
structure NamesW (U : List WEnt) (a : Int) (ns : List (List UInt8)) : Prop where
  up : (ns.map foldL).Pairwise (· < ·)
  mem : ∀ n, n ∈ ns ↔ (a, n) ∈ U
theorem names_one {U : List WEnt} (hn : (U.map fkW).Nodup) {a : Int} {ns ms : List (List UInt8)} (h1 : NamesW U a ns) (h2 : NamesW U a ms) : ns = ms := by
  have e : ns.map foldL = ms.map foldL := up_extS h1.up h2.up fun x => by
    simp only [List.mem_map]
    constructor
    · rintro ⟨n, hx, rfl⟩; exact ⟨n, (h2.mem n).2 ((h1.mem n).1 hx), rfl⟩
    · rintro ⟨n, hx, rfl⟩; exact ⟨n, (h1.mem n).2 ((h2.mem n).1 hx), rfl⟩
  have inj : ∀ x ∈ ns, ∀ y ∈ ms, foldL x = foldL y → x = y := fun x hx y hy hf => by
    have a1 := (h1.mem x).1 hx
    have a2 := (h2.mem y).1 hy
    have : ∀ {V : List WEnt}, (V.map fkW).Nodup → ∀ p ∈ V, ∀ q ∈ V, fkW p = fkW q → p = q := by
      intro V
      induction V with
      | nil => intro _ p hp; cases hp
      | cons z r ih =>
        intro hV p hp q hq hpq
        rw [List.map_cons, List.nodup_cons] at hV
        rcases List.mem_cons.1 hp with e1 | hp2
        · rcases List.mem_cons.1 hq with e2 | hq2
          · rw [e1, e2]
          · exact absurd (by rw [← e1, hpq]; exact List.mem_map_of_mem hq2) hV.1
        · rcases List.mem_cons.1 hq with e2 | hq2
          · exact absurd (by rw [← e2, ← hpq]; exact List.mem_map_of_mem hp2) hV.1
          · exact ih hV.2 p hp2 q hq2 hpq
    exact (Prod.mk.inj (this hn _ a1 _ a2 (by unfold fkW; rw [hf]))).2
  have key : ∀ (xs ys : List (List UInt8)), (∀ x ∈ xs, ∀ y ∈ ys, foldL x = foldL y → x = y) → xs.map foldL = ys.map foldL → xs = ys := by
    intro xs
    induction xs with
    | nil => intro ys _ h; cases ys with | nil => rfl | cons _ _ => cases h
    | cons x r ih =>
      intro ys hi h
      cases ys with
      | nil => cases h
      | cons y s =>
        rw [List.map_cons, List.map_cons] at h
        obtain ⟨h3, h4⟩ := List.cons.inj h
        rw [hi x (by simp) y (by simp) h3, ih s (fun a ha b hb => hi a (by simp [ha]) b (by simp [hb])) h4]
  exact key ns ms inj e
end Go.Proofs.YtnoeblnljfnecaaGreatDoor
end
section
/- Regions that draw their order, walked op by op in one way: what is held may grow on the way. -/
namespace Go.Proofs.YtnoeblnljfnecaaGreatDoor
open Go Go.RowKit

section
variable {P : Program} {md : Region.Mode} {ops : Array Oper} {Q : Exit → Act → World → Prop} {S T : World → Prop}
/-- what is held may be more from here on -/
theorem wpAnyH_more (hST : ∀ w, T w → S w) : ∀ (fuel : Nat) (listed : Array Bool) (a : Act) (w : World), wpAnyH P md ops Q T fuel listed a w → wpAnyH P md ops Q S fuel listed a w
  | 0, _, _, _, h => h
  | fuel + 1, _, _, _, h => ⟨h.1, fun i hi => wpOp_mono (fun a' w' h' => ⟨hST w' h'.1, wpAnyH_more hST fuel _ a' w' h'.2⟩) (h.2 i hi)⟩
/-- one alone may come up: a call, a store -/
theorem wpAnyH_one {i : Nat} {o : Oper} {fuel : Nat} {listed : Array Bool} {a : Act} {w : World} (hr : Region.ready md ops listed = [i]) (ho : ops[i]? = some o) (hw : Region.wanted o (yielded ops a.tmps) = true)
    (h : ∀ K' : Act → World → Prop, Shut (∀ a w, S w → (S w → wpAnyH P md ops Q S fuel (listed.setIfInBounds i true) a w) → K' a w) → Oper.wp P o a w K' Q) : wpAnyH P md ops Q S (fuel + 1) listed a w :=
  wpAnyH_ready hr (by simp) (AllReadyH.cons ho (fun K hK => by rw [if_pos hw]; exact h K hK) AllReadyH.nil)
/-- what yields in every world that is held -/
theorem wpAnyH_read {i : Nat} {oi : Oper} (v : Value) {fuel : Nat} {listed : Array Bool} {a : Act} {w : World} (hi : ops[i]? = some oi)
    (hs : Region.noSelect ops = true) (hf : Region.free md ops listed i = true) (hr : (Region.ready md ops listed).contains i = true)
    (hQ : ∀ c a w, Q (.panic c) (a.put oi.dst v) w → Q (.panic c) a w) (hw : Region.wanted oi (yielded ops a.tmps) = true) (hS : S w)
    (hy : ∀ w, S w → (execOp a.eval oi).run P w = .ok (.value v) w)
    (h : wpAnyH P md ops Q S fuel (listed.setIfInBounds i true) (a.put oi.dst v) w) : wpAnyH P md ops Q S (fuel + 1) listed a w :=
  wpAnyH_take hi hs hf hr hQ (Or.inl ⟨hw, hy⟩) hS h
/-- what is guarded, and not wanted -/
theorem wpAnyH_pass {i : Nat} {oi : Oper} {fuel : Nat} {listed : Array Bool} {a : Act} {w : World} (hi : ops[i]? = some oi)
    (hs : Region.noSelect ops = true) (hf : Region.free md ops listed i = true) (hr : (Region.ready md ops listed).contains i = true)
    (hQ : ∀ c a w, Q (.panic c) (a.put oi.dst undef) w → Q (.panic c) a w) (hw : Region.wanted oi (yielded ops a.tmps) = false) (hS : S w)
    (h : wpAnyH P md ops Q S fuel (listed.setIfInBounds i true) (a.put oi.dst undef) w) : wpAnyH P md ops Q S (fuel + 1) listed a w :=
  wpAnyH_take hi hs hf hr hQ (Or.inr ⟨hw, rfl⟩) hS h
end
end Go.Proofs.YtnoeblnljfnecaaGreatDoor
end
section
/- Regions that draw their order, whose last operation (number z: a store) waits for what reads: what is held need not hold behind it. -/
namespace Go.Proofs.YtnoeblnljfnecaaGreatDoor
open Go Go.RowKit

/-- does z wait for i? -/
def waitsFor (md : Region.Mode) (ops : Array Oper) (z i : Nat) : Bool := match ops[z]? with
  | some o => o.after.any fun e => Region.binds md e && e.on == i
  | none => false
section
variable {P : Program} {md : Region.Mode} {ops : Array Oper} {Q : Exit → Act → World → Prop} {S : World → Prop} {z : Nat}
/-- whatever order is picked; S holds behind all but z -/
def wpAnyZ (P : Program) (md : Region.Mode) (ops : Array Oper) (Q : Exit → Act → World → Prop) (S : World → Prop) (z : Nat) : Nat → Array Bool → Act → World → Prop
  | 0, listed, a, w => Region.ready md ops listed = [] ∧ Q .normal a w
  | fuel + 1, listed, a, w => (Region.ready md ops listed = [] → Q .normal a w) ∧
    ∀ i ∈ Region.ready md ops listed, wpOp P ops Q i (fun a' w' => (i ≠ z → S w') ∧ wpAnyZ P md ops Q S z fuel (listed.setIfInBounds i true) a' w') a w
theorem wpAny_of_z : ∀ (fuel : Nat) (listed : Array Bool) (a : Act) (w : World), wpAnyZ P md ops Q S z fuel listed a w → wpAny P md ops Q fuel listed a w
  | 0, _, _, _, h => h
  | fuel + 1, _, _, _, h => ⟨h.1, fun i hi => wpOp_mono (fun _ _ h' => wpAny_of_z fuel _ _ _ h'.2) (h.2 i hi)⟩
theorem waits_not {i j : Nat} {listed : Array Bool} (hz : waitsFor md ops z i = true) (hr : i ∈ Region.ready md ops listed) (hj : j ∈ Region.ready md ops listed) : j ≠ z := by
  rintro rfl
  obtain ⟨_, oj, hoj, hall⟩ := mem_ready.1 hj
  unfold waitsFor at hz
  rw [hoj] at hz
  simp only [Array.any_eq_true'] at hz
  obtain ⟨e, he, hb⟩ := hz
  rw [Bool.and_eq_true, beq_iff_eq] at hb
  have h1 := hall e he hb.1
  have h0 := (mem_ready.1 hr).1
  rw [hb.2] at h1
  rcases Nat.lt_or_ge i listed.size with h' | h'
  · simp [h'] at h0 h1; rw [h0] at h1; cases h1
  · simp [Array.getElem?_eq_none h'] at h1
theorem wpAnyZ_first {i : Nat} {oi : Oper} {v : Value} (hi : ops[i]? = some oi) (hsel : ∀ (j : Nat) (o : Oper) cs b, ops[j]? = some o → o.op ≠ .select cs b)
    (hQ : ∀ c a w, Q (.panic c) (a.put oi.dst v) w → Q (.panic c) a w) (hz : waitsFor md ops z i = true) : ∀ (fuel : Nat) (listed : Array Bool) (a : Act) (w : World),
      (∀ j oj, ops[j]? = some oj → j ≠ i → listed.getD j true = false → (∀ e ∈ oj.after, Region.binds md e = true → e.on ≠ i) → oi.apart ops oj = true) →
      i ∈ Region.ready md ops listed → YieldsIf P ops S oi v a → S w → wpAnyZ P md ops Q S z fuel (listed.setIfInBounds i true) (a.put oi.dst v) w → wpAnyZ P md ops Q S z (fuel + 1) listed a w := by
  intro fuel
  induction fuel with
  | zero =>
    intro listed a w _ hr hy hS H
    refine ⟨fun h => (by rw [h] at hr; cases hr), fun j hj => ?_⟩
    by_cases hji : j = i
    · subst hji
      exact hy.wpOp hi hS ⟨fun _ => hS, H⟩
    · have h1 := ready_mono hj hji
      rw [H.1] at h1
      cases h1
  | succ fuel ih =>
    intro listed a w hfree hr hy hS H
    refine ⟨fun h => (by rw [h] at hr; cases hr), fun j hj => ?_⟩
    by_cases hji : j = i
    · subst hji
      exact hy.wpOp hi hS ⟨fun _ => hS, H⟩
    · have hjz := waits_not hz hr hj
      have h1 := H.2 j (ready_mono hj hji)
      obtain ⟨hjun, oj, hoj, hall⟩ := mem_ready.1 hj
      have hnot : ∀ e ∈ oj.after, Region.binds md e = true → e.on ≠ i := fun e he hb heq => by
        have h1 := hall e he hb
        have h0 := (mem_ready.1 hr).1
        rw [heq] at h1
        rcases Nat.lt_or_ge i listed.size with h' | h'
        · simp [h'] at h0 h1; rw [h0] at h1; cases h1
        · simp [Array.getElem?_eq_none h'] at h1
      have h2 := wpOp_putIf hoj (hfree j oj hoj hji hjun hnot) (fun cs b => hsel i oi cs b hi) (fun cs b => hsel j oj cs b hoj) hQ hy h1
      refine wpOp_mono (fun a' w' h3 => ⟨h3.2.1, ih (listed.setIfInBounds j true) a' w' (fun k ok hk hki hun hno => hfree k ok hk hki ?_ hno) (ready_mono hr (Ne.symm hji)) h3.1 (h3.2.1 hjz) ?_⟩) h2
      · by_cases hjk : j = k
        · subst hjk; exact hjun
        · rw [getD_set_ne true hjk] at hun; exact hun
      · rw [Array.setIfInBounds_comm _ _ hji]
        exact h3.2.2
/-- what yields in every world that is held -/
theorem wpAnyZ_read {i : Nat} {oi : Oper} (v : Value) {fuel : Nat} {listed : Array Bool} {a : Act} {w : World} (hi : ops[i]? = some oi)
    (hs : Region.noSelect ops = true) (hf : Region.free md ops listed i = true) (hr : (Region.ready md ops listed).contains i = true) (hz : waitsFor md ops z i = true)
    (hQ : ∀ c a w, Q (.panic c) (a.put oi.dst v) w → Q (.panic c) a w) (hw : Region.wanted oi (yielded ops a.tmps) = true) (hS : S w)
    (hy : ∀ w, S w → (execOp a.eval oi).run P w = .ok (.value v) w)
    (h : wpAnyZ P md ops Q S z fuel (listed.setIfInBounds i true) (a.put oi.dst v) w) : wpAnyZ P md ops Q S z (fuel + 1) listed a w :=
  wpAnyZ_first hi (Region.noSelect_spec hs) hQ hz fuel listed a w (Region.free_spec hi hf) (by simpa using hr) (Or.inl ⟨hw, hy⟩) hS h
/-- one alone may come up: a call, a slice that is made -/
theorem wpAnyZ_one {i : Nat} {o : Oper} {fuel : Nat} {listed : Array Bool} {a : Act} {w : World} (hr : Region.ready md ops listed = [i]) (ho : ops[i]? = some o) (hw : Region.wanted o (yielded ops a.tmps) = true)
    (h : ∀ K' : Act → World → Prop, Shut (∀ a w, S w → (S w → wpAnyZ P md ops Q S z fuel (listed.setIfInBounds i true) a w) → K' a w) → Oper.wp P o a w K' Q) : wpAnyZ P md ops Q S z (fuel + 1) listed a w :=
  ⟨fun h0 => absurd (hr ▸ h0) (by simp), by
    rw [hr]
    intro j hj
    obtain rfl := List.mem_singleton.1 hj
    exact wpOp_step ho fun K' hK => by rw [if_pos hw]; exact h K' fun a w hS hW => hK a w ⟨fun _ => hS, hW hS⟩⟩
/-- z comes up -/
theorem wpAnyZ_last {o : Oper} {fuel : Nat} {listed : Array Bool} {a : Act} {w : World} (hr : Region.ready md ops listed = [z]) (ho : ops[z]? = some o) (hw : Region.wanted o (yielded ops a.tmps) = true)
    (h : ∀ K' : Act → World → Prop, Shut (∀ a w, wpAnyZ P md ops Q S z fuel (listed.setIfInBounds z true) a w → K' a w) → Oper.wp P o a w K' Q) : wpAnyZ P md ops Q S z (fuel + 1) listed a w :=
  ⟨fun h0 => absurd (hr ▸ h0) (by simp), by
    rw [hr]
    intro j hj
    obtain rfl := List.mem_singleton.1 hj
    exact wpOp_step ho fun K' hK => by rw [if_pos hw]; exact h K' fun a w hW => hK a w ⟨fun e => absurd rfl e, hW⟩⟩
theorem wpAnyZ_done {listed : Array Bool} {a : Act} {w : World} (hr : Region.ready md ops listed = []) (h : Q .normal a w) : ∀ fuel, wpAnyZ P md ops Q S z fuel listed a w
  | 0 => ⟨hr, h⟩
  | _ + 1 => ⟨fun _ => h, by rw [hr]; simp⟩
theorem wp_region_z (S : World → Prop) (z : Nat) {id : Nat} {a : Act} {w : World} (hm : P.follows .mixedOrders = true) (hS : S w.drew)
    (h : S w.drew → wpAnyZ P .any ops Q S z ops.size (Array.replicate ops.size false) a w.drew) : (Code.region id ops true).wp P Q a w :=
  wp_region_any hm (wpAny_of_z _ _ _ _ (h hS))
/-- append whose run is known -/
theorem wp_app_run {P : Program} {W W' : World} {o : Oper} {a : Act} {K : Act → World → Prop} {Q : Exit → Act → World → Prop} (s x : Operand) (t tx : TypeId)
    (ho : o.op = .call { callee := .builtin .append, args := #[s, x], argTypes := #[t, tx] }) {v : Value} (hr : (Builtin.append_ #[t, tx] o.type #[a.eval s, a.eval x]).run P W = .ok v W') (h : K (a.put o.dst v) W') : Oper.wp P o a W K Q := by
  unfold Oper.wp execOp
  simp only [ho, resolve, invoke, builtin, Sem.run_bind, Sem.run_pure, Result.andThen_ok, List.map_toArray, List.map_cons, List.map_nil, hr]
  exact h
end
end Go.Proofs.YtnoeblnljfnecaaGreatDoor
end
section
/- Layer 10: Union. -/
namespace Go.Proofs.YtnoeblnljfnecaaGreatDoor
set_option linter.unusedVariables false
set_option linter.unusedSimpArgs false
open Go Go.RowKit Go.Lib Go.Sort Go.Shelf

theorem Tryz.infoFn : (Tryz.prog.info? 75).map (fun i => (i.zero, i.size, i.bytes)) = some (some .nilFunc, 1, 8) := by kernel_rfl
/-- a row of functions -/
def OwnF (base : Nat) (W : World) (v : Value) (Fs : List Value) : Prop := W.ownsRow base 75 1 v Fs.length Fs
theorem own_type {W : World} {base : Nat} {e : TypeId} {size : Nat} {v : Value} {n : Nat} {xs : List Value} (hown : W.ownsRow base e size v n xs) (k : Nat) (hk : v.ownBlock = some k) : ∃ cur, W.heap[k]? = some (.cells cur e (0, 0)) := by
  rcases hown.2 with ⟨rfl, _⟩ | ⟨g, cap, cur, rfl, _, h3, _⟩
  · cases hk
  · cases hk; exact ⟨_, h3⟩
theorem tale_fr {base b : Nat} {w w' : World} {F v : Value} {xs : List Int} {ys : List Value} {n : Nat} (h : TaleAt base w F xs) (ho : w.ownsRow b 75 1 v n ys) (hf : Fr (fun k => v.ownBlock = some k) w w') : TaleAt base w' F xs := by
  obtain ⟨B, u, h0, h1, h2, h3, h4⟩ := h
  refine ⟨B, u, h0, h1, hf.blk h2 fun e => ?_, h3, own_kept h4 fun g hg => hf.block g (h4.lt g hg).2 fun e => ?_⟩
  · obtain ⟨c1, k1⟩ := own_type ho B e
    rw [h2] at k1; cases k1
  · obtain ⟨c1, k1⟩ := own_type ho g e
    obtain ⟨c2, k2⟩ := own_type h4 g hg
    rw [k1] at k2; cases k2
theorem tale_base {base base' : Nat} {w : World} {F : Value} {xs : List Int} (h : TaleAt base w F xs) (hb : base' ≤ base) : TaleAt base' w F xs := by
  obtain ⟨B, u, h0, h1, h2, h3, h4⟩ := h
  exact ⟨B, u, Nat.le_trans hb h0, h1, h2, h3, row_base' h4 hb⟩
/-- a pointer to a set, or none -/
def PtrAt (w : World) (p : Value) (xs : List Int) : Prop := (p = .pointer none ∧ xs = []) ∨ ∃ s ob base, p = .pointer (some ⟨s, 0, none⟩) ∧ SetAt base w s ob xs
theorem ptr_below {w W : World} {p : Value} {xs : List Int} (h : PtrAt w p xs) (hb : Below w.heap.size w W) : PtrAt W p xs := by
  rcases h with h | ⟨s, ob, base, h1, h2⟩
  · exact .inl h
  · exact .inr ⟨s, ob, base, h1, set_below h2 hb⟩
theorem ptr_all {w : World} {p : Value} {xs : List Int} (h : PtrAt w p xs) (hl : xs.length ≤ 1000000) : Calls Tryz.prog 71 #[p] w (AllP xs w) := by
  rcases h with ⟨rfl, rfl⟩ | ⟨s, ob, base, rfl, h2⟩
  · exact set_all_nil w
  · exact set_all h2 hl
/-- the tales so far -/
def UniG (w : World) (xss : List (List Int)) (k : Nat) (v : Value) (W : World) : Prop :=
  (∃ Fs : List Value, Fs.length = k ∧ OwnF w.heap.size W v Fs ∧ ∀ (j : Nat) (F : Value), Fs[j]? = some F → ∃ xs, xss[j]? = some xs ∧ TaleAt w.heap.size W F xs) ∧ Below w.heap.size w W
end Go.Proofs.YtnoeblnljfnecaaGreatDoor
end
section
/- Layer 10: the document's Same; sets that are none. -/
namespace Go.Proofs.YtnoeblnljfnecaaGreatDoor
set_option linter.unusedVariables false
set_option linter.unusedSimpArgs false
open Go Go.RowKit Go.Lib Go.Sort Go.Shelf

set_option maxHeartbeats 4000000 in
theorem same10_eq {w : World} (A B : Option Addr) (xs ys : List Int) (c d : Nat) (hlen : xs.length = ys.length) (hl : xs.length ≤ 1000000) (hA : ReadsI w A xs) (hB : ReadsI w B ys) :
    Calls Tryz.prog 22 #[.slice A xs.length c, .slice B ys.length d] w fun e w' => e = .returned (.bool (decide (xs = ys))) ∧ ∃ n, w' = w.drewN n := by
  have HA := Lib.hid hA
  have HB := Lib.hid hB
  have HL := Lib.hid hlen
  have hne : ((xs.length : Int) != (ys.length : Int)) = false := by rw [hlen]; simp
  clear hA hB hlen
  go_enter Tryz.func22, Tryz.ntmps22
  go_wp2_with fail
  go_loopw [5] (fun i wr => ∃ k : Nat, i = .int .i64 k ∧ k ≤ xs.length ∧ Hid (xs.take k = ys.take k ∧ ∃ n, wr = w.drewN n)) (fun i _ => xs.length - (Go.RowKit.intOf i).toNat)
  case atStart => exact ⟨0, rfl, Nat.zero_le _, rfl, 0, rfl⟩
  case round =>
    obtain ⟨k, rfl, hk, HQ⟩ := hrel
    by_cases hlt : k < xs.length
    · have hlt2 : k < ys.length := by have := HL.out; omega
      have hcell : ∀ p, wr.cell? p = w.cell? p := fun p => by obtain ⟨n, rfl⟩ := HQ.out.2; rfl
      obtain ⟨g, o, rfl, _, ha⟩ := HA.out (by omega)
      obtain ⟨g2, o2, rfl, _, hb⟩ := HB.out (by omega)
      have a1 := ha k hlt
      have b1 := hb k hlt2
      rw [← hcell] at a1 b1
      obtain ⟨x, hx⟩ : ∃ x, xs[k] = x := ⟨_, rfl⟩
      obtain ⟨y, hy⟩ : ∃ y, ys[k] = y := ⟨_, rfl⟩
      rw [hx] at a1
      rw [hy] at b1
      obtain ⟨eb, heb⟩ : ∃ eb, (x != y) = eb := ⟨_, rfl⟩
      have HE := Lib.hid (And.intro hx (And.intro hy heb))
      have hbb := heb
      clear hcell ha hb hx hy heb
      have p1 : (k : Int) < (xs.length : Int) := by omega
      have p2 : (k : Int) < (ys.length : Int) := by omega
      go_wp2_with fail
      go_quiet (fail)
      all_goals go_wp2_with fail
      · rename_i hx
        have hd : decide (xs = ys) = false := by
          rw [decide_eq_false_iff_not]
          intro e
          obtain ⟨h1, h2, h3⟩ := HE.out
          subst e
          rw [← h1, ← h2] at h3
          simp at h3
          subst h3
          cases hx
        obtain ⟨_, n, hn⟩ := HQ.out
        rw [hd]
        subst hn
        go_ret
        exact ⟨rfl, _, by rw [World.drewN_drewN]⟩
      · rename_i hx
        have h3 : xs[k] = ys[k] := by
          obtain ⟨h1, h2, h3⟩ := HE.out
          rw [h1, h2]
          have : (x != y) = false := by rw [h3]; simpa using hx
          simpa using this
        have h4 : xs.take (k + 1) = ys.take (k + 1) := by
          rw [List.take_succ_eq_append_getElem hlt, List.take_succ_eq_append_getElem hlt2, HQ.out.1, h3]
        obtain ⟨_, n, hn⟩ := HQ.out
        exact ⟨⟨k + 1, by go_num, by omega, h4, n + nq, by subst hn; rw [World.drewN_drewN]⟩, by simp [Go.RowKit.intOf]; omega⟩
    · obtain rfl : k = xs.length := by omega
      have hab : xs = ys := by
        have := HQ.out.1
        rw [List.take_of_length_le (Nat.le_refl _), List.take_of_length_le (by have := HL.out; omega)] at this
        exact this
      have hd : decide (xs = ys) = true := by simp [hab]
      obtain ⟨_, n, hn⟩ := HQ.out
      have p1 : ¬ ((xs.length : Int) < (xs.length : Int)) := by omega
      subst hn
      go_wp2_with fail
      go_ret
      exact ⟨rfl, _, rfl⟩
theorem set_add_nil (A : Option Addr) (l c : Nat) (w : World) : Calls Tryz.prog 69 #[.pointer none, .slice A l c] w fun e w' => e = .returned (.int .i64 0) ∧ w' = w := by
  go_enter Tryz.func69, Tryz.ntmps69
  go_wp2_with fail
  go_ret
  exact ⟨rfl, rfl⟩
theorem set_rem_nil (A : Option Addr) (l c : Nat) (w : World) : Calls Tryz.prog 63 #[.pointer none, .slice A l c] w fun e w' => e = .returned (.int .i64 0) ∧ w' = w := by
  go_enter Tryz.func63, Tryz.ntmps63
  go_wp2_with fail
  go_ret
  exact ⟨rfl, rfl⟩

def WithP (w : World) (e : Ending) (w' : World) : Prop := (∃ F, e = .returned F ∧ Tells w' F []) ∧ Below w.heap.size w w'
end Go.Proofs.YtnoeblnljfnecaaGreatDoor
end
section
/- Layer 10: awake. -/
namespace Go.Proofs.YtnoeblnljfnecaaGreatDoor
set_option linter.unusedVariables false
set_option linter.unusedSimpArgs false
open Go Go.RowKit Go.Lib Go.Sort Go.Shelf

theorem set_of' {w : World} (A : Option Addr) (xs : List Int) (n c : Nat) (hn : xs.length = n) (hl : xs.length ≤ 1000000) (hr : ReadsI w A xs) (zs : List Int) (hz : normI xs = zs) :
    Calls Tryz.prog 68 #[.slice A n c] w (OfP zs w) := by
  subst hn; subst hz
  exact set_of A xs c hl hr (normI_ok xs).1
theorem reads_new {w : World} {cs : Array Value} {xs : List Int} (h : ∀ j (h : j < xs.length), cs[j]? = some (.int .i64 xs[j])) : ReadsI (w.alloc (.cells cs 3)) (some ⟨w.heap.size, 0, none⟩) xs := fun _ =>
  ⟨_, _, rfl, by simp, fun j hj => by rw [Nat.zero_add, blk_cell (heap_alloc_new w _) j]; exact h j hj⟩
theorem reads_own {base : Nat} {w : World} {A : Option Addr} {n c : Nat} {xs : List Int} (h : OwnI base w (.slice A n c) xs) : ReadsI w A xs := fun h0 => by
  rcases h.2 with ⟨h1, h2⟩ | ⟨g, cap, cur, h1, h3, h4, h5, _, h6, h7⟩
  · omega
  · injection h1 with q1 q2 q3
    subst q1
    rw [Nat.mul_one] at h7
    refine ⟨g, 0, rfl, blk_lt h4, fun j hj => ?_⟩
    rw [Nat.zero_add, blk_cell h4 j, own_get (base := 0) (w := w) (cap := 0) h4 h7 j hj]
theorem same10 {w : World} (A B : Option Addr) (xs ys : List Int) (n m c d : Nat) (hn : xs.length = n) (hm : ys.length = m) (hlen : n = m) (hl : xs.length ≤ 1000000) (hA : ReadsI w A xs) (hB : ReadsI w B ys) :
    Calls Tryz.prog 22 #[.slice A n c, .slice B m d] w fun e w' => e = .returned (.bool (decide (xs = ys))) ∧ ∃ n, w' = w.drewN n := by
  subst hn; subst hm
  exact same10_eq A B xs ys c d hlen hl hA hB

end Go.Proofs.YtnoeblnljfnecaaGreatDoor
end
section
/- Layer 10: the document's Has, Remove, Add. -/
namespace Go.Proofs.YtnoeblnljfnecaaGreatDoor
set_option linter.unusedVariables false
set_option linter.unusedSimpArgs false
open Go Go.RowKit Go.Lib Go.Sort Go.Shelf

set_option maxHeartbeats 4000000 in
theorem has10 {w : World} (A : Option Addr) (xs : List Int) (c : Nat) (x : Int) (hl : xs.length ≤ 1000000) (hA : ReadsI w A xs) :
    Calls Tryz.prog 25 #[.slice A xs.length c, .int .i64 x] w fun e w' => e = .returned (.bool (xs.contains x)) ∧ w' = w := by
  have HA := Lib.hid hA
  obtain ⟨b, hb⟩ : ∃ b, xs.contains x = b := ⟨_, rfl⟩
  rw [hb]
  have HB := Lib.hid hb
  clear hA hb
  go_enter Tryz.func25, Tryz.ntmps25
  go_wp2_with fail
  go_loopw [5] (fun i wr => ∃ k : Nat, i = .int .i64 k ∧ k ≤ xs.length ∧ Hid ((xs.take k).contains x = false) ∧ wr = w) (fun i _ => xs.length - (Go.RowKit.intOf i).toNat)
  case atStart => exact ⟨0, rfl, Nat.zero_le _, rfl, rfl⟩
  case round =>
    obtain ⟨k, rfl, hk, HQ, rfl⟩ := hrel
    by_cases hlt : k < xs.length
    · obtain ⟨g, o, rfl, _, ha⟩ := HA.out (by omega)
      have a1 := ha k hlt
      have htk : xs[k] ≠ x → (xs.take (k + 1)).contains x = false := fun e => by
        have h1 : x ∉ xs.take k := by simpa using HQ.out
        have h2 : x ∉ xs.take (k + 1) := by
          rw [List.take_succ_eq_append_getElem hlt, List.mem_append, List.mem_singleton, not_or]
          exact ⟨h1, fun h => e h.symm⟩
        simpa using h2
      obtain ⟨y, hy⟩ : ∃ y, xs[k] = y := ⟨_, rfl⟩
      have hmem : xs[k] ∈ xs := List.getElem_mem hlt
      rw [hy] at a1 htk hmem
      have p1 : (k : Int) < (xs.length : Int) := by omega
      by_cases e : y = x
      · subst e
        have hbt : b = true := by rw [← HB.out]; simpa using hmem
        clear ha htk hy hmem
        go_wp2_with fail
        go_ret
        exact ⟨by first | rfl | (rw [hbt]; rfl), rfl⟩
      · have he : (y == x) = false := by simpa using e
        have HT := Lib.hid (htk e)
        clear ha htk hy hmem
        go_wp2_with fail
        go_roundw
        case rel => exact ⟨k + 1, by go_num, by omega, HT, by first | rfl | trivial⟩
        case measure => simp [Go.RowKit.intOf]; omega
    · obtain rfl : k = xs.length := by omega
      have hbt : b = false := by have := HQ.out; rw [List.take_length, HB.out] at this; exact this
      have p1 : ¬ ((xs.length : Int) < (xs.length : Int)) := by omega
      go_wp2_with fail
      go_ret
      exact ⟨by first | rfl | (rw [hbt]; rfl), rfl⟩
/-- a row of the call's own, handed back -/
def RowP (base : Nat) (zs : List Int) (w : World) (e : Ending) (w' : World) : Prop := (∃ v', e = .returned v' ∧ OwnI base w' v' zs) ∧ Below w.heap.size w w'
end Go.Proofs.YtnoeblnljfnecaaGreatDoor
end
section
/- Layer 10: the document's Add. -/
namespace Go.Proofs.YtnoeblnljfnecaaGreatDoor
set_option linter.unusedVariables false
set_option linter.unusedSimpArgs false
open Go Go.RowKit Go.Lib Go.Sort Go.Shelf

/-- what Add has built behind k of the numbers -/
def addZ (xs : List Int) (x : Int) (k : Nat) : List Int := if k ≤ xs.countP (· < x) then xs.take k else xs.take (xs.countP (· < x)) ++ x :: (xs.take k).drop (xs.countP (· < x))
theorem addZ_len (xs : List Int) (x : Int) (k : Nat) : (addZ xs x k).length ≤ xs.length + 1 := by
  unfold addZ
  split
  · rw [List.length_take]; omega
  · rw [List.length_append, List.length_cons, List.length_drop, List.length_take, List.length_take]; omega
theorem addZ_low {xs : List Int} {x : Int} {k : Nat} (h : k < xs.countP (· < x)) (hk : k < xs.length) : addZ xs x (k + 1) = addZ xs x k ++ [xs[k]] := by
  unfold addZ
  rw [if_pos (by omega), if_pos (by omega), List.take_succ_eq_append_getElem hk]
theorem addZ_at {xs : List Int} {x : Int} {k : Nat} (h : k = xs.countP (· < x)) (hk : k < xs.length) : addZ xs x (k + 1) = (addZ xs x k ++ [x]) ++ [xs[k]] := by
  unfold addZ
  rw [if_neg (by omega), if_pos (by omega), ← h, List.take_succ_eq_append_getElem hk, List.drop_append_of_le_length (by rw [List.length_take]; omega), List.drop_of_length_le (by rw [List.length_take]; omega)]
  simp
theorem addZ_high {xs : List Int} {x : Int} {k : Nat} (h : xs.countP (· < x) < k) (hk : k < xs.length) : addZ xs x (k + 1) = addZ xs x k ++ [xs[k]] := by
  unfold addZ
  rw [if_neg (by omega), if_neg (by omega), List.take_succ_eq_append_getElem hk, List.drop_append_of_le_length (by rw [List.length_take]; omega), List.append_assoc, List.cons_append]
theorem addZ_end (xs : List Int) (x : Int) (h : xs.contains x = false) : insI xs x = if xs.countP (· < x) < xs.length then addZ xs x xs.length else addZ xs x xs.length ++ [x] := by
  have hc := countP_le xs x
  unfold insI addZ
  rw [h, if_neg Bool.false_ne_true]
  by_cases e : xs.countP (· < x) < xs.length
  · rw [if_pos e, if_neg (by omega), List.take_length]
  · have e2 : xs.countP (· < x) = xs.length := by omega
    rw [if_neg e, if_pos (by omega), e2, List.take_length, List.drop_length]
theorem low_lt {xs : List Int} (h : xs.Pairwise (· < ·)) {x : Int} {k : Nat} (hk : k < xs.countP (· < x)) (hl : k < xs.length) : xs[k] < x :=
  (take_lt h x).1 _ (by rw [List.mem_take_iff_getElem]; exact ⟨k, by omega, rfl⟩)
theorem high_ge {xs : List Int} (h : xs.Pairwise (· < ·)) {x : Int} {k : Nat} (hk : xs.countP (· < x) ≤ k) (hl : k < xs.length) : x ≤ xs[k] :=
  (take_lt h x).2 _ (by rw [List.mem_drop_iff_getElem]; exact ⟨k - xs.countP (· < x), by omega, by simp [show xs.countP (· < x) + (k - xs.countP (· < x)) = k by omega]⟩)
end Go.Proofs.YtnoeblnljfnecaaGreatDoor
end
