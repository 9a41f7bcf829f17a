/- Texts of this proof, one behind the other. -/
import Derived.Test.YtnoeblnljfnecaaGreatDoorWishNoneG7
import Derived.Test.YtnoeblnljfnecaaGreatDoorWishNoneG4
import Derived.Outline
import Derived.Sort.CutIn
import Derived.Stop.RegionWithIn
import Derived.DeepKeys4
import Derived.Maps.StringElems
section
/- fold.Same, fold.Prefix; the document's Byte. -/
namespace Go.Proofs.YtnoeblnljfnecaaGreatDoor
open Go.RowKit

theorem cmpL_zero : ∀ {a b : List UInt8}, cmpL a b = 0 ↔ a = b
  | [], [] => by simp [cmpL]
  | [], _ :: _ => by simp [cmpL]
  | _ :: _, [] => by simp [cmpL]
  | x :: xs, y :: ys => by
    simp only [cmpL, List.cons.injEq]
    by_cases h1 : x.toNat < y.toNat
    · rw [if_pos h1]; constructor
      · intro h; cases h
      · rintro ⟨rfl, _⟩; omega
    · rw [if_neg h1]
      by_cases h2 : y.toNat < x.toNat
      · rw [if_pos h2]; constructor
        · intro h; cases h
        · rintro ⟨rfl, _⟩; omega
      · rw [if_neg h2, cmpL_zero]
        have : x = y := UInt8.toNat_inj.mp (by omega)
        simp [this]

/-- are two texts alike? -/
def sameF (a b : List UInt8) : Bool := foldL a == foldL b
theorem sameF_iff {a b : List UInt8} : sameF a b = true ↔ foldL a = foldL b := by simp [sameF]
theorem sameF_len {a b : List UInt8} (h : a.length ≠ b.length) : sameF a b = false := by
  rw [Bool.eq_false_iff]; intro e
  rw [sameF_iff] at e
  have := congrArg List.length e
  simp at this; exact h this
theorem sameF_cmp (a b : List UInt8) : (cmpF a b == 0) = sameF a b := by
  rw [Bool.eq_iff_iff, sameF_iff, beq_iff_eq]; exact cmpL_zero

end Go.Proofs.YtnoeblnljfnecaaGreatDoor
end
section
/- fold.Prefix; the document's Byte. -/
namespace Go.Proofs.YtnoeblnljfnecaaGreatDoor
open Go.RowKit

theorem ba_extract0 (s : ByteArray) (n : Nat) : (s.extract 0 n).data.toList = s.data.toList.take n := by
  simp [ByteArray.data_extract]
theorem ba_extract_to (s : ByteArray) (n : Nat) : (s.extract n s.size).data.toList = s.data.toList.drop n := by
  simp only [ByteArray.data_extract, Array.toList_extract, List.extract_eq_take_drop]
  rw [List.take_of_length_le]; simp



def fromB : ByteArray := ⟨#[65, 66, 67, 68, 69, 70, 71, 72, 73, 74, 75, 76, 77, 78, 79, 80, 81, 82, 83, 84, 85, 86, 87, 88, 89, 90, 91, 93, 92, 126]⟩
def toB : ByteArray := ⟨#[97, 98, 99, 100, 101, 102, 103, 104, 105, 106, 107, 108, 109, 110, 111, 112, 113, 114, 115, 116, 117, 118, 119, 120, 121, 122, 123, 125, 124, 94]⟩
theorem from_found : ∀ k : Fin 30, foldB (fromB[k.1]'(k.2)) = toB[k.1]'(k.2) := by decide +kernel
theorem from_all : ∀ n : Fin 256, foldB (UInt8.ofNat n) = UInt8.ofNat n ∨ ∃ k : Fin 30, fromB[k.1]'(k.2) = UInt8.ofNat n := by decide +kernel
theorem from_none (b : UInt8) (h : ∀ k : Fin 30, fromB[k.1]'(k.2) ≠ b) : foldB b = b := by
  have := from_all ⟨b.toNat, b.toNat_lt⟩
  simp only [UInt8.ofNat_toNat] at this
  rcases this with h1 | ⟨k, hk⟩
  · exact h1
  · exact absurd hk (h k)

theorem refbyte (b : UInt8) (w : World) :
    Calls Tryz.prog 57 #[.int .u8 ↑b.toNat] w fun e w' => e = .returned (.int .u8 ↑(foldB b).toNat) ∧ w = w' := by
  obtain ⟨F, hF⟩ : ∃ F : ByteArray, F = fromB := ⟨_, rfl⟩
  obtain ⟨T, hT⟩ : ∃ T : ByteArray, T = toB := ⟨_, rfl⟩
  have hF1 : F.size = 30 := by rw [hF]; rfl
  have hT1 : T.size = 30 := by rw [hT]; rfl
  have hf1 : F.size ≤ 30 := by omega
  have hf2 : 30 ≤ F.size := by omega
  have ht1 : T.size ≤ 30 := by omega
  have ht2 : 30 ≤ T.size := by omega
  have hfound : ∀ k (h : k < F.size) (h' : k < T.size), F[k] = b → T[k] = foldB b := by
    intro k h h' e
    subst hF hT
    rw [← e]; exact (from_found ⟨k, by omega⟩).symm
  have hnone : (∀ k (h : k < F.size), F[k] ≠ b) → foldB b = b := by
    intro h
    subst hF
    exact from_none b fun k => h k.1 (by have := k.2; omega)
  have HF := Lib.hid hF
  have HT := Lib.hid hT
  have Hfound := Lib.hid hfound
  have Hnone := Lib.hid hnone
  clear hF hT hF1 hT1 hfound hnone
  go_enter Tryz.func57, Tryz.ntmps57
  go_wp2_with fail
  rw [show ({ data := #[65, 66, 67, 68, 69, 70, 71, 72, 73, 74, 75, 76, 77, 78, 79, 80, 81, 82, 83, 84, 85, 86, 87, 88, 89, 90, 91, 93, 92, 126] } : ByteArray) = F from HF.out.symm,
    show ({ data := #[97, 98, 99, 100, 101, 102, 103, 104, 105, 106, 107, 108, 109, 110, 111, 112, 113, 114, 115, 116, 117, 118, 119, 120, 121, 122, 123, 125, 124, 94] } : ByteArray) = T from HT.out.symm]
  go_loop [5] (fun i => ∃ k : Nat, k ≤ 30 ∧ i = .int .i64 k ∧ Hid (∀ j (h : j < F.size), j < k → F[j] ≠ b)) (fun i => 30 - (Go.RowKit.intOf i).toNat)
  case atStart => exact ⟨0, by omega, rfl, fun j _ h => absurd h (Nat.not_lt_zero j)⟩
  case round =>
    obtain ⟨k, hk, rfl, Hq⟩ := hrel
    by_cases hlt : k < 30
    · have hlF : k < F.size := by omega
      have hlT : k < T.size := by omega
      by_cases he : F[k] = b
      · have hr := Hfound.out k hlF hlT he
        have Hr := Lib.hid hr
        have heb : ((F[k].toNat : Int) == (b.toNat : Int)) = true := by rw [he]; simp
        clear hr he
        go_wp2
        go_ret
        exact ⟨ret_int (by rw [Hr.out]), rfl⟩
      · have heb : ((F[k].toNat : Int) == (b.toNat : Int)) = false := by
          rw [beq_eq_false_iff_ne]; intro h; exact he (UInt8.toNat_inj.mp (by omega))
        have He := Lib.hid he
        clear he
        go_wp2
        go_round
        case rel => exact ⟨k + 1, by omega, by go_num, fun j h hj => by
            by_cases hjk : j = k
            · subst hjk; exact He.out
            · exact Hq.out j h (by omega)⟩
        case measure => simp [Go.RowKit.intOf]; omega
    · have hr := Hnone.out (fun j h => Hq.out j h (by omega))
      have Hr := Lib.hid hr
      clear hr
      go_wp2
      go_ret
      exact ⟨ret_int (by rw [Hr.out]), rfl⟩
end Go.Proofs.YtnoeblnljfnecaaGreatDoor
end
section
/- fold.Runs: the pieces of a text, one by one, as a function that ranges. -/
namespace Go.Proofs.YtnoeblnljfnecaaGreatDoor
open Go.RowKit Go.Shelf
attribute [local go_sem] Oper.semAt_some

/-- a piece: its text, and whether its bytes are changed by folding -/
abbrev Piece := { x : ByteArray × Bool // x.1.size ≤ 1000000 }
abbrev encPiece (x : Piece) : Array Value := #[.string x.1.1, .bool x.1.2]
def tb (b : UInt8) : Bool := foldB b != b
theorem turns_tb (c : UInt8) (w : World) :
    Calls Tryz.prog 61 #[.int .u8 ↑c.toNat] w fun e w' => e = .returned (.bool (tb c)) ∧ w = w' := turns_u8 c w
/-- all bytes of pieces -/
def flat : List Piece → List UInt8
  | [] => []
  | x :: r => x.1.1.data.toList ++ flat r
theorem flat_snoc (l : List Piece) (x : Piece) : flat (l ++ [x]) = flat l ++ x.1.1.data.toList := by
  induction l with
  | nil => simp [flat]
  | cons y r ih => simp [flat, ih]
/-- is the next piece as it must be behind these: not empty, of one sort, of the other sort than the last one? -/
def okNext (pre : List Piece) (x : Piece) : Prop :=
  x.1.1.size ≠ 0 ∧ (∀ b ∈ x.1.1.data.toList, tb b = x.1.2) ∧ ∀ y, pre.getLast? = some y → x.1.2 ≠ y.1.2
/-- are pieces as they must be, each behind those ahead of it? -/
def okAll : List Piece → Prop
  | l => ∀ a x r, l = a ++ x :: r → okNext a x
theorem okAll_nil : okAll [] := by intro a x r h; simp at h
theorem okAll_snoc {l : List Piece} {x : Piece} : okAll (l ++ [x]) ↔ okAll l ∧ okNext l x := by
  constructor
  · intro h
    exact ⟨fun a y r e => h a y (r ++ [x]) (by rw [e]; simp), h l x [] rfl⟩
  · rintro ⟨h1, h2⟩ a y r e
    rcases List.eq_nil_or_concat r with rfl | ⟨r', z, rfl⟩
    · have : l ++ [x] = a ++ [y] := e
      obtain ⟨e1, e2⟩ := List.append_inj' this rfl
      simp at e2
      subst e1 e2; exact h2
    · have : l ++ [x] = (a ++ y :: r') ++ [z] := by rw [e]; simp
      obtain ⟨e1, e2⟩ := List.append_inj' this rfl
      exact h1 a y r' e1

/-- how far the pieces have come: what they are of, what is left -/
def RunsAt (l : List UInt8) (pre : List Piece) (rest : List UInt8) : Prop :=
  flat pre ++ rest = l ∧ okAll pre ∧ ∀ y b r, pre.getLast? = some y → rest = b :: r → tb b ≠ y.1.2

theorem flat_len {pre : List Piece} (h : okAll pre) : pre.length ≤ (flat pre).length := by
  induction pre using snoc_ind with
  | nil => simp
  | snoc l x ih =>
    rw [okAll_snoc] at h
    have := ih h.1
    have hx := h.2.1
    rw [flat_snoc]
    simp; omega

theorem runsAt_nil (l : List UInt8) : RunsAt l [] l := ⟨by simp [flat], okAll_nil, by intro y b r h; simp at h⟩

theorem RunsAt.snoc {l : List UInt8} {pre : List Piece} {p q : List UInt8} {t : Bool} (h : RunsAt l pre (p ++ q)) (hp : p ≠ [])
    (ht : ∀ b ∈ p, tb b = t) (hq : ∀ b r, q = b :: r → tb b ≠ t) (x : Piece) (hx : x.1 = (bs p, t)) : RunsAt l (pre ++ [x]) q := by
  obtain ⟨h1, h2, h3⟩ := h
  refine ⟨?_, okAll_snoc.2 ⟨h2, ?_⟩, ?_⟩
  · rw [flat_snoc, hx]; simpa using h1
  · refine ⟨?_, ?_, ?_⟩
    · rw [hx]; simp; exact hp
    · rw [hx]; simpa using ht
    · intro y hy
      rw [hx]
      obtain ⟨b, p', rfl⟩ := List.exists_cons_of_ne_nil hp
      have := h3 y b (p' ++ q) hy rfl
      rw [ht b (by simp)] at this
      exact this
  · intro y b r hy hr
    simp at hy
    subst hy
    rw [hx]
    exact hq b r hr

theorem RunsAt.bound {l : List UInt8} {pre : List Piece} {b : UInt8} {r : List UInt8} (h : RunsAt l pre (b :: r)) : pre.length < l.length := by
  have := flat_len h.2.1
  rw [← h.1]; simp; omega

theorem all_take (R : ByteArray) (t : Bool) (k : Nat) (hk : k ≤ R.size) (h : ∀ j (h : j < R.size), j < k → tb R[j] = t) : ∀ b ∈ R.data.toList.take k, tb b = t := by
  intro b hb
  obtain ⟨j, hj, rfl⟩ := List.mem_iff_getElem.1 hb
  simp only [List.length_take, ba_len] at hj
  rw [List.getElem_take]
  exact h j (by omega) (by omega)

theorem RunsAt.cut {l : List UInt8} {pre : List Piece} {R : ByteArray} (h : RunsAt l pre R.data.toList) (k : Nat) (hk : k < R.size) (t : Bool) (h0 : t = tb (R[0]'(by omega)))
    (ha : ∀ j (h : j < R.size), j < k → tb R[j] = t) (hn : tb R[k] ≠ t) (x : Piece) (hx : x.1 = (R.extract 0 k, t)) : RunsAt l (pre ++ [x]) (R.extract k R.size).data.toList := by
  have hk0 : k ≠ 0 := by rintro rfl; exact hn h0.symm
  rw [ba_extract_to]
  refine RunsAt.snoc (p := R.data.toList.take k) (t := t) (by rw [List.take_append_drop]; exact h) ?_ (all_take R t k (by omega) ha) ?_ x ?_
  · intro e
    have := congrArg List.length e
    rw [List.length_take, ba_len, List.length_nil] at this
    omega
  · intro b r e
    rw [ba_drop R k hk] at e
    cases e
    exact hn
  · rw [hx, ← ba_extract0]; rfl

theorem RunsAt.last {l : List UInt8} {pre : List Piece} {R : ByteArray} (h : RunsAt l pre R.data.toList) (hk : 0 < R.size) (t : Bool)
    (ha : ∀ j (h : j < R.size), j < R.size → tb R[j] = t) (x : Piece) (hx : x.1 = (R, t)) : RunsAt l (pre ++ [x]) [] := by
  refine RunsAt.snoc (p := R.data.toList) (t := t) (by rw [List.append_nil]; exact h) ?_ ?_ (by intro b r e; cases e) x (by rw [hx]; rfl)
  · intro e
    have := congrArg List.length e
    rw [ba_len, List.length_nil] at this
    omega
  · have := all_take R t R.size (Nat.le_refl _) ha
    rw [List.take_of_length_le (by rw [ba_len]; exact Nat.le_refl _)] at this
    exact this
end Go.Proofs.YtnoeblnljfnecaaGreatDoor
end
section
/- fold.Runs: the walk of its function that ranges. -/
namespace Go.Proofs.YtnoeblnljfnecaaGreatDoor
open Go.RowKit Go.Shelf
attribute [local go_sem] Oper.semAt_some

theorem runs_any (s : ByteArray) (w : World) :
    Calls Tryz.prog 45 #[.string s] w fun e w' => e = .returned (.func (.func 60) #[] #[.pointer (some ⟨w.heap.size, 0, none⟩)]) ∧ w' = w.alloc (.cells #[.string s] 9) := by
  go_enter Tryz.func45, Tryz.ntmps45
  go_wp2
  go_ret
  exact ⟨rfl, rfl⟩

set_option maxRecDepth 100000 in
set_option maxHeartbeats 1000000 in
theorem runs_stops (n : Nat) (hn : 2 ≤ n) (B : Nat) (s : ByteArray) (w : World) (hs : s.size ≤ 1000000) (hB : B < w.heap.size) (hc : w.cell? ⟨B, 0, none⟩ = some (.string s)) :
    SeqStopsK Fence.wide n Tryz.prog 60 #[.pointer (some ⟨B, 0, none⟩)] encPiece (fun _ _ => True)
      (fun xs => RunsAt s.data.toList xs []) (fun pre => ∃ r, RunsAt s.data.toList pre r) s.size w := fun l J Jx W hW hJ hJx hY h0 => by
  have hc1 : W.cell? ⟨B, 0, none⟩ = some (.string s) := (hW.cell (p := ⟨B, 0, none⟩) hB).trans hc
  refine callsIn_of_wp Tryz.func60 rfl trivial ?_ rfl
  simp only [Tryz.ntmps60, List.size_toArray, List.length_cons, List.length_nil, Nat.reduceAdd, Nat.reduceSub, Array.replicate_succ, Array.replicate_zero, List.push_toArray, List.append_toArray, List.nil_append, List.cons_append]
  gi_wp2
  refine wpIn_scope ?_
  gi_wp2
  refine wpIn_label ?_
  gi_wp2
  gi_loopw [3] (fun p wr => ∃ (pre : List Piece) (R : ByteArray), p = .string R ∧ Hid (RunsAt s.data.toList pre R.data.toList ∧ R.size ≤ s.size) ∧ J pre wr) (fun p _ => match p with | .string R => R.size | _ => 0)
  case atStart => exact ⟨[], s, rfl, ⟨runsAt_nil _, Nat.le_refl _⟩, h0⟩
  case round =>
    obtain ⟨pre, R, rfl, HR, hJs⟩ := hrel
    by_cases hR : R.size = 0
    · have hRb := str_em hR
      have hd := HR.out.1
      rw [str_nil hR] at hd
      have Hd := Lib.hid hd
      clear hd hR
      gi_wp2_with fail
      rw [noGoto_normal]
      go_end0
      exact ⟨⟨_, rfl⟩, .inl ⟨pre, Hd.out, hJs⟩⟩
    · have hR0 : 0 < R.size := by omega
      have hRb := str_ne hR0
      have hRs : R.size ≤ 1000000 := by have := HR.out.2; omega
      have hlen : pre.length < s.size := by
        have := HR.out.1
        rw [show R.data.toList = R.data.toList.drop 0 from rfl, ba_drop R 0 hR0] at this
        simpa using this.bound
      clear hR
      gi_wp2_with fail
      refine ⟨trivial, fun _ => by omega, ((callsIn_wide (n := n - 1)).2 (turns_tb _ _)).mono ?_⟩
      rintro e w' ⟨rfl, rfl⟩
      obtain ⟨t, ht⟩ : ∃ t, t = tb R[0] := ⟨_, rfl⟩
      rw [← ht]
      have Ht := Lib.hid ht
      clear ht
      gi_wp2_with fail
      gi_loop [3, 14] (fun p i => ∃ k : Nat, p = .string R ∧ i = .int .i64 k ∧ k ≤ R.size ∧ Hid (∀ j (h : j < R.size), j < k → tb R[j] = t)) (fun _ i => R.size - (Go.RowKit.intOf i).toNat)
      case atStart => exact ⟨0, rfl, rfl, Nat.zero_le _, fun j _ h => absurd h (Nat.not_lt_zero j)⟩
      case round =>
        obtain ⟨k, rfl, rfl, hk, Hk⟩ := hrel
        by_cases hlt : k < R.size
        · gi_wp2_with fail
          refine ⟨trivial, fun _ => by omega, ((callsIn_wide (n := n - 1)).2 (turns_tb _ _)).mono ?_⟩
          rintro e w' ⟨rfl, rfl⟩
          by_cases he : tb R[k] = t
          · have heb : (tb R[k] == t) = true := by rw [he]; simp
            have He := Lib.hid he
            clear he
            gi_wp2_with fail
            go_round
            case rel => exact ⟨k + 1, rfl, by go_num, by omega, fun j h hj => by
              by_cases hjk : j = k
              · subst hjk; exact He.out
              · exact Hk.out j h (by omega)⟩
            case measure => simp [Go.RowKit.intOf]; omega
          · have heb : (tb R[k] == t) = false := by rw [beq_eq_false_iff_ne]; exact he
            have He := Lib.hid he
            clear he
            have hsz : (R.extract 0 k).size ≤ 1000000 := by simp; omega
            obtain ⟨fn, tmps, assign, body, hy, hR⟩ := hY pre ⟨(R.extract 0 k, t), hsz⟩ wr hJs hlen
            dsimp only [encPiece] at hy
            gi_wp2_with fail
            refine ⟨fun _ => by omega, hR.mono ?_⟩
            rintro e W3 (⟨rfl, hJ3, _⟩ | ⟨rfl, hJx3⟩)
            · have hcut := HR.out.1.cut k hlt t Ht.out Hk.out He.out ⟨(R.extract 0 k, t), hsz⟩ rfl
              have hsm : (R.extract k R.size).size < R.size := by
                have hk0 : k ≠ 0 := by rintro rfl; exact He.out Ht.out.symm
                simp; omega
              have Hcut := Lib.hid (And.intro hcut (And.intro hsm HR.out.2))
              clear hcut hsm
              gi_wp2_with fail
              go_roundw
              case rel => exact ⟨pre ++ [⟨(R.extract 0 k, t), hsz⟩], _, rfl, ⟨Hcut.out.1, by have := Hcut.out.2; omega⟩, hJ3⟩
              case measure => exact Hcut.out.2.1
            · have hcut := HR.out.1.cut k hlt t Ht.out Hk.out He.out ⟨(R.extract 0 k, t), hsz⟩ rfl
              have Hcut := Lib.hid hcut
              clear hcut
              gi_wp2_with fail
              rw [noGoto_ret']
              refine bodyPost_ret (results_none rfl _ _ _) rfl ?_
              exact ⟨⟨_, rfl⟩, .inr ⟨_, ⟨_, Hcut.out⟩, hJx3⟩⟩
        · have hlast := HR.out.1.last hR0 t (fun j h hj => Hk.out j h (by omega)) ⟨(R, t), hRs⟩ rfl
          have Hlast := Lib.hid hlast
          clear hlast
          obtain ⟨fn, tmps, assign, body, hy, hR⟩ := hY pre ⟨(R, t), hRs⟩ wr hJs hlen
          dsimp only [encPiece] at hy
          gi_wp2_with fail
          refine ⟨fun _ => by omega, hR.mono ?_⟩
          rintro e W3 (⟨rfl, hJ3, _⟩ | ⟨rfl, hJx3⟩)
          · gi_wp2_with fail
            rw [noGoto_ret']
            refine bodyPost_ret (results_none rfl _ _ _) rfl ?_
            exact ⟨⟨_, rfl⟩, .inl ⟨_, Hlast.out, hJ3⟩⟩
          · gi_wp2_with fail
            rw [noGoto_ret']
            refine bodyPost_ret (results_none rfl _ _ _) rfl ?_
            exact ⟨⟨_, rfl⟩, .inr ⟨_, ⟨_, Hlast.out⟩, hJx3⟩⟩
end Go.Proofs.YtnoeblnljfnecaaGreatDoor
end
section
/- fold.Text: what is folded. -/
namespace Go.Proofs.YtnoeblnljfnecaaGreatDoor
open Go.RowKit Go.Shelf
attribute [local go_sem] Oper.semAt_some

/-- bytes as cells -/
def u8s (l : List UInt8) : List Value := l.map fun b => Value.int .u8 b.toNat
theorem u8s_append (a b : List UInt8) : u8s (a ++ b) = u8s a ++ u8s b := by simp [u8s]
theorem u8s_bytes (s : ByteArray) : byteCells s = u8s s.data.toList := rfl

theorem u8s_step (a : List UInt8) (p : ByteArray) (k : Nat) (h : k < p.size) :
    u8s (a ++ (p.data.toList.map foldB).take (k + 1)) = u8s (a ++ (p.data.toList.map foldB).take k) ++ [.int .u8 (foldB p[k]).toNat] := by
  rw [← List.map_take, ba_take p k h, List.map_append, ← List.append_assoc, u8s_append, List.map_take]
  rfl

/-- what pieces are folded to -/
def tx (pre : List Piece) : List UInt8 := pre.flatMap fun x => if x.1.2 then x.1.1.data.toList.map foldB else x.1.1.data.toList
theorem tx_snoc (pre : List Piece) (x : Piece) : tx (pre ++ [x]) = tx pre ++ (if x.1.2 then x.1.1.data.toList.map foldB else x.1.1.data.toList) := by simp [tx]
theorem tx_len (pre : List Piece) : (tx pre).length ≤ pre.length * 1000000 := by
  induction pre using snoc_ind with
  | nil => simp [tx]
  | snoc l x ih =>
    rw [tx_snoc, List.length_append]
    have hx := x.2
    have e : (if x.1.2 then x.1.1.data.toList.map foldB else x.1.1.data.toList).length = x.1.1.size := by split <;> simp
    rw [e]
    simp only [List.length_append, List.length_cons, List.length_nil]
    omega
theorem tx_fold {pre : List Piece} (h : okAll pre) : tx pre = foldL (flat pre) := by
  induction pre using snoc_ind with
  | nil => rfl
  | snoc l x ih =>
    rw [okAll_snoc] at h
    rw [tx_snoc, flat_snoc, foldL_append, ih h.1]
    congr 1
    obtain ⟨_, hb, _⟩ := h.2
    cases hx : x.1.2 with
    | true => simp [foldL]
    | false =>
      rw [hx] at hb
      simp only [Bool.false_eq_true, if_false]
      unfold foldL
      have : ∀ l : List UInt8, (∀ b ∈ l, tb b = false) → l = l.map foldB := by
        intro l
        induction l with
        | nil => intro _; rfl
        | cons b r ih =>
          intro h
          have hb := h b (by simp)
          simp only [tb, bne_eq_false_iff_eq] at hb
          rw [List.map_cons, hb, ← ih fun c hc => h c (by simp [hc])]
      exact this _ hb

/-- 'out = append(out, ..)' onto a box's own row: what the walk owes. -/
theorem boxed_app {W w1 : World} {n₀ B : Nat} {t e : TypeId} {size g cap k m : Nat} {v' : Value} {xs ys : List Value} (hv : Boxed W B t (.slice (some ⟨g, 0, none⟩) k cap)) (hte : t ≠ e)
    (hrow : W.ownsRow n₀ e size (.slice (some ⟨g, 0, none⟩) k cap) k xs) (hn₀ : n₀ ≤ W.heap.size) (hB : n₀ ≤ B) (hown' : w1.ownsRow n₀ e size v' m ys) (hgrow : W.grownBy w1 (some g)) :
    Boxed w1 B t (.slice (some ⟨g, 0, none⟩) k cap) ∧ Boxed (w1.setCell ⟨B, 0, none⟩ v') B t v' ∧ (w1.setCell ⟨B, 0, none⟩ v').ownsRow n₀ e size v' m ys ∧ KeepsOthers W (w1.setCell ⟨B, 0, none⟩ v') ∧ Below n₀ W (w1.setCell ⟨B, 0, none⟩ v') := by
  have hv1 : Boxed w1 B t (.slice (some ⟨g, 0, none⟩) k cap) := hv.kept hgrow (hv.not_row hte hrow)
  rcases hrow.2 with ⟨h, _⟩ | ⟨g0, cap0, cur, h, hb, hgb, _⟩
  · cases h
  · simp only [Value.slice.injEq, Option.some.injEq, Addr.mk.injEq, true_and, and_true] at h
    obtain ⟨rfl, rfl⟩ := h
    refine ⟨hv1, hv1.set v', hown'.kept (grownBy_setCell' w1 B v') (.inr (hv1.not_row hte hown').symm), ?_, ?_⟩
    · refine (KeepsOthers.of_grownBy hgrow fun j o ej hj => ?_).trans (KeepsOthers.setCell _ _ _)
      cases ej
      rw [hgb] at hj; cases hj; rfl
    · refine ((Below.refl n₀ W).grown hgrow hn₀ fun j ej => ?_).setCell (p := ⟨B, 0, none⟩) hB v'
      cases ej
      exact hb

theorem conv_own {P : Program} (W : World) (src dst e : TypeId) (base g cap : Nat) (l : List UInt8) (hs : P.underlying src = some (.slice e)) (he : P.underlying e = some (.int .u8)) (hd : P.underlying dst = some .string)
    (h : W.ownsRow base e 1 (.slice (some ⟨g, 0, none⟩) l.length cap) l.length (u8s l)) :
    (convert src dst (.slice (some ⟨g, 0, none⟩) l.length cap)).run P W = .ok (.string (bs l)) W :=
  run_convert_bytes_back W src dst e ⟨g, 0, none⟩ cap l hs he hd fun j hj => h.cells (g := g) rfl j _ (by simp [u8s, hj])

theorem Tryz.infoU8 : (Tryz.prog.info? 5).map (fun i => (i.zero, i.size, i.bytes)) = some (some (.int .u8 0), 1, 1) := by kernel_rfl

set_option maxRecDepth 100000 in
set_option maxHeartbeats 2000000 in
theorem text_any (s : ByteArray) (w : World) (hs : s.size ≤ 1000000) :
    Calls Tryz.prog 29 #[.string s] w fun e w' => e = .returned (.string (bs (foldL s.data.toList))) ∧ Below w.heap.size w w' := by
  obtain ⟨i0, hi, hz0, hz1, hz2⟩ := info_parts Tryz.infoU8
  refine (callsIn_wide (n := 5)).1 ?_
  refine callsIn_of_wp_marks Tryz.func29 rfl trivial ?_ rfl
  simp only [Tryz.ntmps29, List.size_toArray, List.length_cons, List.length_nil, Nat.reduceAdd, Nat.reduceSub, Array.replicate_succ, Array.replicate_zero, List.push_toArray, List.append_toArray, List.nil_append, List.cons_append]
  gi_wp2_with (gi_at_make; refine wpListIn_make_own _ rfl _ _ 86 rfl w.heap.size 5 i0 (.int .u8 0) 1 Tryz.underlying86 hi hz0 hz1 .i64 .i64 (s.size : Int) s.size rfl rfl rfl (by rw [hz2]; omega) (by unfold maxLen; omega) (Nat.le_refl _) ?_; intro w1 hown hgrow)
  refine ⟨trivial, ((callsIn_wide (n := 4)).2 (runs_any _ _)).mono ?_⟩
  rintro e w2 ⟨rfl, hw2⟩
  have hwl : w.heap.size ≤ w1.heap.size := hgrow.size
  have hB1 : Below w.heap.size w w1 := ⟨hgrow.os, hgrow.tape, hgrow.output, hgrow.size, fun i hi => hgrow.block i hi (by simp)⟩
  have bO := (Boxed.new w1 86 (.slice (some ⟨w.heap.size, 0, none⟩) 0 s.size)).alloc (.cells #[.string s] 9)
  have bS := Boxed.new (w1.alloc (.cells #[.slice (some ⟨w.heap.size, 0, none⟩) 0 s.size] 86)) 9 (.string s)
  have hrow := (hown.alloc (.cells #[.slice (some ⟨w.heap.size, 0, none⟩) 0 s.size] 86)).alloc (.cells #[.string s] 9)
  have hB2 : Below w.heap.size w w2 := by rw [hw2]; exact (hB1.alloc hwl _).alloc (by simp; omega) _
  have hsz : w2.heap.size = w1.heap.size + 2 := by rw [hw2]; simp
  rw [World.size_alloc] at bS
  rw [← hw2] at bO bS hrow
  obtain ⟨B, hBd⟩ : ∃ B, B = w1.heap.size := ⟨_, rfl⟩
  simp only [World.size_alloc]
  rw [← hBd] at bO bS hsz hwl ⊢
  have hle : B + 2 ≤ w2.heap.size := by omega
  have HX := Lib.hid (And.intro hw2 (And.intro hsz hBd))
  clear hw2 hsz hBd hB1 hown hgrow
  gi_wp2_with fail
  refine wpIn_rangeFunc_ownG rfl (by omega) (gf := 60) (lb := #[.pointer (some ⟨B + 1, 0, none⟩)]) rfl trivial (enters_of Tryz.func60 (by kernel_rfl) rfl)
    (runs_stops 4 (by omega) (B + 1) s w2 hs (by omega) bS.cell) (fun _ _ => trivial) (fun _ _ _ _ _ _ _ _ => trivial) (Below.refl _ _) (fun _ => rfl)
    (fun pre W => (∃ v, Boxed W B 86 v ∧ W.ownsRow w.heap.size 5 1 v (tx pre).length (u8s (tx pre)) ∧ ∃ g cap, v = .slice (some ⟨g, 0, none⟩) (tx pre).length cap) ∧ Below w.heap.size w W)
    (fun _ _ _ => False)
    (OwnFrom.and (Own.from (holdsRow_own w.heap.size B 86 5 1 (fun pre => (tx pre).length) (fun pre => u8s (tx pre)) (fun pre v => ∃ g cap, v = .slice (some ⟨g, 0, none⟩) (tx pre).length cap)) _) (ownFrom_below (by omega) (by omega)))
    (fun _ _ _ _ _ hs _ _ => hs)
    ⟨⟨_, bO, hrow, _, _, rfl⟩, hB2⟩
    (fun x => { tmps := #[.string s, undef, .string ⟨#[]⟩, .pointer (some ⟨B, 0, none⟩), .string x.1.1, .bool x.1.2, undef, .string s, .int .i64 s.size, .slice (some ⟨w.heap.size, 0, none⟩) 0 s.size, .string s, .func (.func 60) #[] #[.pointer (some ⟨B + 1, 0, none⟩)], .string x.1.1, .bool x.1.2, undef, undef, undef, undef, undef, undef, undef, undef, undef, undef, undef, undef, undef, undef, undef, undef, undef, undef, undef, undef], defers := [] }) ?assign ?body ?done ?stop
  case assign =>
    intro l x W K hK
    gi_wp2
    exact hK
  case stop =>
    rintro D c pre W _ _ h _
    exact h.elim
  case done =>
    rintro D xs W hD hS ⟨⟨v, hv, hrow, g, cap, rfl⟩, hB⟩ hK
    have hc := hv.cell
    have hconv := conv_own W 86 9 5 w.heap.size g cap (tx xs) Tryz.underlying86 Tryz.underlying5 Tryz.underlying9 hrow
    have ht : tx xs = foldL s.data.toList := by rw [tx_fold hS.2.1]; have := hS.1; rw [List.append_nil] at this; rw [this]
    have Ht := Lib.hid ht
    clear ht
    gi_wp2
    refine ⟨by simp, .inl ⟨_, _, rfl, run_takeDeferred hK, ?_⟩⟩
    exact ⟨_, results_tmp rfl _ _ _, by rw [← Ht.out]; rfl, hB.trans (belowK_b (w := w) (Nat.le_refl _) W D _ _ (by omega) hK rfl rfl)⟩
  case body =>
    rintro l pre x W ⟨⟨v, hv, hrow, g, cap, rfl⟩, hB⟩ hlt
    have htl := tx_len pre
    have hts := tx_snoc pre x
    have Hts := Lib.hid hts
    clear hts
    obtain ⟨⟨p, t⟩, hp⟩ := x
    have hp' : p.size ≤ 1000000 := hp
    have hc := hv.cell
    cases t with
    | false =>
      have hsrc := Src.ofString (P := Tryz.prog) W (tx := 9) Tryz.underlying9 p
      gi_wp2_with (gi_at_builtin; refine wpListIn_app_src _ rfl _ _ 86 9 rfl w.heap.size 5 i0 (.int .u8 0) 1 1 Tryz.underlying86 hi hz0 hz1 hz2 rfl g cap _ _ rfl hrow _ p.size _ rfl hsrc (by unfold maxLen; omega) (by omega) hB.size ?_; intro g1 cap1 w3 hown3 hgrow3; obtain ⟨hv1, hv2, hr2, hk2, hb2⟩ := boxed_app hv (by decide) hrow hB.size hwl hown3 hgrow3; have hc1 := hv1.cell; have hf1 := hv1.frozen)
      have e : tx (pre ++ [⟨(p, false), hp⟩]) = tx pre ++ p.data.toList := Hts.out
      have e2 : (tx pre).length + p.size = (tx (pre ++ [⟨(p, false), hp⟩])).length := by rw [e]; simp
      refine ⟨hk2.from _, trivial, ⟨_, hv2, ?_, g1, cap1, by rw [e2]⟩, hB.trans hb2⟩
      rw [e, u8s_append, ← u8s_bytes]
      simpa using hr2
    | true =>
      gi_wp2_with fail
      gi_loopw [21] (fun i wr => ∃ (k g cap : Nat), i = .int .i64 k ∧ k ≤ p.size ∧ Boxed wr B 86 (.slice (some ⟨g, 0, none⟩) ((tx pre).length + k) cap) ∧
        wr.ownsRow w.heap.size 5 1 (.slice (some ⟨g, 0, none⟩) ((tx pre).length + k) cap) ((tx pre).length + k) (u8s (tx pre ++ (p.data.toList.map foldB).take k)) ∧ Hid (KeepsOthers W wr ∧ Below w.heap.size W wr)) (fun i _ => p.size - (Go.RowKit.intOf i).toNat)
      case atStart => exact ⟨0, g, cap, rfl, Nat.zero_le _, hv, by simpa using hrow, KeepsOthers.refl _, Below.refl _ _⟩
      case round =>
        obtain ⟨k, g2, cap2, rfl, hk, hv2, hrow2, HK⟩ := hrel
        clear hc hv hrow
        have hc2 := hv2.cell
        by_cases hlt2 : k < p.size
        · have hsrc := Src.ofSlice (P := Tryz.prog) (w := (wr.alloc (.cells #[.int .u8 (foldB p[k]).toNat] 5)).drew) (size := 1) (tx := 86) Tryz.underlying86 ⟨wr.heap.size, 0, none⟩ 1 1 [.int .u8 (foldB p[k]).toNat] rfl (cell_one_new wr _ _) (by simp [Value.oneCell'])
          have hv3 : Boxed (wr.alloc (.cells #[.int .u8 (foldB p[k]).toNat] 5)).drew B 86 _ := hv2.alloc (.cells #[.int .u8 (foldB p[k]).toNat] 5)
          have hrow3 : (wr.alloc (.cells #[.int .u8 (foldB p[k]).toNat] 5)).drew.ownsRow _ _ _ _ _ _ := hrow2.alloc (.cells #[.int .u8 (foldB p[k]).toNat] 5)
          obtain ⟨g4, cap4, w4, hrun, hown4, hgrow4⟩ := run_app_src (P := Tryz.prog) _ w.heap.size 86 86 86 5 i0 (.int .u8 0) 1 1 Tryz.underlying86 hi hz0 hz1 hz2 rfl g2 cap2 _ _ hrow3 _ 1 _ hsrc (by unfold maxLen; omega) (by omega) (by have := HK.out.2.size; have := hB.size; simp; omega)
          obtain ⟨hv5, hv6, hr6, hk6, hb6⟩ := boxed_app hv3 (by decide) hrow3 (by have := HK.out.2.size; have := hB.size; simp; omega) hwl hown4 hgrow4
          have hc3 := hv3.cell
          have hc5 := hv5.cell
          have hf5 := hv5.frozen
          have H6 := Lib.hid (And.intro hv6 (And.intro hr6 (And.intro hk6 hb6)))
          clear hv6 hr6 hk6 hb6 hown4 hgrow4 hrow3 hv3 hv5 hsrc
          have hrun2 : (Sem.run Tryz.prog (Builtin.append_ #[86, 86] 86 #[.slice (some ⟨g2, 0, none⟩) ((tx pre).length + k) cap2, .slice (some ⟨wr.heap.size, 0, none⟩) 1 1]) (wr.alloc (.cells #[.int .u8 (foldB p[k]).toNat] 5)).drew).andThen (fun a w' => Result.ok (Next.value a) w') = .ok (.value (.slice (some ⟨g4, 0, none⟩) ((tx pre).length + k + 1) cap4)) w4 := by rw [hrun]; rfl
          simp [go_sem] at hrun2
          gi_upto_region 10 with (fail)
          gi_region_with (first | (refine ⟨trivial, ?_⟩; gi_at_call 46; refine (CallsIn.inRound l ((callsIn_wide (n := 2)).2 (byte_u8 _ _))).mono ?_; rintro e w' ⟨rfl, rfl⟩)| (fail))
          all_goals
            clear hrun hrun2 hc2 hc3 hc5 hf5
            gi_wp2_with fail
            go_roundw
            case rel =>
              refine ⟨k + 1, g4, cap4, by go_num, by omega, H6.out.1, ?_, (HK.out.1.trans (((KeepsOthers.alloc wr _).trans (KeepsOthers.drew _)).trans H6.out.2.2.1)), HK.out.2.trans ((((Below.refl _ wr).alloc (by have := HK.out.2.size; have := hB.size; omega) _).drew).trans H6.out.2.2.2)⟩
              rw [u8s_step _ p k hlt2]
              exact H6.out.2.1
            case measure => simp [Go.RowKit.intOf]; omega
        · have hkp : k = p.size := by omega
          have Hkp := Lib.hid hkp
          clear hkp
          gi_wp2_with fail
          have e : tx (pre ++ [⟨(p, true), hp⟩]) = tx pre ++ p.data.toList.map foldB := Hts.out
          have e2 : (tx pre).length + k = (tx (pre ++ [⟨(p, true), hp⟩])).length := by rw [e, Hkp.out]; simp
          refine ⟨HK.out.1.from _, trivial, ⟨_, hv2, ?_, g2, cap2, by rw [e2]⟩, hB.trans HK.out.2⟩
          have e3 : (p.data.toList.map foldB).take k = p.data.toList.map foldB := List.take_of_length_le (by rw [Hkp.out]; simp)
          rw [e3] at hrow2
          rw [e] at e2 ⊢
          rw [← e2]
          exact hrow2
end Go.Proofs.YtnoeblnljfnecaaGreatDoor
end
section
/- The document's Text, Same, Compare of layer 1; awake. -/
namespace Go.Proofs.YtnoeblnljfnecaaGreatDoor
open Go.RowKit

/-- 'string([]byte{b})' -/
theorem conv_one {P : Program} (W : World) (src dst e : TypeId) (b : UInt8) (hs : P.underlying src = some (.slice e)) (he : P.underlying e = some (.int .u8)) (hd : P.underlying dst = some .string) :
    (convert src dst (.slice (some ⟨W.heap.size, 0, none⟩) 1 1)).run P (W.alloc (.cells #[.int .u8 b.toNat] e)) = .ok (.string (bs [b])) (W.alloc (.cells #[.int .u8 b.toNat] e)) :=
  run_convert_bytes_back (W.alloc (.cells #[.int .u8 b.toNat] e)) src dst e ⟨W.heap.size, 0, none⟩ 1 [b] hs he hd fun j hj => by
    simp at hj
    subst hj
    simp [Addr.add]
theorem bs_append (a b : List UInt8) : bs a ++ bs b = bs (a ++ b) := by
  apply ba_ext
  simp [bs]
theorem foldL_step (s : ByteArray) (k : Nat) (h : k < s.size) : bs (foldL (s.data.toList.take k)) ++ bs [foldB s[k]] = bs (foldL (s.data.toList.take (k + 1))) := by
  rw [bs_append, ba_take s k h, foldL_append]; rfl

set_option maxHeartbeats 1000000 in
theorem reftext (s : ByteArray) (w : World) (hs : s.size ≤ 1000000) :
    Calls Tryz.prog 41 #[.string s] w fun e w' => e = .returned (.string (bs (foldL s.data.toList))) ∧ Below w.heap.size w w' := by
  go_enter Tryz.func41, Tryz.ntmps41
  go_wp2_with fail
  go_loopw [3, 4] (fun t i wr => ∃ k : Nat, k ≤ s.size ∧ i = .int .i64 k ∧ t = .string (bs (foldL (s.data.toList.take k))) ∧ Hid (Below w.heap.size w wr)) (fun _ i _ => s.size - (Go.RowKit.intOf i).toNat)
  case atStart => exact ⟨0, Nat.zero_le _, rfl, rfl, Below.refl _ _⟩
  case round =>
    obtain ⟨k, hk, rfl, rfl, HB⟩ := hrel
    by_cases hlt : k < s.size
    · have hconv := conv_one (P := Tryz.prog) wr 86 9 5 (foldB s[k]) Tryz.underlying86 Tryz.underlying5 Tryz.underlying9
      have hst := foldL_step s k hlt
      have Hst := Lib.hid hst
      clear hst
      have hn : (bs (foldL (s.data.toList.take k))).size ≤ 1000000 := by simp; omega
      go_wp2_with (go_at_call 57; refine (refbyte _ _).mono ?_; rintro e w' ⟨rfl, rfl⟩)
      go_roundw
      case rel => exact ⟨k + 1, by omega, by go_num, by rw [← Hst.out], (HB.out.alloc HB.out.size _)⟩
      case measure => simp [Go.RowKit.intOf]; omega
    · have hkp : k = s.size := by omega
      have Hkp := Lib.hid hkp
      clear hkp
      go_wp2_with fail
      go_ret
      exact ⟨by rw [Hkp.out, List.take_of_length_le (by simp)]; rfl, HB.out⟩

theorem bs_inj {a b : List UInt8} (h : bs a = bs b) : a = b := by
  have := congrArg (fun x : ByteArray => x.data.toList) h
  simpa using this
end Go.Proofs.YtnoeblnljfnecaaGreatDoor
end
section
/- The document's Same and Compare of layer 1. -/
namespace Go.Proofs.YtnoeblnljfnecaaGreatDoor
open Go.RowKit

theorem refsame (a b : ByteArray) (w : World) (ha : a.size ≤ 1000000) (hb : b.size ≤ 1000000) :
    Calls Tryz.prog 24 #[.string a, .string b] w fun e w' => e = .returned (.bool (sameF a.data.toList b.data.toList)) ∧ Below w.heap.size w w' := by
  go_enter Tryz.func24, Tryz.ntmps24
  go_wp2_with fail
  refine (reftext _ _ ha).mono ?_
  rintro e w1 ⟨rfl, hb1⟩
  go_wp2_with fail
  refine (reftext _ _ hb).mono ?_
  rintro e w2 ⟨rfl, hb2⟩
  go_wp2_with fail
  go_ret
  exact ⟨ret_bool (beq_bs _ _), hb1.trans (hb2.mono hb1.size)⟩

theorem less_cmpL : ∀ (x y : List UInt8), Op.bytesLess x y = true ↔ cmpL x y = -1
  | [], [] => by simp [Op.bytesLess, cmpL]
  | [], _ :: _ => by simp [Op.bytesLess, cmpL]
  | _ :: _, [] => by simp [Op.bytesLess, cmpL]
  | a :: x, b :: y => by
    simp only [Op.bytesLess, cmpL, Bool.or_eq_true, decide_eq_true_eq, Bool.and_eq_true, beq_iff_eq, UInt8.lt_iff_toNat_lt]
    by_cases h1 : a.toNat < b.toNat
    · simp [h1]
    · rw [if_neg h1]
      by_cases h2 : b.toNat < a.toNat
      · rw [if_pos h2]
        constructor
        · rintro (h | ⟨rfl, _⟩) <;> omega
        · intro h; cases h
      · rw [if_neg h2, ← less_cmpL x y]
        have : a = b := UInt8.toNat_inj.mp (by omega)
        subst this
        simp
theorem cmpL_three : ∀ (x y : List UInt8), cmpL x y = -1 ∨ cmpL x y = 0 ∨ cmpL x y = 1
  | [], [] => by simp [cmpL]
  | [], _ :: _ => by simp [cmpL]
  | _ :: _, [] => by simp [cmpL]
  | a :: x, b :: y => by
    simp only [cmpL]
    split
    · simp
    · split
      · simp
      · exact cmpL_three x y
theorem cmpF_lt {a b : List UInt8} {x y : ByteArray} (hx : x = bs (foldL a)) (hy : y = bs (foldL b)) (h : Op.bytesLess x.toList y.toList = true) : cmpF a b = -1 := by
  subst hx hy
  rw [ByteArray.toList_eq, ByteArray.toList_eq] at h
  exact (less_cmpL _ _).1 h
theorem cmpF_eq {a b : List UInt8} {x y : ByteArray} (hx : x = bs (foldL a)) (hy : y = bs (foldL b)) (h : (!x.toList == y.toList) = false) : cmpF a b = 0 := by
  subst hx hy
  rw [beq_bs] at h
  simp at h
  exact cmpL_zero.2 h
theorem cmpF_gt {a b : List UInt8} {x y : ByteArray} (hx : x = bs (foldL a)) (hy : y = bs (foldL b)) (h : Op.bytesLess x.toList y.toList = false) (h2 : (!x.toList == y.toList) = true) : cmpF a b = 1 := by
  subst hx hy
  rw [ByteArray.toList_eq, ByteArray.toList_eq] at h
  rw [beq_bs] at h2
  simp at h2
  rcases cmpL_three (foldL a) (foldL b) with h3 | h3 | h3
  · have := (less_cmpL (foldL a) (foldL b)).2 h3
    rw [bs_toList, bs_toList] at h
    rw [h] at this; cases this
  · exact absurd (cmpL_zero.1 h3) h2
  · exact h3

theorem refcompare (a b : ByteArray) (w : World) (ha : a.size ≤ 1000000) (hb : b.size ≤ 1000000) :
    Calls Tryz.prog 39 #[.string a, .string b] w fun e w' => e = .returned (.int .i64 (cmpF a.data.toList b.data.toList)) ∧ Below w.heap.size w w' := by
  go_enter Tryz.func39, Tryz.ntmps39
  go_wp2_with fail
  refine (reftext _ _ ha).mono ?_
  rintro e w1 ⟨rfl, hb1⟩
  go_wp2_with fail
  refine (reftext _ _ hb).mono ?_
  rintro e w2 ⟨rfl, hb2⟩
  obtain ⟨x, hx⟩ : ∃ x, x = bs (foldL a.data.toList) := ⟨_, rfl⟩
  obtain ⟨y, hy⟩ : ∃ y, y = bs (foldL b.data.toList) := ⟨_, rfl⟩
  rw [← hx, ← hy]
  have Hx := Lib.hid hx
  have Hy := Lib.hid hy
  clear hx hy
  go_wp2_with fail
  · go_ret
    exact ⟨ret_int (cmpF_lt Hx.out Hy.out (by assumption)).symm, hb1.trans (hb2.mono hb1.size)⟩
  · go_ret
    exact ⟨ret_int (cmpF_gt Hx.out Hy.out (by assumption) (by assumption)).symm, hb1.trans (hb2.mono hb1.size)⟩
  · go_ret
    exact ⟨ret_int (cmpF_eq Hx.out Hy.out (by assumption)).symm, hb1.trans (hb2.mono hb1.size)⟩
end Go.Proofs.YtnoeblnljfnecaaGreatDoor
end
section
/- Layer 21: mathematics of the lists: names of numbers, each with its folded form. -/
namespace Go.Proofs.YtnoeblnljfnecaaGreatDoor
set_option linter.unusedVariables false
set_option linter.unusedSimpArgs false
open Go Go.RowKit Go.Maps

/-- a key of what is spelled: a number and a folded name -/
abbrev PlK : Type := { p : Int × List UInt8 // (Lit.int .i64 p.1).wf = true ∧ p.2.length ≤ maxLen }
/-- a number and a name -/
abbrev WEnt : Type := Int × List UInt8
def fkW (u : WEnt) : Int × List UInt8 := (u.1, foldL u.2)
def OkW (U : List WEnt) : Prop := ∀ u ∈ U, (Lit.int .i64 u.1).wf = true ∧ u.2.length ≤ 1000
/-- what is spelled, under each key: the entries' names -/
structure SpellW (U : List WEnt) (T : List (PlK × List UInt8)) : Prop where
  nd : (T.map (·.1)).Nodup
  mem : ∀ k v, (k, v) ∈ T ↔ ∃ u ∈ U, fkW u = k.1 ∧ u.2 = v
theorem spell_nil : SpellW [] [] := ⟨by simp, fun k v => by simp⟩
def keyW (u : WEnt) (h1 : (Lit.int .i64 u.1).wf = true) (h2 : u.2.length ≤ 1000) : PlK := ⟨fkW u, h1, by unfold fkW maxLen; simp; omega⟩
theorem SpellW.look {U : List WEnt} {T : List (PlK × List UInt8)} (h : SpellW U T) {k : PlK} {u : WEnt} (hu : u ∈ U) (hk : fkW u = k.1) : lookM T k = some u.2 := mem_lookM h.nd ((h.mem k u.2).2 ⟨u, hu, hk, rfl⟩)
theorem SpellW.put {U : List WEnt} {T : List (PlK × List UInt8)} (h : SpellW U T) {k : PlK} {u : WEnt} (hk : fkW u = k.1) (hn : fkW u ∉ U.map fkW) : SpellW (U ++ [u]) (setM T k u.2) := by
  refine ⟨nodup_setM h.nd k _, fun j v => ?_⟩
  rw [mem_setM, h.mem]
  constructor
  · rintro (⟨⟨x, hx, h1, h2⟩, h3⟩ | e)
    · exact ⟨x, List.mem_append_left _ hx, h1, h2⟩
    · obtain ⟨rfl, rfl⟩ := Prod.mk.inj e
      exact ⟨u, by simp, hk, rfl⟩
  · rintro ⟨x, hx, h1, h2⟩
    rcases List.mem_append.1 hx with hx | hx
    · refine .inl ⟨⟨x, hx, h1, h2⟩, fun e => hn ?_⟩
      have e2 : j = k := e
      rw [hk, ← e2, ← h1]
      exact List.mem_map_of_mem hx
    · rw [List.mem_singleton] at hx
      subst hx
      refine .inr ?_
      have : j = k := Subtype.ext (h1.symm.trans hk)
      rw [this, h2]
theorem SpellW.del {U : List WEnt} {T : List (PlK × List UInt8)} (h : SpellW U T) (k : PlK) : SpellW (U.filter fun u => decide (fkW u ≠ k.1)) (delM T k) := by
  refine ⟨nodup_delM h.nd k, fun j v => ?_⟩
  rw [mem_delM, h.mem]
  simp only [List.mem_filter, decide_eq_true_eq]
  constructor
  · rintro ⟨⟨x, hx, h1, h2⟩, h3⟩
    exact ⟨x, ⟨hx, fun e => h3 (Subtype.ext (h1.symm.trans e))⟩, h1, h2⟩
  · rintro ⟨x, ⟨hx, h4⟩, h1, h2⟩
    exact ⟨⟨x, hx, h1, h2⟩, fun e => h4 (by have e2 : j = k := e; rw [h1, e2])⟩
theorem SpellW.len {U : List WEnt} {T : List (PlK × List UInt8)} (h : SpellW U T) : T.length ≤ U.length := by
  have h1 := nodup_len (A := T.map fun p => p.1.1) (B := U.map fkW) (by
    have := h.nd
    rw [show (T.map fun p => p.1.1) = (T.map (·.1)).map (·.1) by rw [List.map_map]; rfl]
    exact List.Pairwise.map _ (fun a b h e => h (Subtype.ext e)) this) fun x hx => by
      obtain ⟨p, hp, rfl⟩ := List.mem_map.1 hx
      obtain ⟨u, hu, h2, _⟩ := (h.mem p.1 p.2).1 hp
      rw [← h2]
      exact List.mem_map_of_mem hu
  simpa using h1
/-- those of a number's whose folded name isn't that -/
theorem fk_less (U : List WEnt) (a : Int) (b : List UInt8) : (U.filter fun u => decide (fkW u ≠ (a, b))).map fkW = lessLIS (U.map fkW) a b := by
  unfold lessLIS
  rw [List.filter_map]
  rfl
theorem fk_drop (U : List WEnt) (a : Int) : (U.filter fun u => decide (u.1 ≠ a)).map fkW = (U.map fkW).filter fun p => decide (p.1 ≠ a) := by
  rw [List.filter_map]
  rfl
/-- the names of a number, by the order of their folded forms -/
structure NamesW (U : List WEnt) (a : Int) (ns : List (List UInt8)) : Prop where
  up : (ns.map foldL).Pairwise (· < ·)
  mem : ∀ n, n ∈ ns ↔ (a, n) ∈ U
theorem names_one {U : List WEnt} (hn : (U.map fkW).Nodup) {a : Int} {ns ms : List (List UInt8)} (h1 : NamesW U a ns) (h2 : NamesW U a ms) : ns = ms := by
  have e : ns.map foldL = ms.map foldL := up_extS h1.up h2.up fun x => by
    simp only [List.mem_map]
    constructor
    · rintro ⟨n, hx, rfl⟩; exact ⟨n, (h2.mem n).2 ((h1.mem n).1 hx), rfl⟩
    · rintro ⟨n, hx, rfl⟩; exact ⟨n, (h1.mem n).2 ((h2.mem n).1 hx), rfl⟩
  have inj : ∀ x ∈ ns, ∀ y ∈ ms, foldL x = foldL y → x = y := fun x hx y hy hf => by
    have a1 := (h1.mem x).1 hx
    have a2 := (h2.mem y).1 hy
    have : ∀ {V : List WEnt}, (V.map fkW).Nodup → ∀ p ∈ V, ∀ q ∈ V, fkW p = fkW q → p = q := by
      intro V
      induction V with
      | nil => intro _ p hp; cases hp
      | cons z r ih =>
        intro hV p hp q hq hpq
        rw [List.map_cons, List.nodup_cons] at hV
        rcases List.mem_cons.1 hp with e1 | hp2
        · rcases List.mem_cons.1 hq with e2 | hq2
          · rw [e1, e2]
          · exact absurd (by rw [← e1, hpq]; exact List.mem_map_of_mem hq2) hV.1
        · rcases List.mem_cons.1 hq with e2 | hq2
          · exact absurd (by rw [← e2, ← hpq]; exact List.mem_map_of_mem hp2) hV.1
          · exact ih hV.2 p hp2 q hq2 hpq
    exact (Prod.mk.inj (this hn _ a1 _ a2 (by unfold fkW; rw [hf]))).2
  have key : ∀ (xs ys : List (List UInt8)), (∀ x ∈ xs, ∀ y ∈ ys, foldL x = foldL y → x = y) → xs.map foldL = ys.map foldL → xs = ys := by
    intro xs
    induction xs with
    | nil => intro ys _ h; cases ys with | nil => rfl | cons _ _ => cases h
    | cons x r ih =>
      intro ys hi h
      cases ys with
      | nil => cases h
      | cons y s =>
        rw [List.map_cons, List.map_cons] at h
        obtain ⟨h3, h4⟩ := List.cons.inj h
        rw [hi x (by simp) y (by simp) h3, ih s (fun a ha b hb => hi a (by simp [ha]) b (by simp [hb])) h4]
  exact key ns ms inj e
end Go.Proofs.YtnoeblnljfnecaaGreatDoor
end
section
/- Layer 21: the lists as they lie: what is spelled (a map keyed by places); New, rel, Count, Has, By. -/
namespace Go.Proofs.YtnoeblnljfnecaaGreatDoor
set_option linter.unusedVariables false
set_option linter.unusedSimpArgs false
open Go Go.RowKit Go.Maps Go.Lib

def kVW (k : PlK) : Value := .agg #[.int .i64 k.1.1, .string (bs k.1.2)]
def kLW (k : PlK) : Lit := .string (keyBytes [.int .i64 k.1.1, .string k.1.2])
theorem Tryz.laidOutW : laidOutB Tryz.prog = true := by kernel_rfl
theorem Tryz.rowW : (68 : TypeId) < Tryz.prog.types.size := of_decide_eq_true (by kernel_rfl)
theorem Tryz.wideW : (match Tryz.prog.underlying 68 with | some (.array _ _) | some (.struct _) => true | _ => false) = true := by rw [Tryz.underlying68]
set_option maxRecDepth 1000000 in
theorem lawW : WideMaps.KeyLaw Tryz.prog 68 := deep_law_laid Tryz.laidOutW (m := 2) (by omega) Tryz.rowW (by kernel_rfl) Tryz.wideW
theorem keyedW : Keyed Tryz.prog 68 := Keyed.of_law lawW
set_option maxRecDepth 1000000 in
theorem keyOfW (k : PlK) : keyOf Tryz.prog 68 (kVW k) = some (kLW k) := by
  have h1 : Tryz.prog.keyType 68 = true := by kernel_rfl
  have hc : Tryz.prog.cellsOf 68 = 2 := by kernel_rfl
  have hc1 : Tryz.prog.cellsOf 3 = 1 := by kernel_rfl
  have hc2 : Tryz.prog.cellsOf 9 = 1 := by kernel_rfl
  have h2 : (kVW k).formed Tryz.prog 68 = true := by simp [kVW, Value.formed, Tryz.underlying68, hc]
  have h3 : (bs k.1.2).size ≤ maxLen := by simpa using k.2.2
  obtain ⟨m, hm⟩ : ∃ m, Tryz.prog.types.size = m + 1 := Nat.exists_eq_succ_of_ne_zero (Nat.ne_of_gt (Nat.lt_of_le_of_lt (Nat.zero_le _) Tryz.rowW))
  unfold keyOf
  rw [Tryz.underlying68]
  simp only [h1, h2, Bool.and_self, if_true, hm]
  unfold Program.keyLits
  simp [kVW, Value.cells, Tryz.underlying68, hc, hc1, hc2, Program.keyLits, Tryz.underlying3, Tryz.underlying9, k.2.1, h3, kLW]
  rw [if_pos k.2.2]
  rfl
theorem kVW_inj {a b : PlK} (h : kVW a = kVW b) : a = b := by
  unfold kVW at h
  simp only [Value.agg.injEq] at h
  have h1 := congrArg (fun x : Array Value => x.toList) h
  simp only [List.cons.injEq, Value.int.injEq, Value.string.injEq, true_and, and_true] at h1
  refine Subtype.ext (Prod.ext h1.1 ?_)
  have := congrArg (fun x : ByteArray => x.data.toList) h1.2
  simpa using this
theorem kLW_inj : ∀ a b : PlK, kLW a = kLW b → a = b := fun a b h => kVW_inj (keyedW.inj (keyOfW a) ((keyOfW b).trans (by rw [h])))
theorem kLW_key (k : PlK) : WideAt.IsKeyLit (kLW k) := by simp [kLW, WideAt.IsKeyLit]
def vSW (s : List UInt8) : DataW Unit := .lit (.string s)
theorem vSW_inj : ∀ a b : List UInt8, vSW a = vSW b → a = b := fun a b h => by simpa [vSW] using h
/-- block b is the map of what is spelled -/
def OwnMW (w : World) (b : Nat) (T : List (PlK × List UInt8)) : Prop := (∃ D : DataW Unit, w.ownsMap Tryz.prog 68 (plainElem Tryz.prog 9) b T.length D ∧ MapHas kLW vSW D T) ∧ ∀ p ∈ T, p.2.length ≤ maxLen
theorem ownMW_lt {w : World} {b : Nat} {T : List (PlK × List UInt8)} (h : OwnMW w b T) : b < w.heap.size := by
  obtain ⟨⟨D, h1, _⟩, _⟩ := h
  exact h1.lt
theorem ownMW_same {w w' : World} {b : Nat} {T : List (PlK × List UInt8)} (h : OwnMW w b T) (he : w'.heap[b]? = w.heap[b]?) : OwnMW w' b T := by
  obtain ⟨⟨D, h1, h2⟩, h3⟩ := h
  exact ⟨⟨D, owns_sameP h1 he, h2⟩, h3⟩
theorem lookW {w : World} {b : Nat} {T : List (PlK × List UInt8)} (h : OwnMW w b T) (k : PlK) : (Instr.lookup 59 (.map (some b)) (kVW k) false).run Tryz.prog w = .ok (.string (bs ((lookM T k).getD []))) w := by
  obtain ⟨⟨D, a5, a6⟩, a7⟩ := h
  have hz : (zeroValue 9).run Tryz.prog w = .ok (.string ByteArray.empty) w := by kernel_rfl
  obtain ⟨v, ps, h1, h2⟩ := a5.lookup keyedW Tryz.underlying59 hz (zd := .lit (.string [])) (zp := []) (plainElem_string Tryz.underlying9 (by decide)) (keyOfW k)
  rw [h1]
  rw [a6.look kLW_inj] at h2
  obtain ⟨s, rfl, h3⟩ := plainElem_string_inv Tryz.underlying9 h2
  have h4 := (Prod.mk.inj h3.1).1
  cases hl : lookM T k with
  | none =>
    rw [hl] at h4
    simp only [DataW.lit.injEq, Lit.string.injEq] at h4
    have : s = bs [] := ba_ext (by simpa using h4.symm)
    rw [this]; rfl
  | some u =>
    rw [hl] at h4
    simp only [vSW, DataW.lit.injEq, Lit.string.injEq] at h4
    have : s = bs u := ba_ext (by simpa using h4.symm)
    rw [this]; rfl
theorem putW {w : World} {b : Nat} {T : List (PlK × List UInt8)} (h : OwnMW w b T) (k : PlK) (v : List UInt8) (hv : v.length ≤ 1000000) (hl : T.length ≤ 1000000) :
    ∃ w', (Instr.mapUpdate 59 (.map (some b)) (kVW k) (.string (bs v))).run Tryz.prog w = .ok () w' ∧ OwnMW w' b (setM T k v) ∧ Fr (fun j => j = b) w w' := by
  obtain ⟨⟨D, a5, a6⟩, a7⟩ := h
  obtain ⟨w', h1, h2, h3⟩ := a5.update keyedW Tryz.underlying59 (by unfold maxLen; omega) (keyOfW k) (val := .string (bs v)) (d := vSW v) (ps := []) (plainElem_string Tryz.underlying9 (by unfold maxLen; simp; omega))
  have h6 := a6.put kLW_inj (a5.tidy keyedW) k (kLW_key k) v
  refine ⟨w', h1, ⟨⟨_, by rw [← h6.size]; exact owns_tightP h2, h6⟩, fun p hp => ?_⟩, (Fr.refl _ w).grown h3 fun j e => by cases e; exact .inr rfl⟩
  rcases mem_setM.1 hp with ⟨hp, _⟩ | rfl
  · exact a7 p hp
  · simp only []; unfold maxLen; omega
theorem delW {w : World} {b : Nat} {T : List (PlK × List UInt8)} (h : OwnMW w b T) (k : PlK) (ty : TypeId) :
    ∃ w', (Builtin.delete_ #[59, 68] ty #[.map (some b), kVW k]).run Tryz.prog w = .ok (.tuple #[]) w' ∧ OwnMW w' b (delM T k) ∧ Fr (fun j => j = b) w w' := by
  obtain ⟨⟨D, a5, a6⟩, a7⟩ := h
  obtain ⟨w', h1, h2, h3⟩ := a5.drop keyedW Tryz.underlying59 (keyOfW k) ty
  have h6 := a6.del kLW_inj (a5.tidy keyedW) k
  exact ⟨w', h1, ⟨⟨_, by rw [← h6.size]; exact owns_tightP h2, h6⟩, fun p hp => a7 p (mem_delM.1 hp).1⟩, (Fr.refl _ w).grown h3.grown fun j e => by cases e; exact .inr rfl⟩
/-- the lists as they lie: their blocks are Y -/
def WisAt (base : Nat) (w : World) (l : Nat) (Y : Nat → Prop) (most : Int) (U : List WEnt) : Prop :=
  ∃ t b X T, base ≤ l ∧ base ≤ b ∧ l ≠ b ∧ w.heap[l]? = some (.cells #[.pointer (some ⟨t, 0, none⟩), .map (some b)] 62 (0, 0)) ∧ RelAtIS base w t X most (U.map fkW) ∧ OwnMW w b T ∧ SpellW U T ∧ ¬ X l ∧ ¬ X b ∧ OkW U ∧ ∀ j, Y j ↔ (j = l ∨ j = b ∨ X j)
theorem WisAt.same {base : Nat} {w w' : World} {l : Nat} {Y : Nat → Prop} {most : Int} {U : List WEnt} (h : WisAt base w l Y most U) (hs : ∀ j, Y j → w'.heap[j]? = w.heap[j]?) : WisAt base w' l Y most U := by
  obtain ⟨t, b, X, T, h1, h2, h3, h4, h5, h6, h7, h8, h9, h10, h11⟩ := h
  exact ⟨t, b, X, T, h1, h2, h3, (hs l ((h11 l).2 (.inl rfl))).trans h4, h5.same fun j hj => hs j ((h11 j).2 (.inr (.inr hj))), ownMW_same h6 (hs b ((h11 b).2 (.inr (.inl rfl)))), h7, h8, h9, h10, h11⟩
theorem WisAt.lt {base : Nat} {w : World} {l : Nat} {Y : Nat → Prop} {most : Int} {U : List WEnt} (h : WisAt base w l Y most U) {j : Nat} (hj : Y j) : base ≤ j ∧ j < w.heap.size := by
  obtain ⟨t, b, X, T, h1, h2, h3, h4, h5, h6, h7, h8, h9, h10, h11⟩ := h
  rcases (h11 j).1 hj with rfl | rfl | hj
  · exact ⟨h1, blk_lt h4⟩
  · exact ⟨h2, ownMW_lt h6⟩
  · exact h5.lt hj
theorem WisAt.fr {base : Nat} {w w' : World} {l : Nat} {Y Z : Nat → Prop} {most : Int} {U : List WEnt} (h : WisAt base w l Y most U) (hf : Fr Z w w') (hz : ∀ j, Y j → ¬ Z j) : WisAt base w' l Y most U := h.same fun j hj => hf.block j (h.lt hj).2 (hz j hj)
theorem WisAt.nodup {base : Nat} {w : World} {l : Nat} {Y : Nat → Prop} {most : Int} {U : List WEnt} (h : WisAt base w l Y most U) : (U.map fkW).Nodup := by
  obtain ⟨t, b, X, T, h1, h2, h3, h4, h5, h6, h7, h8, h9, h10, h11⟩ := h
  exact h5.nodup
theorem WisAt.ok {base : Nat} {w : World} {l : Nat} {Y : Nat → Prop} {most : Int} {U : List WEnt} (h : WisAt base w l Y most U) : OkW U := by
  obtain ⟨t, b, X, T, h1, h2, h3, h4, h5, h6, h7, h8, h9, h10, h11⟩ := h
  exact h10
set_option maxHeartbeats 1000000 in
theorem wisRelNil (w : World) : Calls Tryz.prog 30 #[.pointer none] w fun e w' => e = .returned (.pointer none) ∧ w' = w := by
  go_enter Tryz.func30, Tryz.ntmps30
  go_wp2_with fail
  go_ret
  exact ⟨rfl, rfl⟩
theorem wisRel {l t b : Nat} {w : World} (h : w.heap[l]? = some (.cells #[.pointer (some ⟨t, 0, none⟩), .map (some b)] 62 (0, 0))) : Calls Tryz.prog 30 #[.pointer (some ⟨l, 0, none⟩)] w fun e w' => e = .returned (.pointer (some ⟨t, 0, none⟩)) ∧ w' = w := by
  have c0 := blk_cell h 0
  clear h
  go_enter Tryz.func30, Tryz.ntmps30
  go_wp2_with fail
  go_ret
  exact ⟨rfl, rfl⟩
end Go.Proofs.YtnoeblnljfnecaaGreatDoor
end
section
/- Layer 21: the lists: New, Has, Count, By, Add, Remove; nil ones. -/
namespace Go.Proofs.YtnoeblnljfnecaaGreatDoor
set_option linter.unusedVariables false
set_option linter.unusedSimpArgs false
open Go Go.RowKit Go.Maps Go.Lib

theorem textW (n : List UInt8) (w : World) (h : n.length ≤ 1000000) : Calls Tryz.prog 29 #[.string (bs n)] w fun e w' => e = .returned (.string (bs (foldL n))) ∧ Below w.heap.size w w' := text_any (bs n) w (by simpa using h)
theorem okF {n : List UInt8} (h : n.length ≤ 1000) : OkKSI (foldL n) := by unfold OkKSI maxLen; simp; omega
/-- new lists -/
def NewWs (most : Int) (w : World) (e : Ending) (w' : World) : Prop := ∃ l Y, e = .returned (.pointer (some ⟨l, 0, none⟩)) ∧ WisAt w.heap.size w' l Y most [] ∧ (∀ j, Y j → w.heap.size ≤ j) ∧ Below w.heap.size w w'
set_option maxHeartbeats 1000000 in
theorem wisNew {most : Int} (hm : 0 ≤ most ∧ most ≤ 100000) (w : World) : Calls Tryz.prog 8 #[.int .i64 most] w (NewWs most w) := by
  have hmm := @run_makeMap Tryz.prog
  have HN : Hid (∀ V, Calls Tryz.prog 28 #[.int .i64 most] V (NewRIS most V)) := fun V => relNewIS hm V
  obtain ⟨w1, hw1⟩ : ∃ w1, (w.alloc (Obj.map #[] 0)).alloc (Obj.cells #[.pointer none, .map (some w.heap.size)] 62) = w1 := ⟨_, rfl⟩
  have z1 : w1.heap.size = w.heap.size + 2 := by rw [← hw1]; simp
  have f1 : Fr (fun _ => False) w w1 := by rw [← hw1]; exact ((Fr.refl _ w).alloc _).alloc _
  have k1 : w1.heap[w.heap.size + 1]? = some (.cells #[.pointer none, .map (some w.heap.size)] 62 (0, 0)) := by rw [← hw1]; exact heap_alloc2_new w _ _
  have m1 : OwnMW w1 w.heap.size [] := by
    refine ⟨⟨.map [], ?_, mapHas_empty _ _⟩, fun p hp => by cases hp⟩
    rw [← hw1]
    exact (World.ownsMap_made w _ _ _).alloc _
  have HW := Lib.hid hw1
  have H := Lib.hid (And.intro z1 (And.intro f1 (And.intro k1 m1)))
  clear hw1 z1 f1 k1 m1
  go_enter Tryz.func8, Tryz.ntmps8
  go_wp2_with fail
  rw [HW.out]
  refine (HN.out w1).mono ?_
  rintro e w2 ⟨t, X, rfl, h2, x2, b2⟩
  obtain ⟨z1, f1, k1, m1⟩ := H.out
  have k2 := (Fr.of_below (X := fun _ => False) b2).blk k1 fun e => e
  have c0 := blk_cell k2 0
  have d0 := blk_free k2 0
  have K := Lib.hid (And.intro h2 (And.intro x2 (And.intro b2 k2)))
  clear z1 f1 k1 m1 h2 x2 b2 k2
  go_wp2_with fail
  go_ret
  obtain ⟨z1, f1, k1, m1⟩ := H.out
  obtain ⟨h2, x2, b2, k2⟩ := K.out
  have fs : Fr (fun j => j = w.heap.size + 1) w2 (w2.setCell ⟨w.heap.size + 1, 0, none⟩ (.pointer (some ⟨t, 0, none⟩))) := Fr.setCell (X := fun j => j = w.heap.size + 1) (Fr.refl _ w2) _ rfl _
  have h3 := h2.fr fs fun j hj e => by have := x2 j hj; omega
  refine ⟨w.heap.size + 1, fun j => j = w.heap.size + 1 ∨ j = w.heap.size ∨ X j, rfl, ⟨t, w.heap.size, X, [], by omega, Nat.le_refl _, by omega, ?_, ?_, ?_, spell_nil, fun e => by have := x2 _ e; omega, fun e => by have := x2 _ e; omega, fun u hu => (by cases hu), fun j => Iff.rfl⟩, fun j hj => ?_, ?_⟩
  · have := blk_set k2 0 (.pointer (some ⟨t, 0, none⟩))
    exact this
  · obtain ⟨b1', b2', T1, T2, hst, hx⟩ := h3
    exact ⟨b1', b2', T1, T2, ⟨Nat.le_trans (by omega) hst.le, hst.blk, mapSt_baseIS hst.m1 (by omega), mapSt_baseSI hst.m2 (by omega), hst.n1, hst.n2, hst.ap, hst.t1, hst.t2, hst.h1, hst.h2, hst.nd⟩, hx⟩
  · exact ownMW_same m1 ((fs.block _ (by have := b2.size; omega) (by omega)).trans (b2.block _ (by omega)))
  · rcases hj with rfl | rfl | hj
    · omega
    · omega
    · have := x2 j hj; omega
  · have h5 := f1.below (B := w.heap.size) (Nat.le_refl _) fun _ _ e => e.elim
    exact (h5.trans (b2.mono (by omega))).trans (fs.below (by have := b2.size; omega) fun k _ e => by omega)
section
variable {base : Nat} {w : World} {l : Nat} {Y : Nat → Prop} {most : Int} {U : List WEnt}
set_option maxHeartbeats 1000000 in
theorem wisHas (h : WisAt base w l Y most U) (hU : U.length ≤ 100000) {a : Int} (ha : OkKIS a) {n : List UInt8} (hn : n.length ≤ 1000) :
    Calls Tryz.prog 18 #[.pointer (some ⟨l, 0, none⟩), .int .i64 a, .string (bs n)] w fun e w' => e = .returned (.bool (decide ((a, foldL n) ∈ U.map fkW))) ∧ Below w.heap.size w w' := by
  obtain ⟨t, b, X, T, h1, h2, h3, h4, h5, h6, h7, h8, h9, h10, h11⟩ := h
  have HR := Lib.hid (wisRel h4)
  have HT := Lib.hid (textW n w (by omega))
  have HH : Hid (∀ V, Below w.heap.size w V → Calls Tryz.prog 38 #[.pointer (some ⟨t, 0, none⟩), .int .i64 a, .string (bs (foldL n))] V fun e w' => e = .returned (.bool (decide ((a, foldL n) ∈ U.map fkW))) ∧ ∃ q, w' = V.drewN q) := fun V hV => hasAtIS (h5.below hV) (by simpa using hU) ha (foldL n)
  obtain ⟨d, hd⟩ : ∃ d, decide ((a, foldL n) ∈ U.map fkW) = d := ⟨_, rfl⟩
  rw [hd] at HH ⊢
  clear h1 h2 h3 h4 h5 h6 h7 h8 h9 h10 h11 hd
  go_enter Tryz.func18, Tryz.ntmps18
  go_wp2_with fail
  refine HR.out.mono ?_
  rintro e w1 ⟨rfl, rfl⟩
  go_wp2_with fail
  refine HT.out.mono ?_
  rintro e w2 ⟨rfl, b2⟩
  have B2 := Lib.hid b2
  clear b2
  go_wp2_with fail
  refine (HH.out w2 B2.out).mono ?_
  rintro e w3 ⟨rfl, q, rfl⟩
  go_wp2_with fail
  go_ret
  have hb := B2.out
  exact ⟨rfl, hb.os, hb.tape, hb.output, hb.size, hb.block⟩
theorem wisCount (h : WisAt base w l Y most U) {a : Int} (ha : OkKIS a) {ns : List (List UInt8)} (hns : NamesW U a ns) :
    Calls Tryz.prog 17 #[.pointer (some ⟨l, 0, none⟩), .int .i64 a] w fun e w' => e = .returned (.int .i64 ns.length) ∧ w' = w := by
  obtain ⟨t, b, X, T, h1, h2, h3, h4, h5, h6, h7, h8, h9, h10, h11⟩ := h
  have HR := Lib.hid (wisRel h4)
  have HC := Lib.hid (countAtIS h5 ha hns.up fun f => by
    simp only [List.mem_map]
    constructor
    · rintro ⟨n, hn, rfl⟩; exact ⟨(a, n), (hns.mem n).1 hn, rfl⟩
    · rintro ⟨u, hu, e⟩
      unfold fkW at e
      obtain ⟨e1, e2⟩ := Prod.mk.inj e
      exact ⟨u.2, (hns.mem _).2 (by rw [← e1]; exact hu), e2⟩)
  rw [List.length_map] at HC
  clear h1 h2 h3 h4 h5 h6 h7 h8 h9 h10 h11
  go_enter Tryz.func17, Tryz.ntmps17
  go_wp2_with fail
  refine HR.out.mono ?_
  rintro e w1 ⟨rfl, rfl⟩
  go_wp2_with fail
  refine HC.out.mono ?_
  rintro e w2 ⟨rfl, rfl⟩
  go_wp2_with fail
  go_ret
  exact ⟨rfl, rfl⟩
set_option maxHeartbeats 1000000 in
theorem wisBy (h : WisAt base w l Y most U) (hU : U.length ≤ 100000) {n : List UInt8} (hn : n.length ≤ 1000) {E : List Int} (e1 : E.Pairwise (· < ·)) (e2 : ∀ a, a ∈ E ↔ (a, foldL n) ∈ U.map fkW) :
    Calls Tryz.prog 36 #[.pointer (some ⟨l, 0, none⟩), .string (bs n)] w (AllP E w) := by
  obtain ⟨t, b, X, T, h1, h2, h3, h4, h5, h6, h7, h8, h9, h10, h11⟩ := h
  have HR := Lib.hid (wisRel h4)
  have HT := Lib.hid (textW n w (by omega))
  have HH : Hid (∀ V, Below w.heap.size w V → Calls Tryz.prog 54 #[.pointer (some ⟨t, 0, none⟩), .string (bs (foldL n))] V (AllP E V)) := fun V hV => by
    obtain ⟨xs, y1, y2, _, y4⟩ := byAtIS (h5.below hV) (by simpa using hU) (okF hn)
    obtain rfl : xs = E := up_ext y1 e1 fun x => (y2 x).trans (e2 x).symm
    exact y4 V (Fr.refl _ _)
  clear h1 h2 h3 h4 h5 h6 h7 h8 h9 h10 h11
  go_enter Tryz.func36, Tryz.ntmps36
  go_wp2_with fail
  refine HR.out.mono ?_
  rintro e w1 ⟨rfl, rfl⟩
  go_wp2_with fail
  refine HT.out.mono ?_
  rintro e w2 ⟨rfl, b2⟩
  have B2 := Lib.hid b2
  clear b2
  go_wp2_with fail
  refine (HH.out w2 B2.out).mono ?_
  rintro e w3 ⟨⟨F, rfl, hT⟩, b3⟩
  have B3 := Lib.hid (And.intro hT b3)
  clear hT b3
  go_wp2_with fail
  go_ret
  obtain ⟨B, v, t0, t1, t2, t3, t4⟩ := B3.out.1
  have hz := B2.out.size
  exact ⟨⟨F, rfl, B, v, Nat.le_trans hz t0, t1, t2, t3, row_baseP t4 hz⟩, B2.out.trans (B3.out.2.mono hz)⟩
end
/-- what Add does -/
def AddWs (base l : Nat) (Y : Nat → Prop) (most : Int) (U : List WEnt) (a : Int) (n : List UInt8) (w : World) (e : Ending) (w' : World) : Prop :=
  ∃ Y' c U', e = .returned (.int .i64 c) ∧ (∀ j, Y' j → Y j ∨ w.heap.size ≤ j) ∧ Fr Y w w' ∧ WisAt base w' l Y' most U' ∧
    (U' = U ∧ (c = 6 ∧ (a, foldL n) ∈ U.map fkW ∨ c = 7 ∧ (a, foldL n) ∉ U.map fkW ∧ (∀ xs : List (List UInt8), xs.Pairwise (· < ·) → (∀ x, x ∈ xs ↔ (a, x) ∈ U.map fkW) → most ≤ xs.length)) ∨
     U' = U ++ [(a, n)] ∧ c = 0 ∧ (a, foldL n) ∉ U.map fkW ∧ (∀ xs : List (List UInt8), xs.Pairwise (· < ·) → (∀ x, x ∈ xs ↔ (a, x) ∈ U.map fkW) → (xs.length : Int) < most))
set_option maxRecDepth 100000 in
set_option maxHeartbeats 4000000 in
theorem wisAdd {base : Nat} {w : World} {l : Nat} {Y : Nat → Prop} {most : Int} {U : List WEnt} (h : WisAt base w l Y most U) (hbw : base ≤ w.heap.size) (hU : U.length ≤ 80000) {a : Int} (ha : OkKIS a) {n : List UInt8} (hn : n.length ≤ 1000) :
    Calls Tryz.prog 13 #[.pointer (some ⟨l, 0, none⟩), .int .i64 a, .string (bs n)] w (AddWs base l Y most U a n w) := by
  obtain ⟨t, b, X, T, h1, h2, h3, h4, h5, h6, h7, h8, h9, h10, h11⟩ := h
  have HT := Lib.hid (textW n w (by omega))
  have hlt := blk_lt h4
  have hbt := ownMW_lt h6
  have HH := Lib.hid (And.intro h1 (And.intro h2 (And.intro h3 (And.intro h4 (And.intro h5 (And.intro h6 (And.intro h7 (And.intro h8 (And.intro h9 (And.intro h10 h11))))))))))
  have HA := Lib.hid ha
  clear h1 h2 h3 h4 h5 h6 h7 h8 h9 h10 h11 ha
  go_enter Tryz.func13, Tryz.ntmps13
  go_wp2_with fail
  refine HT.out.mono ?_
  rintro e w1 ⟨rfl, b1⟩
  obtain ⟨h1, h2, h3, h4, h5, h6, h7, h8, h9, h10, h11⟩ := HH.out
  have f1 : Fr (fun _ => False) w w1 := Fr.of_below b1
  have k1 := f1.blk h4 fun e => e
  have HR := Lib.hid (wisRel k1)
  have hr1 := h5.fr f1 fun _ _ e => e
  have HAd := Lib.hid (relAddIS hr1 (Nat.le_trans hbw f1.size) (by simpa using (by omega : U.length ≤ 90000)) HA.out (okF hn))
  have H1 := Lib.hid (And.intro f1 (And.intro k1 (ownMW_same h6 (f1.block b hbt fun e => e))))
  clear h1 h2 h3 h4 h5 h6 h7 h8 h9 h10 h11 f1 k1 hr1 b1
  go_wp2_with fail
  refine HR.out.mono ?_
  rintro e w2 ⟨rfl, rfl⟩
  go_wp2_with fail
  refine HAd.out.mono ?_
  intro e w3 hA3
  obtain ⟨X', c, L', rfl, x3, f3, r3, q3⟩ := hA3.any
  obtain ⟨h1, h2, h3, h4, h5, h6, h7, h8, h9, h10, h11⟩ := HH.out
  obtain ⟨f1, k1, m1⟩ := H1.out
  have k3 := f3.blk k1 h8
  have m3 := ownMW_same m1 (f3.block b (ownMW_lt m1) h9)
  have hz1 := f1.size
  have nl : ¬ X' l := fun e => by rcases x3 l e with e | e; exact h8 e; omega
  have nb : ¬ X' b := fun e => by rcases x3 b e with e | e; exact h9 e; omega
  have hfX : Fr Y w w3 := (f1.mono (Y := Y) fun _ _ e => e.elim).trans3 f3 fun k _ e => (h11 k).2 (.inr (.inr e))
  rcases q3 with ⟨rfl, q3⟩ | ⟨rfl, rfl, q3, q4⟩
  · have hne : ¬ c = 0 := by rcases q3 with ⟨rfl, _⟩ | ⟨rfl, _⟩ <;> decide
    have hc0 : (c == 0) = false := by simpa using hne
    have HE : Hid (AddWs base l Y most U a n w (.returned (.int .i64 c)) w3) := ⟨fun j => j = l ∨ j = b ∨ X' j, c, U, rfl, fun j hj => by
      rcases hj with rfl | rfl | hj
      · exact .inl ((h11 _).2 (.inl rfl))
      · exact .inl ((h11 _).2 (.inr (.inl rfl)))
      · rcases x3 j hj with e | e
        · exact .inl ((h11 _).2 (.inr (.inr e)))
        · exact .inr (by omega), hfX, ⟨t, b, X', T, h1, h2, h3, k3, r3, m3, h7, nl, nb, h10, fun j => Iff.rfl⟩, .inl ⟨rfl, q3⟩⟩
    clear hA3 x3 f3 r3 q3 h1 h2 h3 h4 h5 h6 h7 h8 h9 h10 h11 f1 k1 m1 k3 m3 nl nb hfX hne
    go_wp2_with fail
    go_ret
    exact HE.out
  · have c1 := blk_cell k3 1
    have hkl : (Lit.int .i64 a).wf = true ∧ (foldL n).length ≤ maxLen := ⟨HA.out, okF hn⟩
    obtain ⟨w4, hp4, m4, f4⟩ := putW m3 ⟨(a, foldL n), hkl⟩ n (by omega) (Nat.le_trans h7.len (by omega))
    unfold kVW at hp4
    dsimp only at hp4
    have k4 := f4.blk k3 h3
    have r4 := r3.fr f4 fun j hj e => nb (e ▸ hj)
    have HE : Hid (AddWs base l Y most U a n w (.returned (.int .i64 0)) w4) := ⟨fun j => j = l ∨ j = b ∨ X' j, 0, U ++ [(a, n)], rfl, fun j hj => by
      rcases hj with rfl | rfl | hj
      · exact .inl ((h11 _).2 (.inl rfl))
      · exact .inl ((h11 _).2 (.inr (.inl rfl)))
      · rcases x3 j hj with e | e
        · exact .inl ((h11 _).2 (.inr (.inr e)))
        · exact .inr (by omega), hfX.trans3 f4 fun k _ e => (h11 k).2 (.inr (.inl e)), ⟨t, b, X', _, h1, h2, h3, k4, by rw [List.map_append]; exact r4, m4, h7.put (u := (a, n)) rfl q3, nl, nb, fun u hu => by
      rcases List.mem_append.1 hu with e | e
      · exact h10 u e
      · rw [List.mem_singleton.1 e]; exact ⟨HA.out, hn⟩, fun j => Iff.rfl⟩, .inr ⟨rfl, rfl, q3, q4⟩⟩
    clear hA3 x3 f3 r3 q3 q4 h1 h2 h3 h4 h5 h6 h7 h8 h9 h10 h11 f1 k1 m1 k3 m3 nl nb hfX m4 f4 k4 r4 hkl
    go_wp2_with fail
    go_ret
    exact HE.out
end Go.Proofs.YtnoeblnljfnecaaGreatDoor
end
