/- Texts of this proof, one behind the other. -/
import Derived.Test.YtadbpgkhenbpfaaSendqPlaysG5
import Derived.Test.YtadbpgkhenbpfaaChecked
import Derived.Test.YtadbpgkhenbpfaaSendqPlaysG2
import Derived.RangeFuncKeeps
import Derived.Outline
import Derived.Deep.QuietTactic
import Derived.BigQuiet
import Derived.Laws.StructEq
import Derived.ChangeKeysEq
import Derived.Test.YtadbpgkhenbpfaaSendqPlaysG1
import Derived.Sort.QuietThIn
import Derived.Sort.QuietTacIn
import Derived.StillTail
import Derived.TacticsIn
section
/- Layer 8: the document's queue: its mathematics, and its Waits and Drain. -/
namespace Go.Proofs.Ytadbpgkhenbpfaa
set_option linter.unusedVariables false
set_option linter.unusedSimpArgs false
open Go Go.RowKit Go.Lib Go.Sort Go.Shelf

/-- the bytes of lines -/
def flatQ (L : List (List UInt8)) : List UInt8 := (L.map (· ++ [13, 10])).flatten
theorem flatQ_cons (x : List UInt8) (r : List (List UInt8)) : flatQ (x :: r) = (x ++ [13]) ++ 10 :: flatQ r := by simp [flatQ]
theorem flatQ_add (L : List (List UInt8)) (x : List UInt8) : flatQ (L ++ [x]) = flatQ L ++ x ++ [13, 10] := by simp [flatQ]
/-- the lines none of whose bytes went, of k bytes that went -/
def docQ : Nat → List (List UInt8) → List (List UInt8)
  | _, [] => []
  | k, x :: r => (if k = 0 then [x] else []) ++ docQ (k - (x.length + 2)) r
theorem trimQ_end (x : List UInt8) : trimQ ((x ++ [13]) ++ [10]) = x := by
  have h : Lib.hasSuffix ((x ++ [13]) ++ [10]) [13, 10] = true := by
    simp [Lib.hasSuffix]
  unfold trimQ Lib.trimSuffix
  rw [if_pos h]
  simp
theorem docQ_zero : ∀ (L : List (List UInt8)), docQ 0 L = L
  | [] => rfl
  | x :: r => by rw [docQ, Nat.zero_sub, docQ_zero r]; rfl
theorem no10_end {x : List UInt8} (h : (10 : UInt8) ∉ x) : (10 : UInt8) ∉ x ++ [13] := by simp [h]
theorem whole_zero : ∀ (L : List (List UInt8)), (∀ x ∈ L, (10 : UInt8) ∉ x) → (linesL (flatQ L)).map trimQ = L
  | [], _ => rfl
  | x :: r, h => by
    rw [flatQ_cons, linesL_cut _ _ (no10_end (h x (List.mem_cons_self ..))), List.map_cons, trimQ_end, whole_zero r fun y hy => h y (List.mem_cons_of_mem _ hy)]
theorem whole_doc : ∀ (L : List (List UInt8)) (k : Nat), (∀ x ∈ L, (10 : UInt8) ∉ x) → k ≤ (flatQ L).length →
    ((linesL ((flatQ L).drop k)).drop (if decide (k ≠ 0 ∧ (flatQ L)[k - 1]? ≠ some 10) then 1 else 0)).map trimQ = docQ k L
  | L, 0, h, _ => by
    rw [docQ_zero, List.drop_zero]
    simpa using whole_zero L h
  | [], k + 1, _, hk => by simp [flatQ] at hk
  | x :: r, k + 1, h, hk => by
    have hx := h x (List.mem_cons_self ..)
    have hr : ∀ y ∈ r, (10 : UInt8) ∉ y := fun y hy => h y (List.mem_cons_of_mem _ hy)
    have hd : docQ (k + 1) (x :: r) = docQ (k + 1 - (x.length + 2)) r := by rw [docQ, if_neg (by omega)]; rfl
    rw [hd]
    rw [flatQ_cons] at hk ⊢
    have hy := no10_end hx
    obtain ⟨y, hyy⟩ : ∃ y, x ++ [13] = y := ⟨_, rfl⟩
    have hyl : y.length = x.length + 1 := by rw [← hyy]; simp
    rw [hyy] at hk hy ⊢
    rw [show x.length + 2 = y.length + 1 from by omega]
    by_cases hc : k + 1 < y.length + 1
    · have h1 : (y ++ 10 :: flatQ r)[k + 1 - 1]? ≠ some 10 := by
        rw [List.getElem?_append_left (by omega)]
        intro e
        exact hy (List.mem_of_getElem? e)
      rw [if_pos (by simpa using h1), List.drop_append_of_le_length (by omega), linesL_cut _ _ (fun hm => hy (List.mem_of_mem_drop hm)), List.drop_succ_cons, List.drop_zero, whole_zero r hr, show k + 1 - (y.length + 1) = 0 from by omega, docQ_zero]
    · obtain ⟨j, hj⟩ : ∃ j, k + 1 = y.length + 1 + j := ⟨k + 1 - (y.length + 1), by omega⟩
      have hjl : j ≤ (flatQ r).length := by rw [List.length_append, List.length_cons] at hk; omega
      have e1 : (y ++ 10 :: flatQ r).drop (k + 1) = (flatQ r).drop j := by
        rw [hj, List.drop_append, List.drop_eq_nil_of_le (by omega), List.nil_append, show y.length + 1 + j - y.length = j + 1 from by omega, List.drop_succ_cons]
      have e2 : (k + 1 ≠ 0 ∧ (y ++ 10 :: flatQ r)[k + 1 - 1]? ≠ some 10) ↔ (j ≠ 0 ∧ (flatQ r)[j - 1]? ≠ some 10) := by
        rw [hj, List.getElem?_append_right (by omega)]
        cases j with
        | zero => simp
        | succ i => rw [show y.length + 1 + (i + 1) - 1 - y.length = i + 1 from by omega, List.getElem?_cons_succ]; simp
      rw [e1, decide_eq_decide.2 e2, whole_doc r j hr hjl, hj, show y.length + 1 + j - (y.length + 1) = j from by omega]
/-- the document's queue: its lines, its bytes, how many went -/
def DocQ (s : QS) (L : List (List UInt8)) (all : List UInt8) (k : Nat) : Prop :=
  all = flatQ L ∧ (∀ x ∈ L, (10 : UInt8) ∉ x) ∧ k ≤ all.length ∧ s.ws = all.drop k ∧ s.sent = k ∧ s.parted = decide (k ≠ 0 ∧ all[k - 1]? ≠ some 10)
theorem docQ_whole {s : QS} {L : List (List UInt8)} {all : List UInt8} {k : Nat} (h : DocQ s L all k) : wholeQ s = docQ k L := by
  obtain ⟨rfl, h2, h3, h4, h5, h6⟩ := h
  unfold wholeQ
  rw [h4, h6]
  exact whole_doc L k h2 h3
theorem docQ_new (most : Int) : DocQ ⟨most, [], 0, false, false⟩ [] [] 0 := ⟨rfl, (fun x h => absurd h (by simp)), Nat.le_refl _, rfl, rfl, rfl⟩
theorem docQ_drain {s : QS} {L : List (List UInt8)} {all : List UInt8} {k : Nat} (h : DocQ s L all k) (n : Int) : DocQ (drainS s n) L all (k + goesQ s n) := by
  obtain ⟨h1, h2, h3, h4, h5, h6⟩ := h
  have hg := goes_le s n
  have hl : s.ws.length = all.length - k := by rw [h4, List.length_drop]
  unfold drainS
  split
  next h0 => rw [h0]; exact ⟨h1, h2, h3, h4, h5, h6⟩
  next h0 =>
    refine ⟨h1, h2, by omega, by dsimp only; rw [h4, List.drop_drop], by dsimp only; rw [h5]; omega, ?_⟩
    dsimp only
    rw [h4, List.getElem?_drop, show k + (goesQ s n - 1) = k + goesQ s n - 1 from by omega]
    exact decide_eq_decide.2 ⟨fun h => ⟨by omega, h⟩, fun h => h.2⟩
theorem docQ_push {s : QS} {L : List (List UInt8)} {all : List UInt8} {k : Nat} (h : DocQ s L all k) (l : List UInt8) : if pushB s l then DocQ (pushS s l) (L ++ [l]) (all ++ l ++ [13, 10]) k else DocQ (pushS s l) L all k := by
  obtain ⟨h1, h2, h3, h4, h5, h6⟩ := h
  unfold pushB pushS
  by_cases hf : fitQ s l = true
  · by_cases hr : roomQ s l = true
    · rw [if_pos (by rw [hf, hr]; rfl), if_pos hf, if_pos hr]
      refine ⟨by rw [flatQ_add, h1], fun x hx => ?_, by simp; omega, ?_, h5, ?_⟩
      · rcases List.mem_append.1 hx with hx | hx
        · exact h2 x hx
        · rw [List.mem_singleton] at hx
          subst hx
          unfold fitQ at hf
          rw [Bool.and_eq_true] at hf
          exact fun hm => (brkB_iff.1 (textL_iff.1 hf.2 10 hm)).2.2 rfl
      · dsimp only
        rw [List.append_assoc, List.append_assoc, List.drop_append_of_le_length h3, h4]
      · dsimp only
        rw [h6]
        refine decide_eq_decide.2 (and_congr_right fun hk => ?_)
        rw [List.append_assoc, List.getElem?_append_left (by omega)]
    · rw [if_neg (by rw [hf]; simpa using hr), if_pos hf, if_neg hr]
      exact ⟨h1, h2, h3, h4, h5, h6⟩
  · rw [if_neg (by simp [hf]), if_neg hf]
    exact ⟨h1, h2, h3, h4, h5, h6⟩
/-- the document's queue as it lies -/
def DAt (base : Nat) (W : World) (x : Nat) (ol : Option Nat) (most : Int) (L : List (List UInt8)) (all : ByteArray) (k : Nat) (over : Bool) : Prop :=
  ∃ v, W.heap[x]? = some (.cells #[.int .i64 most, v, .string all, .int .i64 k, .bool over] 33 (0, 0)) ∧ v.ownBlock = ol ∧ OwnT base W v L ∧ ol ≠ some x
theorem d_fr {base : Nat} {X : Nat → Prop} {W W' : World} {x : Nat} {ol : Option Nat} {most : Int} {L : List (List UInt8)} {all : ByteArray} {k : Nat} {over : Bool} (h : DAt base W x ol most L all k over) (hf : Fr X W W') (hq : ¬ X x) (ho : ∀ k, ol = some k → ¬ X k) : DAt base W' x ol most L all k over := by
  obtain ⟨v, h1, rfl, h3, h4⟩ := h
  exact ⟨v, hf.blk h1 hq, rfl, ownT_kept h3 fun g hg => hf.block g (h3.lt g hg).2 (ho g hg), h4⟩
theorem d_below {base : Nat} {W W' : World} {x : Nat} {ol : Option Nat} {most : Int} {L : List (List UInt8)} {all : ByteArray} {k : Nat} {over : Bool} (h : DAt base W x ol most L all k over) (hb : RowKit.Below W.heap.size W W') : DAt base W' x ol most L all k over :=
  d_fr h (Fr.of_below (X := fun _ => False) hb) (fun e => e) fun _ _ e => e
theorem d_lt {base : Nat} {W : World} {x : Nat} {ol : Option Nat} {most : Int} {L : List (List UInt8)} {all : ByteArray} {k : Nat} {over : Bool} (h : DAt base W x ol most L all k over) : x < W.heap.size := by
  obtain ⟨v, h1, _⟩ := h
  exact blk_lt h1
theorem d_blocks {base : Nat} {W : World} {x : Nat} {ol : Option Nat} {most : Int} {L : List (List UInt8)} {all : ByteArray} {k : Nat} {over : Bool} (h : DAt base W x ol most L all k over) : ∀ k, ol = some k → base ≤ k ∧ k < W.heap.size := by
  obtain ⟨v, _, rfl, b, _⟩ := h
  exact fun k hk => b.lt k hk
/-- what waits -/
def waitsD (all : ByteArray) (k : Nat) : ByteArray := all.extract k all.size
theorem waits_list (all : ByteArray) (k : Nat) : (waitsD all k).data.toList = all.data.toList.drop k := by simp [waitsD, List.take_of_length_le]
theorem waits_size (all : ByteArray) (k : Nat) : (waitsD all k).size = all.size - k := by
  have h := congrArg List.length (waits_list all k)
  rw [List.length_drop] at h
  exact h
set_option maxRecDepth 100000 in
set_option maxHeartbeats 4000000 in
theorem d_waits {base : Nat} {W : World} {x : Nat} {ol : Option Nat} {most : Int} {L : List (List UInt8)} {all : ByteArray} {k : Nat} {over : Bool} (h : DAt base W x ol most L all k over) (hk : k ≤ all.size) (hl : all.size ≤ 1000000) :
    Calls Try.prog 15 #[.pointer (some ⟨x, 0, none⟩)] W fun e w' => e = .returned (.string (waitsD all k)) ∧ ∃ n, w' = W.drewN n := by
  obtain ⟨v, h1, _⟩ := h
  have c2 := blk_cell h1 2
  have c3 := blk_cell h1 3
  have hs := blk_lt h1
  have p1 : (k : Int) ≤ (all.size : Int) := by omega
  clear h1
  go_enter Try.func15, Try.ntmps15
  go_wp2_with fail
  go_quiet (fail)
  all_goals go_wp2_with fail
  go_ret
  exact ⟨rfl, _, rfl⟩
/-- how many bytes go -/
def goesD (all : ByteArray) (k : Nat) (n : Int) : Nat := (max 0 (min n ((waitsD all k).size : Int))).toNat
set_option maxRecDepth 100000 in
set_option maxHeartbeats 4000000 in
theorem d_drain {base : Nat} {W : World} {x : Nat} {ol : Option Nat} {most : Int} {L : List (List UInt8)} {all : ByteArray} {k : Nat} {over : Bool} (h : DAt base W x ol most L all k over) (hk : k ≤ all.size) (hl : all.size ≤ 1000000) (n : Int) :
    Calls Try.prog 10 #[.pointer (some ⟨x, 0, none⟩), .int .i64 n] W fun e w' => e = .returned (.string (bs ((waitsD all k).data.toList.take (goesD all k n)))) ∧ DAt base w' x ol most L all (k + goesD all k n) over ∧ Fr (fun b => b = x) W w' := by
  obtain ⟨G, hG⟩ : ∃ G, goesD all k n = G := ⟨_, rfl⟩
  obtain ⟨D, hD⟩ : ∃ D, waitsD all k = D := ⟨_, rfl⟩
  have hDs : D.size = all.size - k := by rw [← hD, waits_size]
  have hGD : (G : Int) = max 0 (min n (D.size : Int)) := by rw [← hG, goesD, hD]; omega
  have HW := Lib.hid (d_waits h hk hl)
  have HH := Lib.hid h
  rw [hD] at HW
  rw [hG, hD]
  have hGl : G ≤ D.size := by omega
  have hex : D.extract 0 G = bs (D.data.toList.take G) := by apply ba_ext; simp [bs]
  have hGb : G ≤ 1000000 := by omega
  have hDb : D.size ≤ 1000000 := by omega
  have hwx : IntKind.i64.wrap ((k : Int) + (G : Int)) = ((k + G : Nat) : Int) := by rw [IntWalk.i64_in _ (by omega)]; omega
  have fin : ∀ q, DAt base ((W.drewN q).setCell ⟨x, 3, none⟩ (.int .i64 ((k + G : Nat) : Int))) x ol most L all (k + G) over ∧ Fr (fun b => b = x) W ((W.drewN q).setCell ⟨x, 3, none⟩ (.int .i64 ((k + G : Nat) : Int))) := fun q => by
    obtain ⟨v, h1, ho, h3, h4⟩ := h
    have h5 : (W.drewN q).heap[x]? = some (.cells #[.int .i64 most, v, .string all, .int .i64 k, .bool over] 33 (0, 0)) := h1
    have hf : Fr (fun b => b = x) W ((W.drewN q).setCell ⟨x, 3, none⟩ (.int .i64 ((k + G : Nat) : Int))) := ((Fr.refl (fun b => b = x) W).drewN q).setCell ⟨x, 3, none⟩ rfl _
    exact ⟨⟨v, blk_set h5 3 _, ho, ownT_kept h3 fun g hg => hf.block g (h3.lt g hg).2 fun e => h4 (by rw [← ho, hg, e]), h4⟩, hf⟩
  have HF := Lib.hid fin
  have HE := Lib.hid hex
  have HGD := Lib.hid hGD
  clear hG hD hDs hex h hGD fin
  go_enter Try.func10, Try.ntmps10
  go_wp2_with fail
  refine HW.out.mono ?_
  rintro e w1 ⟨rfl, q, rfl⟩
  obtain ⟨v, h1, _⟩ := HH.out
  have h5 : (W.drewN q).heap[x]? = some (.cells #[.int .i64 most, v, .string all, .int .i64 k, .bool over] 33 (0, 0)) := h1
  have c3 := blk_cell h5 3
  have z3 := blk_free h5 3
  clear h1 h5 HW HH
  by_cases n0 : n < 0
  · obtain rfl : G = 0 := by have := HGD.out; omega
    have q1 : ¬ ((D.size : Int) < 0) := by omega
    clear HGD
    go_wp2_with fail
    go_ret
    exact ⟨congrArg (fun x => Ending.returned (.string x)) (show ByteArray.empty = bs (D.data.toList.take 0) from rfl), HF.out q⟩
  · by_cases n1 : (D.size : Int) < n
    · obtain rfl : G = D.size := by have := HGD.out; omega
      clear HGD
      go_wp2_with fail
      go_ret
      have hd : D = bs (D.data.toList.take D.size) := ba_ext (show D.data.toList = D.data.toList.take D.size from (List.take_of_length_le (show D.data.toList.length ≤ D.size from Nat.le_refl _)).symm)
      exact ⟨congrArg (fun x => Ending.returned (.string x)) hd, HF.out q⟩
    · obtain rfl : n = G := by have := HGD.out; omega
      clear HGD
      go_wp2_with fail
      go_ret
      exact ⟨by rw [← HE.out]; rfl, HF.out q⟩
end Go.Proofs.Ytadbpgkhenbpfaa
end
section
/- Layer 8: the document's Push. -/
namespace Go.Proofs.Ytadbpgkhenbpfaa
set_option linter.unusedVariables false
set_option linter.unusedSimpArgs false
open Go Go.RowKit Go.Lib Go.Sort Go.Shelf

def fitD (over : Bool) (l : ByteArray) : Bool := !over && decide (l.size ≤ 510) && textL l.data.toList
def roomD (most : Int) (all : ByteArray) (k : Nat) (l : ByteArray) : Bool := decide (((waitsD all k).size : Int) + l.size + 2 ≤ most)
def pushD (most : Int) (all : ByteArray) (k : Nat) (over : Bool) (l : ByteArray) : Bool := fitD over l && roomD most all k l
def DPush (base : Nat) (x : Nat) (ol : Option Nat) (most : Int) (L : List (List UInt8)) (all : ByteArray) (k : Nat) (over : Bool) (l : ByteArray) (w : World) (e : Ending) (w' : World) : Prop :=
  e = .returned (.bool (pushD most all k over l)) ∧ (∃ ol', DAt base w' x ol' most (if pushD most all k over l then L ++ [l.data.toList] else L) (if pushD most all k over l then all ++ l ++ ⟨#[13, 10]⟩ else all) k (over || fitD over l && !roomD most all k l) ∧ ∀ j, ol' = some j → ol = some j ∨ w.heap.size ≤ j) ∧ Fr (fun j => j = x) w w'
theorem ownT_all {base : Nat} {w : World} {v : Value} {xs : List (List UInt8)} (h : w.ownsRow base 9 1 v (0 + xs.length) ([] ++ xs.map encT)) : OwnT base w v xs := by
  unfold OwnT; rw [Nat.zero_add] at h; exact h
theorem srcT {w : World} {base : Nat} {A : Option Addr} {c : Nat} {xs : List (List UInt8)} (h : OwnT base w (.slice A xs.length c) xs) : Src Try.prog 1 31 (.slice A xs.length c) xs.length (xs.map encT) w := by
  rcases h.2 with ⟨h1, h2⟩ | ⟨g, cap, cur, h1, h3, h4, h5, _, h6, h7⟩
  · have h3 : xs = [] := List.length_eq_zero_iff.1 h2
    subst h3
    injection h1 with q1 q2 q3
    subst q1
    exact Src.ofNil w Try.underlying31 c
  · injection h1 with q1 q2 q3
    subst q1
    exact Src.ofSlice w Try.underlying31 ⟨g, 0, none⟩ xs.length c (xs.map encT) (by simp) (fun j u hu => h.cells (g := g) rfl j u hu) (by
      intro u hu
      obtain ⟨y, _, rfl⟩ := List.mem_map.1 hu
      rfl)
set_option maxRecDepth 100000 in
set_option maxHeartbeats 4000000 in
theorem d_push {base : Nat} {w : World} {x : Nat} {ol : Option Nat} {most : Int} {L : List (List UInt8)} {all : ByteArray} {k : Nat} {over : Bool} (h : DAt base w x ol most L all k over) (hbw : base ≤ w.heap.size) (hk : k ≤ all.size) (hl : all.size ≤ 100000) (hL : L.length ≤ 100000) (hm : 0 ≤ most) (hm2 : most ≤ 65536) (l : ByteArray) (hll : l.size ≤ 1000000) :
    Calls Try.prog 12 #[.pointer (some ⟨x, 0, none⟩), .string l] w (DPush base x ol most L all k over l w) := by
  obtain ⟨i0, hi, hz0, hz1, hz2⟩ := info_parts Try.infoT
  have same : fitD over l = false → DPush base x ol most L all k over l w (.returned (.bool false)) w := fun hf => by
    have h2 : pushD most all k over l = false := by unfold pushD; rw [hf]; rfl
    refine ⟨by rw [h2], ⟨ol, ?_, fun j hj => .inl hj⟩, Fr.refl _ _⟩
    rw [h2, hf]
    simpa using h
  have HS := Lib.hid same
  have HW : ∀ m, Calls Try.prog 15 #[.pointer (some ⟨x, 0, none⟩)] (w.drewN m) fun e w' => e = .returned (.string (waitsD all k)) ∧ ∃ n, w' = (w.drewN m).drewN n := fun m => d_waits (d_fr h ((Fr.refl (fun _ => False) _).drewN m) (fun e => e) fun _ _ e => e) hk (by omega)
  have HWW := Lib.hid HW
  clear HW same
  have hws := waits_size all k
  obtain ⟨D, hD⟩ : ∃ D, waitsD all k = D := ⟨_, rfl⟩
  have hroom : roomD most all k l = decide ((D.size : Int) + l.size + 2 ≤ most) := by rw [← hD]; rfl
  rw [hD] at hws HWW
  obtain ⟨v, h1, ho, h3, h4⟩ := h
  obtain ⟨A, c, rfl⟩ := row_slice h3
  have c0 := blk_cell h1 0
  have c4 := blk_cell h1 4
  have f4 := blk_free h1 4
  have hxl := blk_lt h1
  have H := Lib.hid (And.intro h1 (And.intro ho (And.intro h3 h4)))
  have HR := Lib.hid (And.intro hroom hD)
  have hDs : D.size ≤ 100000 := by omega
  clear h1 ho h3 h4 hroom hws hD
  by_cases p1 : over = true
  · subst p1
    go_enter Try.func12, Try.ntmps12
    go_wp2_with fail
    go_ret
    exact HS.out (by simp [fitD])
  have p1 : over = false := by simpa using p1
  subst p1
  by_cases p2 : l.size ≤ 510
  case neg =>
    have p3 : (510 : Int) < (l.size : Int) := by omega
    go_enter Try.func12, Try.ntmps12
    go_wp2_with fail
    go_ret
    exact HS.out (by simp [fitD]; omega)
  have p3 : ¬ ((510 : Int) < (l.size : Int)) := by omega
  obtain ⟨b, hb⟩ : ∃ b, textL l.data.toList = b := ⟨_, rfl⟩
  have ht := text_r l w hll
  rw [hb] at ht
  have HT := Lib.hid ht
  have HB := Lib.hid hb
  clear ht hb
  cases b with
  | false =>
    go_enter Try.func12, Try.ntmps12
    go_wp2_with fail
    refine HT.out.mono ?_
    rintro e w1 ⟨rfl, rfl⟩
    go_wp2_with fail
    go_ret
    exact HS.out (by simp [fitD, HB.out])
  | true =>
    have hfit : fitD false l = true := by
      simp only [fitD, Bool.not_false, Bool.true_and, Bool.and_eq_true, decide_eq_true_eq]
      exact ⟨by omega, HB.out⟩
    have hw1 : IntKind.i64.wrap ((D.size : Int) + (l.size : Int)) = (D.size : Int) + (l.size : Int) := IntWalk.i64_in _ (by omega)
    have hw2 : IntKind.i64.wrap ((D.size : Int) + (l.size : Int) + 2) = (D.size : Int) + (l.size : Int) + 2 := IntWalk.i64_in _ (by omega)
    by_cases p4 : (D.size : Int) + l.size + 2 ≤ most
    · have p5 : ¬ (most < (D.size : Int) + l.size + 2) := by omega
      have hroom : roomD most all k l = true := by rw [HR.out.1]; simpa using p4
      have HFR := Lib.hid (And.intro hfit hroom)
      clear hfit hroom
      go_enter Try.func12, Try.ntmps12
      go_wp2_with fail
      refine HT.out.mono ?_
      rintro e w1 ⟨rfl, rfl⟩
      go_wp2_with fail
      go_quiet ((go_at_call 15; exact Calls.quiet_of (HWW.out _)))
      clear HWW HS HT
      rename_i nq
      have k1 : (w.drewN nq).heap[x]? = some (.cells #[.int .i64 most, .slice A L.length c, .string all, .int .i64 k, .bool false] 33 (0, 0)) := H.out.1
      have o1 : OwnT base (w.drewN nq) (.slice A L.length c) L := H.out.2.2.1
      obtain ⟨w1, hw⟩ : ∃ w1, w.drewN nq = w1 := ⟨_, rfl⟩
      have fd : Fr (fun _ => False) w w1 := by rw [← hw]; exact (Fr.refl _ _).drewN _
      have hzd : w1.heap.size = w.heap.size := by rw [← hw]; rfl
      rw [hw] at k1 o1 ⊢
      have HZ := Lib.hid hzd
      have hbw1 : base ≤ w1.heap.size := by omega
      have hxw1 : x < w1.heap.size := by omega
      clear hzd
      have kN := heap_alloc_new w1 (.cells #[] 9)
      have kx := blk_alloc k1 (.cells #[] 9)
      have d1 := blk_cell kx 1
      go_wp2_with (at_builtin; refine Hid.out ?_)
      refine Lib.hid ?_
      obtain ⟨W2, hW2⟩ : ∃ W2, w1.alloc (.cells #[] 9) = W2 := ⟨_, rfl⟩
      have f2 : Fr (fun _ => False) w1 W2 := by rw [← hW2]; exact (Fr.refl _ _).alloc _
      have z2 : W2.heap.size = w1.heap.size + 1 := by rw [← hW2]; simp
      have o2 : OwnT base W2 (.slice A L.length c) L := ownT_kept o1 fun g hg => f2.block g (o1.lt g hg).2 fun e => e
      rw [hW2] at kN kx ⊢
      have hown : W2.ownsRow w1.heap.size 9 1 (.slice (some ⟨w1.heap.size, 0, none⟩) 0 0) 0 [] := ⟨by simp, .inr ⟨w1.heap.size, 0, #[], rfl, Nat.le_refl _, kN, by simp, by decide, by simp, by simp⟩⟩
      refine wpList_app_u rfl _ _ 31 31 rfl w1.heap.size 9 i0 _ 1 16 Try.underlying31 hi hz0 hz1 hz2 rfl _ 0 [] rfl hown (.slice A L.length c) L.length (L.map encT) rfl (srcT o2) (by omega) (by decide) (by omega) ?_
      intro v3 W3 o3 f3 t3
      obtain ⟨A3, c3, ev3⟩ := row_slice o3
      subst ev3
      rw [Nat.zero_add, List.nil_append] at o3
      rw [Nat.zero_add] at t3 ⊢
      have k3 := f3.blk kx (fun e => by have : w1.heap.size = x := Option.some.inj e; omega)
      have hz3 := f3.size
      have t3' : ∀ j, (Value.slice A3 L.length c3).ownBlock = some j → w1.heap.size ≤ j := fun j hj => by
        rcases t3 j hj with e | e
        · have : w1.heap.size = j := Option.some.inj e; omega
        · omega
      have H3 := Lib.hid (And.intro o3 (And.intro f2 (And.intro f3 t3')))
      clear hW2 o2 hown f3 t3 t3' d1 kN kx k1 o1
      go_wp2_with (at_builtin; refine Hid.out ?_)
      refine Lib.hid ?_
      refine wpList_one_t rfl _ _ 31 rfl w1.heap.size 9 i0 _ 1 16 Try.underlying31 hi hz0 hz1 hz2 rfl (by decide) _ L.length (L.map encT) rfl H3.out.1 #[.string l] W3.heap.size rfl rfl rfl (by intro u hu; simp at hu; subst hu; rfl) (by omega) (by decide) (by omega) ?_
      intro v4 W4 o4 f4' t4
      obtain ⟨A4, c4', ev4⟩ := row_slice o4
      subst ev4
      obtain ⟨o3, f2, f3, t3'⟩ := H3.out
      have o4' : OwnT w1.heap.size W4 (.slice A4 (L.length + 1) c4') (L ++ [l.data.toList]) := ownT_snoc (xs := L) (x := l.data.toList) (by
        have e1 : encT l.data.toList = .string l := by rw [encT, bs_of]
        rw [e1]
        exact o4)
      have k4 := f4'.blk k3 (fun e => by have := t3' x e; omega)
      have h4x : ∀ j, (Value.slice A4 (L.length + 1) c4').ownBlock = some j → w1.heap.size ≤ j := fun j hj => by
        rcases t4 j hj with e | e
        · exact t3' j e
        · omega
      have fall : Fr (fun j => j = x) w W4 := (((fd.mono (Y := fun j => j = x) fun _ _ e => e.elim).trans3 f2 fun _ _ e => e.elim).trans3 f3 fun j hj e => by have : w1.heap.size = j := Option.some.inj e; have := HZ.out; omega).trans3 f4' fun j hj e => by have := t3' j e; have := HZ.out; omega
      have d4 := blk_cell k4 1
      have g4 := blk_free k4 1
      have k5 := blk_set k4 1 (Value.slice A4 (L.length + 1) c4')
      have d5 := blk_cell k5 2
      have g5 := blk_free k5 2
      have k6 := blk_set k5 2 (Value.string (all ++ l ++ ⟨#[13, 10]⟩))
      have H4 := Lib.hid (And.intro o4' (And.intro k6 (And.intro h4x fall)))
      clear o4 o4' t4 f4' o3 f2 f3 t3' h4x fall k4 k5 k6 H3
      go_wp2_with fail
      go_ret
      obtain ⟨o4', k6, h4x, fall⟩ := H4.out
      obtain ⟨hfit, hroom⟩ := HFR.out
      have hp : pushD most all k false l = true := by unfold pushD; rw [hfit, hroom]; rfl
      have hx4 : (Value.slice A4 (L.length + 1) c4').ownBlock ≠ some x := fun e => by have := h4x x e; omega
      refine ⟨by rw [hp]; rfl, ⟨_, ?_, fun j hj => .inr (HZ.out ▸ h4x j hj)⟩, ?_⟩
      · rw [hp, hfit, hroom]
        exact ⟨_, k6, rfl, ownT_kept (ownT_base o4' (by omega)) fun g hg => (heap_setCell_other _ _ g _ fun e => by cases e; exact hx4 hg).trans (heap_setCell_other _ _ g _ fun e => by cases e; exact hx4 hg), hx4⟩
      · exact ((fall.setCell ⟨x, 1, none⟩ rfl _).setCell ⟨x, 2, none⟩ rfl _)
    · have p5 : most < (D.size : Int) + l.size + 2 := by omega
      have hroom : roomD most all k l = false := by rw [HR.out.1]; simpa using p4
      have HFR := Lib.hid (And.intro hfit hroom)
      clear hfit hroom
      go_enter Try.func12, Try.ntmps12
      go_wp2_with fail
      refine HT.out.mono ?_
      rintro e w1 ⟨rfl, rfl⟩
      go_wp2_with fail
      go_quiet ((go_at_call 15; exact Calls.quiet_of (HWW.out _)))
      clear HWW HS HT
      go_wp2_with fail
      go_ret
      rename_i nq
      obtain ⟨hfit, hroom⟩ := HFR.out
      obtain ⟨h1, ho, h3, h4⟩ := H.out
      have hp : pushD most all k false l = false := by unfold pushD; rw [hroom, Bool.and_false]
      have hf : Fr (fun b => b = x) w ((w.drewN nq).setCell ⟨x, 4, none⟩ (.bool true)) := ((Fr.refl (fun b => b = x) w).drewN nq).setCell ⟨x, 4, none⟩ rfl _
      have h5 : (w.drewN nq).heap[x]? = some (.cells #[.int .i64 most, .slice A L.length c, .string all, .int .i64 k, .bool false] 33 (0, 0)) := h1
      refine ⟨by rw [hp]; rfl, ⟨ol, ?_, fun j hj => .inl hj⟩, hf⟩
      rw [hp, hfit, hroom]
      exact ⟨_, blk_set h5 4 _, ho, ownT_kept h3 fun g hg => hf.block g (h3.lt g hg).2 fun e => h4 (by rw [← ho, hg, e]), h4⟩
end Go.Proofs.Ytadbpgkhenbpfaa
end
section
/- Layer 8: the document's Lines. -/
namespace Go.Proofs.Ytadbpgkhenbpfaa
set_option linter.unusedVariables false
set_option linter.unusedSimpArgs false
open Go Go.RowKit Go.Lib Go.Sort Go.Shelf

/-- the lines that begin at s or behind it, of lines from f on -/
def docF (s : Nat) : Nat → List (List UInt8) → List (List UInt8)
  | _, [] => []
  | f, x :: r => (if s ≤ f then [x] else []) ++ docF s (f + x.length + 2) r
theorem docF_docQ (s : Nat) : ∀ (L : List (List UInt8)) (f : Nat), docF s f L = docQ (s - f) L
  | [], _ => rfl
  | x :: r, f => by
    rw [docF, docQ, docF_docQ s r, show s - (f + x.length + 2) = s - f - (x.length + 2) from by omega]
    by_cases h : s ≤ f
    · rw [if_pos h, if_pos (by omega)]
    · rw [if_neg h, if_neg (by omega)]
theorem flatQ_len (x : List UInt8) (r : List (List UInt8)) : (flatQ (x :: r)).length = x.length + 2 + (flatQ r).length := by rw [flatQ_cons]; simp only [List.length_append, List.length_cons, List.length_nil]; omega
/-- what the loop has come to -/
def LinesG (w : World) (k : Nat) (L ys : List (List UInt8)) (f j : Nat) (v : Value) (W : World) : Prop :=
  OwnT w.heap.size W v ys ∧ RowKit.Below w.heap.size w W ∧ ys ++ docF k f (L.drop j) = docQ k L ∧ f + (flatQ (L.drop j)).length = (flatQ L).length
set_option maxRecDepth 100000 in
set_option maxHeartbeats 4000000 in
theorem d_lines {base : Nat} {w : World} {x : Nat} {ol : Option Nat} {most : Int} {L : List (List UInt8)} {all : ByteArray} {k : Nat} {over : Bool} (h : DAt base w x ol most L all k over) (hk : k ≤ 1000000) (hf : (flatQ L).length ≤ 100000) (hL : L.length ≤ 100000) :
    Calls Try.prog 19 #[.pointer (some ⟨x, 0, none⟩)] w fun e w' => (∃ v', e = .returned v' ∧ OwnT w.heap.size w' v' (docQ k L)) ∧ RowKit.Below w.heap.size w w' := by
  obtain ⟨i0, hi, hz0, hz1, hz2⟩ := info_parts Try.infoT
  obtain ⟨v, h1, ho, h3, h4⟩ := h
  obtain ⟨A0, c0, rfl⟩ := row_slice h3
  have hxl := blk_lt h1
  have H := Lib.hid (And.intro h1 (reads_ownT h3))
  have H0 : Hid (LinesG w k L [] 0 0 (.slice none 0 0) w) := ⟨ownT_nil _ _, Below.refl _ _, by rw [List.nil_append, List.drop_zero, docF_docQ, Nat.sub_zero], by rw [List.drop_zero, Nat.zero_add]⟩
  have HF := Lib.hid hf
  clear h1 ho h3 h4 hf
  go_enter Try.func19, Try.ntmps19
  go_wp2_with fail
  go_loopw [3, 4, 5] (fun ov fv i wr => ∃ (j f n : Nat) (ys : List (List UInt8)) (A : Option Addr) (c : Nat), i = .int .i64 j ∧ fv = .int .i64 f ∧ ov = .slice A n c ∧ ys.length = n ∧ j ≤ L.length ∧ f ≤ 100000 ∧ n ≤ j ∧ Hid (LinesG w k L ys f j (.slice A n c) wr)) (fun _ _ i _ => L.length - (RowKit.intOf i).toNat)
  case atStart => exact ⟨0, 0, 0, [], none, 0, rfl, rfl, rfl, rfl, Nat.zero_le _, by decide, Nat.le_refl _, H0⟩
  case round =>
    obtain ⟨j, f, n, ys, A, c, rfl, rfl, rfl, hyn, hj, hfb, hys, HQ⟩ := hrel
    have HY := Lib.hid hyn
    clear H0 hyn
    have kx := (HQ.out.2.1.block x hxl).trans H.out.1
    have d1 := blk_cell kx 1
    have d3 := blk_cell kx 3
    clear kx
    by_cases hlt : j < L.length
    · obtain ⟨g, o, rfl, hg, hat⟩ := H.out.2 (by omega)
      have hrd : ∀ W, RowKit.Below w.heap.size w W → W.cell? ⟨g, o + j, none⟩ = some (.string (bs L[j])) := fun W hb => (World.cell?_of_block (w := w) (w' := W) (a := ⟨g, o + j, none⟩) (hb.block g hg)).trans (hat j hlt)
      have a1 := hrd wr HQ.out.2.1
      have hdr : L.drop j = L[j] :: L.drop (j + 1) := List.drop_eq_getElem_cons hlt
      obtain ⟨y, hy⟩ : ∃ y, L[j] = y := ⟨_, rfl⟩
      obtain ⟨S, hS⟩ : ∃ S, bs y = S := ⟨_, rfl⟩
      have hSs : S.size = y.length := by rw [← hS, bs_size]
      rw [hy] at a1 hdr hrd
      rw [hS] at a1 hrd
      obtain ⟨q1, q2, q3, q4⟩ := HQ.out
      rw [hdr] at q3 q4
      rw [flatQ_len] at q4
      have hle := HF.out
      have hfS : f + S.size + 2 ≤ 100000 := by omega
      have hwa : IntKind.i64.wrap ((f : Int) + (S.size : Int)) = (f : Int) + (S.size : Int) := IntWalk.i64_in _ (by omega)
      have hwb : IntKind.i64.wrap ((f : Int) + (S.size : Int) + 2) = ((f + S.size + 2 : Nat) : Int) := by rw [IntWalk.i64_in _ (by omega)]; omega
      have hwj : IntKind.i64.wrap ((j : Int) + 1) = ((j + 1 : Nat) : Int) := by rw [IntWalk.i64_in _ (by omega)]; omega
      have p0 : (j : Int) < (L.length : Int) := by omega
      rw [docF] at q3
      rw [← hSs] at q3 q4
      have q4' : f + S.size + 2 + (flatQ (L.drop (j + 1))).length = (flatQ L).length := by omega
      have HRD := Lib.hid hrd
      have HSY := Lib.hid hS
      have H4 := Lib.hid q4'
      clear hat hdr hy hle hrd hS q4 q4' hSs
      by_cases p1 : k ≤ f
      · have pp : (k : Int) ≤ (f : Int) := by omega
        rw [if_pos p1, ← List.append_assoc] at q3
        have H3 := Lib.hid q3
        have hq2 := q2.size
        clear q3
        go_wp2_with (at_builtin; refine Hid.out ?_)
        refine Lib.hid ?_
        refine wpList_one_t rfl _ _ 31 rfl w.heap.size 9 i0 _ 1 16 Try.underlying31 hi hz0 hz1 hz2 rfl (by decide) _ n (ys.map encT) rfl (by rw [← HY.out]; rw [← HY.out] at q1; exact q1) #[.string S] wr.heap.size rfl rfl rfl (by intro u hu; simp at hu; subst hu; rfl) (by omega) (by decide) hq2 ?_
        intro v4 W4 o4 f4 t4
        obtain ⟨A4, c4, ev4⟩ := row_slice o4
        subst ev4
        have b4 : RowKit.Below w.heap.size w W4 := q2.trans (f4.below hq2 fun e _ he => (q1.lt e he).1)
        have kx := (b4.block x hxl).trans H.out.1
        have e1 := blk_cell kx 1
        have a4 := HRD.out W4 b4
        have o4' : OwnT w.heap.size W4 (.slice A4 (n + 1) c4) (ys ++ [y]) := by
          refine ownT_snoc (xs := ys) (x := y) ?_
          have e1 : encT y = .string S := by rw [encT, HSY.out]
          rw [e1, HY.out]
          exact o4
        have HN : Hid (LinesG w k L (ys ++ [y]) (f + S.size + 2) (j + 1) (.slice A4 (n + 1) c4) W4) := ⟨o4', b4, H3.out, H4.out⟩
        clear q1 q2 a1 d1 d3 o4 f4 t4 b4 kx o4'
        go_wp2_with fail
        go_roundw
        case rel => exact ⟨j + 1, f + S.size + 2, n + 1, ys ++ [y], A4, c4, by first | rfl | rw [hwj] | go_num, by first | rfl | rw [hwb] | go_num, rfl, by rw [List.length_append, HY.out]; rfl, by omega, by omega, by omega, HN⟩
        case measure => simp [RowKit.intOf]; omega
      · have pp : (f : Int) < (k : Int) := by omega
        rw [if_neg p1, List.nil_append] at q3
        have HN : Hid (LinesG w k L ys (f + S.size + 2) (j + 1) (.slice A n c) wr) := ⟨q1, q2, q3, H4.out⟩
        clear q1 q2 q3
        go_wp2_with fail
        go_roundw
        case rel => exact ⟨j + 1, f + S.size + 2, n, ys, A, c, by first | rfl | rw [hwj] | go_num, by first | rfl | rw [hwb] | go_num, rfl, HY.out, by omega, by omega, by omega, HN⟩
        case measure => simp [RowKit.intOf]; omega
    · obtain rfl : j = L.length := by omega
      have p1 : ¬ ((L.length : Int) < (L.length : Int)) := by omega
      go_wp2_with fail
      go_ret
      obtain ⟨q1, q2, q3, q4⟩ := HQ.out
      rw [List.drop_length, docF, List.append_nil] at q3
      exact ⟨⟨_, rfl, q3 ▸ q1⟩, q2⟩
end Go.Proofs.Ytadbpgkhenbpfaa
end
section
/- Layer 8: a queue apart from other blocks; two queues, apart. -/
namespace Go.Proofs.Ytadbpgkhenbpfaa
set_option linter.unusedVariables false
set_option linter.unusedSimpArgs false
open Go Go.RowKit Go.Lib Go.Sort Go.Shelf

/-- a queue that has none of the blocks Z -/
def QX (base : Nat) (W : World) (q : Nat) (s : QS) (Z : Nat → Prop) : Prop := base ≤ q ∧ ∃ ob, QAt base W q ob s ∧ ¬ Z q ∧ ∀ k, ob = some k → ¬ Z k
theorem qx_is {base : Nat} {W : World} {q : Nat} {s : QS} {Z : Nat → Prop} (h : QX base W q s Z) : QIs base W q s := by
  obtain ⟨h0, ob, h1, _⟩ := h; exact ⟨h0, ob, h1⟩
theorem qx_push {base : Nat} {w : World} {q : Nat} {s : QS} {Z : Nat → Prop} (h : QX base w q s Z) (hZ : ∀ k, Z k → k < w.heap.size) (hbw : base ≤ w.heap.size) (hm : 0 ≤ s.most) (hm2 : s.most ≤ 65536) (hl : s.ws.length ≤ 100000) (l : ByteArray) (hll : l.size ≤ 1000000) {b : Bool} {s' : QS} (hb : pushB s l.data.toList = b) (hs : pushS s l.data.toList = s') :
    Calls Try.prog 11 #[.pointer (some ⟨q, 0, none⟩), .string l] w fun e w' => e = .returned (.bool b) ∧ QX base w' q s' Z ∧ Fr (fun k => ¬ Z k) w w' ∧ RowKit.Below base w w' := by
  obtain ⟨h0, ob, h1, h2, h3⟩ := h
  have hbl := q_blocks h1
  refine (q_push h1 hbw hm hm2 hl l hll).mono ?_
  rintro e w' ⟨rfl, ob', g2, g3, g4⟩
  refine ⟨by rw [hb], ⟨h0, ob', hs ▸ g2, h2, fun k hk hz => h3 k (g3 k hk (hZ k hz)) hz⟩, g4.mono fun k _ e => ?_, g4.below hbw fun k _ e => by rcases e with rfl | e; exact h0; exact (hbl k e).1⟩
  rcases e with rfl | e
  · exact h2
  · exact h3 k e
theorem qx_drain {base : Nat} {w : World} {q : Nat} {s : QS} {Z : Nat → Prop} (h : QX base w q s Z) (hZ : ∀ k, Z k → k < w.heap.size) (hbw : base ≤ w.heap.size) (hl : s.ws.length ≤ 1000000) (hs0 : 0 ≤ s.sent) (hs1 : s.sent ≤ 1000000000000) (n : Int) {ds : List UInt8} {s' : QS} (hd : s.ws.take (goesQ s n) = ds) (hs : drainS s n = s') :
    Calls Try.prog 9 #[.pointer (some ⟨q, 0, none⟩), .int .i64 n] w fun e w' => (∃ v', e = .returned v' ∧ OwnB w.heap.size w' v' ds) ∧ QX base w' q s' Z ∧ Fr (fun k => ¬ Z k) w w' ∧ RowKit.Below base w w' := by
  obtain ⟨h0, ob, h1, h2, h3⟩ := h
  have hbl := q_blocks h1
  refine (q_drain h1 hl hs0 hs1 n).mono ?_
  rintro e w' ⟨⟨v', rfl, g2⟩, g3, g4⟩
  refine ⟨⟨v', rfl, hd ▸ g2⟩, ⟨h0, ob, hs ▸ g3, h2, h3⟩, g4.mono fun k _ e => ?_, g4.below hbw fun k _ e => by rcases e with rfl | e; exact h0; exact (hbl k e).1⟩
  rcases e with rfl | e
  · exact h2
  · exact h3 k e
/-- two queues, apart -/
def TwoQ (base : Nat) (W : World) (p q : Nat) (s t : QS) : Prop := base ≤ p ∧ base ≤ q ∧ ∃ oa ob, QAt base W p oa s ∧ QAt base W q ob t ∧ p ≠ q ∧ oa ≠ some q ∧ ob ≠ some p ∧ ∀ k, oa = some k → ob ≠ some k
theorem two_swap {base : Nat} {W : World} {p q : Nat} {s t : QS} (h : TwoQ base W p q s t) : TwoQ base W q p t s := by
  obtain ⟨h0, h1, oa, ob, h2, h3, h4, h5, h6, h7⟩ := h
  exact ⟨h1, h0, ob, oa, h3, h2, fun e => h4 e.symm, h6, h5, fun k hk e => h7 k e hk⟩
theorem two_left {base : Nat} {W : World} {p q : Nat} {s t : QS} (h : TwoQ base W p q s t) : QIs base W p s := by
  obtain ⟨h0, h1, oa, ob, h2, _⟩ := h; exact ⟨h0, oa, h2⟩
theorem two_below {base : Nat} {W W' : World} {p q : Nat} {s t : QS} (h : TwoQ base W p q s t) (hb : RowKit.Below W.heap.size W W') : TwoQ base W' p q s t := by
  obtain ⟨h0, h1, oa, ob, h2, h3, h4⟩ := h
  exact ⟨h0, h1, oa, ob, q_below h2 hb, q_below h3 hb, h4⟩
/-- what is done to the left one leaves the right one -/
theorem two_step {base : Nat} {w w' : World} {p q : Nat} {s t s' : QS} {ob : Option Nat} (h1 : base ≤ q) (h3 : QAt base w q ob t) (hx : QX base w' p s' (fun k => k = q ∨ ob = some k)) (hf : Fr (fun k => ¬ (k = q ∨ ob = some k)) w w') (h6 : ob ≠ some p) : TwoQ base w' p q s' t := by
  obtain ⟨h0, oa, g1, g2, g3⟩ := hx
  exact ⟨h0, h1, oa, ob, g1, q_fr h3 hf (fun e => e (.inl rfl)) (fun k hk e => e (.inr hk)), fun e => g2 (.inl e), fun e => g3 q e (.inl rfl), h6, fun k hk e => g3 k hk (.inr e)⟩
theorem two_zlt {base : Nat} {w : World} {q : Nat} {t : QS} {ob : Option Nat} (h3 : QAt base w q ob t) : ∀ k, (k = q ∨ ob = some k) → k < w.heap.size := by
  rintro k (rfl | e)
  · exact q_lt h3
  · exact (q_blocks h3 k e).2
theorem two_push {base : Nat} {w : World} {p q : Nat} {s t : QS} (h : TwoQ base w p q s t) (hbw : base ≤ w.heap.size) (hm : 0 ≤ s.most) (hm2 : s.most ≤ 65536) (hl : s.ws.length ≤ 100000) (l : ByteArray) (hll : l.size ≤ 1000000) {b : Bool} {s' : QS} (hb : pushB s l.data.toList = b) (hs : pushS s l.data.toList = s') :
    Calls Try.prog 11 #[.pointer (some ⟨p, 0, none⟩), .string l] w fun e w' => e = .returned (.bool b) ∧ TwoQ base w' p q s' t ∧ RowKit.Below base w w' := by
  obtain ⟨h0, h1, oa, ob, h2, h3, h4, h5, h6, h7⟩ := h
  have hx : QX base w p s (fun k => k = q ∨ ob = some k) := ⟨h0, oa, h2, fun e => by rcases e with e | e; exact h4 e; exact h6 e, fun k hk e => by rcases e with e | e; exact h5 (e ▸ hk); exact h7 k hk e⟩
  refine (qx_push hx (two_zlt h3) hbw hm hm2 hl l hll hb hs).mono ?_
  rintro e w' ⟨rfl, g1, g2, g3⟩
  exact ⟨rfl, two_step h1 h3 g1 g2 h6 (s := s), g3⟩
theorem two_drain {base : Nat} {w : World} {p q : Nat} {s t : QS} (h : TwoQ base w p q s t) (hbw : base ≤ w.heap.size) (hl : s.ws.length ≤ 1000000) (hs0 : 0 ≤ s.sent) (hs1 : s.sent ≤ 1000000000000) (n : Int) {ds : List UInt8} {s' : QS} (hd : s.ws.take (goesQ s n) = ds) (hs : drainS s n = s') :
    Calls Try.prog 9 #[.pointer (some ⟨p, 0, none⟩), .int .i64 n] w fun e w' => (∃ v', e = .returned v' ∧ OwnB w.heap.size w' v' ds) ∧ TwoQ base w' p q s' t ∧ RowKit.Below base w w' := by
  obtain ⟨h0, h1, oa, ob, h2, h3, h4, h5, h6, h7⟩ := h
  have hx : QX base w p s (fun k => k = q ∨ ob = some k) := ⟨h0, oa, h2, fun e => by rcases e with e | e; exact h4 e; exact h6 e, fun k hk e => by rcases e with e | e; exact h5 (e ▸ hk); exact h7 k hk e⟩
  refine (qx_drain hx (two_zlt h3) hbw hl hs0 hs1 n hd hs).mono ?_
  rintro e w' ⟨g0, g1, g2, g3⟩
  exact ⟨g0, two_step h1 h3 g1 g2 h6 (s := s), g3⟩
theorem two_new {w w1 : World} {p q : Nat} {s t : QS} {base : Nat} (hp : QIs base w p s) (hq : QIs w.heap.size w1 q t) (hb : RowKit.Below w.heap.size w w1) (hbw : base ≤ w.heap.size) : TwoQ base w1 p q s t := by
  obtain ⟨h0, oa, h1⟩ := hp
  obtain ⟨g0, ob, g1⟩ := hq
  have l1 := q_lt h1
  have l2 := q_blocks h1
  have l3 := q_blocks g1
  exact ⟨h0, Nat.le_trans hbw g0, oa, ob, q_below h1 hb, q_base g1 hbw, by omega, fun e => by have := (l2 q e).2; omega, fun e => by have := (l3 p e).1; omega, fun k hk e => by have := (l2 k hk).2; have := (l3 k e).1; omega⟩
end Go.Proofs.Ytadbpgkhenbpfaa
end
section
/- Layer 8: the program's queue beside the document's. -/
namespace Go.Proofs.Ytadbpgkhenbpfaa
set_option linter.unusedVariables false
set_option linter.unusedSimpArgs false
open Go Go.RowKit Go.Lib Go.Sort Go.Shelf

/-- the blocks of the document's queue -/
def ZD (x : Nat) (ol : Option Nat) (j : Nat) : Prop := j = x ∨ ol = some j
/-- the program's queue beside the document's, apart, and alike -/
def BothQ (base : Nat) (W : World) (q x : Nat) (s : QS) (most : Int) (L : List (List UInt8)) (all : ByteArray) (k : Nat) (over : Bool) : Prop :=
  base ≤ x ∧ (∃ ol, QX base W q s (ZD x ol) ∧ DAt base W x ol most L all k over) ∧ DocQ s L all.data.toList k ∧ s.most = most ∧ s.over = over
theorem zd_lt {base : Nat} {W : World} {x : Nat} {ol : Option Nat} {most : Int} {L : List (List UInt8)} {all : ByteArray} {k : Nat} {over : Bool} (h : DAt base W x ol most L all k over) : ∀ j, ZD x ol j → j < W.heap.size := by
  rintro j (rfl | e)
  · exact d_lt h
  · exact (d_blocks h j e).2
/-- only the places of both, mid of a pair of steps -/
def PairQ (base : Nat) (W : World) (q x : Nat) (s : QS) (most : Int) (L : List (List UInt8)) (all : ByteArray) (k : Nat) (over : Bool) : Prop :=
  base ≤ x ∧ ∃ ol, QX base W q s (ZD x ol) ∧ DAt base W x ol most L all k over
theorem pair_below {base : Nat} {W W' : World} {q x : Nat} {s : QS} {most : Int} {L : List (List UInt8)} {all : ByteArray} {k : Nat} {over : Bool} (h : PairQ base W q x s most L all k over) (hb : RowKit.Below W.heap.size W W') : PairQ base W' q x s most L all k over := by
  obtain ⟨h0, ol, ⟨g0, ob, g1, g2⟩, h2⟩ := h
  exact ⟨h0, ol, ⟨g0, ob, q_below g1 hb, g2⟩, d_below h2 hb⟩
theorem pair_is {base : Nat} {W : World} {q x : Nat} {s : QS} {most : Int} {L : List (List UInt8)} {all : ByteArray} {k : Nat} {over : Bool} (h : PairQ base W q x s most L all k over) : QIs base W q s := by
  obtain ⟨h0, ol, h1, h2⟩ := h
  exact qx_is h1
theorem pair_doc {base : Nat} {W : World} {q x : Nat} {s : QS} {most : Int} {L : List (List UInt8)} {all : ByteArray} {k : Nat} {over : Bool} (h : PairQ base W q x s most L all k over) : ∃ ol, DAt base W x ol most L all k over := by
  obtain ⟨h0, ol, h1, h2⟩ := h
  exact ⟨ol, h2⟩
theorem pair_push {base : Nat} {w : World} {q x : Nat} {s : QS} {most : Int} {L : List (List UInt8)} {all : ByteArray} {k : Nat} {over : Bool} (h : PairQ base w q x s most L all k over) (hbw : base ≤ w.heap.size) (hm : 0 ≤ s.most) (hm2 : s.most ≤ 65536) (hl : s.ws.length ≤ 100000) (l : ByteArray) (hll : l.size ≤ 1000000) {b : Bool} {s' : QS} (hb : pushB s l.data.toList = b) (hs : pushS s l.data.toList = s') :
    Calls Try.prog 11 #[.pointer (some ⟨q, 0, none⟩), .string l] w fun e w' => e = .returned (.bool b) ∧ PairQ base w' q x s' most L all k over ∧ RowKit.Below base w w' := by
  obtain ⟨h0, ol, h1, h2⟩ := h
  refine (qx_push h1 (zd_lt h2) hbw hm hm2 hl l hll hb hs).mono ?_
  rintro e w' ⟨rfl, g1, g2, g3⟩
  exact ⟨rfl, ⟨h0, ol, g1, d_fr h2 g2 (fun e => e (.inl rfl)) fun j hj e => e (.inr hj)⟩, g3⟩
theorem pair_drain {base : Nat} {w : World} {q x : Nat} {s : QS} {most : Int} {L : List (List UInt8)} {all : ByteArray} {k : Nat} {over : Bool} (h : PairQ base w q x s most L all k over) (hbw : base ≤ w.heap.size) (hl : s.ws.length ≤ 1000000) (hs0 : 0 ≤ s.sent) (hs1 : s.sent ≤ 1000000000000) (n : Int) {ds : List UInt8} {s' : QS} (hd : s.ws.take (goesQ s n) = ds) (hs : drainS s n = s') :
    Calls Try.prog 9 #[.pointer (some ⟨q, 0, none⟩), .int .i64 n] w fun e w' => (∃ v', e = .returned v' ∧ OwnB w.heap.size w' v' ds) ∧ PairQ base w' q x s' most L all k over ∧ RowKit.Below base w w' := by
  obtain ⟨h0, ol, h1, h2⟩ := h
  refine (qx_drain h1 (zd_lt h2) hbw hl hs0 hs1 n hd hs).mono ?_
  rintro e w' ⟨g0, g1, g2, g3⟩
  exact ⟨g0, ⟨h0, ol, g1, d_fr h2 g2 (fun e => e (.inl rfl)) fun j hj e => e (.inr hj)⟩, g3⟩
theorem qx_fr {base : Nat} {w w' : World} {q : Nat} {s : QS} {x : Nat} {ol ol' : Option Nat} (h : QX base w q s (ZD x ol)) (hf : Fr (fun j => j = x) w w') (ht : ∀ j, ol' = some j → ol = some j ∨ w.heap.size ≤ j) : QX base w' q s (ZD x ol') := by
  obtain ⟨h0, ob, h1, h2, h3⟩ := h
  have hq := q_lt h1
  have hb := q_blocks h1
  refine ⟨h0, ob, q_fr h1 hf (fun e => h2 (.inl e)) fun k hk e => h3 k hk (.inl e), ?_, fun k hk => ?_⟩
  · rintro (e | e)
    · exact h2 (.inl e)
    · rcases ht q e with e | e
      · exact h2 (.inr e)
      · omega
  · rintro (e | e)
    · exact h3 k hk (.inl e)
    · rcases ht k e with e | e
      · exact h3 k hk (.inr e)
      · have := (hb k hk).2; omega
theorem pair_pushD {base : Nat} {w : World} {q x : Nat} {s : QS} {most : Int} {L : List (List UInt8)} {all : ByteArray} {k : Nat} {over : Bool} (h : PairQ base w q x s most L all k over) (hbw : base ≤ w.heap.size) (hk : k ≤ all.size) (hl : all.size ≤ 100000) (hL : L.length ≤ 100000) (hm : 0 ≤ most) (hm2 : most ≤ 65536) (l : ByteArray) (hll : l.size ≤ 1000000) {b : Bool} {L' : List (List UInt8)} {all' : ByteArray} {over' : Bool} (hb : pushD most all k over l = b) (h1 : (if b then L ++ [l.data.toList] else L) = L') (h2 : (if b then all ++ l ++ ⟨#[13, 10]⟩ else all) = all') (h3 : (over || fitD over l && !roomD most all k l) = over') :
    Calls Try.prog 12 #[.pointer (some ⟨x, 0, none⟩), .string l] w fun e w' => e = .returned (.bool b) ∧ PairQ base w' q x s most L' all' k over' ∧ RowKit.Below base w w' := by
  obtain ⟨h0, ol, g1, g2⟩ := h
  subst hb h1 h2 h3
  refine (d_push g2 hbw hk hl hL hm hm2 l hll).mono ?_
  rintro e w' ⟨rfl, ⟨ol', e1, e2⟩, e3⟩
  exact ⟨rfl, ⟨h0, ol', qx_fr g1 e3 e2, e1⟩, e3.below hbw fun j _ e => e ▸ h0⟩
theorem pair_drainD {base : Nat} {w : World} {q x : Nat} {s : QS} {most : Int} {L : List (List UInt8)} {all : ByteArray} {k : Nat} {over : Bool} (h : PairQ base w q x s most L all k over) (hbw : base ≤ w.heap.size) (hk : k ≤ all.size) (hl : all.size ≤ 1000000) (n : Int) {G : Nat} {T : ByteArray} (hG : goesD all k n = G) (hT : bs ((waitsD all k).data.toList.take G) = T) :
    Calls Try.prog 10 #[.pointer (some ⟨x, 0, none⟩), .int .i64 n] w fun e w' => e = .returned (.string T) ∧ PairQ base w' q x s most L all (k + G) over ∧ RowKit.Below base w w' ∧ Fr (fun j => j = x) w w' := by
  obtain ⟨h0, ol, g1, g2⟩ := h
  subst hG hT
  refine (d_drain g2 hk hl n).mono ?_
  rintro e w' ⟨rfl, e1, e2⟩
  exact ⟨rfl, ⟨h0, ol, qx_fr g1 e2 fun j hj => .inl hj, e1⟩, e2.below hbw (fun j _ e => e ▸ h0), e2⟩
/-- both say alike -/
theorem both_goes {s : QS} {L : List (List UInt8)} {all : ByteArray} {k : Nat} (h : DocQ s L all.data.toList k) (n : Int) : goesD all k n = goesQ s n ∧ (waitsD all k).data.toList = s.ws := by
  obtain ⟨h1, h2, h3, h4, h5, h6⟩ := h
  have e : (waitsD all k).data.toList = s.ws := by rw [waits_list, h4]
  have e2 : (waitsD all k).size = s.ws.length := by rw [← e]; rfl
  exact ⟨by unfold goesD goesQ; rw [e2], e⟩
theorem both_push {s : QS} {L : List (List UInt8)} {all : ByteArray} {k : Nat} (h : DocQ s L all.data.toList k) (l : ByteArray) : pushD s.most all k s.over l = pushB s l.data.toList ∧ (s.over || fitD s.over l && !roomD s.most all k l) = (pushS s l.data.toList).over := by
  obtain ⟨h1, h2, h3, h4, h5, h6⟩ := h
  have e : (waitsD all k).data.toList = s.ws := by rw [waits_list, h4]
  have e2 : (waitsD all k).size = s.ws.length := by rw [← e]; rfl
  have e3 : fitD s.over l = fitQ s l.data.toList := rfl
  have e4 : roomD s.most all k l = roomQ s l.data.toList := by
    unfold roomD roomQ
    rw [e2]
    have : l.data.toList.length = l.size := rfl
    rw [this]
    exact decide_eq_decide.2 ⟨fun h => by omega, fun h => by omega⟩
  refine ⟨by unfold pushD pushB; rw [e3, e4], ?_⟩
  rw [e3, e4]
  unfold pushS
  by_cases hf : fitQ s l.data.toList = true
  · have ho : s.over = false := by
      unfold fitQ at hf
      cases hh : s.over with
      | false => rfl
      | true => rw [hh] at hf; simp at hf
    by_cases hr : roomQ s l.data.toList = true
    · rw [if_pos hf, if_pos hr, hf, hr, ho]; simp [ho]
    · rw [if_pos hf, if_neg hr, hf, ho]; simp [hr]
  · rw [if_neg hf]
    simp [hf]
end Go.Proofs.Ytadbpgkhenbpfaa
end
section
/- Layer 18: modes.Seq, the letters of a row, as a function that ranges; Takes on both sides. -/
namespace Go.Proofs.Ytadbpgkhenbpfaa
set_option linter.unusedVariables false
set_option linter.unusedSimpArgs false
open Go.RowKit Go.Shelf
attribute [local go_sem] Oper.semAt_some

/-- a letter, and whether it is on -/
abbrev Letter := UInt8 × Bool
abbrev encLet (x : Letter) : Array Value := #[.int .u8 x.1.toNat, .bool x.2]
/-- the letters of a row, from a sign on -/
def seqL (on : Bool) : List UInt8 → List Letter
  | [] => []
  | c :: r => if c = 43 then seqL true r else if c = 45 then seqL false r else (c, on) :: seqL on r
theorem seqL_len (on : Bool) (l : List UInt8) : (seqL on l).length ≤ l.length := by
  induction l generalizing on with
  | nil => simp [seqL]
  | cons c r ih =>
    unfold seqL
    split
    · have := ih true; simp; omega
    · split
      · have := ih false; simp; omega
      · have := ih on; simp; omega
theorem seqL_at (on : Bool) (s : ByteArray) (k : Nat) (h : k < s.size) : seqL on (s.data.toList.drop k) = if s[k] = 43 then seqL true (s.data.toList.drop (k + 1)) else if s[k] = 45 then seqL false (s.data.toList.drop (k + 1)) else (s[k], on) :: seqL on (s.data.toList.drop (k + 1)) := by
  rw [List.drop_eq_getElem_cons (by simpa using h)]
  rfl





/-- block B lies as it lay -/
def KeptAt (B : Nat) (W1 W' : World) : Prop := W'.heap[B]? = W1.heap[B]?
theorem KeptAt.cell {B : Nat} {W1 W' : World} (h : KeptAt B W1 W') : W'.cell? ⟨B, 0, none⟩ = W1.cell? ⟨B, 0, none⟩ := World.cell?_of_block (w := W1) h

end Go.Proofs.Ytadbpgkhenbpfaa
end
section
/- Layer 18: changes as data; Lists, the answers' Takes and Same. -/
namespace Go.Proofs.Ytadbpgkhenbpfaa
set_option linter.unusedVariables false
set_option linter.unusedSimpArgs false
open Go.RowKit

/-- does a letter take an argument? -/
def takesB (c : UInt8) (on : Bool) : Bool := c == 111 || c == 118 || c == 98 || c == 107 || (c == 108 && on)



/-- a change: on, its letter, its argument -/
abbrev Chg := Bool × UInt8 × ByteArray
def chV (x : Chg) : Value := .agg #[.bool x.1, .int .u8 x.2.1.toNat, .string x.2.2]
def listsB (x : Chg) : Bool := x.2.1 == 98 && x.2.2.toList.isEmpty





def eqB (x y : Chg) : Bool := x.1 == y.1 && (x.2.1 == y.2.1 && x.2.2.toList == y.2.2.toList)
theorem eqB_iff {x y : Chg} : eqB x y = true ↔ x = y := by
  obtain ⟨a, b, c⟩ := x
  obtain ⟨a', b', c'⟩ := y
  unfold eqB
  simp only [Bool.and_eq_true, beq_iff_eq, Prod.mk.injEq]
  rw [ByteArray.toList_eq, ByteArray.toList_eq]
  constructor
  · rintro ⟨h1, h2, h3⟩; exact ⟨h1, h2, ba_ext h3⟩
  · rintro ⟨h1, h2, h3⟩; exact ⟨h1, h2, by rw [h3]⟩

def ReadsC (W : World) (v : Value) (l : List Chg) : Prop :=
  (v = .slice none 0 0 ∧ l = []) ∨ ∃ g off cap, v = .slice (some ⟨g, off, none⟩) l.length cap ∧ ∀ i (h : i < l.length), W.cell? ⟨g, off + i * 3, none⟩ = some (.bool l[i].1) ∧ W.cell? ⟨g, off + i * 3 + 1, none⟩ = some (.int .u8 l[i].2.1.toNat) ∧ W.cell? ⟨g, off + i * 3 + 2, none⟩ = some (.string l[i].2.2)

end Go.Proofs.Ytadbpgkhenbpfaa
end
section
/- Layer 18: the answers' Parse. -/
namespace Go.Proofs.Ytadbpgkhenbpfaa
set_option linter.unusedVariables false
set_option linter.unusedSimpArgs false
open Go.RowKit

/-- one letter more: the changes, the next argument, how many took one -/
abbrev PSt := List Chg × Nat × Nat
def noArg : ByteArray := ⟨#[]⟩
def stepP (ps : List ByteArray) (st : PSt) (x : Letter) : PSt :=
  if takesB x.1 x.2 = true then
    if st.2.2 = 4 then st
    else if h : st.2.1 < ps.length then (st.1 ++ [(x.2, x.1, ps[st.2.1])], st.2.1 + 1, st.2.2 + 1)
    else if x.1 = 98 then (st.1 ++ [(x.2, x.1, noArg)], st.2.1, st.2.2 + 1)
    else st
  else (st.1 ++ [(x.2, x.1, noArg)], st.2.1, st.2.2)
theorem stepP_no {ps : List ByteArray} {out : List Chg} {a n : Nat} {c : UInt8} {o : Bool} (h : takesB c o = false) : stepP ps (out, a, n) (c, o) = (out ++ [(o, c, noArg)], a, n) := by simp [stepP, h]
theorem stepP_full {ps : List ByteArray} {out : List Chg} {a : Nat} {c : UInt8} {o : Bool} (h : takesB c o = true) : stepP ps (out, a, 4) (c, o) = (out, a, 4) := by simp [stepP, h]
theorem stepP_arg {ps : List ByteArray} {out : List Chg} {a n : Nat} {c : UInt8} {o : Bool} (h : takesB c o = true) (hn : n ≠ 4) (ha : a < ps.length) : stepP ps (out, a, n) (c, o) = (out ++ [(o, c, ps[a])], a + 1, n + 1) := by simp [stepP, h, hn, ha]
theorem stepP_list {ps : List ByteArray} {out : List Chg} {a n : Nat} {o : Bool} (h : takesB 98 o = true) (hn : n ≠ 4) (ha : ¬ a < ps.length) : stepP ps (out, a, n) (98, o) = (out ++ [(o, 98, noArg)], a, n + 1) := by simp [stepP, h, hn, ha]
theorem stepP_drop {ps : List ByteArray} {out : List Chg} {a n : Nat} {c : UInt8} {o : Bool} (h : takesB c o = true) (hn : n ≠ 4) (ha : ¬ a < ps.length) (hc : c ≠ 98) : stepP ps (out, a, n) (c, o) = (out, a, n) := by simp [stepP, h, hn, ha, hc]
def parseM (ps : List ByteArray) : List Chg := if h : 0 < ps.length then ((seqL true ps[0].data.toList).foldl (stepP ps) ([], 1, 0)).1 else []
/-- changes as cells -/
def chL (l : List Chg) : List Value := l.flatMap fun x => [.bool x.1, .int .u8 x.2.1.toNat, .string x.2.2]
theorem chL_snoc (l : List Chg) (x : Chg) : chL (l ++ [x]) = chL l ++ [.bool x.1, .int .u8 x.2.1.toNat, .string x.2.2] := by simp [chL]



end Go.Proofs.Ytadbpgkhenbpfaa
end
section
/- A region that draws its order, anywhere, a loop's round over a function too: what only reads, in whatever order; then what must come last, in its order. -/
namespace Go.Proofs.Ytadbpgkhenbpfaa
open Go

section
variable {F : Fence} {n : Nat} {P : Program} {ops : Array Oper} {md : Region.Mode} {C : World → Prop}

/-- no operation puts a call off -/
def noDefer (ops : Array Oper) : Bool := ops.all fun o => match o.op with | .defer _ => false | _ => true
theorem noDefer_spec (h : noDefer ops = true) {i : Nat} {o : Oper} (ho : ops[i]? = some o) : ∀ c, o.op ≠ .defer c := by
  intro c hc
  have := Array.all_eq_true.1 h i (Array.getElem?_eq_some_iff.1 ho).1
  rw [(Array.getElem?_eq_some_iff.1 ho).2, hc] at this
  cases this

theorem quiet_wpIn {o : Oper} {a : Act} {K : Act → Prop} {K' : Act → World → Prop} {Q' : Exit → Act → World → Prop} {w : World} (hd : ∀ c, o.op ≠ .defer c) (hw : C w) (h : ∀ a w', C w' → K a → K' a w')
    (ha : o.askedIn F P a C) (hh : o.quietIn F n P a C K) : o.wpIn F n P a w K' Q' := by
  obtain ⟨v, h1, h2⟩ := hh
  have h3 := h1 w hw
  unfold Oper.quietAtIn at h3
  refine ⟨ha w hw, ?_⟩
  rw [Oper.semAt_eq _ _ _ hd]
  generalize (execOp a.eval o).run P w = r at h3 ⊢
  match r, h3 with
  | .ok (.value u) w', h3 =>
    obtain ⟨rfl, rfl⟩ := h3
    exact h _ _ hw h2
  | .ok .skip w', h3 =>
    obtain ⟨rfl, rfl⟩ := h3
    exact h _ _ hw h2
  | .ok (.enter f args) w', h3 =>
    obtain ⟨rfl, hdep, hc⟩ := h3
    exact ⟨hdep, hc.mono fun e w'' hx => by obtain ⟨rfl, hw''⟩ := hx; exact h _ _ hw'' h2⟩

theorem quiet_wpOpIn {i : Nat} {a : Act} {K : Act → Prop} {K' : Act → World → Prop} {Q' : Exit → Act → World → Prop} {w : World} (hnd : noDefer ops = true) (hC : C w) (h : ∀ a w', C w' → K a → K' a w')
    (hh : qOpIn F n P ops C i K a) : wpOpIn F n P ops Q' i K' a w := by
  unfold qOpIn at hh
  unfold wpOpIn
  cases ho : ops[i]? with
  | none => simp only [ho] at hh ⊢; exact h _ _ hC hh
  | some o =>
    simp only [ho] at hh ⊢
    obtain ⟨ha, hh⟩ := hh
    by_cases hw : Region.wanted o (yielded ops a.tmps) = true
    · simp only [hw, if_true] at hh ⊢
      exact quiet_wpIn (noDefer_spec hnd ho) hC h ha hh
    · simp only [hw] at hh ⊢
      exact ⟨ha w hC, h _ _ hC hh⟩

/-- the head of a region: so many operations, whatever comes up, each below m -/
def headQ (F : Fence) (n : Nat) (P : Program) (md : Region.Mode) (ops : Array Oper) (C : World → Prop) (m : Nat) (L : Array Bool → Act → Prop) : Nat → Array Bool → Act → Prop
  | 0, listed, a => L listed a
  | f + 1, listed, a =>
    Region.ready md ops listed ≠ [] ∧ ∀ i ∈ Region.ready md ops listed, i < m ∧ qOpIn F n P ops C i (headQ F n P md ops C m L f (listed.setIfInBounds i true)) a

theorem wpAnyIn_of_headQ {m g : Nat} {L : Array Bool → Act → Prop} {Q' : Exit → Act → World → Prop} (hnd : noDefer ops = true) (hL : ∀ listed a w, C w → L listed a → wpAnyIn F n P md ops Q' g listed a w) :
    ∀ (f : Nat) (listed : Array Bool) (a : Act) (w : World), C w → headQ F n P md ops C m L f listed a → wpAnyIn F n P md ops Q' (f + g) listed a w
  | 0, listed, a, w, hw, h => by rw [Nat.zero_add]; exact hL _ _ _ hw h
  | f + 1, listed, a, w, hw, h => by
    rw [show f + 1 + g = (f + g) + 1 by omega]
    exact ⟨fun h0 => absurd h0 h.1, fun i hi => quiet_wpOpIn hnd hw (fun a' w' hw' h' => wpAnyIn_of_headQ hnd hL f _ a' w' hw' h') (h.2 i hi).2⟩

theorem headQ_first {m i : Nat} {oi : Oper} {v : Value} {L : Array Bool → Act → Prop} (hi : ops[i]? = some oi) (hsel : ∀ (j : Nat) (o : Oper) cs b, ops[j]? = some o → o.op ≠ .select cs b)
    (hs : Region.sinkB md ops m = true) (hc : Region.chainB md ops m = true) (hn : m < ops.size) (hin : i < m)
    (hdone : ∀ listed a, L listed a → ∀ j ∈ Region.ready md ops listed, m ≤ j) :
    ∀ (f : Nat) (listed : Array Bool) (a : Act), HeadInv md ops m listed →
      (∀ j oj, ops[j]? = some oj → j ≠ i → listed.getD j true = false → (∀ e ∈ oj.after, Region.binds md e = true → e.on ≠ i) → oi.apart ops oj = true) →
      i ∈ Region.ready md ops listed → YieldsQuiet F n P ops C oi v a →
      headQ F n P md ops C m L f (listed.setIfInBounds i true) (a.put oi.dst v) → headQ F n P md ops C m L (f + 1) listed a := by
  intro f
  induction f with
  | zero =>
    intro listed a inv _ hr hy H
    have hun := (mem_ready.1 hr).1
    refine ⟨fun h => (by rw [h] at hr; cases hr), fun j hj => ?_⟩
    have hjn : j < m := Nat.lt_of_not_le fun h => tail_waits hs hc hn inv _ i rfl hin hun j h hj
    refine ⟨hjn, ?_⟩
    by_cases hji : j = i
    · subst hji; exact hy.qOpIn hi H
    · exact absurd (hdone _ _ H j (ready_mono hj hji)) (by omega)
  | succ f ih =>
    intro listed a inv hfree hr hy H
    have hun := (mem_ready.1 hr).1
    refine ⟨fun h => (by rw [h] at hr; cases hr), fun j hj => ?_⟩
    have hjn : j < m := Nat.lt_of_not_le fun h => tail_waits hs hc hn inv _ i rfl hin hun j h hj
    refine ⟨hjn, ?_⟩
    by_cases hji : j = i
    · subst hji; exact hy.qOpIn hi H
    · have h1 := (H.2 j (ready_mono hj hji)).2
      obtain ⟨hjun, oj, hoj, hall⟩ := mem_ready.1 hj
      have hnot : ∀ e ∈ oj.after, Region.binds md e = true → e.on ≠ i := fun e he hb heq => by
        have h1 := hall e he hb
        rw [heq, getD_both hun] at h1
        cases h1
      have h2 := qOpIn_put hoj (hfree j oj hoj hji hjun hnot) (fun cs b => hsel i oi cs b hi) (fun cs b => hsel j oj cs b hoj) hy h1
      have hfree' : ∀ k ok, ops[k]? = some ok → k ≠ i → (listed.setIfInBounds j true).getD k true = false →
          (∀ e ∈ ok.after, Region.binds md e = true → e.on ≠ i) → oi.apart ops ok = true := fun k ok hk hki hun hno => by
        refine hfree k ok hk hki ?_ hno
        by_cases hjk : j = k
        · subst hjk; exact hjun
        · rw [getD_set_ne true hjk] at hun; exact hun
      refine qOpIn_mono (fun a' h3 => ih (listed.setIfInBounds j true) a' (inv.set hj hjn) hfree' (ready_mono hr (Ne.symm hji)) h3.1 ?_) h2
      rw [Array.setIfInBounds_comm _ _ hji]
      exact h3.2

theorem wpAnyIn_of_seq {Q' : Exit → Act → World → Prop} : ∀ (l : List Oper) (k : Nat) (listed : Array Bool) (a : Act) (w : World), (∀ j, l[j]? = ops[k + j]?) →
    Region.seqB md ops l.length k listed = true → wpListIn F n P ops Q' l a w → wpAnyIn F n P md ops Q' l.length listed a w
  | [], _, _, _, _, _, hB, h => ⟨by simpa [Region.seqB] using hB, h⟩
  | o :: l, k, listed, a, w, hl, hB, h => by
    have h0 : ops[k]? = some o := by simpa using (hl 0).symm
    simp only [List.length_cons, Region.seqB, Bool.and_eq_true, decide_eq_true_eq] at hB
    refine ⟨fun h1 => (by rw [hB.1] at h1; cases h1), fun i hi => ?_⟩
    rw [hB.1] at hi
    have hik : i = k := by simpa using hi
    subst hik
    have hw : wpOpIn F n P ops Q' i (wpListIn F n P ops Q' l) a w := by unfold wpOpIn; simp only [h0]; exact h
    exact wpOpIn_mono (fun a' w' h' => wpAnyIn_of_seq l (i + 1) _ a' w' (fun j => by have := hl (j + 1); simpa [Nat.add_assoc, Nat.add_comm 1 j] using this) hB.2 h') hw

theorem headQ_lex {m g : Nat} {Lq : Act → Prop} (hsel : Region.noSelect ops = true) (hs : Region.sinkB md ops m = true) (hc : Region.chainB md ops m = true) (hn : m < ops.size) :
    ∀ (l : List Oper) (k : Nat) (listed : Array Bool) (a : Act), (∀ j, j < l.length → l[j]? = ops[k + j]?) → k + l.length = m → HeadInv md ops m listed →
    Region.lexHead md ops g l.length k listed = true → wpQuietIn F n P ops C Lq l a →
    headQ F n P md ops C m (fun listed' a' => Region.seqB md ops g m listed' = true ∧ Lq a') l.length listed a
  | [], k, listed, a, _, hk, _, hB, h => by
    have : k = m := by simpa using hk
    subst this
    exact ⟨by simpa [Region.lexHead] using hB, h⟩
  | o :: l, k, listed, a, hl, hk, inv, hB, h => by
    have h0 : ops[k]? = some o := by simpa using (hl 0 (by simp)).symm
    simp only [List.length_cons, Region.lexHead, Bool.and_eq_true] at hB
    obtain ⟨⟨hr, hf⟩, hB'⟩ := hB
    have hkn : k < m := by simp only [List.length_cons] at hk; omega
    have hr' : k ∈ Region.ready md ops listed := by simpa using hr
    have hst : qOpIn F n P ops C k (wpQuietIn F n P ops C Lq l) a := by unfold qOpIn; simp only [h0]; exact h
    obtain ⟨v, hy, hK⟩ := yieldsQuiet_of_qOpIn h0 hst
    exact headQ_first h0 (Region.noSelect_spec hsel) hs hc hn hkn (fun listed' a' hL => seqB_ready hL.1) l.length listed a inv (Region.free_spec h0 hf) hr' hy
      (headQ_lex hsel hs hc hn l (k + 1) _ _ (fun j hj => by have := hl (j + 1) (by simp; omega); simpa [Nat.add_assoc, Nat.add_comm 1 j] using this) (by simp only [List.length_cons] at hk; omega) (inv.set hr' hkn) hB' hK)

/-- what only reads ahead, in whatever order; what must come last behind it, in its order -/
theorem wpIn_quiet_tail {id : Nat} {Q : Exit → Act → World → Prop} {a : Act} {w : World} {l : List Oper} (m : Nat) (hm : P.follows .mixedOrders = true) (hnd : noDefer l.toArray = true) (hB : Region.lexTailB .any l.toArray m = true)
    (h : wpQuietIn F n P l.toArray (fun w' => ∃ k, w' = w.drewN k) (fun a' => ∀ w', (∃ k, w' = w.drewN k) → wpListIn F n P l.toArray Q (l.drop m) a' w') (l.take m) a) : (Code.region id l.toArray true).wpIn F n P Q a w := by
  simp only [Region.lexTailB, Bool.and_eq_true, decide_eq_true_eq] at hB
  obtain ⟨⟨⟨⟨hsel, hn⟩, hs⟩, hc⟩, hlex⟩ := hB
  have hn' : m < l.length := by simpa using hn
  have htl : (l.take m).length = m := by simp; omega
  have hdl : (l.drop m).length = l.toArray.size - m := by simp
  have inv0 : HeadInv .any l.toArray m (Array.replicate l.toArray.size false) :=
    ⟨by simp, fun j oj _ hl => (by rw [getD_replicate_false] at hl; cases hl), fun t _ ht => getD_in (by simpa using ht) (getD_replicate_false _ _)⟩
  have H := headQ_lex (F := F) (n := n) (P := P) (md := .any) (g := l.toArray.size - m) hsel hs hc hn (l.take m) 0 _ a (fun j hj => by
    have hj' : j < m := by rw [htl] at hj; exact hj
    simp [hj']) (by simpa using htl) inv0 (by rw [htl]; exact hlex) h
  refine wpIn_region_any hm ?_
  have := wpAnyIn_of_headQ (Q' := Q) (g := l.toArray.size - m) hnd (fun listed a' w' hw' hL => by
    have := wpAnyIn_of_seq (F := F) (n := n) (P := P) (md := .any) (Q' := Q) (l.drop m) m listed a' w' (fun j => by simp [List.getElem?_drop]) (by rw [hdl]; exact hL.1) (hL.2 w' hw')
    rwa [hdl] at this) _ _ _ _ ⟨1, rfl⟩ H
  rw [htl, show m + (l.toArray.size - m) = l.toArray.size by omega] at this
  exact this

theorem wpAnyIn_of_allQ {Q : Act → Prop} {Q' : Exit → Act → World → Prop} (hnd : noDefer ops = true) (hQ : ∀ a w, C w → Q a → Q' .normal a w) : ∀ (fuel : Nat) (listed : Array Bool) (a : Act) (w : World), C w →
    wpAnyQIn F n P md ops C Q fuel listed a → wpAnyIn F n P md ops Q' fuel listed a w
  | 0, _, _, _, hw, h => ⟨h.1, hQ _ _ hw h.2⟩
  | fuel + 1, _, _, _, hw, h => ⟨fun h0 => hQ _ _ hw (h.1 h0), fun i hi => quiet_wpOpIn hnd hw (fun a' w' hw' => wpAnyIn_of_allQ hnd hQ fuel _ a' w' hw') (h.2 i hi)⟩

/-- all of it only reads -/
theorem wpIn_quiet_all {id : Nat} {Q : Exit → Act → World → Prop} {a : Act} {w : World} {l : List Oper} (hm : P.follows .mixedOrders = true) (hnd : noDefer l.toArray = true) (hB : Region.lexB .any l.toArray = true)
    (h : wpQuietIn F n P l.toArray (fun w' => ∃ k, w' = w.drewN k) (fun a' => ∀ w', (∃ k, w' = w.drewN k) → Q .normal a' w') l a) : (Code.region id l.toArray true).wpIn F n P Q a w := by
  simp only [Region.lexB, Bool.and_eq_true] at hB
  refine wpIn_region_any hm (wpAnyIn_of_allQ (Q := fun a' => ∀ w', (∃ k, w' = w.drewN k) → Q .normal a' w') hnd (fun _ w' hw' h => h w' hw') _ _ _ _ ⟨1, rfl⟩ ?_)
  have := wpAnyQIn_lex (F := F) (n := n) (P := P) (C := fun w' => ∃ k, w' = w.drewN k) (md := .any) hB.1 l.toArray.toList 0 (Array.replicate l.toArray.size false) a (by simp) (by simpa using hB.2) (by simpa using h)
  simpa using this

/-- one operation of the walk, where the fence lets every function by -/
theorem quiet_step_w (hF : ∀ f, F.fn f) {Q : Act → Prop} {a : Act} {o : Oper} {rest : List Oper}
    (h : ∀ K : Act → Prop, (∀ a, wpQuietIn F n P ops C Q rest a → K a) → if Region.wanted o (yielded ops a.tmps) then o.quietIn F n P a C K else K (a.put o.dst undef)) : wpQuietIn F n P ops C Q (o :: rest) a :=
  wpQuietIn_step (fun _ _ f _ => hF f) h
end
end Go.Proofs.Ytadbpgkhenbpfaa
end
