/- Layer 18: changes as data; Lists, the answers' Takes and Same. -/
import Derived.Test.YtbpnaclnninndaaModeA
import Derived.Deep.QuietTactic
import Derived.BigQuiet
import Derived.Laws.StructEq
import Derived.ChangeKeysEq
namespace Go.Proofs.Ytbpnaclnninndaa
set_option linter.unusedVariables false
set_option linter.unusedSimpArgs false
open Go.RowKit

/-- does a letter take an argument? -/
def takesB (c : UInt8) (on : Bool) : Bool := c == 111 || c == 118 || c == 98 || c == 107 || (c == 108 && on)
theorem takes_b (c : UInt8) (on : Bool) (w : World) :
    Calls Try.prog 10 #[.int .u8 ↑c.toNat, .bool on] w fun e w' => e = .returned (.bool (takesB c on)) ∧ w = w' := takes_v c on w
set_option maxHeartbeats 2000000 in
theorem takes_r (c : UInt8) (on : Bool) (w : World) :
    Calls Try.prog 13 #[.int .u8 ↑c.toNat, .bool on] w fun e w' => e = .returned (.bool (takesB c on)) ∧ w = w' := by
  unfold takesB
  have e : ∀ n : UInt8, ((c.toNat : Int) == (n.toNat : Int)) = (c == n) := fun n => by
    rw [Bool.eq_iff_iff, beq_iff_eq, beq_iff_eq]
    constructor
    · intro h; exact UInt8.toNat_inj.mp (by omega)
    · intro h; rw [h]
  have e1 := e 111; have e2 := e 118; have e3 := e 98; have e4 := e 107; have e5 := e 108
  clear e
  cases h1 : (c == 111) <;> cases h2 : (c == 118) <;> cases h3 : (c == 98) <;> cases h4 : (c == 107) <;> cases h5 : (c == 108) <;> rw [h1] at e1 <;> rw [h2] at e2 <;> rw [h3] at e3 <;> rw [h4] at e4 <;> rw [h5] at e5
  all_goals
    clear h1 h2 h3 h4 h5
    have f1 : ((c.toNat : Int) == 111) = _ := e1
    have f2 : ((c.toNat : Int) == 118) = _ := e2
    have f3 : ((c.toNat : Int) == 98) = _ := e3
    have f4 : ((c.toNat : Int) == 107) = _ := e4
    have f5 : ((c.toNat : Int) == 108) = _ := e5
    clear e1 e2 e3 e4 e5
    go_enter Try.func13, Try.ntmps13
    go_wp2_with fail
    go_ret
    exact ⟨ret_bool (by simp), rfl⟩

/-- a change: on, its letter, its argument -/
abbrev Chg := Bool × UInt8 × ByteArray
def chV (x : Chg) : Value := .agg #[.bool x.1, .int .u8 x.2.1.toNat, .string x.2.2]
def listsB (x : Chg) : Bool := x.2.1 == 98 && x.2.2.toList.isEmpty
theorem lists_v (x : Chg) (w : World) :
    Calls Try.prog 14 #[chV x] w fun e w' => e = .returned (.bool (listsB x)) ∧ Below w.heap.size w w' := by
  obtain ⟨on, c, a⟩ := x
  unfold chV listsB
  simp only
  have e : ((c.toNat : Int) == 98) = (c == 98) := by
    rw [Bool.eq_iff_iff, beq_iff_eq, beq_iff_eq]
    constructor
    · intro h; exact UInt8.toNat_inj.mp (by have : (98 : UInt8).toNat = 98 := rfl; omega)
    · intro h; rw [h]; rfl
  obtain ⟨b, hb⟩ : ∃ b, (c == 98) = b := ⟨_, rfl⟩
  rw [hb] at e
  rw [hb]
  clear hb
  cases b
  all_goals
    go_enter Try.func14, Try.ntmps14
    go_wp2_with fail
    go_ret
    exact ⟨ret_bool (by simp), (Below.refl _ _).alloc (Nat.le_refl _) _⟩

theorem Try.chgStruct : Try.prog.underlying 29 = some (.struct (Try.prog.fieldsOf 29)) := by kernel_rfl
theorem Try.chgHeld : Try.prog.stoodInHeld 29 = false := by kernel_rfl
theorem Try.chgGuard : Try.prog.eqGuardType Try.prog.depth 29 = false := by kernel_rfl
/-- are two changes one? -/
def eqB (x y : Chg) : Bool := x.1 == y.1 && (x.2.1 == y.2.1 && x.2.2.toList == y.2.2.toList)
theorem eqB_iff {x y : Chg} : eqB x y = true ↔ x = y := by
  obtain ⟨a, b, c⟩ := x
  obtain ⟨a', b', c'⟩ := y
  unfold eqB
  simp only [Bool.and_eq_true, beq_iff_eq, Prod.mk.injEq]
  rw [ByteArray.toList_eq, ByteArray.toList_eq]
  constructor
  · rintro ⟨h1, h2, h3⟩; exact ⟨h1, h2, ba_ext h3⟩
  · rintro ⟨h1, h2, h3⟩; exact ⟨h1, h2, by rw [h3]⟩
theorem neq_chg (x y : Chg) (w : World) : (binOp .neq 29 (.agg #[.bool x.1, .int .u8 x.2.1.toNat, .string x.2.2]) (.agg #[.bool y.1, .int .u8 y.2.1.toNat, .string y.2.2])).run Try.prog w = .ok (.bool (!eqB x y)) w := by
  rw [run_neq_struct, run_equalIn_agg (P := Try.prog) w 9999 29 _ _ Try.chgStruct Try.chgHeld]
  have hf : (Try.prog.fieldsOf 29).toList.map (fun f => (f.name, f.type, f.offset)) = [("On", 4, 0), ("Letter", 5, 1), ("Arg", 9, 2)] := by kernel_rfl
  generalize (Try.prog.fieldsOf 29).toList = fs at hf ⊢
  rcases fs with _ | ⟨f1, _ | ⟨f2, _ | ⟨f3, _ | ⟨f4, fs⟩⟩⟩⟩
  all_goals simp only [List.map_nil, List.map_cons, List.cons.injEq, Prod.mk.injEq, reduceCtorEq, and_false, and_true, false_and] at hf
  obtain ⟨⟨n1, t1, z1⟩, ⟨n2, t2, z2⟩, n3, t3, z3⟩ := hf
  have k1 : Try.prog.plainKey 4 = true := by kernel_rfl
  have k2 : Try.prog.plainKey 5 = true := by kernel_rfl
  have k3 : Try.prog.plainKey 9 = true := by kernel_rfl
  have u1 : Try.prog.underlying 4 = some .bool := by kernel_rfl
  have u2 : Try.prog.underlying 5 = some (.int .u8) := by kernel_rfl
  have u3 : Try.prog.underlying 9 = some .string := by kernel_rfl
  have e2 : ((x.2.1.toNat : Int) == (y.2.1.toNat : Int)) = (x.2.1 == y.2.1) := by
    rw [Bool.eq_iff_iff, beq_iff_eq, beq_iff_eq]
    constructor
    · intro h; exact UInt8.toNat_inj.mp (by omega)
    · intro h; rw [h]
  have s1 : ("On" = "_") = False := by simp
  have s2 : ("Letter" = "_") = False := by simp
  have s3 : ("Arg" = "_") = False := by simp
  unfold eqB
  cases h1 : (x.1 == y.1) <;> cases h2 : (x.2.1 == y.2.1) <;> cases h3 : (x.2.2.toList == y.2.2.toList) <;>
    simp only [Op.eqFields, n1, t1, z1, n2, t2, z2, n3, t3, z3, s1, s2, s3, ne_eq, not_false_eq_true, if_true, Sem.run_bind,
      run_part_plain (w := w) k1 (xs := #[.bool x.1, .int .u8 x.2.1.toNat, .string x.2.2]) (off := 0) (v := .bool x.1) rfl,
      run_part_plain (w := w) k1 (xs := #[.bool y.1, .int .u8 y.2.1.toNat, .string y.2.2]) (off := 0) (v := .bool y.1) rfl,
      run_part_plain (w := w) k2 (xs := #[.bool x.1, .int .u8 x.2.1.toNat, .string x.2.2]) (off := 1) (v := .int .u8 x.2.1.toNat) rfl,
      run_part_plain (w := w) k2 (xs := #[.bool y.1, .int .u8 y.2.1.toNat, .string y.2.2]) (off := 1) (v := .int .u8 y.2.1.toNat) rfl,
      run_part_plain (w := w) k3 (xs := #[.bool x.1, .int .u8 x.2.1.toNat, .string x.2.2]) (off := 2) (v := .string x.2.2) rfl,
      run_part_plain (w := w) k3 (xs := #[.bool y.1, .int .u8 y.2.1.toNat, .string y.2.2]) (off := 2) (v := .string y.2.2) rfl,
      run_equalIn_bool' w 9998 4 x.1 y.1 u1, run_equalIn_int w 9998 5 _ _ _ _ u2, run_equalIn_string w 9998 9 _ _ u3, Result.andThen_ok, Sem.run_pure, Sem.run_ite, e2, h1, h2, h3,
      Bool.not_true, Bool.not_false, Bool.false_eq_true, if_false, if_true, Bool.and_true, Bool.and_false]
/-- a slice reads as changes -/
def ReadsC (W : World) (v : Value) (l : List Chg) : Prop :=
  (v = .slice none 0 0 ∧ l = []) ∨ ∃ g off cap, v = .slice (some ⟨g, off, none⟩) l.length cap ∧ ∀ i (h : i < l.length), W.cell? ⟨g, off + i * 3, none⟩ = some (.bool l[i].1) ∧ W.cell? ⟨g, off + i * 3 + 1, none⟩ = some (.int .u8 l[i].2.1.toNat) ∧ W.cell? ⟨g, off + i * 3 + 2, none⟩ = some (.string l[i].2.2)

set_option maxHeartbeats 4000000 in
theorem same_rows (g1 o1 c1 g2 o2 c2 : Nat) (a b : List Chg) (w : World) (hl : a.length = b.length) (ha1 : a.length ≤ 100000)
    (ha : ∀ i (h : i < a.length), w.cell? ⟨g1, o1 + i * 3, none⟩ = some (.bool a[i].1) ∧ w.cell? ⟨g1, o1 + i * 3 + 1, none⟩ = some (.int .u8 a[i].2.1.toNat) ∧ w.cell? ⟨g1, o1 + i * 3 + 2, none⟩ = some (.string a[i].2.2))
    (hb : ∀ i (h : i < b.length), w.cell? ⟨g2, o2 + i * 3, none⟩ = some (.bool b[i].1) ∧ w.cell? ⟨g2, o2 + i * 3 + 1, none⟩ = some (.int .u8 b[i].2.1.toNat) ∧ w.cell? ⟨g2, o2 + i * 3 + 2, none⟩ = some (.string b[i].2.2)) :
    Calls Try.prog 11 #[.slice (some ⟨g1, o1, none⟩) a.length c1, .slice (some ⟨g2, o2, none⟩) b.length c2] w fun e w' => e = .returned (.bool (decide (a = b))) ∧ ∃ n, w' = w.drewN n := by
  have HA := Lib.hid ha
  have HB := Lib.hid hb
  have HL := Lib.hid hl
  have hne : ((a.length : Int) != (b.length : Int)) = false := by rw [hl]; simp
  clear ha hb hl
  go_enter Try.func11, Try.ntmps11
  go_wp2_with fail
  go_loopw [5] (fun i wr => ∃ k : Nat, i = .int .i64 k ∧ k ≤ a.length ∧ Hid (a.take k = b.take k ∧ ∃ n, wr = w.drewN n)) (fun i _ => a.length - (intOf i).toNat)
  case atStart => exact ⟨0, rfl, Nat.zero_le _, rfl, 0, rfl⟩
  case round =>
    obtain ⟨k, rfl, hk, HQ⟩ := hrel
    by_cases hlt : k < a.length
    · have hlt2 : k < b.length := by have := HL.out; omega
      have hcell : ∀ p, wr.cell? p = w.cell? p := fun p => by obtain ⟨n, rfl⟩ := HQ.out.2; rfl
      obtain ⟨a1, a2, a3⟩ := HA.out k hlt
      obtain ⟨b1, b2, b3⟩ := HB.out k hlt2
      rw [← hcell] at a1 a2 a3 b1 b2 b3
      clear hcell
      have hneq := neq_chg a[k] b[k]
      have hgd := Try.chgGuard
      obtain ⟨eb, heb⟩ : ∃ eb, eqB a[k] b[k] = eb := ⟨_, rfl⟩
      simp only [heb] at hneq
      have HE := Lib.hid heb
      clear heb
      have p1 : (k : Int) < (a.length : Int) := by omega
      have p2 : (k : Int) < (b.length : Int) := by omega
      go_wp2_with fail
      go_quiet (fail)
      all_goals go_wp2_with fail
      · rename_i hx
        have hd : decide (a = b) = false := by
          rw [decide_eq_false_iff_not]
          intro e
          have h3 : eqB a[k] b[k] = true := eqB_iff.mpr (by simp only [e])
          rw [HE.out] at h3
          rw [h3] at hx
          cases hx
        obtain ⟨_, n, hn⟩ := HQ.out
        rw [hd]
        subst hn
        go_ret
        exact ⟨rfl, _, by rw [World.drewN_drewN]⟩
      · rename_i hx
        have h3 : a[k] = b[k] := eqB_iff.mp (by rw [HE.out]; simpa using hx)
        have h4 : a.take (k + 1) = b.take (k + 1) := by
          rw [List.take_succ_eq_append_getElem hlt, List.take_succ_eq_append_getElem hlt2, HQ.out.1, h3]
        obtain ⟨_, n, hn⟩ := HQ.out
        exact ⟨⟨k + 1, by go_num, by omega, h4, n + nq, by subst hn; rw [World.drewN_drewN]⟩, by simp [intOf]; omega⟩
    · obtain rfl : k = a.length := by omega
      have hab : a = b := by
        have := HQ.out.1
        rw [List.take_of_length_le (Nat.le_refl _), List.take_of_length_le (by have := HL.out; omega)] at this
        exact this
      have hd : decide (a = b) = true := by simp [hab]
      obtain ⟨_, n, hn⟩ := HQ.out
      have p1 : ¬ ((a.length : Int) < (a.length : Int)) := by omega
      subst hn
      go_wp2_with fail
      go_ret
      exact ⟨rfl, _, rfl⟩
end Go.Proofs.Ytbpnaclnninndaa
