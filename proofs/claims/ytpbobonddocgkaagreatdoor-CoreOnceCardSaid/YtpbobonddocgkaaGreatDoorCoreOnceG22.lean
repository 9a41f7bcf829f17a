/- Texts of this proof, one behind the other. -/
import Derived.Test.YtpbobonddocgkaaGreatDoorCoreOnceG18
import Derived.Test.YtpbobonddocgkaaGreatDoorCoreOnceG21
import Derived.Test.YtpbobonddocgkaaGreatDoorCoreOnceG12
import Derived.Test.YtpbobonddocgkaaGreatDoorChecked
import Derived.Test.YtpbobonddocgkaaGreatDoorRows
import Derived.ProofKit
import Derived.OpenShut
import Derived.ShutString
import Derived.ChangeArms
import Derived.ChangeSame
import Derived.WideShapes
import Derived.Lib.LaidU8T
import Derived.LaidMore
import Derived.Lay
import Derived.SevenTiedAt
import Derived.Stop.Joined
import Derived.Shelf.Vars
import Derived.Handed
import Derived.Lib.ItoaNum
import Derived.Below
set_option linter.unusedVariables false
set_option linter.unusedSimpArgs false
section
/- Layer 23: three come in; mathematics. -/
namespace Go.Proofs.YtpbobonddocgkaaGreatDoor
open Go Go.RowKit Go.Maps Go.Lib Go.Sort Go.Shelf

def peK (j : Nat) (t : Nat × Nat × Nat) : Int × CE := ((j : Int), ⟨t.1, t.2.1, t.2.2, none, [110, dg j], [117], true, q0S⟩)
def peL : Nat → List (Nat × Nat × Nat) → List (Int × CE)
  | _, [] => []
  | j, t :: r => peK j t :: peL (j + 1) r
def Tn (c : Nat) : List (KeyB × Ent VI) := (List.range c).map fun j => ent [110, dg (j + 1)] ((j : Int) + 1)
theorem peL_len : ∀ (j : Nat) (L : List (Nat × Nat × Nat)), (peL j L).length = L.length
  | _, [] => rfl
  | j, t :: r => by show (peL (j + 1) r).length + 1 = r.length + 1; rw [peL_len]
theorem peL_snoc : ∀ (j : Nat) (L : List (Nat × Nat × Nat)) (t : Nat × Nat × Nat), peL j (L ++ [t]) = peL j L ++ [peK (j + L.length) t]
  | j, [], t => by simp [peL]
  | j, a :: r, t => by
    show peK j a :: peL (j + 1) (r ++ [t]) = peK j a :: (peL (j + 1) r ++ [_])
    rw [peL_snoc (j + 1) r t, List.length_cons, show j + 1 + r.length = j + (r.length + 1) by omega]
theorem look_peL : ∀ (j : Nat) (L : List (Nat × Nat × Nat)) (k : Nat), j + L.length ≤ k → lookM (peL j L) (k : Int) = none
  | _, [], _, _ => rfl
  | j, a :: r, k, h => by
    have h2 : ¬ ((peK j a).1 = (k : Int)) := by show ¬ ((j : Int) = (k : Int)); simp at h; omega
    have := look_peL (j + 1) r k (by simp at h; omega)
    unfold lookM at this ⊢
    show Option.map _ (List.find? _ (peK j a :: peL (j + 1) r)) = none
    rw [List.find?_cons_of_neg (by simpa using h2)]
    exact this
theorem updM_snoc {K : List (Int × CE)} {k : Int} (h : lookM K k = none) (e e' : CE) : updM (K ++ [(k, e)]) k e' = K ++ [(k, e')] := by
  unfold updM
  rw [List.map_append]
  congr 1
  · conv => rhs; rw [← List.map_id K]
    apply List.map_congr_left
    intro p hp
    have : p.1 ≠ k := fun e1 => by
      unfold lookM at h
      rw [Option.map_eq_none_iff, List.find?_eq_none] at h
      exact absurd e1 (by simpa using h p hp)
    simp [this]
  · simp
theorem look_snoc {K : List (Int × CE)} {k : Int} (h : lookM K k = none) (e : CE) : lookM (K ++ [(k, e)]) k = some e := by
  unfold lookM at h ⊢
  rw [Option.map_eq_none_iff] at h
  rw [List.find?_append, h]
  simp
theorem tn_facts (k : Nat) (hk : k = 1 ∨ k = 2 ∨ k = 3) : lookM (Tn (k - 1)) (foldL [110, dg k]) = none ∧ delM (Tn (k - 1)) (foldL []) = Tn (k - 1) ∧ setM (Tn (k - 1)) (foldL [110, dg k]) ⟨bs [110, dg k], foldL [110, dg k], (k : Int)⟩ = Tn k ∧ (Tn (k - 1)).length = k - 1 ∧ OkKIS (k : Int) := by
  rcases hk with rfl | rfl | rfl <;> exact ⟨rfl, rfl, rfl, rfl, by unfold OkKIS; decide⟩
/-- how many came in -/
def In1 (base : Nat) (w1 : World) (G : CoG) (k : Nat) (W : World) : Prop := ∃ L C, L.length + 1 = k ∧ CoAt base G C (peL 1 L) (Tn (k - 1)) (2 * (k - 1)) W ∧ GlobB base W ∧ RowKit.Below base w1 W
/-- what was claimed so far -/
def In2 (base : Nat) (w1 : World) (G : CoG) (i : Nat) (W : World) : Prop := ∃ s j, StO base G s j W ∧ (s = 0 ∨ s = 2 ∨ s = 3) ∧ j ≤ i ∧ par j = decide (s ≠ 0) ∧ RowKit.Below base w1 W
theorem in1_start {base : Nat} {w1 W : World} {G : CoG} (h : In1 base w1 G 4 W) (hU : G.U = []) : ∃ C L, CoAt base G C (peL 1 L) (Tn 3) 6 W ∧ L.length = 3 ∧ GlobB base W ∧ RowKit.Below base w1 W := by
  obtain ⟨L, C, h1, h2, h3, h4⟩ := h
  exact ⟨C, L, h2, by omega, h3, h4⟩
theorem in2_start {base : Nat} {W : World} {G : CoG} {C : Nat → CTag} {L : List (Nat × Nat × Nat)} (h : CoAt base G C (peL 1 L) (Tn 3) 6 W) (hL : L.length = 3) (hg : GlobB base W) : StO base G 0 0 W := by
  match L, hL with
  | [a, b, c], _ => exact ⟨C, a.1, a.2.1, a.2.2, none, b.1, b.2.1, b.2.2, c.1, c.2.1, c.2.2, Tn 3, h, List.Perm.refl _, hg⟩
theorem cat_n (d : UInt8) : ({ data := #[110] } : ByteArray) ++ bs [d] = bs [110, d] := ba_ext (by simp)
end Go.Proofs.YtpbobonddocgkaaGreatDoor
end
section
/- An argument that is a slice of anything flat, opened. -/
namespace Go.Proofs.YtpbobonddocgkaaGreatDoor
open Go Go.ChangeShapes Go.WideShapes Go.RowKit Go.Deep

section
variable {H : Type} {enc : TypeId × Value → H} {P : Program} {W : World}
theorem open_elems {α : Type} [Inhabited α] {t e : TypeId} {base k : Nat} {v : Value} {d : DataW H} {p : List MemPlace} (hk : 0 < k) (encf : α → List Value) (G : α → Prop) (ht : P.underlying t = some (.slice e)) (hc : P.cellsOf e = k)
    (hdec : ∀ n cs y, cs.length = k → DataW.trod enc P W 0 (fun _ => true) true n e cs = some y → ∃ x, cs = encf x ∧ G x)
    (hval : Value.okWide P W .any base t v) (h : DataW.Trod enc P W 0 (fun _ => true) true t v d p) :
    ∃ (A : Option Addr) (l : List α) (c : Nat), v = .slice A l.length c ∧ l.length ≤ c ∧ c ≤ maxLen ∧ (∀ x ∈ l, G x) ∧
      (0 < l.length → ∃ g o, A = some ⟨g, o, none⟩ ∧ g < W.heap.size ∧ ∀ i (h : i < l.length) j u, (encf l[i])[j]? = some u → W.cell? ⟨g, o + i * k + j, none⟩ = some u) := by
  obtain ⟨A, n, c, rfl⟩ := okWide_slice ht hval
  obtain ⟨fuel, hf⟩ := h
  rcases open_slice ht hf with ⟨hcs, _⟩ | ⟨a, len, cap, m, n', D, Pl, hcs, _, hl, hm, hmm, _, hel⟩
  · have h3 : A = none ∧ n = 0 ∧ c = 0 := by simpa [Value.cells] using hcs
    obtain ⟨rfl, rfl, rfl⟩ := h3
    exact ⟨none, [], 0, rfl, Nat.le_refl _, by unfold maxLen; omega, by simp, fun h => absurd h (by simp)⟩
  · have h3 : A = some a ∧ n = len ∧ c = cap := by simpa [Value.cells] using hcs
    obtain ⟨rfl, rfl, rfl⟩ := h3
    simp only [if_true] at hmm
    have each : ∀ i, i < n → ∃ x : α, G x ∧ (encf x).length = k ∧ ∀ j u, (encf x)[j]? = some u → W.cell? ((a.add (i * k)).add j) = some u := by
      intro i hi
      obtain ⟨cs', h1, h2⟩ := hel i (by omega)
      rw [hc] at h1
      obtain ⟨_, hlen, hat⟩ := World.cells?_some h1
      obtain ⟨x, rfl, hg⟩ := hdec _ _ _ hlen h2
      refine ⟨x, hg, hlen, fun j u hu => ?_⟩
      have hj : j < k := by
        rw [← hlen]; exact (List.getElem?_eq_some_iff.1 hu).1
      rw [hat j hj, hu]
    obtain ⟨F, hF⟩ := choose_lt each
    refine ⟨some a, (List.range n).map F, c, by simp, by simpa using hl, hm, ?_, ?_⟩
    · intro x hx
      simp only [List.mem_map, List.mem_range] at hx
      obtain ⟨i, hi, rfl⟩ := hx
      exact (hF i hi).1
    · intro hpos
      simp only [List.length_map, List.length_range] at hpos
      obtain ⟨_, hl0, h0⟩ := hF 0 hpos
      have hq := h0 0 ((encf (F 0))[0]'(by omega)) (List.getElem?_eq_getElem (by omega))
      have hq : W.cell? (a.add 0) = some ((encf (F 0))[0]'(by omega)) := by
        have e : (a.add (0 * k)).add 0 = a.add 0 := by
          obtain ⟨b, o, s⟩ := a
          cases s <;> simp [Addr.add]
        rwa [e] at hq
      obtain ⟨g, o, rfl⟩ := spot_of hq
      have hg : g < W.heap.size := by
        have := block_lt_of_cell hq
        simpa [add_at] using this
      refine ⟨g, o, rfl, hg, fun i hi j u hu => ?_⟩
      simp only [List.length_map, List.length_range] at hi
      obtain ⟨_, _, hh⟩ := hF i hi
      have := hh j u (by simpa using hu)
      rwa [add_at, add_at] at this
end
end Go.Proofs.YtpbobonddocgkaaGreatDoor
end
section
/- Arguments that are slices of bytes, opened (by gendec.py). -/
namespace Go.Proofs.YtpbobonddocgkaaGreatDoor
open Go Go.ChangeShapes Go.WideShapes Go.RowKit

abbrev zbyT : Type := Int
/-- its cells -/
def zbyL (x : zbyT) : List Value := [.int .u8 x]
def zbyG (x : zbyT) : Prop := (Lit.int .u8 x).wf = true
set_option maxRecDepth 1000000 in
theorem dec_zby {H : Type} {enc : TypeId × Value → H} {W : World} {base : Nat} {spare : Nat → Bool} {held : Bool} {fuel : Nat} {cs : List Value} {y : DataW H × List MemPlace} (hlen : cs.length = 1) (hf : DataW.trod enc Tryz.prog W base spare held fuel 5 cs = some y) : ∃ x, cs = zbyL x ∧ zbyG x := by
  obtain ⟨m0, q0, _, z0⟩ := DataW.trod_int Tryz.underlying5 hf
  exact ⟨m0, q0, z0⟩
set_option maxRecDepth 1000000 in
theorem open_zbys {H : Type} {enc : TypeId × Value → H} {W : World} {base : Nat} {v : Value} {d : DataW H} {p : List MemPlace} (hval : Value.okWide Tryz.prog W .any base 22 v) (h : DataW.Trod enc Tryz.prog W 0 (fun _ => true) true 22 v d p) :
    ∃ (A : Option Addr) (l : List zbyT) (c : Nat), v = .slice A l.length c ∧ l.length ≤ c ∧ c ≤ maxLen ∧ (∀ x ∈ l, zbyG x) ∧ (0 < l.length → ∃ g o, A = some ⟨g, o, none⟩ ∧ g < W.heap.size ∧ ∀ i (h : i < l.length) j u, (zbyL l[i])[j]? = some u → W.cell? ⟨g, o + i * 1 + j, none⟩ = some u) := by
  have hc : Tryz.prog.cellsOf 5 = 1 := by kernel_rfl
  exact open_elems (by decide) zbyL zbyG Tryz.underlying22 hc (fun _ _ _ hl hf => dec_zby hl hf) hval h
def BytesQ (w : World) (A : Option Addr) (l : List zbyT) : Prop := (∀ x ∈ l, zbyG x) ∧ (0 < l.length → ∃ g o, A = some ⟨g, o, none⟩ ∧ g < w.heap.size ∧ ∀ i (h : i < l.length) j u, (zbyL l[i])[j]? = some u → w.cell? ⟨g, o + i * 1 + j, none⟩ = some u)
theorem bytesQ_at {w : World} {A : Option Addr} {l : List zbyT} (h : BytesQ w A l) {k : Nat} (hk : k < l.length) : ∃ (g o : Nat), A = some ⟨g, o, none⟩ ∧ 0 ≤ l[k] ∧ l[k] ≤ 255 ∧ ∀ W, RowKit.Below w.heap.size w W → W.cell? ⟨g, o + k, none⟩ = some (.int .u8 l[k]) := by
  obtain ⟨g, o, rfl, hg, ha⟩ := h.2 (by omega)
  have hak := ha k hk 0 _ rfl
  have hz := h.1 l[k] (List.getElem_mem hk)
  simp only [zbyG, Lit.wf, IntKind.has, Bool.and_eq_true, decide_eq_true_eq] at hz
  rw [Nat.mul_one, Nat.add_zero] at hak
  exact ⟨g, o, rfl, hz.1, hz.2, fun W hb => (World.cell?_of_block (w := w) (w' := W) (a := ⟨g, o + k, none⟩) (hb.block g hg)).trans hak⟩
end Go.Proofs.YtpbobonddocgkaaGreatDoor
end
section
/- Layer 23: CoreOnce. -/
namespace Go.Proofs.YtpbobonddocgkaaGreatDoor
open Go Go.RowKit Go.Maps Go.Lib Go.Sort Go.Shelf

theorem ba_extract_0 (s : ByteArray) (n : Nat) : (s.extract 0 n).data.toList = s.data.toList.take n := by simp
theorem wrap8' {a : Int} (h : 0 ≤ a ∧ a < 256) : IntKind.u8.wrap a = a := by
  simp [IntKind.wrap, IntKind.signed, IntKind.bits]
  omega
set_option maxRecDepth 100000 in
set_option maxHeartbeats 64000000 in
theorem coreOnce_main (A : Option Addr) (l : List zbyT) (cc : Nat) (w : World) (hl : l.length ≤ maxLen) (hg : Glob23 w) (hA : BytesQ w A l) :
    Calls Tryz.prog 3 #[.slice A l.length cc] w fun e w' => e = .returned (.bool true) ∧ Below w.heap.size w w' := by
  have HA := Lib.hid hA
  have HAw := Lib.hid (awake23 w hg)
  have HG := Lib.hid hg
  clear hA hg
  go_enter Tryz.func3, Tryz.ntmps3
  go_wp2_with fail
  refine HAw.out.mono ?_
  rintro e w0 ⟨rfl, b0⟩
  clear HAw
  have B0 := Lib.hid b0
  by_cases hl40 : l.length ≤ 40
  rotate_left
  · have p0 : decide ((40 : Int) < (l.length : Int)) = true := by simp; omega
    have p0' : (40 : Int) < (l.length : Int) := by omega
    clear b0
    go_wp2_with fail
    go_ret
    exact ⟨rfl, B0.out⟩
  have p0 : decide ((40 : Int) < (l.length : Int)) = false := by simp; omega
  have p0' : ¬ (40 : Int) < (l.length : Int) := by omega
  have HN := Lib.hid (core_new (n0 := 9) (n1 := 65536) (n2 := 1) (n3 := 1) (n4 := 1) (n5 := 5) (n6 := 5) (n8 := 9) (n9 := 9) (n10 := 9) (by decide) (by decide) (by decide) (by decide) (by decide) (by decide) (by decide) w0 (HG.out.below b0).1)
  have HG0 := Lib.hid (HG.out.below b0)
  clear b0
  go_wp2_with fail
  refine HN.out.mono ?_
  rintro e w1 ⟨G, C, rfl, h1, b1, g0, g1, g6, gU⟩
  have H1 : Hid (In1 w0.heap.size w1 G 1 w1) := ⟨[], C, rfl, h1, globB_new HG0.out b1, Below.refl _ _⟩
  have HGs := Lib.hid (And.intro g0 (And.intro g1 (And.intro g6 (And.intro gU b1))))
  clear h1 b1 g0 g1 g6 gU HN p0 p0'
  go_wp2_with fail
  go_loopw [5] (fun i wr => ∃ k : Nat, i = .int .i64 k ∧ 1 ≤ k ∧ k ≤ 4 ∧ Hid (In1 w0.heap.size w1 G k wr)) (fun i _ => 4 - (RowKit.intOf i).toNat)
  case atStart => exact ⟨1, rfl, by omega, by omega, H1⟩
  case round =>
    obtain ⟨k, rfl, hk1, hk4, HI⟩ := hrel
    clear H1
    by_cases hlt : k ≤ 3
    · have p0 : (k : Int) ≤ 3 := by omega
      obtain ⟨L, C, hL, h1, hgl, hup⟩ := HI.out
      have hk : k = 1 ∨ k = 2 ∨ k = 3 := by omega
      obtain ⟨t1, t2, t3, t4, t5⟩ := tn_facts k hk
      obtain ⟨g0, g1, g6, gU, b1⟩ := HGs.out
      have hlk : lookM (peL 1 L) (k : Int) = none := look_peL 1 L k (by omega)
      have hlen : (peL 1 L).length = k - 1 := by rw [peL_len]; omega
      have HC := connect_any h1 hgl (by omega) t5 hlk (by omega) (by rw [hlen, g0]; omega) (by omega) (by rw [g1]; decide)
      rw [g1] at HC
      have HC := Lib.hid HC
      have HX := Lib.hid (And.intro hL (And.intro h1 (And.intro hgl (And.intro hup (And.intro hk (And.intro hlk hlen))))))
      clear hL h1 hgl hup hk t1 t2 t3 t4 t5 g0 g1 g6 gU b1 hlk hlen HI
      go_wp2_with fail
      refine HC.out.mono ?_
      rintro e w2 ⟨rfl, B, q, f, hto⟩
      have HT2 := Lib.hid hto
      clear HC hto
      go_wp2_with fail
      refine (digits_one k (by omega) w2).mono ?_
      rintro e w3 ⟨rfl, b3⟩
      have hcat := cat_n (dg k)
      obtain ⟨hL, h1, hgl, hup, hk, hlk, hlen⟩ := HX.out
      obtain ⟨t1, t2, t3, t4, t5⟩ := tn_facts k hk
      obtain ⟨g0, g1, g6, gU, b1⟩ := HGs.out
      have hto3 := HT2.out.then b3
      obtain ⟨C3, h3, o3⟩ := hto3
      have hl3 := look_snoc hlk (newE B q f 65536)
      have HCl := claim_first h3 (hgl.onto (h1.up o3)) hl3 rfl (show ([] : List UInt8).length ≤ 100 by decide) (show ([] : List UInt8).length ≤ 100 by decide) (nm := [110, dg k]) (show 2 ≤ 100 by decide) (nick_n k hk) t1 (show ((delM (Tn (k - 1)) (foldL [])).length : Int) < G.n0 by rw [t2, t4, g0]; omega) (by omega)
      have e3 : setM (delM (Tn (k - 1)) (foldL (newE B q f 65536).nick)) (foldL [110, dg k]) ⟨bs [110, dg k], foldL [110, dg k], (k : Int)⟩ = Tn k := by rw [show (newE B q f 65536).nick = [] from rfl, t2, t3]
      rw [e3, updM_snoc hlk] at HCl
      have HCl := Lib.hid HCl
      have HT3 := Lib.hid (And.intro h3 o3)
      clear hL h1 hgl hup hk t1 t2 t3 t4 t5 g0 g1 g6 gU b1 hlk hlen h3 o3 hl3 e3 b3 HT2
      go_wp2_with fail
      refine HCl.out.mono ?_
      rintro e w4 ⟨rfl, C4, h4, o4⟩
      obtain ⟨hL, h1, hgl, hup, hk, hlk, hlen⟩ := HX.out
      have hl4 := look_snoc hlk ({ newE B q f 65536 with nick := [110, dg k] })
      have HSs := setSign_u h4 hl4
      rw [updM_snoc hlk] at HSs
      have HSs := Lib.hid HSs
      have HT4 := Lib.hid (And.intro h4 o4)
      clear hL h1 hgl hup hk hlk hlen h4 o4 hl4 HCl hcat
      go_wp2_with fail
      refine HSs.out.mono ?_
      rintro e w5 ⟨rfl, C5, h5, o5⟩
      obtain ⟨hL, h1, hgl, hup, hk, hlk, hlen⟩ := HX.out
      obtain ⟨g0, g1, g6, gU, b1⟩ := HGs.out
      have hl5 : lookM (peL 1 L ++ [((k : Int), ({ newE B q f 65536 with nick := [110, dg k], user := [117] } : CE))]) (k : Int) = some ⟨B, q, f, none, 110 :: [dg k], 117 :: [], false, q0S⟩ := look_snoc hlk _
      obtain ⟨h3, o3⟩ := HT3.out
      obtain ⟨h4, o4⟩ := HT4.out
      have o35 := (o3.trans o4).trans o5
      have HRe := register_any h5 (hgl.onto (h1.up o35)) (by omega) hl5 (show 2 ≤ 100 by decide) (show 1 ≤ 100 by decide) gU
      rw [updM_snoc hlk] at HRe
      have HRe := Lib.hid HRe
      have HT5 := Lib.hid (And.intro h5 o35)
      clear hL h1 hgl hup hk hlk hlen g0 g1 g6 gU b1 hl5 h3 o3 h4 o4 o35 h5 o5 HSs HT3 HT4
      go_wp2_with fail
      refine HRe.out.mono ?_
      rintro e w6 ⟨rfl, C6, h6, o6⟩
      have HN6 : Hid (In1 w0.heap.size w1 G (k + 1) w6) := by
        obtain ⟨hL, h1, hgl, hup, hk, hlk, hlen⟩ := HX.out
        obtain ⟨h5, o35⟩ := HT5.out
        have oo := o35.trans o6
        refine ⟨L ++ [(B, q, f)], C6, by simp; omega, ?_, hgl.onto (h1.up oo), hup.trans (h1.up oo)⟩
        rw [peL_snoc, show 1 + L.length = k by omega, show k + 1 - 1 = k by omega, show 2 * k = 2 * (k - 1) + 1 + 1 by omega]
        exact h6
      clear h6 o6 HRe HT5 HX
      go_wp2_with fail
      go_roundw
      case rel => exact ⟨k + 1, by go_num, by omega, by omega, HN6⟩
      case measure => simp [RowKit.intOf]; omega
    · obtain rfl : k = 4 := by omega
      obtain ⟨g0, g1, g6, gU, bG⟩ := HGs.out
      have HS4 := Lib.hid (in1_start HI.out gU)
      clear HI
      obtain ⟨C4, L, h4, hL4, hg4, hup4⟩ := HS4.out
      have HMo := Lib.hid (monitor_of h4)
      have HWA := Lib.hid (wisAdd h4.mon h4.base_le (by rw [gU]; decide) (a := 1) okK1 (n := [88]) (by decide))
      clear h4 hL4 hg4 hup4 g0 g1 g6 gU bG
      go_wp2_with fail
      refine HMo.out.mono ?_
      rintro e w7 ⟨rfl, rfl⟩
      clear HMo
      go_wp2_with fail
      refine HWA.out.mono ?_
      rintro e w8 ⟨Y', c', U', rfl, hy, hf, hw, hcase⟩
      obtain ⟨C4, L, h4, hL4, hg4, hup4⟩ := HS4.out
      obtain ⟨g0, g1, g6, gU, bG⟩ := HGs.out
      have hU2 : U' = [(1, [88])] := by
        rcases hcase with ⟨_, ⟨_, h⟩ | ⟨_, _, h⟩⟩ | ⟨h, _⟩
        · rw [gU] at h; simp at h
        · have := h [] List.Pairwise.nil (fun x => by rw [gU]; simp)
          rw [g6] at this; simp at this
        · rw [h, gU]; rfl
      subst hU2
      have hto := h4.monTo hw hy hf
      obtain ⟨G2, hG2⟩ : ∃ G2 : CoG, { G with YM := Y', U := [(1, [88])] } = G2 := ⟨_, rfl⟩
      have hGc : G2.c = G.c := by rw [← hG2]
      have h9 : G2.n0 = 9 := by rw [← hG2]; exact g0
      have hU9 : G2.U = [(1, [88])] := by rw [← hG2]
      rw [hG2] at hto
      obtain ⟨C8, h8, o8⟩ := hto
      have HI2 : Hid (In2 w0.heap.size w1 G2 0 w8) := ⟨0, 0, in2_start h8 hL4 (hg4.onto (h4.up o8)), by decide, by omega, by decide, hup4.trans (h4.up o8)⟩
      have HB1 := Lib.hid bG
      clear hy hf hw hcase h4 hL4 hg4 hup4 g0 g1 g6 gU bG h8 o8 hG2 HWA HS4 HGs
      go_wp2_with fail
      go_loopw [6] (fun i wr => ∃ i' : Nat, i = .int .i64 i' ∧ i' ≤ l.length ∧ Hid (In2 w0.heap.size w1 G2 i' wr)) (fun i _ => l.length - (RowKit.intOf i).toNat)
      case atStart => exact ⟨0, rfl, Nat.zero_le _, HI2⟩
      case round =>
        obtain ⟨i, rfl, hi, HI⟩ := hrel
        clear HI2
        by_cases hlt2 : i < l.length
        · obtain ⟨g, o, rfl, b0, b1, hat⟩ := bytesQ_at HA.out hlt2
          obtain ⟨s, j, hst, hs, hj, hp, hup⟩ := HI.out
          have hb1 := HB1.out.trans hup
          have hbw : Below w.heap.size w wr := B0.out.trans (hb1.mono B0.out.size)
          have a0 := hat wr hbw
          obtain ⟨bv, hbv⟩ : ∃ bv : Int, l[i] = bv := ⟨_, rfl⟩
          rw [hbv] at a0 b0 b1
          have b0 : (0 : Int) ≤ bv := b0
          have b1 : bv ≤ (255 : Int) := b1
          obtain ⟨M, hm⟩ : ∃ M : Nat, bv = (M : Int) := ⟨bv.toNat, by omega⟩
          rw [hm] at a0
          clear hbv
          have hM1 : M ≤ 255 := by omega
          have pI : (i : Int) < (l.length : Int) := by omega
          have q1 : (M : Int).tdiv 2 = ((M / 2 : Nat) : Int) := rfl
          have q2 : ((M / 2 : Nat) : Int).tmod 2 = ((M / 2 % 2 : Nat) : Int) := rfl
          have q3 : (M : Int).tmod 2 = ((M % 2 : Nat) : Int) := rfl
          obtain ⟨D, hD⟩ : ∃ D, M / 2 = D := ⟨_, rfl⟩
          rw [hD] at q1 q2
          have hD1 : D ≤ 127 := by omega
          have v1 : IntKind.u8.wrap (D : Int) = (D : Int) := wrap8' (by omega)
          have v2 : IntKind.i64.wrap (D : Int) = (D : Int) := IntWalk.i64_in _ ⟨by omega, by omega⟩
          have HJ := Lib.hid (And.intro hj hup)
          have HJ2 : Hid (w0.heap.size ≤ wr.heap.size) := hb1.size
          clear hat HI hD
          rcases Nat.mod_two_eq_zero_or_one D with r1 | r1 <;> rcases Nat.mod_two_eq_zero_or_one M with r2 | r2 <;> rw [r1] at q2 <;> rw [r2] at q3 <;> clear r1 r2 <;> simp only [Int.ofNat_zero, Int.ofNat_one, Int.natCast_zero, Int.natCast_one] at q2 q3
          · have HS := step_x hs hst hU9 h9 (by omega) hp 2 (by decide)
            rw [hGc] at HS
            have HS := Lib.hid HS
            clear hst hs hj hp hup b0 b1 hm hM1 hbw hb1
            go_wp2_with fail
            refine HS.out.mono ?_
            rintro e w9 ⟨⟨v, rfl⟩, ⟨s', j', hst', hs', hj', hp'⟩, hb9⟩
            have HN9 : Hid (In2 w0.heap.size w1 G2 (i + 1) w9) := ⟨s', j', hst', hs', by have := HJ.out.1; omega, hp', HJ.out.2.trans hb9⟩
            clear hst' hs' hj' hp' hb9 HS
            go_wp2_with fail
            go_roundw
            case rel => exact ⟨i + 1, by go_num, by omega, HN9⟩
            case measure => simp [RowKit.intOf]; omega
          · have HDg := Lib.hid (digits_one 2 (by decide) wr)
            have HS := Lib.hid (fun W (hW : Below wr.heap.size wr W) => (by have := step_n hs (hst.below hW) hU9 h9 (by omega) hp 2 (by decide); rw [hGc] at this; exact this : Calls Tryz.prog 7 #[.pointer (some ⟨G.c, 0, none⟩), .int .i64 (2 : Nat), .string (bs [110, dg 2])] W (StepO w0.heap.size G2 j W)))
            clear hst hs hj hp hup b0 b1 hm hM1 hbw hb1
            go_wp2_with fail
            refine HDg.out.mono ?_
            rintro e w8b ⟨rfl, b8b⟩
            have hcat := cat_n (dg 2)
            have HS8 := Lib.hid (HS.out w8b b8b)
            have HB8 := Lib.hid b8b
            clear HDg HS b8b
            go_wp2_with fail
            refine HS8.out.mono ?_
            rintro e w9 ⟨⟨v, rfl⟩, ⟨s', j', hst', hs', hj', hp'⟩, hb9⟩
            have HN9 : Hid (In2 w0.heap.size w1 G2 (i + 1) w9) := ⟨s', j', hst', hs', by have := HJ.out.1; omega, hp', (HJ.out.2.trans (HB8.out.mono HJ2.out)).trans hb9⟩
            clear hst' hs' hj' hp' hb9 HS8 hcat
            go_wp2_with fail
            go_roundw
            case rel => exact ⟨i + 1, by go_num, by omega, HN9⟩
            case measure => simp [RowKit.intOf]; omega
          · have HS := step_x hs hst hU9 h9 (by omega) hp 3 (by decide)
            rw [hGc] at HS
            have HS := Lib.hid HS
            clear hst hs hj hp hup b0 b1 hm hM1 hbw hb1
            go_wp2_with fail
            refine HS.out.mono ?_
            rintro e w9 ⟨⟨v, rfl⟩, ⟨s', j', hst', hs', hj', hp'⟩, hb9⟩
            have HN9 : Hid (In2 w0.heap.size w1 G2 (i + 1) w9) := ⟨s', j', hst', hs', by have := HJ.out.1; omega, hp', HJ.out.2.trans hb9⟩
            clear hst' hs' hj' hp' hb9 HS
            go_wp2_with fail
            go_roundw
            case rel => exact ⟨i + 1, by go_num, by omega, HN9⟩
            case measure => simp [RowKit.intOf]; omega
          · have HDg := Lib.hid (digits_one 3 (by decide) wr)
            have HS := Lib.hid (fun W (hW : Below wr.heap.size wr W) => (by have := step_n hs (hst.below hW) hU9 h9 (by omega) hp 3 (by decide); rw [hGc] at this; exact this : Calls Tryz.prog 7 #[.pointer (some ⟨G.c, 0, none⟩), .int .i64 (3 : Nat), .string (bs [110, dg 3])] W (StepO w0.heap.size G2 j W)))
            clear hst hs hj hp hup b0 b1 hm hM1 hbw hb1
            go_wp2_with fail
            refine HDg.out.mono ?_
            rintro e w8b ⟨rfl, b8b⟩
            have hcat := cat_n (dg 3)
            have HS8 := Lib.hid (HS.out w8b b8b)
            have HB8 := Lib.hid b8b
            clear HDg HS b8b
            go_wp2_with fail
            refine HS8.out.mono ?_
            rintro e w9 ⟨⟨v, rfl⟩, ⟨s', j', hst', hs', hj', hp'⟩, hb9⟩
            have HN9 : Hid (In2 w0.heap.size w1 G2 (i + 1) w9) := ⟨s', j', hst', hs', by have := HJ.out.1; omega, hp', (HJ.out.2.trans (HB8.out.mono HJ2.out)).trans hb9⟩
            clear hst' hs' hj' hp' hb9 HS8 hcat
            go_wp2_with fail
            go_roundw
            case rel => exact ⟨i + 1, by go_num, by omega, HN9⟩
            case measure => simp [RowKit.intOf]; omega
        · obtain rfl : i = l.length := by omega
          obtain ⟨s, j, hst, hs, hj, hp, hup⟩ := HI.out
          clear HI
          obtain ⟨C, B1, q1, f1, ob, B2, q2, f2, B3, q3, f3, T, h1, h2, h3⟩ := hst
          have hj40 : j ≤ 40 := by omega
          have hHo := holder_any h1 (nm := [120]) (by decide)
          have hsome : (lookM T (foldL [120])).isSome = par j := by
            rw [look_perm h2 (tab_nodup s hs), hp]
            rcases hs with rfl | rfl | rfl <;> rfl
          rw [hsome, hGc] at hHo
          obtain ⟨x0, hx0⟩ : ∃ x0, ((lookM T (foldL [120])).getD zeroEI).thing = x0 := ⟨_, rfl⟩
          rw [hx0] at hHo
          have HHo := Lib.hid hHo
          have HF := Lib.hid (And.intro h1 (And.intro hup hj40))
          obtain ⟨held, hheld⟩ : ∃ held, par j = held := ⟨_, rfl⟩
          rw [hheld] at HHo
          have HH := Lib.hid hheld
          have HB := Lib.hid hup
          clear h1 h2 h3 hs hj hp hup hHo hsome hx0 hheld hj40
          have pI : ¬ (l.length : Int) < (l.length : Int) := by omega
          go_wp2_with fail
          refine HHo.out.mono ?_
          rintro e w9 ⟨rfl, b9⟩
          obtain ⟨h1, hup, hj40⟩ := HF.out
          have h9' := h1.below b9
          have hrl := restL_len j false
          have hDr := drain_any h9' (id := 1) (e := c1E B1 q1 f1 ob j) rfl (show (restL j false).length ≤ 1000000 by omega) (show (0 : Int) ≤ 0 by decide) (show (0 : Int) ≤ 1000000000000 by decide) 65536
          have htk : List.take (goesQ (c1E B1 q1 f1 ob j).s 65536) (c1E B1 q1 f1 ob j).s.ws = restL j false := by
            refine List.take_of_length_le ?_
            show (restL j false).length ≤ (max 0 (min (65536 : Int) ((restL j false).length : Int))).toNat
            omega
          rw [htk, hGc] at hDr
          have HDr := Lib.hid hDr
          have H9 := Lib.hid (And.intro b9 h9')
          clear h1 hup hj40 h9' hrl hDr htk b9 HHo
          go_wp2_with fail
          refine HDr.out.mono ?_
          rintro e w10 ⟨⟨v, rfl, hv⟩, C10, h10, o10⟩
          have hcv := conv_ownB hv
          have HE : Hid (Below w.heap.size w w10) := by
            obtain ⟨h1, hup, hj40⟩ := HF.out
            have c1 := (hup.trans (H9.out.1.mono h1.base_le)).trans (H9.out.2.up o10)
            exact B0.out.trans ((HB1.out.trans c1).mono B0.out.size)
          clear hv h10 o10 HDr
          go_wp2_with fail
          go_loopw [10, 11] (fun sv on wr => ∃ (m : Nat) (b : Bool), sv = .string (bs (restL m b)) ∧ on = .bool b ∧ (b != par m) = held ∧ wr = w10) (fun sv _ _ => match sv with | .string x => x.size | _ => 0)
          case atStart => exact ⟨j, false, rfl, rfl, by rw [← HH.out]; cases par j <;> rfl, rfl⟩
          case round =>
            obtain ⟨m, b, rfl, rfl, hx, rfl⟩ := hrel
            cases m with
            | zero =>
              have hb : (b == held) = true := by rw [← hx]; cases b <;> rfl
              have e0 : bs (restL 0 b) = ({ data := #[] } : ByteArray) := rfl
              rw [e0]
              clear e0 hx
              have hbh : b = held := by simpa using hb
              subst hbh
              go_wp2_with fail
              go_ret
              exact ⟨by cases b <;> rfl, HE.out⟩
            | succ m =>
              obtain ⟨S, hS⟩ : ∃ S, bs (restL (m + 1) b) = S := ⟨_, rfl⟩
              have hlist : S.data.toList = txL b ++ restL m (!b) := by rw [← hS]; simp [restL]
              have hne := str_ne (s := S) (by rw [← hS]; cases b <;> simp [restL, txL, upL, downL])
              have hz : S.size = (txL b).length + (restL m (!b)).length := by
                have := congrArg List.length hlist
                rw [List.length_append] at this
                exact this
              have hx2 : ((!b) != par m) = held := by rw [← hx, par_succ]; cases b <;> cases par m <;> rfl
              rw [hS]
              cases b with
              | false =>
                have e1 : S.extract 0 21 = ({ data := #[58, 105, 114, 99, 46, 120, 32, 55, 51, 48, 32, 110, 49, 32, 120, 33, 117, 64, 104, 13, 10] } : ByteArray) := ba_ext (by rw [ba_extract_0, hlist]; rfl)
                have e2 : S.extract 21 S.size = bs (restL m true) := ba_ext (by rw [ba_extract_to, hlist]; simp [txL, upL])
                replace hz : S.size = 21 + (restL m true).length := hz
                have z1 : 0 = 0 := rfl
                have p1 : (21 : Int) ≤ (S.size : Int) := by omega
                have p2 : 21 ≤ S.size := by omega
                have HZ := Lib.hid (And.intro hz hx2)
                clear hlist hz z1 hx hx2 hS
                go_wp2_with fail
                go_roundw
                case rel => exact ⟨m, true, rfl, rfl, HZ.out.2, trivial⟩
                case measure => have hzz := HZ.out.1; simp; omega
              | true =>
                have e1 : S.extract 0 17 = ({ data := #[58, 105, 114, 99, 46, 120, 32, 55, 51, 49, 32, 110, 49, 32, 120, 13, 10] } : ByteArray) := ba_ext (by rw [ba_extract_0, hlist]; rfl)
                have e2 : S.extract 17 S.size = bs (restL m false) := ba_ext (by rw [ba_extract_to, hlist]; simp [txL, downL])
                replace hz : S.size = 17 + (restL m false).length := hz
                have z1 : 0 = 0 := rfl
                have p1 : (17 : Int) ≤ (S.size : Int) := by omega
                have p2 : 17 ≤ S.size := by omega
                have HZ := Lib.hid (And.intro hz hx2)
                clear hlist hz z1 hx hx2 hS
                go_wp2_with fail
                go_roundw
                case rel => exact ⟨m, false, rfl, rfl, HZ.out.2, trivial⟩
                case measure => have hzz := HZ.out.1; simp; omega
end Go.Proofs.YtpbobonddocgkaaGreatDoor
end
section
/- Layer 23: what is laid, and the world's shape. -/
namespace Go.Proofs.YtpbobonddocgkaaGreatDoor
open Go Go.ChangeShapes Go.WideShapes Go.ChangeAt Go.RowKit Go.Deep Go.Shelf Go.Lib

theorem rowed_of23 {W : World} (h : laidMetH Tryz.prog [("math/bits.deBruijn32tab", Rows.laid_math_bits_deBruijn32tab), ("math/bits.deBruijn64tab", Rows.laid_math_bits_deBruijn64tab), ("internal/strconv.uint64pow10", Rows.laid_internal_strconv_uint64pow10), ("unicode/utf8.acceptRanges", Rows.laid_unicode_utf8_acceptRanges), ("rollcall/valid.bytesOf", Rows.laid_rollcall_valid_bytesOf), ("unicode/utf8.first", Rows.laid_unicode_utf8_first)] W) : Rowed W := by
  rw [MakeChecks.laidMetH_plain _ _ _ (by kernel_rfl)] at h
  obtain ⟨ps, ⟨_, _, _, _, _, _, _, _, _, _, ⟨_, _, _, _, _, _, _, _, _, _, ⟨_, _, _, _, _, _, _, _, _, _, ⟨_, _, _, _, _, _, _, _, _, _, ⟨g, t, cs, fuel, p, q, hg, ht, hv, hd, _, _⟩, _⟩, _⟩, _⟩, _⟩, _⟩ := h
  obtain rfl := Option.some.inj ((show Tryz.prog.globalNamed "rollcall/valid.bytesOf" = some 0 by kernel_rfl).symm.trans hg)
  obtain rfl := Option.some.inj ((show (Tryz.prog.globals[0]?).map (·.type) = some 164 by kernel_rfl).symm.trans ht)
  obtain ⟨xs, m, _, ex, _, hl, hel⟩ := DataW.trod_array Tryz.underlying164 hd
  intro i hi
  have c5 : Tryz.prog.cellsOf 9 = 1 := by kernel_rfl
  have e3 : (xs.map (·.1)) = (List.range 11).map fun k => .lit (.string (laidRow k)) := (DataW.agg.inj (Prod.mk.inj ex).1).symm
  have hlen : xs.length = 11 := by have := congrArg List.length e3; simpa using this
  have hE := hel i (by omega)
  rw [c5, Nat.mul_one, List.getElem?_eq_getElem (by omega)] at hE
  obtain ⟨s, e1, e2, _⟩ := DataW.trod_string Tryz.underlying9 hE
  have e4 : (xs.map (·.1))[i]? = ((List.range 11).map fun k => (DataW.lit (.string (laidRow k)) : DataW Unit))[i]? := by rw [e3]
  rw [List.getElem?_map, List.getElem?_map, List.getElem?_eq_getElem (by omega : i < xs.length), List.getElem?_eq_getElem (by simpa using hi : i < (List.range 11).length), e2] at e4
  have hz : s.data.toList = laidRow i := by
    simp only [Option.map_some, Option.some.injEq, DataW.lit.injEq, Lit.string.injEq, List.getElem_range] at e4
    exact e4
  refine ⟨s, ?_, hz⟩
  rw [World.var?_cell hg hv i]
  have : cs.toList[i]? = some (.string s) := by
    have h0 : ((cs.toList.drop i).take 1)[0]? = some (.string s) := by rw [e1]; rfl
    simpa using h0
  simpa using this
theorem pow_of23 {W : World} (h : laidMetH Tryz.prog [("math/bits.deBruijn32tab", Rows.laid_math_bits_deBruijn32tab), ("math/bits.deBruijn64tab", Rows.laid_math_bits_deBruijn64tab), ("internal/strconv.uint64pow10", Rows.laid_internal_strconv_uint64pow10), ("unicode/utf8.acceptRanges", Rows.laid_unicode_utf8_acceptRanges), ("rollcall/valid.bytesOf", Rows.laid_rollcall_valid_bytesOf), ("unicode/utf8.first", Rows.laid_unicode_utf8_first)] W) : PowW W := by
  rw [MakeChecks.laidMetH_plain _ _ _ (by kernel_rfl)] at h
  obtain ⟨ps, ⟨_, _, _, _, _, _, _, _, _, _, ⟨_, _, _, _, _, _, _, _, _, _, ⟨g, t, cs, fuel, p, q, hg, ht, hv, hd, _, _⟩, _⟩, _⟩, _⟩ := h
  obtain rfl := Option.some.inj (powG14.symm.trans hg)
  obtain rfl := Option.some.inj ((show (Tryz.prog.globals[1]?).map (·.type) = some 225 by kernel_rfl).symm.trans ht)
  unfold PowW Lib.TabIs
  rw [hv, ← Lib.cells_of_tab (zs := Lib.pow10Tab) (k := .u64) Tryz.underlying225 Tryz.underlying190 (by kernel_rfl) (by kernel_rfl) hd]
def ren8 : Go.Shelf.Ren := ⟨fun n => n, fun | 5 => 5 | 119 => 276 | 138 => 278 | 139 => 279 | n => n, fun | 3 => 5 | 4 => 6 | n => n⟩
theorem shaped_max {W : World} (h : W.ShapedOpen Tryz.prog) : ∃ m : Int, W.cell? ⟨2, 0, none⟩ = some (.int .i64 m) :=
  cell_of_shapedOpen_int (zero := #[.int .i64 0]) (t := 3) h (of_decide_eq_true (by kernel_rfl)) (by kernel_rfl) rfl (by kernel_rfl) (by kernel_rfl) Tryz.underlying3
/-- a statement's conditions, the listed variables as they are laid, and the world in its shape -/
theorem handed_laid_shaped {H : Type} {enc : TypeId × Value → H} {a : Assume} {C : Checked} {os : Os} {f : FuncId} {fn : Func} {s : ChangeSpec} {conds : List PathCond} {apart fresh handsOn again : Bool} {X : World → Array Value → Prop}
    (hX : ∀ (w w' : World) (args : Array Value), w.heap = w'.heap → X w args → X w' args) (own : ownKnob C.prog.godebug = none) (st : os.Started) (ni : C.prog.inits.idxOf? f = none) (hfn : C.prog.funcs[f]? = some fn)
    (wit : ∃ (w : World) (tape : Tape) (i : Input), w.os = os ∧ (w.forCall tape i).Shaped C.prog ∧ i.vars = [] ∧ Input.okWide C.prog (w.forCall tape i) .any w.heap.size f i ∧
      ((s.pre enc C.prog fn conds apart (w.forCall tape i).memory i.args ∧ X (w.forCall tape i).memory i.args) ∧ sizedMet enc C.prog fn (OpenSpec.ofChange s) apart (w.forCall tape i).memory i.args) ∧ a.holds C.prog (lone (Frame.enter C.prog f i.args .normal) [] (w.forCall tape i)))
    (walk : ∀ (W : World) (base : Nat) (args : Array Value) (ds gs : List (DataW H)) (before : List MemPlace), (∀ (j : Nat) t v, fn.params[j]? = some t → args[j]? = some v → Value.okWide C.prog W .any base t v) →
      DataW.Whole enc C.prog fn.params.toList s.vars apart W args.toList ds gs before → conds.all (PathCond.test C.prog ⟨fn.params.toList, ds, s.plain.varTypes C.prog, gs⟩) = true →
      (DataW.weightsEach C.prog (fn.params.toList ++ s.plain.varTypes C.prog) (ds ++ gs)).all (· ≤ reachBytes) = true → X W args → W.ShapedOpen C.prog → a.holds C.prog (lone (Frame.enter C.prog f args .normal) [] W) →
      Calls C.prog f args W fun e W' => ∃ v, e = .returned v ∧ s.post enc C.prog fn apart fresh handsOn again W args v W') :
    ReturnsInHanded a C os f .any (fun w args => (s.pre enc C.prog fn conds apart w args ∧ X w args) ∧ sizedMet enc C.prog fn (OpenSpec.ofChange s) apart w args) (s.post enc C.prog fn apart fresh handsOn again) := by
  refine returnsInHanded_of_calls own st ni wit ?_
  rintro w tape i _ hshape _ ⟨_, _, _, fn2, hfn2, _, _, _, _, hval⟩ ⟨⟨⟨ds, gs, before, hw, hc⟩, hx⟩, hz⟩ hholds
  cases hfn2.symm.trans hfn
  refine (walk _ w.heap.size i.args ds gs before hval (DataW.Whole.of_heap (w' := w.forCall tape i) (by rfl) hw) hc (hz.weights hw) (hX (w.forCall tape i).memory (w.forCall tape i) i.args rfl hx) hshape hholds).mono ?_
  rintro e W' ⟨v, rfl, hp⟩
  exact ChangeSpec.post_blind hp

theorem ld23_of {W : World} (h : laidMetH Tryz.prog [("math/bits.deBruijn32tab", Rows.laid_math_bits_deBruijn32tab), ("math/bits.deBruijn64tab", Rows.laid_math_bits_deBruijn64tab), ("internal/strconv.uint64pow10", Rows.laid_internal_strconv_uint64pow10), ("unicode/utf8.acceptRanges", Rows.laid_unicode_utf8_acceptRanges), ("rollcall/valid.bytesOf", Rows.laid_rollcall_valid_bytesOf), ("unicode/utf8.first", Rows.laid_unicode_utf8_first)] W) (hs : W.ShapedOpen Tryz.prog) : Glob23 W := ⟨rowed_of23 h, shaped_max hs, pow_of23 h⟩
theorem coreOnce_laid (A : Option Addr) (l : List zbyT) (c : Nat) (w : World) (hl : l.length ≤ c) (hc : c ≤ maxLen) (hz : ∀ x ∈ l, zbyG x) (hr : 0 < l.length → ∃ g o, A = some ⟨g, o, none⟩ ∧ g < w.heap.size ∧ ∀ i (h : i < l.length) j u, (zbyL l[i])[j]? = some u → w.cell? ⟨g, o + i * 1 + j, none⟩ = some u) (hR : Glob23 w) :
    Calls Tryz.prog 3 #[.slice A l.length c] w fun e w' => e = .returned (.bool true) ∧ Below w.heap.size w w' :=
  coreOnce_main A l c w (Nat.le_trans hl hc) hR ⟨hz, hr⟩
end Go.Proofs.YtpbobonddocgkaaGreatDoor
end
section
/- A law's last step where the call has made memory of its own, of whatever sort: what lay before lies as it lay, so each argument reads as it read. -/
namespace Go.Proofs.YtpbobonddocgkaaGreatDoor
open Go Go.RowKit Go.WideShapes Go.ChangeShapes

theorem post_below {H : Type} {enc : TypeId × Value → H} {P : Program} {f : Func} {s : ChangeSpec} {apart fresh handsOn again : Bool} {W W' : World} {args : Array Value} {v : Value} {ds gs : List (DataW H)} {all pa pv : List MemPlace}
    (hW : DataW.Whole enc P f.params.toList s.vars apart W args.toList ds gs all)
    (hr : ∀ (b : Nat) (sp : Nat → Bool) (hd : Bool), DataW.TrodAll enc P W' b sp hd f.resultTypes.toList (v.resultList f.resultTypes.size) (s.fn H (ds ++ gs)).results [])
    (ha : ∀ sp : Nat → Bool, (∀ p ∈ all, sp p.block = true) → DataW.TrodAll enc P W' 0 sp true f.params.toList args.toList (s.fn H (ds ++ gs)).args pa)
    (hv : ∀ sp : Nat → Bool, (∀ p ∈ all, sp p.block = true) → DataW.TrodVars enc P W' sp s.vars (s.fn H (ds ++ gs)).vars pv)
    (hpl : all = pa ++ pv) (hB : Below W.heap.size W W')
    (hok : ∀ (j : Nat) (t : TypeId) (r : Value), f.resultTypes[j]? = some t → (v.resultList f.resultTypes.size)[j]? = some r → Value.okWide P W' .any 0 t r) :
    s.post enc P f apart fresh handsOn again W args v W' := by
  have low : ∀ p ∈ all, p.block < W.heap.size := fun p hp => hW.lt p hp
  refine ⟨ds, gs, all, [], pa, pv, hW, hr _ _ _, ha (fun b => decide (b < W.heap.size)) fun p hp => by simpa using low p hp, hv (fun b => decide (b < W.heap.size)) fun p hp => by simpa using low p hp,
    World.keptBut_mono (fun p hp => ⟨hp, .inr (by rw [hpl, List.mem_append] at hp; exact hp)⟩) (hB.frame (· ∈ all)), fun _ => ?_⟩
  obtain ⟨_, _, _, _, _, hfrozen, hapart⟩ := hW
  have same : ∀ p : MemPlace, p ∈ ([] ++ pa) ++ pv → p ∈ all := fun p hp => by rw [hpl]; simpa using hp
  refine ⟨hok, _, _, ([] ++ pa) ++ pv, ⟨[] ++ pa, pv, trodAll_append (ha _ fun _ _ => rfl) (hr _ _ _), hv _ fun _ _ => rfl, rfl, fun b off hp => ?_, fun h => ?_⟩, fun p hp _ => ?_⟩
  · rw [hB.frozen (low _ (same _ hp))]
    exact hfrozen b off (same _ hp)
  · have := hapart h
    rw [hpl] at this
    simpa using this
  · rw [hpl]
    simpa using hp
end Go.Proofs.YtpbobonddocgkaaGreatDoor
end
