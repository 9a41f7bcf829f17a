/- Texts of this proof, one behind the other. -/
import Derived.Test.YtkbgpajconhgjaaGreatDoorPersonLinesG14
import Derived.Below
import Derived.ChangeSame
set_option linter.unusedVariables false
set_option linter.unusedSimpArgs false
section
/- Layer 22: PersonLines, walked. -/
namespace Go.Proofs.YtkbgpajconhgjaaGreatDoor
open Go Go.RowKit

def svL : List UInt8 := [105, 114, 99, 46, 120]
theorem whois_len (server whom n u h r y : List UInt8) (o : Bool) (sp si now : Int) {ws : List (List UInt8)} (hx : ∀ x ∈ ws, x.length ≤ 500) : (whoisL server whom n u h r y o sp si now ws).length ≤ ws.length + 6 := by
  have h1 := packL_len server whom 319 [n] hx
  have h2 : (chanS server whom n ws).length ≤ ws.length + 1 := by unfold chanS; split <;> first | omega | simp
  have h3 : (awayS server whom n y).length ≤ 1 := by unfold awayS; split <;> simp
  have h4 : (operS server whom n o).length ≤ 1 := by unfold operS; split <;> simp
  unfold whoisL
  simp only [List.length_append, List.length_cons, List.length_nil]
  omega
def annB : List UInt8 := [97, 110, 110]
set_option maxRecDepth 100000 in
set_option maxHeartbeats 16000000 in
theorem personLines_main (n u h r y : List UInt8) (id si sp now mi : Int) (o d op vo : Bool) (A : Option Addr) (c : Nat) (ws : List (List UInt8)) (w : World) (hR : ReadsT w A ws) (hm : Mx w) (hp : PowW w) (hsi : -9223372036854775808 ≤ si ∧ si ≤ 9223372036854775807) (hwl : ws.length ≤ 9223372036854775807) :
    Calls Tryz.prog 3 #[per id (bs n) (bs u) (bs h) (bs r) (bs y) o d si sp, memb mi op vo, .slice A ws.length c, .int .i64 now] w fun e w' => e = .returned (.bool true) ∧ Below w.heap.size w w' := by
  have HGr0 := fun W => great22 id (bs n) (bs u) (bs h) (bs r) (bs y) o d si sp W
  have hgq : decide (200 < (bs n).size ∨ 200 < (bs u).size ∨ 200 < (bs h).size ∨ 200 < (bs r).size ∨ 200 < (bs y).size) = decide (200 < n.length ∨ 200 < u.length ∨ 200 < h.length ∨ 200 < r.length ∨ 200 < y.length) := by simp
  rw [hgq] at HGr0
  unfold per at HGr0
  unfold per memb
  have HGr := Lib.hid HGr0
  obtain ⟨N, hN⟩ : ∃ N, w.heap.size = N := ⟨_, rfl⟩
  obtain ⟨W0, hW0⟩ : ∃ W, (w.alloc (.cells #[.int .i64 id, .string (bs n), .string (bs u), .string (bs h), .string (bs r), .string (bs y), .bool o, .bool d, .int .i64 si, .int .i64 sp] 23)).alloc (.cells #[.int .i64 mi, .bool op, .bool vo] 25) = W := ⟨_, rfl⟩
  have k1 : W0.heap[N]? = some (.cells #[.int .i64 id, .string (bs n), .string (bs u), .string (bs h), .string (bs r), .string (bs y), .bool o, .bool d, .int .i64 si, .int .i64 sp] 23 (0, 0)) := by rw [← hW0, ← hN]; exact blk_alloc (heap_alloc_new w _) _
  have k2 : W0.heap[N + 1]? = some (.cells #[.int .i64 mi, .bool op, .bool vo] 25 (0, 0)) := by
    rw [← hW0, ← hN]
    have h9 := heap_alloc_new (w.alloc (.cells #[.int .i64 id, .string (bs n), .string (bs u), .string (bs h), .string (bs r), .string (bs y), .bool o, .bool d, .int .i64 si, .int .i64 sp] 23)) (.cells #[.int .i64 mi, .bool op, .bool vo] 25)
    rw [World.size_alloc] at h9
    exact h9
  have f0 : Fr (fun _ => False) w W0 := by rw [← hW0]; exact ((Fr.refl _ w).alloc _).alloc _
  have HF0 := Lib.hid f0
  have HP : Hid (∀ W, Fr (fun _ => False) W0 W → W.cell? ⟨N, 0, none⟩ = some (.int .i64 id) ∧ W.cell? ⟨N, 1, none⟩ = some (.string (bs n)) ∧ W.cell? ⟨N, 2, none⟩ = some (.string (bs u)) ∧ W.cell? ⟨N, 3, none⟩ = some (.string (bs h)) ∧ W.cell? ⟨N, 4, none⟩ = some (.string (bs r)) ∧ W.cell? ⟨N, 5, none⟩ = some (.string (bs y)) ∧ W.cell? ⟨N, 6, none⟩ = some (.bool o) ∧ W.cell? ⟨N, 7, none⟩ = some (.bool d) ∧ W.cell? ⟨N, 8, none⟩ = some (.int .i64 si) ∧ W.cell? ⟨N, 9, none⟩ = some (.int .i64 sp) ∧ W.cell? ⟨N + 1, 0, none⟩ = some (.int .i64 mi) ∧ W.cell? ⟨N + 1, 1, none⟩ = some (.bool op) ∧ W.cell? ⟨N + 1, 2, none⟩ = some (.bool vo)) := Lib.hid fun W hf => by
    obtain ⟨a0, a1, a2, a3, a4, a5, a6, a7, a8, a9⟩ := per_box k1 W hf
    have h2 := hf.blk k2 fun e => e
    exact ⟨a0, a1, a2, a3, a4, a5, a6, a7, a8, a9, blk_cell h2 0, blk_cell h2 1, blk_cell h2 2⟩
  have HRw : Hid (∀ W, Fr (fun _ => False) W0 W → ReadsT W A ws) := Lib.hid fun W hf => readsT_fr0 (readsT_fr0 hR f0) hf
  have HMX : Hid (∀ W, Fr (fun _ => False) W0 W → Mx W ∧ PowW W) := Lib.hid fun W hf => ⟨(hm.fr f0).fr hf, (hp.fr f0).fr hf⟩
  clear HGr0 hgq k1 k2 f0 hR hm hp
  by_cases hg : (200 < n.length ∨ 200 < u.length ∨ 200 < h.length ∨ 200 < r.length ∨ 200 < y.length)
  · rw [decide_eq_true hg] at HGr
    clear hg
    go_enter Tryz.func3, Tryz.ntmps3
    go_wp2_with fail
    try rw [hW0]
    refine (awake22 _).mono ?_
    rintro e w1 ⟨rfl, hb1⟩
    have F1 : Hid (Fr (fun _ => False) W0 w1) := Lib.hid (Fr.of_below hb1)
    obtain ⟨c0, c1, c2, c3, c4, c5, c6, c7, c8, c9, d0, d1, d2⟩ := HP.out w1 F1.out
    clear hb1
    go_wp2_with fail
    refine (HGr.out _).mono ?_
    rintro e w2 ⟨rfl, hb2⟩
    have F2 : Hid (Fr (fun _ => False) W0 w2) := Lib.hid (F1.out.trans (Fr.of_below hb2))
    clear hb2 c0 c1 c2 c3 c4 c5 c6 c7 c8 c9 d0 d1 d2
    obtain ⟨c0, c1, c2, c3, c4, c5, c6, c7, c8, c9, d0, d1, d2⟩ := HP.out w2 F2.out
    go_wp2_with fail
    go_ret
    exact ⟨rfl, (HF0.out.trans F2.out).below (by omega) fun _ _ e => e.elim⟩
  rw [decide_eq_false hg] at HGr
  by_cases e0 : 40 < ws.length
  · have z1 : (40 : Int) < ws.length := by omega
    go_enter Tryz.func3, Tryz.ntmps3
    go_wp2_with fail
    try rw [hW0]
    refine (awake22 _).mono ?_
    rintro e w1 ⟨rfl, hb1⟩
    have F1 : Hid (Fr (fun _ => False) W0 w1) := Lib.hid (Fr.of_below hb1)
    obtain ⟨c0, c1, c2, c3, c4, c5, c6, c7, c8, c9, d0, d1, d2⟩ := HP.out w1 F1.out
    clear hb1
    go_wp2_with fail
    refine (HGr.out _).mono ?_
    rintro e w2 ⟨rfl, hb2⟩
    have F2 : Hid (Fr (fun _ => False) W0 w2) := Lib.hid (F1.out.trans (Fr.of_below hb2))
    clear hb2 c0 c1 c2 c3 c4 c5 c6 c7 c8 c9 d0 d1 d2
    obtain ⟨c0, c1, c2, c3, c4, c5, c6, c7, c8, c9, d0, d1, d2⟩ := HP.out w2 F2.out
    go_wp2_with fail
    go_ret
    exact ⟨rfl, (HF0.out.trans F2.out).below (by omega) fun _ _ e => e.elim⟩
  have z1 : ¬ (40 : Int) < ws.length := by omega
  by_cases e1 : 1099511627776 < now
  · skip
    go_enter Tryz.func3, Tryz.ntmps3
    go_wp2_with fail
    try rw [hW0]
    refine (awake22 _).mono ?_
    rintro e w1 ⟨rfl, hb1⟩
    have F1 : Hid (Fr (fun _ => False) W0 w1) := Lib.hid (Fr.of_below hb1)
    obtain ⟨c0, c1, c2, c3, c4, c5, c6, c7, c8, c9, d0, d1, d2⟩ := HP.out w1 F1.out
    clear hb1
    go_wp2_with fail
    refine (HGr.out _).mono ?_
    rintro e w2 ⟨rfl, hb2⟩
    have F2 : Hid (Fr (fun _ => False) W0 w2) := Lib.hid (F1.out.trans (Fr.of_below hb2))
    clear hb2 c0 c1 c2 c3 c4 c5 c6 c7 c8 c9 d0 d1 d2
    obtain ⟨c0, c1, c2, c3, c4, c5, c6, c7, c8, c9, d0, d1, d2⟩ := HP.out w2 F2.out
    go_wp2_with fail
    go_ret
    exact ⟨rfl, (HF0.out.trans F2.out).below (by omega) fun _ _ e => e.elim⟩
  skip
  by_cases e2 : now < -1099511627776
  · skip
    go_enter Tryz.func3, Tryz.ntmps3
    go_wp2_with fail
    try rw [hW0]
    refine (awake22 _).mono ?_
    rintro e w1 ⟨rfl, hb1⟩
    have F1 : Hid (Fr (fun _ => False) W0 w1) := Lib.hid (Fr.of_below hb1)
    obtain ⟨c0, c1, c2, c3, c4, c5, c6, c7, c8, c9, d0, d1, d2⟩ := HP.out w1 F1.out
    clear hb1
    go_wp2_with fail
    refine (HGr.out _).mono ?_
    rintro e w2 ⟨rfl, hb2⟩
    have F2 : Hid (Fr (fun _ => False) W0 w2) := Lib.hid (F1.out.trans (Fr.of_below hb2))
    clear hb2 c0 c1 c2 c3 c4 c5 c6 c7 c8 c9 d0 d1 d2
    obtain ⟨c0, c1, c2, c3, c4, c5, c6, c7, c8, c9, d0, d1, d2⟩ := HP.out w2 F2.out
    go_wp2_with fail
    go_ret
    exact ⟨rfl, (HF0.out.trans F2.out).below (by omega) fun _ _ e => e.elim⟩
  skip
  by_cases e3 : 1099511627776 < sp
  · skip
    go_enter Tryz.func3, Tryz.ntmps3
    go_wp2_with fail
    try rw [hW0]
    refine (awake22 _).mono ?_
    rintro e w1 ⟨rfl, hb1⟩
    have F1 : Hid (Fr (fun _ => False) W0 w1) := Lib.hid (Fr.of_below hb1)
    obtain ⟨c0, c1, c2, c3, c4, c5, c6, c7, c8, c9, d0, d1, d2⟩ := HP.out w1 F1.out
    clear hb1
    go_wp2_with fail
    refine (HGr.out _).mono ?_
    rintro e w2 ⟨rfl, hb2⟩
    have F2 : Hid (Fr (fun _ => False) W0 w2) := Lib.hid (F1.out.trans (Fr.of_below hb2))
    clear hb2 c0 c1 c2 c3 c4 c5 c6 c7 c8 c9 d0 d1 d2
    obtain ⟨c0, c1, c2, c3, c4, c5, c6, c7, c8, c9, d0, d1, d2⟩ := HP.out w2 F2.out
    go_wp2_with fail
    go_ret
    exact ⟨rfl, (HF0.out.trans F2.out).below (by omega) fun _ _ e => e.elim⟩
  skip
  by_cases e4 : sp < -1099511627776
  · skip
    go_enter Tryz.func3, Tryz.ntmps3
    go_wp2_with fail
    try rw [hW0]
    refine (awake22 _).mono ?_
    rintro e w1 ⟨rfl, hb1⟩
    have F1 : Hid (Fr (fun _ => False) W0 w1) := Lib.hid (Fr.of_below hb1)
    obtain ⟨c0, c1, c2, c3, c4, c5, c6, c7, c8, c9, d0, d1, d2⟩ := HP.out w1 F1.out
    clear hb1
    go_wp2_with fail
    refine (HGr.out _).mono ?_
    rintro e w2 ⟨rfl, hb2⟩
    have F2 : Hid (Fr (fun _ => False) W0 w2) := Lib.hid (F1.out.trans (Fr.of_below hb2))
    clear hb2 c0 c1 c2 c3 c4 c5 c6 c7 c8 c9 d0 d1 d2
    obtain ⟨c0, c1, c2, c3, c4, c5, c6, c7, c8, c9, d0, d1, d2⟩ := HP.out w2 F2.out
    go_wp2_with fail
    go_ret
    exact ⟨rfl, (HF0.out.trans F2.out).below (by omega) fun _ _ e => e.elim⟩
  skip
  have hn : n.length ≤ 200 := by omega
  have hu : u.length ≤ 200 := by omega
  have hh : h.length ≤ 200 := by omega
  have hr : r.length ≤ 200 := by omega
  have hy : y.length ≤ 200 := by omega
  have hw40 : ws.length ≤ 40 := by omega
  have HWho := Lib.hid (fun (ch : List UInt8) (hch : ch.length ≤ 200) (many : Bool) (W : World) (hf : Fr (fun _ => False) W0 W) => And.intro (who_m svL annB ch n u h r y id si sp o d mi op vo many W (by decide) (by decide) hch hn hu hh hr (HMX.out W hf).1 (HMX.out W hf).2) (who_r svL annB ch n u h r y id si sp o d mi op vo many W (by decide) (by decide) hch hn hu hh hr))
  unfold per memb at HWho
  have HIs := Lib.hid (fun (hx : ∀ x ∈ ws, x.length ≤ 500) (W : World) (hf : Fr (fun _ => False) W0 W) => And.intro (fun lb Y (hT : TellsF Tryz.prog encL W (.func (.func 24) #[] lb) Y ws) => whois_m svL annB n u h r y id si sp now o d ws W _ (fun W2 hf2 => gather_m _ lb Y ws W2 (hT.fr hf2 fun _ _ e => e) (by omega)) (HMX.out W hf).1 (HMX.out W hf).2 (by decide) (by decide) (by decide) hn hu hh hr hy hx (by omega) ⟨by omega, by omega⟩ ⟨by omega, by omega⟩ hsi) (whois_r svL annB n u h r y id si sp now o d ws W A c (HRw.out W hf) (by decide) (by decide) (by decide) hn hu hh hr hy hx (by omega) ⟨by omega, by omega⟩ ⟨by omega, by omega⟩ hsi))
  unfold per at HIs
  have HNil := Lib.hid (fun (W : World) (hf : Fr (fun _ => False) W0 W) => And.intro (whois_m svL annB n u h r y id si sp now o d [] W .nilFunc (fun W2 _ => (gather_nil W2).mono fun e w' hh => ⟨_, hh.1, ownT_nil _ _, hh.2⟩) (HMX.out W hf).1 (HMX.out W hf).2 (by decide) (by decide) (by decide) hn hu hh hr hy (fun x hx => by cases hx) (by simp) ⟨by omega, by omega⟩ ⟨by omega, by omega⟩ hsi) (whois_r svL annB n u h r y id si sp now o d [] W none 0 (fun hlt => absurd hlt (Nat.lt_irrefl 0)) (by decide) (by decide) (by decide) hn hu hh hr hy (fun x hx => by cases hx) (by simp) ⟨by omega, by omega⟩ ⟨by omega, by omega⟩ hsi))
  unfold per at HNil
  have HWas := Lib.hid (fun (W : World) (hf : Fr (fun _ => False) W0 W) => And.intro (whowas_m svL annB n u h r y id si sp o d W (by decide) (by decide) hn hu hh hr (HMX.out W hf).1 (HMX.out W hf).2) (whowas_r svL annB n u h r y id si sp o d W (by decide) (by decide) hn hu hh hr))
  unfold per at HWas
  clear hg
  go_enter Tryz.func3, Tryz.ntmps3
  go_wp2_with fail
  try rw [hW0]
  refine (awake22 _).mono ?_
  rintro e w1 ⟨rfl, hb1⟩
  have F1 : Hid (Fr (fun _ => False) W0 w1) := Lib.hid (Fr.of_below hb1)
  obtain ⟨c0, c1, c2, c3, c4, c5, c6, c7, c8, c9, d0, d1, d2⟩ := HP.out w1 F1.out
  clear hb1
  go_wp2_with fail
  refine (HGr.out _).mono ?_
  rintro e w2 ⟨rfl, hb2⟩
  have F2 : Hid (Fr (fun _ => False) W0 w2) := Lib.hid (F1.out.trans (Fr.of_below hb2))
  clear hb2 c0 c1 c2 c3 c4 c5 c6 c7 c8 c9 d0 d1 d2
  obtain ⟨c0, c1, c2, c3, c4, c5, c6, c7, c8, c9, d0, d1, d2⟩ := HP.out w2 F2.out
  go_wp2_with fail
  go_loopw [9] (fun i wr => ∃ k : Nat, i = .int .i64 k ∧ k ≤ ws.length ∧ (∀ j (hj : j < ws.length), j < k → ws[j].length ≤ 60) ∧ w2 = wr) (fun i _ => ws.length - (RowKit.intOf i).toNat)
  case atStart => exact ⟨0, rfl, Nat.zero_le _, fun _ _ hlt => absurd hlt (Nat.not_lt_zero _), rfl⟩
  case round =>
    obtain ⟨k, rfl, hk, hall, rfl⟩ := hrel
    have HALL := Lib.hid hall
    clear hall
    by_cases hlt : k < ws.length
    · obtain ⟨g, oo, hA, hgs, hc⟩ := (HRw.out w2 F2.out) (by omega)
      have hcell := hc k hlt
      obtain ⟨p, hpk⟩ : ∃ p, ws[k]'hlt = p := ⟨_, rfl⟩
      rw [hpk] at hcell
      have HPK := Lib.hid hpk
      subst hA
      clear hc hpk hgs
      by_cases h60 : 60 < p.length
      · have hi6 : (60 : Int) < p.length := by omega
        go_wp2_with fail
        go_ret
        exact ⟨rfl, (HF0.out.trans F2.out).below (by omega) fun _ _ e => e.elim⟩
      · have hi6 : ¬ (60 : Int) < p.length := by omega
        have H60 := Lib.hid h60
        clear h60
        go_wp2_with fail
        go_roundw
        case rel =>
          refine ⟨k + 1, by go_num, by omega, fun j hj hjk => ?_, by simp⟩
          rcases Nat.lt_or_ge j k with h9 | h9
          · exact HALL.out j hj h9
          · obtain rfl : j = k := by omega
            have e1 := HPK.out; have e2 := H60.out
            rw [e1]; omega
        case measure => simp [RowKit.intOf]; omega
    · obtain rfl : k = ws.length := by omega
      have hx60 : ∀ x ∈ ws, x.length ≤ 60 := fun x hx => by
        obtain ⟨j, hj, rfl⟩ := List.getElem_of_mem hx
        exact HALL.out j hj hj
      have hx5 : ∀ x ∈ ws, x.length ≤ 500 := fun x hx => by have := hx60 x hx; omega
      obtain ⟨WL, hWL⟩ : ∃ l, whoisL svL annB n u h r y o sp si now ws = l := ⟨_, rfl⟩
      have hWLl := whois_len svL annB n u h r y o sp si now hx5
      obtain ⟨WN, hWN⟩ : ∃ l, whoisL svL annB n u h r y o sp si now [] = l := ⟨_, rfl⟩
      have hWNl := whois_len svL annB n u h r y o sp si now (ws := []) (fun x hx => by cases hx)
      obtain ⟨WW, hWW⟩ : ∃ l, whowasL svL annB n u h r = l := ⟨_, rfl⟩
      have hWWl : WW.length ≤ 10 := by rw [← hWW]; simp [whowasL]
      have HI2 := Lib.hid (HIs.out hx5)
      rw [hWL] at HI2 hWLl
      rw [hWN] at HNil hWNl
      rw [hWW] at HWas
      have HW1 : Hid (∀ W lb Y, Fr (fun _ => False) W0 W → TellsF Tryz.prog encL W (.func (.func 24) #[] lb) Y ws → Calls Tryz.prog 9 #[.string ({ data := #[105, 114, 99, 46, 120] } : ByteArray), .string ({ data := #[97, 110, 110] } : ByteArray), .agg #[.int .i64 id, .string (bs n), .string (bs u), .string (bs h), .string (bs r), .string (bs y), .bool o, .bool d, .int .i64 si, .int .i64 sp], .func (.func 24) #[] lb, .int .i64 now] W fun e w' => ∃ A c, e = .returned (.slice A WL.length c) ∧ ReadsT w' A WL ∧ Below W.heap.size W w') := Lib.hid fun W lb Y hf hT => (HI2.out W hf).1 lb Y hT
      have HW2 : Hid (∀ W, Fr (fun _ => False) W0 W → Calls Tryz.prog 11 #[.string ({ data := #[105, 114, 99, 46, 120] } : ByteArray), .string ({ data := #[97, 110, 110] } : ByteArray), .agg #[.int .i64 id, .string (bs n), .string (bs u), .string (bs h), .string (bs r), .string (bs y), .bool o, .bool d, .int .i64 si, .int .i64 sp], .slice A ws.length c, .int .i64 now] W fun e w' => ∃ A c, e = .returned (.slice A WL.length c) ∧ ReadsT w' A WL ∧ Below W.heap.size W w') := Lib.hid fun W hf => (HI2.out W hf).2
      have HW3 : Hid (∀ W, Fr (fun _ => False) W0 W → Calls Tryz.prog 9 #[.string ({ data := #[105, 114, 99, 46, 120] } : ByteArray), .string ({ data := #[97, 110, 110] } : ByteArray), .agg #[.int .i64 id, .string (bs n), .string (bs u), .string (bs h), .string (bs r), .string (bs y), .bool o, .bool d, .int .i64 si, .int .i64 sp], .nilFunc, .int .i64 now] W fun e w' => ∃ A c, e = .returned (.slice A WN.length c) ∧ ReadsT w' A WN ∧ Below W.heap.size W w') := Lib.hid fun W hf => (HNil.out W hf).1
      have HW4 : Hid (∀ W, Fr (fun _ => False) W0 W → Calls Tryz.prog 11 #[.string ({ data := #[105, 114, 99, 46, 120] } : ByteArray), .string ({ data := #[97, 110, 110] } : ByteArray), .agg #[.int .i64 id, .string (bs n), .string (bs u), .string (bs h), .string (bs r), .string (bs y), .bool o, .bool d, .int .i64 si, .int .i64 sp], .slice none 0 0, .int .i64 now] W fun e w' => ∃ A c, e = .returned (.slice A WN.length c) ∧ ReadsT w' A WN ∧ Below W.heap.size W w') := Lib.hid fun W hf => (HNil.out W hf).2
      have HW5 : Hid (∀ W, Fr (fun _ => False) W0 W → Calls Tryz.prog 12 #[.string ({ data := #[105, 114, 99, 46, 120] } : ByteArray), .string ({ data := #[97, 110, 110] } : ByteArray), .agg #[.int .i64 id, .string (bs n), .string (bs u), .string (bs h), .string (bs r), .string (bs y), .bool o, .bool d, .int .i64 si, .int .i64 sp]] W fun e w' => ∃ A c, e = .returned (.slice A WW.length c) ∧ ReadsT w' A WW ∧ Below W.heap.size W w') := Lib.hid fun W hf => (HWas.out W hf).1
      have HW6 : Hid (∀ W, Fr (fun _ => False) W0 W → Calls Tryz.prog 13 #[.string ({ data := #[105, 114, 99, 46, 120] } : ByteArray), .string ({ data := #[97, 110, 110] } : ByteArray), .agg #[.int .i64 id, .string (bs n), .string (bs u), .string (bs h), .string (bs r), .string (bs y), .bool o, .bool d, .int .i64 si, .int .i64 sp]] W fun e w' => ∃ A c, e = .returned (.slice A WW.length c) ∧ ReadsT w' A WW ∧ Below W.heap.size W w') := Lib.hid fun W hf => (HWas.out W hf).2
      have hWNl2 : WN.length ≤ 10 := by simp only [List.length_nil] at hWNl; omega
      clear hWL hWN hWW HI2 HNil HWas HIs hx5 hWNl hn hu hh hr hy HGr
      by_cases hws : ws = []
      rotate_left
      focus
        have hlp := List.length_pos_iff.2 hws
        have hq : (0 : Int) < ws.length := by omega
        obtain ⟨g, oo, hA, hgs, hc⟩ := (HRw.out w2 F2.out) hlp
        have hcell := hc 0 hlp
        rw [Nat.add_zero] at hcell
        have hch : (ws[0]'hlp).length ≤ 200 := by have := hx60 _ (List.getElem_mem hlp); omega
        obtain ⟨ch, hchq⟩ : ∃ ch, ws[0]'hlp = ch := ⟨_, rfl⟩
        rw [hchq] at hcell hch
        obtain ⟨q, hqq⟩ : ∃ q : Bool → List UInt8, ∀ many, numL svL annB 352 [ch, u, h, svL, n, flagsL (decide (y ≠ [])) o (marksB op vo many), 48 :: 32 :: r] = q many := ⟨_, fun _ => rfl⟩
        have HWc := Lib.hid (HWho.out ch hch)
        simp only [hqq] at HWc
        obtain ⟨chB, hchB⟩ : ∃ b, bs ch = b := ⟨_, rfl⟩
        rw [hchB] at HWc hcell
        have HWm : Hid (∀ (many : Bool) W, Fr (fun _ => False) W0 W → Calls Tryz.prog 6 #[.string ({ data := #[105, 114, 99, 46, 120] } : ByteArray), .string ({ data := #[97, 110, 110] } : ByteArray), .string chB, .agg #[.int .i64 id, .string (bs n), .string (bs u), .string (bs h), .string (bs r), .string (bs y), .bool o, .bool d, .int .i64 si, .int .i64 sp], .agg #[.int .i64 mi, .bool op, .bool vo], .bool many] W fun e w' => e = .returned (.string (bs (q many))) ∧ Below W.heap.size W w') := Lib.hid fun many W hf => (HWc.out many W hf).1
        have HWr : Hid (∀ (many : Bool) W, Fr (fun _ => False) W0 W → Calls Tryz.prog 7 #[.string ({ data := #[105, 114, 99, 46, 120] } : ByteArray), .string ({ data := #[97, 110, 110] } : ByteArray), .string chB, .agg #[.int .i64 id, .string (bs n), .string (bs u), .string (bs h), .string (bs r), .string (bs y), .bool o, .bool d, .int .i64 si, .int .i64 sp], .agg #[.int .i64 mi, .bool op, .bool vo], .bool many] W fun e w' => e = .returned (.string (bs (q many))) ∧ Below W.heap.size W w') := Lib.hid fun many W hf => (HWc.out many W hf).2
        subst hA
        have HD := Lib.hid (And.intro (decide_eq_true hlp) (decide_eq_true hq))
        clear hc hgs hch hchq hchB HWc hqq hlp hx60 HWho HALL hws
        go_wp2_with fail
        try rw [HD.out.1]
        try rw [HD.out.2]
        clear hq hcell HD
      rotate_right
      focus
        have hq : ¬ (0 : Int) < ws.length := by rw [hws]; simp
        obtain ⟨q, hqq⟩ : ∃ q : Bool → List UInt8, ∀ many, numL svL annB 352 [[], u, h, svL, n, flagsL (decide (y ≠ [])) o (marksB op vo many), 48 :: 32 :: r] = q many := ⟨_, fun _ => rfl⟩
        have HWc := Lib.hid (HWho.out [] (by simp))
        simp only [hqq] at HWc
        have HWm : Hid (∀ (many : Bool) W, Fr (fun _ => False) W0 W → Calls Tryz.prog 6 #[.string ({ data := #[105, 114, 99, 46, 120] } : ByteArray), .string ({ data := #[97, 110, 110] } : ByteArray), .string ({ data := #[] } : ByteArray), .agg #[.int .i64 id, .string (bs n), .string (bs u), .string (bs h), .string (bs r), .string (bs y), .bool o, .bool d, .int .i64 si, .int .i64 sp], .agg #[.int .i64 mi, .bool op, .bool vo], .bool many] W fun e w' => e = .returned (.string (bs (q many))) ∧ Below W.heap.size W w') := Lib.hid fun many W hf => (HWc.out many W hf).1
        have HWr : Hid (∀ (many : Bool) W, Fr (fun _ => False) W0 W → Calls Tryz.prog 7 #[.string ({ data := #[105, 114, 99, 46, 120] } : ByteArray), .string ({ data := #[97, 110, 110] } : ByteArray), .string ({ data := #[] } : ByteArray), .agg #[.int .i64 id, .string (bs n), .string (bs u), .string (bs h), .string (bs r), .string (bs y), .bool o, .bool d, .int .i64 si, .int .i64 sp], .agg #[.int .i64 mi, .bool op, .bool vo], .bool many] W fun e w' => e = .returned (.string (bs (q many))) ∧ Below W.heap.size W w') := Lib.hid fun many W hf => (HWc.out many W hf).2
        clear HWc hqq hx60 HWho HALL hws
        go_wp2_with fail
        clear hq
      all_goals
        clear c0 c1 c2 c3 c4 c5 c6 c7 c8 c9 d0 d1 d2
        go_loopw [11] (fun i wr => ∃ k : Nat, i = .int .i64 k ∧ k ≤ 2 ∧ Fr (fun _ => False) W0 wr) (fun i _ => 2 - (RowKit.intOf i).toNat)
        case atStart => exact ⟨0, rfl, by omega, F2.out⟩
        case round =>
          obtain ⟨k, rfl, hk2, hfr⟩ := hrel
          by_cases hk0 : k = 0
          · have hq1 : ((k : Int) == 1) = false := by rw [beq_eq_false_iff_ne]; omega
            have hkb : k ≤ 1 := by omega
            clear hk0
            go_wp2_with fail
            refine wp_region_held_drew (S := fun W => Fr (fun _ => False) W0 W) (by kernel_rfl) (by exact hfr.drew) (fun hHeld => ?_)
            refine wpAnyH_read (i := 0) (oi := { dst := some 61, op := Go.Op.move (Go.Operand.tmp 10), type := 9, pos := "law.go:69", after := #[], guard := none }) ?_ rfl (by kernel_rfl) (by kernel_rfl) (by kernel_rfl) (fun _ _ _ h => h) (by rfl) (by assumption) ?_ ?_
            rotate_left
            · (intro w0 hS0; go_simp <;> (try with_reducible rfl))
            try simp only [Act.put, List.setIfInBounds_toArray, List.set_cons_zero, List.set_cons_succ]
            refine wpAnyH_read (i := 3) (oi := { dst := some 64, op := Go.Op.move (Go.Operand.tmp 11), type := 3, pos := "law.go:69", after := #[], guard := none }) ?_ rfl (by kernel_rfl) (by kernel_rfl) (by kernel_rfl) (fun _ _ _ h => h) (by rfl) (by assumption) ?_ ?_
            rotate_left
            · (intro w0 hS0; go_simp <;> (try with_reducible rfl))
            try simp only [Act.put, List.setIfInBounds_toArray, List.set_cons_zero, List.set_cons_succ]
            refine wpAnyH_read (i := 4) (oi := { dst := some 65, op := Go.Op.binOp Go.BinOp.eql 3 (Go.Operand.tmp 64) (Go.Operand.const (Go.Value.int Go.IntKind.i64 1)) 3, type := 4, pos := "law.go:69", after := #[{ on := 3, ground := Go.Ground.data }], guard := none }) ?_ rfl (by kernel_rfl) (by kernel_rfl) (by kernel_rfl) (fun _ _ _ h => h) (by rfl) (by assumption) ?_ ?_
            rotate_left
            · (intro w0 hS0; go_simp <;> (try with_reducible rfl))
            try simp only [Act.put, List.setIfInBounds_toArray, List.set_cons_zero, List.set_cons_succ]
            refine wpAnyH_read (i := 6) (oi := { dst := some 67, op := Go.Op.move (Go.Operand.tmp 10), type := 9, pos := "law.go:69", after := #[], guard := none }) ?_ rfl (by kernel_rfl) (by kernel_rfl) (by kernel_rfl) (fun _ _ _ h => h) (by rfl) (by assumption) ?_ ?_
            rotate_left
            · (intro w0 hS0; go_simp <;> (try with_reducible rfl))
            try simp only [Act.put, List.setIfInBounds_toArray, List.set_cons_zero, List.set_cons_succ]
            refine wpAnyH_read (i := 9) (oi := { dst := some 70, op := Go.Op.move (Go.Operand.tmp 11), type := 3, pos := "law.go:69", after := #[], guard := none }) ?_ rfl (by kernel_rfl) (by kernel_rfl) (by kernel_rfl) (fun _ _ _ h => h) (by rfl) (by assumption) ?_ ?_
            rotate_left
            · (intro w0 hS0; go_simp <;> (try with_reducible rfl))
            try simp only [Act.put, List.setIfInBounds_toArray, List.set_cons_zero, List.set_cons_succ]
            refine wpAnyH_read (i := 10) (oi := { dst := some 71, op := Go.Op.binOp Go.BinOp.eql 3 (Go.Operand.tmp 70) (Go.Operand.const (Go.Value.int Go.IntKind.i64 1)) 3, type := 4, pos := "law.go:69", after := #[{ on := 9, ground := Go.Ground.data }], guard := none }) ?_ rfl (by kernel_rfl) (by kernel_rfl) (by kernel_rfl) (fun _ _ _ h => h) (by rfl) (by assumption) ?_ ?_
            rotate_left
            · (intro w0 hS0; go_simp <;> (try with_reducible rfl))
            try simp only [Act.put, List.setIfInBounds_toArray, List.set_cons_zero, List.set_cons_succ]
            refine wpAnyH_read (i := 1) (oi := { dst := some 62, op := Go.Op.load 23 (Go.Operand.tmp 4), type := 23, pos := "law.go:69", after := #[], guard := none }) ?_ rfl (by kernel_rfl) (by kernel_rfl) (by kernel_rfl) (fun _ _ _ h => h) (by rfl) (by assumption) ?_ ?_
            rotate_left
            · (intro w0 hS0; obtain ⟨c0, c1, c2, c3, c4, c5, c6, c7, c8, c9, d0, d1, d2⟩ := HP.out w0 hS0; go_simp <;> (try with_reducible rfl))
            try simp only [Act.put, List.setIfInBounds_toArray, List.set_cons_zero, List.set_cons_succ]
            refine wpAnyH_read (i := 2) (oi := { dst := some 63, op := Go.Op.load 25 (Go.Operand.tmp 5), type := 25, pos := "law.go:69", after := #[], guard := none }) ?_ rfl (by kernel_rfl) (by kernel_rfl) (by kernel_rfl) (fun _ _ _ h => h) (by rfl) (by assumption) ?_ ?_
            rotate_left
            · (intro w0 hS0; obtain ⟨c0, c1, c2, c3, c4, c5, c6, c7, c8, c9, d0, d1, d2⟩ := HP.out w0 hS0; go_simp <;> (try with_reducible rfl))
            try simp only [Act.put, List.setIfInBounds_toArray, List.set_cons_zero, List.set_cons_succ]
            refine wpAnyH_read (i := 7) (oi := { dst := some 68, op := Go.Op.load 23 (Go.Operand.tmp 4), type := 23, pos := "law.go:69", after := #[], guard := none }) ?_ rfl (by kernel_rfl) (by kernel_rfl) (by kernel_rfl) (fun _ _ _ h => h) (by rfl) (by assumption) ?_ ?_
            rotate_left
            · (intro w0 hS0; obtain ⟨c0, c1, c2, c3, c4, c5, c6, c7, c8, c9, d0, d1, d2⟩ := HP.out w0 hS0; go_simp <;> (try with_reducible rfl))
            try simp only [Act.put, List.setIfInBounds_toArray, List.set_cons_zero, List.set_cons_succ]
            refine wpAnyH_read (i := 8) (oi := { dst := some 69, op := Go.Op.load 25 (Go.Operand.tmp 5), type := 25, pos := "law.go:69", after := #[], guard := none }) ?_ rfl (by kernel_rfl) (by kernel_rfl) (by kernel_rfl) (fun _ _ _ h => h) (by rfl) (by assumption) ?_ ?_
            rotate_left
            · (intro w0 hS0; obtain ⟨c0, c1, c2, c3, c4, c5, c6, c7, c8, c9, d0, d1, d2⟩ := HP.out w0 hS0; go_simp <;> (try with_reducible rfl))
            try simp only [Act.put, List.setIfInBounds_toArray, List.set_cons_zero, List.set_cons_succ]
            refine wpAnyH_one (i := 5) (o := { dst := some 66, op := Go.Op.call { callee := Go.Callee.value (Go.Operand.func 6), args := #[Go.Operand.const (Go.Value.string { data := #[105, 114, 99, 46, 120] }), Go.Operand.const (Go.Value.string { data := #[97, 110, 110] }), Go.Operand.tmp 61, Go.Operand.tmp 62, Go.Operand.tmp 63, Go.Operand.tmp 65], argTypes := #[9, 9, 9, 23, 25, 4] }, type := 9, pos := "law.go:69", after := #[{ on := 0, ground := Go.Ground.data }, { on := 1, ground := Go.Ground.data }, { on := 2, ground := Go.Ground.data }, { on := 4, ground := Go.Ground.data }], guard := none }) (by kernel_rfl) rfl (by rfl) (fun K hK => ?_)
            go_simp
            refine (HWm.out false _ (hfr.drew)).mono ?_
            rintro e9 x1 ⟨rfl, b1⟩
            have G1 : Fr (fun _ => False) W0 x1 := (hfr.drew).trans (Fr.of_below b1)
            clear b1
            refine hK.out _ _ ?_ (fun hHeld => ?_)
            · exact G1
            clear hK K
            try simp only [Act.put, List.setIfInBounds_toArray, List.set_cons_zero, List.set_cons_succ]
            refine wpAnyH_one (i := 11) (o := { dst := some 72, op := Go.Op.call { callee := Go.Callee.value (Go.Operand.func 7), args := #[Go.Operand.const (Go.Value.string { data := #[105, 114, 99, 46, 120] }), Go.Operand.const (Go.Value.string { data := #[97, 110, 110] }), Go.Operand.tmp 67, Go.Operand.tmp 68, Go.Operand.tmp 69, Go.Operand.tmp 71], argTypes := #[9, 9, 9, 23, 25, 4] }, type := 9, pos := "law.go:69", after := #[{ on := 6, ground := Go.Ground.data }, { on := 7, ground := Go.Ground.data }, { on := 8, ground := Go.Ground.data }, { on := 10, ground := Go.Ground.data }, { on := 5, ground := Go.Ground.chain }], guard := none }) (by kernel_rfl) rfl (by rfl) (fun K hK => ?_)
            go_simp
            refine (HWr.out false _ G1).mono ?_
            rintro e9 x2 ⟨rfl, b2⟩
            have G2 : Fr (fun _ => False) W0 x2 := G1.trans (Fr.of_below b2)
            clear b2
            refine hK.out _ _ ?_ (fun hHeld => ?_)
            · exact G2
            clear hK K
            try simp only [Act.put, List.setIfInBounds_toArray, List.set_cons_zero, List.set_cons_succ]
            refine wpAnyH_read (i := 12) (oi := { dst := some 73, op := Go.Op.binOp Go.BinOp.neq 9 (Go.Operand.tmp 66) (Go.Operand.tmp 72) 9, type := 4, pos := "law.go:69", after := #[{ on := 5, ground := Go.Ground.data }, { on := 11, ground := Go.Ground.data }], guard := none }) ?_ rfl (by kernel_rfl) (by kernel_rfl) (by kernel_rfl) (fun _ _ _ h => h) (by rfl) (by assumption) ?_ ?_
            rotate_left
            · (intro w0 hS0; go_simp <;> (try with_reducible rfl))
            try simp only [Act.put, List.setIfInBounds_toArray, List.set_cons_zero, List.set_cons_succ]
            refine wpAnyH_done (by kernel_rfl) ?_ _
            go_wp2_with fail
            go_roundw
            case rel =>
              first
              | exact ⟨k + 1, by go_num, by omega, G2⟩
              | (refine ⟨_, _, _, _, _, _, _, _, _, _, _, _, _, _, _, _, _, _, _, ⟨k + 1, ?_, by omega, G2⟩, rfl⟩; go_num)
            case measure => simp [RowKit.intOf]; omega
          by_cases hk1 : k = 1
          · have hq1 : ((k : Int) == 1) = true := by rw [beq_iff_eq]; omega
            have hkb : k ≤ 1 := by omega
            clear hk0 hk1
            go_wp2_with fail
            refine wp_region_held_drew (S := fun W => Fr (fun _ => False) W0 W) (by kernel_rfl) (by exact hfr.drew) (fun hHeld => ?_)
            refine wpAnyH_read (i := 0) (oi := { dst := some 61, op := Go.Op.move (Go.Operand.tmp 10), type := 9, pos := "law.go:69", after := #[], guard := none }) ?_ rfl (by kernel_rfl) (by kernel_rfl) (by kernel_rfl) (fun _ _ _ h => h) (by rfl) (by assumption) ?_ ?_
            rotate_left
            · (intro w0 hS0; go_simp <;> (try with_reducible rfl))
            try simp only [Act.put, List.setIfInBounds_toArray, List.set_cons_zero, List.set_cons_succ]
            refine wpAnyH_read (i := 3) (oi := { dst := some 64, op := Go.Op.move (Go.Operand.tmp 11), type := 3, pos := "law.go:69", after := #[], guard := none }) ?_ rfl (by kernel_rfl) (by kernel_rfl) (by kernel_rfl) (fun _ _ _ h => h) (by rfl) (by assumption) ?_ ?_
            rotate_left
            · (intro w0 hS0; go_simp <;> (try with_reducible rfl))
            try simp only [Act.put, List.setIfInBounds_toArray, List.set_cons_zero, List.set_cons_succ]
            refine wpAnyH_read (i := 4) (oi := { dst := some 65, op := Go.Op.binOp Go.BinOp.eql 3 (Go.Operand.tmp 64) (Go.Operand.const (Go.Value.int Go.IntKind.i64 1)) 3, type := 4, pos := "law.go:69", after := #[{ on := 3, ground := Go.Ground.data }], guard := none }) ?_ rfl (by kernel_rfl) (by kernel_rfl) (by kernel_rfl) (fun _ _ _ h => h) (by rfl) (by assumption) ?_ ?_
            rotate_left
            · (intro w0 hS0; go_simp <;> (try with_reducible rfl))
            try simp only [Act.put, List.setIfInBounds_toArray, List.set_cons_zero, List.set_cons_succ]
            refine wpAnyH_read (i := 6) (oi := { dst := some 67, op := Go.Op.move (Go.Operand.tmp 10), type := 9, pos := "law.go:69", after := #[], guard := none }) ?_ rfl (by kernel_rfl) (by kernel_rfl) (by kernel_rfl) (fun _ _ _ h => h) (by rfl) (by assumption) ?_ ?_
            rotate_left
            · (intro w0 hS0; go_simp <;> (try with_reducible rfl))
            try simp only [Act.put, List.setIfInBounds_toArray, List.set_cons_zero, List.set_cons_succ]
            refine wpAnyH_read (i := 9) (oi := { dst := some 70, op := Go.Op.move (Go.Operand.tmp 11), type := 3, pos := "law.go:69", after := #[], guard := none }) ?_ rfl (by kernel_rfl) (by kernel_rfl) (by kernel_rfl) (fun _ _ _ h => h) (by rfl) (by assumption) ?_ ?_
            rotate_left
            · (intro w0 hS0; go_simp <;> (try with_reducible rfl))
            try simp only [Act.put, List.setIfInBounds_toArray, List.set_cons_zero, List.set_cons_succ]
            refine wpAnyH_read (i := 10) (oi := { dst := some 71, op := Go.Op.binOp Go.BinOp.eql 3 (Go.Operand.tmp 70) (Go.Operand.const (Go.Value.int Go.IntKind.i64 1)) 3, type := 4, pos := "law.go:69", after := #[{ on := 9, ground := Go.Ground.data }], guard := none }) ?_ rfl (by kernel_rfl) (by kernel_rfl) (by kernel_rfl) (fun _ _ _ h => h) (by rfl) (by assumption) ?_ ?_
            rotate_left
            · (intro w0 hS0; go_simp <;> (try with_reducible rfl))
            try simp only [Act.put, List.setIfInBounds_toArray, List.set_cons_zero, List.set_cons_succ]
            refine wpAnyH_read (i := 1) (oi := { dst := some 62, op := Go.Op.load 23 (Go.Operand.tmp 4), type := 23, pos := "law.go:69", after := #[], guard := none }) ?_ rfl (by kernel_rfl) (by kernel_rfl) (by kernel_rfl) (fun _ _ _ h => h) (by rfl) (by assumption) ?_ ?_
            rotate_left
            · (intro w0 hS0; obtain ⟨c0, c1, c2, c3, c4, c5, c6, c7, c8, c9, d0, d1, d2⟩ := HP.out w0 hS0; go_simp <;> (try with_reducible rfl))
            try simp only [Act.put, List.setIfInBounds_toArray, List.set_cons_zero, List.set_cons_succ]
            refine wpAnyH_read (i := 2) (oi := { dst := some 63, op := Go.Op.load 25 (Go.Operand.tmp 5), type := 25, pos := "law.go:69", after := #[], guard := none }) ?_ rfl (by kernel_rfl) (by kernel_rfl) (by kernel_rfl) (fun _ _ _ h => h) (by rfl) (by assumption) ?_ ?_
            rotate_left
            · (intro w0 hS0; obtain ⟨c0, c1, c2, c3, c4, c5, c6, c7, c8, c9, d0, d1, d2⟩ := HP.out w0 hS0; go_simp <;> (try with_reducible rfl))
            try simp only [Act.put, List.setIfInBounds_toArray, List.set_cons_zero, List.set_cons_succ]
            refine wpAnyH_read (i := 7) (oi := { dst := some 68, op := Go.Op.load 23 (Go.Operand.tmp 4), type := 23, pos := "law.go:69", after := #[], guard := none }) ?_ rfl (by kernel_rfl) (by kernel_rfl) (by kernel_rfl) (fun _ _ _ h => h) (by rfl) (by assumption) ?_ ?_
            rotate_left
            · (intro w0 hS0; obtain ⟨c0, c1, c2, c3, c4, c5, c6, c7, c8, c9, d0, d1, d2⟩ := HP.out w0 hS0; go_simp <;> (try with_reducible rfl))
            try simp only [Act.put, List.setIfInBounds_toArray, List.set_cons_zero, List.set_cons_succ]
            refine wpAnyH_read (i := 8) (oi := { dst := some 69, op := Go.Op.load 25 (Go.Operand.tmp 5), type := 25, pos := "law.go:69", after := #[], guard := none }) ?_ rfl (by kernel_rfl) (by kernel_rfl) (by kernel_rfl) (fun _ _ _ h => h) (by rfl) (by assumption) ?_ ?_
            rotate_left
            · (intro w0 hS0; obtain ⟨c0, c1, c2, c3, c4, c5, c6, c7, c8, c9, d0, d1, d2⟩ := HP.out w0 hS0; go_simp <;> (try with_reducible rfl))
            try simp only [Act.put, List.setIfInBounds_toArray, List.set_cons_zero, List.set_cons_succ]
            refine wpAnyH_one (i := 5) (o := { dst := some 66, op := Go.Op.call { callee := Go.Callee.value (Go.Operand.func 6), args := #[Go.Operand.const (Go.Value.string { data := #[105, 114, 99, 46, 120] }), Go.Operand.const (Go.Value.string { data := #[97, 110, 110] }), Go.Operand.tmp 61, Go.Operand.tmp 62, Go.Operand.tmp 63, Go.Operand.tmp 65], argTypes := #[9, 9, 9, 23, 25, 4] }, type := 9, pos := "law.go:69", after := #[{ on := 0, ground := Go.Ground.data }, { on := 1, ground := Go.Ground.data }, { on := 2, ground := Go.Ground.data }, { on := 4, ground := Go.Ground.data }], guard := none }) (by kernel_rfl) rfl (by rfl) (fun K hK => ?_)
            go_simp
            refine (HWm.out true _ (hfr.drew)).mono ?_
            rintro e9 x1 ⟨rfl, b1⟩
            have G1 : Fr (fun _ => False) W0 x1 := (hfr.drew).trans (Fr.of_below b1)
            clear b1
            refine hK.out _ _ ?_ (fun hHeld => ?_)
            · exact G1
            clear hK K
            try simp only [Act.put, List.setIfInBounds_toArray, List.set_cons_zero, List.set_cons_succ]
            refine wpAnyH_one (i := 11) (o := { dst := some 72, op := Go.Op.call { callee := Go.Callee.value (Go.Operand.func 7), args := #[Go.Operand.const (Go.Value.string { data := #[105, 114, 99, 46, 120] }), Go.Operand.const (Go.Value.string { data := #[97, 110, 110] }), Go.Operand.tmp 67, Go.Operand.tmp 68, Go.Operand.tmp 69, Go.Operand.tmp 71], argTypes := #[9, 9, 9, 23, 25, 4] }, type := 9, pos := "law.go:69", after := #[{ on := 6, ground := Go.Ground.data }, { on := 7, ground := Go.Ground.data }, { on := 8, ground := Go.Ground.data }, { on := 10, ground := Go.Ground.data }, { on := 5, ground := Go.Ground.chain }], guard := none }) (by kernel_rfl) rfl (by rfl) (fun K hK => ?_)
            go_simp
            refine (HWr.out true _ G1).mono ?_
            rintro e9 x2 ⟨rfl, b2⟩
            have G2 : Fr (fun _ => False) W0 x2 := G1.trans (Fr.of_below b2)
            clear b2
            refine hK.out _ _ ?_ (fun hHeld => ?_)
            · exact G2
            clear hK K
            try simp only [Act.put, List.setIfInBounds_toArray, List.set_cons_zero, List.set_cons_succ]
            refine wpAnyH_read (i := 12) (oi := { dst := some 73, op := Go.Op.binOp Go.BinOp.neq 9 (Go.Operand.tmp 66) (Go.Operand.tmp 72) 9, type := 4, pos := "law.go:69", after := #[{ on := 5, ground := Go.Ground.data }, { on := 11, ground := Go.Ground.data }], guard := none }) ?_ rfl (by kernel_rfl) (by kernel_rfl) (by kernel_rfl) (fun _ _ _ h => h) (by rfl) (by assumption) ?_ ?_
            rotate_left
            · (intro w0 hS0; go_simp <;> (try with_reducible rfl))
            try simp only [Act.put, List.setIfInBounds_toArray, List.set_cons_zero, List.set_cons_succ]
            refine wpAnyH_done (by kernel_rfl) ?_ _
            go_wp2_with fail
            go_roundw
            case rel =>
              first
              | exact ⟨k + 1, by go_num, by omega, G2⟩
              | (refine ⟨_, _, _, _, _, _, _, _, _, _, _, _, _, _, _, _, _, _, _, ⟨k + 1, ?_, by omega, G2⟩, rfl⟩; go_num)
            case measure => simp [RowKit.intOf]; omega
          obtain rfl : k = 2 := by omega
          clear hk0 hk1
          · go_wp2_with fail
            refine wp_region_held_drew (S := fun W => Fr (fun _ => False) W0 W) (by kernel_rfl) (by exact hfr.drew) (fun hHeld => ?_)
            refine wpAnyH_read (i := 1) (oi := { dst := some 75, op := Go.Op.move (Go.Operand.tmp 2), type := 26, pos := "law.go:73", after := #[], guard := none }) ?_ rfl (by kernel_rfl) (by kernel_rfl) (by kernel_rfl) (fun _ _ _ h => h) (by rfl) (by assumption) ?_ ?_
            rotate_left
            · (intro w0 hS0; go_simp <;> (try with_reducible rfl))
            try simp only [Act.put, List.setIfInBounds_toArray, List.set_cons_zero, List.set_cons_succ]
            refine wpAnyH_read (i := 3) (oi := { dst := some 77, op := Go.Op.move (Go.Operand.tmp 3), type := 3, pos := "law.go:73", after := #[], guard := none }) ?_ rfl (by kernel_rfl) (by kernel_rfl) (by kernel_rfl) (fun _ _ _ h => h) (by rfl) (by assumption) ?_ ?_
            rotate_left
            · (intro w0 hS0; go_simp <;> (try with_reducible rfl))
            try simp only [Act.put, List.setIfInBounds_toArray, List.set_cons_zero, List.set_cons_succ]
            refine wpAnyH_read (i := 6) (oi := { dst := some 80, op := Go.Op.move (Go.Operand.tmp 2), type := 26, pos := "law.go:73", after := #[], guard := none }) ?_ rfl (by kernel_rfl) (by kernel_rfl) (by kernel_rfl) (fun _ _ _ h => h) (by rfl) (by assumption) ?_ ?_
            rotate_left
            · (intro w0 hS0; go_simp <;> (try with_reducible rfl))
            try simp only [Act.put, List.setIfInBounds_toArray, List.set_cons_zero, List.set_cons_succ]
            refine wpAnyH_read (i := 7) (oi := { dst := some 81, op := Go.Op.move (Go.Operand.tmp 3), type := 3, pos := "law.go:73", after := #[], guard := none }) ?_ rfl (by kernel_rfl) (by kernel_rfl) (by kernel_rfl) (fun _ _ _ h => h) (by rfl) (by assumption) ?_ ?_
            rotate_left
            · (intro w0 hS0; go_simp <;> (try with_reducible rfl))
            try simp only [Act.put, List.setIfInBounds_toArray, List.set_cons_zero, List.set_cons_succ]
            refine wpAnyH_read (i := 0) (oi := { dst := some 74, op := Go.Op.load 23 (Go.Operand.tmp 4), type := 23, pos := "law.go:73", after := #[], guard := none }) ?_ rfl (by kernel_rfl) (by kernel_rfl) (by kernel_rfl) (fun _ _ _ h => h) (by rfl) (by assumption) ?_ ?_
            rotate_left
            · (intro w0 hS0; obtain ⟨c0, c1, c2, c3, c4, c5, c6, c7, c8, c9, d0, d1, d2⟩ := HP.out w0 hS0; go_simp <;> (try with_reducible rfl))
            try simp only [Act.put, List.setIfInBounds_toArray, List.set_cons_zero, List.set_cons_succ]
            refine wpAnyH_read (i := 5) (oi := { dst := some 79, op := Go.Op.load 23 (Go.Operand.tmp 4), type := 23, pos := "law.go:73", after := #[], guard := none }) ?_ rfl (by kernel_rfl) (by kernel_rfl) (by kernel_rfl) (fun _ _ _ h => h) (by rfl) (by assumption) ?_ ?_
            rotate_left
            · (intro w0 hS0; obtain ⟨c0, c1, c2, c3, c4, c5, c6, c7, c8, c9, d0, d1, d2⟩ := HP.out w0 hS0; go_simp <;> (try with_reducible rfl))
            try simp only [Act.put, List.setIfInBounds_toArray, List.set_cons_zero, List.set_cons_succ]
            refine wpAnyH_one (i := 2) (o := { dst := some 76, op := Go.Op.call { callee := Go.Callee.value (Go.Operand.func 10), args := #[Go.Operand.tmp 75], argTypes := #[26] }, type := 32, pos := "law.go:73", after := #[{ on := 1, ground := Go.Ground.data }], guard := none }) (by kernel_rfl) rfl (by rfl) (fun K hK => ?_)
            go_simp
            refine (listed_m _ c ws _ (by omega) (HRw.out _ hfr.drew)).mono ?_
            rintro e9 x1 ⟨lb, rfl, ⟨Y1, T1⟩, b1⟩
            have G1 : Fr (fun _ => False) W0 x1 := hfr.drew.trans (Fr.of_below b1)
            refine hK.out _ _ ?_ (fun hHeld => ?_)
            · exact G1
            clear hK K
            try simp only [Act.put, List.setIfInBounds_toArray, List.set_cons_zero, List.set_cons_succ]
            refine wpAnyH_one (i := 4) (o := { dst := some 78, op := Go.Op.call { callee := Go.Callee.value (Go.Operand.func 9), args := #[Go.Operand.const (Go.Value.string { data := #[105, 114, 99, 46, 120] }), Go.Operand.const (Go.Value.string { data := #[97, 110, 110] }), Go.Operand.tmp 74, Go.Operand.tmp 76, Go.Operand.tmp 77], argTypes := #[9, 9, 23, 41, 3] }, type := 26, pos := "law.go:73", after := #[{ on := 0, ground := Go.Ground.data }, { on := 2, ground := Go.Ground.data }, { on := 3, ground := Go.Ground.data }, { on := 2, ground := Go.Ground.chain }], guard := none }) (by kernel_rfl) rfl (by rfl) (fun K hK => ?_)
            go_simp
            refine (HW1.out _ lb Y1 G1 T1).mono ?_
            rintro e9 x2 ⟨A2, k2, rfl, r2, b2⟩
            have G2 : Fr (fun _ => False) W0 x2 := G1.trans (Fr.of_below b2)
            refine hK.out _ _ ?_ (fun hHeld => ?_)
            · exact G2
            clear hK K
            try simp only [Act.put, List.setIfInBounds_toArray, List.set_cons_zero, List.set_cons_succ]
            refine wpAnyH_one (i := 8) (o := { dst := some 82, op := Go.Op.call { callee := Go.Callee.value (Go.Operand.func 11), args := #[Go.Operand.const (Go.Value.string { data := #[105, 114, 99, 46, 120] }), Go.Operand.const (Go.Value.string { data := #[97, 110, 110] }), Go.Operand.tmp 79, Go.Operand.tmp 80, Go.Operand.tmp 81], argTypes := #[9, 9, 23, 26, 3] }, type := 26, pos := "law.go:73", after := #[{ on := 5, ground := Go.Ground.data }, { on := 6, ground := Go.Ground.data }, { on := 7, ground := Go.Ground.data }, { on := 4, ground := Go.Ground.chain }], guard := none }) (by kernel_rfl) rfl (by rfl) (fun K hK => ?_)
            go_simp
            refine (HW2.out _ G2).mono ?_
            rintro e9 x3 ⟨A3, k3, rfl, r3, b3⟩
            have G3 : Fr (fun _ => False) W0 x3 := G2.trans (Fr.of_below b3)
            have r2b := readsT_fr0 r2 (Fr.of_below b3)
            refine hK.out _ _ ?_ (fun hHeld => ?_)
            · exact G3
            clear hK K
            try simp only [Act.put, List.setIfInBounds_toArray, List.set_cons_zero, List.set_cons_succ]
            refine wpAnyH_one (i := 9) (o := { dst := some 83, op := Go.Op.call { callee := Go.Callee.value (Go.Operand.func 8), args := #[Go.Operand.tmp 78, Go.Operand.tmp 82], argTypes := #[26, 26] }, type := 4, pos := "law.go:73", after := #[{ on := 4, ground := Go.Ground.data }, { on := 8, ground := Go.Ground.data }, { on := 8, ground := Go.Ground.chain }], guard := none }) (by kernel_rfl) rfl (by rfl) (fun K hK => ?_)
            go_simp
            refine (texts_is _ _ (by omega) r2b r3).mono ?_
            rintro e9 x4 ⟨rfl, m4, hx4⟩
            have G4 : Fr (fun _ => False) W0 x4 := by rw [hx4]; exact G3.drewN m4
            clear hx4
            refine hK.out _ _ ?_ (fun hHeld => ?_)
            · exact G4
            clear hK K
            try simp only [Act.put, List.setIfInBounds_toArray, List.set_cons_zero, List.set_cons_succ]
            refine wpAnyH_read (i := 10) (oi := { dst := some 84, op := Go.Op.move (Go.Operand.tmp 83), type := 4, pos := "law.go:73", after := #[{ on := 9, ground := Go.Ground.data }, { on := 9, ground := Go.Ground.chain }], guard := none }) ?_ rfl (by kernel_rfl) (by kernel_rfl) (by kernel_rfl) (fun _ _ _ h => h) (by rfl) (by assumption) ?_ ?_
            rotate_left
            · (intro w0 hS0; go_simp <;> (try with_reducible rfl))
            try simp only [Act.put, List.setIfInBounds_toArray, List.set_cons_zero, List.set_cons_succ]
            refine wpAnyH_read (i := 12) (oi := { dst := some 86, op := Go.Op.move (Go.Operand.tmp 3), type := 3, pos := "law.go:73", after := #[{ on := 10, ground := Go.Ground.guard }], guard := some (10, true) }) ?_ rfl (by kernel_rfl) (by kernel_rfl) (by kernel_rfl) (fun _ _ _ h => h) (by rfl) (by assumption) ?_ ?_
            rotate_left
            · (intro w0 hS0; go_simp <;> (try with_reducible rfl))
            try simp only [Act.put, List.setIfInBounds_toArray, List.set_cons_zero, List.set_cons_succ]
            refine wpAnyH_read (i := 15) (oi := { dst := some 89, op := Go.Op.move (Go.Operand.tmp 3), type := 3, pos := "law.go:73", after := #[{ on := 10, ground := Go.Ground.guard }], guard := some (10, true) }) ?_ rfl (by kernel_rfl) (by kernel_rfl) (by kernel_rfl) (fun _ _ _ h => h) (by rfl) (by assumption) ?_ ?_
            rotate_left
            · (intro w0 hS0; go_simp <;> (try with_reducible rfl))
            try simp only [Act.put, List.setIfInBounds_toArray, List.set_cons_zero, List.set_cons_succ]
            refine wpAnyH_read (i := 11) (oi := { dst := some 85, op := Go.Op.load 23 (Go.Operand.tmp 4), type := 23, pos := "law.go:73", after := #[{ on := 10, ground := Go.Ground.guard }], guard := some (10, true) }) ?_ rfl (by kernel_rfl) (by kernel_rfl) (by kernel_rfl) (fun _ _ _ h => h) (by rfl) (by assumption) ?_ ?_
            rotate_left
            · (intro w0 hS0; obtain ⟨c0, c1, c2, c3, c4, c5, c6, c7, c8, c9, d0, d1, d2⟩ := HP.out w0 hS0; go_simp <;> (try with_reducible rfl))
            try simp only [Act.put, List.setIfInBounds_toArray, List.set_cons_zero, List.set_cons_succ]
            refine wpAnyH_read (i := 14) (oi := { dst := some 88, op := Go.Op.load 23 (Go.Operand.tmp 4), type := 23, pos := "law.go:73", after := #[{ on := 10, ground := Go.Ground.guard }], guard := some (10, true) }) ?_ rfl (by kernel_rfl) (by kernel_rfl) (by kernel_rfl) (fun _ _ _ h => h) (by rfl) (by assumption) ?_ ?_
            rotate_left
            · (intro w0 hS0; obtain ⟨c0, c1, c2, c3, c4, c5, c6, c7, c8, c9, d0, d1, d2⟩ := HP.out w0 hS0; go_simp <;> (try with_reducible rfl))
            try simp only [Act.put, List.setIfInBounds_toArray, List.set_cons_zero, List.set_cons_succ]
            refine wpAnyH_one (i := 13) (o := { dst := some 87, op := Go.Op.call { callee := Go.Callee.value (Go.Operand.func 9), args := #[Go.Operand.const (Go.Value.string { data := #[105, 114, 99, 46, 120] }), Go.Operand.const (Go.Value.string { data := #[97, 110, 110] }), Go.Operand.tmp 85, Go.Operand.const Go.Value.nilFunc, Go.Operand.tmp 86], argTypes := #[9, 9, 23, 41, 3] }, type := 26, pos := "law.go:73", after := #[{ on := 11, ground := Go.Ground.data }, { on := 12, ground := Go.Ground.data }, { on := 10, ground := Go.Ground.chain }, { on := 10, ground := Go.Ground.guard }], guard := some (10, true) }) (by kernel_rfl) rfl (by rfl) (fun K hK => ?_)
            go_simp
            refine (HW3.out _ G4).mono ?_
            rintro e9 x5 ⟨A5, k5, rfl, r5, b5⟩
            have G5 : Fr (fun _ => False) W0 x5 := G4.trans (Fr.of_below b5)
            refine hK.out _ _ ?_ (fun hHeld => ?_)
            · exact G5
            clear hK K
            try simp only [Act.put, List.setIfInBounds_toArray, List.set_cons_zero, List.set_cons_succ]
            refine wpAnyH_one (i := 16) (o := { dst := some 90, op := Go.Op.call { callee := Go.Callee.value (Go.Operand.func 11), args := #[Go.Operand.const (Go.Value.string { data := #[105, 114, 99, 46, 120] }), Go.Operand.const (Go.Value.string { data := #[97, 110, 110] }), Go.Operand.tmp 88, Go.Operand.const (Go.Value.slice none 0 0), Go.Operand.tmp 89], argTypes := #[9, 9, 23, 26, 3] }, type := 26, pos := "law.go:73", after := #[{ on := 14, ground := Go.Ground.data }, { on := 15, ground := Go.Ground.data }, { on := 13, ground := Go.Ground.chain }, { on := 10, ground := Go.Ground.guard }], guard := some (10, true) }) (by kernel_rfl) rfl (by rfl) (fun K hK => ?_)
            go_simp
            refine (HW4.out _ G5).mono ?_
            rintro e9 x6 ⟨A6, k6, rfl, r6, b6⟩
            have G6 : Fr (fun _ => False) W0 x6 := G5.trans (Fr.of_below b6)
            have r5b := readsT_fr0 r5 (Fr.of_below b6)
            refine hK.out _ _ ?_ (fun hHeld => ?_)
            · exact G6
            clear hK K
            try simp only [Act.put, List.setIfInBounds_toArray, List.set_cons_zero, List.set_cons_succ]
            refine wpAnyH_one (i := 17) (o := { dst := some 91, op := Go.Op.call { callee := Go.Callee.value (Go.Operand.func 8), args := #[Go.Operand.tmp 87, Go.Operand.tmp 90], argTypes := #[26, 26] }, type := 4, pos := "law.go:73", after := #[{ on := 13, ground := Go.Ground.data }, { on := 16, ground := Go.Ground.data }, { on := 16, ground := Go.Ground.chain }, { on := 10, ground := Go.Ground.guard }], guard := some (10, true) }) (by kernel_rfl) rfl (by rfl) (fun K hK => ?_)
            go_simp
            refine (texts_is _ _ (by omega) r5b r6).mono ?_
            rintro e9 x7 ⟨rfl, m7, hx7⟩
            have G7 : Fr (fun _ => False) W0 x7 := by rw [hx7]; exact G6.drewN m7
            clear hx7
            refine hK.out _ _ ?_ (fun hHeld => ?_)
            · exact G7
            clear hK K
            try simp only [Act.put, List.setIfInBounds_toArray, List.set_cons_zero, List.set_cons_succ]
            refine wpAnyH_read (i := 18) (oi := { dst := some 92, op := Go.Op.pick (Go.Operand.tmp 84) (Go.Operand.tmp 91) (Go.Operand.const (Go.Value.bool false)), type := 4, pos := "law.go:73", after := #[{ on := 10, ground := Go.Ground.data }, { on := 17, ground := Go.Ground.data }], guard := none }) ?_ rfl (by kernel_rfl) (by kernel_rfl) (by kernel_rfl) (fun _ _ _ h => h) (by rfl) (by assumption) ?_ ?_
            rotate_left
            · (intro w0 hS0; go_simp <;> (try with_reducible rfl))
            try simp only [Act.put, List.setIfInBounds_toArray, List.set_cons_zero, List.set_cons_succ]
            refine wpAnyH_read (i := 19) (oi := { dst := some 93, op := Go.Op.move (Go.Operand.tmp 92), type := 4, pos := "law.go:73", after := #[{ on := 18, ground := Go.Ground.data }, { on := 17, ground := Go.Ground.chain }], guard := none }) ?_ rfl (by kernel_rfl) (by kernel_rfl) (by kernel_rfl) (fun _ _ _ h => h) (by rfl) (by assumption) ?_ ?_
            rotate_left
            · (intro w0 hS0; go_simp <;> (try with_reducible rfl))
            try simp only [Act.put, List.setIfInBounds_toArray, List.set_cons_zero, List.set_cons_succ]
            refine wpAnyH_read (i := 20) (oi := { dst := some 94, op := Go.Op.load 23 (Go.Operand.tmp 4), type := 23, pos := "law.go:73", after := #[{ on := 19, ground := Go.Ground.guard }], guard := some (19, true) }) ?_ rfl (by kernel_rfl) (by kernel_rfl) (by kernel_rfl) (fun _ _ _ h => h) (by rfl) (by assumption) ?_ ?_
            rotate_left
            · (intro w0 hS0; obtain ⟨c0, c1, c2, c3, c4, c5, c6, c7, c8, c9, d0, d1, d2⟩ := HP.out w0 hS0; go_simp <;> (try with_reducible rfl))
            try simp only [Act.put, List.setIfInBounds_toArray, List.set_cons_zero, List.set_cons_succ]
            refine wpAnyH_read (i := 22) (oi := { dst := some 96, op := Go.Op.load 23 (Go.Operand.tmp 4), type := 23, pos := "law.go:73", after := #[{ on := 19, ground := Go.Ground.guard }], guard := some (19, true) }) ?_ rfl (by kernel_rfl) (by kernel_rfl) (by kernel_rfl) (fun _ _ _ h => h) (by rfl) (by assumption) ?_ ?_
            rotate_left
            · (intro w0 hS0; obtain ⟨c0, c1, c2, c3, c4, c5, c6, c7, c8, c9, d0, d1, d2⟩ := HP.out w0 hS0; go_simp <;> (try with_reducible rfl))
            try simp only [Act.put, List.setIfInBounds_toArray, List.set_cons_zero, List.set_cons_succ]
            refine wpAnyH_one (i := 21) (o := { dst := some 95, op := Go.Op.call { callee := Go.Callee.value (Go.Operand.func 12), args := #[Go.Operand.const (Go.Value.string { data := #[105, 114, 99, 46, 120] }), Go.Operand.const (Go.Value.string { data := #[97, 110, 110] }), Go.Operand.tmp 94], argTypes := #[9, 9, 23] }, type := 26, pos := "law.go:73", after := #[{ on := 20, ground := Go.Ground.data }, { on := 19, ground := Go.Ground.chain }, { on := 19, ground := Go.Ground.guard }], guard := some (19, true) }) (by kernel_rfl) rfl (by rfl) (fun K hK => ?_)
            go_simp
            refine (HW5.out _ G7).mono ?_
            rintro e9 x8 ⟨A8, k8, rfl, r8, b8⟩
            have G8 : Fr (fun _ => False) W0 x8 := G7.trans (Fr.of_below b8)
            refine hK.out _ _ ?_ (fun hHeld => ?_)
            · exact G8
            clear hK K
            try simp only [Act.put, List.setIfInBounds_toArray, List.set_cons_zero, List.set_cons_succ]
            refine wpAnyH_one (i := 23) (o := { dst := some 97, op := Go.Op.call { callee := Go.Callee.value (Go.Operand.func 13), args := #[Go.Operand.const (Go.Value.string { data := #[105, 114, 99, 46, 120] }), Go.Operand.const (Go.Value.string { data := #[97, 110, 110] }), Go.Operand.tmp 96], argTypes := #[9, 9, 23] }, type := 26, pos := "law.go:73", after := #[{ on := 22, ground := Go.Ground.data }, { on := 21, ground := Go.Ground.chain }, { on := 19, ground := Go.Ground.guard }], guard := some (19, true) }) (by kernel_rfl) rfl (by rfl) (fun K hK => ?_)
            go_simp
            refine (HW6.out _ G8).mono ?_
            rintro e9 x9 ⟨A9, k9, rfl, r9, b9⟩
            have G9 : Fr (fun _ => False) W0 x9 := G8.trans (Fr.of_below b9)
            have r8b := readsT_fr0 r8 (Fr.of_below b9)
            refine hK.out _ _ ?_ (fun hHeld => ?_)
            · exact G9
            clear hK K
            try simp only [Act.put, List.setIfInBounds_toArray, List.set_cons_zero, List.set_cons_succ]
            refine wpAnyH_one (i := 24) (o := { dst := some 98, op := Go.Op.call { callee := Go.Callee.value (Go.Operand.func 8), args := #[Go.Operand.tmp 95, Go.Operand.tmp 97], argTypes := #[26, 26] }, type := 4, pos := "law.go:73", after := #[{ on := 21, ground := Go.Ground.data }, { on := 23, ground := Go.Ground.data }, { on := 23, ground := Go.Ground.chain }, { on := 19, ground := Go.Ground.guard }], guard := some (19, true) }) (by kernel_rfl) rfl (by rfl) (fun K hK => ?_)
            go_simp
            refine (texts_is _ _ (by omega) r8b r9).mono ?_
            rintro e9 x10 ⟨rfl, m10, hx10⟩
            have G10 : Fr (fun _ => False) W0 x10 := by rw [hx10]; exact G9.drewN m10
            clear hx10
            refine hK.out _ _ ?_ (fun hHeld => ?_)
            · exact G10
            clear hK K
            try simp only [Act.put, List.setIfInBounds_toArray, List.set_cons_zero, List.set_cons_succ]
            refine wpAnyH_read (i := 25) (oi := { dst := some 99, op := Go.Op.pick (Go.Operand.tmp 93) (Go.Operand.tmp 98) (Go.Operand.const (Go.Value.bool false)), type := 4, pos := "law.go:73", after := #[{ on := 19, ground := Go.Ground.data }, { on := 24, ground := Go.Ground.data }], guard := none }) ?_ rfl (by kernel_rfl) (by kernel_rfl) (by kernel_rfl) (fun _ _ _ h => h) (by rfl) (by assumption) ?_ ?_
            rotate_left
            · (intro w0 hS0; go_simp <;> (try with_reducible rfl))
            try simp only [Act.put, List.setIfInBounds_toArray, List.set_cons_zero, List.set_cons_succ]
            refine wpAnyH_read (i := 26) (oi := { dst := some 8, op := Go.Op.assign (Go.Operand.tmp 99), type := 4, pos := "law.go:73", after := #[{ on := 25, ground := Go.Ground.data }, { on := 24, ground := Go.Ground.chain }, { on := 0, ground := Go.Ground.phase }, { on := 1, ground := Go.Ground.phase }, { on := 2, ground := Go.Ground.phase }, { on := 3, ground := Go.Ground.phase }, { on := 4, ground := Go.Ground.phase }, { on := 5, ground := Go.Ground.phase }, { on := 6, ground := Go.Ground.phase }, { on := 7, ground := Go.Ground.phase }, { on := 8, ground := Go.Ground.phase }, { on := 9, ground := Go.Ground.phase }, { on := 10, ground := Go.Ground.phase }, { on := 11, ground := Go.Ground.phase }, { on := 12, ground := Go.Ground.phase }, { on := 13, ground := Go.Ground.phase }, { on := 14, ground := Go.Ground.phase }, { on := 15, ground := Go.Ground.phase }, { on := 16, ground := Go.Ground.phase }, { on := 17, ground := Go.Ground.phase }, { on := 18, ground := Go.Ground.phase }, { on := 19, ground := Go.Ground.phase }, { on := 20, ground := Go.Ground.phase }, { on := 21, ground := Go.Ground.phase }, { on := 22, ground := Go.Ground.phase }, { on := 23, ground := Go.Ground.phase }, { on := 24, ground := Go.Ground.phase }, { on := 25, ground := Go.Ground.phase }], guard := none }) ?_ rfl (by kernel_rfl) (by kernel_rfl) (by kernel_rfl) (fun _ _ _ h => h) (by rfl) (by assumption) ?_ ?_
            rotate_left
            · (intro w0 hS0; go_simp <;> (try with_reducible rfl))
            try simp only [Act.put, List.setIfInBounds_toArray, List.set_cons_zero, List.set_cons_succ]
            refine wpAnyH_done (by kernel_rfl) ?_ _
            go_wp2_with fail
            go_ret
            exact ⟨rfl, (HF0.out.trans G10).below (by omega) fun _ _ e => e.elim⟩
end Go.Proofs.YtkbgpajconhgjaaGreatDoor
end
section
/- Layer 22: PersonLines, whatever is given. -/
namespace Go.Proofs.YtkbgpajconhgjaaGreatDoor
open Go Go.RowKit

theorem personLines_walk (id : Int) (n u h r y : ByteArray) (o d : Bool) (si sp : Int) (mi : Int) (op vo : Bool) (A : Option Addr) (l : List ByteArray) (c : Nat) (now : Int) (w : World) (hsi : (Lit.int .i64 si).wf = true) (hl : l.length ≤ maxLen) (hr : 0 < l.length → ∃ g o, A = some ⟨g, o, none⟩ ∧ ∀ i (h : i < l.length), w.cell? ⟨g, o + i, none⟩ = some (.string l[i])) (hLd : LdP w) :
    Calls Tryz.prog 3 #[per id n u h r y o d si sp, memb mi op vo, .slice A l.length c, .int .i64 now] w fun e w' => e = .returned (.bool true) ∧ Below w.heap.size w w' := by
  have hs : -9223372036854775808 ≤ si ∧ si ≤ 9223372036854775807 := by
    simp only [Lit.wf, IntKind.has, Bool.and_eq_true, decide_eq_true_eq] at hsi
    exact ⟨hsi.1, hsi.2⟩
  have k := personLines_main n.data.toList u.data.toList h.data.toList r.data.toList y.data.toList id si sp now mi o d op vo A c (l.map fun x => x.data.toList) w (fun h0 => by
    rw [List.length_map] at h0
    obtain ⟨g, o, e, hcl⟩ := hr h0
    refine ⟨g, o, e, World.block_lt_of_cell? _ _ (hcl 0 h0), fun j hj => ?_⟩
    rw [List.length_map] at hj
    rw [List.getElem_map, bs_of22]
    exact hcl j hj) hLd.1 hLd.2 hs (by rw [List.length_map]; unfold maxLen at hl; omega)
  rw [bs_of22, bs_of22, bs_of22, bs_of22, bs_of22, List.length_map] at k
  exact k
end Go.Proofs.YtkbgpajconhgjaaGreatDoor
end
section
/- A law's last step where the call has made memory of its own, of whatever sort: what lay before lies as it lay, so each argument reads as it read. -/
namespace Go.Proofs.YtkbgpajconhgjaaGreatDoor
open Go Go.RowKit Go.WideShapes Go.ChangeShapes

theorem post_below {H : Type} {enc : TypeId × Value → H} {P : Program} {f : Func} {s : ChangeSpec} {apart fresh handsOn again : Bool} {W W' : World} {args : Array Value} {v : Value} {ds gs : List (DataW H)} {all pa pv : List MemPlace}
    (hW : DataW.Whole enc P f.params.toList s.vars apart W args.toList ds gs all)
    (hr : ∀ (b : Nat) (sp : Nat → Bool) (hd : Bool), DataW.TrodAll enc P W' b sp hd f.resultTypes.toList (v.resultList f.resultTypes.size) (s.fn H (ds ++ gs)).results [])
    (ha : ∀ sp : Nat → Bool, (∀ p ∈ all, sp p.block = true) → DataW.TrodAll enc P W' 0 sp true f.params.toList args.toList (s.fn H (ds ++ gs)).args pa)
    (hv : ∀ sp : Nat → Bool, (∀ p ∈ all, sp p.block = true) → DataW.TrodVars enc P W' sp s.vars (s.fn H (ds ++ gs)).vars pv)
    (hpl : all = pa ++ pv) (hB : Below W.heap.size W W')
    (hok : ∀ (j : Nat) (t : TypeId) (r : Value), f.resultTypes[j]? = some t → (v.resultList f.resultTypes.size)[j]? = some r → Value.okWide P W' .any 0 t r) :
    s.post enc P f apart fresh handsOn again W args v W' := by
  have low : ∀ p ∈ all, p.block < W.heap.size := fun p hp => hW.lt p hp
  refine ⟨ds, gs, all, [], pa, pv, hW, hr _ _ _, ha (fun b => decide (b < W.heap.size)) fun p hp => by simpa using low p hp, hv (fun b => decide (b < W.heap.size)) fun p hp => by simpa using low p hp,
    World.keptBut_mono (fun p hp => ⟨hp, .inr (by rw [hpl, List.mem_append] at hp; exact hp)⟩) (hB.frame (· ∈ all)), fun _ => ?_⟩
  obtain ⟨_, _, _, _, _, hfrozen, hapart⟩ := hW
  have same : ∀ p : MemPlace, p ∈ ([] ++ pa) ++ pv → p ∈ all := fun p hp => by rw [hpl]; simpa using hp
  refine ⟨hok, _, _, ([] ++ pa) ++ pv, ⟨[] ++ pa, pv, trodAll_append (ha _ fun _ _ => rfl) (hr _ _ _), hv _ fun _ _ => rfl, rfl, fun b off hp => ?_, fun h => ?_⟩, fun p hp _ => ?_⟩
  · rw [hB.frozen (low _ (same _ hp))]
    exact hfrozen b off (same _ hp)
  · have := hapart h
    rw [hpl] at this
    simpa using this
  · rw [hpl]
    simpa using hp
end Go.Proofs.YtkbgpajconhgjaaGreatDoor
end
