/- Texts of this proof, one behind the other. -/
import Derived.Test.YtmgnhbihfgpccaaGreatDoorRoomUndoG19
import Derived.Test.YtmgnhbihfgpccaaGreatDoorRoomUndoG12
import Derived.Test.YtmgnhbihfgpccaaGreatDoorRoomUndoG9
import Derived.Test.YtmgnhbihfgpccaaGreatDoorRows
import Derived.ProofKit
import Derived.OpenShut
import Derived.LaidMore
import Derived.Lay
import Derived.Test.YtmgnhbihfgpccaaGreatDoorRoomUndoG11
section
/- Layer 19: does a ban mean somebody; MaySpeak. -/
namespace Go.Proofs.YtmgnhbihfgpccaaGreatDoor
set_option linter.unusedVariables false
set_option linter.unusedSimpArgs false
open Go Go.RowKit
attribute [local go_sem] Oper.semAt_some

theorem res_inR {P : Program} {fn : Func} {p : Tmp} {ty : TypeId} (h : fn.results = #[.cell p ty]) (tmps : Array Value) (w : World) (g : Nat) (v : Value) (d : TypeDesc) (hp : tmps.getD p undef = .pointer (some ⟨g, 0, none⟩)) (hc : w.cell? ⟨g, 0, none⟩ = some v)
    (hu : P.underlying ty = some d) (hd : (match d with | .struct _ | .array _ _ => true | _ => false) = false) : (results fn tmps).run P w = .ok v w := by
  have hp' : tmps[p]?.getD undef = .pointer (some ⟨g, 0, none⟩) := by simpa using hp
  have hagg : (isAgg ty).run P w = .ok false w := by
    unfold isAgg
    rw [Sem.run_bind, run_underlying hu w]
    cases d <;> simp_all
  simp [results, h, hp', asAddr, loadVar, Sem.run_bind, hagg, go_sem, hc]
def banL (bans : List (List UInt8)) (who : List UInt8) : Bool := bans.any fun y => mm y who
def BanI (S : Nat) (who : List UInt8) (pre : List (List UInt8)) (X : Nat → Prop) (W : World) : Prop := (∀ y ∈ pre, mm y who = false) ∧ W.heap[S]? = some (.cells #[.bool false] 4 (0, 0)) ∧ X S
theorem banI_stays (S : Nat) (who : List UInt8) : Stays (BanI S who) := fun pre X V V' ⟨h1, h2, h3⟩ hl hf => ⟨h1, hf.blk h2 fun e => e h3, h3⟩
def BanX (S : Nat) (X : Nat → Prop) (W : World) : Prop := W.heap[S]? = some (.cells #[.bool true] 4 (0, 0)) ∧ X S
set_option maxRecDepth 100000 in
set_option maxHeartbeats 8000000 in
theorem banned_any {base B : Nat} {q : RmV} {r : Rm} {w : World} (h : RoomAt base B q r w) (who : List UInt8) (hl : r.bans.length ≤ 100000) (hb : ∀ y ∈ r.bans, y.length ≤ 1000000) (hw : who.length ≤ 1000000) :
    Calls Tryz.prog 57 #[.pointer (some ⟨B, 0, none⟩), .string (bs who)] w fun e w' => e = .returned (.bool (banL r.bans who)) ∧ RowKit.Below w.heap.size w w' := by
  obtain ⟨sw, hsw⟩ : ∃ sw, bs who = sw := ⟨_, rfl⟩
  obtain ⟨w1, hw1⟩ : ∃ w1, (w.alloc (Obj.cells #[Value.string sw] 9)).alloc (Obj.cells #[Value.bool false] 4) = w1 := ⟨_, rfl⟩
  have z1 : w1.heap.size = w.heap.size + 2 := by rw [← hw1]; simp
  have f1 : Fr (fun _ => False) w w1 := by rw [← hw1]; exact ((Fr.refl _ w).alloc _).alloc _
  have hb0 : w1.heap[w.heap.size]? = some (.cells #[.string sw] 9 (0, 0)) := by rw [← hw1]; exact blk_alloc (heap_alloc_new w _) _
  have hb1 : w1.heap[w.heap.size + 1]? = some (.cells #[.bool false] 4 (0, 0)) := by rw [← hw1]; exact heap_alloc2_new w _ _
  have HM := Lib.hid (fun (y : List UInt8) (hy : y.length ≤ 1000000) W => matchB (bs y) sw W (by rw [bs_size]; exact hy) (by rw [← hsw, bs_size]; exact hw))
  have hsd : sw.data.toList = who := by rw [← hsw]; rfl
  have HW := Lib.hid (And.intro hw1 (bans_any (h.fr f1 fun _ _ e => e) (by omega)))
  have H0 := Lib.hid (And.intro f1 (And.intro hb0 (And.intro hb1 z1)))
  have HL := Lib.hid (And.intro hl (And.intro hb hsd))
  rw [hsw]
  clear hw1 hb0 hb1 z1 f1 h hl hb hw hsw hsd
  refine (callsIn_wide (n := 20)).1 ?_
  refine callsIn_of_wp_marks Tryz.func57 rfl trivial ?_ rfl
  simp only [Tryz.ntmps57, List.size_toArray, List.length_cons, List.length_nil, Nat.reduceAdd, Nat.reduceSub, Array.replicate_succ, Array.replicate_zero, List.push_toArray, List.append_toArray, List.nil_append, List.cons_append]
  gi_wp2_with fail
  rw [HW.out.1]
  refine ⟨trivial, (calls_wide (.inl rfl) HW.out.2).mono ?_⟩
  rintro e W2 ⟨⟨F, rfl, hT⟩, hfZ0⟩
  clear HW
  have hfZ : Fr (fun _ => False) w1 W2 := Fr.of_below hfZ0
  obtain ⟨Y, hYb, gf, lb, rfl, hseq, hYl, heg⟩ := tellsT_tale hT (by have := HL.out.1; omega)
  gi_wp2_with fail
  obtain ⟨f1, hb0, hb1, z1⟩ := H0.out
  have hzz := hfZ.size
  have f12 : Fr (fun _ => False) w W2 := f1.trans hfZ
  have hb0 := hfZ.blk hb0 (fun e => e)
  have hb1 := hfZ.blk hb1 (fun e => e)
  have H := Lib.hid (And.intro f12 (And.intro hb0 (And.intro hb1 (And.intro z1 hzz))))
  refine wpIn_rangeF (X := fun k => k = w.heap.size + 1) (Y := Y) (xs := r.bans) (encs := encL) (gf := gf) (lb := lb) (BanI (w.heap.size + 1) who) (fun c pre X1 W => (c = .ret ∧ ∃ y ∈ pre, mm y who = true) ∧ BanX (w.heap.size + 1) X1 W)
    rfl hseq (fun k hk => ⟨by omega, fun e => by have := hYb k e; omega⟩) hYl (by omega) heg (fun _ => rfl)
    (banI_stays _ _) (fun c s X1 V1 V2 hh h1 h2 => ⟨hh.1, h2.blk hh.2.1 fun e => e hh.2.2, hh.2.2⟩) ⟨fun y hy => (by cases hy), hb1, rfl⟩ ?round ?done ?stop
  case round =>
    rintro l pre x rr X1 V K rb hl2 hpx ⟨hI1, hI2, hI3⟩ hG hxl hF hlV hK
    dsimp only [encL]
    have HK := Lib.hid hK
    have HV := Lib.hid (And.intro hpx (And.intro hI1 (And.intro hI2 (And.intro hI3 (And.intro hG (And.intro hxl (And.intro hF (And.intro hlV hl2))))))))
    clear hK hpx hI1 hI2 hI3 hG hxl hF hlV hl2 hb0 hb1 f12 z1 hzz hseq hYb hYl heg hT hfZ hfZ0 H0
    gi_wp2_with fail
    refine HK.out _ _ (Fr.refl _ _) fun Vb hfb hzb hsb hrb => ?_
    clear HK K
    obtain ⟨hpx, hI1, hI2, hI3, hG, hxl, hF, hlV, hl2⟩ := HV.out
    obtain ⟨f12, hb0, hb1, z1, hzz⟩ := H.out
    have hwl : w.heap.size < W2.heap.size := by omega
    have k0 := hfb.blk (hF.blk hb0 (by omega)) (by omega)
    have k1 := hfb.blk hI2 (fun e => hxl (e ▸ hI3))
    have hxm : x ∈ r.bans := by rw [← hpx]; simp
    have hm := HM.out x (HL.out.2.1 x hxm) Vb
    obtain ⟨b, hbx⟩ : ∃ b, mm x who = b := ⟨_, rfl⟩
    have hmm : mm (bs x).data.toList sw.data.toList = b := by rw [HL.out.2.2]; exact hbx
    rw [hmm] at hm
    have HMB := Lib.hid hm
    have c0 := blk_cell k0 0
    have hzs : Vb.heap.size = V.heap.size := hzb
    have HE := Lib.hid (And.intro hbx (And.intro hfb (And.intro hrb (And.intro hzs k1))))
    clear hpx hI1 hI2 hG hF hb0 hb1 f12 z1 hzz hfb hzb hsb hrb hzs k0 k1 hxm hm hbx hmm hwl hlV hxl hl2
    gi_wp2_with fail
    refine ⟨trivial, (calls_wide (.inr ⟨l, rfl⟩) HMB.out).mono ?_⟩
    rintro e W3 ⟨rfl, hb3⟩
    obtain ⟨hbx, hfb, hrb, hzs, k1⟩ := HE.out
    have f3 : Fr (fun _ => False) Vb W3 := Fr.of_below hb3
    have k13 := f3.blk k1 fun e => e
    have hr3 := (f3.block l (blk_lt hrb) fun e => e).trans hrb
    have g1 := blk_free k13 0
    have d1 := blk_cell k13 0
    have H3 := Lib.hid (And.intro f3 (And.intro k13 hr3))
    clear hbx hfb hrb hzs k1 f3 k13 hr3 hb3 c0
    cases b with
    | true =>
      gi_wp2_with fail
      obtain ⟨hbx, hfb, hrb, hzs, k1⟩ := HE.out
      obtain ⟨f3, k13, hr3⟩ := H3.out
      obtain ⟨_, _, _, _, hG, hxl, _, hlV, _⟩ := HV.out
      have hne : l ≠ w.heap.size + 1 := fun e => hxl (e ▸ hI3)
      have hzl := f3.size
      refine ⟨X1, fun k hk => ⟨by simp; have := (hG k hk).1; omega, fun _ => hk⟩, (((hfb.mono (Y := fun k => k = l ∨ X1 k) fun k _ e => .inl e).trans3 f3 fun _ _ e => e.elim).setCell _ (.inr hI3) _), blk_other hr3 _ (by simpa using hne) _, ⟨rfl, _, List.mem_append_right _ List.mem_cons_self, hbx⟩, blk_set k13 0 _, hI3⟩
    | false =>
      gi_wp2_with fail
      obtain ⟨hbx, hfb, hrb, hzs, k1⟩ := HE.out
      obtain ⟨f3, k13, hr3⟩ := H3.out
      obtain ⟨_, hI1, _, _, hG, hxl, _, hlV, _⟩ := HV.out
      have hzl := f3.size
      refine ⟨X1, fun k hk => ⟨by have := (hG k hk).1; omega, fun _ => hk⟩, (hfb.mono (Y := fun k => k = l ∨ X1 k) fun k _ e => .inl e).trans3 f3 fun _ _ e => e.elim, hr3, fun y hy => ?_, k13, hI3⟩
      rw [List.mem_append, List.mem_singleton] at hy
      rcases hy with hy | rfl
      · exact hI1 y hy
      · exact hbx
  case done =>
    rintro D X2 V hD hxD hG hF ⟨hI1, hI2, hI3⟩ hdef
    have g2 := blk_free hI2 0
    have d2 := blk_cell hI2 0
    have HE := Lib.hid (And.intro hI1 (And.intro hI2 (And.intro hF hdef)))
    clear hI1 hI2 hF hdef hG hb0 hb1 hseq hYb hYl heg hT hfZ hfZ0 H0
    gi_wp2_with fail
    obtain ⟨hI1, hI2, hF, hdef⟩ := HE.out
    obtain ⟨f12, hb0, hb1, z1, hzz⟩ := H.out
    have hno : banL r.bans who = false := by
      unfold banL
      exact List.any_eq_false.2 fun y hy => by rw [hI1 y hy]; simp
    have hne : D ≠ w.heap.size + 1 := by omega
    refine leaves_one D _ (blk_other hdef _ (by simpa using hne) _) fun w' hf => ⟨_, res_inR rfl _ _ (w.heap.size + 1) (.bool false) _ rfl ((blk_cell (hf.blk (blk_set hI2 0 _) fun e => hne e.symm) 0).trans rfl) rfl rfl, by rw [hno], ?_⟩
    refine Fr.below (X := fun k => w.heap.size ≤ k) ?_ (Nat.le_refl _) fun k hk e => by omega
    exact (((f12.mono (Y := fun k => w.heap.size ≤ k) fun _ _ e => e.elim).trans3 hF fun k _ e => by omega).setCell _ (by show w.heap.size ≤ w.heap.size + 1; omega) _).trans3 hf fun k _ e => by omega
  case stop =>
    rintro D c pre rr X2 V hD hpr hxD hG hF ⟨⟨rfl, y, hy, hyo⟩, hI2, hI3⟩ hdef
    have hne : D ≠ w.heap.size + 1 := by omega
    have hyes : banL r.bans who = true := by
      unfold banL
      exact List.any_eq_true.2 ⟨y, by rw [← hpr]; exact List.mem_append_left _ hy, hyo⟩
    refine wpIn_ret ?_
    refine leaves_one D _ hdef fun w' hf => ⟨_, res_inR rfl _ _ (w.heap.size + 1) (.bool true) _ rfl ((blk_cell (hf.blk hI2 fun e => hne e.symm) 0).trans rfl) rfl rfl, by rw [hyes], ?_⟩
    refine Fr.below (X := fun k => w.heap.size ≤ k) ?_ (Nat.le_refl _) fun k hk e => by omega
    exact ((f12.mono (Y := fun k => w.heap.size ≤ k) fun _ _ e => e.elim).trans3 hF fun k _ e => by omega).trans3 hf fun k _ e => by omega
end Go.Proofs.YtmgnhbihfgpccaaGreatDoor
end
section
/- Layer 19: MaySpeak. -/
namespace Go.Proofs.YtmgnhbihfgpccaaGreatDoor
set_option linter.unusedVariables false
set_option linter.unusedSimpArgs false
open Go Go.RowKit

def memL (r : Rm) (id : Int) : Mem := if hasM r.mem id then r.mem.getD (ixM r.mem id) default else (0, false, false)
def speakL (r : Rm) (id : Int) (who : List UInt8) : Bool :=
  if r.fl.has 110 && !hasM r.mem id then false
  else if r.fl.has 109 && !((memL r id).2.1 || (memL r id).2.2) then false
  else ((memL r id).2.1 || (memL r id).2.2) || !banL r.bans who
set_option maxRecDepth 100000 in
set_option maxHeartbeats 8000000 in
theorem maySpeak_any {base B : Nat} {q : RmV} {r : Rm} {w : World} (h : RoomAt base B q r w) (id : Int) (who : List UInt8) (hm : r.mem.length ≤ 100000) (hl : r.bans.length ≤ 100000) (hb : ∀ y ∈ r.bans, y.length ≤ 1000000) (hw : who.length ≤ 1000000) :
    Calls Tryz.prog 30 #[.pointer (some ⟨B, 0, none⟩), .int .i64 id, .string (bs who)] w fun e w' => e = .returned (.bool (speakL r id who)) ∧ RowKit.Below w.heap.size w w' := by
  have hM := member_any2 h id (by omega)
  have hF := fun (W : World) (hb : RowKit.Below w.heap.size w W) (c : UInt8) => flag_any (h.below hb).1 c
  have hB := fun (W : World) (hb2 : RowKit.Below w.heap.size w W) => banned_any (h.below hb2) who hl hb hw
  obtain ⟨m, hme⟩ : ∃ m, memL r id = m := ⟨_, rfl⟩
  obtain ⟨x, hx⟩ : ∃ x, hasM r.mem id = x := ⟨_, rfl⟩
  obtain ⟨fn, hfn⟩ : ∃ fn, r.fl.has 110 = fn := ⟨_, rfl⟩
  obtain ⟨fm, hfm⟩ : ∃ fm, r.fl.has 109 = fm := ⟨_, rfl⟩
  obtain ⟨bb, hbb⟩ : ∃ bb, banL r.bans who = bb := ⟨_, rfl⟩
  obtain ⟨sw, hsw⟩ : ∃ sw, bs who = sw := ⟨_, rfl⟩
  have hFn : ∀ W, RowKit.Below w.heap.size w W → Calls Tryz.prog 22 #[.pointer (some ⟨B, 0, none⟩), .int .u8 110] W fun e w' => e = .returned (.bool fn) ∧ ∃ n, w' = W.drewN n := fun W hW => by rw [← hfn]; exact hF W hW 110
  have hFm : ∀ W, RowKit.Below w.heap.size w W → Calls Tryz.prog 22 #[.pointer (some ⟨B, 0, none⟩), .int .u8 109] W fun e w' => e = .returned (.bool fm) ∧ ∃ n, w' = W.drewN n := fun W hW => by rw [← hfm]; exact hF W hW 109
  have hmm : (if hasM r.mem id then r.mem.getD (ixM r.mem id) default else (0, false, false)) = m := hme
  rw [hmm, hx] at hM
  simp only [hbb, hsw] at hB
  have hval : speakL r id who = (if fn && !x then false else if fm && !(m.2.1 || m.2.2) then false else (m.2.1 || m.2.2) || !bb) := by unfold speakL; rw [hme, hx, hfn, hfm, hbb]
  rw [hval, hsw]
  have HM := Lib.hid hM
  have HFn := Lib.hid hFn
  have HFm := Lib.hid hFm
  have HB := Lib.hid hB
  clear h hM hF hFn hFm hB hme hmm hx hfn hfm hbb hsw hval hm hl hb hw
  obtain ⟨mi, mo, mv⟩ := m
  unfold memV at HM
  go_enter Tryz.func30, Tryz.ntmps30
  go_wp2_with fail
  refine HM.out.mono ?_
  rintro e w1 ⟨rfl, b1⟩
  have b2 : RowKit.Below w.heap.size w (w1.alloc (.cells #[.int .i64 mi, .bool mo, .bool mv] 38)) := b1.alloc b1.size _
  have k2 := heap_alloc_new w1 (.cells #[.int .i64 mi, .bool mo, .bool mv] 38)
  have c1 := blk_cell k2 1; have c2 := blk_cell k2 2
  have H2 := Lib.hid b2
  clear b1 b2 k2
  cases mo <;> cases mv
  all_goals
    go_wp2_with fail
    refine (HFn.out _ H2.out).mono ?_
    rintro e w3 ⟨rfl, n3, hw3⟩
    have H3 := Lib.hid (by rw [hw3]; exact below_drewN H2.out n3 : RowKit.Below w.heap.size w w3)
    clear hw3
    cases fn
    case' true => cases x
    case' true.false =>
      (go_wp2_with fail; go_ret; exact ⟨by rfl, H3.out⟩)
    all_goals
      go_wp2_with fail
      refine (HFm.out _ H3.out).mono ?_
      rintro e w4 ⟨rfl, n4, hw4⟩
      have H4 := Lib.hid (by rw [hw4]; exact below_drewN H3.out n4 : RowKit.Below w.heap.size w w4)
      clear hw4
      cases fm
      all_goals
        go_wp2_with fail
        first
          | (go_ret; first | exact ⟨by cases x <;> simp, H4.out⟩ | exact ⟨by simp, H4.out⟩ | exact ⟨rfl, H4.out⟩)
          | (refine (HB.out _ H4.out).mono ?_
             rintro e w5 ⟨rfl, b5⟩
             have H5 := Lib.hid (H4.out.trans (b5.mono H4.out.size))
             clear b5
             go_wp2_with fail
             go_ret
             exact ⟨by first | (cases x <;> simp) | simp, H5.out⟩)
end Go.Proofs.YtmgnhbihfgpccaaGreatDoor
end
section
/- Layer 19: RoomNone. -/
namespace Go.Proofs.YtmgnhbihfgpccaaGreatDoor
set_option linter.unusedVariables false
set_option linter.unusedSimpArgs false
open Go Go.RowKit

theorem box7_below {w W : World} {N : Nat} {cs : Array Value} {T : TypeId} (h : w.heap[N]? = some (.cells cs T (0, 0))) (hb : RowKit.Below w.heap.size w W) : W.heap[N]? = some (.cells cs T (0, 0)) := (hb.block N (blk_lt h)).trans h
set_option maxRecDepth 100000 in
set_option maxHeartbeats 8000000 in
theorem roomNone_walk (a : Act19) (w : World) (hr : Rowed w) (hp : PowR w) (hs : a.s.length ≤ 9223372036854775807) (ha : a.arg.length ≤ 9223372036854775807) :
    Calls Tryz.prog 5 #[actV a] w fun e w' => e = .returned (.bool true) ∧ RowKit.Below w.heap.size w w' := by
  obtain ⟨N, hN⟩ : ∃ N, w.heap.size = N := ⟨_, rfl⟩
  obtain ⟨w0, hw0⟩ : ∃ w0, w.alloc (Obj.cells #[.int .i64 a.k, .int .i64 a.id, .bool a.op, .string (bs a.s), .bool a.on, .int .u8 a.l.toNat, .string (bs a.arg)] 33) = w0 := ⟨_, rfl⟩
  have b0 : RowKit.Below w.heap.size w w0 := by rw [← hw0]; exact (Below.refl _ _).alloc (Nat.le_refl _) _
  have k0 : w0.heap[N]? = some (.cells #[.int .i64 a.k, .int .i64 a.id, .bool a.op, .string (bs a.s), .bool a.on, .int .u8 a.l.toNat, .string (bs a.arg)] 33 (0, 0)) := by rw [← hw0, ← hN]; exact heap_alloc_new w _
  have hcs : ∀ W, RowKit.Below w0.heap.size w0 W → W.cell? ⟨N, 0, none⟩ = some (.int .i64 a.k) ∧ W.cell? ⟨N, 1, none⟩ = some (.int .i64 a.id) ∧ W.cell? ⟨N, 2, none⟩ = some (.bool a.op) ∧ W.cell? ⟨N, 3, none⟩ = some (.string (bs a.s)) ∧ W.cell? ⟨N, 4, none⟩ = some (.bool a.on) ∧ W.cell? ⟨N, 5, none⟩ = some (.int .u8 a.l.toNat) ∧ W.cell? ⟨N, 6, none⟩ = some (.string (bs a.arg)) := fun W hb => by
    have k := box7_below k0 hb
    exact ⟨blk_cell k 0, blk_cell k 1, blk_cell k 2, blk_cell k 3, blk_cell k 4, blk_cell k 5, blk_cell k 6⟩
  have hg : ∀ W, Calls Tryz.prog 8 #[.slice (some ⟨W.heap.size, 0, none⟩) 1 1] (W.alloc (Obj.cells #[.int .i64 a.k, .int .i64 a.id, .bool a.op, .string (bs a.s), .bool a.on, .int .u8 a.l.toNat, .string (bs a.arg)] 33)) fun e w' => e = .returned (.bool (grA [a])) ∧ RowKit.Below W.heap.size W w' := fun W => by
    have hra : ReadsA (W.alloc (Obj.cells #[.int .i64 a.k, .int .i64 a.id, .bool a.op, .string (bs a.s), .bool a.on, .int .u8 a.l.toNat, .string (bs a.arg)] 33)) (some ⟨W.heap.size, 0, none⟩) [a] := fun _ => ⟨_, 0, rfl, by simp, fun j hj i hi => by
      obtain rfl : j = 0 := by simpa using hj
      rw [show 0 + 0 * 7 + i = i by omega, blk_cell (heap_alloc_new W _) i]
      simp [encA]⟩
    exact (great19 _ 1 [a] _ hra (by simp)).mono fun e w' ⟨h1, h2⟩ => ⟨h1, by rw [h2]; exact (Below.refl _ _).alloc (Nat.le_refl _) _⟩
  obtain ⟨gr, hgr⟩ : ∃ gr, grA [a] = gr := ⟨_, rfl⟩
  rw [hgr] at hg
  have HCS := Lib.hid hcs
  have HG := Lib.hid hg
  have H0 := Lib.hid (And.intro hw0 b0)
  have HA := Lib.hid (awake19 w0 (hr.keep b0) (hp.below b0))
  clear hcs hg hw0 b0 k0 hr hp hgr
  have HN := Lib.hid hN
  clear hN
  unfold actV
  go_enter Tryz.func5, Tryz.ntmps5
  go_wp2_with fail
  rw [H0.out.1, HN.out]
  refine HA.out.mono ?_
  rintro e w1 ⟨rfl, b1⟩
  have B1 := Lib.hid b1
  obtain ⟨c0, c1, c2, c3, c4, c5, c6⟩ := HCS.out _ B1.out
  clear b1
  go_wp2_with fail
  refine (HG.out w1).mono ?_
  rintro e w2 ⟨rfl, b2⟩
  have B2 := Lib.hid (B1.out.trans (b2.mono B1.out.size))
  clear b2 c0 c1 c2 c3 c4 c5 c6
  obtain ⟨c0, c1, c2, c3, c4, c5, c6⟩ := HCS.out _ B2.out
  cases gr with
  | true =>
    clear c0 c1 c2 c3 c4 c5 c6
    go_wp2_with fail
    go_ret
    exact ⟨rfl, H0.out.2.trans (B2.out.mono H0.out.2.size)⟩
  | false =>
    go_wp2_with (first
      | (go_at_call 25; refine (add_nil _ _ _).mono ?_; rintro e w' ⟨⟨_, rfl⟩, rfl⟩)
      | (go_at_call 26; refine (setTopic_nil _ _).mono ?_; rintro e w' ⟨⟨_, rfl⟩, rfl⟩)
      | (go_at_call 27; refine (invite_nil _ _).mono ?_; rintro e w' ⟨⟨_, rfl⟩, rfl⟩))
    refine (member_nil _ _).mono ?_
    rintro e w3 ⟨rfl, b3⟩
    have B3 := Lib.hid (B2.out.trans (b3.mono B2.out.size))
    clear b3 c0 c1 c2 c3 c4 c5 c6
    obtain ⟨c0, c1, c2, c3, c4, c5, c6⟩ := HCS.out _ B3.out
    have hz3 := B3.out.size
    obtain ⟨w4, hw4⟩ : ∃ w4, w3.alloc (Obj.cells #[Value.int IntKind.i64 0, Value.bool false, Value.bool false] 38) = w4 := ⟨_, rfl⟩
    have b4 : RowKit.Below w3.heap.size w3 w4 := by rw [← hw4]; exact (Below.refl _ _).alloc (Nat.le_refl _) _
    have B4 := Lib.hid (B3.out.trans (b4.mono B3.out.size))
    clear b4 c0 c1 c2 c3 c4 c5 c6
    obtain ⟨c0, c1, c2, c3, c4, c5, c6⟩ := HCS.out _ B4.out
    rw [← hw4] at c1 c4 c5 c6
    have HW4 := Lib.hid hw4
    clear c0 c2 c3 hw4
    go_wp2_with fail
    rw [HW4.out]
    clear HW4 c1 c4 c5 c6
    refine (change_nil (.int .i64 0) a.id w4 a.on a.l a.arg).mono ?_
    rintro e w5 ⟨rfl, b5⟩
    have B5 := Lib.hid (B4.out.trans (b5.mono B4.out.size))
    clear b5
    obtain ⟨c0, c1, c2, c3, c4, c5, c6⟩ := HCS.out _ B5.out
    dsimp only [Told.val, noT, chgV]
    go_wp2_with fail
    clear c0 c1 c2 c3 c4 c5 c6
    obtain ⟨M, hM⟩ : ∃ M, w5.heap.size = M := ⟨_, rfl⟩
    obtain ⟨w6, hw6⟩ : ∃ w6, w5.alloc (Obj.cells #[Value.bool false, Value.int IntKind.u8 0, Value.string (bs [])] 31) = w6 := ⟨_, rfl⟩
    have b6 : RowKit.Below w5.heap.size w5 w6 := by rw [← hw6]; exact (Below.refl _ _).alloc (Nat.le_refl _) _
    have k6 : w6.heap[M]? = some (.cells #[.bool false, .int .u8 0, .string (bs [])] 31 (0, 0)) := by rw [← hw6, ← hM]; exact heap_alloc_new w5 _
    have B6 := Lib.hid (B5.out.trans (b6.mono B5.out.size))
    have K6 := Lib.hid k6
    rw [hw6, hM]
    clear hw6 b6 k6 hM
    refine (bans_law (w := w6) (p := none) (R := []) (fun W _ => bans_nil W) (by simp)).mono ?_
    rintro e w7 ⟨⟨A7, c7, rfl, o7⟩, b7⟩
    have B7 := Lib.hid (B6.out.trans (b7.mono B6.out.size))
    have k7 := box7_below K6.out b7
    have K7 := Lib.hid k7
    clear k7 b7 o7
    obtain ⟨c0, c1, c2, c3, c4, c5, c6⟩ := HCS.out _ B7.out
    have e0 := blk_cell K7.out 0
    have e1 := blk_cell K7.out 1
    have e2 := blk_cell K7.out 2
    have hx0 : ((bs []).toList == ([] : List UInt8)) = true := by decide +kernel
    have hx1 : (bs []).toList = ([] : List UInt8) := by decide +kernel
    go_wp2_with fail
    refine (drop_nil _ _).mono ?_
    rintro e w8 ⟨rfl, hw8⟩
    rw [hw8]
    clear hw8
    go_wp2_with fail
    refine (members_law (w := w7) (p := none) (R := []) (fun W _ => members_nil W) (fun W _ => rlen_nil W) (by simp) none 0 (fun h => by simp at h)).mono ?_
    rintro e w9 ⟨rfl, f9⟩
    have B9 := Lib.hid (B7.out.trans (f9.below B7.out.size fun _ _ e => e.elim))
    have k9 := f9.blk K7.out fun e => e
    have K9 := Lib.hid k9
    clear k9 f9 c0 c1 c2 c3 c4 c5 c6 e0 e1 e2
    obtain ⟨c0, c1, c2, c3, c4, c5, c6⟩ := HCS.out _ B9.out
    have e0 := blk_cell K9.out 0
    have e1 := blk_cell K9.out 1
    have e2 := blk_cell K9.out 2
    go_wp2_with fail
    refine (name_nil _).mono ?_
    rintro e w10 ⟨rfl, hw⟩
    rw [hw]
    clear hw
    go_wp2_with fail
    refine (topic_nil _).mono ?_
    rintro e w11 ⟨rfl, hw⟩
    rw [hw]
    clear hw
    go_wp2_with fail
    refine (flag_nil 110 _).mono ?_
    rintro e w12 ⟨rfl, n12, rfl⟩
    have B12 := Lib.hid (B9.out.trans (((Fr.refl (fun _ => False) w9).drewN n12).below B9.out.size fun _ _ e => e.elim))
    clear c0 c1 c2 c3 c4 c5 c6 e0 e1 e2
    obtain ⟨c0, c1, c2, c3, c4, c5, c6⟩ := HCS.out _ B12.out
    go_wp2_with fail
    refine (modes_nil true _).mono ?_
    rintro e w13 ⟨rfl, hw⟩
    rw [hw]
    clear hw
    go_wp2_with fail
    refine (mayJoin_nil _ _ _ _).mono ?_
    rintro e w14 ⟨rfl, hw⟩
    rw [hw]
    clear hw
    go_wp2_with fail
    refine (maySpeak_nil _ _ _).mono ?_
    rintro e w15 ⟨rfl, hw⟩
    rw [hw]
    clear hw
    go_wp2_with fail
    go_ret
    exact ⟨rfl, H0.out.2.trans (B12.out.mono H0.out.2.size)⟩
end Go.Proofs.YtmgnhbihfgpccaaGreatDoor
end
section
/- Layer 19: what is laid, read. -/
namespace Go.Proofs.YtmgnhbihfgpccaaGreatDoor
set_option linter.unusedVariables false
set_option linter.unusedSimpArgs false
open Go Go.ChangeShapes Go.WideShapes Go.ChangeAt Go.RowKit

theorem rowed_of19 {W : World} (h : laidMetH Tryz.prog [("math/bits.deBruijn32tab", Rows.laid_math_bits_deBruijn32tab), ("math/bits.deBruijn64tab", Rows.laid_math_bits_deBruijn64tab), ("internal/strconv.uint64pow10", Rows.laid_internal_strconv_uint64pow10), ("unicode/utf8.acceptRanges", Rows.laid_unicode_utf8_acceptRanges), ("strconv.ErrRange", Rows.laid_strconv_ErrRange), ("strconv.ErrSyntax", Rows.laid_strconv_ErrSyntax), ("rollcall/valid.bytesOf", Rows.laid_rollcall_valid_bytesOf), ("unicode/utf8.first", Rows.laid_unicode_utf8_first)] W) : Rowed W := by
  rw [MakeChecks.laidMetH_plain _ _ _ (by kernel_rfl)] at h
  obtain ⟨ps, ⟨_, _, _, _, _, _, _, _, _, _, ⟨_, _, _, _, _, _, _, _, _, _, ⟨_, _, _, _, _, _, _, _, _, _, ⟨_, _, _, _, _, _, _, _, _, _, ⟨_, _, _, _, _, _, _, _, _, _, ⟨_, _, _, _, _, _, _, _, _, _, ⟨g, t, cs, fuel, p, q, hg, ht, hv, hd, _, _⟩, _⟩, _⟩, _⟩, _⟩, _⟩, _⟩, _⟩ := h
  obtain rfl := Option.some.inj ((show Tryz.prog.globalNamed "rollcall/valid.bytesOf" = some 1 by kernel_rfl).symm.trans hg)
  obtain rfl := Option.some.inj ((show (Tryz.prog.globals[1]?).map (·.type) = some 168 by kernel_rfl).symm.trans ht)
  obtain ⟨xs, m, _, ex, _, hl, hel⟩ := DataW.trod_array Tryz.underlying168 hd
  intro i hi
  have c5 : Tryz.prog.cellsOf 9 = 1 := by kernel_rfl
  have e3 : (xs.map (·.1)) = (List.range 11).map fun k => .lit (.string (laidRow k)) := (DataW.agg.inj (Prod.mk.inj ex).1).symm
  have hlen : xs.length = 11 := by have := congrArg List.length e3; simpa using this
  have hE := hel i (by omega)
  rw [c5, Nat.mul_one, List.getElem?_eq_getElem (by omega)] at hE
  obtain ⟨s, e1, e2, _⟩ := DataW.trod_string Tryz.underlying9 hE
  have e4 : (xs.map (·.1))[i]? = ((List.range 11).map fun k => (DataW.lit (.string (laidRow k)) : DataW Unit))[i]? := by rw [e3]
  rw [List.getElem?_map, List.getElem?_map, List.getElem?_eq_getElem (by omega : i < xs.length), List.getElem?_eq_getElem (by simpa using hi : i < (List.range 11).length), e2] at e4
  have hz : s.data.toList = laidRow i := by
    simp only [Option.map_some, Option.some.injEq, DataW.lit.injEq, Lit.string.injEq, List.getElem_range] at e4
    exact e4
  refine ⟨s, ?_, hz⟩
  rw [World.var?_cell hg hv i]
  have : cs.toList[i]? = some (.string s) := by
    have h0 : ((cs.toList.drop i).take 1)[0]? = some (.string s) := by rw [e1]; rfl
    simpa using h0
  simpa using this
theorem pow_of19 {W : World} (h : laidMetH Tryz.prog [("math/bits.deBruijn32tab", Rows.laid_math_bits_deBruijn32tab), ("math/bits.deBruijn64tab", Rows.laid_math_bits_deBruijn64tab), ("internal/strconv.uint64pow10", Rows.laid_internal_strconv_uint64pow10), ("unicode/utf8.acceptRanges", Rows.laid_unicode_utf8_acceptRanges), ("strconv.ErrRange", Rows.laid_strconv_ErrRange), ("strconv.ErrSyntax", Rows.laid_strconv_ErrSyntax), ("rollcall/valid.bytesOf", Rows.laid_rollcall_valid_bytesOf), ("unicode/utf8.first", Rows.laid_unicode_utf8_first)] W) : PowR W := by
  rw [MakeChecks.laidMetH_plain _ _ _ (by kernel_rfl)] at h
  obtain ⟨ps, ⟨_, _, _, _, _, _, _, _, _, _, ⟨_, _, _, _, _, _, _, _, _, _, ⟨g, t, cs, fuel, p, q, hg, ht, hv, hd, _, _⟩, _⟩, _⟩, _⟩ := h
  obtain rfl := Option.some.inj (powGR.symm.trans hg)
  obtain rfl := Option.some.inj ((show (Tryz.prog.globals[0]?).map (·.type) = some 166 by kernel_rfl).symm.trans ht)
  unfold PowR Lib.TabIs
  rw [hv, ← Lib.cells_of_tab (zs := Lib.pow10Tab) (k := .u64) Tryz.underlying166 Tryz.underlying140 (by kernel_rfl) (by kernel_rfl) hd]
/-- what the laws of this layer ask of the world -/
def Laid19 (W : World) : Prop := Rowed W ∧ PowR W
end Go.Proofs.YtmgnhbihfgpccaaGreatDoor
end
section
/- Layer 19: what the laws have in common; RoomRanks. -/
namespace Go.Proofs.YtmgnhbihfgpccaaGreatDoor
set_option linter.unusedVariables false
set_option linter.unusedSimpArgs false
open Go Go.RowKit

theorem readsA_of {w : World} {A : Option Addr} {l : List Act19} (h : 0 < l.length → ∃ g o, A = some ⟨g, o, none⟩ ∧ g < w.heap.size ∧ ∀ i (h : i < l.length) j u, (encA l[i])[j]? = some u → w.cell? ⟨g, o + i * 7 + j, none⟩ = some u) : ReadsA w A l := fun h0 => by
  obtain ⟨g, o, h1, h2, h3⟩ := h h0
  refine ⟨g, o, h1, h2, fun j hj i hi => ?_⟩
  have hl : i < (encA l[j]).length := hi
  rw [List.getElem?_eq_getElem hl]
  exact h3 j hj i _ (List.getElem?_eq_getElem hl)
theorem two_new {w w1 w2 : World} {B B2 : Nat} {q : RmV} {qx : RxV} {r : Rm} {x : Rx} (h1 : RoomAt w.heap.size B q r w1) (hb1 : RowKit.Below w.heap.size w w1) (h2 : RxAt w1.heap.size B2 qx x w2) (hb2 : RowKit.Below w1.heap.size w1 w2) : Two19 w.heap.size B q r B2 qx x w2 := by
  refine ⟨h1.below hb2, ?_, fun k hk e => by have := (h1.lt k hk).2; have := (h2.lt k e).1; omega⟩
  obtain ⟨g1, g2, g3, g4, g5⟩ := h2
  have hz := hb1.size
  exact ⟨g1, ownM_base g2 hz, ownT_base g3 hz, ownI_base g4 hz, by omega⟩
/-- behind k acts -/
def St19 (base B B2 k : Nat) (w2 wr : World) : Prop := ∃ q r qx x, Two19 base B q r B2 qx x wr ∧ Rel19 k r x ∧ RowKit.Below base w2 wr
theorem St19.next {base B B2 k : Nat} {w2 wr w' : World} {q : RmV} {r r' : Rm} {qx : RxV} {x x' : Rx} (h : Two19 base B q r B2 qx x wr) (hb : RowKit.Below base w2 wr) (hbs : base ≤ w2.heap.size) (hs : StepW base B q B2 qx r' x' wr w') (hr : Rel19 k r' x') : St19 base B B2 k w2 w' := by
  obtain ⟨q', qx', a, b, c⟩ := hs
  exact ⟨q', r', qx', x', a, hr, hb.trans (b.below (B := base) (Nat.le_trans hbs hb.size) fun k hk e => by have := (h.lt k e).1; omega)⟩
set_option maxRecDepth 100000 in
set_option maxHeartbeats 16000000 in
theorem roomRanks_main (A : Option Addr) (l : List Act19) (cc : Nat) (id : Int) (who : List UInt8) (w : World) (hg : grA l = false) (hw : who.length ≤ 100) (hA : ReadsA w A l) (hr : Rowed w) (hp : PowR w) :
    Calls Tryz.prog 6 #[.slice A l.length cc, .int .i64 id, .string (bs who)] w fun e w' => e = .returned (.bool true) ∧ RowKit.Below w.heap.size w w' := by
  obtain ⟨hl40, hac⟩ := grA_mem hg
  have HA := Lib.hid hA
  have HG := Lib.hid hg
  have HAC := Lib.hid hac
  have HAW := Lib.hid (awake19 w hr hp)
  have HR := Lib.hid hr
  obtain ⟨sw, hsw⟩ : ∃ sw, bs who = sw := ⟨_, rfl⟩
  have hsz : ¬ (100 : Int) < sw.size := by rw [← hsw, bs_size]; omega
  have HSW := Lib.hid (And.intro hsw hw)
  rw [hsw]
  clear hA hg hac hr hp hsw hw
  go_enter Tryz.func6, Tryz.ntmps6
  go_wp2_with fail
  refine HAW.out.mono ?_
  rintro e w1 ⟨rfl, b1⟩
  have B1 := Lib.hid b1
  clear b1
  go_wp2_with fail
  refine (great19 A cc l w1 (HA.out.below B1.out) (by omega)).mono ?_
  rintro e w2 ⟨rfl, hw2⟩
  rw [hw2, HG.out]
  clear hw2
  have HN := Lib.hid (newR_any [35, 97] 9 w1)
  go_wp2_with fail
  refine HN.out.mono ?_
  rintro e w3 ⟨B, q3, rfl, h3, b3⟩
  have HN2 := Lib.hid (refNew_any [35, 97] 9 w3)
  have H3 := Lib.hid (And.intro h3 b3)
  clear h3 b3
  go_wp2_with fail
  refine HN2.out.mono ?_
  rintro e w4 ⟨B2, q4, rfl, h4, b4⟩
  have hst0 : St19 w1.heap.size B B2 0 w1 w4 := ⟨q3, _, q4, _, two_new H3.out.1 H3.out.2 h4 b4, rel_new [35, 97] 9, H3.out.2.trans (b4.mono H3.out.2.size)⟩
  have HS0 := Lib.hid hst0
  have HRW : Hid (∀ W, RowKit.Below w1.heap.size w1 W → Rowed W) := fun W hW => (HR.out.keep B1.out).keep hW
  clear h4 b4 hst0 H3 HN HN2 HAW
  go_wp2_with fail
  go_loopw [9] (fun s wr => ∃ k : Nat, k ≤ l.length ∧ s = .int .i64 k ∧ Hid (St19 w1.heap.size B B2 k w1 wr)) (fun s _ => l.length - (Go.RowKit.intOf s).toNat)
  case atStart => exact ⟨0, Nat.zero_le _, rfl, HS0⟩
  case round =>
    obtain ⟨k, hk, rfl, HS⟩ := hrel
    by_cases hlt : k < l.length
    · obtain ⟨q, r, qx, x, h2, hrel, hb⟩ := HS.out
      have hb0 : RowKit.Below w.heap.size w wr := B1.out.trans (hb.mono B1.out.size)
      obtain ⟨g, o, rfl, hgl, hc⟩ := HA.out (by omega)
      have hbl := hb0.block g hgl
      have e0 := fun i (hi : i < 7) => (World.cell?_of_block (w := w) (w' := wr) (a := ⟨g, o + k * 7 + i, none⟩) hbl).trans (hc k hlt i hi)
      obtain ⟨a, ha⟩ : ∃ a, l[k] = a := ⟨_, rfl⟩
      rw [ha] at e0
      have hab := HAC.out a (ha ▸ List.getElem_mem hlt)
      have HACT := Lib.hid (act_any h2 hrel (by omega) a hab.1 hab.2 fun W hW => HRW.out W (hb.trans hW))
      have HREL := Lib.hid (And.intro h2 (And.intro (rel_act hrel a hab.2) hb))
      have c0 : wr.cell? ⟨g, o + k * 7, none⟩ = some (.int .i64 a.k) := e0 0 (by decide)
      have c1 : wr.cell? ⟨g, o + k * 7 + 1, none⟩ = some (.int .i64 a.id) := e0 1 (by decide)
      have c2 : wr.cell? ⟨g, o + k * 7 + 2, none⟩ = some (.bool a.op) := e0 2 (by decide)
      have c3 : wr.cell? ⟨g, o + k * 7 + 3, none⟩ = some (.string (bs a.s)) := e0 3 (by decide)
      have c4 : wr.cell? ⟨g, o + k * 7 + 4, none⟩ = some (.bool a.on) := e0 4 (by decide)
      have c5 : wr.cell? ⟨g, o + k * 7 + 5, none⟩ = some (.int .u8 a.l.toNat) := e0 5 (by decide)
      have c6 : wr.cell? ⟨g, o + k * 7 + 6, none⟩ = some (.string (bs a.arg)) := e0 6 (by decide)
      clear h2 hrel hb hb0 hgl hc hbl e0 ha hab
      unfold actV at HACT
      go_wp2_with fail
      refine HACT.out.mono ?_
      rintro e w5 ⟨rfl, hs5⟩
      have HS5 : Hid (St19 w1.heap.size B B2 (k + 1) w1 w5) := St19.next HREL.out.1 HREL.out.2.2 (Nat.le_refl _) hs5 HREL.out.2.1
      clear hs5 c0 c1 c2 c3 c4 c5 c6
      go_wp2_with fail
      exact ⟨⟨k + 1, by omega, by push_cast; rfl, HS5⟩, by simp only [Go.RowKit.intOf]; omega⟩
    · obtain rfl : k = l.length := by omega
      obtain ⟨q, r, qx, x, h2, hrel, hb⟩ := HS.out
      have hb0 : RowKit.Below w.heap.size w wr := B1.out.trans (hb.mono B1.out.size)
      have HM := Lib.hid (member_any2 h2.p id (by have := hrel.s1; omega))
      have h1000 : ∀ y ∈ r.bans, y.length ≤ 1000000 := fun y hy => by have := hrel.s8 y hy; omega
      have HSP := Lib.hid (fun (W : World) (hW : RowKit.Below wr.heap.size wr W) => maySpeak_any (h2.p.below hW) id who (by have := hrel.s1; omega) (by have := hrel.s2; omega) h1000 (by have := HSW.out.2; omega))
      have HBN := Lib.hid (fun (W : World) (hW : RowKit.Below wr.heap.size wr W) => bans_law (w := W) (p := some ⟨B, 0, none⟩) (R := r.bans) (fun V hV => bans_any ((h2.p.below hW).fr hV fun _ _ e => e) (by have := hrel.s2; omega)) (by have := hrel.s2; omega))
      have HFL := Lib.hid (fun (W : World) (hW : RowKit.Below wr.heap.size wr W) (c : UInt8) => flag_any (h2.p.below hW).1 c)
      have HMM := Lib.hid (fun (y : List UInt8) (hy : y ∈ r.bans) W => rmatch_any (bs y) (bs who) W (by rw [bs_size]; exact h1000 y hy) (by rw [bs_size]; have := HSW.out.2; omega))
      have HB0 := Lib.hid hb0
      have hR2 := hrel.s2
      clear h2 hrel hb hb0 h1000 HS HS0 HRW HA HAC HG
      obtain ⟨m, hme⟩ : ∃ m, memL r id = m := ⟨_, rfl⟩
      have hmm : (if hasM r.mem id then r.mem.getD (ixM r.mem id) default else (0, false, false)) = m := hme
      have hM := HM.out
      rw [hmm] at hM
      obtain ⟨x, hx⟩ : ∃ x, hasM r.mem id = x := ⟨_, rfl⟩
      rw [hx] at hM
      have HM2 := Lib.hid hM
      have HME := Lib.hid (And.intro hme hx)
      clear hM HM hmm hme hx
      obtain ⟨mi, mo, mv⟩ := m
      unfold memV at HM2
      go_wp2_with fail
      refine HM2.out.mono ?_
      rintro e w5 ⟨rfl, b5⟩
      have b6 : RowKit.Below wr.heap.size wr (w5.alloc (.cells #[.int .i64 mi, .bool mo, .bool mv] 38)) := b5.alloc b5.size _
      have k6 := heap_alloc_new w5 (.cells #[.int .i64 mi, .bool mo, .bool mv] 38)
      have c1 := blk_cell k6 1; have c2 := blk_cell k6 2
      have hsp := HSP.out _ b6
      rw [HSW.out.1] at hsp
      obtain ⟨sp, hspe⟩ : ∃ sp, speakL r id who = sp := ⟨_, rfl⟩
      rw [hspe] at hsp
      have HSPE := Lib.hid hspe
      have HSP2 := Lib.hid hsp
      have H6 := Lib.hid (And.intro b6 k6)
      clear b5 b6 k6 hsp hspe HSP
      go_wp2_with fail
      clear c1 c2
      refine HSP2.out.mono ?_
      rintro e w7 ⟨rfl, b7⟩
      have H7 := Lib.hid (H6.out.1.trans (b7.mono H6.out.1.size))
      have k7 := (Fr.of_below (X := fun _ => False) b7).blk H6.out.2 fun e => e
      have c1 := blk_cell k7 1; have c2 := blk_cell k7 2
      clear b7 k7
      by_cases hmk : (mo || mv) = true
      · have hyes : sp = true := by
          rw [← HSPE.out]
          unfold speakL
          have hxx : hasM r.mem id = true := by
            cases hh : hasM r.mem id with
            | true => rfl
            | false =>
              have h1 := HME.out.1
              unfold memL at h1
              rw [hh, if_neg (by simp)] at h1
              injection h1 with _ h1; injection h1 with h1 h2
              rw [← h1, ← h2] at hmk; cases hmk
          rw [HME.out.1, hxx, hmk]; simp
        subst hyes
        have HK := Lib.hid hmk
        cases mo <;> cases mv
        · cases hmk
        all_goals
          clear hmk
          go_wp2_with fail
          go_ret
          exact ⟨rfl, HB0.out.trans (H7.out.mono HB0.out.size)⟩
      · obtain ⟨rfl, rfl⟩ : mo = false ∧ mv = false := by cases mo <;> cases mv <;> simp_all
        clear hmk
        have hbn := HBN.out w7 H7.out
        have HBN2 := Lib.hid hbn
        clear hbn HBN
        go_wp2_with fail
        refine HBN2.out.mono ?_
        rintro e w8 ⟨⟨A8, c8, rfl, o8⟩, b8⟩
        have H8 := Lib.hid (H7.out.trans (b8.mono H7.out.size))
        have HRD := Lib.hid (reads_ownT o8)
        clear b8 o8 c1 c2
        obtain ⟨n, hn⟩ : ∃ n, r.bans.length = n := ⟨_, rfl⟩
        have HNN := Lib.hid hn
        have hn6 : n ≤ 1000000 := by omega
        rw [hn]
        clear hn
        go_wp2_with fail
        go_loopw [15, 16] (fun u s vr => ∃ j : Nat, j ≤ n ∧ s = .int .i64 j ∧ u = .bool ((r.bans.take j).any fun y => mm y who) ∧ Hid (RowKit.Below w8.heap.size w8 vr)) (fun _ s _ => n - (Go.RowKit.intOf s).toNat)
        case atStart => exact ⟨0, Nat.zero_le _, rfl, rfl, Lib.hid (Below.refl _ _)⟩
        case round =>
          obtain ⟨j, hj, rfl, rfl, HB⟩ := hrel
          by_cases hlt2 : j < n
          · have hj2 : j < r.bans.length := by have := HNN.out; omega
            obtain ⟨g, o, rfl, hg, hcl⟩ := HRD.out (by omega)
            have e0 := (HB.out.cell (p := ⟨g, o + j, none⟩) hg).trans (hcl j hj2)
            have hm := HMM.out r.bans[j] (List.getElem_mem hj2) wr
            rw [HSW.out.1] at hm
            have hmm2 : mm (bs r.bans[j]).data.toList (bs who).data.toList = mm r.bans[j] who := rfl
            rw [HSW.out.1] at hmm2
            rw [hmm2] at hm
            obtain ⟨y, hy⟩ : ∃ y, bs r.bans[j] = y := ⟨_, rfl⟩
            rw [hy] at e0 hm
            have htk : ((r.bans.take (j + 1)).any fun y => mm y who) = (((r.bans.take j).any fun y => mm y who) || mm r.bans[j] who) := by
              rw [List.take_succ_eq_append_getElem hj2, List.any_append]; simp
            obtain ⟨b1, hb1⟩ : ∃ b1, mm r.bans[j] who = b1 := ⟨_, rfl⟩
            obtain ⟨b2, hb2⟩ : ∃ b2, ((r.bans.take j).any fun y => mm y who) = b2 := ⟨_, rfl⟩
            rw [hb1] at hm htk
            rw [hb2] at htk ⊢
            have HTK := Lib.hid htk
            have HM3 := Lib.hid hm
            clear hg hcl hm hmm2 hy htk hb1 hb2
            cases b2 with
            | true =>
              go_wp2_with fail
              exact ⟨⟨j + 1, by omega, by push_cast; rfl, by rw [HTK.out]; rfl, HB⟩, by simp only [Go.RowKit.intOf]; omega⟩
            | false =>
              go_wp2_with fail
              refine HM3.out.mono ?_
              rintro e w9 ⟨rfl, b9⟩
              have HB9 := Lib.hid (HB.out.trans (b9.mono HB.out.size))
              clear b9
              go_wp2_with fail
              exact ⟨⟨j + 1, by omega, by push_cast; rfl, by rw [HTK.out]; simp, HB9⟩, by simp only [Go.RowKit.intOf]; omega⟩
          · obtain rfl : j = n := by omega
            have hall : ((r.bans.take j).any fun y => mm y who) = banL r.bans who := by rw [List.take_of_length_le (by rw [HNN.out]; exact Nat.le_refl _)]; rfl
            rw [hall]
            obtain ⟨bb, hbb⟩ : ∃ bb, banL r.bans who = bb := ⟨_, rfl⟩
            rw [hbb]
            obtain ⟨fn, hfn⟩ : ∃ fn, r.fl.has 110 = fn := ⟨_, rfl⟩
            obtain ⟨fm, hfm⟩ : ∃ fm, r.fl.has 109 = fm := ⟨_, rfl⟩
            have hval : sp = (if fn && !x then false else if fm then false else !bb) := by
              rw [← HSPE.out]; unfold speakL
              rw [HME.out.1, HME.out.2, hfn, hfm, hbb]; simp
            have hFn := fun V hV => HFL.out V hV 110
            have hFm := fun V hV => HFL.out V hV 109
            rw [hfn] at hFn
            rw [hfm] at hFm
            have HFn := Lib.hid hFn
            have HFm := Lib.hid hFm
            have H9 := Lib.hid (H8.out.trans (HB.out.mono H8.out.size))
            have HVAL := Lib.hid hval
            clear hFn hFm hall hbb hfn hfm HFL HSP2 HSPE HMM hval
            cases bb
            all_goals
              cases x with
              | true =>
                go_wp2_with fail
                refine (HFm.out _ H9.out).mono ?_
                rintro e w10 ⟨rfl, n10, hw10⟩
                have H10 := Lib.hid (by rw [hw10]; exact below_drewN H9.out n10 : RowKit.Below _ _ w10)
                clear hw10
                cases fm with
                | true =>
                  have hv := HVAL.out
                  simp at hv
                  subst hv
                  go_wp2_with fail
                  go_ret
                  exact ⟨by first | rfl | simp, HB0.out.trans (H10.out.mono HB0.out.size)⟩
                | false =>
                  have hv := HVAL.out
                  simp at hv
                  subst hv
                  go_wp2_with fail
                  go_ret
                  exact ⟨by first | rfl | simp, HB0.out.trans (H10.out.mono HB0.out.size)⟩
              | false =>
                go_wp2_with fail
                refine (HFn.out _ H9.out).mono ?_
                rintro e w10 ⟨rfl, n10, hw10⟩
                have H10 := Lib.hid (by rw [hw10]; exact below_drewN H9.out n10 : RowKit.Below _ _ w10)
                clear hw10
                cases fn with
                | true =>
                  have hv := HVAL.out
                  simp at hv
                  subst hv
                  go_wp2_with fail
                  go_ret
                  exact ⟨by first | rfl | simp, HB0.out.trans (H10.out.mono HB0.out.size)⟩
                | false =>
                  go_wp2_with fail
                  refine (HFm.out _ H10.out).mono ?_
                  rintro e w11 ⟨rfl, n11, hw11⟩
                  have H11 := Lib.hid (by rw [hw11]; exact below_drewN H10.out n11 : RowKit.Below _ _ w11)
                  clear hw11
                  cases fm with
                  | true =>
                    have hv := HVAL.out
                    simp at hv
                    subst hv
                    go_wp2_with fail
                    go_ret
                    exact ⟨by first | rfl | simp, HB0.out.trans (H11.out.mono HB0.out.size)⟩
                  | false =>
                    have hv := HVAL.out
                    simp at hv
                    subst hv
                    go_wp2_with fail
                    go_ret
                    exact ⟨by first | rfl | simp, HB0.out.trans (H11.out.mono HB0.out.size)⟩
end Go.Proofs.YtmgnhbihfgpccaaGreatDoor
end
section
/- Layer 19: RoomRanks, whatever is given. -/
namespace Go.Proofs.YtmgnhbihfgpccaaGreatDoor
set_option linter.unusedVariables false
set_option linter.unusedSimpArgs false
open Go Go.RowKit

set_option maxRecDepth 100000 in
set_option maxHeartbeats 8000000 in
theorem roomRanks_walk (A : Option Addr) (l : List Act19) (cc : Nat) (id : Int) (who : List UInt8) (w : World) (hA : ReadsA w A l) (hl : l.length ≤ 9223372036854775807) (hwl : who.length ≤ 9223372036854775807) (hr : Rowed w) (hp : PowR w) :
    Calls Tryz.prog 6 #[.slice A l.length cc, .int .i64 id, .string (bs who)] w fun e w' => e = .returned (.bool true) ∧ RowKit.Below w.heap.size w w' := by
  cases hg : grA l with
  | true =>
    have HA := Lib.hid hA
    have HG := Lib.hid hg
    have HAW := Lib.hid (awake19 w hr hp)
    clear hA hg hr hp
    go_enter Tryz.func6, Tryz.ntmps6
    go_wp2_with fail
    refine HAW.out.mono ?_
    rintro e w1 ⟨rfl, b1⟩
    have B1 := Lib.hid b1
    clear b1
    go_wp2_with fail
    refine (great19 A cc l w1 (HA.out.below B1.out) hl).mono ?_
    rintro e w2 ⟨rfl, hw2⟩
    rw [hw2, HG.out]
    clear hw2
    go_wp2_with fail
    go_ret
    exact ⟨rfl, B1.out⟩
  | false =>
    by_cases hw : who.length ≤ 100
    · exact roomRanks_main A l cc id who w hg hw hA hr hp
    · have HA := Lib.hid hA
      have HG := Lib.hid hg
      have HAW := Lib.hid (awake19 w hr hp)
      obtain ⟨sw, hsw⟩ : ∃ sw, bs who = sw := ⟨_, rfl⟩
      have hsz : (100 : Int) < sw.size := by rw [← hsw, bs_size]; omega
      rw [hsw]
      clear hA hg hr hp hsw hw
      go_enter Tryz.func6, Tryz.ntmps6
      go_wp2_with fail
      refine HAW.out.mono ?_
      rintro e w1 ⟨rfl, b1⟩
      have B1 := Lib.hid b1
      clear b1
      go_wp2_with fail
      refine (great19 A cc l w1 (HA.out.below B1.out) hl).mono ?_
      rintro e w2 ⟨rfl, hw2⟩
      rw [hw2, HG.out]
      clear hw2
      go_wp2_with fail
      go_ret
      exact ⟨rfl, B1.out⟩
end Go.Proofs.YtmgnhbihfgpccaaGreatDoor
end
section
/- Layer 19: mathematics: a change, undone by its opposite. -/
namespace Go.Proofs.YtmgnhbihfgpccaaGreatDoor
set_option linter.unusedVariables false
set_option linter.unusedSimpArgs false
open Go Go.RowKit

theorem flip_flip (f : Fl) (c : UInt8) : (f.flip c).flip c = f := by
  rcases letter_cases c with rfl | rfl | rfl | rfl | rfl | h
  all_goals first | (rw [flip_other h, flip_other h]) | (obtain ⟨a, b, d, e, g⟩ := f; simp [Fl.flip])
theorem flags_ne {c : UInt8} (h : c = 105 ∨ c = 109 ∨ c = 110 ∨ c = 115 ∨ c = 116) : c ≠ 0 ∧ c ≠ 107 ∧ c ≠ 108 ∧ c ≠ 98 := by rcases h with rfl | rfl | rfl | rfl | rfl <;> decide
/-- what was not made leaves the room as it was; what was made is told with its letter -/
theorem chg_told (r : Rm) (on : Bool) (c : UInt8) (arg : List UInt8) (id : Int) : ((chgAll r on c arg id).1 = noT (chgAll r on c arg id).1.code ∧ (chgAll r on c arg id).2 = r) ∨ ((chgAll r on c arg id).1.code = 0 ∧ (chgAll r on c arg id).1.c = c ∧ (chgAll r on c arg id).1.on = on ∧ c ≠ 0) := by
  unfold chgAll
  by_cases h1 : c = 105 ∨ c = 109 ∨ c = 110 ∨ c = 115 ∨ c = 116
  · rw [if_pos h1]
    unfold chgFl
    split
    · exact .inl ⟨rfl, rfl⟩
    · exact .inr ⟨rfl, rfl, rfl, (flags_ne h1).1⟩
  · rw [if_neg h1]
    by_cases h2 : c = 111 ∨ c = 118
    · rw [if_pos h2]
      have h0 : c ≠ 0 := by rcases h2 with rfl | rfl <;> decide
      unfold chgMark
      split
      · split
        · exact .inl ⟨rfl, rfl⟩
        · exact .inr ⟨rfl, rfl, rfl, h0⟩
      · exact .inl ⟨rfl, rfl⟩
    · rw [if_neg h2]
      by_cases h3 : c = 107
      · rw [if_pos h3]
        have h0 : c ≠ 0 := by subst h3; decide
        unfold chgKey
        split
        · next ho =>
          split
          · exact .inl ⟨rfl, rfl⟩
          · split
            · exact .inr ⟨rfl, rfl, ho.symm, h0⟩
            · exact .inl ⟨rfl, rfl⟩
        · next ho =>
          split
          · exact .inl ⟨rfl, rfl⟩
          · exact .inr ⟨rfl, rfl, by cases on; rfl; exact absurd rfl ho, h0⟩
      · rw [if_neg h3]
        by_cases h4 : c = 108
        · rw [if_pos h4]
          have h0 : c ≠ 0 := by subst h4; decide
          unfold chgLim
          split
          · next ho =>
            split
            · exact .inl ⟨rfl, rfl⟩
            · exact .inr ⟨rfl, rfl, ho.symm, h0⟩
          · next ho =>
            split
            · exact .inl ⟨rfl, rfl⟩
            · exact .inr ⟨rfl, rfl, by cases on; rfl; exact absurd rfl ho, h0⟩
        · rw [if_neg h4]
          by_cases h5 : c = 98
          · rw [if_pos h5]
            have h0 : c ≠ 0 := by subst h5; decide
            unfold chgBan
            split
            · exact .inl ⟨rfl, rfl⟩
            · split
              · exact .inl ⟨rfl, rfl⟩
              · split
                · next ho => exact .inr ⟨rfl, rfl, ho.symm, h0⟩
                · next ho =>
                  split
                  · exact .inl ⟨rfl, rfl⟩
                  · exact .inr ⟨rfl, rfl, by cases on; exact absurd rfl ho; rfl, h0⟩
          · rw [if_neg h5]; exact .inl ⟨rfl, rfl⟩
theorem comp_mem {s : ByteArray} {c : UInt8} (h : c ∈ compS s) : c ∈ s.data.toList ∨ c = 33 ∨ c = 64 ∨ c = 42 := by
  have hst : ∀ {l : List UInt8}, c ∈ starL l → c ∈ l ∨ c = 42 := fun {l} h => by
    unfold starL at h
    split at h
    · right; simpa using h
    · exact .inl h
  have hj : ∀ {n u h : List UInt8}, (∀ x ∈ n, x ∈ s.data.toList) → (∀ x ∈ u, x ∈ s.data.toList) → (∀ x ∈ h, x ∈ s.data.toList) → c ∈ joinL n u h → c ∈ s.data.toList ∨ c = 33 ∨ c = 64 ∨ c = 42 := fun {n u h} h1 h2 h3 hc => by
    unfold joinL at hc
    simp only [List.mem_append, List.mem_singleton] at hc
    rcases hc with (((hc | hc) | hc) | hc) | hc
    · rcases hst hc with e | e
      · exact .inl (h1 _ e)
      · exact .inr (.inr (.inr e))
    · exact .inr (.inl hc)
    · rcases hst hc with e | e
      · exact .inl (h2 _ e)
      · exact .inr (.inr (.inr e))
    · exact .inr (.inr (.inl hc))
    · rcases hst hc with e | e
      · exact .inl (h3 _ e)
      · exact .inr (.inr (.inr e))
  have hex : ∀ a b, ∀ x ∈ (s.extract a b).data.toList, x ∈ s.data.toList := fun a b x hx => by
    rw [Lib.extract_data] at hx
    exact List.mem_of_mem_drop (List.mem_of_mem_take hx)
  have hnil : ∀ x ∈ ([] : List UInt8), x ∈ s.data.toList := fun x hx => by cases hx
  unfold compS at h
  simp only [] at h
  split at h
  · split at h
    · exact hj (fun x hx => hx) hnil hnil h
    · exact hj (hex _ _) (hex _ _) hnil h
  · split at h
    · exact hj hnil (hex _ _) (hex _ _) h
    · exact hj (hex _ _) (hex _ _) (hex _ _) h
/-- a ban, asked for again, is itself -/
theorem mask_again (arg : List UInt8) : maskB (maskB arg) = maskB arg := by
  have hcl : cleanL (maskB arg) = maskB arg := by
    unfold cleanL
    rw [List.filter_eq_self]
    intro c hc
    have hcs : ∀ x ∈ (cleanV (bs arg) (bs arg).size).data.toList, brkB x = false := fun x hx => by
      have h1 : x ∈ (cleanL (bs arg).data.toList).take ((bs arg).size : Int).toNat := hx
      have h2 := List.mem_of_mem_take h1
      unfold cleanL at h2
      rw [List.mem_filter] at h2
      simpa using h2.2
    rcases comp_mem hc with h | rfl | rfl | rfl
    · rw [hcs c h]; rfl
    · decide
    · decide
    · decide
  have hv : cleanV (bs (maskB arg)) (bs (maskB arg)).size = bs (maskB arg) := by
    unfold cleanV
    have h1 : (bs (maskB arg)).data.toList = maskB arg := rfl
    rw [h1, hcl, bs_size, Int.toNat_natCast, List.take_length]
  have h0 : maskB (maskB arg) = compS (bs (maskB arg)) := by
    show compS (cleanV (bs (maskB arg)) (bs (maskB arg)).size) = _
    rw [hv]
  rw [h0]
  obtain ⟨n, u, h, H⟩ := comp_whole (cleanV (bs arg) (bs arg).size)
  have H2 : Whole (bs (maskB arg)).data.toList n u h := H
  rw [whole_comp H2]
  rfl
theorem mask_ne (arg : List UInt8) : maskB arg ≠ [] := by
  obtain ⟨n, u, h, H⟩ := comp_whole (cleanV (bs arg) (bs arg).size)
  intro e
  have e2 : compS (cleanV (bs arg) (bs arg).size) = [] := e
  have := H.1
  rw [e2] at this
  simp at this
theorem ixB_neg : ∀ (l : List (List UInt8)) (m : List UInt8), ixB l m < 0 → ∀ j (hj : j < l.length), sameF l[j] m = false
  | [], _, _, j, hj => absurd hj (Nat.not_lt_zero _)
  | b :: l, m, hx, j, hj => by
    unfold ixB at hx
    by_cases e : sameF b m = true
    · rw [if_pos e] at hx; omega
    · rw [if_neg e] at hx
      have hb : sameF b m = false := by simpa using e
      by_cases cc : ixB l m < 0
      · cases j with
        | zero => exact hb
        | succ j => exact ixB_neg l m cc j (Nat.lt_of_succ_lt_succ hj)
      · rw [if_neg cc] at hx; omega
theorem cur_set (m : Mem) (c : UInt8) (on : Bool) : curM (newM m c on) c = on := by
  unfold curM newM
  split
  · next h => simp [h]
  · next h => simp [h]
theorem new_back {m : Mem} {c : UInt8} {on : Bool} (h : ¬ curM m c = on) : newM (newM m c on) c (!on) = m := by
  obtain ⟨a, b, d⟩ := m
  unfold curM at h
  unfold newM
  split
  · next hc => rw [if_pos hc] at h; cases b <;> cases on <;> simp_all
  · next hc => rw [if_neg hc] at h; cases d <;> cases on <;> simp_all
end Go.Proofs.YtmgnhbihfgpccaaGreatDoor
end
section
/- Layer 19: mathematics: a change, undone by its opposite: all letters. -/
namespace Go.Proofs.YtmgnhbihfgpccaaGreatDoor
set_option linter.unusedVariables false
set_option linter.unusedSimpArgs false
open Go Go.RowKit

theorem chg_undo {r : Rm} (hu : UpM r.mem) (on : Bool) (c : UInt8) (arg : List UInt8) (id : Int) (hm : (chgAll r on c arg id).1.c ≠ 0)
    (h1 : ¬ ((c = 107 ∨ c = 108) ∧ (on = false ∨ r.key ≠ [] ∨ r.lim ≠ 0))) (h2 : ¬ (c = 98 ∧ on = false)) :
    (chgAll (chgAll r on c arg id).2 (!on) c (chgAll r on c arg id).1.arg id).1.code = 0 ∧ (chgAll (chgAll r on c arg id).2 (!on) c (chgAll r on c arg id).1.arg id).2 = r := by
  unfold chgAll at hm ⊢
  by_cases g1 : c = 105 ∨ c = 109 ∨ c = 110 ∨ c = 115 ∨ c = 116
  · simp only [if_pos g1] at hm ⊢
    unfold chgFl at hm ⊢
    by_cases e : r.fl.has c = on
    · rw [if_pos e] at hm; exact absurd rfl hm
    · rw [if_neg e]
      have hf : (r.fl.flip c).has c = on := by rw [has_flip g1, if_pos rfl]; cases h : r.fl.has c <;> cases on <;> simp_all
      have hne : ¬ (r.fl.flip c).has c = !on := by rw [hf]; cases on <;> simp
      dsimp only
      rw [if_neg hne]
      exact ⟨rfl, by rw [flip_flip]⟩
  · simp only [if_neg g1] at hm ⊢
    by_cases g2 : c = 111 ∨ c = 118
    · simp only [if_pos g2] at hm ⊢
      unfold chgMark at hm ⊢
      cases hh : hasM r.mem id with
      | false => rw [hh] at hm; rw [if_neg (by simp)] at hm; exact absurd rfl hm
      | true =>
        rw [hh, if_pos rfl] at hm
        rw [if_pos rfl]
        obtain ⟨hix, hid⟩ := ixM_at hu hh
        have hg : r.mem.getD (ixM r.mem id) default = r.mem[ixM r.mem id] := by rw [List.getD_eq_getElem?_getD, List.getElem?_eq_getElem hix]; rfl
        rw [hg] at hm ⊢
        by_cases e : curM r.mem[ixM r.mem id] c = on
        · rw [if_pos e] at hm; exact absurd rfl hm
        · rw [if_neg e]
          dsimp only
          obtain ⟨m, hmm⟩ : ∃ m, r.mem[ixM r.mem id] = m := ⟨_, rfl⟩
          rw [hmm] at e ⊢
          have hids : (r.mem.set (ixM r.mem id) (newM m c on)).map (·.1) = r.mem.map (·.1) := by
            rw [List.map_set, newM_id, ← hmm]
            apply List.ext_getElem?
            intro j
            rw [List.getElem?_set]
            split
            · next hj => subst hj; simp [hix]
            · rfl
          have hcnt : ∀ l : List Mem, ixM l id = (l.map (·.1)).countP fun a => decide (a < id) := fun l => by unfold ixM; rw [List.countP_map]; rfl
          have hany : ∀ l : List Mem, hasM l id = (l.map (·.1)).any fun a => a == id := fun l => by unfold hasM; rw [List.any_map]; rfl
          have i1 : ixM (r.mem.set (ixM r.mem id) (newM m c on)) id = ixM r.mem id := by rw [hcnt, hids, ← hcnt]
          have i2 : hasM (r.mem.set (ixM r.mem id) (newM m c on)) id = true := by rw [hany, hids, ← hany, hh]
          rw [i1, i2, if_pos rfl]
          have hg2 : (r.mem.set (ixM r.mem id) (newM m c on)).getD (ixM r.mem id) default = newM m c on := by
            rw [List.getD_eq_getElem?_getD, List.getElem?_set_self hix]; rfl
          rw [hg2, cur_set, if_neg (by cases on <;> simp), new_back e, List.set_set]
          refine ⟨rfl, ?_⟩
          have : r.mem.set (ixM r.mem id) m = r.mem := by rw [← hmm]; exact List.set_getElem_self hix
          rw [this]
    · simp only [if_neg g2] at hm ⊢
      by_cases g3 : c = 107
      · simp only [if_pos g3] at hm ⊢
        have hon : on = true := by cases on; exact absurd ⟨.inl g3, .inl rfl⟩ h1; rfl
        have hk : r.key = [] := by
          rcases Classical.em (r.key = []) with e | e
          · exact e
          · exact absurd ⟨.inl g3, .inr (.inl e)⟩ h1
        subst hon
        have hval : chgKey r true c arg = if dec (KeyP (bs arg)) then (⟨true, c, arg, 0⟩, { r with key := arg }) else (noT 475, r) := by unfold chgKey; rw [if_pos rfl, if_neg (fun h => h hk)]
        rw [hval] at hm ⊢
        cases hd : dec (KeyP (bs arg)) with
        | false => rw [hd, if_neg (by simp)] at hm; exact absurd rfl hm
        | true =>
          rw [if_pos rfl]
          have hp : KeyP (bs arg) := by unfold dec at hd; simpa using hd
          have hne : arg ≠ [] := by
            rintro rfl
            have := hp.1.1
            rw [bs_size] at this
            simp at this
          have hval2 : chgKey { r with key := arg } false c arg = (⟨false, c, [42], 0⟩, { r with key := [] }) := by unfold chgKey; rw [if_neg (by simp), if_neg hne]
          have hval3 : chgKey ((⟨true, c, arg, 0⟩, { r with key := arg }) : Told × Rm).2 (!true) c ((⟨true, c, arg, 0⟩, { r with key := arg }) : Told × Rm).1.arg = (⟨false, c, [42], 0⟩, { r with key := [] }) := hval2
          rw [hval3]
          exact ⟨rfl, by obtain ⟨a1, a2, a3, a4, a5, a6, a7, a8, a9⟩ := r; simp only at hk; subst hk; rfl⟩
      · simp only [if_neg g3] at hm ⊢
        by_cases g4 : c = 108
        · simp only [if_pos g4] at hm ⊢
          have hon : on = true := by cases on; exact absurd ⟨.inr g4, .inl rfl⟩ h1; rfl
          have hk : r.lim = 0 := by
            rcases Nat.eq_zero_or_pos r.lim with e | e
            · exact e
            · exact absurd ⟨.inr g4, .inr (.inr (by omega))⟩ h1
          subst hon
          unfold chgLim at hm ⊢
          simp only [if_true, Bool.not_true, Bool.false_eq_true, if_false] at hm ⊢
          by_cases e : limL arg = 0 ∨ limL arg = r.lim
          · rw [if_pos e] at hm; exact absurd rfl hm
          · rw [if_neg e]
            dsimp only
            rw [if_neg (fun h => e (.inl h))]
            exact ⟨rfl, by obtain ⟨a1, a2, a3, a4, a5, a6, a7, a8, a9⟩ := r; simp only at hk; subst hk; rfl⟩
        · simp only [if_neg g4] at hm ⊢
          by_cases g5 : c = 98
          · simp only [if_pos g5] at hm ⊢
            have hon : on = true := by cases on; exact absurd ⟨g5, rfl⟩ h2; rfl
            subst hon
            by_cases e1 : arg = [] ∨ 100 < (maskB arg).length ∨ (maskB arg).contains 32 = true
            · unfold chgBan at hm; rw [if_pos e1] at hm; exact absurd rfl hm
            · by_cases e2 : true = decide (0 ≤ ixB r.bans (maskB arg))
              · unfold chgBan at hm; rw [if_neg e1, if_pos e2] at hm; exact absurd rfl hm
              · by_cases e3 : r.mb ≤ r.bans.length
                · unfold chgBan at hm; rw [if_neg e1, if_neg e2, if_neg (by decide), if_pos e3] at hm; exact absurd rfl hm
                · have hval : chgBan r true c arg = (⟨true, c, maskB arg, 0⟩, { r with bans := r.bans ++ [maskB arg] }) := by unfold chgBan; rw [if_neg e1, if_neg e2, if_neg (by decide), if_neg e3]
                  rw [hval]
                  have hneg : ixB r.bans (maskB arg) < 0 := by
                    rcases Int.lt_or_le (ixB r.bans (maskB arg)) 0 with cc | cc
                    · exact cc
                    · exact absurd (by rw [decide_eq_true cc]) e2
                  have hix : ixB (r.bans ++ [maskB arg]) (maskB arg) = r.bans.length := by
                    refine ixB_first (by simp) ?_ fun j hj => ?_
                    · rw [List.getElem_append_right (Nat.le_refl _)]
                      simp only [Nat.sub_self, List.getElem_cons_zero]
                      rw [sameF_iff]
                    · rw [List.getElem_append_left hj]
                      exact ixB_neg _ _ hneg j hj
                  have hb : (r.bans ++ [maskB arg]).take ((r.bans.length : Int)).toNat ++ (r.bans ++ [maskB arg]).drop (((r.bans.length : Int)).toNat + 1) = r.bans := by
                    rw [Int.toNat_natCast, List.take_left, List.drop_of_length_le (by simp), List.append_nil]
                  have hne3 : ¬ (maskB arg = [] ∨ 100 < (maskB (maskB arg)).length ∨ (maskB (maskB arg)).contains 32 = true) := by
                    rw [mask_again]
                    rintro (h | h | h)
                    · exact mask_ne arg h
                    · exact e1 (.inr (.inl h))
                    · exact e1 (.inr (.inr h))
                  have hval2 : (chgBan { r with bans := r.bans ++ [maskB arg] } false c (maskB arg)).1.code = 0 ∧ (chgBan { r with bans := r.bans ++ [maskB arg] } false c (maskB arg)).2 = r := by
                    unfold chgBan
                    rw [if_neg hne3, mask_again]
                    dsimp only
                    rw [hix, if_neg (by rw [decide_eq_true (by omega)]; simp), if_pos (by rfl)]
                    exact ⟨rfl, by rw [hb]⟩
                  exact hval2
          · simp only [if_neg g5] at hm
            exact absurd rfl hm
theorem modesL_len (f : UInt8 → Bool) (key : List UInt8) (lim : Nat) (num : List UInt8) : 1 < (modesL f key lim num true).length ↔ (key ≠ [] ∨ lim ≠ 0) := by
  unfold modesL
  by_cases h1 : key = [] <;> by_cases h2 : lim = 0 <;> simp [h1, h2]
end Go.Proofs.YtmgnhbihfgpccaaGreatDoor
end
