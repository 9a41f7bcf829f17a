/- Texts of this proof, one behind the other. -/
import Derived.Test.YtlkeomcillencaaGreatRoomsPlayG14
import Derived.Test.YtlkeomcillencaaGreatRoomsPlayG7
import Derived.Test.YtlkeomcillencaaGreatRoomsPlayG3
set_option linter.unusedVariables false
set_option linter.unusedSimpArgs false
section
/- Layer 20: Join. -/
namespace Go.Proofs.YtlkeomcillencaaGreat
open Go Go.RowKit Go.Maps Go.Lib
attribute [local go_sem] Oper.semAt_some

/-- what Join does -/
def JoinP (base R : Nat) (C : Nat → Tag) (mr mj mb : Int) (Q : List RmE) (L : List (Int × List UInt8)) (id : Int) (nm : List UInt8) (w : World) (e : Ending) (w' : World) : Prop :=
  (∃ f, getE Q (foldL nm) = some f ∧ hasM f.r.mem id = true ∧ e = .returned (.tuple #[.pointer (some ⟨f.B, 0, none⟩), .int .i64 0]) ∧ RsTo base R C mr mj mb Q L w w') ∨
  ((∀ f, getE Q (foldL nm) = some f → hasM f.r.mem id = false) ∧ (mj ≤ (ofQ Q id).length ∨ getE Q (foldL nm) = none ∧ mr ≤ Q.length) ∧ e = .returned (.tuple #[.pointer none, .int .i64 405]) ∧ RsTo base R C mr mj mb Q L w w') ∨
  (∃ Q1 f Q2 q', Q = Q1 ++ f :: Q2 ∧ keyE f = foldL nm ∧ hasM f.r.mem id = false ∧ ((ofQ Q id).length : Int) < mj ∧ e = .returned (.tuple #[.pointer (some ⟨f.B, 0, none⟩), .int .i64 0]) ∧ RsTo base R C mr mj mb (Q1 ++ ⟨f.B, q', addR f.r id false⟩ :: Q2) (L ++ [(id, foldL nm)]) w w') ∨
  (getE Q (foldL nm) = none ∧ ((ofQ Q id).length : Int) < mj ∧ (Q.length : Int) < mr ∧ ∃ B q, e = .returned (.tuple #[.pointer (some ⟨B, 0, none⟩), .int .i64 0]) ∧ RsTo base R C mr mj mb (Q ++ [(⟨B, q, addR (rm0 nm mb) id true⟩ : RmE)]) (L ++ [(id, foldL nm)]) w w')
theorem lessLIS_new {L : List (Int × List UInt8)} {id : Int} {k : List UInt8} (h : (id, k) ∉ L) : lessLIS (L ++ [(id, k)]) id k = L := by
  have h1 := lessNotIS h
  unfold lessLIS at h1 ⊢
  rw [List.filter_append, h1]
  simp
theorem addR_nm (r : Rm) (id : Int) (op : Bool) : (addR r id op).nm = r.nm := by unfold addR; split <;> rfl
section
variable {base : Nat} {w : World} {R t b tr : Nat} {X : Nat → Prop} {C : Nat → Tag} {mr mj mb : Int} {Q : List RmE} {L : List (Int × List UInt8)}
theorem RsPh.base_le (h : RsPh base w R t b tr X C mr mj mb Q L) : base ≤ w.heap.size := by have := h.bok.1; have := (bokP_lt h.bok).1; omega
set_option maxRecDepth 100000 in
set_option maxHeartbeats 8000000 in
theorem join_there (h : RsPh base w R t b tr X C mr mj mb Q L) {n : Nat} (hl : RsLg n Q L) (hn : n ≤ 80000) {id : Int} (hid : OkKIS id) {nm : List UInt8} (hnm : nm.length ≤ 1000) {f : RmE} (hg : getE Q (foldL nm) = some f) :
    Calls Tryz.prog 14 #[.pointer (some ⟨R, 0, none⟩), .int .i64 id, .string (bs nm)] w (JoinP base R C mr mj mb Q L id nm w) := by
  obtain ⟨P, hP⟩ : ∃ P, JoinP base R C mr mj mb Q L id nm w = P := ⟨_, rfl⟩
  rw [hP]
  have HR := Lib.hid hP
  have HG := Lib.hid (get_any h nm (by omega))
  unfold GetP at HG
  rw [hg] at HG
  dsimp only [ptE, Option.map_some, Option.map_none, Option.isSome_some, Option.isSome_none] at HG
  have H := Lib.hid (And.intro h (And.intro hl (And.intro hn (And.intro hid (And.intro hnm hg)))))
  clear h hl hn hid hnm hg hP
  refine (callsIn_wide (n := 30)).1 ?_
  refine callsIn_of_wp Tryz.func14 rfl trivial ?_ rfl
  simp only [Tryz.ntmps14, List.size_toArray, List.length_cons, List.length_nil, Nat.reduceAdd, Nat.reduceSub, Array.replicate_succ, Array.replicate_zero, List.push_toArray, List.append_toArray, List.nil_append, List.cons_append]
  gi_wp2_with fail
  refine ⟨trivial, (calls_wide (.inl rfl) HG.out).mono ?_⟩
  rintro e w1 ⟨rfl, b1⟩
  obtain ⟨h, hl, hn, hid, hnm, hg⟩ := H.out
  have h1 := h.below b1
  have HJ := Lib.hid (joined_any h1)
  have HT := Lib.hid (text_any (bs nm) w1 (by simp; omega))
  rw [bs_toList] at HT
  have K1 := Lib.hid (And.intro h1 b1)
  clear h1 b1 HG h hl hn hid hnm hg
  gi_wp2_with fail
  refine ⟨trivial, (calls_wide (.inl rfl) HJ.out).mono ?_⟩
  rintro e w2 ⟨rfl, rfl⟩
  clear HJ
  gi_wp2_with fail
  refine ⟨trivial, (calls_wide (.inl rfl) HT.out).mono ?_⟩
  rintro e w3 ⟨rfl, b3⟩
  clear HT
  obtain ⟨h1, b1⟩ := K1.out
  obtain ⟨h, hl, hn, hid, hnm, hg⟩ := H.out
  have h3 := h1.below b3
  have o3 : Onto C C w w3 := (Onto.of_below C b1).trans (Onto.of_below C b3)
  have HA := Lib.hid (relAddIS h3.rel h3.base_le (by have := hl.llen; omega) hid (okKSI_of (k := foldL nm) (by rw [foldL_length]; exact hnm)))
  have K3 := Lib.hid (And.intro h3 o3)
  clear K1 h1 b1 b3 h3 o3 h hl hn hid hnm hg
  gi_wp2_with fail
  refine ⟨trivial, (calls_wide (.inl rfl) HA.out).mono ?_⟩
  intro e w4 hA
  obtain ⟨X4, c, L4, rfl, hx, hf, hr, hcase⟩ := hA.any
  clear HA hA
  obtain ⟨h, hl, hn, hid, hnm, hg⟩ := H.out
  have hcnt : ∃ xs : List (List UInt8), xs.Pairwise (· < ·) ∧ (∀ x, x ∈ xs ↔ (id, x) ∈ L) ∧ xs.length = (ofQ Q id).length := by
    obtain ⟨xs, x1, x2, _, _⟩ := ofAtIS h.rel (by have := hl.llen; omega) hid
    exact ⟨xs, x1, x2, by rw [(hl.of_perm h.keys x1 x2).length_eq, List.length_map]⟩
  obtain ⟨hfm, hfk⟩ := getE_mem hg
  have hpair : (id, foldL nm) ∈ L ↔ hasM f.r.mem id = true := by
    rw [hl.pairs]
    constructor
    · rintro ⟨e, a1, a2, a3⟩
      have := getE_of h.keys a1
      rw [a2, hg] at this
      cases this; exact a3
    · intro a; exact ⟨f, hfm, hfk, a⟩
  obtain ⟨xs, x1, x2, x3⟩ := hcnt
  rcases hcase with ⟨rfl, ⟨rfl, hin⟩ | ⟨rfl, hnin, hfull⟩⟩ | ⟨rfl, rfl, hnin, hroom⟩
  · have hmem := hpair.1 hin
    obtain ⟨h3, o3⟩ := K3.out
    obtain ⟨h4, f4⟩ := h3.relTo hf hx hr
    have o4 := (o3.trans (Onto.of_paint f4)).to h4
    have HQ := Lib.hid (And.intro hmem (And.intro o4 hg))
    clear h hl hn hid hnm hg hfm hfk hpair x1 x2 x3 hx hf hr hin hmem h3 o3 h4 f4 o4 K3
    gi_wp2_with fail
    rw [← HR.out]
    obtain ⟨hmem, o4, hg⟩ := HQ.out
    exact .inl ⟨f, hg, hmem, rfl, o4⟩
  · have hle := hfull xs x1 x2
    rw [x3] at hle
    have hmem : hasM f.r.mem id = false := by rw [← Bool.not_eq_true]; exact fun e => hnin (hpair.2 e)
    obtain ⟨h3, o3⟩ := K3.out
    obtain ⟨h4, f4⟩ := h3.relTo hf hx hr
    have o4 := (o3.trans (Onto.of_paint f4)).to h4
    have HQ := Lib.hid (And.intro hmem (And.intro o4 (And.intro hg hle)))
    clear h hl hn hid hnm hg hfm hfk hpair x1 x2 x3 hx hf hr hnin hfull hle hmem h3 o3 h4 f4 o4 K3
    gi_wp2_with fail
    rw [← HR.out]
    obtain ⟨hmem, o4, hg, hle⟩ := HQ.out
    exact .inr (.inl ⟨fun f2 h2 => by rw [hg] at h2; cases h2; exact hmem, .inl hle, rfl, o4⟩)
  · have hlt := hroom xs x1 x2
    rw [x3] at hlt
    have hmem : hasM f.r.mem id = false := by rw [← Bool.not_eq_true]; exact fun e => hnin (hpair.2 e)
    obtain ⟨h3, o3⟩ := K3.out
    obtain ⟨h4, f4⟩ := h3.relTo hf hx hr
    have o4 := o3.trans (Onto.of_paint (m := w4.heap.size) (g := (3, [])) f4)
    have HAd := Lib.hid (add_any (h4.each f hfm) id false (by have := hl.mlen f hfm; omega) (by rw [hl.inv f hfm]; simp))
    obtain ⟨Q1, Q2, hQ⟩ := List.append_of_mem hfm
    have HQ := Lib.hid (And.intro hmem (And.intro o4 (And.intro h4 (And.intro hlt (And.intro hQ hfk)))))
    clear h hl hn hid hnm hg hfm hfk hpair x1 x2 x3 hx hf hr hnin hroom hlt hmem h3 o3 h4 f4 o4 hQ K3
    gi_wp2_with fail
    refine ⟨trivial, (calls_wide (.inl rfl) HAd.out).mono ?_⟩
    rintro e w5 ⟨⟨v5, rfl⟩, hc⟩
    have HC := Lib.hid hc
    clear hc HAd
    gi_wp2_with fail
    rw [← HR.out]
    obtain ⟨hmem, o4, h4, hlt, hQ, hfk⟩ := HQ.out
    rw [hQ] at h4
    obtain ⟨⟨q', h5⟩, f5⟩ := h4.roomTo (addR_nm _ _ _) HC.out
    exact .inr (.inr (.inl ⟨Q1, f, Q2, q', hQ, hfk, hmem, hlt, rfl, (o4.trans (Onto.of_paint f5)).to h5⟩))
set_option maxRecDepth 100000 in
set_option maxHeartbeats 8000000 in
theorem join_new (h : RsPh base w R t b tr X C mr mj mb Q L) {n : Nat} (hl : RsLg n Q L) (hn : n ≤ 80000) {id : Int} (hid : OkKIS id) {nm : List UInt8} (hnm : nm.length ≤ 1000) (hg : getE Q (foldL nm) = none) :
    Calls Tryz.prog 14 #[.pointer (some ⟨R, 0, none⟩), .int .i64 id, .string (bs nm)] w (JoinP base R C mr mj mb Q L id nm w) := by
  obtain ⟨P, hP⟩ : ∃ P, JoinP base R C mr mj mb Q L id nm w = P := ⟨_, rfl⟩
  rw [hP]
  have HR := Lib.hid hP
  have HG := Lib.hid (get_any h nm (by omega))
  unfold GetP at HG
  rw [hg] at HG
  dsimp only [ptE, Option.map_some, Option.map_none, Option.isSome_some, Option.isSome_none] at HG
  have H := Lib.hid (And.intro h (And.intro hl (And.intro hn (And.intro hid (And.intro hnm hg)))))
  clear h hl hn hid hnm hg hP
  refine (callsIn_wide (n := 30)).1 ?_
  refine callsIn_of_wp Tryz.func14 rfl trivial ?_ rfl
  simp only [Tryz.ntmps14, List.size_toArray, List.length_cons, List.length_nil, Nat.reduceAdd, Nat.reduceSub, Array.replicate_succ, Array.replicate_zero, List.push_toArray, List.append_toArray, List.nil_append, List.cons_append]
  gi_wp2_with fail
  refine ⟨trivial, (calls_wide (.inl rfl) HG.out).mono ?_⟩
  rintro e w1 ⟨rfl, b1⟩
  obtain ⟨h, hl, hn, hid, hnm, hg⟩ := H.out
  have h1 := h.below b1
  have HJ := Lib.hid (joined_any h1)
  have HT := Lib.hid (text_any (bs nm) w1 (by simp; omega))
  rw [bs_toList] at HT
  have K1 := Lib.hid (And.intro h1 b1)
  clear h1 b1 HG h hl hn hid hnm hg
  gi_wp2_with fail
  refine ⟨trivial, (calls_wide (.inl rfl) HJ.out).mono ?_⟩
  rintro e w2 ⟨rfl, rfl⟩
  clear HJ
  gi_wp2_with fail
  refine ⟨trivial, (calls_wide (.inl rfl) HT.out).mono ?_⟩
  rintro e w3 ⟨rfl, b3⟩
  clear HT
  obtain ⟨h1, b1⟩ := K1.out
  obtain ⟨h, hl, hn, hid, hnm, hg⟩ := H.out
  have h3 := h1.below b3
  have o3 : Onto C C w w3 := (Onto.of_below C b1).trans (Onto.of_below C b3)
  have HA := Lib.hid (relAddIS h3.rel h3.base_le (by have := hl.llen; omega) hid (okKSI_of (k := foldL nm) (by rw [foldL_length]; exact hnm)))
  have K3 := Lib.hid (And.intro h3 o3)
  clear K1 h1 b1 b3 h3 o3 h hl hn hid hnm hg
  gi_wp2_with fail
  refine ⟨trivial, (calls_wide (.inl rfl) HA.out).mono ?_⟩
  intro e w4 hA
  obtain ⟨X4, c, L4, rfl, hx, hf, hr, hcase⟩ := hA.any
  clear HA hA
  obtain ⟨h, hl, hn, hid, hnm, hg⟩ := H.out
  have hcnt : ∃ xs : List (List UInt8), xs.Pairwise (· < ·) ∧ (∀ x, x ∈ xs ↔ (id, x) ∈ L) ∧ xs.length = (ofQ Q id).length := by
    obtain ⟨xs, x1, x2, _, _⟩ := ofAtIS h.rel (by have := hl.llen; omega) hid
    exact ⟨xs, x1, x2, by rw [(hl.of_perm h.keys x1 x2).length_eq, List.length_map]⟩
  have hno : (id, foldL nm) ∉ L := fun e => by
    obtain ⟨f, a1, a2, _⟩ := (hl.pairs _ _).1 e
    exact getE_none hg f a1 a2
  obtain ⟨xs, x1, x2, x3⟩ := hcnt
  rcases hcase with ⟨rfl, ⟨rfl, hin⟩ | ⟨rfl, hnin, hfull⟩⟩ | ⟨rfl, rfl, hnin, hroom⟩
  · exact absurd hin hno
  · have hle := hfull xs x1 x2
    rw [x3] at hle
    obtain ⟨h3, o3⟩ := K3.out
    obtain ⟨h4, f4⟩ := h3.relTo hf hx hr
    have o4 := (o3.trans (Onto.of_paint f4)).to h4
    have HQ := Lib.hid (And.intro o4 (And.intro hg hle))
    clear h hl hn hid hnm hg x1 x2 x3 hx hf hr hnin hfull hle h3 o3 h4 f4 o4 hno K3
    gi_wp2_with fail
    rw [← HR.out]
    obtain ⟨o4, hg, hle⟩ := HQ.out
    exact .inr (.inl ⟨(fun f2 h2 => by rw [hg] at h2; cases h2), .inl hle, rfl, o4⟩)
  · have hlt := hroom xs x1 x2
    rw [x3] at hlt
    obtain ⟨h3, o3⟩ := K3.out
    obtain ⟨h4, f4⟩ := h3.relTo hf hx hr
    have o4 := o3.trans (Onto.of_paint (m := w4.heap.size) (g := (3, [])) f4)
    have c8 := blk_cell h4.self 8
    have HN := Lib.hid (newR_any nm mb w4)
    obtain ⟨C4, hC4⟩ : ∃ C4, paint C w3.heap.size w4.heap.size (3, []) = C4 := ⟨_, rfl⟩
    rw [hC4] at h4 o4
    have HQ := Lib.hid (And.intro o4 (And.intro h4 hlt))
    clear h hl hn hid hnm hg x1 x2 x3 hx hf hr hnin hroom hlt h3 o3 h4 f4 o4 hno K3 hC4
    gi_wp2_with fail
    refine ⟨trivial, (calls_wide (.inl rfl) HN.out).mono ?_⟩
    rintro e w5 ⟨B, q, rfl, hro, b5⟩
    obtain ⟨o4, h4, hlt⟩ := HQ.out
    obtain ⟨h, hl, hn, hid, hnm, hg⟩ := H.out
    have h5 := h4.below b5
    have c15 := blk_cell h5.self 15
    have HPt := Lib.hid (bok_putP h5.bok (name := bs nm) (v := some B) (by simp; omega) rfl (by rw [List.length_map]; have := hl.qlen; omega))
    have hth : thVP (some B) = .pointer (some ⟨B, 0, none⟩) := rfl
    unfold PutPP at HPt
    rw [hth] at HPt
    have hlk : (lookM (Q.map entE) (foldL nm)).isSome = false := by rw [lookE, hg]; rfl
    simp only [bs_toList, hlk, List.length_map] at HPt
    have K5 := Lib.hid (And.intro hro (And.intro b5 h5))
    clear HN hro b5 h5 c8 hth hlk o4 h4 hlt h hl hn hid hnm hg
    gi_wp2_with fail
    refine ⟨trivial, (calls_wide (.inl rfl) HPt.out).mono ?_⟩
    rintro e w6 ⟨(⟨hlt6, rfl, hbk⟩ | ⟨⟨_, hge6⟩, rfl, hbk⟩), f6⟩
    · obtain ⟨hro, b5, h5⟩ := K5.out
      obtain ⟨o4, h4, hlt⟩ := HQ.out
      obtain ⟨h, hl, hn, hid, hnm, hg⟩ := H.out
      have hset : setM (Q.map entE) (foldL nm) ⟨bs nm, foldL nm, some B⟩ = (Q ++ [(⟨B, q, rm0 nm mb⟩ : RmE)]).map entE := setE_new hg ⟨B, q, rm0 nm mb⟩ rfl
      rw [hset] at hbk
      obtain ⟨h6, g6⟩ := h4.putTo hro b5 hbk f6
      have o6 := o4.trans (Onto.of_paint (m := w5.heap.size) (g := (4, foldL (rm0 nm mb).nm)) g6)
      have HAd := Lib.hid (add_any (h6.each ⟨B, q, rm0 nm mb⟩ (by simp)) id true (by show ([] : List Mem).length ≤ _; simp) (by show ([] : List Int).length ≤ _; simp))
      have hq6 : (Q.length : Int) < mr := by
        rcases hlt6 with a | a
        · cases a
        · exact a
      have K6 := Lib.hid (And.intro o6 (And.intro h6 hq6))
      clear hro b5 h5 hset hbk h6 g6 o6 hlt6 hq6 f6 HPt c15 o4 h4 hlt h hl hn hid hnm hg
      gi_wp2_with fail
      refine ⟨trivial, (calls_wide (.inl rfl) HAd.out).mono ?_⟩
      rintro e w7 ⟨⟨v7, rfl⟩, hc⟩
      have HC := Lib.hid hc
      clear hc HAd
      gi_wp2_with fail
      rw [← HR.out]
      obtain ⟨o6, h6, hq6⟩ := K6.out
      obtain ⟨o4, h4, hlt⟩ := HQ.out
      obtain ⟨h, hl, hn, hid, hnm, hg⟩ := H.out
      obtain ⟨⟨q', h7⟩, f7⟩ := RsPh.roomTo (Q1 := Q) (Q2 := []) h6 (addR_nm _ _ _) HC.out
      exact .inr (.inr (.inr ⟨hg, hlt, hq6, B, q', rfl, (o6.trans (Onto.of_paint f7)).to h7⟩))
    · obtain ⟨hro, b5, h5⟩ := K5.out
      obtain ⟨o4, h4, hlt⟩ := HQ.out
      obtain ⟨h6, g6⟩ := h5.lessTo (Q' := Q) (fun e he => he) hbk f6
      have o6 : Onto C C4 w w6 := (o4.trans (Onto.of_below C4 b5)).trans ⟨fun _ _ => rfl, g6⟩
      have HX := Lib.hid (fun W (hW : Fr (fun _ => False) w6 W) => h6.fr hW fun _ _ e => e)
      have hge : mr ≤ (Q.length : Int) := by omega
      have K6 := Lib.hid (And.intro o6 (And.intro h6 hge))
      clear hro b5 h5 hbk h6 g6 o6 hge6 hge f6 HPt c15 o4 h4 hlt
      gi_wp2_with fail
      refine wpIn_class_tail (C := fun W => Fr (fun _ => False) w6 W) 7 (by kernel_rfl) (by kernel_rfl) (by kernel_rfl) ((Fr.refl (fun _ => False) w6).drew) ?_
      simp only [List.take_succ_cons, List.take_zero, List.drop_succ_cons, List.drop_zero]
      refine quiet_step_w (fun _ => trivial) (fun K hK => ?_)
      go_simp
      first | refine ⟨_, fun _ _ => rfl, hK _ ?_⟩ | refine hK _ ?_
      clear hK K
      refine quiet_step_w (fun _ => trivial) (fun K hK => ?_)
      go_simp
      first | refine ⟨_, fun _ _ => rfl, hK _ ?_⟩ | refine hK _ ?_
      clear hK K
      refine quiet_step_w (fun _ => trivial) (fun K hK => ?_)
      go_simp
      first | refine ⟨_, fun _ _ => rfl, hK _ ?_⟩ | refine hK _ ?_
      clear hK K
      refine quiet_step_w (fun _ => trivial) (fun K hK => ?_)
      go_simp
      refine ⟨.pointer (some ⟨tr, 0, none⟩), fun W hW => ?_, hK _ ?_⟩
      · have s3 := blk_cell (HX.out W hW).self 16; go_simp
      clear hK K
      refine quiet_step_w (fun _ => trivial) (fun K hK => ?_)
      go_simp
      first | refine ⟨_, fun _ _ => rfl, hK _ ?_⟩ | refine hK _ ?_
      clear hK K
      refine quiet_step_w (fun _ => trivial) (fun K hK => ?_)
      go_simp
      first | refine ⟨_, fun _ _ => rfl, hK _ ?_⟩ | refine hK _ ?_
      clear hK K
      refine quiet_step_w (fun _ => trivial) (fun K hK => ?_)
      go_simp
      refine ⟨.string (bs (foldL nm)), fun W hW => ?_, hK _ ?_⟩
      · refine (calls_wide (.inl rfl) (text_any (bs nm) W (by have := H.out.2.2.2.2.1; simp; omega))).mono ?_
        rintro e W2 ⟨rfl, bb⟩; exact ⟨rfl, hW.trans (Fr.of_below bb)⟩
      clear hK K
      refine wpQuietIn_nil ?_
      intro V1 hV1
      have h7 := HX.out V1 hV1
      obtain ⟨h, hl, hn, hid, hnm, hg⟩ := H.out
      have HRm := Lib.hid (relRemIS h7.rel h7.base_le (by have := hl.llen; simp; omega) hid (okKSI_of (k := foldL nm) (by rw [foldL_length]; exact hnm)))
      have K7 := Lib.hid (And.intro h7 hV1)
      clear h7 hV1 h hl hn hid hnm hg
      gi_wp2_with fail
      refine ⟨trivial, (calls_wide (.inl rfl) HRm.out).mono ?_⟩
      rintro e w8 ⟨rfl, X8, hx8, f8, r8⟩
      have K8 := Lib.hid (And.intro hx8 (And.intro f8 r8))
      clear hx8 f8 r8 HRm
      gi_wp2_with fail
      rw [← HR.out]
      obtain ⟨hx8, f8, r8⟩ := K8.out
      obtain ⟨h7, hV1⟩ := K7.out
      obtain ⟨o6, h6, hge⟩ := K6.out
      obtain ⟨h, hl, hn, hid, hnm, hg⟩ := H.out
      have hno : (id, foldL nm) ∉ L := fun e => by
        obtain ⟨f, a1, a2, _⟩ := (hl.pairs _ _).1 e
        exact getE_none hg f a1 a2
      rw [lessLIS_new hno] at r8
      obtain ⟨h8, g8⟩ := h7.relTo f8 hx8 r8
      have o7 : Onto C C4 w V1 := o6.trans ⟨fun _ _ => rfl, hV1.mono fun _ _ e => e.elim⟩
      exact .inr (.inl ⟨(fun f2 h2 => by rw [hg] at h2; cases h2), .inr ⟨hg, hge⟩, rfl, (o7.trans (Onto.of_paint g8)).to h8⟩)
end
theorem join_any {base : Nat} {w : World} {R t b tr : Nat} {X : Nat → Prop} {C : Nat → Tag} {mr mj mb : Int} {Q : List RmE} {L : List (Int × List UInt8)} (h : RsPh base w R t b tr X C mr mj mb Q L) {n : Nat} (hl : RsLg n Q L) (hn : n ≤ 80000) {id : Int} (hid : OkKIS id) {nm : List UInt8} (hnm : nm.length ≤ 1000) :
    Calls Tryz.prog 14 #[.pointer (some ⟨R, 0, none⟩), .int .i64 id, .string (bs nm)] w (JoinP base R C mr mj mb Q L id nm w) := by
  cases hg : getE Q (foldL nm) with
  | none => exact join_new h hl hn hid hnm hg
  | some f => exact join_there h hl hn hid hnm hg
end Go.Proofs.YtlkeomcillencaaGreat
end
section
/- Layer 20: Part. -/
namespace Go.Proofs.YtlkeomcillencaaGreat
open Go Go.RowKit Go.Maps Go.Lib
attribute [local go_sem] Oper.semAt_some

/-- a room of which somebody is no member any more -/
def dropR (r : Rm) (id : Int) : Rm := { r with mem := delMb r.mem id }
/-- what Part does -/
def PartP (base R : Nat) (C : Nat → Tag) (mr mj mb : Int) (Q : List RmE) (L : List (Int × List UInt8)) (id : Int) (k : List UInt8) (w : World) (e : Ending) (w' : World) : Prop :=
  ((id, k) ∉ L ∧ e = .returned (.bool false) ∧ RsTo base R C mr mj mb Q L w w') ∨
  (∃ Q1 f Q2, Q = Q1 ++ f :: Q2 ∧ keyE f = k ∧ hasM f.r.mem id = true ∧ e = .returned (.bool true) ∧
    ((delMb f.r.mem id = [] ∧ RsTo base R C mr mj mb (Q1 ++ Q2) (lessLIS L id k) w w') ∨ (delMb f.r.mem id ≠ [] ∧ ∃ q', RsTo base R C mr mj mb (Q1 ++ ⟨f.B, q', dropR f.r id⟩ :: Q2) (lessLIS L id k) w w')))
theorem filterE {Q1 Q2 : List RmE} {f : RmE} (hn : ((Q1 ++ f :: Q2).map keyE).Nodup) : (Q1 ++ f :: Q2).filter (fun e => decide (keyE e ≠ keyE f)) = Q1 ++ Q2 := by
  rw [List.map_append, List.map_cons, List.nodup_append, List.nodup_cons] at hn
  have h1 : ∀ e ∈ Q1, keyE e ≠ keyE f := fun e he => hn.2.2 _ (List.mem_map_of_mem he) _ (List.mem_cons_self ..)
  have h2 : ∀ e ∈ Q2, keyE e ≠ keyE f := fun e he e1 => hn.2.1.1 (e1 ▸ List.mem_map_of_mem he)
  rw [List.filter_append, List.filter_cons_of_neg (by simp), List.filter_eq_self.2 fun e he => by simpa using h1 e he, List.filter_eq_self.2 fun e he => by simpa using h2 e he]
section
variable {base : Nat} {w : World} {R t b tr : Nat} {X : Nat → Prop} {C : Nat → Tag} {mr mj mb : Int} {Q : List RmE} {L : List (Int × List UInt8)}
set_option maxRecDepth 100000 in
set_option maxHeartbeats 8000000 in
theorem part_any (h : RsPh base w R t b tr X C mr mj mb Q L) {n : Nat} (hl : RsLg n Q L) (hn : n ≤ 80000) {id : Int} (hid : OkKIS id) {nm : List UInt8} (hnm : nm.length ≤ 1000) :
    Calls Tryz.prog 10 #[.pointer (some ⟨R, 0, none⟩), .int .i64 id, .string (bs nm)] w (PartP base R C mr mj mb Q L id (foldL nm) w) := by
  obtain ⟨P, hP⟩ : ∃ P, PartP base R C mr mj mb Q L id (foldL nm) w = P := ⟨_, rfl⟩
  rw [hP]
  have HR := Lib.hid hP
  have HJ := Lib.hid (joined_any h)
  have HT := Lib.hid (text_any (bs nm) w (by simp; omega))
  rw [bs_toList] at HT
  have H := Lib.hid (And.intro h (And.intro hl (And.intro hn (And.intro hid hnm))))
  clear h hl hn hid hnm hP
  refine (callsIn_wide (n := 30)).1 ?_
  refine callsIn_of_wp Tryz.func10 rfl trivial ?_ rfl
  simp only [Tryz.ntmps10, List.size_toArray, List.length_cons, List.length_nil, Nat.reduceAdd, Nat.reduceSub, Array.replicate_succ, Array.replicate_zero, List.push_toArray, List.append_toArray, List.nil_append, List.cons_append]
  gi_wp2_with fail
  refine ⟨trivial, (calls_wide (.inl rfl) HJ.out).mono ?_⟩
  rintro e w2 ⟨rfl, rfl⟩
  clear HJ
  gi_wp2_with fail
  refine ⟨trivial, (calls_wide (.inl rfl) HT.out).mono ?_⟩
  rintro e w3 ⟨rfl, b3⟩
  clear HT
  obtain ⟨h, hl, hn, hid, hnm⟩ := H.out
  have h3 := h.below b3
  have o3 : Onto C C w2 w3 := Onto.of_below C b3
  have HRm := Lib.hid (relRemIS h3.rel h3.base_le (by have := hl.llen; omega) hid (okKSI_of (k := foldL nm) (by rw [foldL_length]; exact hnm)))
  have K3 := Lib.hid (And.intro h3 o3)
  clear b3 h3 o3 h hl hn hid hnm
  unfold RemRIS at HRm
  obtain ⟨d, hd⟩ : ∃ d, decide ((id, foldL nm) ∈ L) = d := ⟨_, rfl⟩
  rw [hd] at HRm
  have HD := Lib.hid hd
  clear hd
  gi_wp2_with fail
  refine ⟨trivial, (calls_wide (.inl rfl) HRm.out).mono ?_⟩
  rintro e w4 ⟨rfl, X4, hx, hf, hr⟩
  clear HRm
  cases d with
  | false =>
    have hnin : (id, foldL nm) ∉ L := of_decide_eq_false HD.out
    rw [lessNotIS hnin] at hr
    obtain ⟨h3, o3⟩ := K3.out
    obtain ⟨h4, f4⟩ := h3.relTo hf hx hr
    have o4 := (o3.trans (Onto.of_paint f4)).to h4
    have HQ := Lib.hid (And.intro hnin o4)
    clear hnin hx hf hr h3 o3 h4 f4 o4 K3 HD
    gi_wp2_with fail
    (try go_ret)
    rw [← HR.out]
    exact .inl ⟨HQ.out.1, rfl, HQ.out.2⟩
  | true =>
    have hin : (id, foldL nm) ∈ L := of_decide_eq_true HD.out
    obtain ⟨h3, o3⟩ := K3.out
    obtain ⟨h4, f4⟩ := h3.relTo hf hx hr
    have o4 := o3.trans (Onto.of_paint (m := w4.heap.size) (g := (3, [])) f4)
    obtain ⟨C4, hC4⟩ : ∃ C4, paint C w3.heap.size w4.heap.size (3, []) = C4 := ⟨_, rfl⟩
    rw [hC4] at h4 o4
    obtain ⟨h, hl, hn, hid, hnm⟩ := H.out
    obtain ⟨f, hfm, hfk, hmem⟩ := (hl.pairs _ _).1 hin
    have hg := getE_of h.keys hfm
    rw [hfk] at hg
    obtain ⟨Q1, Q2, hQ⟩ := List.append_of_mem hfm
    have hkeys := h.keys
    rw [hQ] at hkeys
    have HG := Lib.hid (get_any h4 nm (by omega))
    unfold GetP at HG
    rw [hg] at HG
    dsimp only [ptE, Option.map_some, Option.map_none, Option.isSome_some, Option.isSome_none] at HG
    have hml := hl.mlen f hfm
    have HQ := Lib.hid (And.intro hin (And.intro o4 (And.intro h4 (And.intro hfm (And.intro hfk (And.intro hmem (And.intro hQ (And.intro hkeys (Nat.le_trans hml hn)))))))))
    clear hin hx hf hr h3 o3 h4 f4 o4 K3 HD hC4 h hl hn hid hnm hfm hfk hmem hg hQ hkeys hml
    gi_wp2_with fail
    refine ⟨trivial, (calls_wide (.inl rfl) HG.out).mono ?_⟩
    rintro e w5 ⟨rfl, b5⟩
    clear HG
    obtain ⟨hin, o4, h4, hfm, hfk, hmem, hQ, hkeys, hml⟩ := HQ.out
    have h5 := h4.below b5
    have o5 := o4.trans (Onto.of_below C4 b5)
    have HDr := Lib.hid (drop_any (h5.each f hfm) id (by omega))
    rw [if_pos hmem] at HDr
    have K5 := Lib.hid (And.intro h5 o5)
    clear b5 h5 o5 hin o4 h4 hfm hfk hmem hQ hkeys hml
    gi_wp2_with fail
    refine ⟨trivial, (calls_wide (.inl rfl) HDr.out).mono ?_⟩
    rintro e w6 ⟨rfl, hc⟩
    clear HDr
    obtain ⟨hin, o4, h4, hfm, hfk, hmem, hQ, hkeys, hml⟩ := HQ.out
    obtain ⟨h5, o5⟩ := K5.out
    rw [hQ] at h5
    obtain ⟨⟨q', h6⟩, f6⟩ := h5.roomTo (r' := dropR f.r id) rfl hc
    have o6 := o5.trans (Onto.of_paint (m := w6.heap.size) (g := (4, keyE f)) f6)
    obtain ⟨C6, hC6⟩ : ∃ C6, paint C4 w5.heap.size w6.heap.size (4, keyE f) = C6 := ⟨_, rfl⟩
    rw [hC6] at h6 o6
    have HL := Lib.hid (rlen_any (h6.each ⟨f.B, q', dropR f.r id⟩ (by simp)))
    have c15 := blk_cell h6.self 15
    have HDl := Lib.hid (bok_delP h6.bok (name := bs nm) (by have := H.out.2.2.2.2; simp; omega))
    have K6 := Lib.hid (And.intro h6 o6)
    obtain ⟨m, hm⟩ : ∃ m, (dropR f.r id).mem.length = m := ⟨_, rfl⟩
    have HM := Lib.hid hm
    have hml2 : m ≤ 1000000 := by
      have h1 : (delMb f.r.mem id).length ≤ f.r.mem.length := by unfold delMb; rw [List.length_append, List.length_take, List.length_drop]; omega
      have : (delMb f.r.mem id).length = m := hm
      omega
    rw [hm] at HL
    clear hin o4 h4 hfm hfk hmem hQ hkeys hml h5 o5 hc h6 f6 o6 hC6 hm
    gi_wp2_with fail
    refine ⟨trivial, (calls_wide (.inl rfl) HL.out).mono ?_⟩
    rintro e w7 ⟨rfl, rfl⟩
    clear HL
    cases m with
    | zero =>
      gi_wp2_with fail
      refine ⟨trivial, (calls_wide (.inl rfl) HDl.out).mono ?_⟩
      rintro e w8 ⟨rfl, hbk, f8⟩
      have K8 := Lib.hid (And.intro hbk f8)
      clear hbk f8 HDl c15
      gi_wp2_with fail
      (try go_ret)
      rw [← HR.out]
      obtain ⟨hin, o4, h4, hfm, hfk, hmem, hQ, hkeys, hml⟩ := HQ.out
      obtain ⟨h6, o6⟩ := K6.out
      obtain ⟨hbk, f8⟩ := K8.out
      rw [bs_toList, delE, ← hfk] at hbk
      have hke : keyE (⟨f.B, q', dropR f.r id⟩ : RmE) = keyE f := rfl
      have hk6 := h6.keys
      have hfl := filterE hk6
      rw [hke] at hfl
      rw [hfl] at hbk
      obtain ⟨h8, g8⟩ := h6.lessTo (Q' := Q1 ++ Q2) (fun e he => by
        rcases List.mem_append.1 he with a | a
        · simp [a]
        · simp [a]) hbk f8
      have o8 : Onto C C6 w2 w8 := o6.trans ⟨fun _ _ => rfl, g8⟩
      exact .inr ⟨Q1, f, Q2, hQ, hfk, hmem, rfl, .inl ⟨List.length_eq_zero_iff.1 HM.out, o8.to h8⟩⟩
    | succ m =>
      clear HDl c15
      have hz : (((m + 1 : Nat) : Int) == 0) = false := by simp; omega
      gi_wp2_with fail
      (try go_ret)
      rw [← HR.out]
      obtain ⟨hin, o4, h4, hfm, hfk, hmem, hQ, hkeys, hml⟩ := HQ.out
      obtain ⟨h6, o6⟩ := K6.out
      exact .inr ⟨Q1, f, Q2, hQ, hfk, hmem, rfl, .inr ⟨(fun e => by have h1 := HM.out; rw [show (dropR f.r id).mem = [] from e] at h1; cases h1), q', o6.to h6⟩⟩
end
end Go.Proofs.YtlkeomcillencaaGreat
end
section
/- Layer 20: what holds of the rooms and the relation stays, whoever joins and parts. -/
namespace Go.Proofs.YtlkeomcillencaaGreat
open Go Go.RowKit Go.Maps Go.Lib

theorem hasM_ins (l : List Mem) (m : Mem) (j : Int) : hasM (insM l m) j = (m.1 == j || hasM l j) := by
  rw [hasM_perm (insM_perm l m) j]; rfl
theorem delMb_perm {l : List Mem} (hu : UpM l) {id : Int} (h : hasM l id = true) : ∃ m : Mem, m.1 = id ∧ l.Perm (m :: delMb l id) := by
  obtain ⟨h2, h3⟩ := ixM_at hu h
  exact ⟨l[ixM l id], h3, delM_perm h2⟩
theorem hasM_del {l : List Mem} (hu : UpM l) {id : Int} (h : hasM l id = true) (j : Int) : hasM (delMb l id) j = (hasM l j && decide (j ≠ id)) := by
  obtain ⟨m, h1, h2⟩ := delMb_perm hu h
  have ha := (hu.apart).perm h2
  unfold Apart at ha
  rw [List.map_cons, List.nodup_cons] at ha
  rw [hasM_perm h2 j]
  have e1 : hasM (m :: delMb l id) j = (m.1 == j || hasM (delMb l id) j) := rfl
  rw [e1, h1]
  by_cases e : j = id
  · subst e
    have : hasM (delMb l j) j = false := hasM_no.2 fun a hm e => ha.1 (by rw [h1]; exact List.mem_map.2 ⟨a, hm, e⟩)
    rw [this]; simp
  · have : (id == j) = false := by simpa using fun e2 => e e2.symm
    rw [this]; simp [e]
theorem delMb_len {l : List Mem} (hu : UpM l) {id : Int} (h : hasM l id = true) : (delMb l id).length + 1 = l.length := by
  obtain ⟨m, h1, h2⟩ := delMb_perm hu h
  rw [h2.length_eq, List.length_cons]
theorem addR_has {r : Rm} {id : Int} {op : Bool} (h : hasM r.mem id = false) (j : Int) : hasM (addR r id op).mem j = (id == j || hasM r.mem j) := by
  unfold addR; rw [h]; exact hasM_ins _ _ _
theorem addR_len {r : Rm} {id : Int} {op : Bool} (h : hasM r.mem id = false) : (addR r id op).mem.length = r.mem.length + 1 := by
  unfold addR; rw [h]; exact insM_len _ _
theorem addR_inv {r : Rm} {id : Int} {op : Bool} (h : r.inv = []) : (addR r id op).inv = [] := by
  unfold addR
  split
  · exact h
  · rw [h]
    exact List.eq_nil_of_length_eq_zero (Nat.le_zero.1 (delAll_len [] [id]))
theorem mem_mid {Q1 Q2 : List RmE} {f e : RmE} : e ∈ Q1 ++ f :: Q2 ↔ e ∈ Q1 ∨ e = f ∨ e ∈ Q2 := by simp
section
variable {Q Q1 Q2 : List RmE} {L : List (Int × List UInt8)} {n : Nat} {f : RmE} {id : Int}
theorem lg_upd (h : RsLg n (Q1 ++ f :: Q2) L) (hm : hasM f.r.mem id = false) (q' : RmV) (op : Bool) : RsLg (n + 1) (Q1 ++ ⟨f.B, q', addR f.r id op⟩ :: Q2) (L ++ [(id, keyE f)]) := by
  have hff : f ∈ Q1 ++ f :: Q2 := by simp
  have hk : keyE (⟨f.B, q', addR f.r id op⟩ : RmE) = keyE f := by unfold keyE; rw [addR_nm]
  refine ⟨fun j k => ?_, fun e he => ?_, ?_, ?_, fun e he => ?_, fun e he => ?_, fun e he => ?_⟩
  · rw [List.mem_append, List.mem_singleton, h.pairs]
    constructor
    · rintro (⟨e, he, h1, h2⟩ | h1)
      · rcases mem_mid.1 he with a | rfl | a
        · exact ⟨e, mem_mid.2 (.inl a), h1, h2⟩
        · exact ⟨_, mem_mid.2 (.inr (.inl rfl)), hk.trans h1, by show hasM (addR e.r id op).mem j = true; rw [addR_has hm, h2]; simp⟩
        · exact ⟨e, mem_mid.2 (.inr (.inr a)), h1, h2⟩
      · cases h1
        exact ⟨_, mem_mid.2 (.inr (.inl rfl)), hk, by show hasM (addR f.r id op).mem id = true; rw [addR_has hm]; simp⟩
    · rintro ⟨e, he, h1, h2⟩
      rcases mem_mid.1 he with a | rfl | a
      · exact .inl ⟨e, mem_mid.2 (.inl a), h1, h2⟩
      · rw [hk] at h1
        have h2 : hasM (addR f.r id op).mem j = true := h2
        rw [addR_has hm, Bool.or_eq_true, beq_iff_eq] at h2
        rcases h2 with rfl | h2
        · exact .inr (by rw [h1])
        · exact .inl ⟨f, hff, h1, h2⟩
      · exact .inl ⟨e, mem_mid.2 (.inr (.inr a)), h1, h2⟩
  · rcases mem_mid.1 he with a | rfl | a
    · exact h.full e (mem_mid.2 (.inl a))
    · intro e1
      have := addR_len (op := op) hm
      rw [show (addR f.r id op).mem = [] from e1] at this
      simp at this
    · exact h.full e (mem_mid.2 (.inr (.inr a)))
  · have := h.qlen; simp at this ⊢; omega
  · have := h.llen; simp; omega
  · rcases mem_mid.1 he with a | rfl | a
    · exact Nat.le_succ_of_le (h.mlen e (mem_mid.2 (.inl a)))
    · show (addR f.r id op).mem.length ≤ n + 1
      rw [addR_len hm]
      exact Nat.succ_le_succ (h.mlen f hff)
    · exact Nat.le_succ_of_le (h.mlen e (mem_mid.2 (.inr (.inr a))))
  · rcases mem_mid.1 he with a | rfl | a
    · exact h.inv e (mem_mid.2 (.inl a))
    · exact addR_inv (h.inv f hff)
    · exact h.inv e (mem_mid.2 (.inr (.inr a)))
  · rcases mem_mid.1 he with a | rfl | a
    · exact h.nms e (mem_mid.2 (.inl a))
    · show (addR f.r id op).nm.length ≤ 1000
      rw [addR_nm]; exact h.nms f hff
    · exact h.nms e (mem_mid.2 (.inr (.inr a)))
theorem lg_new (h : RsLg n Q L) (nm : List UInt8) (hn : nm.length ≤ 1000) (mb : Int) (B : Nat) (q : RmV) (op : Bool) : RsLg (n + 1) (Q ++ [⟨B, q, addR (rm0 nm mb) id op⟩]) (L ++ [(id, foldL nm)]) := by
  have hm : hasM (rm0 nm mb).mem id = false := rfl
  have hk : keyE (⟨B, q, addR (rm0 nm mb) id op⟩ : RmE) = foldL nm := by unfold keyE; rw [addR_nm]; rfl
  refine ⟨fun j k => ?_, fun e he => ?_, ?_, ?_, fun e he => ?_, fun e he => ?_, fun e he => ?_⟩
  · rw [List.mem_append, List.mem_singleton, h.pairs]
    constructor
    · rintro (⟨e, he, h1, h2⟩ | h1)
      · exact ⟨e, List.mem_append.2 (.inl he), h1, h2⟩
      · cases h1
        exact ⟨_, List.mem_append.2 (.inr (List.mem_singleton.2 rfl)), hk, by show hasM (addR (rm0 nm mb) id op).mem id = true; rw [addR_has hm]; simp⟩
    · rintro ⟨e, he, h1, h2⟩
      rcases List.mem_append.1 he with a | a
      · exact .inl ⟨e, a, h1, h2⟩
      · obtain rfl := List.mem_singleton.1 a
        rw [hk] at h1
        have h2 : hasM (addR (rm0 nm mb) id op).mem j = true := h2
        rw [addR_has hm, Bool.or_eq_true, beq_iff_eq] at h2
        rcases h2 with rfl | h2
        · exact .inr (by rw [h1])
        · cases h2
  · rcases List.mem_append.1 he with a | a
    · exact h.full e a
    · obtain rfl := List.mem_singleton.1 a
      intro e1
      have := addR_len (op := op) hm
      rw [show (addR (rm0 nm mb) id op).mem = [] from e1] at this
      simp at this
  · have := h.qlen; simp; omega
  · have := h.llen; simp; omega
  · rcases List.mem_append.1 he with a | a
    · exact Nat.le_succ_of_le (h.mlen e a)
    · obtain rfl := List.mem_singleton.1 a
      show (addR (rm0 nm mb) id op).mem.length ≤ n + 1
      rw [addR_len hm]
      show 0 + 1 ≤ n + 1
      omega
  · rcases List.mem_append.1 he with a | a
    · exact h.inv e a
    · obtain rfl := List.mem_singleton.1 a
      exact addR_inv rfl
  · rcases List.mem_append.1 he with a | a
    · exact h.nms e a
    · obtain rfl := List.mem_singleton.1 a
      show (addR (rm0 nm mb) id op).nm.length ≤ 1000
      rw [addR_nm]; exact hn
theorem keys_oth (hn : ((Q1 ++ f :: Q2).map keyE).Nodup) {e : RmE} (he : e ∈ Q1 ∨ e ∈ Q2) : keyE e ≠ keyE f := by
  rw [List.map_append, List.map_cons, List.nodup_append, List.nodup_cons] at hn
  rcases he with a | a
  · exact hn.2.2 _ (List.mem_map_of_mem a) _ (List.mem_cons_self ..)
  · exact fun e1 => hn.2.1.1 (e1 ▸ List.mem_map_of_mem a)
theorem lg_drop (h : RsLg n (Q1 ++ f :: Q2) L) (hk : ((Q1 ++ f :: Q2).map keyE).Nodup) (hu : UpM f.r.mem) (hm : hasM f.r.mem id = true) (hne : delMb f.r.mem id ≠ []) (q' : RmV) : RsLg n (Q1 ++ ⟨f.B, q', dropR f.r id⟩ :: Q2) (lessLIS L id (keyE f)) := by
  have hff : f ∈ Q1 ++ f :: Q2 := by simp
  have hke : keyE (⟨f.B, q', dropR f.r id⟩ : RmE) = keyE f := rfl
  refine ⟨fun j k => ?_, fun e he => ?_, ?_, ?_, fun e he => ?_, fun e he => ?_, fun e he => ?_⟩
  · rw [lessMemIS, h.pairs]
    constructor
    · rintro ⟨⟨e, he, h1, h2⟩, h3⟩
      rcases mem_mid.1 he with a | rfl | a
      · exact ⟨e, mem_mid.2 (.inl a), h1, h2⟩
      · refine ⟨_, mem_mid.2 (.inr (.inl rfl)), h1, ?_⟩
        show hasM (delMb e.r.mem id) j = true
        rw [hasM_del hu hm, h2]
        have : j ≠ id := fun e2 => h3 (by rw [e2, h1])
        simpa using this
      · exact ⟨e, mem_mid.2 (.inr (.inr a)), h1, h2⟩
    · rintro ⟨e, he, h1, h2⟩
      rcases mem_mid.1 he with a | rfl | a
      · exact ⟨⟨e, mem_mid.2 (.inl a), h1, h2⟩, fun e2 => keys_oth hk (.inl a) (by rw [h1]; exact (Prod.mk.inj e2).2)⟩
      · have h2 : hasM (delMb f.r.mem id) j = true := h2
        rw [hasM_del hu hm, Bool.and_eq_true, decide_eq_true_eq] at h2
        exact ⟨⟨f, hff, h1, h2.1⟩, fun e2 => h2.2 (Prod.mk.inj e2).1⟩
      · exact ⟨⟨e, mem_mid.2 (.inr (.inr a)), h1, h2⟩, fun e2 => keys_oth hk (.inr a) (by rw [h1]; exact (Prod.mk.inj e2).2)⟩
  · rcases mem_mid.1 he with a | rfl | a
    · exact h.full e (mem_mid.2 (.inl a))
    · exact hne
    · exact h.full e (mem_mid.2 (.inr (.inr a)))
  · have := h.qlen; simp at this ⊢; omega
  · unfold lessLIS; exact Nat.le_trans (List.length_filter_le _ _) h.llen
  · rcases mem_mid.1 he with a | rfl | a
    · exact h.mlen e (mem_mid.2 (.inl a))
    · show (delMb f.r.mem id).length ≤ n
      have := delMb_len hu hm
      have := h.mlen f hff
      omega
    · exact h.mlen e (mem_mid.2 (.inr (.inr a)))
  · rcases mem_mid.1 he with a | rfl | a
    · exact h.inv e (mem_mid.2 (.inl a))
    · exact h.inv f hff
    · exact h.inv e (mem_mid.2 (.inr (.inr a)))
  · rcases mem_mid.1 he with a | rfl | a
    · exact h.nms e (mem_mid.2 (.inl a))
    · exact h.nms f hff
    · exact h.nms e (mem_mid.2 (.inr (.inr a)))
theorem lg_gone (h : RsLg n (Q1 ++ f :: Q2) L) (hk : ((Q1 ++ f :: Q2).map keyE).Nodup) (hu : UpM f.r.mem) (hm : hasM f.r.mem id = true) (hne : delMb f.r.mem id = []) : RsLg n (Q1 ++ Q2) (lessLIS L id (keyE f)) := by
  have hff : f ∈ Q1 ++ f :: Q2 := by simp
  have sub : ∀ {e : RmE}, e ∈ Q1 ++ Q2 → e ∈ Q1 ++ f :: Q2 ∧ keyE e ≠ keyE f := fun {e} he => by
    rcases List.mem_append.1 he with a | a
    · exact ⟨mem_mid.2 (.inl a), keys_oth hk (.inl a)⟩
    · exact ⟨mem_mid.2 (.inr (.inr a)), keys_oth hk (.inr a)⟩
  refine ⟨fun j k => ?_, fun e he => h.full e (sub he).1, ?_, ?_, fun e he => h.mlen e (sub he).1, fun e he => h.inv e (sub he).1, fun e he => h.nms e (sub he).1⟩
  · rw [lessMemIS, h.pairs]
    constructor
    · rintro ⟨⟨e, he, h1, h2⟩, h3⟩
      rcases mem_mid.1 he with a | rfl | a
      · exact ⟨e, List.mem_append.2 (.inl a), h1, h2⟩
      · exfalso
        have h4 : hasM (delMb e.r.mem id) j = true := by
          rw [hasM_del hu hm, h2]
          have : j ≠ id := fun e2 => h3 (by rw [e2, h1])
          simpa using this
        rw [hne] at h4; cases h4
      · exact ⟨e, List.mem_append.2 (.inr a), h1, h2⟩
    · rintro ⟨e, he, h1, h2⟩
      exact ⟨⟨e, (sub he).1, h1, h2⟩, fun e2 => (sub he).2 (by rw [h1]; exact (Prod.mk.inj e2).2)⟩
  · have := h.qlen; simp at this ⊢; omega
  · unfold lessLIS; exact Nat.le_trans (List.length_filter_le _ _) h.llen
end
end Go.Proofs.YtlkeomcillencaaGreat
end
section
/- Layer 20: All. -/
namespace Go.Proofs.YtlkeomcillencaaGreat
open Go Go.RowKit Go.Maps Go.Sort Go.Shelf Go.Lib
attribute [local go_sem] Oper.semAt_some

theorem perm_map_lift {α β : Type} {g : α → β} {A B : List β} (h : A.Perm B) : ∀ Q : List α, B = Q.map g → ∃ S : List α, S.Perm Q ∧ S.map g = A := by
  induction h with
  | nil => intro Q hQ; exact ⟨Q, List.Perm.refl _, hQ.symm⟩
  | cons x _ ih =>
    intro Q hQ
    cases Q with
    | nil => cases hQ
    | cons q Q =>
      rw [List.map_cons] at hQ
      injection hQ with h1 h2
      obtain ⟨S, s1, s2⟩ := ih Q h2
      exact ⟨q :: S, s1.cons q, by rw [List.map_cons, s2, h1]⟩
  | swap x y l =>
    intro Q hQ
    match Q, hQ with
    | [], hQ => cases hQ
    | [a], hQ => cases hQ
    | a :: b :: Q, hQ =>
      rw [List.map_cons, List.map_cons] at hQ
      injection hQ with h1 h2
      injection h2 with h2 h3
      exact ⟨b :: a :: Q, List.Perm.swap .., by rw [List.map_cons, List.map_cons, h1, h2, h3]⟩
  | trans _ _ ih1 ih2 =>
    intro Q hQ
    obtain ⟨S, s1, s2⟩ := ih2 Q hQ
    obtain ⟨S2, t1, t2⟩ := ih1 S s2.symm
    exact ⟨S2, t1.trans s1, t2⟩
def thB (e : Ent VP) : Nat := e.thing.getD 0
theorem wantE_all (T : List (KeyB × Ent VP)) : wantEP [] T = T.map (·.2) := by
  unfold wantEP
  rw [List.filter_eq_self.2]
  intro p _
  simp
/-- a box with a row of rooms: its blocks are X -/
def BoxPr (S base : Nat) {α : Type} (g : List α → List Nat) (pre : List α) (X : Nat → Prop) (W : World) : Prop := ∃ v, W.heap[S]? = some (.cells #[v] 104 (0, 0)) ∧ OwnPr base W v (g pre) ∧ S < base ∧ ∀ k, X k ↔ (k = S ∨ v.ownBlock = some k)
theorem boxPr_stays (S base : Nat) {α : Type} (g : List α → List Nat) : Stays (BoxPr S base g) := fun pre X V V' ⟨v, h1, h2, h3, h4⟩ hl hf =>
  ⟨v, hf.blk h1 (fun e => e ((h4 S).2 (.inl rfl))), ownPr_kept h2 fun g hg => hf.block g (h2.lt g hg).2 fun e => e ((h4 g).2 (.inr hg)), h3, h4⟩
/-- what All gives -/
def AllRs (Q : List RmE) (w : World) (e : Ending) (w' : World) : Prop := (∃ (F : Value) (S : List RmE), e = .returned F ∧ TalePr w.heap.size w' F (S.map (·.B)) ∧ (S.Pairwise fun x y => keyE x < keyE y) ∧ S.Perm Q) ∧ RowKit.Below w.heap.size w w'
set_option maxRecDepth 100000 in
set_option maxHeartbeats 8000000 in
theorem all_any {base : Nat} {w : World} {R t b tr : Nat} {X : Nat → Prop} {C : Nat → Tag} {mr mj mb : Int} {Q : List RmE} {L : List (Int × List UInt8)} (h : RsPh base w R t b tr X C mr mj mb Q L) (hq : Q.length ≤ 100000) :
    Calls Tryz.prog 24 #[.pointer (some ⟨R, 0, none⟩)] w (AllRs Q w) := by
  obtain ⟨i0, hi, hz0, hz1, hz2⟩ := info_parts Tryz.infoPr
  obtain ⟨w1, hw1⟩ : ∃ w1, w.alloc (Obj.cells #[Value.slice none 0 0] 104) = w1 := ⟨_, rfl⟩
  have z1 : w1.heap.size = w.heap.size + 1 := by rw [← hw1]; simp
  have f1 : Fr (fun _ => False) w w1 := by rw [← hw1]; exact (Fr.refl _ w).alloc _
  have hb1 : w1.heap[w.heap.size]? = some (.cells #[.slice none 0 0] 104 (0, 0)) := by rw [← hw1]; exact heap_alloc_new w _
  have h1 := h.fr f1 fun _ _ e => e
  have HR := Lib.hid (rooms_any h1)
  have HA := Lib.hid (all_bookP h1.bok (by rw [List.length_map]; omega))
  have H := Lib.hid (And.intro f1 (And.intro hb1 (And.intro z1 hq)))
  have HW := Lib.hid hw1
  clear h h1 f1 hb1 z1 hw1 hq
  refine (callsIn_wide (n := 20)).1 ?_
  refine callsIn_of_wp_marks Tryz.func24 rfl trivial ?_ rfl
  simp only [Tryz.ntmps24, List.size_toArray, List.length_cons, List.length_nil, Nat.reduceAdd, Nat.reduceSub, Array.replicate_succ, Array.replicate_zero, List.push_toArray, List.append_toArray, List.nil_append, List.cons_append]
  gi_wp2_with fail
  rw [HW.out]
  refine ⟨trivial, (calls_wide (.inl rfl) HR.out).mono ?_⟩
  rintro e w2 ⟨rfl, rfl⟩
  clear HW HR
  gi_wp2_with fail
  refine ⟨trivial, (calls_wide (.inl rfl) HA.out).mono ?_⟩
  rintro e w3 ⟨⟨F, Rr, rfl, hT, hp1, hp2⟩, f3⟩
  clear HA
  rw [wantE_all, List.map_map] at hp2
  obtain ⟨S, hS1, hS2⟩ := perm_map_lift hp2 Q rfl
  have hRl : Rr.length ≤ 100000 := by rw [hp2.length_eq, List.length_map]; exact H.out.2.2.2
  have hsome : ∀ e ∈ Rr, ∃ B, e.thing = some B := fun e he => by
    rw [← hS2] at he
    obtain ⟨f, _, rfl⟩ := List.mem_map.1 he
    exact ⟨f.B, rfl⟩
  have hRB : Rr.map thB = S.map (·.B) := by
    rw [← hS2, List.map_map]
    rfl
  have hSk : S.Pairwise fun x y => keyE x < keyE y := by
    rw [← hS2, List.pairwise_map] at hp1
    exact hp1
  obtain ⟨Y, hYb, gf, lb, rfl, hseq, hYl, heg⟩ := taleEP_tells hT (by omega)
  have f1 := H.out.1
  have hb1 := H.out.2.1
  have z1 := H.out.2.2.1
  have z3 := f3.size
  have hb3 := f3.blk hb1 fun e => e
  have hY3 : ∀ k, Y k → k ≠ w.heap.size := fun k hk => by have := hYb k hk; omega
  have K := Lib.hid (And.intro f3 (And.intro hb3 (And.intro hsome (And.intro hRB (And.intro hSk (And.intro hS1 (And.intro hRl z3)))))))
  clear hT hp1 hp2 hS2
  gi_wp2_with fail
  refine wpIn_rangeF (X := fun k => k = w.heap.size) (Y := Y) (xs := Rr) (encs := encPP) (gf := gf) (lb := lb) (BoxPr w.heap.size w3.heap.size (List.map thB)) (fun _ _ _ _ => False)
    rfl hseq (fun k hk => ⟨by omega, fun e => hY3 k e hk⟩) hYl (by omega) heg (fun _ => rfl)
    (boxPr_stays _ _ _) (fun c s X1 V1 V2 h => h.elim) ⟨_, hb3, ownPr_nil _ _, by omega, fun k => by simp [Value.ownBlock]⟩ ?round ?done (fun _ _ _ _ _ _ _ _ _ _ _ h => h.elim)
  case round =>
    rintro l pre ⟨y, yf, at_⟩ r X1 V KK rb hl2 hpx hI hG hxl hF hlV hK
    obtain ⟨B, hB⟩ := hsome ⟨y, yf, at_⟩ (by rw [← hpx]; simp)
    obtain rfl : at_ = some B := hB
    dsimp only [encPP, thVP, adP]
    have HK := Lib.hid hK
    have HV := Lib.hid (And.intro hpx (And.intro hI (And.intro hG (And.intro hxl (And.intro hF (And.intro hlV hl2))))))
    clear hK hpx hI hG hxl hF hlV hl2 hseq hYl heg hYb hY3 f1 hb1 z1 z3 hb3 hsome hRB hSk hS1 hRl f3
    gi_wp2_with fail
    refine HK.out _ _ (Fr.refl _ _) fun Vb hfb hzb hsb hrb => ?_
    clear HK KK
    obtain ⟨hpx, ⟨vb, k3, o3, hSl, hX1⟩, hG, hxl, hF, hlV, hl2⟩ := HV.out
    obtain ⟨f3, hb3, hsome, hRB, hSk, hS1, hRl, z3⟩ := K.out
    obtain ⟨f1, hb1, z1, hq⟩ := H.out
    have hpl : pre.length + 1 ≤ Rr.length := by
      have := congrArg List.length hpx
      simp at this; omega
    have k3b := hfb.blk k3 (by omega : ¬ w.heap.size = l)
    have o3b : OwnPr w3.heap.size Vb vb (pre.map thB) := ownPr_kept o3 fun g hg => hfb.block g (o3.lt g hg).2 fun e => hxl ((hX1 l).2 (.inr (e ▸ hg)))
    have c3 := blk_cell k3b 0
    have hzs : Vb.heap.size = V.heap.size := hzb
    have hbz : w3.heap.size ≤ Vb.heap.size := by omega
    obtain ⟨ps, hps⟩ : ∃ ps, pre.map thB = ps := ⟨_, rfl⟩
    have hpsl : ps.length ≤ 1000000 := by rw [← hps, List.length_map]; omega
    rw [hps] at o3b
    have hor : Vb.ownsRow w3.heap.size 37 1 vb ps.length (ps.map encPr) := o3b
    have HO := Lib.hid hor
    have HE := Lib.hid (And.intro hX1 (And.intro hG (And.intro hxl (And.intro hfb (And.intro hrb (And.intro k3b (And.intro o3b (And.intro hzs (And.intro hlV (And.intro hSl (And.intro hl2 hps)))))))))))
    clear hpx k3 o3 hSl hX1 hG hxl hF hlV hl2 f3 hb3 hsome hRB hSk hS1 hRl z3 f1 hb1 z1 hq k3b o3b hor hfb hzb hsb hrb hzs hps hpl
    have hlen : ∀ W, (Builtin.len_ #[104] 3 #[vb]).run Tryz.prog W = .ok (.int .i64 ps.length) W := fun W => by obtain ⟨A, cp, rfl⟩ := row_slice HO.out; rfl
    gi_wp2_with (first | (gi_at_builtin; refine Hid.out ?_) | simp only [hlen])
    refine Lib.hid ?_
    refine wpListIn_one_t rfl _ _ 104 rfl w3.heap.size 37 i0 _ 1 8 Tryz.underlying104 hi hz0 hz1 hz2 rfl (by decide) _ _ _ rfl HO.out #[.pointer (some ⟨B, 0, none⟩)] _ rfl rfl rfl (by intro u hu; simp at hu; subst hu; rfl) (by omega) (by decide) hbz ?_
    intro v1 W2 hown1 hfr1 htie
    obtain ⟨A1, c1', rfl⟩ := row_slice hown1
    have hn3 : ∀ k, vb.ownBlock = some k → k ≠ w.heap.size := fun k hk e => by have := (HO.out.lt k hk).1; have := HE.out.2.2.2.2.2.2.2.2.2.1; omega
    have e1 : W2.heap[w.heap.size]? = some (.cells #[vb] 104 (0, 0)) := hfr1.blk HE.out.2.2.2.2.2.1 fun e => hn3 _ e rfl
    have g1 := blk_cell e1 0
    have g2 := blk_free e1 0
    have HN := Lib.hid hn3
    clear hn3
    gi_wp2_with fail
    obtain ⟨hX1, hG, hxl, hfb, hrb, k3b, o3b, hzs, hlV, hSl, hl2, hps⟩ := HE.out
    have hn3 := HN.out
    have hown2 : OwnPr w3.heap.size W2 (.slice A1 (ps.length + 1) c1') (ps ++ [B]) := ownPr_snoc hown1
    have hnx : (Value.slice A1 (ps.length + 1) c1').ownBlock ≠ some w.heap.size := fun e => by have := (hown2.lt _ e).1; omega
    have hfr : Fr (fun k => k = l ∨ X1 k) V (W2.setCell ⟨w.heap.size, 0, none⟩ (.slice A1 (ps.length + 1) c1')) :=
      (((hfb.mono (Y := fun k => k = l ∨ X1 k) fun k _ e => .inl e).trans3 hfr1 fun k _ e => .inr ((hX1 k).2 (.inr e)))).setCell _ (.inr ((hX1 _).2 (.inl rfl))) _
    refine ⟨fun k => k = w.heap.size ∨ (Value.slice A1 (ps.length + 1) c1').ownBlock = some k, fun k hk => ?_, hfr, ?_, .slice A1 (ps.length + 1) c1', blk_set e1 0 _, ?_, hSl, fun k => Iff.rfl⟩
    · have hz2 := hfr1.size
      have hsz : (W2.setCell ⟨w.heap.size, 0, none⟩ (.slice A1 (ps.length + 1) c1')).heap.size = W2.heap.size := by simp
      rw [hsz]
      rcases hk with rfl | hk
      · exact ⟨blk_lt e1, fun _ => (hX1 _).2 (.inl rfl)⟩
      · refine ⟨(hown2.lt k hk).2, fun hlt => ?_⟩
        rcases htie k hk with e | e
        · exact (hX1 k).2 (.inr e)
        · omega
    · have hl3 : ¬ vb.ownBlock = some l := fun e => hxl ((hX1 l).2 (.inr e))
      exact blk_other (hfr1.blk hrb hl3) _ (by simp; omega) _
    · have hmap : (pre ++ [(⟨y, yf, some B⟩ : Ent VP)]).map thB = ps ++ [B] := by rw [List.map_append, hps]; rfl
      rw [hmap]
      exact ownPr_kept hown2 fun g hg => heap_setCell_other W2 _ g _ fun e => by simp at e; exact hnx (e ▸ hg)
  case done =>
    rintro D X2 V hD hxD hG hF ⟨v, k3, o3, hSl, hX2⟩ hdef
    obtain ⟨A, cp, rfl⟩ := row_slice o3
    rw [hRB] at o3 k3 hX2
    obtain ⟨sb, hsb⟩ : ∃ sb, S.map (·.B) = sb := ⟨_, rfl⟩
    rw [hsb] at o3 k3 hX2
    have HSB := Lib.hid hsb
    clear hsb
    have c3 := blk_cell k3 0
    have HV := Lib.hid (values_callsPr A sb.length cp V)
    have HE := Lib.hid (And.intro k3 (And.intro o3 (And.intro hF (And.intro hdef (And.intro hxD (And.intro hX2 (And.intro hSl hD)))))))
    clear k3 o3 hF hdef hxD hX2 hSl hD hG hseq hYl heg hYb hY3 f1 hb1 z1 z3 hb3 hsome hRB hSk hS1 hRl f3
    gi_wp2_with fail
    refine ⟨trivial, (calls_wide (.inl rfl) HV.out).mono ?_⟩
    intro e W4 hv
    obtain ⟨k3, o3, hF, hdef, hxD, hX2, hSl, hD⟩ := HE.out
    have hV3 : w3.heap.size ≤ V.heap.size := hF.size
    obtain ⟨F, rfl, hT, hb⟩ := tale_ofPr hV3 o3 hv
    have d4 := (Fr.of_below (X := fun _ => False) hb).blk hdef fun e => e
    have HQ := Lib.hid (And.intro hT (And.intro hb d4))
    clear k3 o3 hF hdef hxD hX2 hSl hD hT hb d4 hv c3 HV hV3
    gi_wp2_with fail
    obtain ⟨hT, hb, d4⟩ := HQ.out
    obtain ⟨k3, o3, hF, hdef, hxD, hX2, hSl, hD⟩ := HE.out
    obtain ⟨f3, hb3, hsome, hRB, hSk, hS1, hRl, z3⟩ := K.out
    obtain ⟨f1, hb1, z1, hq⟩ := H.out
    have f4 : RowKit.Below w.heap.size w W4 := by
      have h5 : Fr (fun k => k = w.heap.size) w V := ((f1.mono (Y := fun k => k = w.heap.size) fun _ _ e => e.elim).trans3 f3 fun _ _ e => e.elim).trans3 hF fun k _ e => e
      exact (h5.below (Nat.le_refl _) fun k hk e => by omega).trans (hb.mono h5.size)
    refine leaves_one D _ d4 fun w' hf => ?_
    refine ⟨F, by simp [results, Tryz.results24, go_sem], ⟨F, S, rfl, ?_, hSk, hS1⟩, f4.trans (hf.below f4.size fun k _ e => by omega)⟩
    rw [HSB.out]
    obtain ⟨B, v, t1, t2, t3, t4, t5⟩ := hT
    have hBn : B ≠ D := fun e => by rw [e, d4] at t3; cases t3
    refine ⟨B, v, by omega, t2, hf.blk t3 hBn, t4, ownPr_base (ownPr_kept t5 fun g hg => hf.block g (t5.lt g hg).2 fun e => ?_) (by omega)⟩
    rcases t5.2 with ⟨q1, _⟩ | ⟨g2, cap, cur, q1, _, q2, _⟩
    · rw [q1] at hg; cases hg
    · rw [q1] at hg; cases hg
      have e2 : g2 = D := e
      rw [e2, d4] at q2; cases q2
end Go.Proofs.YtlkeomcillencaaGreat
end
section
/- Layer 20: Of. -/
namespace Go.Proofs.YtlkeomcillencaaGreat
open Go Go.RowKit Go.Maps Go.Sort Go.Shelf Go.Lib
attribute [local go_sem] Oper.semAt_some

/-- where the room under a folded name lies -/
def bkE (Q : List RmE) (k : List UInt8) : Nat := ((getE Q k).map (·.B)).getD 0
/-- what Of gives -/
def OfRs (Q : List RmE) (id : Int) (w : World) (e : Ending) (w' : World) : Prop := (∃ (F : Value) (S : List RmE), e = .returned F ∧ TalePr w.heap.size w' F (S.map (·.B)) ∧ (S.Pairwise fun x y => keyE x < keyE y) ∧ S.Perm (ofQ Q id)) ∧ RowKit.Below w.heap.size w w'
/-- somebody's folded names, rising, and the rooms that they mean -/
theorem ofQ_row {n : Nat} {Q : List RmE} {L : List (Int × List UInt8)} (hl : RsLg n Q L) (hk : (Q.map keyE).Nodup) {id : Int} {xs : List (List UInt8)} (h1 : xs.Pairwise (· < ·)) (h2 : ∀ k, k ∈ xs ↔ (id, k) ∈ L) :
    ∃ S : List RmE, S.Perm (ofQ Q id) ∧ S.map keyE = xs ∧ xs.map (bkE Q) = S.map (·.B) ∧ (S.Pairwise fun x y => keyE x < keyE y) ∧ (∀ k ∈ xs, foldL k = k ∧ ∃ e, getE Q k = some e ∧ e ∈ Q) ∧ (∀ e ∈ S, e ∈ Q ∧ hasM e.r.mem id = true) := by
  obtain ⟨S, s1, s2⟩ := perm_map_lift (hl.of_perm hk h1 h2) _ rfl
  have hSQ : ∀ e ∈ S, e ∈ Q ∧ hasM e.r.mem id = true := fun e he => by
    have := s1.mem_iff.1 he
    exact ⟨(List.mem_filter.1 this).1, (List.mem_filter.1 this).2⟩
  have hget : ∀ e ∈ S, getE Q (keyE e) = some e := fun e he => getE_of hk (hSQ e he).1
  refine ⟨S, s1, s2, ?_, ?_, fun k hk2 => ?_, hSQ⟩
  · rw [← s2, List.map_map]
    refine List.map_congr_left fun e he => ?_
    show bkE Q (keyE e) = e.B
    unfold bkE
    rw [hget e he]; rfl
  · rw [← s2, List.pairwise_map] at h1
    exact h1
  · rw [← s2] at hk2
    obtain ⟨e, he, rfl⟩ := List.mem_map.1 hk2
    exact ⟨by unfold keyE; exact foldL_idem _, e, hget e he, (hSQ e he).1⟩
set_option maxRecDepth 100000 in
set_option maxHeartbeats 8000000 in
theorem of_any {base : Nat} {w : World} {R t b tr : Nat} {X : Nat → Prop} {C : Nat → Tag} {mr mj mb : Int} {Q : List RmE} {L : List (Int × List UInt8)} (h : RsPh base w R t b tr X C mr mj mb Q L) {n : Nat} (hl : RsLg n Q L) (hn : n ≤ 80000) {id : Int} (hid : OkKIS id) :
    Calls Tryz.prog 25 #[.pointer (some ⟨R, 0, none⟩), .int .i64 id] w (OfRs Q id w) := by
  obtain ⟨i0, hi, hz0, hz1, hz2⟩ := info_parts Tryz.infoPr
  obtain ⟨xs, x1, x2, x3, x4⟩ := ofAtIS h.rel (by have := hl.llen; omega) hid
  obtain ⟨S, hS1, hS2, hSB, hSk, hSx, hSQ⟩ := ofQ_row hl h.keys x1 x2
  have hxl : xs.length ≤ 100000 := by have := hl.llen; omega
  have hnx : ∀ k ∈ xs, k.length ≤ 1000000 := fun k hk => by have := hl.keyLen ((x2 k).1 hk); omega
  obtain ⟨N, hN⟩ : ∃ N, w.heap.size = N := ⟨_, rfl⟩
  obtain ⟨w1, hw1⟩ : ∃ w1, (w.alloc (Obj.cells #[.pointer (some ⟨R, 0, none⟩)] 25)).alloc (Obj.cells #[Value.slice none 0 0] 104) = w1 := ⟨_, rfl⟩
  have z1 : w1.heap.size = N + 2 := by rw [← hw1, ← hN]; simp
  have f1 : Fr (fun _ => False) w w1 := by rw [← hw1]; exact ((Fr.refl _ w).alloc _).alloc _
  have hb0 : w1.heap[N]? = some (.cells #[.pointer (some ⟨R, 0, none⟩)] 25 (0, 0)) := by rw [← hw1, ← hN]; exact blk_alloc (heap_alloc_new w _) _
  have hb1 : w1.heap[N + 1]? = some (.cells #[.slice none 0 0] 104 (0, 0)) := by rw [← hw1, ← hN]; exact heap_alloc2_new w _ _
  have h1 := h.fr f1 fun _ _ e => e
  have hC : ∀ k, N ≤ k → C k = tag0 := fun k hk => h.cN k (by omega)
  have HR := Lib.hid (joined_any h1)
  have HA := Lib.hid (x4 w1 f1)
  have H := Lib.hid (And.intro f1 (And.intro hb0 (And.intro hb1 (And.intro z1 (And.intro h1 (And.intro hC (And.intro hSB (And.intro hSk (And.intro hSx (And.intro hnx hS1))))))))))
  have HW := Lib.hid (And.intro hN hw1)
  have c0 := blk_cell hb0 0
  clear h h1 f1 hb0 hb1 z1 hw1 hl hn hid x1 x2 x3 x4 hS2 hSB hSk hSx hSQ hS1 hN hC hnx
  refine (callsIn_wide (n := 20)).1 ?_
  refine callsIn_of_wp_marks Tryz.func25 rfl trivial ?_ rfl
  simp only [Tryz.ntmps25, List.size_toArray, List.length_cons, List.length_nil, Nat.reduceAdd, Nat.reduceSub, Array.replicate_succ, Array.replicate_zero, List.push_toArray, List.append_toArray, List.nil_append, List.cons_append]
  gi_wp2_with fail
  rw [HW.out.1]
  rw [HW.out.2]
  refine ⟨trivial, (calls_wide (.inl rfl) HR.out).mono ?_⟩
  rintro e w2 ⟨rfl, rfl⟩
  clear HR c0
  gi_wp2_with fail
  refine ⟨trivial, (calls_wide (.inl rfl) HA.out).mono ?_⟩
  rintro e w3 ⟨⟨F, rfl, hT⟩, hb3⟩
  clear HA
  have f3 : Fr (fun _ => False) w2 w3 := Fr.of_below hb3
  obtain ⟨Y, hYb, gf, lb, rfl, hseq, hYl, heg⟩ := tellsT_tale (show TaleT w2.heap.size w3 F xs from hT) (by omega)
  obtain ⟨f1, hb0, hb1, z1, h1, hC, hSB, hSk, hSx, hnx, hS1⟩ := H.out
  have z3 := f3.size
  have j0 := f3.blk hb0 fun e => e
  have j1 := f3.blk hb1 fun e => e
  have h3 := h1.fr f3 fun _ _ e => e
  have hY3 : ∀ k, Y k → N + 2 ≤ k := fun k hk => by have := hYb k hk; omega
  have hN := HW.out.1
  have K := Lib.hid (And.intro f3 (And.intro j0 (And.intro j1 (And.intro h3 (And.intro z3 hN)))))
  clear hT hb3 f1 hb0 hb1 h1 HW
  gi_wp2_with fail
  refine wpIn_rangeF (X := fun k => k = N + 1) (Y := Y) (xs := xs) (encs := encL) (gf := gf) (lb := lb) (BoxPr (N + 1) w3.heap.size (List.map (bkE Q))) (fun _ _ _ _ => False)
    rfl hseq (fun k hk => ⟨by omega, fun e => by have := hY3 k e; omega⟩) hYl (by omega) heg (fun _ => rfl)
    (boxPr_stays _ _ _) (fun c s X1 V1 V2 h => h.elim) ⟨_, j1, ownPr_nil _ _, by omega, fun k => by simp [Value.ownBlock]⟩ ?round ?done (fun _ _ _ _ _ _ _ _ _ _ _ h => h.elim)
  case round =>
    rintro l pre x r X1 V KK rb hl2 hpx hI hG hxl2 hF hlV hK
    have hxm : x ∈ xs := by rw [← hpx]; simp
    obtain ⟨hfx, f, hgx, hfQ⟩ := hSx x hxm
    have hxlen := hnx x hxm
    dsimp only [encL]
    have HK := Lib.hid hK
    have HV := Lib.hid (And.intro hpx (And.intro hI (And.intro hG (And.intro hxl2 (And.intro hF (And.intro hlV hl2))))))
    have HX := Lib.hid (And.intro hfx (And.intro hgx hxlen))
    clear hK hpx hI hG hxl2 hF hlV hl2 hseq hYl heg hYb hY3 z1 z3 j0 j1 h3 hSB hSk hSx hS1 hC f3 hN hxm hfx hgx hfQ hxlen hnx
    gi_wp2_with fail
    refine HK.out _ _ (Fr.refl _ _) fun Vb hfb hzb hsb hrb => ?_
    clear HK KK
    obtain ⟨hpx, ⟨vb, k3, o3, hSl, hX1⟩, hG, hxl2, hF, hlV, hl2⟩ := HV.out
    obtain ⟨f3, j0, j1, h3, z3, hN⟩ := K.out
    have z1 := H.out.2.2.2.1
    have hC := H.out.2.2.2.2.2.1
    have hpl : pre.length + 1 ≤ xs.length := by
      have := congrArg List.length hpx
      simp at this; omega
    have k3b := hfb.blk k3 (by omega : ¬ N + 1 = l)
    have o3b : OwnPr w3.heap.size Vb vb (pre.map (bkE Q)) := ownPr_kept o3 fun g hg => hfb.block g (o3.lt g hg).2 fun e => hxl2 ((hX1 l).2 (.inr (e ▸ hg)))
    have v0 := hfb.blk (hF.blk j0 (by omega)) (by omega : ¬ N = l)
    have cc0 := blk_cell v0 0
    have hVz := hF.size
    have hb : RsPh base Vb R t b tr X C mr mj mb Q L := (h3.fr hF fun k hk e => hk (hC k (by omega))).fr hfb fun k hk e => hk (hC k (by have : k = l := e; omega))
    have HGt := Lib.hid (get_any hb x HX.out.2.2)
    unfold GetP at HGt
    rw [HX.out.1, HX.out.2.1] at HGt
    dsimp only [ptE, Option.map_some, Option.map_none, Option.isSome_some, Option.isSome_none] at HGt
    have hzs : Vb.heap.size = V.heap.size := hzb
    have HU := Lib.hid (And.intro k3b (And.intro o3b (And.intro hfb (And.intro hrb (And.intro hzs (And.intro hpl (And.intro hpx (And.intro hSl (And.intro hX1 (And.intro hG (And.intro hxl2 (And.intro hF (And.intro hlV hl2)))))))))))))
    clear hpx k3 o3 hSl hX1 hG hxl2 hF hlV hl2 f3 j0 j1 h3 z3 hN z1 hC k3b o3b v0 hVz hb hfb hzb hsb hrb hzs hpl
    gi_wp2_with fail
    refine ⟨trivial, (calls_wide (.inr ⟨l, rfl⟩) HGt.out).mono ?_⟩
    rintro e W1 ⟨rfl, bw⟩
    obtain ⟨k3b, o3b, hfb, hrb, hzs, hpl, hpx, hSl, hX1, hG, hxl2, hF, hlV, hl2⟩ := HU.out
    have fw : Fr (fun _ => False) Vb W1 := Fr.of_below bw
    have k3c := fw.blk k3b fun e => e
    have o3c : OwnPr w3.heap.size W1 vb (pre.map (bkE Q)) := ownPr_kept o3b fun g hg => fw.block g (o3b.lt g hg).2 fun e => e
    have hrc := fw.blk hrb fun e => e
    have hzc := fw.size
    have c3 := blk_cell k3c 0
    have hVz := hF.size
    have hbz : w3.heap.size ≤ W1.heap.size := by omega
    have hfc : Fr (fun k => k = l) V W1 := hfb.trans3 fw fun _ _ e => e.elim
    obtain ⟨ps, hps⟩ : ∃ ps, pre.map (bkE Q) = ps := ⟨_, rfl⟩
    have hpsl : ps.length ≤ 1000000 := by rw [← hps, List.length_map]; omega
    rw [hps] at o3c
    have hor : W1.ownsRow w3.heap.size 37 1 vb ps.length (ps.map encPr) := o3c
    have HO := Lib.hid hor
    obtain ⟨B, hB⟩ : ∃ B, f.B = B := ⟨_, rfl⟩
    rw [hB]
    have hbk : bkE Q x = B := by unfold bkE; rw [HX.out.2.1, ← hB]; rfl
    have HE := Lib.hid (And.intro (And.intro hX1 hbk) (And.intro hG (And.intro hxl2 (And.intro hfc (And.intro hrc (And.intro k3c (And.intro o3c (And.intro hzc (And.intro hlV (And.intro hSl (And.intro hl2 hps)))))))))))
    have hzV : V.heap.size ≤ W1.heap.size := by omega
    have HZ := Lib.hid hzV
    clear hX1 hbk hG hxl2 hfc hrc k3c o3c hzc hlV hSl hl2 hps hor hpx hF fw bw hfb hrb hzs hpl k3b o3b cc0 hVz hB HGt hzV
    have hlen : ∀ W, (Builtin.len_ #[104] 3 #[vb]).run Tryz.prog W = .ok (.int .i64 ps.length) W := fun W => by obtain ⟨A, cp, rfl⟩ := row_slice HO.out; rfl
    gi_wp2_with (first | (gi_at_builtin; refine Hid.out ?_) | simp only [hlen])
    refine Lib.hid ?_
    refine wpListIn_one_t rfl _ _ 104 rfl w3.heap.size 37 i0 _ 1 8 Tryz.underlying104 hi hz0 hz1 hz2 rfl (by decide) _ _ _ rfl HO.out #[.pointer (some ⟨B, 0, none⟩)] _ rfl rfl rfl (by intro u hu; simp at hu; subst hu; rfl) (by omega) (by decide) hbz ?_
    intro v1 W2 hown1 hfr1 htie
    obtain ⟨A1, c1', rfl⟩ := row_slice hown1
    have hn3 : ∀ k, vb.ownBlock = some k → k ≠ N + 1 := fun k hk e => by have := (HO.out.lt k hk).1; have := HE.out.2.2.2.2.2.2.2.2.2.1; omega
    have e1 : W2.heap[N + 1]? = some (.cells #[vb] 104 (0, 0)) := hfr1.blk HE.out.2.2.2.2.2.1 fun e => hn3 _ e rfl
    have g1 := blk_cell e1 0
    have g2 := blk_free e1 0
    have HNn := Lib.hid hn3
    clear hn3
    gi_wp2_with fail
    obtain ⟨⟨hX1, hbk⟩, hG, hxl2, hfc, hrc, k3c, o3c, hzc, hlV, hSl, hl2, hps⟩ := HE.out
    have hn3 := HNn.out
    have hown2 : OwnPr w3.heap.size W2 (.slice A1 (ps.length + 1) c1') (ps ++ [B]) := ownPr_snoc hown1
    have hnx : (Value.slice A1 (ps.length + 1) c1').ownBlock ≠ some (N + 1) := fun e => by have := (hown2.lt _ e).1; omega
    have hfr : Fr (fun k => k = l ∨ X1 k) V (W2.setCell ⟨N + 1, 0, none⟩ (.slice A1 (ps.length + 1) c1')) :=
      (((hfc.mono (Y := fun k => k = l ∨ X1 k) fun k _ e => .inl e).trans3 hfr1 fun k _ e => .inr ((hX1 k).2 (.inr e)))).setCell _ (.inr ((hX1 _).2 (.inl rfl))) _
    refine ⟨fun k => k = N + 1 ∨ (Value.slice A1 (ps.length + 1) c1').ownBlock = some k, fun k hk => ?_, hfr, ?_, .slice A1 (ps.length + 1) c1', blk_set e1 0 _, ?_, hSl, fun k => Iff.rfl⟩
    · have hz2 := hfr1.size
      have hzV := HZ.out
      have hsz : (W2.setCell ⟨N + 1, 0, none⟩ (.slice A1 (ps.length + 1) c1')).heap.size = W2.heap.size := by simp
      rw [hsz]
      rcases hk with rfl | hk
      · exact ⟨blk_lt e1, fun _ => (hX1 _).2 (.inl rfl)⟩
      · refine ⟨(hown2.lt k hk).2, fun hlt => ?_⟩
        rcases htie k hk with e | e
        · exact (hX1 k).2 (.inr e)
        · omega
    · have hl3 : ¬ vb.ownBlock = some l := fun e => hxl2 ((hX1 l).2 (.inr e))
      exact blk_other (hfr1.blk hrc hl3) _ (by simp; omega) _
    · have hmap : (pre ++ [x]).map (bkE Q) = ps ++ [B] := by rw [List.map_append, hps, List.map_cons, hbk]; rfl
      rw [hmap]
      exact ownPr_kept hown2 fun g hg => heap_setCell_other W2 _ g _ fun e => by simp at e; exact hnx (e ▸ hg)
  case done =>
    rintro D X2 V hD hxD hG hF ⟨v, k3, o3, hSl, hX2⟩ hdef
    obtain ⟨A, cp, rfl⟩ := row_slice o3
    rw [hSB] at o3 k3 hX2
    obtain ⟨sb, hsb⟩ : ∃ sb, S.map (·.B) = sb := ⟨_, rfl⟩
    rw [hsb] at o3 k3 hX2
    have HSB := Lib.hid hsb
    clear hsb
    have c3 := blk_cell k3 0
    have HV := Lib.hid (values_callsPr A sb.length cp V)
    have HE := Lib.hid (And.intro k3 (And.intro o3 (And.intro hF (And.intro hdef (And.intro hxD (And.intro hX2 (And.intro hSl hD)))))))
    clear k3 o3 hF hdef hxD hX2 hSl hD hG hseq hYl heg hYb hY3 z1 z3 j0 j1 h3 hSB hSk hSx hS1 hC f3 hN hnx
    gi_wp2_with fail
    refine ⟨trivial, (calls_wide (.inl rfl) HV.out).mono ?_⟩
    intro e W4 hv
    obtain ⟨k3, o3, hF, hdef, hxD, hX2, hSl, hD⟩ := HE.out
    have hV3 : w3.heap.size ≤ V.heap.size := hF.size
    obtain ⟨F, rfl, hT, hb⟩ := tale_ofPr hV3 o3 hv
    have d4 := (Fr.of_below (X := fun _ => False) hb).blk hdef fun e => e
    have HQ := Lib.hid (And.intro hT (And.intro hb d4))
    clear k3 o3 hF hdef hxD hX2 hSl hD hT hb d4 hv c3 HV hV3
    gi_wp2_with fail
    obtain ⟨hT, hb, d4⟩ := HQ.out
    obtain ⟨k3, o3, hF, hdef, hxD, hX2, hSl, hD⟩ := HE.out
    obtain ⟨f3, j0, j1, h3, z3, hN⟩ := K.out
    obtain ⟨f1, hb0, hb1, z1, h1, hC, hSB, hSk, hSx, hnx, hS1⟩ := H.out
    have f4 : RowKit.Below w.heap.size w W4 := by
      have h5 : Fr (fun k => k = N + 1) w V := ((f1.mono (Y := fun k => k = N + 1) fun _ _ e => e.elim).trans3 f3 fun _ _ e => e.elim).trans3 hF fun k _ e => e
      exact (h5.below (Nat.le_refl _) fun k hk e => by omega).trans (hb.mono h5.size)
    refine leaves_one D _ d4 fun w' hf => ?_
    refine ⟨F, by simp [results, Tryz.results25, go_sem], ⟨F, S, rfl, ?_, hSk, hS1⟩, f4.trans (hf.below f4.size fun k _ e => by omega)⟩
    rw [HSB.out]
    obtain ⟨B, v, t1, t2, t3, t4, t5⟩ := hT
    have hBn : B ≠ D := fun e => by rw [e, d4] at t3; cases t3
    refine ⟨B, v, by omega, t2, hf.blk t3 hBn, t4, ownPr_base (ownPr_kept t5 fun g hg => hf.block g (t5.lt g hg).2 fun e => ?_) (by omega)⟩
    rcases t5.2 with ⟨q1, _⟩ | ⟨g2, cap, cur, q1, _, q2, _⟩
    · rw [q1] at hg; cases hg
    · rw [q1] at hg; cases hg
      have e2 : g2 = D := e
      rw [e2, d4] at q2; cases q2
end Go.Proofs.YtlkeomcillencaaGreat
end
section
/- Layer 11: a relation of numbers and texts: Drop. -/
namespace Go.Proofs.YtlkeomcillencaaGreat
open Go Go.RowKit Go.Maps Go.Lib
attribute [local go_sem] Oper.semAt_some

def dropL (L : List (Int × List UInt8)) (a : Int) (pre : List (List UInt8)) : List (Int × List UInt8) := pre.foldl (fun M b => lessLIS M a b) L
theorem dropL_snoc (L : List (Int × List UInt8)) (a : Int) (pre : List (List UInt8)) (x : List UInt8) : dropL L a (pre ++ [x]) = lessLIS (dropL L a pre) a x := by unfold dropL; rw [List.foldl_append]; rfl
theorem dropL_filter (a : Int) : ∀ (pre : List (List UInt8)) (L : List (Int × List UInt8)), dropL L a pre = L.filter fun p => decide (∀ b ∈ pre, p ≠ (a, b))
  | [], L => by
    unfold dropL
    rw [List.foldl_nil, List.filter_eq_self.2]
    intro p _; simp
  | x :: r, L => by
    show dropL (lessLIS L a x) a r = _
    rw [dropL_filter a r]
    unfold lessLIS
    rw [List.filter_filter]
    refine List.filter_congr fun p _ => ?_
    simp [Bool.and_comm]
theorem dropL_all {L : List (Int × List UInt8)} {a : Int} {xs : List (List UInt8)} (h : ∀ b, b ∈ xs ↔ (a, b) ∈ L) : dropL L a xs = L.filter fun p => decide (p.1 ≠ a) := by
  rw [dropL_filter]
  refine List.filter_congr fun p hp => ?_
  rw [decide_eq_decide]
  constructor
  · intro h1 e
    exact h1 p.2 ((h p.2).2 (by rw [← e]; exact hp)) (by rw [← e])
  · intro h1 b _ e
    exact h1 (by rw [e])
theorem dropL_len (L : List (Int × List UInt8)) (a : Int) (pre : List (List UInt8)) : (dropL L a pre).length ≤ L.length := by rw [dropL_filter]; exact List.length_filter_le _ _
theorem dropL_ok {L : List (Int × List UInt8)} {a : Int} {pre : List (List UInt8)} (h : L.Nodup) : (dropL L a pre).Nodup := by rw [dropL_filter]; exact h.sublist List.filter_sublist
/-- how far Drop has come -/
def DropJ (base B t : Nat) (a : Int) (most : Int) (L : List (Int × List UInt8)) (pre : List (List UInt8)) (X : Nat → Prop) (W : World) : Prop :=
  W.heap[B]? = some (.cells #[.pointer (some ⟨t, 0, none⟩)] 76 (0, 0)) ∧ W.heap[B + 1]? = some (.cells #[.int .i64 a] 3 (0, 0)) ∧ W.heap[B + 2]? = some (.cells #[.int .i64 (pre.length : Int)] 3 (0, 0)) ∧
    ∃ Xr, RelAtIS base W t Xr most (dropL L a pre) ∧ (∀ k, Xr k → k ≠ B ∧ k ≠ B + 1 ∧ k ≠ B + 2) ∧ ∀ k, X k ↔ (k = B ∨ k = B + 1 ∨ k = B + 2 ∨ Xr k)
theorem dropJ_stays (base B t : Nat) (a : Int) (most : Int) (L : List (Int × List UInt8)) : Stays (DropJ base B t a most L) := fun pre X V V' ⟨h1, h2, h3, Xr, h4, h5, h6⟩ hl hf =>
  ⟨hf.blk h1 (fun e => e ((h6 _).2 (.inl rfl))), hf.blk h2 (fun e => e ((h6 _).2 (.inr (.inl rfl)))), hf.blk h3 (fun e => e ((h6 _).2 (.inr (.inr (.inl rfl))))), Xr, h4.fr hf fun j hj e => e ((h6 j).2 (.inr (.inr (.inr hj)))), h5, h6⟩
/-- what Drop does -/
def DropR (base t : Nat) (X : Nat → Prop) (most : Int) (L : List (Int × List UInt8)) (a : Int) (w : World) (e : Ending) (w' : World) : Prop :=
  ∃ X' : Nat → Prop, ∃ xs : List (List UInt8), xs.Pairwise (· < ·) ∧ (∀ b, b ∈ xs ↔ (a, b) ∈ L) ∧ e = .returned (.int .i64 (xs.length : Nat)) ∧ (∀ j, X' j → X j ∨ w.heap.size ≤ j) ∧ Fr X w w' ∧ RelAtIS base w' t X' most (L.filter fun p => decide (p.1 ≠ a))
end Go.Proofs.YtlkeomcillencaaGreat
end
