/- Bytes that are no ASCII: how many of them a rune takes. (Mathematics alone.) -/
import Derived.Laws.Runes
import Derived.Laws.RangeAny
import Derived.Lib.IndexAny
import Derived.Lib.IndexLaws
import Derived.Test.YtaajfbbogihbnaaDoorBase
namespace Go.Proofs.YtaajfbbogihbnaaDoor
set_option linter.unusedVariables false
set_option linter.unusedSimpArgs false
open Go.RowKit

/-- all bytes are ASCII -/
def ascL (l : List UInt8) : Prop := (l.all fun b => decide (b.toNat < 128)) = true
theorem ascL.at {l : List UInt8} (h : ascL l) : ∀ b ∈ l, b.toNat < 128 := fun b hb => by
  have := List.all_eq_true.1 h b hb
  simpa using this
theorem asc_no {l : List UInt8} (h : ascL l) {b : UInt8} (hb : 128 ≤ b.toNat) : l.contains b = false := by
  rw [Bool.eq_false_iff, ne_eq, List.contains_iff_mem]
  intro hm
  have := h.at b hm
  omega
theorem get_bang (s : ByteArray) (i : Nat) (h : i < s.size) : s.get! i = s[i] := by
  simp [ByteArray.get!, getElem!_pos, h]
  rfl
/-- of what is no ASCII byte as many bytes are taken as are none -/
theorem dec_span (s : ByteArray) (pos : Nat) (h : pos < s.size) (ha : 128 ≤ (s[pos]'h).toNat) : ∀ k, k < (Utf8.decode s pos).2 → ∃ h : pos + k < s.size, 128 ≤ (s[pos + k]'h).toNat := by
  have hc : ∀ k, ((decide (pos + k < s.size) && (s.get! (pos + k)).toNat / 64 == 2) = true) → ∃ h : pos + k < s.size, 128 ≤ (s[pos + k]'h).toNat := by
    intro k hk
    simp only [Bool.and_eq_true, decide_eq_true_eq, beq_iff_eq] at hk
    refine ⟨hk.1, ?_⟩
    have := hk.2
    rw [get_bang s _ hk.1] at this
    omega
  have h0 : ∃ h : pos + 0 < s.size, 128 ≤ (s[pos + 0]'h).toNat := ⟨h, ha⟩
  have hn : ¬ (s[pos]'h).toNat < 128 := by omega
  have one : ∀ k, k < 1 → ∃ h : pos + k < s.size, 128 ≤ (s[pos + k]'h).toNat := fun k hk => by
    obtain rfl : k = 0 := by omega
    exact h0
  unfold Utf8.decode
  simp only [get_at s pos h, hn, if_false]
  split
  · rename_i hx
    rw [Bool.and_eq_true] at hx
    have c1 := hc 1 hx.2
    split
    · intro k hk
      rcases (by simp at hk; omega : k = 0 ∨ k = 1) with rfl | rfl
      · exact h0
      · exact c1
    · exact one
  · split
    · rename_i hx
      rw [Bool.and_eq_true, Bool.and_eq_true] at hx
      have c1 := hc 1 hx.1.2
      have c2 := hc 2 hx.2
      split
      · intro k hk
        rcases (by simp at hk; omega : k = 0 ∨ k = 1 ∨ k = 2) with rfl | rfl | rfl
        · exact h0
        · exact c1
        · exact c2
      · exact one
    · split
      · rename_i hx
        rw [Bool.and_eq_true, Bool.and_eq_true, Bool.and_eq_true] at hx
        have c1 := hc 1 hx.1.1.2
        have c2 := hc 2 hx.1.2
        have c3 := hc 3 hx.2
        split
        · intro k hk
          rcases (by simp at hk; omega : k = 0 ∨ k = 1 ∨ k = 2 ∨ k = 3) with rfl | rfl | rfl | rfl
          · exact h0
          · exact c1
          · exact c2
          · exact c3
        · exact one
      · exact one
theorem dec_valid (s : ByteArray) (pos : Nat) (h : pos < s.size) : Utf8.valid ((Utf8.decode s pos).1 : Int) = true := by
  have hb : ∀ k, (s.get! (pos + k)).toNat < 256 := fun k => (s.get! (pos + k)).toNat_lt
  have h0 := hb 0; have h1 := hb 1; have h2 := hb 2; have h3 := hb 3
  have small : ∀ n : Nat, n < 55296 → Utf8.valid (n : Int) = true := fun n hn => by simp [Utf8.valid]; omega
  simp only [Utf8.decode]
  split
  · exact small _ (by omega)
  · split
    · split
      · exact small _ (by omega)
      · rfl
    · split
      · split
        · rename_i hx; rw [Bool.and_eq_true] at hx; exact hx.2
        · rfl
      · split
        · split
          · rename_i hx; rw [Bool.and_eq_true] at hx; exact hx.2
          · rfl
        · rfl
theorem dec_most (s : ByteArray) (pos : Nat) (h : Utf8.valid ((Utf8.decode s pos).1 : Int) = true) : (Utf8.decode s pos).1 ≤ 1114111 := by
  rw [validRune_eq, validRune, decide_eq_true_iff] at h; omega

/-- a rune of n bytes is written in n bytes at most -/
theorem dec_size (s : ByteArray) (pos : Nat) (h : pos < s.size) (ha : 128 ≤ (s[pos]'h).toNat) : (Utf8.decode s pos).2 ≤ 4 ∧ ((Utf8.decode s pos).1 ≠ 65533 → 2 ≤ (Utf8.decode s pos).2 ∧ ((Utf8.decode s pos).2 = 2 → (Utf8.decode s pos).1 < 2048) ∧ ((Utf8.decode s pos).2 = 3 → (Utf8.decode s pos).1 < 65536)) := by
  have hn : ¬ (s[pos]'h).toNat < 128 := by omega
  have A : ∀ c k : Nat, k ≤ 4 → 2 ≤ k → (k = 2 → c < 2048) → (k = 3 → c < 65536) → ((c, k) : Nat × Nat).2 ≤ 4 ∧ (((c, k) : Nat × Nat).1 ≠ 65533 → 2 ≤ ((c, k) : Nat × Nat).2 ∧ (((c, k) : Nat × Nat).2 = 2 → ((c, k) : Nat × Nat).1 < 2048) ∧ (((c, k) : Nat × Nat).2 = 3 → ((c, k) : Nat × Nat).1 < 65536)) := fun c k a b d e => ⟨a, fun _ => ⟨b, d, e⟩⟩
  have E : ((65533, 1) : Nat × Nat).2 ≤ 4 ∧ (((65533, 1) : Nat × Nat).1 ≠ 65533 → 2 ≤ ((65533, 1) : Nat × Nat).2 ∧ (((65533, 1) : Nat × Nat).2 = 2 → ((65533, 1) : Nat × Nat).1 < 2048) ∧ (((65533, 1) : Nat × Nat).2 = 3 → ((65533, 1) : Nat × Nat).1 < 65536)) := ⟨by decide, fun e => absurd rfl e⟩
  unfold Utf8.decode
  simp only [get_at s pos h, hn, if_false]
  split
  · split
    · exact A _ 2 (by decide) (by decide) (fun _ => by omega) (fun e => absurd e (by decide))
    · exact E
  · split
    · split
      · exact A _ 3 (by decide) (by decide) (fun e => absurd e (by decide)) (fun _ => by omega)
      · exact E
    · split
      · split
        · exact A _ 4 (by decide) (by decide) (fun e => absurd e (by decide)) (fun e => absurd e (by decide))
        · exact E
      · exact E
theorem enc_size (r : Nat) (hv : Utf8.valid (r : Int) = true) (n : Nat) (h4 : n ≤ 4) (h2 : 2 ≤ n) (c2 : n = 2 → r < 2048) (c3 : n = 3 → r < 65536) : (Utf8.encode (r : Int)).size ≤ n := by
  unfold Utf8.encode
  simp only [hv, if_true, Int.toNat_natCast]
  split
  · show 1 ≤ n; omega
  · split
    · show 2 ≤ n; omega
    · split
      · show 3 ≤ n; omega
      · show 4 ≤ n; omega
/-- what a rune at place i of a row takes -/
theorem dec_facts (l : List UInt8) (i : Nat) (h : i < l.length) (hb : 128 ≤ l[i].toNat) : ∃ r n : Nat, Utf8.decode (bs (l.drop i)) 0 = (r, n) ∧ 128 ≤ r ∧ r ≤ 1114111 ∧ Utf8.valid (r : Int) = true ∧ 1 ≤ n ∧ n ≤ 4 ∧ i + n ≤ l.length ∧
    (r ≠ 65533 → 2 ≤ n ∧ (Utf8.encode (r : Int)).size ≤ n) ∧ ∀ k, k < n → ∃ h : i + k < l.length, 128 ≤ l[i + k].toNat := by
  have hs : (bs (l.drop i)).size = l.length - i := by simp
  have h0 : 0 < (bs (l.drop i)).size := by omega
  have e0 : ∀ k (hk : k < (bs (l.drop i)).size), (bs (l.drop i))[k]'hk = l[i + k]'(by omega) := fun k hk => by
    have : (bs (l.drop i))[k]'hk = (l.drop i)[k]'(by simp; omega) := rfl
    rw [this, List.getElem_drop]
  have ha : 128 ≤ ((bs (l.drop i))[0]'h0).toNat := by rw [e0 0 h0]; exact hb
  obtain ⟨d1, d2⟩ := decode_high _ 0 h0 ha
  have dv := dec_valid (bs (l.drop i)) 0 h0
  have dm := dec_most _ 0 dv
  have dz := dec_size _ 0 h0 ha
  have hp := dec_span _ 0 h0 ha
  obtain ⟨⟨r, n⟩, hd⟩ : ∃ x, Utf8.decode (bs (l.drop i)) 0 = x := ⟨_, rfl⟩
  rw [hd] at d1 d2 dv dm dz hp
  simp only at d1 d2 dv dm dz hp
  have hle : i + n ≤ l.length := by obtain ⟨h, _⟩ := hp (n - 1) (by omega); omega
  refine ⟨r, n, hd, d1, dm, dv, d2, dz.1, hle, fun hr => ?_, fun k hk => ?_⟩
  · obtain ⟨q1, q2, q3⟩ := dz.2 hr
    exact ⟨q1, enc_size r dv n dz.1 q1 q2 q3⟩
  · obtain ⟨h1, h2⟩ := hp k hk
    refine ⟨by omega, ?_⟩
    have := e0 k (by omega)
    simp only [Nat.zero_add] at h2
    rwa [this] at h2
theorem noAny_span {l chars : List UInt8} {i n : Nat} (h : Lib.NoAny l chars i) (ha : ascL chars) (hn : ∀ k, k < n → ∃ h : i + k < l.length, 128 ≤ l[i + k].toNat) : Lib.NoAny l chars (i + n) := by
  intro j b hj hb
  by_cases e : j < i
  · exact h j b e hb
  · obtain ⟨hlt, hge⟩ := hn (j - i) (by omega)
    refine asc_no ha ?_
    have e2 : i + (j - i) = j := by omega
    have : l[j]? = some (l[i + (j - i)]'hlt) := by
      rw [List.getElem?_eq_getElem (by omega)]
      simp only [e2]
    rw [this] at hb
    cases hb
    exact hge
/-- a rune's bytes aren't among two ASCII ones -/
theorem rune_notin (chars : ByteArray) (ha : ascL chars.data.toList) (h2 : chars.size = 2) (r : Nat) (h0 : 128 ≤ r) (hv : Utf8.valid (r : Int) = true) : Lib.index chars.data.toList (Utf8.encode (r : Int)).data.toList = -1 ∧ chars ≠ Utf8.encode (r : Int) := by
  obtain ⟨f1, f2, f3⟩ := encode_facts (r : Int) hv (by omega)
  obtain ⟨E, hE⟩ : ∃ E, Utf8.encode (r : Int) = E := ⟨_, rfl⟩
  rw [hE] at f1 f2 f3 ⊢
  have f4 := f3 (by omega)
  have hne : E ≠ chars := fun e => by
    subst e
    have := ha.at (E[E.size - 1]'(by omega)) (by simp [ByteArray.getElem_eq_getElem_data])
    omega
  refine ⟨Lib.index_long (by have a : chars.data.toList.length = chars.size := by simp
                             have b : E.data.toList.length = E.size := by simp
                             omega) (fun e => hne ?_), fun e => hne e.symm⟩
  exact ByteArray.ext (Array.toList_inj.1 e)
end Go.Proofs.YtaajfbbogihbnaaDoor
