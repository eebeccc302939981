/-
  What was encoded, or packed, is told again; sums of packs are packs of sums.
-/
import Derived.Test.YtambpcgdaogojaaF7Ans
namespace Go.Proofs.Ytambpcgdaogojaa
open Go.RowKit

theorem cod_none {ns : List Int} {m : Bool} {zs : List Int} (h : codF ns m zs = none) : modB ns = true ∧ rightI m zs = true ∧ (iv m zs).natAbs ≤ hlf (nv ns) := by
  unfold codF at h
  split at h
  · rename_i hc
    rw [Bool.and_eq_true] at hc
    split at h
    · exact ⟨hc.1, hc.2, by assumption⟩
    · cases h
  · cases h
theorem pk_none {ns : List Int} {s g h : Int} (hf : pkF ns s g h = none) : modB ns = true ∧ shB s = true ∧ 0 ≤ h ∧ h < 2 ^ s.toNat ∧ (pkX s g h).natAbs ≤ hlf (nv ns) := by
  unfold pkF at hf
  split at hf
  · rename_i hc
    rw [Bool.and_eq_true] at hc
    split at hf
    · rename_i hd
      rw [Bool.and_eq_true, decide_eq_true_eq, decide_eq_true_eq] at hd
      split at hf
      · exact ⟨hc.1, hc.2, hd.1, hd.2, by assumption⟩
      · cases hf
    · cases hf
  · cases hf
theorem codF_ne0 {ns : List Int} {m : Bool} {zs : List Int} {e : Int} (h : codF ns m zs = some e) : e ≠ 0 := by
  unfold codF at h
  split at h
  · split at h
    · cases h
    · cases h; decide
  · cases h; decide
theorem pkF_ne0 {ns : List Int} {s g h e : Int} (hf : pkF ns s g h = some e) : e ≠ 0 := by
  unfold pkF at hf
  split at hf
  · split at hf
    · split at hf
      · cases hf
      · cases hf; decide
    · cases hf; decide
  · cases hf; decide
theorem two_split {P g h : Int} (h0 : 0 ≤ h) (h1 : h < P) : (g * P + h) / P = g ∧ (g * P + h) % P = h := by
  have hP : P ≠ 0 := by omega
  rw [Int.add_comm, Int.add_mul_ediv_right _ _ hP, Int.add_mul_emod_self_right, Int.ediv_eq_zero_of_lt h0 h1, Int.emod_eq_of_lt h0 h1]
  omega
/-- What a code tells. -/
theorem code_dc {ns vs : List Int} {x : Int} (hm : modB ns = true) (hx : x.natAbs ≤ hlf (nv ns)) (hv : IsN vs (codV (nv ns) x)) : dcF ns vs = none ∧ dcV (nv ns) (nv vs) = x := by
  obtain ⟨h1, h2⟩ := cod_back ((modB_iff ns).1 hm).2.2 hx
  rw [hv.nv]
  refine ⟨?_, h2⟩
  unfold dcF
  rw [hm, hv.2.1, hv.nv, decide_eq_true h1]
  rfl
/-- What a pack tells. -/
theorem up_of {ns vs : List Int} {s g h : Int} (hm : modB ns = true) (hs : shB s = true) (h0 : 0 ≤ h) (h1 : h < 2 ^ s.toNat) (hx : (pkX s g h).natAbs ≤ hlf (nv ns)) (hg : fitB g = true) (hv : IsN vs (codV (nv ns) (pkX s g h))) : upF ns s vs = none ∧ upG ns s vs = g ∧ upH ns s vs = h := by
  obtain ⟨e1, e2⟩ := code_dc hm hx hv
  obtain ⟨d1, d2⟩ := two_split (P := 2 ^ s.toNat) (g := g) (h := h) h0 h1
  have eG : upG ns s vs = g := by unfold upG; rw [e2]; exact d1
  refine ⟨?_, eG, by unfold upH; rw [e2]; exact d2⟩
  rw [up_good hm hs e1, eG, hg]
  rfl

/-- What stands while packs are added: so many, their sums, and the sum of the packs by n. -/
structure Run7 (n : Nat) (P m k : Int) (i : Nat) (G H : Int) (S : Nat) : Prop where
  g : -((i : Int) * m) ≤ G ∧ G ≤ (i : Int) * m
  h : 0 ≤ H ∧ H ≤ (i : Int) * k
  s : (S : Int) = (G * P + H) % (n : Int)
theorem Run7.start (n : Nat) (P m k : Int) : Run7 n P m k 0 0 0 0 := ⟨by simp, by simp, by simp⟩
theorem Run7.step {n : Nat} {P m k : Int} {i : Nat} {G H : Int} {S p : Nat} {x y : Int} (h : Run7 n P m k i G H S) (hx : -m ≤ x ∧ x ≤ m) (hy : 0 ≤ y ∧ y ≤ k) (hp : (p : Int) = (x * P + y) % (n : Int)) : Run7 n P m k (i + 1) (G + x) (H + y) ((S + p) % n) := by
  have e : ((i + 1 : Nat) : Int) = (i : Int) + 1 := by omega
  refine ⟨?_, ?_, ?_⟩
  · rw [e, Int.add_mul, Int.one_mul]; have := h.g; omega
  · rw [e, Int.add_mul, Int.one_mul]; have := h.h; omega
  · rw [Int.natCast_emod, Int.natCast_add, h.s, hp, ← Int.add_emod]
    congr 1
    rw [Int.add_mul]
    omega
theorem Run7.fits {n : Nat} {P m k r : Int} {i : Nat} {G H : Int} {S : Nat} (h : Run7 n P m k i G H S) (hi : (i : Int) ≤ r) (hm : 0 ≤ m) (hk : 0 ≤ k) (hP : r * k < P) (hf : r * m * P + P - 1 ≤ (hlf n : Int)) : (G * P + H).natAbs ≤ hlf n ∧ 0 ≤ H ∧ H < P := by
  have h1 : (i : Int) * m ≤ r * m := Int.mul_le_mul_of_nonneg_right hi hm
  have h2 : (i : Int) * k ≤ r * k := Int.mul_le_mul_of_nonneg_right hi hk
  have hg := h.g
  have hh := h.h
  have hP0 : 0 ≤ P := by omega
  have h3 : G * P ≤ r * m * P := Int.mul_le_mul_of_nonneg_right (by omega) hP0
  have h4 : -(r * m) * P ≤ G * P := Int.mul_le_mul_of_nonneg_right (by omega) hP0
  rw [Int.neg_mul] at h4
  omega

theorem Run7.small {n : Nat} {P m k : Int} {i : Nat} {G H : Int} {S : Nat} (h : Run7 n P m k i G H S) (hi : i ≤ 1000) (hm : 1 ≤ m) (hk : 1 ≤ k) (hb : 0 < i → m ≤ 1099511627776 ∧ k ≤ 1099511627776) : (-1099511627776000 ≤ G ∧ G ≤ 1099511627776000) ∧ 0 ≤ H ∧ H ≤ 1099511627776000 := by
  have hg := h.g
  have hh := h.h
  rcases Nat.eq_zero_or_pos i with e | e
  · subst e
    rw [Int.natCast_zero, Int.zero_mul] at hg hh
    omega
  · obtain ⟨h1, h2⟩ := hb e
    have b1 : (i : Int) * m ≤ 1000 * 1099511627776 := Int.mul_le_mul (by omega) h1 (by omega) (by decide)
    have b2 : (i : Int) * k ≤ 1000 * 1099511627776 := Int.mul_le_mul (by omega) h2 (by omega) (by decide)
    omega
theorem Run7.code {n : Nat} {P m k : Int} {i : Nat} {G H : Int} {S : Nat} (h : Run7 n P m k i G H S) (h3 : 3 ≤ n) (hf : (G * P + H).natAbs ≤ hlf n) : S = codV n (G * P + H) := by
  have := h.s
  rw [← cod_mod h3 hf] at this
  omega

theorem wrap_range7 (z : Int) : -9223372036854775808 ≤ IntKind.i64.wrap z ∧ IntKind.i64.wrap z < 9223372036854775808 := by
  have e : IntKind.i64.wrap z = if 9223372036854775808 ≤ z % 18446744073709551616 then z % 18446744073709551616 - 18446744073709551616 else z % 18446744073709551616 := by simp [IntKind.wrap, IntKind.signed, IntKind.bits]
  rw [e]
  split <;> omega
theorem and_range7 (x y : Int) : -9223372036854775808 ≤ bits .and .i64 x y ∧ bits .and .i64 x y < 9223372036854775808 := wrap_range7 _

/-- Pairs of whole numbers lie in memory. -/
def PairsAt (w : World) (a : Option Addr) (len cap : Nat) : Prop := len ≤ cap ∧ cap ≤ maxLen ∧ ∀ i, i < len → ∃ b off x y, a = some ⟨b, off, none⟩ ∧ w.cell? ⟨b, off + i * 2, none⟩ = some (.int .i64 x) ∧ w.cell? ⟨b, off + i * 2 + 1, none⟩ = some (.int .i64 y) ∧ (Lit.int .i64 x).wf = true ∧ (Lit.int .i64 y).wf = true
theorem PairsAt.below {w w' : World} {a : Option Addr} {len cap : Nat} (h : PairsAt w a len cap) (hb : Below w.heap.size w w') : PairsAt w' a len cap := by
  refine ⟨h.1, h.2.1, fun i hi => ?_⟩
  obtain ⟨b, off, x, y, e, h0, h1, f0, f1⟩ := h.2.2 i hi
  exact ⟨b, off, x, y, e, bkeep hb h0 rfl, bkeep hb h1 rfl, f0, f1⟩
end Go.Proofs.Ytambpcgdaogojaa
