/-
  Contracts of the document's digit, add, Out, told and Add.
  Contracts of the document's Out and told: digits of base 65536 as limbs, of the same value.
  Contracts of the document's sub and Sub.
  The contract of the document's Mul.
-/
import Derived.Test.YtaiikhbfnfcalaaNatB
import Derived.Test.YtaiikhbfnfcalaaNatA
import Derived.Test.YtaiikhbfnfcalaaNatC
namespace Go.Proofs.Ytaiikhbfnfcalaa
open Go.RowKit

theorem radd_step {os : List Int} {zs ys : List Int} {k : Nat} {cy x y : Int} (hol : os.length = k) (hod : Digs 65536 os) (hzd : Digs 65536 zs) (hyd : Digs 65536 ys) (hc : 0 ≤ cy ∧ cy ≤ 1)
    (hv : val 65536 os + 65536 ^ k * cy = vs 65536 (fun i => zs.getD i 0) k + vs 65536 (fun i => ys.getD i 0) k) (hx : x = zs.getD k 0) (hy : y = ys.getD k 0) :
    (os ++ [(x + y + cy) % 65536]).length = k + 1 ∧ Digs 65536 (os ++ [(x + y + cy) % 65536]) ∧ (0 ≤ (x + y + cy) / 65536 ∧ (x + y + cy) / 65536 ≤ 1) ∧
    val 65536 (os ++ [(x + y + cy) % 65536]) + 65536 ^ (k + 1) * ((x + y + cy) / 65536) = vs 65536 (fun i => zs.getD i 0) (k + 1) + vs 65536 (fun i => ys.getD i 0) (k + 1) := by
  have bx : 0 ≤ x ∧ x < 65536 := by rw [hx]; exact hzd.getD (by decide) _
  have by' : 0 ≤ y ∧ y < 65536 := by rw [hy]; exact hyd.getD (by decide) _
  refine ⟨by simp [hol], hod.snoc ⟨by omega, by omega⟩, ⟨by omega, by omega⟩, ?_⟩
  simp only [vs]
  rw [val_snoc, hol, ← hx, ← hy, Int.pow_succ, Int.mul_assoc]
  generalize (65536 : Int) ^ k = P at hv ⊢
  have e : P * ((x + y + cy) % 65536) + P * (65536 * ((x + y + cy) / 65536)) = P * (x + y + cy) := by rw [← Int.mul_add]; congr 1; omega
  rw [Int.mul_add, Int.mul_add] at e
  omega

theorem radd_end {os zs ys : List Int} {k : Nat} {cy : Int} (hol : os.length = k) (hz : zs.length ≤ k) (hy : ys.length ≤ k)
    (hv : val 65536 os + 65536 ^ k * cy = vs 65536 (fun i => zs.getD i 0) k + vs 65536 (fun i => ys.getD i 0) k) : val 65536 (os ++ [cy]) = val 65536 zs + val 65536 ys := by
  rw [val_snoc, hol, hv, vs_all _ _ hz, vs_all _ _ hy]

end Go.Proofs.Ytaiikhbfnfcalaa

namespace Go.Proofs.Ytaiikhbfnfcalaa
open Go.RowKit

/-- The digits from place 4 q + j on, up to the end of their limb. -/
def sg (ds : List Int) (q j : Nat) : Int := vs 65536 (fun t => ds.getD (4 * q + j + t) 0) (4 - j)

theorem sg_bd {ds : List Int} (hd : Digs 65536 ds) (q j : Nat) : 0 ≤ sg ds q j ∧ sg ds q j < 65536 ^ (4 - j) :=
  ⟨vs_nonneg (by decide) (fun i _ => (hd.getD (by decide) _).1), vs_lt (by decide) (fun i _ => hd.getD (by decide) _)⟩

theorem sg_step (ds : List Int) (q j : Nat) (h1 : 1 ≤ j) (h4 : j ≤ 4) : sg ds q (j - 1) = sg ds q j * 65536 + ds.getD (4 * q + (j - 1)) 0 := by
  unfold sg
  rw [show 4 - (j - 1) = 1 + (4 - j) by omega, vs_add]
  have e : vs 65536 (fun i => ds.getD (4 * q + (j - 1) + (1 + i)) 0) (4 - j) = vs 65536 (fun t => ds.getD (4 * q + j + t) 0) (4 - j) :=
    vs_congr (fun i _ => by rw [show 4 * q + (j - 1) + (1 + i) = 4 * q + j + i by omega])
  rw [e]
  simp only [vs, Int.pow_zero, Nat.add_zero]
  omega

theorem sg_small {ds : List Int} (hd : Digs 65536 ds) (q j : Nat) (h1 : 1 ≤ j) : sg ds q j < 281474976710656 := by
  have h := (sg_bd hd q j).2
  have h2 := pow_mono (B := 65536) (by decide) (show 4 - j ≤ 3 by omega)
  have e : (65536 : Int) ^ 3 = 281474976710656 := by decide
  omega

theorem out_step {ds ls : List Int} {q : Nat} (hd : Digs 65536 ds) (hl : ls.length = q) (hld : Digs 18446744073709551616 ls) (hv : val 18446744073709551616 ls = val 65536 (ds.take (4 * q))) :
    (ls ++ [sg ds q 0]).length = q + 1 ∧ Digs 18446744073709551616 (ls ++ [sg ds q 0]) ∧ val 18446744073709551616 (ls ++ [sg ds q 0]) = val 65536 (ds.take (4 * (q + 1))) := by
  have b := sg_bd hd q 0
  have e4 : (65536 : Int) ^ (4 - 0) = 18446744073709551616 := by decide
  rw [e4] at b
  refine ⟨by simp [hl], hld.snoc b, ?_⟩
  rw [val_snoc, hl, hv, ← vs_val, ← vs_val, show 4 * (q + 1) = 4 * q + 4 by omega, vs_add]
  have e : (18446744073709551616 : Int) ^ q = 65536 ^ (4 * q) := by rw [Int.pow_mul]; congr 1
  rw [e]
  rfl

theorem out_top {ds ls : List Int} {q : Nat} (hd : Digs 65536 ds) (ht : Top ds) (hl : ls.length = q) (hld : Digs 18446744073709551616 ls) (hv : val 18446744073709551616 ls = val 65536 ds) (hq : q = 0 ∨ 4 * (q - 1) < ds.length) : Top ls := by
  by_cases h0 : q = 0
  · left; exact List.eq_nil_of_length_eq_zero (by omega)
  · right
    intro hz
    rw [hl] at hz
    have h1 := val_take_succ 18446744073709551616 ls (q - 1) (by omega)
    rw [show q - 1 + 1 = q by omega, List.take_of_length_le (by omega), hz] at h1
    have h2 := val_lt (B := 18446744073709551616) (by decide) (hld.take (q - 1))
    rw [List.length_take, Nat.min_eq_left (by omega)] at h2
    have h3 := val_ge (B := 65536) (by decide) hd ht (by intro e; subst e; simp at hq; omega)
    have h4 := pow_mono (B := 65536) (by decide) (show 4 * (q - 1) ≤ ds.length - 1 by omega)
    have e : (18446744073709551616 : Int) ^ (q - 1) = 65536 ^ (4 * (q - 1)) := by rw [Int.pow_mul]; congr 1
    rw [e] at h2
    omega

theorem in_len {ds zs : List Int} {k : Nat} (hd : Digs 65536 ds) (ht : Top ds) (hv : val 65536 ds = val 18446744073709551616 zs) (hz : Digs 18446744073709551616 zs) (hl : zs.length ≤ k) : ds.length ≤ 4 * k := by
  refine len_le (B := 65536) (by decide) hd ht ?_
  have e : (65536 : Int) ^ (4 * k) = 18446744073709551616 ^ k := by rw [Int.pow_mul]; congr 1
  rw [hv, e]
  exact val_lt_pow (by decide) hz hl

end Go.Proofs.Ytaiikhbfnfcalaa

namespace Go.Proofs.Ytaiikhbfnfcalaa
open Go.RowKit

theorem rsub_step {os : List Int} {zs ys : List Int} {k : Nat} {bw x y : Int} (hol : os.length = k) (hod : Digs 65536 os) (hzd : Digs 65536 zs) (hyd : Digs 65536 ys) (hb : 0 ≤ bw ∧ bw ≤ 1)
    (hv : val 65536 os - 65536 ^ k * bw = vs 65536 (fun i => zs.getD i 0) k - vs 65536 (fun i => ys.getD i 0) k) (hx : x = zs.getD k 0) (hy : y = ys.getD k 0) :
    (os ++ [(65536 + x - y - bw) % 65536]).length = k + 1 ∧ Digs 65536 (os ++ [(65536 + x - y - bw) % 65536]) ∧ (0 ≤ 1 - (65536 + x - y - bw) / 65536 ∧ 1 - (65536 + x - y - bw) / 65536 ≤ 1) ∧
    val 65536 (os ++ [(65536 + x - y - bw) % 65536]) - 65536 ^ (k + 1) * (1 - (65536 + x - y - bw) / 65536) = vs 65536 (fun i => zs.getD i 0) (k + 1) - vs 65536 (fun i => ys.getD i 0) (k + 1) := by
  have bx : 0 ≤ x ∧ x < 65536 := by rw [hx]; exact hzd.getD (by decide) _
  have by' : 0 ≤ y ∧ y < 65536 := by rw [hy]; exact hyd.getD (by decide) _
  refine ⟨by simp [hol], hod.snoc ⟨by omega, by omega⟩, ⟨by omega, by omega⟩, ?_⟩
  simp only [vs]
  rw [val_snoc, hol, ← hx, ← hy, Int.pow_succ, Int.mul_assoc]
  generalize (65536 : Int) ^ k = P at hv ⊢
  have e0 : (65536 + x - y - bw) % 65536 - 65536 * (1 - (65536 + x - y - bw) / 65536) = x - y - bw := by omega
  generalize (65536 + x - y - bw) % 65536 = r at e0 ⊢
  generalize 1 - (65536 + x - y - bw) / 65536 = t at e0 ⊢
  have e : P * r - P * (65536 * t) = P * x - P * y - P * bw := by rw [← Int.mul_sub, e0, Int.mul_sub, Int.mul_sub]
  omega

end Go.Proofs.Ytaiikhbfnfcalaa

namespace Go.Proofs.Ytaiikhbfnfcalaa
open Go.RowKit

theorem rmul_step {M ys : List Int} {i k n : Nat} {x y m c V0 : Int} (hlt : i + k < n) (hM : Digs 65536 M) (hx : 0 ≤ x ∧ x < 65536) (hyd : Digs 65536 ys) (hn : M.length = n) (hc : 0 ≤ c ∧ c < 65536) (hm : m = M.getD (i + k) 0) (hy : y = ys.getD k 0)
    (hv : vs 65536 (fun j => M.getD j 0) n + 65536 ^ (i + k) * c = V0 + 65536 ^ i * (x * vs 65536 (fun j => ys.getD j 0) k)) :
    (M.set (i + k) ((m + x * y + c) % 65536)).length = n ∧ Digs 65536 (M.set (i + k) ((m + x * y + c) % 65536)) ∧ (0 ≤ (m + x * y + c) / 65536 ∧ (m + x * y + c) / 65536 < 65536) ∧
    vs 65536 (fun j => (M.set (i + k) ((m + x * y + c) % 65536)).getD j 0) n + 65536 ^ (i + (k + 1)) * ((m + x * y + c) / 65536) = V0 + 65536 ^ i * (x * vs 65536 (fun j => ys.getD j 0) (k + 1)) := by
  have bm : 0 ≤ m ∧ m < 65536 := by rw [hm]; exact hM.getD (by decide) _
  have by' : 0 ≤ y ∧ y < 65536 := by rw [hy]; exact hyd.getD (by decide) _
  have p0 : 0 ≤ x * y := Int.mul_nonneg hx.1 by'.1
  have p1 : x * y ≤ 65535 * y := Int.mul_le_mul_of_nonneg_right (by omega) by'.1
  refine ⟨by simpa using hn, hM.set _ ⟨by omega, by omega⟩, ⟨by omega, by omega⟩, ?_⟩
  rw [vs_set hlt (by omega), ← hm]
  simp only [vs]
  rw [← hy, show i + (k + 1) = (i + k) + 1 by omega, Int.pow_succ, Int.mul_assoc]
  have e1 : (65536 : Int) ^ i * (x * (vs 65536 (fun j => ys.getD j 0) k + 65536 ^ k * y)) = 65536 ^ i * (x * vs 65536 (fun j => ys.getD j 0) k) + 65536 ^ (i + k) * (x * y) := by
    rw [Int.mul_add, Int.mul_add, Int.pow_add, Int.mul_assoc (65536 ^ i), Int.mul_left_comm x]
  rw [e1]
  generalize (65536 : Int) ^ (i + k) = P at hv ⊢
  have e0 : (m + x * y + c) % 65536 + 65536 * ((m + x * y + c) / 65536) = m + x * y + c := by omega
  generalize (m + x * y + c) % 65536 = r at e0 ⊢
  generalize (m + x * y + c) / 65536 = t at e0 ⊢
  have e2 : P * (r - m) + P * (65536 * t) = P * (x * y) + P * c := by rw [← Int.mul_add, ← Int.mul_add]; congr 1; omega
  omega

theorem rmul_end {M zs ys : List Int} {i n : Nat} {x c : Int} (hn : M.length = n) (hi : i < zs.length) (hlt : i + ys.length < n) (hx : x = zs.getD i 0) (hz : M.getD (i + ys.length) 0 = 0)
    (hv : vs 65536 (fun j => M.getD j 0) n + 65536 ^ (i + ys.length) * c = val 65536 (zs.take i) * val 65536 ys + 65536 ^ i * (x * vs 65536 (fun j => ys.getD j 0) ys.length)) :
    vs 65536 (fun j => (M.set (i + ys.length) c).getD j 0) n = val 65536 (zs.take (i + 1)) * val 65536 ys := by
  rw [vs_set hlt (by omega), hz, val_take_succ _ _ _ hi, ← hx, Int.add_mul, Int.mul_assoc, Int.sub_zero, hv, vs_all _ ys (Nat.le_refl _)]

end Go.Proofs.Ytaiikhbfnfcalaa

namespace Go.Proofs.Ytaiikhbfnfcalaa
open Go.RowKit

end Go.Proofs.Ytaiikhbfnfcalaa
