/-
  Contracts of a ring's brought, reduced and product.
-/
import Derived.Test.YtnioobiodiofiabMAddTimes
import Derived.Test.YtnioobiodiofiabMul
import Derived.Test.YtnioobiodiofiabSub
namespace Go.Proofs.Ytnioobiodiofiab
open Go.RowKit

/-- What a ring's numbers are to each other. -/
structure RingOk (zs : List Int) (f : Int) (qs : List Int) : Prop where
  right : rightB zs = true
  len : 0 < zs.length ∧ zs.length ≤ 8
  odd : zs.getD 0 0 % 2 = 1
  three : 3 ≤ val 18446744073709551616 zs
  word : 0 ≤ f ∧ f < 18446744073709551616
  fac : (1 + f * zs.getD 0 0) % 18446744073709551616 = 0
  top : Top qs
  sq : val 18446744073709551616 qs = (18446744073709551616 ^ zs.length * 18446744073709551616 ^ zs.length) % val 18446744073709551616 zs

/-- The number below zs of which R times it has the rest of v. -/
def Red (zs : List Int) (v : Int) (ls : List Int) : Prop :=
  Digs 18446744073709551616 ls ∧ Top ls ∧ val 18446744073709551616 ls < val 18446744073709551616 zs ∧ (18446744073709551616 ^ zs.length * val 18446744073709551616 ls) % val 18446744073709551616 zs = v % val 18446744073709551616 zs

set_option maxHeartbeats 800000 in
theorem brought_any (p : Option Addr) (zs : List Int) (f : Int) (qs : List Int) (a : Option Addr) (la ca : Nat) (xs : List Int) (w : World) (h : RingAt w p zs f qs) (hz : rightB zs = true) (ha : Nums w a la ca xs) (hx : rightB xs = true)
    (hlt : val 18446744073709551616 xs < 2 * val 18446744073709551616 zs) :
    Calls Try.prog 57 #[.pointer p, .slice a la ca] w fun e w' => ∃ a' n c' ls, e = .returned (.slice a' n c') ∧ Nums w' a' n c' ls ∧ Top ls ∧ val 18446744073709551616 ls < val 18446744073709551616 zs ∧
      (∃ t, val 18446744073709551616 xs = val 18446744073709551616 ls + t * val 18446744073709551616 zs) ∧ Below w.heap.size w w' := by
  obtain ⟨g, na, n, nc, q, m, cq, rfl, h0, h1, h2, hn, hq⟩ := h
  have hcn : cmpN xs zs = cmpZ (val 18446744073709551616 xs) (val 18446744073709551616 zs) := by simp [cmpN, hx, hz]
  by_cases hl : val 18446744073709551616 xs < val 18446744073709551616 zs
  · have hc1 : cmpN xs zs = -1 := by rw [hcn, cmpZ_lt hl]
    have HX : Hid (Top xs ∧ val 18446744073709551616 xs < val 18446744073709551616 zs ∧ ∃ t, val 18446744073709551616 xs = val 18446744073709551616 xs + t * val 18446744073709551616 zs) := ⟨right_top hx, hl, 0, by simp⟩
    clear hcn hl hlt
    go_enter Try.func57, Try.ntmps57
    go_wp2_with fail
    refine (cmp_any _ _ _ _ _ _ _ _ _ ha hn).mono ?_
    rintro e w1 ⟨rfl, hb1⟩
    rw [hc1]
    clear hc1
    go_wp2_with fail
    go_ret
    exact ⟨_, _, _, _, rfl, ha.below hb1, HX.out.1, HX.out.2.1, HX.out.2.2, hb1⟩
  · have hc1 : ¬ cmpN xs zs < 0 := by rw [hcn]; unfold cmpZ; rw [if_neg hl]; split <;> omega
    obtain ⟨cc, hcc⟩ : ∃ cc, cc = cmpN xs zs := ⟨_, rfl⟩
    rw [← hcc] at hc1
    have HC : Hid (cc = cmpN xs zs) := hcc
    have HL : Hid (¬ val 18446744073709551616 xs < val 18446744073709551616 zs ∧ val 18446744073709551616 xs < 2 * val 18446744073709551616 zs) := ⟨hl, hlt⟩
    clear hcn hcc hl hlt
    go_enter Try.func57, Try.ntmps57
    go_wp2_with fail
    refine (cmp_any _ _ _ _ _ _ _ _ _ ha hn).mono ?_
    rintro e w1 ⟨rfl, hb1⟩
    rw [← HC.out]
    have hk0 : w1.cell? ⟨g, 0, none⟩ = some (.slice na n nc) := (hb1.cell (World.block_lt_of_cell? w _ h0)).trans h0
    clear HC h0 h1 h2
    go_wp2_with fail
    refine (sub_any _ _ _ _ _ _ _ _ _ (ha.below hb1) (hn.below hb1)).mono ?_
    rintro e w2 ⟨a', k, c', ls, err, rfl, hls, hres, -, hb2⟩
    have hb := hb1.trans (hb2.mono hb1.size)
    have HX : Hid (Top ls ∧ val 18446744073709551616 ls < val 18446744073709551616 zs ∧ ∃ t, val 18446744073709551616 xs = val 18446744073709551616 ls + t * val 18446744073709551616 zs) := by
      have hl := HL.out
      have hnl : ¬ val 18446744073709551616 xs < val 18446744073709551616 zs := by omega
      unfold ResSub at hres
      rw [hx, hz, if_pos (show (true && true) = true from rfl), if_neg hnl] at hres
      rcases hres with ⟨rfl, hd, ht, hle, hv⟩ | ⟨rfl, rfl, ks, hd, ht, hv, h64⟩
      · exact ⟨ht, by omega, 1, by omega⟩
      · exfalso
        have e1 := val_ge (B := 18446744073709551616) (by decide) hd ht (by intro e; subst e; simp at h64)
        have e2 := val_lt (B := 18446744073709551616) (by decide) ha.digs
        have e3 := right_len hx
        have e4 := pow_mono (B := 18446744073709551616) (by decide) (show xs.length ≤ ks.length - 1 by omega)
        have e5 := val_nonneg (B := 18446744073709551616) (by decide) hn.digs
        omega
    clear hres HL
    go_wp2_with fail
    go_ret
    exact ⟨_, _, _, _, rfl, hls, HX.out.1, HX.out.2.1, HX.out.2.2, hb⟩

theorem vs_low {B : Int} (f : Nat → Int) (n : Nat) : vs B f (n + 1) % B = f 0 % B := by
  rw [show n + 1 = 1 + n by omega, vs_add]
  simp only [vs, Int.pow_zero, Int.one_mul, Int.pow_one, Int.zero_add]
  rw [Int.add_mul_emod_self_left]

/-- A round of the reduction: what the sum at place i leaves. -/
theorem red_step {M N : List Int} {k i : Nat} {zs : List Int} {f t v m : Int} (hik : i < k) (hzl : zs.length = k)
    (hfac : (1 + f * zs.getD 0 0) % 18446744073709551616 = 0)
    (hnd : Digs 18446744073709551616 N)
    (hlow : ∀ j, j < i → M.getD j 0 = 0) (hv : vs 18446744073709551616 (fun j => M.getD j 0) (2 * k + 1) = v + t * val 18446744073709551616 zs) (ht : 0 ≤ t ∧ t < 18446744073709551616 ^ i)
    (hm : m = (M.getD i 0 * f) % 18446744073709551616)
    (hsame : ∀ j, j < i ∨ i + (2 * k + 1 - i) ≤ j → N.getD j 0 = M.getD j 0)
    (hseg : vs 18446744073709551616 (fun j => N.getD (i + j) 0) (2 * k + 1 - i) = vs 18446744073709551616 (fun j => M.getD (i + j) 0) (2 * k + 1 - i) + m * val 18446744073709551616 zs) :
    (∀ j, j < i + 1 → N.getD j 0 = 0) ∧ ∃ t', vs 18446744073709551616 (fun j => N.getD j 0) (2 * k + 1) = v + t' * val 18446744073709551616 zs ∧ 0 ≤ t' ∧ t' < 18446744073709551616 ^ (i + 1) := by
  have hm0 : 0 ≤ m ∧ m < 18446744073709551616 := by rw [hm]; omega
  refine ⟨fun j hj => ?_, t + m * 18446744073709551616 ^ i, ?_, ?_, ?_⟩
  · by_cases hji : j < i
    · rw [hsame j (.inl hji)]; exact hlow j hji
    · obtain rfl : j = i := by omega
      obtain ⟨r, hr⟩ : ∃ r, 2 * k + 1 - j = r + 1 := ⟨2 * k - j, by omega⟩
      rw [hr] at hseg
      have e1 := vs_low (B := 18446744073709551616) (fun x => N.getD (j + x) 0) r
      have e2 := vs_low (B := 18446744073709551616) (fun x => M.getD (j + x) 0) r
      simp only [Nat.add_zero] at e1 e2
      have e3 : val 18446744073709551616 zs % 18446744073709551616 = zs.getD 0 0 % 18446744073709551616 := by
        obtain ⟨q, hq⟩ : ∃ q, zs.length = q + 1 := ⟨zs.length - 1, by omega⟩
        have := vs_low (B := 18446744073709551616) (fun x => zs.getD x 0) q
        rw [← hq, vs_all _ zs (Nat.le_refl _)] at this
        exact this
      have bn := hnd.getD (by decide) j
      have e4 : (M.getD j 0 + m * val 18446744073709551616 zs) % 18446744073709551616 = 0 := by
        rw [Int.add_emod, Int.mul_emod, e3, hm, Int.emod_emod, ← Int.mul_emod, ← Int.add_emod, Int.mul_assoc]
        have : M.getD j 0 + M.getD j 0 * (f * zs.getD 0 0) = M.getD j 0 * (1 + f * zs.getD 0 0) := by rw [Int.mul_add, Int.mul_one]
        rw [this, Int.mul_emod, hfac]; simp
      have e5 : N.getD j 0 % 18446744073709551616 = 0 := by
        rw [← e1, hseg, Int.add_emod, e2, ← Int.add_emod]; exact e4
      omega
  · have e := vs_seg (B := 18446744073709551616) (N := N) (M := M) (o := i) (m := 2 * k + 1 - i) (n := 2 * k + 1) (by omega) hsame
    rw [e, hseg, hv, Int.add_mul]
    have e2 : vs 18446744073709551616 (fun j => M.getD (i + j) 0) (2 * k + 1 - i) + m * val 18446744073709551616 zs - vs 18446744073709551616 (fun j => M.getD (i + j) 0) (2 * k + 1 - i) = m * val 18446744073709551616 zs := by omega
    rw [e2, Int.mul_assoc m, Int.mul_left_comm m]; omega
  · have := Int.mul_nonneg hm0.1 (Int.le_of_lt (pow_pos' (B := 18446744073709551616) (by decide) i)); omega
  · have h1 : m * 18446744073709551616 ^ i ≤ 18446744073709551615 * 18446744073709551616 ^ i := Int.mul_le_mul_of_nonneg_right (by omega) (Int.le_of_lt (pow_pos' (by decide) i))
    rw [Int.pow_succ]; omega

/-- The sum at place i fits. -/
theorem red_fits {M : List Int} {k i : Nat} {zs : List Int} {t v m : Int} (hik : i < k) (hzl : zs.length = k) (hzd : Digs 18446744073709551616 zs) (hn : 0 < val 18446744073709551616 zs)
    (hlow : ∀ j, j < i → M.getD j 0 = 0) (hv : vs 18446744073709551616 (fun j => M.getD j 0) (2 * k + 1) = v + t * val 18446744073709551616 zs) (ht : 0 ≤ t ∧ t < 18446744073709551616 ^ i)
    (hm : 0 ≤ m ∧ m < 18446744073709551616) (hvn : v < val 18446744073709551616 zs * 18446744073709551616 ^ k) :
    vs 18446744073709551616 (fun j => M.getD (i + j) 0) (2 * k + 1 - i) + m * val 18446744073709551616 zs < 18446744073709551616 ^ (2 * k + 1 - i) := by
  have e1 : vs 18446744073709551616 (fun j => M.getD j 0) (2 * k + 1) = 18446744073709551616 ^ i * vs 18446744073709551616 (fun j => M.getD (i + j) 0) (2 * k + 1 - i) := by
    have := vs_add 18446744073709551616 (fun j => M.getD j 0) i (2 * k + 1 - i)
    rw [show i + (2 * k + 1 - i) = 2 * k + 1 by omega, vs_zero _ hlow] at this
    omega
  generalize vs 18446744073709551616 (fun j => M.getD (i + j) 0) (2 * k + 1 - i) = s at e1 ⊢
  have hN := val_lt (B := 18446744073709551616) (by decide) hzd
  rw [hzl] at hN
  have p1 := pow_pos' (B := 18446744073709551616) (by decide) i
  have p2 := pow_pos' (B := 18446744073709551616) (by decide) k
  generalize val 18446744073709551616 zs = n at *
  -- (t + m B^i) n < B^(i+1) n <= B^k n
  have a1 : t + m * 18446744073709551616 ^ i + 1 ≤ 18446744073709551616 ^ (i + 1) := by
    have h1 : m * 18446744073709551616 ^ i ≤ 18446744073709551615 * 18446744073709551616 ^ i := Int.mul_le_mul_of_nonneg_right (by omega) (Int.le_of_lt p1)
    rw [Int.pow_succ]; omega
  have a2 := pow_mono (B := 18446744073709551616) (by decide) (show i + 1 ≤ k by omega)
  have a3 : (t + m * 18446744073709551616 ^ i) * n ≤ 18446744073709551616 ^ k * n := Int.mul_le_mul_of_nonneg_right (by omega) (Int.le_of_lt hn)
  have a4 : n * 18446744073709551616 ^ k ≤ 18446744073709551616 ^ k * 18446744073709551616 ^ k := Int.mul_le_mul_of_nonneg_right (Int.le_of_lt hN) (Int.le_of_lt p2)
  have a5 : (18446744073709551616 : Int) ^ (2 * k + 1) = 18446744073709551616 ^ k * 18446744073709551616 ^ k * 18446744073709551616 := by rw [Int.pow_succ, show 2 * k = k + k by omega, Int.pow_add]
  have a6 : (18446744073709551616 : Int) ^ (2 * k + 1) = 18446744073709551616 ^ i * 18446744073709551616 ^ (2 * k + 1 - i) := by rw [← Int.pow_add]; congr 1; omega
  have a7 : 0 < (18446744073709551616 : Int) ^ k * 18446744073709551616 ^ k := Int.mul_pos p2 p2
  have a8 : 18446744073709551616 ^ i * (s + m * n) < 18446744073709551616 ^ i * 18446744073709551616 ^ (2 * k + 1 - i) := by
    rw [← a6, a5, Int.mul_add, ← e1, hv]
    have : 18446744073709551616 ^ i * (m * n) = m * 18446744073709551616 ^ i * n := by rw [← Int.mul_assoc, Int.mul_comm _ m]
    rw [this]
    rw [Int.add_mul] at a3
    rw [Int.mul_comm (18446744073709551616 ^ k) n] at a3
    omega
  exact Int.lt_of_mul_lt_mul_left a8 (Int.le_of_lt p1)

theorem red_end {M : List Int} {k : Nat} {zs : List Int} {t v : Int} (hn : 0 < val 18446744073709551616 zs)
    (hlow : ∀ j, j < k → M.getD j 0 = 0) (hv : vs 18446744073709551616 (fun j => M.getD j 0) (2 * k + 1) = v + t * val 18446744073709551616 zs) (ht : 0 ≤ t ∧ t < 18446744073709551616 ^ k)
    (hvn : v < val 18446744073709551616 zs * 18446744073709551616 ^ k) : 18446744073709551616 ^ k * vs 18446744073709551616 (fun j => M.getD (k + j) 0) (k + 1) = v + t * val 18446744073709551616 zs ∧ vs 18446744073709551616 (fun j => M.getD (k + j) 0) (k + 1) < 2 * val 18446744073709551616 zs := by
  have e1 : vs 18446744073709551616 (fun j => M.getD j 0) (2 * k + 1) = 18446744073709551616 ^ k * vs 18446744073709551616 (fun j => M.getD (k + j) 0) (k + 1) := by
    have := vs_add 18446744073709551616 (fun j => M.getD j 0) k (k + 1)
    rw [show k + (k + 1) = 2 * k + 1 by omega, vs_zero _ hlow] at this
    omega
  have p2 := pow_pos' (B := 18446744073709551616) (by decide) k
  refine ⟨by rw [← e1]; exact hv, ?_⟩
  generalize vs 18446744073709551616 (fun j => M.getD (k + j) 0) (k + 1) = s at e1 ⊢
  generalize val 18446744073709551616 zs = n at *
  have a3 : t * n ≤ 18446744073709551616 ^ k * n := Int.mul_le_mul_of_nonneg_right (by omega) (Int.le_of_lt hn)
  refine Int.lt_of_mul_lt_mul_left (a := 18446744073709551616 ^ k) ?_ (Int.le_of_lt p2)
  rw [← e1, hv, Int.mul_left_comm]
  rw [Int.mul_comm n] at hvn
  omega
end Go.Proofs.Ytnioobiodiofiab
