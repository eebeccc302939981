/-
  How a ring lies in memory; contracts of its has, and of mont's trimmed and inverse.
  The contract of mont's addTimes: a number times a word, added in its place, with room for it.
  Contracts of a ring's brought, reduced and product.
-/
import Derived.Test.YtchmlfjjgehbkaaBytA
import Derived.Test.YtchmlfjjgehbkaaNatC
namespace Go.Proofs.Ytchmlfjjgehbkaa
open Go.RowKit

/-- At p lies a ring: its modulus zs, its factor f, and the number qs. -/
def RingAt (w : World) (p : Option Addr) (zs : List Int) (f : Int) (qs : List Int) : Prop :=
  ∃ g a n ca q m cq, p = some ⟨g, 0, none⟩ ∧ w.cell? ⟨g, 0, none⟩ = some (.slice a n ca) ∧ w.cell? ⟨g, 1, none⟩ = some (.int .u64 f) ∧ w.cell? ⟨g, 2, none⟩ = some (.slice q m cq) ∧ Nums w a n ca zs ∧ Nums w q m cq qs

theorem RingAt.below {w w' : World} {p : Option Addr} {zs : List Int} {f : Int} {qs : List Int} (h : RingAt w p zs f qs) (hb : Below w.heap.size w w') : RingAt w' p zs f qs := by
  obtain ⟨g, a, n, ca, q, m, cq, hp, h0, h1, h2, hn, hq⟩ := h
  have k : ∀ (j : Nat) (v : Value), w.cell? ⟨g, j, none⟩ = some v → w'.cell? ⟨g, j, none⟩ = some v := fun j v hc => (hb.cell (World.block_lt_of_cell? w _ hc)).trans hc
  exact ⟨g, a, n, ca, q, m, cq, hp, k _ _ h0, k _ _ h1, k _ _ h2, hn.below hb, hq.below hb⟩

/-- A number that may be, below another one. -/
def belowB (xs zs : List Int) : Bool := rightB xs && decide (val 18446744073709551616 xs < val 18446744073709551616 zs)

theorem two_dvd {i j : Nat} (h : i ≤ j) : (2 : Int) ^ i ∣ 2 ^ j := ⟨2 ^ (j - i), by rw [← Int.pow_add, Nat.add_sub_cancel' h]⟩

def pk (k : Nat) : Int := 2 ^ (min 64 (3 * 2 ^ k))

theorem pk_step {k : Nat} {e : Int} (h : pk k ∣ e) (t : Int) : pk (k + 1) ∣ -(e * e) + 18446744073709551616 * t := by
  have h1 : pk (k + 1) ∣ pk k * pk k := by
    unfold pk
    rw [← Int.pow_add]
    exact two_dvd (by rw [Nat.pow_succ]; omega)
  have h2 : pk (k + 1) ∣ 18446744073709551616 := by
    unfold pk
    rw [show (18446744073709551616 : Int) = 2 ^ 64 by decide]
    exact two_dvd (by omega)
  refine Int.dvd_add ?_ (Int.dvd_trans h2 (Int.dvd_mul_right _ _))
  exact (Int.dvd_neg.2 (Int.dvd_trans h1 (Int.mul_dvd_mul h h)))

theorem odd_square {x : Int} (h : x % 2 = 1) : pk 0 ∣ x * x - 1 := by
  have e : pk 0 = 8 := by decide
  rw [e]
  obtain ⟨t, ht⟩ : ∃ t, x = 2 * t + 1 := ⟨x / 2, by omega⟩
  have h2 : (t * (t + 1)) % 2 = 0 := by
    have : t % 2 = 0 ∨ t % 2 = 1 := by omega
    rw [Int.mul_emod]
    rcases this with h | h
    · rw [h]; simp
    · rw [show (t + 1) % 2 = 0 by omega]; simp
  obtain ⟨s, hs⟩ : ∃ s, t * (t + 1) = 2 * s := ⟨t * (t + 1) / 2, by omega⟩
  refine ⟨s, ?_⟩
  subst ht
  have : (2 * t + 1) * (2 * t + 1) - 1 = 4 * (t * (t + 1)) := by
    simp only [Int.mul_add, Int.add_mul, Int.mul_one, Int.one_mul]
    have : 2 * t * (2 * t) = 4 * (t * t) := by rw [Int.mul_assoc, Int.mul_left_comm t 2 t]; omega
    omega
  rw [this, hs]; omega

def inv1 (x y : Int) : Int := (y * ((2 - (x * y) % 18446744073709551616) % 18446744073709551616)) % 18446744073709551616
theorem inv1_bd (x y : Int) : 0 ≤ inv1 x y ∧ inv1 x y < 18446744073709551616 := by unfold inv1; omega
theorem inv1_step {x y : Int} {k : Nat} (h : pk k ∣ x * y - 1) : pk (k + 1) ∣ x * inv1 x y - 1 := by
  obtain ⟨e, he⟩ : ∃ e, e = x * y - 1 := ⟨_, rfl⟩
  rw [← he] at h
  have h1 : ∃ t, inv1 x y = y * (2 - x * y) + 18446744073709551616 * t := by
    unfold inv1
    obtain ⟨a, ha⟩ : ∃ a, (x * y) % 18446744073709551616 = x * y + 18446744073709551616 * a := ⟨-(x * y / 18446744073709551616), by omega⟩
    rw [ha]
    obtain ⟨b, hb⟩ : ∃ b, (2 - (x * y + 18446744073709551616 * a)) % 18446744073709551616 = 2 - x * y + 18446744073709551616 * b := ⟨-a - (2 - (x * y + 18446744073709551616 * a)) / 18446744073709551616, by omega⟩
    rw [hb]
    generalize 2 - x * y = u
    rw [Int.mul_add, Int.mul_left_comm]
    refine ⟨y * b - (y * u + 18446744073709551616 * (y * b)) / 18446744073709551616, ?_⟩
    omega
  obtain ⟨t, ht⟩ := h1
  have e2 : x * inv1 x y - 1 = -(e * e) + 18446744073709551616 * (x * t) := by
    rw [ht, Int.mul_add, ← Int.mul_assoc x y, Int.mul_left_comm x 18446744073709551616 t]
    have : x * y = e + 1 := by omega
    rw [this]
    have : (e + 1) * (2 - (e + 1)) = 1 - e * e := by
      simp only [Int.mul_sub, Int.add_mul, Int.mul_add, Int.one_mul, Int.mul_one]; omega
    omega
  rw [e2]
  exact pk_step h _

end Go.Proofs.Ytchmlfjjgehbkaa

namespace Go.Proofs.Ytchmlfjjgehbkaa
open Go.RowKit

theorem at_step2 {L M : List Int} {o n k : Nat} {ys : List Int} {cy m x y z c : Int} (hk : k < n) (hon : o + n ≤ L.length) (hml : M.length = L.length) (hmd : Digs 18446744073709551616 M) (hyd : Digs 18446744073709551616 ys) (hm : 0 ≤ m ∧ m < 18446744073709551616)
    (hsame : ∀ j, j < o ∨ o + k ≤ j → M.getD j 0 = L.getD j 0) (hc : 0 ≤ cy ∧ cy < 18446744073709551616)
    (hv : vs 18446744073709551616 (fun i => M.getD (o + i) 0) k + 18446744073709551616 ^ k * cy = vs 18446744073709551616 (fun i => L.getD (o + i) 0) k + m * vs 18446744073709551616 (fun i => ys.getD i 0) k)
    (hx : x = M.getD (o + k) 0) (hy : y = ys.getD k 0) (et : z + 18446744073709551616 * c = y * m + x + cy) (bz : 0 ≤ z ∧ z < 18446744073709551616) (bc : 0 ≤ c) :
    (M.set (o + k) z).length = L.length ∧ Digs 18446744073709551616 (M.set (o + k) z) ∧
    (∀ j, j < o ∨ o + (k + 1) ≤ j → (M.set (o + k) z).getD j 0 = L.getD j 0) ∧ (0 ≤ c ∧ c < 18446744073709551616) ∧
    vs 18446744073709551616 (fun i => (M.set (o + k) z).getD (o + i) 0) (k + 1) + 18446744073709551616 ^ (k + 1) * c = vs 18446744073709551616 (fun i => L.getD (o + i) 0) (k + 1) + m * vs 18446744073709551616 (fun i => ys.getD i 0) (k + 1) := by
  have bx : 0 ≤ x ∧ x < 18446744073709551616 := by rw [hx]; exact hmd.getD (by decide) _
  have by' : 0 ≤ y ∧ y < 18446744073709551616 := by rw [hy]; exact hyd.getD (by decide) _
  have hp : y * m ≤ 18446744073709551615 * 18446744073709551615 := Int.mul_le_mul (by omega) (by omega) (by omega) (by omega)
  refine ⟨by simpa using hml, hmd.set _ bz, fun j hj => ?_, ⟨bc, by omega⟩, ?_⟩
  · rw [getD_set_ne (by omega)]; exact hsame j (by omega)
  · have f1 : vs 18446744073709551616 (fun i => (M.set (o + k) z).getD (o + i) 0) k = vs 18446744073709551616 (fun i => M.getD (o + i) 0) k :=
      vs_congr (fun i hi => getD_set_ne (by omega))
    have f2 : (M.set (o + k) z).getD (o + k) 0 = z := getD_set_self (by omega)
    have f3 := hsame (o + k) (by omega)
    simp only [vs]
    rw [f1, f2, ← f3, ← hx, ← hy, Int.pow_succ, Int.mul_assoc, Int.mul_add m]
    generalize (18446744073709551616 : Int) ^ k = P at hv ⊢
    have e6 : P * z + P * (18446744073709551616 * c) = P * (y * m) + P * x + P * cy := by rw [← Int.mul_add, et, Int.mul_add, Int.mul_add]
    have e7 : m * (P * y) = P * (y * m) := by rw [Int.mul_left_comm, Int.mul_comm m y]
    omega

/-- A round of the carry alone. -/
theorem at_step3 {L M : List Int} {o k : Nat} {S cy x : Int} (hon : o + k < L.length) (hml : M.length = L.length) (hmd : Digs 18446744073709551616 M)
    (hsame : ∀ j, j < o ∨ o + k ≤ j → M.getD j 0 = L.getD j 0) (hc : 0 ≤ cy ∧ cy < 18446744073709551616)
    (hv : vs 18446744073709551616 (fun i => M.getD (o + i) 0) k + 18446744073709551616 ^ k * cy = vs 18446744073709551616 (fun i => L.getD (o + i) 0) k + S)
    (hx : x = M.getD (o + k) 0) :
    (M.set (o + k) (lo (x + cy))).length = L.length ∧ Digs 18446744073709551616 (M.set (o + k) (lo (x + cy))) ∧
    (∀ j, j < o ∨ o + (k + 1) ≤ j → (M.set (o + k) (lo (x + cy))).getD j 0 = L.getD j 0) ∧ (0 ≤ hi (x + cy) ∧ hi (x + cy) < 18446744073709551616) ∧
    vs 18446744073709551616 (fun i => (M.set (o + k) (lo (x + cy))).getD (o + i) 0) (k + 1) + 18446744073709551616 ^ (k + 1) * hi (x + cy) = vs 18446744073709551616 (fun i => L.getD (o + i) 0) (k + 1) + S := by
  have bx : 0 ≤ x ∧ x < 18446744073709551616 := by rw [hx]; exact hmd.getD (by decide) _
  refine ⟨by simpa using hml, hmd.set _ (lo_bd _), fun j hj => ?_, ⟨by unfold hi; omega, by unfold hi; omega⟩, ?_⟩
  · rw [getD_set_ne (by omega)]; exact hsame j (by omega)
  · have f1 : vs 18446744073709551616 (fun i => (M.set (o + k) (lo (x + cy))).getD (o + i) 0) k = vs 18446744073709551616 (fun i => M.getD (o + i) 0) k :=
      vs_congr (fun i hi => getD_set_ne (by omega))
    have f2 : (M.set (o + k) (lo (x + cy))).getD (o + k) 0 = lo (x + cy) := getD_set_self (by omega)
    have f3 := hsame (o + k) (by omega)
    have et := lo_hi (x + cy)
    simp only [vs]
    rw [f1, f2, ← f3, ← hx, Int.pow_succ, Int.mul_assoc]
    generalize (18446744073709551616 : Int) ^ k = P at hv ⊢
    have e6 : P * lo (x + cy) + P * (18446744073709551616 * hi (x + cy)) = P * x + P * cy := by rw [← Int.mul_add, et, Int.mul_add]
    omega

/-- Where the sum fits, nothing is carried out of the room. -/
theorem at_room {L M : List Int} {o k np : Nat} {S cy : Int} (hk : k ≤ np) (hmd : Digs 18446744073709551616 M)
    (hc : 0 ≤ cy) (hfit : vs 18446744073709551616 (fun i => L.getD (o + i) 0) np + S < 18446744073709551616 ^ np)
    (hv : vs 18446744073709551616 (fun i => M.getD (o + i) 0) k + 18446744073709551616 ^ k * cy = vs 18446744073709551616 (fun i => L.getD (o + i) 0) k + S) (h0 : cy ≠ 0) : k < np := by
  by_cases h : k < np
  · exact h
  · obtain rfl : k = np := by omega
    have h1 := vs_nonneg (B := 18446744073709551616) (by decide) (f := fun i => M.getD (o + i) 0) (n := k) (fun i _ => (hmd.getD (by decide) _).1)
    have h2 : 18446744073709551616 ^ k * 1 ≤ (18446744073709551616 : Int) ^ k * cy := Int.mul_le_mul_of_nonneg_left (by omega) (Int.le_of_lt (pow_pos' (by decide) _))
    omega

theorem at_end {L M : List Int} {o k np : Nat} {S : Int} (hk : k ≤ np) (hsame : ∀ j, j < o ∨ o + k ≤ j → M.getD j 0 = L.getD j 0)
    (hv : vs 18446744073709551616 (fun i => M.getD (o + i) 0) k + 18446744073709551616 ^ k * 0 = vs 18446744073709551616 (fun i => L.getD (o + i) 0) k + S) :
    vs 18446744073709551616 (fun i => M.getD (o + i) 0) np = vs 18446744073709551616 (fun i => L.getD (o + i) 0) np + S := by
  obtain ⟨r, rfl⟩ : ∃ r, np = k + r := ⟨np - k, by omega⟩
  rw [vs_add, vs_add 18446744073709551616 (fun i => L.getD (o + i) 0)]
  have e : vs 18446744073709551616 (fun i => M.getD (o + (k + i)) 0) r = vs 18446744073709551616 (fun i => L.getD (o + (k + i)) 0) r := vs_congr (fun i hi => hsame _ (by omega))
  rw [e]; omega

end Go.Proofs.Ytchmlfjjgehbkaa

namespace Go.Proofs.Ytchmlfjjgehbkaa
open Go.RowKit

/-- What a ring's numbers are to each other. -/
structure RingOk (zs : List Int) (f : Int) (qs : List Int) : Prop where
  right : rightB zs = true
  len : 0 < zs.length ∧ zs.length ≤ 8
  odd : zs.getD 0 0 % 2 = 1
  three : 3 ≤ val 18446744073709551616 zs
  word : 0 ≤ f ∧ f < 18446744073709551616
  fac : (1 + f * zs.getD 0 0) % 18446744073709551616 = 0
  top : Top qs
  sq : val 18446744073709551616 qs = (18446744073709551616 ^ zs.length * 18446744073709551616 ^ zs.length) % val 18446744073709551616 zs

/-- The number below zs of which R times it has the rest of v. -/
def Red (zs : List Int) (v : Int) (ls : List Int) : Prop :=
  Digs 18446744073709551616 ls ∧ Top ls ∧ val 18446744073709551616 ls < val 18446744073709551616 zs ∧ (18446744073709551616 ^ zs.length * val 18446744073709551616 ls) % val 18446744073709551616 zs = v % val 18446744073709551616 zs

theorem vs_low {B : Int} (f : Nat → Int) (n : Nat) : vs B f (n + 1) % B = f 0 % B := by
  rw [show n + 1 = 1 + n by omega, vs_add]
  simp only [vs, Int.pow_zero, Int.one_mul, Int.pow_one, Int.zero_add]
  rw [Int.add_mul_emod_self_left]

/-- A round of the reduction: what the sum at place i leaves. -/
theorem red_step {M N : List Int} {k i : Nat} {zs : List Int} {f t v m : Int} (hik : i < k) (hzl : zs.length = k)
    (hfac : (1 + f * zs.getD 0 0) % 18446744073709551616 = 0)
    (hnd : Digs 18446744073709551616 N)
    (hlow : ∀ j, j < i → M.getD j 0 = 0) (hv : vs 18446744073709551616 (fun j => M.getD j 0) (2 * k + 1) = v + t * val 18446744073709551616 zs) (ht : 0 ≤ t ∧ t < 18446744073709551616 ^ i)
    (hm : m = (M.getD i 0 * f) % 18446744073709551616)
    (hsame : ∀ j, j < i ∨ i + (2 * k + 1 - i) ≤ j → N.getD j 0 = M.getD j 0)
    (hseg : vs 18446744073709551616 (fun j => N.getD (i + j) 0) (2 * k + 1 - i) = vs 18446744073709551616 (fun j => M.getD (i + j) 0) (2 * k + 1 - i) + m * val 18446744073709551616 zs) :
    (∀ j, j < i + 1 → N.getD j 0 = 0) ∧ ∃ t', vs 18446744073709551616 (fun j => N.getD j 0) (2 * k + 1) = v + t' * val 18446744073709551616 zs ∧ 0 ≤ t' ∧ t' < 18446744073709551616 ^ (i + 1) := by
  have hm0 : 0 ≤ m ∧ m < 18446744073709551616 := by rw [hm]; omega
  refine ⟨fun j hj => ?_, t + m * 18446744073709551616 ^ i, ?_, ?_, ?_⟩
  · by_cases hji : j < i
    · rw [hsame j (.inl hji)]; exact hlow j hji
    · obtain rfl : j = i := by omega
      obtain ⟨r, hr⟩ : ∃ r, 2 * k + 1 - j = r + 1 := ⟨2 * k - j, by omega⟩
      rw [hr] at hseg
      have e1 := vs_low (B := 18446744073709551616) (fun x => N.getD (j + x) 0) r
      have e2 := vs_low (B := 18446744073709551616) (fun x => M.getD (j + x) 0) r
      simp only [Nat.add_zero] at e1 e2
      have e3 : val 18446744073709551616 zs % 18446744073709551616 = zs.getD 0 0 % 18446744073709551616 := by
        obtain ⟨q, hq⟩ : ∃ q, zs.length = q + 1 := ⟨zs.length - 1, by omega⟩
        have := vs_low (B := 18446744073709551616) (fun x => zs.getD x 0) q
        rw [← hq, vs_all _ zs (Nat.le_refl _)] at this
        exact this
      have bn := hnd.getD (by decide) j
      have e4 : (M.getD j 0 + m * val 18446744073709551616 zs) % 18446744073709551616 = 0 := by
        rw [Int.add_emod, Int.mul_emod, e3, hm, Int.emod_emod, ← Int.mul_emod, ← Int.add_emod, Int.mul_assoc]
        have : M.getD j 0 + M.getD j 0 * (f * zs.getD 0 0) = M.getD j 0 * (1 + f * zs.getD 0 0) := by rw [Int.mul_add, Int.mul_one]
        rw [this, Int.mul_emod, hfac]; simp
      have e5 : N.getD j 0 % 18446744073709551616 = 0 := by
        rw [← e1, hseg, Int.add_emod, e2, ← Int.add_emod]; exact e4
      omega
  · have e := vs_seg (B := 18446744073709551616) (N := N) (M := M) (o := i) (m := 2 * k + 1 - i) (n := 2 * k + 1) (by omega) hsame
    rw [e, hseg, hv, Int.add_mul]
    have e2 : vs 18446744073709551616 (fun j => M.getD (i + j) 0) (2 * k + 1 - i) + m * val 18446744073709551616 zs - vs 18446744073709551616 (fun j => M.getD (i + j) 0) (2 * k + 1 - i) = m * val 18446744073709551616 zs := by omega
    rw [e2, Int.mul_assoc m, Int.mul_left_comm m]; omega
  · have := Int.mul_nonneg hm0.1 (Int.le_of_lt (pow_pos' (B := 18446744073709551616) (by decide) i)); omega
  · have h1 : m * 18446744073709551616 ^ i ≤ 18446744073709551615 * 18446744073709551616 ^ i := Int.mul_le_mul_of_nonneg_right (by omega) (Int.le_of_lt (pow_pos' (by decide) i))
    rw [Int.pow_succ]; omega

/-- The sum at place i fits. -/
theorem red_fits {M : List Int} {k i : Nat} {zs : List Int} {t v m : Int} (hik : i < k) (hzl : zs.length = k) (hzd : Digs 18446744073709551616 zs) (hn : 0 < val 18446744073709551616 zs)
    (hlow : ∀ j, j < i → M.getD j 0 = 0) (hv : vs 18446744073709551616 (fun j => M.getD j 0) (2 * k + 1) = v + t * val 18446744073709551616 zs) (ht : 0 ≤ t ∧ t < 18446744073709551616 ^ i)
    (hm : 0 ≤ m ∧ m < 18446744073709551616) (hvn : v < val 18446744073709551616 zs * 18446744073709551616 ^ k) :
    vs 18446744073709551616 (fun j => M.getD (i + j) 0) (2 * k + 1 - i) + m * val 18446744073709551616 zs < 18446744073709551616 ^ (2 * k + 1 - i) := by
  have e1 : vs 18446744073709551616 (fun j => M.getD j 0) (2 * k + 1) = 18446744073709551616 ^ i * vs 18446744073709551616 (fun j => M.getD (i + j) 0) (2 * k + 1 - i) := by
    have := vs_add 18446744073709551616 (fun j => M.getD j 0) i (2 * k + 1 - i)
    rw [show i + (2 * k + 1 - i) = 2 * k + 1 by omega, vs_zero _ hlow] at this
    omega
  generalize vs 18446744073709551616 (fun j => M.getD (i + j) 0) (2 * k + 1 - i) = s at e1 ⊢
  have hN := val_lt (B := 18446744073709551616) (by decide) hzd
  rw [hzl] at hN
  have p1 := pow_pos' (B := 18446744073709551616) (by decide) i
  have p2 := pow_pos' (B := 18446744073709551616) (by decide) k
  generalize val 18446744073709551616 zs = n at *
  -- (t + m B^i) n < B^(i+1) n <= B^k n
  have a1 : t + m * 18446744073709551616 ^ i + 1 ≤ 18446744073709551616 ^ (i + 1) := by
    have h1 : m * 18446744073709551616 ^ i ≤ 18446744073709551615 * 18446744073709551616 ^ i := Int.mul_le_mul_of_nonneg_right (by omega) (Int.le_of_lt p1)
    rw [Int.pow_succ]; omega
  have a2 := pow_mono (B := 18446744073709551616) (by decide) (show i + 1 ≤ k by omega)
  have a3 : (t + m * 18446744073709551616 ^ i) * n ≤ 18446744073709551616 ^ k * n := Int.mul_le_mul_of_nonneg_right (by omega) (Int.le_of_lt hn)
  have a4 : n * 18446744073709551616 ^ k ≤ 18446744073709551616 ^ k * 18446744073709551616 ^ k := Int.mul_le_mul_of_nonneg_right (Int.le_of_lt hN) (Int.le_of_lt p2)
  have a5 : (18446744073709551616 : Int) ^ (2 * k + 1) = 18446744073709551616 ^ k * 18446744073709551616 ^ k * 18446744073709551616 := by rw [Int.pow_succ, show 2 * k = k + k by omega, Int.pow_add]
  have a6 : (18446744073709551616 : Int) ^ (2 * k + 1) = 18446744073709551616 ^ i * 18446744073709551616 ^ (2 * k + 1 - i) := by rw [← Int.pow_add]; congr 1; omega
  have a7 : 0 < (18446744073709551616 : Int) ^ k * 18446744073709551616 ^ k := Int.mul_pos p2 p2
  have a8 : 18446744073709551616 ^ i * (s + m * n) < 18446744073709551616 ^ i * 18446744073709551616 ^ (2 * k + 1 - i) := by
    rw [← a6, a5, Int.mul_add, ← e1, hv]
    have : 18446744073709551616 ^ i * (m * n) = m * 18446744073709551616 ^ i * n := by rw [← Int.mul_assoc, Int.mul_comm _ m]
    rw [this]
    rw [Int.add_mul] at a3
    rw [Int.mul_comm (18446744073709551616 ^ k) n] at a3
    omega
  exact Int.lt_of_mul_lt_mul_left a8 (Int.le_of_lt p1)

theorem red_end {M : List Int} {k : Nat} {zs : List Int} {t v : Int} (hn : 0 < val 18446744073709551616 zs)
    (hlow : ∀ j, j < k → M.getD j 0 = 0) (hv : vs 18446744073709551616 (fun j => M.getD j 0) (2 * k + 1) = v + t * val 18446744073709551616 zs) (ht : 0 ≤ t ∧ t < 18446744073709551616 ^ k)
    (hvn : v < val 18446744073709551616 zs * 18446744073709551616 ^ k) : 18446744073709551616 ^ k * vs 18446744073709551616 (fun j => M.getD (k + j) 0) (k + 1) = v + t * val 18446744073709551616 zs ∧ vs 18446744073709551616 (fun j => M.getD (k + j) 0) (k + 1) < 2 * val 18446744073709551616 zs := by
  have e1 : vs 18446744073709551616 (fun j => M.getD j 0) (2 * k + 1) = 18446744073709551616 ^ k * vs 18446744073709551616 (fun j => M.getD (k + j) 0) (k + 1) := by
    have := vs_add 18446744073709551616 (fun j => M.getD j 0) k (k + 1)
    rw [show k + (k + 1) = 2 * k + 1 by omega, vs_zero _ hlow] at this
    omega
  have p2 := pow_pos' (B := 18446744073709551616) (by decide) k
  refine ⟨by rw [← e1]; exact hv, ?_⟩
  generalize vs 18446744073709551616 (fun j => M.getD (k + j) 0) (k + 1) = s at e1 ⊢
  generalize val 18446744073709551616 zs = n at *
  have a3 : t * n ≤ 18446744073709551616 ^ k * n := Int.mul_le_mul_of_nonneg_right (by omega) (Int.le_of_lt hn)
  refine Int.lt_of_mul_lt_mul_left (a := 18446744073709551616 ^ k) ?_ (Int.le_of_lt p2)
  rw [← e1, hv, Int.mul_left_comm]
  rw [Int.mul_comm n] at hvn
  omega
end Go.Proofs.Ytchmlfjjgehbkaa
