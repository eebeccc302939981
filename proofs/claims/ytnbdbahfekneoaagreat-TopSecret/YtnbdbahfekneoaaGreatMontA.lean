/-
  How a ring lies in memory; contracts of its has, and of mont's trimmed and inverse.
  The contract of mont's addTimes: a number times a word, added in its place, with room for it.
  Contracts of a ring's brought, reduced and product.
-/
import Derived.Test.YtnbdbahfekneoaaGreatBytA
import Derived.Test.YtnbdbahfekneoaaGreatNatC
namespace Go.Proofs.YtnbdbahfekneoaaGreat
open Go.RowKit

/-- At p lies a ring: its modulus zs, its factor f, and the number qs. -/
def RingAt (w : World) (p : Option Addr) (zs : List Int) (f : Int) (qs : List Int) : Prop :=
  ∃ g a n ca q m cq, p = some ⟨g, 0, none⟩ ∧ w.cell? ⟨g, 0, none⟩ = some (.slice a n ca) ∧ w.cell? ⟨g, 1, none⟩ = some (.int .u64 f) ∧ w.cell? ⟨g, 2, none⟩ = some (.slice q m cq) ∧ Nums w a n ca zs ∧ Nums w q m cq qs

theorem RingAt.below {w w' : World} {p : Option Addr} {zs : List Int} {f : Int} {qs : List Int} (h : RingAt w p zs f qs) (hb : Below w.heap.size w w') : RingAt w' p zs f qs := by
  obtain ⟨g, a, n, ca, q, m, cq, hp, h0, h1, h2, hn, hq⟩ := h
  have k : ∀ (j : Nat) (v : Value), w.cell? ⟨g, j, none⟩ = some v → w'.cell? ⟨g, j, none⟩ = some v := fun j v hc => (hb.cell (World.block_lt_of_cell? w _ hc)).trans hc
  exact ⟨g, a, n, ca, q, m, cq, hp, k _ _ h0, k _ _ h1, k _ _ h2, hn.below hb, hq.below hb⟩

/-- A number that may be, below another one. -/
def belowB (xs zs : List Int) : Bool := rightB xs && decide (val 18446744073709551616 xs < val 18446744073709551616 zs)

set_option maxHeartbeats 800000 in
theorem has_any (p : Option Addr) (zs : List Int) (f : Int) (qs : List Int) (a : Option Addr) (la ca : Nat) (xs : List Int) (w : World) (h : RingAt w p zs f qs) (hz : rightB zs = true) (ha : Nums w a la ca xs) :
    Calls Tryz.prog 111 #[.pointer p, .slice a la ca] w fun e w' => e = .returned (.bool (belowB xs zs)) ∧ Below w.heap.size w w' := by
  obtain ⟨g, na, n, nc, q, m, cq, rfl, h0, h1, h2, hn, hq⟩ := h
  cases hr : rightB xs with
  | false =>
    have e : belowB xs zs = false := by simp [belowB, hr]
    rw [e]
    go_enter Tryz.func111, Tryz.ntmps111
    go_wp2_with fail
    refine (right_any _ _ _ _ _ ha).mono ?_
    rintro e w' ⟨rfl, rfl⟩
    rw [hr]
    go_wp2_with fail
    go_ret
    exact ⟨rfl, Below.refl _ _⟩
  | true =>
    have e : belowB xs zs = decide (cmpN xs zs < 0) := by
      simp only [belowB, cmpN, hr, hz, Bool.and_self, if_true, Bool.true_and]
      unfold cmpZ
      split
      · simp_all
      · split <;> simp_all
    rw [e]
    go_enter Tryz.func111, Tryz.ntmps111
    go_wp2_with fail
    refine (right_any _ _ _ _ _ ha).mono ?_
    rintro e w' ⟨rfl, rfl⟩
    rw [hr]
    go_wp2_with fail
    refine (cmp_any _ _ _ _ _ _ _ _ _ ha hn).mono ?_
    rintro e w1 ⟨rfl, hb1⟩
    go_wp2_with fail
    go_ret
    exact ⟨rfl, hb1⟩
set_option maxHeartbeats 400000 in
theorem mtrimmed_any (a : Option Addr) (len cap : Nat) (zs : List Int) (w : World) (h : Nums w a len cap zs) :
    Calls Tryz.prog 138 #[.slice a len cap] w fun e w' => ∃ a' k cap', e = .returned (.slice a' k cap') ∧ Trim zs k ∧ (k = 0 ∧ a' = none ∧ cap' = 0 ∨ 0 < k ∧ a' = a ∧ cap' = cap) ∧ w' = w := by
  have hl := h.hlen
  have hm := h.hmax
  have hcp := h.hcap
  unfold maxLen at hm
  by_cases h0 : len = 0
  · subst h0
    have ht : Trim zs 0 := ⟨Nat.zero_le _, fun j _ hj => by omega, .inl rfl⟩
    cases a with
    | none =>
      go_enter Tryz.func138, Tryz.ntmps138
      go_wp2
      go_loopw [3] (fun i wr => i = .int .i64 0 ∧ wr = w) (fun _ _ => 0)
      case atStart => exact ⟨rfl, rfl⟩
      case round =>
        obtain ⟨rfl, rfl⟩ := hrel
        go_wp2
        go_ret
        exact ⟨none, 0, 0, rfl, ht, .inl ⟨rfl, rfl, rfl⟩, rfl⟩
    | some x =>
      go_enter Tryz.func138, Tryz.ntmps138
      go_wp2
      go_loopw [3] (fun i wr => i = .int .i64 0 ∧ wr = w) (fun _ _ => 0)
      case atStart => exact ⟨rfl, rfl⟩
      case round =>
        obtain ⟨rfl, rfl⟩ := hrel
        go_wp2
        go_ret
        exact ⟨none, 0, 0, rfl, ht, .inl ⟨rfl, rfl, rfl⟩, rfl⟩
  · obtain ⟨b, off, rfl, hc⟩ := h.cells (by omega)
    clear h
    go_enter Tryz.func138, Tryz.ntmps138
    go_wp2
    go_loopw [3] (fun i wr => ∃ k : Nat, k ≤ len ∧ i = .int .i64 k ∧ (∀ j, k ≤ j → j < len → zs.getD j 0 = 0) ∧ wr = w) (fun i _ => (intOf i).toNat)
    case atStart => exact ⟨len, Nat.le_refl _, rfl, fun j h1 h2 => by omega, rfl⟩
    case round =>
      obtain ⟨k, hk, rfl, heq, rfl⟩ := hrel
      have HE : Hid (∀ j, k ≤ j → j < len → zs.getD j 0 = 0) := heq
      have HL : Hid (zs.length = len) := hl
      clear heq
      by_cases hk0 : k = 0
      · subst hk0
        go_wp2
        go_ret
        exact ⟨none, 0, 0, rfl, ⟨Nat.zero_le _, fun j h1 h2 => HE.out j h1 (by have := HL.out; omega), .inl rfl⟩, .inl ⟨rfl, rfl, rfl⟩, rfl⟩
      · have hp : (0 : Int) < (k : Int) := by omega
        have hlt : ((k : Int) - 1) < (len : Int) := by omega
        have hge : 0 ≤ ((k : Int) - 1) := by omega
        obtain ⟨x, hx⟩ : ∃ x, x = zs.getD (k - 1) 0 := ⟨_, rfl⟩
        have c1 : wr.cell? ⟨b, off + (k - 1), none⟩ = some (.int .u64 x) := by rw [hx]; exact hc (k - 1) (by omega)
        have HX : Hid (x = zs.getD (k - 1) 0) := hx
        clear hx hl
        by_cases hx0 : x = 0
        · subst hx0
          go_wp2
          go_roundw
          case rel =>
            refine ⟨k - 1, by omega, by go_num, fun j h1 h2 => ?_, by first | rfl | trivial⟩
            by_cases hj : k ≤ j
            · exact HE.out j hj h2
            · obtain rfl : j = k - 1 := by omega
              exact HX.out.symm
          case measure => simp [intOf]; omega
        · have hne : (x == 0) = false := by simp [hx0]
          have hkne : ((k : Int) == 0) = false := by simp; omega
          go_wp2
          go_ret
          exact ⟨_, k, cap, rfl, ⟨by have := HL.out; omega, fun j h1 h2 => HE.out j h1 (by have := HL.out; omega), .inr (by rw [← HX.out]; exact hx0)⟩, .inr ⟨by omega, rfl, rfl⟩, rfl⟩

theorem two_dvd {i j : Nat} (h : i ≤ j) : (2 : Int) ^ i ∣ 2 ^ j := ⟨2 ^ (j - i), by rw [← Int.pow_add, Nat.add_sub_cancel' h]⟩

def pk (k : Nat) : Int := 2 ^ (min 64 (3 * 2 ^ k))

theorem pk_step {k : Nat} {e : Int} (h : pk k ∣ e) (t : Int) : pk (k + 1) ∣ -(e * e) + 18446744073709551616 * t := by
  have h1 : pk (k + 1) ∣ pk k * pk k := by
    unfold pk
    rw [← Int.pow_add]
    exact two_dvd (by rw [Nat.pow_succ]; omega)
  have h2 : pk (k + 1) ∣ 18446744073709551616 := by
    unfold pk
    rw [show (18446744073709551616 : Int) = 2 ^ 64 by decide]
    exact two_dvd (by omega)
  refine Int.dvd_add ?_ (Int.dvd_trans h2 (Int.dvd_mul_right _ _))
  exact (Int.dvd_neg.2 (Int.dvd_trans h1 (Int.mul_dvd_mul h h)))

theorem odd_square {x : Int} (h : x % 2 = 1) : pk 0 ∣ x * x - 1 := by
  have e : pk 0 = 8 := by decide
  rw [e]
  obtain ⟨t, ht⟩ : ∃ t, x = 2 * t + 1 := ⟨x / 2, by omega⟩
  have h2 : (t * (t + 1)) % 2 = 0 := by
    have : t % 2 = 0 ∨ t % 2 = 1 := by omega
    rw [Int.mul_emod]
    rcases this with h | h
    · rw [h]; simp
    · rw [show (t + 1) % 2 = 0 by omega]; simp
  obtain ⟨s, hs⟩ : ∃ s, t * (t + 1) = 2 * s := ⟨t * (t + 1) / 2, by omega⟩
  refine ⟨s, ?_⟩
  subst ht
  have : (2 * t + 1) * (2 * t + 1) - 1 = 4 * (t * (t + 1)) := by
    simp only [Int.mul_add, Int.add_mul, Int.mul_one, Int.one_mul]
    have : 2 * t * (2 * t) = 4 * (t * t) := by rw [Int.mul_assoc, Int.mul_left_comm t 2 t]; omega
    omega
  rw [this, hs]; omega

def inv1 (x y : Int) : Int := (y * ((2 - (x * y) % 18446744073709551616) % 18446744073709551616)) % 18446744073709551616
theorem inv1_bd (x y : Int) : 0 ≤ inv1 x y ∧ inv1 x y < 18446744073709551616 := by unfold inv1; omega
theorem inv1_step {x y : Int} {k : Nat} (h : pk k ∣ x * y - 1) : pk (k + 1) ∣ x * inv1 x y - 1 := by
  obtain ⟨e, he⟩ : ∃ e, e = x * y - 1 := ⟨_, rfl⟩
  rw [← he] at h
  have h1 : ∃ t, inv1 x y = y * (2 - x * y) + 18446744073709551616 * t := by
    unfold inv1
    obtain ⟨a, ha⟩ : ∃ a, (x * y) % 18446744073709551616 = x * y + 18446744073709551616 * a := ⟨-(x * y / 18446744073709551616), by omega⟩
    rw [ha]
    obtain ⟨b, hb⟩ : ∃ b, (2 - (x * y + 18446744073709551616 * a)) % 18446744073709551616 = 2 - x * y + 18446744073709551616 * b := ⟨-a - (2 - (x * y + 18446744073709551616 * a)) / 18446744073709551616, by omega⟩
    rw [hb]
    generalize 2 - x * y = u
    rw [Int.mul_add, Int.mul_left_comm]
    refine ⟨y * b - (y * u + 18446744073709551616 * (y * b)) / 18446744073709551616, ?_⟩
    omega
  obtain ⟨t, ht⟩ := h1
  have e2 : x * inv1 x y - 1 = -(e * e) + 18446744073709551616 * (x * t) := by
    rw [ht, Int.mul_add, ← Int.mul_assoc x y, Int.mul_left_comm x 18446744073709551616 t]
    have : x * y = e + 1 := by omega
    rw [this]
    have : (e + 1) * (2 - (e + 1)) = 1 - e * e := by
      simp only [Int.mul_sub, Int.add_mul, Int.mul_add, Int.one_mul, Int.mul_one]; omega
    omega
  rw [e2]
  exact pk_step h _

set_option maxHeartbeats 400000 in
theorem inverse_any (x : Int) (w : World) (hx : 0 ≤ x ∧ x < 18446744073709551616) (ho : x % 2 = 1) :
    Calls Tryz.prog 110 #[.int .u64 x] w fun e w' => ∃ y, e = .returned (.int .u64 y) ∧ (0 ≤ y ∧ y < 18446744073709551616) ∧ (x * y) % 18446744073709551616 = 1 ∧ w' = w := by
  have H0 : Hid (pk 0 ∣ x * x - 1) := odd_square ho
  clear ho
  go_enter Tryz.func110, Tryz.ntmps110
  go_wp2
  go_loopw [3, 5] (fun v i wr => ∃ (k : Nat) (y : Int), k ≤ 5 ∧ i = .int .i64 k ∧ v = .int .u64 y ∧ (0 ≤ y ∧ y < 18446744073709551616) ∧ Hid (pk k ∣ x * y - 1) ∧ wr = w) (fun _ i _ => 5 - (intOf i).toNat)
  case atStart => exact ⟨0, x, by omega, rfl, rfl, hx, H0, rfl⟩
  case round =>
    obtain ⟨k, y, hk, rfl, rfl, hy, HP, rfl⟩ := hrel
    by_cases hlt : k < 5
    · have hki : (k : Int) < 5 := by omega
      go_wp2
      go_roundw
      case rel => exact ⟨k + 1, inv1 x y, by omega, by go_num, by simp only [wrap64, inv1], inv1_bd _ _, inv1_step HP.out, by first | rfl | trivial⟩
      case measure => simp [intOf]; omega
    · obtain rfl : k = 5 := by omega
      go_wp2
      go_ret
      refine ⟨y, rfl, hy, ?_, rfl⟩
      have h := HP.out
      have e : pk 5 = 18446744073709551616 := by decide
      rw [e] at h
      omega
end Go.Proofs.YtnbdbahfekneoaaGreat

namespace Go.Proofs.YtnbdbahfekneoaaGreat
open Go.RowKit

theorem at_step2 {L M : List Int} {o n k : Nat} {ys : List Int} {cy m x y z c : Int} (hk : k < n) (hon : o + n ≤ L.length) (hml : M.length = L.length) (hmd : Digs 18446744073709551616 M) (hyd : Digs 18446744073709551616 ys) (hm : 0 ≤ m ∧ m < 18446744073709551616)
    (hsame : ∀ j, j < o ∨ o + k ≤ j → M.getD j 0 = L.getD j 0) (hc : 0 ≤ cy ∧ cy < 18446744073709551616)
    (hv : vs 18446744073709551616 (fun i => M.getD (o + i) 0) k + 18446744073709551616 ^ k * cy = vs 18446744073709551616 (fun i => L.getD (o + i) 0) k + m * vs 18446744073709551616 (fun i => ys.getD i 0) k)
    (hx : x = M.getD (o + k) 0) (hy : y = ys.getD k 0) (et : z + 18446744073709551616 * c = y * m + x + cy) (bz : 0 ≤ z ∧ z < 18446744073709551616) (bc : 0 ≤ c) :
    (M.set (o + k) z).length = L.length ∧ Digs 18446744073709551616 (M.set (o + k) z) ∧
    (∀ j, j < o ∨ o + (k + 1) ≤ j → (M.set (o + k) z).getD j 0 = L.getD j 0) ∧ (0 ≤ c ∧ c < 18446744073709551616) ∧
    vs 18446744073709551616 (fun i => (M.set (o + k) z).getD (o + i) 0) (k + 1) + 18446744073709551616 ^ (k + 1) * c = vs 18446744073709551616 (fun i => L.getD (o + i) 0) (k + 1) + m * vs 18446744073709551616 (fun i => ys.getD i 0) (k + 1) := by
  have bx : 0 ≤ x ∧ x < 18446744073709551616 := by rw [hx]; exact hmd.getD (by decide) _
  have by' : 0 ≤ y ∧ y < 18446744073709551616 := by rw [hy]; exact hyd.getD (by decide) _
  have hp : y * m ≤ 18446744073709551615 * 18446744073709551615 := Int.mul_le_mul (by omega) (by omega) (by omega) (by omega)
  refine ⟨by simpa using hml, hmd.set _ bz, fun j hj => ?_, ⟨bc, by omega⟩, ?_⟩
  · rw [getD_set_ne (by omega)]; exact hsame j (by omega)
  · have f1 : vs 18446744073709551616 (fun i => (M.set (o + k) z).getD (o + i) 0) k = vs 18446744073709551616 (fun i => M.getD (o + i) 0) k :=
      vs_congr (fun i hi => getD_set_ne (by omega))
    have f2 : (M.set (o + k) z).getD (o + k) 0 = z := getD_set_self (by omega)
    have f3 := hsame (o + k) (by omega)
    simp only [vs]
    rw [f1, f2, ← f3, ← hx, ← hy, Int.pow_succ, Int.mul_assoc, Int.mul_add m]
    generalize (18446744073709551616 : Int) ^ k = P at hv ⊢
    have e6 : P * z + P * (18446744073709551616 * c) = P * (y * m) + P * x + P * cy := by rw [← Int.mul_add, et, Int.mul_add, Int.mul_add]
    have e7 : m * (P * y) = P * (y * m) := by rw [Int.mul_left_comm, Int.mul_comm m y]
    omega

/-- A round of the carry alone. -/
theorem at_step3 {L M : List Int} {o k : Nat} {S cy x : Int} (hon : o + k < L.length) (hml : M.length = L.length) (hmd : Digs 18446744073709551616 M)
    (hsame : ∀ j, j < o ∨ o + k ≤ j → M.getD j 0 = L.getD j 0) (hc : 0 ≤ cy ∧ cy < 18446744073709551616)
    (hv : vs 18446744073709551616 (fun i => M.getD (o + i) 0) k + 18446744073709551616 ^ k * cy = vs 18446744073709551616 (fun i => L.getD (o + i) 0) k + S)
    (hx : x = M.getD (o + k) 0) :
    (M.set (o + k) (lo (x + cy))).length = L.length ∧ Digs 18446744073709551616 (M.set (o + k) (lo (x + cy))) ∧
    (∀ j, j < o ∨ o + (k + 1) ≤ j → (M.set (o + k) (lo (x + cy))).getD j 0 = L.getD j 0) ∧ (0 ≤ hi (x + cy) ∧ hi (x + cy) < 18446744073709551616) ∧
    vs 18446744073709551616 (fun i => (M.set (o + k) (lo (x + cy))).getD (o + i) 0) (k + 1) + 18446744073709551616 ^ (k + 1) * hi (x + cy) = vs 18446744073709551616 (fun i => L.getD (o + i) 0) (k + 1) + S := by
  have bx : 0 ≤ x ∧ x < 18446744073709551616 := by rw [hx]; exact hmd.getD (by decide) _
  refine ⟨by simpa using hml, hmd.set _ (lo_bd _), fun j hj => ?_, ⟨by unfold hi; omega, by unfold hi; omega⟩, ?_⟩
  · rw [getD_set_ne (by omega)]; exact hsame j (by omega)
  · have f1 : vs 18446744073709551616 (fun i => (M.set (o + k) (lo (x + cy))).getD (o + i) 0) k = vs 18446744073709551616 (fun i => M.getD (o + i) 0) k :=
      vs_congr (fun i hi => getD_set_ne (by omega))
    have f2 : (M.set (o + k) (lo (x + cy))).getD (o + k) 0 = lo (x + cy) := getD_set_self (by omega)
    have f3 := hsame (o + k) (by omega)
    have et := lo_hi (x + cy)
    simp only [vs]
    rw [f1, f2, ← f3, ← hx, Int.pow_succ, Int.mul_assoc]
    generalize (18446744073709551616 : Int) ^ k = P at hv ⊢
    have e6 : P * lo (x + cy) + P * (18446744073709551616 * hi (x + cy)) = P * x + P * cy := by rw [← Int.mul_add, et, Int.mul_add]
    omega

/-- Where the sum fits, nothing is carried out of the room. -/
theorem at_room {L M : List Int} {o k np : Nat} {S cy : Int} (hk : k ≤ np) (hmd : Digs 18446744073709551616 M)
    (hc : 0 ≤ cy) (hfit : vs 18446744073709551616 (fun i => L.getD (o + i) 0) np + S < 18446744073709551616 ^ np)
    (hv : vs 18446744073709551616 (fun i => M.getD (o + i) 0) k + 18446744073709551616 ^ k * cy = vs 18446744073709551616 (fun i => L.getD (o + i) 0) k + S) (h0 : cy ≠ 0) : k < np := by
  by_cases h : k < np
  · exact h
  · obtain rfl : k = np := by omega
    have h1 := vs_nonneg (B := 18446744073709551616) (by decide) (f := fun i => M.getD (o + i) 0) (n := k) (fun i _ => (hmd.getD (by decide) _).1)
    have h2 : 18446744073709551616 ^ k * 1 ≤ (18446744073709551616 : Int) ^ k * cy := Int.mul_le_mul_of_nonneg_left (by omega) (Int.le_of_lt (pow_pos' (by decide) _))
    omega

theorem at_end {L M : List Int} {o k np : Nat} {S : Int} (hk : k ≤ np) (hsame : ∀ j, j < o ∨ o + k ≤ j → M.getD j 0 = L.getD j 0)
    (hv : vs 18446744073709551616 (fun i => M.getD (o + i) 0) k + 18446744073709551616 ^ k * 0 = vs 18446744073709551616 (fun i => L.getD (o + i) 0) k + S) :
    vs 18446744073709551616 (fun i => M.getD (o + i) 0) np = vs 18446744073709551616 (fun i => L.getD (o + i) 0) np + S := by
  obtain ⟨r, rfl⟩ : ∃ r, np = k + r := ⟨np - k, by omega⟩
  rw [vs_add, vs_add 18446744073709551616 (fun i => L.getD (o + i) 0)]
  have e : vs 18446744073709551616 (fun i => M.getD (o + (k + i)) 0) r = vs 18446744073709551616 (fun i => L.getD (o + (k + i)) 0) r := vs_congr (fun i hi => hsame _ (by omega))
  rw [e]; omega

set_option maxHeartbeats 1600000 in
theorem maddTimes_any (s : Option Addr) (g o np c : Nat) (L : List Int) (b : Option Addr) (n cb : Nat) (ys : List Int) (m : Int) (w : World) (hs : s = some ⟨g, o, none⟩) (hm : 0 ≤ m ∧ m < 18446744073709551616)
    (hblk : Blk w g L) (hL : Digs 18446744073709551616 L) (hnp : n ≤ np) (hon : o + np ≤ L.length) (hn : np ≤ 100000) (hy : Nums w b n cb ys) (hap : 0 < n → Apart b g)
    (hfit : vs 18446744073709551616 (fun i => L.getD (o + i) 0) np + m * val 18446744073709551616 ys < 18446744073709551616 ^ np) :
    Calls Tryz.prog 136 #[.slice s np c, .slice b n cb, .int .u64 m] w fun e w' => ∃ M, e = .returned (.tuple #[]) ∧ Blk w' g M ∧ Digs 18446744073709551616 M ∧ M.length = L.length ∧
      (∀ j, j < o ∨ o + np ≤ j → M.getD j 0 = L.getD j 0) ∧
      vs 18446744073709551616 (fun i => M.getD (o + i) 0) np = vs 18446744073709551616 (fun i => L.getD (o + i) 0) np + m * val 18446744073709551616 ys ∧
      w.grownBy w' (some g) := by
  subst hs
  have hyd := hy.digs
  have hyl := hy.hlen
  obtain ⟨S, hS⟩ : ∃ S, S = m * val 18446744073709551616 ys := ⟨_, rfl⟩
  have HF : Hid (vs 18446744073709551616 (fun i => L.getD (o + i) 0) np + S < 18446744073709551616 ^ np) := by rw [hS]; exact hfit
  have HS : Hid (S = m * vs 18446744073709551616 (fun i => ys.getD i 0) n) := by show S = _; rw [vs_all _ ys (by omega)]; exact hS
  rw [← hS]
  clear hfit hS hyl
  go_enter Tryz.func136, Tryz.ntmps136
  go_wp2
  go_loopw [6, 14] (fun cv i wr => ∃ k : Nat, k ≤ n ∧ i = .int .i64 k ∧ ∃ M cy, cv = .int .u64 cy ∧ Blk wr g M ∧ M.length = L.length ∧ Digs 18446744073709551616 M ∧
      (∀ j, j < o ∨ o + k ≤ j → M.getD j 0 = L.getD j 0) ∧ (0 ≤ cy ∧ cy < 18446744073709551616) ∧
      vs 18446744073709551616 (fun i => M.getD (o + i) 0) k + 18446744073709551616 ^ k * cy = vs 18446744073709551616 (fun i => L.getD (o + i) 0) k + m * vs 18446744073709551616 (fun i => ys.getD i 0) k ∧
      w.grownBy wr (some g)) (fun _ i _ => n - (intOf i).toNat)
  case atStart => exact ⟨0, Nat.zero_le _, rfl, L, 0, rfl, hblk, rfl, hL, fun _ _ => rfl, by omega, by simp [vs], World.grownBy.refl _ _⟩
  case round =>
    obtain ⟨k, hk, rfl, M, cy, rfl, hbM, hml, hmd, hsame, hcy, hv, hgr⟩ := hrel
    by_cases hlt : k < n
    · obtain ⟨x, hx⟩ : ∃ x, x = M.getD (o + k) 0 := ⟨_, rfl⟩
      obtain ⟨y, hy'⟩ : ∃ y, y = ys.getD k 0 := ⟨_, rfl⟩
      have hc1 : wr.cell? ⟨g, o + k, none⟩ = some (.int .u64 x) := by rw [hx]; exact hbM.cell (by omega)
      have hf1 : wr.frozen? ⟨g, o + k, none⟩ = false := hbM.frozen _
      have hyn := hy.grown hgr hap
      obtain ⟨b2, o2, rfl, hc⟩ := hyn.cells (by omega)
      have hc2 : wr.cell? ⟨b2, o2 + k, none⟩ = some (.int .u64 y) := by rw [hy']; exact hc k hlt
      have bx : 0 ≤ x ∧ x < 18446744073709551616 := by rw [hx]; exact hmd.getD (by decide) _
      have by' : 0 ≤ y ∧ y < 18446744073709551616 := by rw [hy']; exact hyd.getD (by decide) _
      have hki : (k : Int) < (n : Int) := by omega
      have hkp : (k : Int) < (np : Int) := by omega
      have bhi := hi_mul_bd by' hm
      have blo := lo_bd (y * m)
      have elh := lo_hi (y * m)
      obtain ⟨h, hh⟩ : ∃ h, h = hi (y * m) := ⟨_, rfl⟩
      obtain ⟨l, hll⟩ : ∃ l, l = lo (y * m) := ⟨_, rfl⟩
      have HMul : Hid (∀ wx, Calls Tryz.prog 151 #[.int .u64 y, .int .u64 m] wx fun e w' => e = .returned (.tuple #[.int .u64 h, .int .u64 l]) ∧ w' = wx) := fun wx => by rw [hh, hll]; exact mul64_any y m by' hm wx
      rw [← hh] at bhi elh
      rw [← hll] at blo elh
      have b1 : 0 ≤ h ∧ h ≤ 18446744073709551614 := ⟨bhi.1, bhi.2.1⟩
      have e2 := lo_hi (l + cy)
      have bs := lo_bd (l + cy)
      have br : 0 ≤ hi (l + cy) ∧ hi (l + cy) ≤ 1 := by unfold hi; omega
      obtain ⟨s1, hs1⟩ : ∃ s1, s1 = lo (l + cy) := ⟨_, rfl⟩
      obtain ⟨r, hr⟩ : ∃ r, r = hi (l + cy) := ⟨_, rfl⟩
      have A1 : ∀ wx, (callFunc 127 #[.int .u64 l, .int .u64 cy, .int .u64 0]).run Tryz.prog wx = .ok (.value (.tuple #[.int .u64 s1, .int .u64 r])) wx := fun wx => by rw [hs1, hr]; exact add64z l cy blo.1 hcy.1 wx
      rw [← hs1] at e2 bs
      rw [← hr] at e2 br
      have e3 := lo_hi (x + s1)
      have bz := lo_bd (x + s1)
      have bt : 0 ≤ hi (x + s1) := by unfold hi; omega
      obtain ⟨t, ht⟩ : ∃ t, t = hi (x + s1) := ⟨_, rfl⟩
      obtain ⟨z, hz⟩ : ∃ z, z = lo (x + s1) := ⟨_, rfl⟩
      have A2 : ∀ wx, (callFunc 127 #[.int .u64 x, .int .u64 s1, .int .u64 0]).run Tryz.prog wx = .ok (.value (.tuple #[.int .u64 z, .int .u64 t])) wx := fun wx => by rw [ht, hz]; exact add64z x s1 bx.1 bs.1 wx
      rw [← hz] at e3 bz
      rw [← ht] at e3 bt
      have R := at_step2 (z := z) (c := h + r + t) hlt (by omega) hml hmd hyd hm hsame hcy hv hx hy' (by omega) bz (by omega)
      have HR := (show Hid _ from R)
      have bt2 : h + r + t < 18446744073709551616 := R.2.2.2.1.2
      have HB := (show Hid _ from hbM.set (o + k) z)
      have HG := (show Hid _ from grown_trans hgr (grown_set wr g (o + k) (.int .u64 z)))
      clear hx hy' hml hmd hsame hv R hbM hL hon hyd hblk hgr hc hh hll hs1 hr ht hz elh e2 e3 bhi hyn
      go_wp2_with fail
      refine (HMul.out _).mono ?_
      rintro e w' ⟨rfl, rfl⟩
      go_wp2
      go_roundw
      case rel => exact ⟨k + 1, by omega, by go_num, _, _, rfl, HB.out, HR.out.1, HR.out.2.1, HR.out.2.2.1, HR.out.2.2.2.1, HR.out.2.2.2.2, HG.out⟩
      case measure => simp [intOf]; omega
    · obtain rfl : k = n := by omega
      rw [← HS.out] at hv
      have hnk : k ≤ np := hnp
      clear HS hlt hblk hL hyd hy hap hk
      go_wp2
      go_loopw [6, 11] (fun cv i wr => ∃ k : Nat, k ≤ np ∧ i = .int .i64 k ∧ ∃ M cy, cv = .int .u64 cy ∧ Blk wr g M ∧ M.length = L.length ∧ Digs 18446744073709551616 M ∧
          (∀ j, j < o ∨ o + k ≤ j → M.getD j 0 = L.getD j 0) ∧ (0 ≤ cy ∧ cy < 18446744073709551616) ∧
          vs 18446744073709551616 (fun i => M.getD (o + i) 0) k + 18446744073709551616 ^ k * cy = vs 18446744073709551616 (fun i => L.getD (o + i) 0) k + S ∧
          w.grownBy wr (some g)) (fun _ i _ => np - (intOf i).toNat)
      case atStart => exact ⟨k, hnk, rfl, M, cy, rfl, hbM, hml, hmd, hsame, hcy, hv, hgr⟩
      case round =>
        clear hbM hml hmd hsame hcy hv hgr
        obtain ⟨k1, hk1, rfl, N, cz, rfl, hbM, hml, hmd, hsame, hcy, hv, hgr⟩ := hrel
        by_cases h0 : cz = 0
        · subst h0
          have HE := (show Hid _ from at_end hk1 hsame hv)
          have HS2 : Hid (∀ j, j < o ∨ o + np ≤ j → N.getD j 0 = L.getD j 0) := fun j hj => hsame j (by omega)
          have HX := (show Hid _ from And.intro hbM (And.intro hmd (And.intro hml hgr)))
          clear hbM hml hmd hsame hv hgr
          go_wp2
          go_end0
          exact ⟨N, rfl, HX.out.1, HX.out.2.1, HX.out.2.2.1, HS2.out, HE.out, HX.out.2.2.2⟩
        · have hlt : k1 < np := at_room hk1 hmd hcy.1 HF.out hv h0
          obtain ⟨x, hx⟩ : ∃ x, x = N.getD (o + k1) 0 := ⟨_, rfl⟩
          have hc1 : wr.cell? ⟨g, o + k1, none⟩ = some (.int .u64 x) := by rw [hx]; exact hbM.cell (by omega)
          have hf1 : wr.frozen? ⟨g, o + k1, none⟩ = false := hbM.frozen _
          have bx : 0 ≤ x ∧ x < 18446744073709551616 := by rw [hx]; exact hmd.getD (by decide) _
          have hkp : (k1 : Int) < (np : Int) := by omega
          have hne : (cz == 0) = false := by simp [h0]
          have R := at_step3 (by omega) hml hmd hsame hcy hv hx
          obtain ⟨t, ht⟩ : ∃ t, t = hi (x + cz) := ⟨_, rfl⟩
          obtain ⟨z, hz⟩ : ∃ z, z = lo (x + cz) := ⟨_, rfl⟩
          have A2 : ∀ wx, (callFunc 127 #[.int .u64 x, .int .u64 cz, .int .u64 0]).run Tryz.prog wx = .ok (.value (.tuple #[.int .u64 z, .int .u64 t])) wx := fun wx => by rw [ht, hz]; exact add64z x cz bx.1 hcy.1 wx
          rw [← ht, ← hz] at R
          have HR := (show Hid _ from R)
          have HB := (show Hid _ from hbM.set (o + k1) z)
          have HG := (show Hid _ from grown_trans hgr (grown_set wr g (o + k1) (.int .u64 z)))
          clear hx hml hmd hsame hv R hbM hon hgr ht hz
          go_wp2
          go_roundw
          case rel => exact ⟨k1 + 1, by omega, by go_num, _, _, rfl, HB.out, HR.out.1, HR.out.2.1, HR.out.2.2.1, HR.out.2.2.2.1, HR.out.2.2.2.2, HG.out⟩
          case measure => simp [intOf]; omega
end Go.Proofs.YtnbdbahfekneoaaGreat

namespace Go.Proofs.YtnbdbahfekneoaaGreat
open Go.RowKit

/-- What a ring's numbers are to each other. -/
structure RingOk (zs : List Int) (f : Int) (qs : List Int) : Prop where
  right : rightB zs = true
  len : 0 < zs.length ∧ zs.length ≤ 8
  odd : zs.getD 0 0 % 2 = 1
  three : 3 ≤ val 18446744073709551616 zs
  word : 0 ≤ f ∧ f < 18446744073709551616
  fac : (1 + f * zs.getD 0 0) % 18446744073709551616 = 0
  top : Top qs
  sq : val 18446744073709551616 qs = (18446744073709551616 ^ zs.length * 18446744073709551616 ^ zs.length) % val 18446744073709551616 zs

/-- The number below zs of which R times it has the rest of v. -/
def Red (zs : List Int) (v : Int) (ls : List Int) : Prop :=
  Digs 18446744073709551616 ls ∧ Top ls ∧ val 18446744073709551616 ls < val 18446744073709551616 zs ∧ (18446744073709551616 ^ zs.length * val 18446744073709551616 ls) % val 18446744073709551616 zs = v % val 18446744073709551616 zs

set_option maxHeartbeats 800000 in
theorem brought_any (p : Option Addr) (zs : List Int) (f : Int) (qs : List Int) (a : Option Addr) (la ca : Nat) (xs : List Int) (w : World) (h : RingAt w p zs f qs) (hz : rightB zs = true) (ha : Nums w a la ca xs) (hx : rightB xs = true)
    (hlt : val 18446744073709551616 xs < 2 * val 18446744073709551616 zs) :
    Calls Tryz.prog 137 #[.pointer p, .slice a la ca] w fun e w' => ∃ a' n c' ls, e = .returned (.slice a' n c') ∧ Nums w' a' n c' ls ∧ Top ls ∧ val 18446744073709551616 ls < val 18446744073709551616 zs ∧
      (∃ t, val 18446744073709551616 xs = val 18446744073709551616 ls + t * val 18446744073709551616 zs) ∧ Below w.heap.size w w' := by
  obtain ⟨g, na, n, nc, q, m, cq, rfl, h0, h1, h2, hn, hq⟩ := h
  have hcn : cmpN xs zs = cmpZ (val 18446744073709551616 xs) (val 18446744073709551616 zs) := by simp [cmpN, hx, hz]
  by_cases hl : val 18446744073709551616 xs < val 18446744073709551616 zs
  · have hc1 : cmpN xs zs = -1 := by rw [hcn, cmpZ_lt hl]
    have HX : Hid (Top xs ∧ val 18446744073709551616 xs < val 18446744073709551616 zs ∧ ∃ t, val 18446744073709551616 xs = val 18446744073709551616 xs + t * val 18446744073709551616 zs) := ⟨right_top hx, hl, 0, by simp⟩
    clear hcn hl hlt
    go_enter Tryz.func137, Tryz.ntmps137
    go_wp2_with fail
    refine (cmp_any _ _ _ _ _ _ _ _ _ ha hn).mono ?_
    rintro e w1 ⟨rfl, hb1⟩
    rw [hc1]
    clear hc1
    go_wp2_with fail
    go_ret
    exact ⟨_, _, _, _, rfl, ha.below hb1, HX.out.1, HX.out.2.1, HX.out.2.2, hb1⟩
  · have hc1 : ¬ cmpN xs zs < 0 := by rw [hcn]; unfold cmpZ; rw [if_neg hl]; split <;> omega
    obtain ⟨cc, hcc⟩ : ∃ cc, cc = cmpN xs zs := ⟨_, rfl⟩
    rw [← hcc] at hc1
    have HC : Hid (cc = cmpN xs zs) := hcc
    have HL : Hid (¬ val 18446744073709551616 xs < val 18446744073709551616 zs ∧ val 18446744073709551616 xs < 2 * val 18446744073709551616 zs) := ⟨hl, hlt⟩
    clear hcn hcc hl hlt
    go_enter Tryz.func137, Tryz.ntmps137
    go_wp2_with fail
    refine (cmp_any _ _ _ _ _ _ _ _ _ ha hn).mono ?_
    rintro e w1 ⟨rfl, hb1⟩
    rw [← HC.out]
    have hk0 : w1.cell? ⟨g, 0, none⟩ = some (.slice na n nc) := (hb1.cell (World.block_lt_of_cell? w _ h0)).trans h0
    clear HC h0 h1 h2
    go_wp2_with fail
    refine (sub_any _ _ _ _ _ _ _ _ _ (ha.below hb1) (hn.below hb1)).mono ?_
    rintro e w2 ⟨a', k, c', ls, err, rfl, hls, hres, -, hb2⟩
    have hb := hb1.trans (hb2.mono hb1.size)
    have HX : Hid (Top ls ∧ val 18446744073709551616 ls < val 18446744073709551616 zs ∧ ∃ t, val 18446744073709551616 xs = val 18446744073709551616 ls + t * val 18446744073709551616 zs) := by
      have hl := HL.out
      have hnl : ¬ val 18446744073709551616 xs < val 18446744073709551616 zs := by omega
      unfold ResSub at hres
      rw [hx, hz, if_pos (show (true && true) = true from rfl), if_neg hnl] at hres
      rcases hres with ⟨rfl, hd, ht, hle, hv⟩ | ⟨rfl, rfl, ks, hd, ht, hv, h64⟩
      · exact ⟨ht, by omega, 1, by omega⟩
      · exfalso
        have e1 := val_ge (B := 18446744073709551616) (by decide) hd ht (by intro e; subst e; simp at h64)
        have e2 := val_lt (B := 18446744073709551616) (by decide) ha.digs
        have e3 := right_len hx
        have e4 := pow_mono (B := 18446744073709551616) (by decide) (show xs.length ≤ ks.length - 1 by omega)
        have e5 := val_nonneg (B := 18446744073709551616) (by decide) hn.digs
        omega
    clear hres HL
    go_wp2_with fail
    go_ret
    exact ⟨_, _, _, _, rfl, hls, HX.out.1, HX.out.2.1, HX.out.2.2, hb⟩

theorem vs_low {B : Int} (f : Nat → Int) (n : Nat) : vs B f (n + 1) % B = f 0 % B := by
  rw [show n + 1 = 1 + n by omega, vs_add]
  simp only [vs, Int.pow_zero, Int.one_mul, Int.pow_one, Int.zero_add]
  rw [Int.add_mul_emod_self_left]

/-- A round of the reduction: what the sum at place i leaves. -/
theorem red_step {M N : List Int} {k i : Nat} {zs : List Int} {f t v m : Int} (hik : i < k) (hzl : zs.length = k)
    (hfac : (1 + f * zs.getD 0 0) % 18446744073709551616 = 0)
    (hnd : Digs 18446744073709551616 N)
    (hlow : ∀ j, j < i → M.getD j 0 = 0) (hv : vs 18446744073709551616 (fun j => M.getD j 0) (2 * k + 1) = v + t * val 18446744073709551616 zs) (ht : 0 ≤ t ∧ t < 18446744073709551616 ^ i)
    (hm : m = (M.getD i 0 * f) % 18446744073709551616)
    (hsame : ∀ j, j < i ∨ i + (2 * k + 1 - i) ≤ j → N.getD j 0 = M.getD j 0)
    (hseg : vs 18446744073709551616 (fun j => N.getD (i + j) 0) (2 * k + 1 - i) = vs 18446744073709551616 (fun j => M.getD (i + j) 0) (2 * k + 1 - i) + m * val 18446744073709551616 zs) :
    (∀ j, j < i + 1 → N.getD j 0 = 0) ∧ ∃ t', vs 18446744073709551616 (fun j => N.getD j 0) (2 * k + 1) = v + t' * val 18446744073709551616 zs ∧ 0 ≤ t' ∧ t' < 18446744073709551616 ^ (i + 1) := by
  have hm0 : 0 ≤ m ∧ m < 18446744073709551616 := by rw [hm]; omega
  refine ⟨fun j hj => ?_, t + m * 18446744073709551616 ^ i, ?_, ?_, ?_⟩
  · by_cases hji : j < i
    · rw [hsame j (.inl hji)]; exact hlow j hji
    · obtain rfl : j = i := by omega
      obtain ⟨r, hr⟩ : ∃ r, 2 * k + 1 - j = r + 1 := ⟨2 * k - j, by omega⟩
      rw [hr] at hseg
      have e1 := vs_low (B := 18446744073709551616) (fun x => N.getD (j + x) 0) r
      have e2 := vs_low (B := 18446744073709551616) (fun x => M.getD (j + x) 0) r
      simp only [Nat.add_zero] at e1 e2
      have e3 : val 18446744073709551616 zs % 18446744073709551616 = zs.getD 0 0 % 18446744073709551616 := by
        obtain ⟨q, hq⟩ : ∃ q, zs.length = q + 1 := ⟨zs.length - 1, by omega⟩
        have := vs_low (B := 18446744073709551616) (fun x => zs.getD x 0) q
        rw [← hq, vs_all _ zs (Nat.le_refl _)] at this
        exact this
      have bn := hnd.getD (by decide) j
      have e4 : (M.getD j 0 + m * val 18446744073709551616 zs) % 18446744073709551616 = 0 := by
        rw [Int.add_emod, Int.mul_emod, e3, hm, Int.emod_emod, ← Int.mul_emod, ← Int.add_emod, Int.mul_assoc]
        have : M.getD j 0 + M.getD j 0 * (f * zs.getD 0 0) = M.getD j 0 * (1 + f * zs.getD 0 0) := by rw [Int.mul_add, Int.mul_one]
        rw [this, Int.mul_emod, hfac]; simp
      have e5 : N.getD j 0 % 18446744073709551616 = 0 := by
        rw [← e1, hseg, Int.add_emod, e2, ← Int.add_emod]; exact e4
      omega
  · have e := vs_seg (B := 18446744073709551616) (N := N) (M := M) (o := i) (m := 2 * k + 1 - i) (n := 2 * k + 1) (by omega) hsame
    rw [e, hseg, hv, Int.add_mul]
    have e2 : vs 18446744073709551616 (fun j => M.getD (i + j) 0) (2 * k + 1 - i) + m * val 18446744073709551616 zs - vs 18446744073709551616 (fun j => M.getD (i + j) 0) (2 * k + 1 - i) = m * val 18446744073709551616 zs := by omega
    rw [e2, Int.mul_assoc m, Int.mul_left_comm m]; omega
  · have := Int.mul_nonneg hm0.1 (Int.le_of_lt (pow_pos' (B := 18446744073709551616) (by decide) i)); omega
  · have h1 : m * 18446744073709551616 ^ i ≤ 18446744073709551615 * 18446744073709551616 ^ i := Int.mul_le_mul_of_nonneg_right (by omega) (Int.le_of_lt (pow_pos' (by decide) i))
    rw [Int.pow_succ]; omega

/-- The sum at place i fits. -/
theorem red_fits {M : List Int} {k i : Nat} {zs : List Int} {t v m : Int} (hik : i < k) (hzl : zs.length = k) (hzd : Digs 18446744073709551616 zs) (hn : 0 < val 18446744073709551616 zs)
    (hlow : ∀ j, j < i → M.getD j 0 = 0) (hv : vs 18446744073709551616 (fun j => M.getD j 0) (2 * k + 1) = v + t * val 18446744073709551616 zs) (ht : 0 ≤ t ∧ t < 18446744073709551616 ^ i)
    (hm : 0 ≤ m ∧ m < 18446744073709551616) (hvn : v < val 18446744073709551616 zs * 18446744073709551616 ^ k) :
    vs 18446744073709551616 (fun j => M.getD (i + j) 0) (2 * k + 1 - i) + m * val 18446744073709551616 zs < 18446744073709551616 ^ (2 * k + 1 - i) := by
  have e1 : vs 18446744073709551616 (fun j => M.getD j 0) (2 * k + 1) = 18446744073709551616 ^ i * vs 18446744073709551616 (fun j => M.getD (i + j) 0) (2 * k + 1 - i) := by
    have := vs_add 18446744073709551616 (fun j => M.getD j 0) i (2 * k + 1 - i)
    rw [show i + (2 * k + 1 - i) = 2 * k + 1 by omega, vs_zero _ hlow] at this
    omega
  generalize vs 18446744073709551616 (fun j => M.getD (i + j) 0) (2 * k + 1 - i) = s at e1 ⊢
  have hN := val_lt (B := 18446744073709551616) (by decide) hzd
  rw [hzl] at hN
  have p1 := pow_pos' (B := 18446744073709551616) (by decide) i
  have p2 := pow_pos' (B := 18446744073709551616) (by decide) k
  generalize val 18446744073709551616 zs = n at *
  -- (t + m B^i) n < B^(i+1) n <= B^k n
  have a1 : t + m * 18446744073709551616 ^ i + 1 ≤ 18446744073709551616 ^ (i + 1) := by
    have h1 : m * 18446744073709551616 ^ i ≤ 18446744073709551615 * 18446744073709551616 ^ i := Int.mul_le_mul_of_nonneg_right (by omega) (Int.le_of_lt p1)
    rw [Int.pow_succ]; omega
  have a2 := pow_mono (B := 18446744073709551616) (by decide) (show i + 1 ≤ k by omega)
  have a3 : (t + m * 18446744073709551616 ^ i) * n ≤ 18446744073709551616 ^ k * n := Int.mul_le_mul_of_nonneg_right (by omega) (Int.le_of_lt hn)
  have a4 : n * 18446744073709551616 ^ k ≤ 18446744073709551616 ^ k * 18446744073709551616 ^ k := Int.mul_le_mul_of_nonneg_right (Int.le_of_lt hN) (Int.le_of_lt p2)
  have a5 : (18446744073709551616 : Int) ^ (2 * k + 1) = 18446744073709551616 ^ k * 18446744073709551616 ^ k * 18446744073709551616 := by rw [Int.pow_succ, show 2 * k = k + k by omega, Int.pow_add]
  have a6 : (18446744073709551616 : Int) ^ (2 * k + 1) = 18446744073709551616 ^ i * 18446744073709551616 ^ (2 * k + 1 - i) := by rw [← Int.pow_add]; congr 1; omega
  have a7 : 0 < (18446744073709551616 : Int) ^ k * 18446744073709551616 ^ k := Int.mul_pos p2 p2
  have a8 : 18446744073709551616 ^ i * (s + m * n) < 18446744073709551616 ^ i * 18446744073709551616 ^ (2 * k + 1 - i) := by
    rw [← a6, a5, Int.mul_add, ← e1, hv]
    have : 18446744073709551616 ^ i * (m * n) = m * 18446744073709551616 ^ i * n := by rw [← Int.mul_assoc, Int.mul_comm _ m]
    rw [this]
    rw [Int.add_mul] at a3
    rw [Int.mul_comm (18446744073709551616 ^ k) n] at a3
    omega
  exact Int.lt_of_mul_lt_mul_left a8 (Int.le_of_lt p1)

theorem red_end {M : List Int} {k : Nat} {zs : List Int} {t v : Int} (hn : 0 < val 18446744073709551616 zs)
    (hlow : ∀ j, j < k → M.getD j 0 = 0) (hv : vs 18446744073709551616 (fun j => M.getD j 0) (2 * k + 1) = v + t * val 18446744073709551616 zs) (ht : 0 ≤ t ∧ t < 18446744073709551616 ^ k)
    (hvn : v < val 18446744073709551616 zs * 18446744073709551616 ^ k) : 18446744073709551616 ^ k * vs 18446744073709551616 (fun j => M.getD (k + j) 0) (k + 1) = v + t * val 18446744073709551616 zs ∧ vs 18446744073709551616 (fun j => M.getD (k + j) 0) (k + 1) < 2 * val 18446744073709551616 zs := by
  have e1 : vs 18446744073709551616 (fun j => M.getD j 0) (2 * k + 1) = 18446744073709551616 ^ k * vs 18446744073709551616 (fun j => M.getD (k + j) 0) (k + 1) := by
    have := vs_add 18446744073709551616 (fun j => M.getD j 0) k (k + 1)
    rw [show k + (k + 1) = 2 * k + 1 by omega, vs_zero _ hlow] at this
    omega
  have p2 := pow_pos' (B := 18446744073709551616) (by decide) k
  refine ⟨by rw [← e1]; exact hv, ?_⟩
  generalize vs 18446744073709551616 (fun j => M.getD (k + j) 0) (k + 1) = s at e1 ⊢
  generalize val 18446744073709551616 zs = n at *
  have a3 : t * n ≤ 18446744073709551616 ^ k * n := Int.mul_le_mul_of_nonneg_right (by omega) (Int.le_of_lt hn)
  refine Int.lt_of_mul_lt_mul_left (a := 18446744073709551616 ^ k) ?_ (Int.le_of_lt p2)
  rw [← e1, hv, Int.mul_left_comm]
  rw [Int.mul_comm n] at hvn
  omega
end Go.Proofs.YtnbdbahfekneoaaGreat
