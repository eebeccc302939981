/-
  How a ring lies in memory; contracts of its has, and of mont's trimmed and inverse.
-/
import Derived.Test.YtnioobiodiofiabAddTimes
namespace Go.Proofs.Ytnioobiodiofiab
open Go.RowKit

/-- At p lies a ring: its modulus zs, its factor f, and the number qs. -/
def RingAt (w : World) (p : Option Addr) (zs : List Int) (f : Int) (qs : List Int) : Prop :=
  ∃ g a n ca q m cq, p = some ⟨g, 0, none⟩ ∧ w.cell? ⟨g, 0, none⟩ = some (.slice a n ca) ∧ w.cell? ⟨g, 1, none⟩ = some (.int .u64 f) ∧ w.cell? ⟨g, 2, none⟩ = some (.slice q m cq) ∧ Nums w a n ca zs ∧ Nums w q m cq qs

theorem RingAt.below {w w' : World} {p : Option Addr} {zs : List Int} {f : Int} {qs : List Int} (h : RingAt w p zs f qs) (hb : Below w.heap.size w w') : RingAt w' p zs f qs := by
  obtain ⟨g, a, n, ca, q, m, cq, hp, h0, h1, h2, hn, hq⟩ := h
  have k : ∀ (j : Nat) (v : Value), w.cell? ⟨g, j, none⟩ = some v → w'.cell? ⟨g, j, none⟩ = some v := fun j v hc => (hb.cell (World.block_lt_of_cell? w _ hc)).trans hc
  exact ⟨g, a, n, ca, q, m, cq, hp, k _ _ h0, k _ _ h1, k _ _ h2, hn.below hb, hq.below hb⟩

/-- A number that may be, below another one. -/
def belowB (xs zs : List Int) : Bool := rightB xs && decide (val 18446744073709551616 xs < val 18446744073709551616 zs)

set_option maxHeartbeats 800000 in
theorem has_any (p : Option Addr) (zs : List Int) (f : Int) (qs : List Int) (a : Option Addr) (la ca : Nat) (xs : List Int) (w : World) (h : RingAt w p zs f qs) (hz : rightB zs = true) (ha : Nums w a la ca xs) :
    Calls Try.prog 29 #[.pointer p, .slice a la ca] w fun e w' => e = .returned (.bool (belowB xs zs)) ∧ Below w.heap.size w w' := by
  obtain ⟨g, na, n, nc, q, m, cq, rfl, h0, h1, h2, hn, hq⟩ := h
  cases hr : rightB xs with
  | false =>
    have e : belowB xs zs = false := by simp [belowB, hr]
    rw [e]
    go_enter Try.func29, Try.ntmps29
    go_wp2_with fail
    refine (right_any _ _ _ _ _ ha).mono ?_
    rintro e w' ⟨rfl, rfl⟩
    rw [hr]
    go_wp2_with fail
    go_ret
    exact ⟨rfl, Below.refl _ _⟩
  | true =>
    have e : belowB xs zs = decide (cmpN xs zs < 0) := by
      simp only [belowB, cmpN, hr, hz, Bool.and_self, if_true, Bool.true_and]
      unfold cmpZ
      split
      · simp_all
      · split <;> simp_all
    rw [e]
    go_enter Try.func29, Try.ntmps29
    go_wp2_with fail
    refine (right_any _ _ _ _ _ ha).mono ?_
    rintro e w' ⟨rfl, rfl⟩
    rw [hr]
    go_wp2_with fail
    refine (cmp_any _ _ _ _ _ _ _ _ _ ha hn).mono ?_
    rintro e w1 ⟨rfl, hb1⟩
    go_wp2_with fail
    go_ret
    exact ⟨rfl, hb1⟩
set_option maxHeartbeats 400000 in
theorem mtrimmed_any (a : Option Addr) (len cap : Nat) (zs : List Int) (w : World) (h : Nums w a len cap zs) :
    Calls Try.prog 58 #[.slice a len cap] w fun e w' => ∃ a' k cap', e = .returned (.slice a' k cap') ∧ Trim zs k ∧ (k = 0 ∧ a' = none ∧ cap' = 0 ∨ 0 < k ∧ a' = a ∧ cap' = cap) ∧ w' = w := by
  have hl := h.hlen
  have hm := h.hmax
  have hcp := h.hcap
  unfold maxLen at hm
  by_cases h0 : len = 0
  · subst h0
    have ht : Trim zs 0 := ⟨Nat.zero_le _, fun j _ hj => by omega, .inl rfl⟩
    cases a with
    | none =>
      go_enter Try.func58, Try.ntmps58
      go_wp2
      go_loopw [3] (fun i wr => i = .int .i64 0 ∧ wr = w) (fun _ _ => 0)
      case atStart => exact ⟨rfl, rfl⟩
      case round =>
        obtain ⟨rfl, rfl⟩ := hrel
        go_wp2
        go_ret
        exact ⟨none, 0, 0, rfl, ht, .inl ⟨rfl, rfl, rfl⟩, rfl⟩
    | some x =>
      go_enter Try.func58, Try.ntmps58
      go_wp2
      go_loopw [3] (fun i wr => i = .int .i64 0 ∧ wr = w) (fun _ _ => 0)
      case atStart => exact ⟨rfl, rfl⟩
      case round =>
        obtain ⟨rfl, rfl⟩ := hrel
        go_wp2
        go_ret
        exact ⟨none, 0, 0, rfl, ht, .inl ⟨rfl, rfl, rfl⟩, rfl⟩
  · obtain ⟨b, off, rfl, hc⟩ := h.cells (by omega)
    clear h
    go_enter Try.func58, Try.ntmps58
    go_wp2
    go_loopw [3] (fun i wr => ∃ k : Nat, k ≤ len ∧ i = .int .i64 k ∧ (∀ j, k ≤ j → j < len → zs.getD j 0 = 0) ∧ wr = w) (fun i _ => (intOf i).toNat)
    case atStart => exact ⟨len, Nat.le_refl _, rfl, fun j h1 h2 => by omega, rfl⟩
    case round =>
      obtain ⟨k, hk, rfl, heq, rfl⟩ := hrel
      have HE : Hid (∀ j, k ≤ j → j < len → zs.getD j 0 = 0) := heq
      have HL : Hid (zs.length = len) := hl
      clear heq
      by_cases hk0 : k = 0
      · subst hk0
        go_wp2
        go_ret
        exact ⟨none, 0, 0, rfl, ⟨Nat.zero_le _, fun j h1 h2 => HE.out j h1 (by have := HL.out; omega), .inl rfl⟩, .inl ⟨rfl, rfl, rfl⟩, rfl⟩
      · have hp : (0 : Int) < (k : Int) := by omega
        have hlt : ((k : Int) - 1) < (len : Int) := by omega
        have hge : 0 ≤ ((k : Int) - 1) := by omega
        obtain ⟨x, hx⟩ : ∃ x, x = zs.getD (k - 1) 0 := ⟨_, rfl⟩
        have c1 : wr.cell? ⟨b, off + (k - 1), none⟩ = some (.int .u64 x) := by rw [hx]; exact hc (k - 1) (by omega)
        have HX : Hid (x = zs.getD (k - 1) 0) := hx
        clear hx hl
        by_cases hx0 : x = 0
        · subst hx0
          go_wp2
          go_roundw
          case rel =>
            refine ⟨k - 1, by omega, by go_num, fun j h1 h2 => ?_, by first | rfl | trivial⟩
            by_cases hj : k ≤ j
            · exact HE.out j hj h2
            · obtain rfl : j = k - 1 := by omega
              exact HX.out.symm
          case measure => simp [intOf]; omega
        · have hne : (x == 0) = false := by simp [hx0]
          have hkne : ((k : Int) == 0) = false := by simp; omega
          go_wp2
          go_ret
          exact ⟨_, k, cap, rfl, ⟨by have := HL.out; omega, fun j h1 h2 => HE.out j h1 (by have := HL.out; omega), .inr (by rw [← HX.out]; exact hx0)⟩, .inr ⟨by omega, rfl, rfl⟩, rfl⟩

theorem wrap64 (z : Int) : IntKind.u64.wrap z = z % 18446744073709551616 := by simp [IntKind.wrap, IntKind.signed, IntKind.bits]
theorem two_dvd {i j : Nat} (h : i ≤ j) : (2 : Int) ^ i ∣ 2 ^ j := ⟨2 ^ (j - i), by rw [← Int.pow_add, Nat.add_sub_cancel' h]⟩

def pk (k : Nat) : Int := 2 ^ (min 64 (3 * 2 ^ k))

theorem pk_step {k : Nat} {e : Int} (h : pk k ∣ e) (t : Int) : pk (k + 1) ∣ -(e * e) + 18446744073709551616 * t := by
  have h1 : pk (k + 1) ∣ pk k * pk k := by
    unfold pk
    rw [← Int.pow_add]
    exact two_dvd (by rw [Nat.pow_succ]; omega)
  have h2 : pk (k + 1) ∣ 18446744073709551616 := by
    unfold pk
    rw [show (18446744073709551616 : Int) = 2 ^ 64 by decide]
    exact two_dvd (by omega)
  refine Int.dvd_add ?_ (Int.dvd_trans h2 (Int.dvd_mul_right _ _))
  exact (Int.dvd_neg.2 (Int.dvd_trans h1 (Int.mul_dvd_mul h h)))

theorem odd_square {x : Int} (h : x % 2 = 1) : pk 0 ∣ x * x - 1 := by
  have e : pk 0 = 8 := by decide
  rw [e]
  obtain ⟨t, ht⟩ : ∃ t, x = 2 * t + 1 := ⟨x / 2, by omega⟩
  have h2 : (t * (t + 1)) % 2 = 0 := by
    have : t % 2 = 0 ∨ t % 2 = 1 := by omega
    rw [Int.mul_emod]
    rcases this with h | h
    · rw [h]; simp
    · rw [show (t + 1) % 2 = 0 by omega]; simp
  obtain ⟨s, hs⟩ : ∃ s, t * (t + 1) = 2 * s := ⟨t * (t + 1) / 2, by omega⟩
  refine ⟨s, ?_⟩
  subst ht
  have : (2 * t + 1) * (2 * t + 1) - 1 = 4 * (t * (t + 1)) := by
    simp only [Int.mul_add, Int.add_mul, Int.mul_one, Int.one_mul]
    have : 2 * t * (2 * t) = 4 * (t * t) := by rw [Int.mul_assoc, Int.mul_left_comm t 2 t]; omega
    omega
  rw [this, hs]; omega

def inv1 (x y : Int) : Int := (y * ((2 - (x * y) % 18446744073709551616) % 18446744073709551616)) % 18446744073709551616
theorem inv1_bd (x y : Int) : 0 ≤ inv1 x y ∧ inv1 x y < 18446744073709551616 := by unfold inv1; omega
theorem inv1_step {x y : Int} {k : Nat} (h : pk k ∣ x * y - 1) : pk (k + 1) ∣ x * inv1 x y - 1 := by
  obtain ⟨e, he⟩ : ∃ e, e = x * y - 1 := ⟨_, rfl⟩
  rw [← he] at h
  have h1 : ∃ t, inv1 x y = y * (2 - x * y) + 18446744073709551616 * t := by
    unfold inv1
    obtain ⟨a, ha⟩ : ∃ a, (x * y) % 18446744073709551616 = x * y + 18446744073709551616 * a := ⟨-(x * y / 18446744073709551616), by omega⟩
    rw [ha]
    obtain ⟨b, hb⟩ : ∃ b, (2 - (x * y + 18446744073709551616 * a)) % 18446744073709551616 = 2 - x * y + 18446744073709551616 * b := ⟨-a - (2 - (x * y + 18446744073709551616 * a)) / 18446744073709551616, by omega⟩
    rw [hb]
    generalize 2 - x * y = u
    rw [Int.mul_add, Int.mul_left_comm]
    refine ⟨y * b - (y * u + 18446744073709551616 * (y * b)) / 18446744073709551616, ?_⟩
    omega
  obtain ⟨t, ht⟩ := h1
  have e2 : x * inv1 x y - 1 = -(e * e) + 18446744073709551616 * (x * t) := by
    rw [ht, Int.mul_add, ← Int.mul_assoc x y, Int.mul_left_comm x 18446744073709551616 t]
    have : x * y = e + 1 := by omega
    rw [this]
    have : (e + 1) * (2 - (e + 1)) = 1 - e * e := by
      simp only [Int.mul_sub, Int.add_mul, Int.mul_add, Int.one_mul, Int.mul_one]; omega
    omega
  rw [e2]
  exact pk_step h _

set_option maxHeartbeats 400000 in
theorem inverse_any (x : Int) (w : World) (hx : 0 ≤ x ∧ x < 18446744073709551616) (ho : x % 2 = 1) :
    Calls Try.prog 54 #[.int .u64 x] w fun e w' => ∃ y, e = .returned (.int .u64 y) ∧ (0 ≤ y ∧ y < 18446744073709551616) ∧ (x * y) % 18446744073709551616 = 1 ∧ w' = w := by
  have H0 : Hid (pk 0 ∣ x * x - 1) := odd_square ho
  clear ho
  go_enter Try.func54, Try.ntmps54
  go_wp2
  go_loopw [3, 5] (fun v i wr => ∃ (k : Nat) (y : Int), k ≤ 5 ∧ i = .int .i64 k ∧ v = .int .u64 y ∧ (0 ≤ y ∧ y < 18446744073709551616) ∧ Hid (pk k ∣ x * y - 1) ∧ wr = w) (fun _ i _ => 5 - (intOf i).toNat)
  case atStart => exact ⟨0, x, by omega, rfl, rfl, hx, H0, rfl⟩
  case round =>
    obtain ⟨k, y, hk, rfl, rfl, hy, HP, rfl⟩ := hrel
    by_cases hlt : k < 5
    · have hki : (k : Int) < 5 := by omega
      go_wp2
      go_roundw
      case rel => exact ⟨k + 1, inv1 x y, by omega, by go_num, by simp only [wrap64, inv1], inv1_bd _ _, inv1_step HP.out, by first | rfl | trivial⟩
      case measure => simp [intOf]; omega
    · obtain rfl : k = 5 := by omega
      go_wp2
      go_ret
      refine ⟨y, rfl, hy, ?_, rfl⟩
      have h := HP.out
      have e : pk 5 = 18446744073709551616 := by decide
      rw [e] at h
      omega
end Go.Proofs.Ytnioobiodiofiab
