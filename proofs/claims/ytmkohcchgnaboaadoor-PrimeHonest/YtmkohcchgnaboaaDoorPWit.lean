/-
  Contracts of the program's own Witness and of what it reckons with: the rest of a product of two words, a power's rest, how often a number is halved.
-/
import Derived.Test.YtmkohcchgnaboaaDoorPIs
import Derived.Test.YtmkohcchgnaboaaDoorRefWit
import Derived.Test.YtmkohcchgnaboaaDoorNatD
import Derived.Test.YtmkohcchgnaboaaDoorNatB
import Derived.Shelf.Spec.TrailingZeros
namespace Go.Proofs.YtmkohcchgnaboaaDoor
open Go.RowKit Go.Shelf

def tz64_ren : Go.Shelf.Ren := ⟨fun | 29 => 8 | n => n, fun | 0 => 0 | 3 => 3 | 4 => 4 | 5 => 5 | 22 => 22 | 25 => 38 | 54 => 37 | n => n, fun | 1 => 0 | n => n⟩
theorem tz64_lays : Lays7.n29 Tryd.prog tz64_ren :=
  { mixed := by kernel_rfl, f29 := Tryd.func8.trans (by kernel_rfl),
    t0 := Tryd.underlying0, a0 := Tryd.isAgg0, z0 := Tryd.sizeOf0, v0 := Tryd.zeroValue0, i0 := by kernel_rfl,
    t3 := Tryd.underlying3, a3 := Tryd.isAgg3, z3 := Tryd.sizeOf3, v3 := Tryd.zeroValue3, i3 := by kernel_rfl,
    t4 := Tryd.underlying4, a4 := Tryd.isAgg4, z4 := Tryd.sizeOf4, v4 := Tryd.zeroValue4, i4 := by kernel_rfl,
    t5 := Tryd.underlying5, a5 := Tryd.isAgg5, z5 := Tryd.sizeOf5, v5 := Tryd.zeroValue5, i5 := by kernel_rfl,
    t22 := Tryd.underlying22, a22 := Tryd.isAgg22, z22 := Tryd.sizeOf22, v22 := Tryd.zeroValue22, i22 := by kernel_rfl,
    t25 := Tryd.underlying38, a25 := Tryd.isAgg38, z25 := Tryd.sizeOf38, v25 := Tryd.zeroValue38, i25 := by kernel_rfl,
    t54 := Tryd.underlying37, a54 := Tryd.isAgg37, z54 := Tryd.sizeOf37, g1 := by kernel_rfl }

/-- The library's table of places of bits lies in its variable. -/
def Tab (w : World) : Prop := TabAt 0 Lib.deBruijn64tab w
theorem Tab.below {w w' : World} (h : Tab w) (hb : Below w.heap.size w w') : Tab w' := fun j hj => by
  have := h j hj
  exact (hb.cell (p := ⟨0, j, none⟩) (World.block_lt_of_cell? w _ this)).trans this

theorem tz64_any (x : Nat) (hx : x < 18446744073709551616) (h0 : x ≠ 0) (w : World) (hT : Tab w) :
    Calls Tryd.prog 8 #[.int .u64 (x : Int)] w fun e w' => (∃ d s : Nat, e = .returned (.int .i64 (s : Int)) ∧ x = d * 2 ^ s ∧ d % 2 = 1 ∧ s < 64) ∧ w' = w := by
  refine (Any7.bits_TrailingZeros64 tz64_lays x hx w (fun _ => hT)).mono ?_
  rintro e w' ⟨rfl, rfl⟩
  have e : Lib.ctz 64 x = Lib.ctzFrom 64 x := by simp [Lib.ctz, h0]
  obtain ⟨m, hm, hk⟩ := Lib.ctzFrom_spec 64 x (by omega) (by omega)
  rw [e]
  exact ⟨⟨2 * m + 1, Lib.ctzFrom 64 x, rfl, by rw [Nat.mul_comm]; exact hm, by omega, hk⟩, rfl⟩
theorem rem_of {h lw y q r : Int} (e : h % y * 18446744073709551616 + lw = q * y + r) (h0 : 0 ≤ r) (h1 : r < y) : r = (h * 18446744073709551616 + lw) % y := by
  have e1 : h * 18446744073709551616 + lw = r + y * (h / y * 18446744073709551616 + q) := by
    have e2 := Int.emod_add_mul_ediv h y
    have e3 : h * 18446744073709551616 = (h % y + y * (h / y)) * 18446744073709551616 := by rw [e2]
    rw [e3, Int.add_mul, Int.mul_add, Int.mul_assoc, Int.mul_comm y q]
    omega
  rw [e1, Int.add_mul_emod_self_left, Int.emod_eq_of_lt h0 h1]

set_option maxHeartbeats 800000 in
theorem rem64_any (h lw y : Int) (hh : 0 ≤ h ∧ h < 18446744073709551616) (hl : 0 ≤ lw ∧ lw < 18446744073709551616) (hy : 0 < y ∧ y < 18446744073709551616) (w : World) :
    Calls Tryd.prog 17 #[.int .u64 h, .int .u64 lw, .int .u64 y] w fun e w' => e = .returned (.int .u64 ((h * 18446744073709551616 + lw) % y)) ∧ ∃ n, w' = w.drewN n := by
  have hyz : ¬ y = 0 := by omega
  have hm0 : 0 ≤ h % y := Int.emod_nonneg _ hyz
  have hm1 : h % y < y := Int.emod_lt_of_pos _ hy.1
  have HD : Hid (∀ wx : World, Calls Tryd.prog 24 #[.int .u64 (h % y), .int .u64 lw, .int .u64 y] wx fun e w' => ∃ q r, e = .returned (.tuple #[.int .u64 q, .int .u64 r]) ∧ r = (h * 18446744073709551616 + lw) % y ∧ ∃ n, w' = wx.drewN n) := fun wx => by
    by_cases h0 : h % y = 0
    · have := div64_low lw y hl hy wx
      rw [h0]
      refine this.mono ?_
      rintro e w' ⟨q, r, rfl, he, hr, -, hw⟩
      exact ⟨q, r, rfl, rem_of (by rw [h0]; exact he) hr.1 hr.2, hw⟩
    · refine (div64_high (h % y) lw y hl (by omega) hm1 hy.2 wx).mono ?_
      rintro e w' ⟨q, r, rfl, he, hr, -, hw⟩
      exact ⟨q, r, rfl, rem_of he hr.1 hr.2, hw⟩
  go_enter Tryd.func17, Tryd.ntmps17
  go_wp2_with fail
  refine (HD.out _).mono ?_
  rintro e w' ⟨q, r, rfl, hr, k, rfl⟩
  clear HD
  go_wp2
  go_ret
  exact ⟨by first | rfl | exact ret_int hr, k, rfl⟩
set_option maxHeartbeats 800000 in
theorem productBy_any (a b n : Nat) (w : World) (ha : a < 18446744073709551616) (hb : b < 18446744073709551616) (hn : 0 < n ∧ n < 18446744073709551616) :
    Calls Tryd.prog 10 #[.int .u64 (a : Int), .int .u64 (b : Int), .int .u64 (n : Int)] w fun e w' => e = .returned (.int .u64 ((a * b % n : Nat) : Int)) ∧ Below w.heap.size w w' := by
  have hp : a * b < 18446744073709551616 * 18446744073709551616 := Nat.mul_lt_mul'' ha hb
  obtain ⟨p, hpe⟩ : ∃ p, p = a * b := ⟨_, rfl⟩
  have HM : Hid (∀ wx : World, Calls Tryd.prog 16 #[.int .u64 (a : Int), .int .u64 (b : Int)] wx fun e w' => e = .returned (.tuple #[.int .u64 ((p / 18446744073709551616 : Nat) : Int), .int .u64 ((p % 18446744073709551616 : Nat) : Int)]) ∧ w' = wx) := fun wx => by
    rw [hpe]; exact mul64N a b ha hb wx
  rw [← hpe] at hp ⊢
  obtain ⟨h, hh⟩ : ∃ h : Nat, h = p / 18446744073709551616 := ⟨_, rfl⟩
  obtain ⟨l, hl⟩ : ∃ l : Nat, l = p % 18446744073709551616 := ⟨_, rfl⟩
  have hhb : h < 18446744073709551616 := by omega
  have hlb : l < 18446744073709551616 := by omega
  have HP : Hid (((h : Int) * 18446744073709551616 + (l : Int)) % (n : Int) = ((p % n : Nat) : Int)) := by
    show _ = _
    rw [Int.natCast_emod]
    congr 1
    omega
  rw [← hh, ← hl] at HM
  clear hh hl hp hpe
  go_enter Tryd.func10, Tryd.ntmps10
  go_wp2_with fail
  refine (HM.out _).mono ?_
  rintro e w1 ⟨rfl, rfl⟩
  clear HM
  go_wp2_with fail
  refine (rem64_any (h : Int) (l : Int) (n : Int) (by omega) (by omega) (by omega) _).mono ?_
  rintro e w2 ⟨rfl, k, rfl⟩
  rw [HP.out]
  clear HP
  go_wp2
  go_ret
  exact ⟨rfl, below_drewN (Below.refl _ _) _⟩
theorem pow_odd {n A t s e : Nat} (h : t * s ^ e % n = A) (ho : e % 2 = 1) : t * s % n * (s * s % n) ^ (e / 2) % n = A := by
  rw [← h]
  have h1 : s ^ (1 + 2 * (e / 2)) = s * (s * s) ^ (e / 2) := by rw [Nat.pow_add, Nat.pow_one, Nat.pow_mul, Nat.pow_two]
  rw [show 1 + 2 * (e / 2) = e by omega] at h1
  rw [h1, Nat.mul_mod, ← Nat.pow_mod, Nat.mod_mod, ← Nat.mul_mod, Nat.mul_assoc]
theorem pow_even {n A t s e : Nat} (h : t * s ^ e % n = A) (ho : e % 2 = 0) : t * (s * s % n) ^ (e / 2) % n = A := by
  rw [← h]
  have h1 : s ^ (2 * (e / 2)) = (s * s) ^ (e / 2) := by rw [Nat.pow_mul, Nat.pow_two]
  rw [show 2 * (e / 2) = e by omega] at h1
  rw [h1, Nat.mul_mod, ← Nat.pow_mod, ← Nat.mul_mod]

theorem and_one {e : Nat} (h : e < 18446744073709551616) : bits .and .u64 (e : Int) 1 = ((e % 2 : Nat) : Int) := by
  have h1 := bits_and_u64_nat e 1 h (by omega)
  rw [Nat.and_one_is_mod] at h1
  exact h1

set_option maxRecDepth 20000 in
set_option maxHeartbeats 1600000 in
theorem powerBy_any (a E n : Nat) (w : World) (ha : a < 18446744073709551616) (hE : E < 18446744073709551616) (hn : 1 < n ∧ n < 18446744073709551616) :
    Calls Tryd.prog 9 #[.int .u64 (a : Int), .int .u64 (E : Int), .int .u64 (n : Int)] w fun e w' => e = .returned (.int .u64 ((a ^ E % n : Nat) : Int)) ∧ Below w.heap.size w w' := by
  obtain ⟨A, hA⟩ : ∃ A, A = a ^ E % n := ⟨_, rfl⟩
  have H0 : Hid (1 * a ^ E % n = A) := by show _ = _; rw [Nat.one_mul, hA]
  rw [← hA]
  clear hA
  go_enter Tryd.func9, Tryd.ntmps9
  go_wp2
  go_loopw [1, 7, 8] (fun ev tv sv wr => ∃ e t s : Nat, ev = .int .u64 (e : Int) ∧ tv = .int .u64 (t : Int) ∧ sv = .int .u64 (s : Int) ∧ e < 18446744073709551616 ∧ t < n ∧ s < 18446744073709551616 ∧ Hid (t * s ^ e % n = A) ∧ Below w.heap.size w wr) (fun ev _ _ _ => (intOf ev).toNat)
  case atStart => exact ⟨E, 1, a, rfl, rfl, rfl, hE, hn.1, ha, H0, Below.refl _ _⟩
  case round =>
    obtain ⟨e, t, s, rfl, rfl, rfl, he, ht, hs, HI, hb⟩ := hrel
    clear H0
    by_cases h0 : e = 0
    · have HA : Hid (t = A) := by
        show _ = _
        have := HI.out
        rw [h0, Nat.pow_zero, Nat.mul_one, Nat.mod_eq_of_lt ht] at this
        exact this
      subst h0
      clear HI
      go_wp2
      go_ret
      exact ⟨ret_int (by rw [HA.out]), hb⟩
    have hd : (0 : Int) < (e : Int) := by omega
    have hand := and_one he
    obtain ⟨s', hs'⟩ : ∃ s', s' = s * s % n := ⟨_, rfl⟩
    have hss : s' < n := by rw [hs']; exact Nat.mod_lt _ (by omega)
    have HSS : Hid (∀ wx : World, Calls Tryd.prog 10 #[.int .u64 (s : Int), .int .u64 (s : Int), .int .u64 (n : Int)] wx fun e w' => e = .returned (.int .u64 (s' : Int)) ∧ Below wx.heap.size wx w') := fun wx => by
      rw [hs']; exact productBy_any s s n wx hs hs (by omega)
    by_cases ho : e % 2 = 1
    · obtain ⟨t', ht'⟩ : ∃ t', t' = t * s % n := ⟨_, rfl⟩
      have hts : t' < n := by rw [ht']; exact Nat.mod_lt _ (by omega)
      have HTS : Hid (∀ wx : World, Calls Tryd.prog 10 #[.int .u64 (t : Int), .int .u64 (s : Int), .int .u64 (n : Int)] wx fun e w' => e = .returned (.int .u64 (t' : Int)) ∧ Below wx.heap.size wx w') := fun wx => by
        rw [ht']; exact productBy_any t s n wx (by omega) hs (by omega)
      have HO : Hid (t' * s' ^ (e / 2) % n = A) := by show _ = _; rw [ht', hs']; exact pow_odd HI.out ho
      rw [ho] at hand
      clear HI h0 ht' hs'
      go_wp2_with fail
      refine (HTS.out _).mono ?_
      rintro e' w1 ⟨rfl, hb1⟩
      have hB1 := hb.trans (hb1.mono hb.size)
      clear hb hb1
      go_wp2_with fail
      refine (HSS.out _).mono ?_
      rintro e' w2 ⟨rfl, hb2⟩
      have hB2 := hB1.trans (hb2.mono hB1.size)
      clear hB1 hb2 HSS HTS
      go_wp2
      go_roundw
      case rel => exact ⟨e / 2, t', s', by go_num, rfl, rfl, by omega, hts, by omega, HO, hB2⟩
      case measure => simp [intOf]; omega
    · have ho' : e % 2 = 0 := by omega
      have HO : Hid (t * s' ^ (e / 2) % n = A) := by show _ = _; rw [hs']; exact pow_even HI.out ho'
      rw [ho'] at hand
      clear HI h0 ho hs'
      go_wp2_with fail
      refine (HSS.out _).mono ?_
      rintro e' w2 ⟨rfl, hb2⟩
      have hB2 := hb.trans (hb2.mono hb.size)
      clear hb hb2 HSS
      go_wp2
      go_roundw
      case rel => exact ⟨e / 2, t, s', by go_num, rfl, rfl, by omega, ht, by omega, HO, hB2⟩
      case measure => simp [intOf]; omega
set_option maxRecDepth 20000 in
set_option maxHeartbeats 3200000 in
theorem wit_any (a n : Nat) (w : World) (hT : Tab w) (ha : a < 18446744073709551616) :
    Calls Tryd.prog 5 #[.int .u64 (a : Int), .int .u64 (n : Int)] w fun e w' => WitT a n e ∧ Below w.heap.size w w' := by
  by_cases c0 : (n : Int) % 2 = 0
  · have HR : Hid (WitT a n (.returned (.tuple #[.bool false, .int .i64 1]))) := .inl ⟨.inl (by omega), rfl⟩
    have c0' : ((n : Int) % 2 == 0) = true := by simp [c0]
    clear c0
    go_enter Tryd.func5, Tryd.ntmps5
    go_wp2
    go_ret2
    exact ⟨HR.out, Below.refl _ _⟩
  have d0 : ((n : Int) % 2 == 0) = false := by simp [c0]
  by_cases c1 : (n : Int) < 3
  · have HR : Hid (WitT a n (.returned (.tuple #[.bool false, .int .i64 1]))) := .inl ⟨.inr (.inl (by omega)), rfl⟩
    clear c0
    go_enter Tryd.func5, Tryd.ntmps5
    go_wp2
    go_ret2
    exact ⟨HR.out, Below.refl _ _⟩
  have d1 : decide ((n : Int) < 3) = false := decide_eq_false c1
  by_cases c2 : (1099511627776 : Int) ≤ (n : Int)
  · have HR : Hid (WitT a n (.returned (.tuple #[.bool false, .int .i64 1]))) := .inl ⟨.inr (.inr (by omega)), rfl⟩
    clear c0 c1
    go_enter Tryd.func5, Tryd.ntmps5
    go_wp2
    go_ret2
    exact ⟨HR.out, Below.refl _ _⟩
  have d2 : decide ((1099511627776 : Int) ≤ (n : Int)) = false := decide_eq_false c2
  have HOk : Hid (¬ (n % 2 = 0 ∨ n < 3 ∨ 1099511627776 ≤ n)) := by show ¬ _; omega
  have n1 : 3 ≤ n := by omega
  have n2 : n < 1099511627776 := by omega
  obtain ⟨m, hm1⟩ : ∃ m, n - 1 = m := ⟨n - 1, rfl⟩
  have hnm : (n : Int) - 1 = (m : Int) := by omega
  have HTz : Hid (∀ wx : World, Tab wx → Calls Tryd.prog 8 #[.int .u64 (m : Int)] wx fun e w' => (∃ d s : Nat, e = .returned (.int .i64 (s : Int)) ∧ m = d * 2 ^ s ∧ d % 2 = 1 ∧ s < 64) ∧ w' = wx) := fun wx hx => tz64_any m (by omega) (by omega) wx hx
  clear c0 c1 c2
  go_enter Tryd.func5, Tryd.ntmps5
  go_wp2_with fail
  first
    | refine (HTz.out _ hT).mono ?_
    | (rw [hnm]; refine (HTz.out _ hT).mono ?_)
  rintro e w1 ⟨⟨d, s, rfl, hm, hdo, hs⟩, rfl⟩
  have HI := (show Hid _ from wit_iff (a := a) (n := n) (hm1.trans hm) hdo)
  have hd0 : 0 < d := by omega
  have hp : 0 < 2 ^ s := Nat.pow_pos (by decide)
  have hdm : d ≤ m := by rw [hm]; exact Nat.le_mul_of_pos_right d hp
  have hsh : (m : Int) / 2 ^ s = (d : Int) := by
    have : (2 : Int) ^ s = ((2 ^ s : Nat) : Int) := by simp
    rw [this, ← Int.natCast_ediv, hm, Nat.mul_div_cancel _ hp]
  clear hm HTz hp
  have HM1 : Hid (n - 1 = m) := hm1
  clear hm1
  obtain ⟨k, hk⟩ : ∃ k : Nat, k = a ^ d % n := ⟨_, rfl⟩
  have hkb : k < n := by rw [hk]; exact Nat.mod_lt _ (by omega)
  have HK : Hid (k = a ^ d % n) := hk
  have HP : Hid (∀ wx : World, Calls Tryd.prog 9 #[.int .u64 (a : Int), .int .u64 (d : Int), .int .u64 (n : Int)] wx fun e w' => e = .returned (.int .u64 (k : Int)) ∧ Below wx.heap.size wx w') := fun wx => by
    rw [hk]; exact powerBy_any a d n wx ha (by omega) (by omega)
  clear hk
  go_wp2_with fail
  first
    | refine (HP.out _).mono ?_
    | (rw [hsh]; refine (HP.out _).mono ?_)
    | (rw [hnm, hsh]; refine (HP.out _).mono ?_)
  rintro e w2 ⟨rfl, hb2⟩
  clear HP hsh
  by_cases c1 : (k : Int) ≤ 1
  · have HR : Hid (WitT a n (.returned (.tuple #[.bool false, .int .i64 0]))) := .inr (.inr ⟨HOk.out, fun h => by
      have := (HI.out.1 h).1
      rw [← HK.out] at this
      omega, rfl⟩)
    go_wp2
    go_ret2
    exact ⟨HR.out, hb2⟩
  have d1' : decide ((k : Int) ≤ 1) = false := decide_eq_false c1
  have HK1 : Hid (1 < a ^ d % n) := by show _ < _; rw [← HK.out]; omega
  clear c1
  go_wp2
  go_loopw [7, 32] (fun xv iv wr => ∃ i v : Nat, i ≤ s ∧ iv = .int .i64 (i : Int) ∧ xv = .int .u64 (v : Int) ∧ v < n ∧ Hid (v = a ^ (d * 2 ^ i) % n ∧ ∀ j, j < i → a ^ (d * 2 ^ j) % n ≠ n - 1) ∧ Below w1.heap.size w1 wr) (fun _ iv _ => s - (intOf iv).toNat)
  case atStart => exact ⟨0, k, Nat.zero_le _, rfl, rfl, hkb, ⟨by rw [HK.out]; simp, fun j hj => by omega⟩, hb2⟩
  case round =>
    obtain ⟨i, v, hi, rfl, rfl, hv, HV, hb⟩ := hrel
    clear hb2 HK hkb
    by_cases hlt : i < s
    · have hlti : (i : Int) < (s : Int) := by omega
      by_cases hvm : v = m
      · have HR : Hid (WitT a n (.returned (.tuple #[.bool false, .int .i64 0]))) := .inr (.inr ⟨HOk.out, fun h => by
          refine (HI.out.1 h).2 i hlt ?_
          rw [← HV.out.1, HM1.out]
          exact hvm, rfl⟩)
        have hvi : ((v : Int) == (m : Int)) = true := by simp [hvm]

        clear HV HI HK1
        go_wp2
        go_ret2
        exact ⟨HR.out, hb⟩
      · have hvi : ((v : Int) == (m : Int)) = false := by simp; omega

        have hsq : v * v % n < n := Nat.mod_lt _ (by omega)
        have HV2 : Hid (v * v % n = a ^ (d * 2 ^ (i + 1)) % n ∧ ∀ j, j < i + 1 → a ^ (d * 2 ^ j) % n ≠ n - 1) := by
          refine ⟨?_, fun j hj => ?_⟩
          · rw [Nat.pow_succ, ← Nat.mul_assoc, pow_mod_sq, ← HV.out.1]
          · by_cases e : j = i
            · rw [e, ← HV.out.1, HM1.out]; exact hvm
            · exact HV.out.2 j (by omega)
        clear HV
        go_wp2_with fail
        refine (productBy_any v v n _ (by omega) (by omega) (by omega)).mono ?_
        rintro e w3 ⟨rfl, hb3⟩
        have hB3 := hb.trans (hb3.mono hb.size)
        clear hb hb3 hvm
        generalize v * v % n = v' at *
        go_wp2
        go_roundw
        case rel => exact ⟨i + 1, v', by omega, by go_num, rfl, hsq, HV2, hB3⟩
        case measure => simp [intOf]; omega
    · have hie : i = s := by omega
      have hid : decide ((i : Int) < (s : Int)) = false := decide_eq_false (by omega)
      have HR : Hid (WitT a n (.returned (.tuple #[.bool true, .int .i64 0]))) := .inr (.inl ⟨HOk.out, HI.out.2 ⟨HK1.out, fun j hj => HV.out.2 j (by omega)⟩, rfl⟩)
      clear HV HI HK1 hlt
      go_wp2
      go_ret2
      exact ⟨HR.out, hb⟩
end Go.Proofs.YtmkohcchgnaboaaDoor
