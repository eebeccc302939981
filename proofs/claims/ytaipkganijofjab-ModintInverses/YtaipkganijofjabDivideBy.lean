/-
  The contract of divideBy: a number by one word, in its place.
-/
import Derived.Test.YtaipkganijofjabDiv64
import Derived.Test.YtaipkganijofjabAddTo
namespace Go.Proofs.Ytaipkganijofjab
open Go.RowKit

theorem div64_any (h lw y : Int) (hh : 0 ≤ h) (hl : 0 ≤ lw ∧ lw < 18446744073709551616) (hhy : h < y) (hy : y < 18446744073709551616) (w : World) :
    Calls Try.prog 102 #[.int .u64 h, .int .u64 lw, .int .u64 y] w fun e w' => ∃ q r, e = .returned (.tuple #[.int .u64 q, .int .u64 r]) ∧ h * 18446744073709551616 + lw = q * y + r ∧ (0 ≤ r ∧ r < y) ∧ (0 ≤ q ∧ q < 18446744073709551616) ∧ ∃ n, w' = w.drewN n := by
  by_cases h0 : h = 0
  · subst h0; exact div64_low lw y hl ⟨hhy, hy⟩ w
  · exact div64_high h lw y hl (by omega) hhy hy w

theorem div64_eq (h lw y : Int) (hh : 0 ≤ h) (hl : 0 ≤ lw ∧ lw < 18446744073709551616) (hhy : h < y) (hy : y < 18446744073709551616) (w : World) :
    Calls Try.prog 102 #[.int .u64 h, .int .u64 lw, .int .u64 y] w fun e w' => e = .returned (.tuple #[.int .u64 ((h * 18446744073709551616 + lw) / y), .int .u64 ((h * 18446744073709551616 + lw) % y)]) ∧ ∃ n, w' = w.drewN n := by
  refine (div64_any h lw y hh hl hhy hy w).mono ?_
  rintro e w' ⟨q, r, rfl, heq, hr, hq, n, rfl⟩
  have e1 : (h * 18446744073709551616 + lw) / y = q := by
    rw [heq, Int.add_comm, Int.add_mul_ediv_right _ _ (by omega), Int.ediv_eq_zero_of_lt hr.1 hr.2, Int.zero_add]
  have e2 : (h * 18446744073709551616 + lw) % y = r := by
    rw [heq, Int.add_comm, Int.add_mul_emod_self_right, Int.emod_eq_of_lt hr.1 hr.2]
  rw [e1, e2]
  exact ⟨rfl, n, rfl⟩

theorem vs_head (B : Int) (f : Nat → Int) (n : Nat) : vs B f (n + 1) = f 0 + B * vs B (fun i => f (1 + i)) n := by
  have e : B ^ 1 = B := by rw [Int.pow_succ, Int.pow_zero, Int.one_mul]
  rw [Nat.add_comm, vs_add, e]; simp [vs]

theorem db_step {L M : List Int} {n i : Nat} {d r q r' : Int} (hi : i < n) (hn : n ≤ L.length) (hml : M.length = L.length) (hs : ∀ j, j < n - i ∨ n ≤ j → M.getD j 0 = L.getD j 0)
    (hv : vs 18446744073709551616 (fun t => L.getD (n - i + t) 0) i = d * vs 18446744073709551616 (fun t => M.getD (n - i + t) 0) i + r) (e : r * 18446744073709551616 + L.getD (n - 1 - i) 0 = q * d + r') :
    vs 18446744073709551616 (fun t => L.getD (n - (i + 1) + t) 0) (i + 1) = d * vs 18446744073709551616 (fun t => (M.set (n - 1 - i) q).getD (n - (i + 1) + t) 0) (i + 1) + r' ∧ (∀ j, j < n - (i + 1) ∨ n ≤ j → (M.set (n - 1 - i) q).getD j 0 = L.getD j 0) := by
  refine ⟨?_, fun j hj => by rw [getD_set_ne (by omega)]; exact hs j (by omega)⟩
  rw [vs_head, vs_head, show n - (i + 1) + 0 = n - 1 - i by omega, getD_set_self (by omega)]
  have e1 : vs 18446744073709551616 (fun t => L.getD (n - (i + 1) + (1 + t)) 0) i = vs 18446744073709551616 (fun t => L.getD (n - i + t) 0) i := vs_congr (fun t _ => by rw [show n - (i + 1) + (1 + t) = n - i + t by omega])
  have e2 : vs 18446744073709551616 (fun t => (M.set (n - 1 - i) q).getD (n - (i + 1) + (1 + t)) 0) i = vs 18446744073709551616 (fun t => M.getD (n - i + t) 0) i := vs_congr (fun t _ => by rw [show n - (i + 1) + (1 + t) = n - i + t by omega, getD_set_ne (by omega)])
  rw [e1, e2, hv, Int.mul_add, Int.mul_add, Int.mul_comm d q, Int.mul_left_comm d]
  omega

set_option maxHeartbeats 800000 in
theorem divideBy_any (s : Option Addr) (g n c : Nat) (L : List Int) (d : Int) (w : World) (hs : 0 < n → s = some ⟨g, 0, none⟩) (hblk : 0 < n → Blk w g L) (hL : Digs 18446744073709551616 L) (hnL : n ≤ L.length) (hn : n ≤ 100000) (hd : 0 < d ∧ d < 18446744073709551616) :
    Calls Try.prog 82 #[.slice s n c, .int .u64 d] w fun e w' => ∃ M r, e = .returned (.int .u64 r) ∧ (0 < n → Blk w' g M) ∧ Digs 18446744073709551616 M ∧ M.length = L.length ∧ (∀ j, n ≤ j → M.getD j 0 = L.getD j 0) ∧ (0 ≤ r ∧ r < d) ∧
      vs 18446744073709551616 (fun t => L.getD t 0) n = d * vs 18446744073709551616 (fun t => M.getD t 0) n + r ∧ w.grownBy w' (some g) := by
  go_enter Try.func82, Try.ntmps82
  go_wp2
  go_loopw [5, 10] (fun rv iv wr => ∃ i : Nat, i ≤ n ∧ iv = .int .i64 i ∧ ∃ M r, rv = .int .u64 r ∧ (0 < n → Blk wr g M) ∧ M.length = L.length ∧ Digs 18446744073709551616 M ∧ (∀ j, j < n - i ∨ n ≤ j → M.getD j 0 = L.getD j 0) ∧ (0 ≤ r ∧ r < d) ∧
      vs 18446744073709551616 (fun t => L.getD (n - i + t) 0) i = d * vs 18446744073709551616 (fun t => M.getD (n - i + t) 0) i + r ∧ w.grownBy wr (some g)) (fun _ iv _ => n - (intOf iv).toNat)
  case atStart => exact ⟨0, Nat.zero_le _, rfl, L, 0, rfl, hblk, rfl, hL, fun _ _ => rfl, by omega, by simp [vs], World.grownBy.refl _ _⟩
  case round =>
    obtain ⟨i, hi, rfl, M, r, rfl, hbM', hml, hmd, hsame, hr, hv, hgr⟩ := hrel
    by_cases hlt : i < n
    · have hbM := hbM' (by omega)
      obtain rfl := hs (by omega)
      obtain ⟨x, hx⟩ : ∃ x, x = M.getD (n - 1 - i) 0 := ⟨_, rfl⟩
      have hxL : L.getD (n - 1 - i) 0 = x := by rw [hx]; exact (hsame _ (by omega)).symm
      have hc1 : wr.cell? ⟨g, n - 1 - i, none⟩ = some (.int .u64 x) := by rw [hx]; exact hbM.cell (by omega)
      have hf1 : wr.frozen? ⟨g, n - 1 - i, none⟩ = false := hbM.frozen _
      have bx : 0 ≤ x ∧ x < 18446744073709551616 := by rw [hx]; exact hmd.getD (by decide) _
      have hlti : (i : Int) < (n : Int) := by omega
      have k0 : 0 ≤ (n : Int) - 1 - (i : Int) := by omega
      have k1 : (n : Int) - 1 - (i : Int) < (n : Int) := by omega
      have HD := (show Hid _ from div64_any r x d hr.1 bx hr.2 hd.2)
      have HI : Hid (M.length = L.length ∧ Digs 18446744073709551616 M ∧ (∀ j, j < n - i ∨ n ≤ j → M.getD j 0 = L.getD j 0) ∧ vs 18446744073709551616 (fun t => L.getD (n - i + t) 0) i = d * vs 18446744073709551616 (fun t => M.getD (n - i + t) 0) i + r ∧ L.getD (n - 1 - i) 0 = x) := ⟨hml, hmd, hsame, hv, hxL⟩
      clear hx hml hmd hsame hv hxL hbM' hL hblk
      go_wp2_with fail
      refine (HD.out _).mono ?_
      rintro e w1 ⟨q, r', rfl, hqr, hr', hq, m, rfl⟩
      have R := db_step hlt hnL HI.out.1 HI.out.2.2.1 HI.out.2.2.2.1 (by rw [HI.out.2.2.2.2]; exact hqr)
      have HR := (show Hid _ from R)
      have HB := (show Hid _ from hbM.set (n - 1 - i) q)
      have HG := (show Hid _ from grown_trans hgr (grown_set wr g (n - 1 - i) (.int .u64 q)))
      clear R hqr hbM hgr
      go_wp2
      go_roundw
      case rel => exact ⟨i + 1, by omega, by go_num, _, _, rfl, fun _ => HB.out, by simpa using HI.out.1, HI.out.2.1.set _ hq, HR.out.2, hr', HR.out.1, grown_trans HG.out ⟨rfl, rfl, rfl, Nat.le_refl _, fun _ _ _ => rfl⟩⟩
      case measure => simp [intOf]; omega
    · obtain rfl : i = n := by omega
      have hfin : vs 18446744073709551616 (fun t => L.getD t 0) i = d * vs 18446744073709551616 (fun t => M.getD t 0) i + r := by simpa using hv
      have HF : Hid (vs 18446744073709551616 (fun t => L.getD t 0) i = d * vs 18446744073709551616 (fun t => M.getD t 0) i + r) := hfin
      clear hfin hv
      go_wp2
      go_ret
      exact ⟨M, r, rfl, hbM', hmd, hml, fun j hj => hsame j (.inr hj), hr, HF.out, hgr⟩
end Go.Proofs.Ytaipkganijofjab
