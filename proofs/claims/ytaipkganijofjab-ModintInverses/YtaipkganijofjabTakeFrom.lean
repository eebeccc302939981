/-
  The contract of takeFrom: the difference of limbs, in its place.
-/
import Derived.Test.YtaipkganijofjabAddTo
import Derived.Shelf.Spec.BitsCarry
namespace Go.Proofs.Ytaipkganijofjab
open Go.RowKit

theorem sub64 (x y b : Int) (hx : 0 ≤ x) (hy : 0 ≤ y) (hy' : y < 18446744073709551616) (hb0 : 0 ≤ b) (hb : b ≤ 1) (w : World) : (callFunc 110 #[.int .u64 x, .int .u64 y, .int .u64 b]).run Try.prog w =
    .ok (.value (.tuple #[.int .u64 (lo (x - y - b)), .int .u64 (bor x y b)])) w := by
  obtain ⟨x, rfl⟩ := Int.eq_ofNat_of_zero_le hx
  obtain ⟨y, rfl⟩ := Int.eq_ofNat_of_zero_le hy
  obtain ⟨b, rfl⟩ := Int.eq_ofNat_of_zero_le hb0
  have e1 : (((x + 18446744073709551616 - y - b) % 18446744073709551616 : Nat) : Int) = lo ((x : Int) - y - b) := by unfold lo; omega
  have e2 : ((if x < y + b then 1 else 0 : Nat) : Int) = bor x y b := by unfold bor; split <;> split <;> omega
  rw [← e1, ← e2, run_callFunc_extern Try.func110 (by kernel_rfl) (by kernel_rfl) (by kernel_rfl) (e := sub64Entry) (by kernel_rfl), run_sub64 x y b (by omega)]
  rfl

theorem take_step {L M : List Int} {o n k : Nat} {ys : List Int} {bw : Int} (hk : k < n) (hon : o + n ≤ L.length) (hml : M.length = L.length) (hmd : Digs 18446744073709551616 M) (hyd : Digs 18446744073709551616 ys)
    (hsame : ∀ j, j < o ∨ o + k ≤ j → M.getD j 0 = L.getD j 0) (hb : 0 ≤ bw ∧ bw ≤ 1)
    (hv : vs 18446744073709551616 (fun i => M.getD (o + i) 0) k - 18446744073709551616 ^ k * bw = vs 18446744073709551616 (fun i => L.getD (o + i) 0) k - vs 18446744073709551616 (fun i => ys.getD i 0) k)
    (x y : Int) (hx : x = M.getD (o + k) 0) (hy : y = ys.getD k 0) :
    (M.set (o + k) (lo (x - y - bw))).length = L.length ∧ Digs 18446744073709551616 (M.set (o + k) (lo (x - y - bw))) ∧
    (∀ j, j < o ∨ o + (k + 1) ≤ j → (M.set (o + k) (lo (x - y - bw))).getD j 0 = L.getD j 0) ∧ (0 ≤ bor x y bw ∧ bor x y bw ≤ 1) ∧
    vs 18446744073709551616 (fun i => (M.set (o + k) (lo (x - y - bw))).getD (o + i) 0) (k + 1) - 18446744073709551616 ^ (k + 1) * bor x y bw = vs 18446744073709551616 (fun i => L.getD (o + i) 0) (k + 1) - vs 18446744073709551616 (fun i => ys.getD i 0) (k + 1) := by
  have bx : 0 ≤ x ∧ x < 18446744073709551616 := by rw [hx]; exact hmd.getD (by decide) _
  have by' : 0 ≤ y ∧ y < 18446744073709551616 := by rw [hy]; exact hyd.getD (by decide) _
  refine ⟨by simpa using hml, hmd.set _ (lo_bd _), fun j hj => ?_, bor_bd _ _ _, ?_⟩
  · rw [getD_set_ne (by omega)]; exact hsame j (by omega)
  · have e1 : vs 18446744073709551616 (fun i => (M.set (o + k) (lo (x - y - bw))).getD (o + i) 0) k = vs 18446744073709551616 (fun i => M.getD (o + i) 0) k :=
      vs_congr (fun i hi => getD_set_ne (by omega))
    have e2 : (M.set (o + k) (lo (x - y - bw))).getD (o + k) 0 = lo (x - y - bw) := getD_set_self (by omega)
    have e3 := hsame (o + k) (by omega)
    simp only [vs]
    rw [e1, e2, ← e3, ← hx, ← hy]
    generalize hP : (18446744073709551616 : Int) ^ k = P at hv ⊢
    have e4 : (18446744073709551616 : Int) ^ (k + 1) = P * 18446744073709551616 := by rw [Int.pow_succ, hP]
    rw [e4, Int.mul_assoc]
    have e5 := lo_bor bx by' hb
    have e6 : P * lo (x - y - bw) - P * (18446744073709551616 * bor x y bw) = P * (x - y - bw) := by rw [← Int.mul_sub, e5]
    rw [Int.mul_sub, Int.mul_sub] at e6
    omega

set_option maxHeartbeats 800000 in
theorem takeFrom_any (s : Option Addr) (g o n c : Nat) (L : List Int) (b : Option Addr) (lb cb : Nat) (ys : List Int) (w : World) (hs : 0 < n → s = some ⟨g, o, none⟩)
    (hblk : 0 < n → Blk w g L) (hL : Digs 18446744073709551616 L) (hon : o + n ≤ L.length) (hn : n ≤ 100000) (hy : Nums w b lb cb ys) (hap : 0 < lb → Apart b g) :
    Calls Try.prog 97 #[.slice s n c, .slice b lb cb] w fun e w' => ∃ M bw, e = .returned (.tuple #[]) ∧ (0 < n → Blk w' g M) ∧ Digs 18446744073709551616 M ∧ M.length = L.length ∧
      (∀ j, j < o ∨ o + n ≤ j → M.getD j 0 = L.getD j 0) ∧ (0 ≤ bw ∧ bw ≤ 1) ∧
      vs 18446744073709551616 (fun i => M.getD (o + i) 0) n - 18446744073709551616 ^ n * bw = vs 18446744073709551616 (fun i => L.getD (o + i) 0) n - vs 18446744073709551616 (fun i => ys.getD i 0) n ∧
      w.grownBy w' (some g) := by
  have hyd := hy.digs
  go_enter Try.func97, Try.ntmps97
  go_wp2
  go_loopw [4, 8] (fun cv i wr => ∃ k : Nat, k ≤ n ∧ i = .int .i64 k ∧ ∃ M bw, cv = .int .u64 bw ∧ (0 < n → Blk wr g M) ∧ M.length = L.length ∧ Digs 18446744073709551616 M ∧
      (∀ j, j < o ∨ o + k ≤ j → M.getD j 0 = L.getD j 0) ∧ (0 ≤ bw ∧ bw ≤ 1) ∧
      vs 18446744073709551616 (fun i => M.getD (o + i) 0) k - 18446744073709551616 ^ k * bw = vs 18446744073709551616 (fun i => L.getD (o + i) 0) k - vs 18446744073709551616 (fun i => ys.getD i 0) k ∧
      w.grownBy wr (some g)) (fun _ i _ => n - (intOf i).toNat)
  case atStart => exact ⟨0, Nat.zero_le _, rfl, L, 0, rfl, hblk, rfl, hL, fun _ _ => rfl, by omega, by simp [vs], World.grownBy.refl _ _⟩
  case round =>
    obtain ⟨k, hk, rfl, M, bw, rfl, hbM', hml, hmd, hsame, hcy, hv, hgr⟩ := hrel
    by_cases hlt : k < n
    · have hbM := hbM' (by omega)
      obtain rfl := hs (by omega)
      obtain ⟨x, hx⟩ : ∃ x, x = M.getD (o + k) 0 := ⟨_, rfl⟩
      obtain ⟨y, hy'⟩ : ∃ y, y = ys.getD k 0 := ⟨_, rfl⟩
      have hc1 : wr.cell? ⟨g, o + k, none⟩ = some (.int .u64 x) := by rw [hx]; exact hbM.cell (by omega)
      have hf1 : wr.frozen? ⟨g, o + k, none⟩ = false := hbM.frozen _
      have R := take_step hlt hon hml hmd hyd hsame hcy hv x y hx hy'
      have HR := (show Hid _ from R)
      have hyn := hy.grown hgr hap
      have hlz : limbZ ys (k : Int) = y := by rw [limbZ_nat, hy']
      have bx : 0 ≤ x ∧ x < 18446744073709551616 := by rw [hx]; exact hmd.getD (by decide) _
      have by' : 0 ≤ y ∧ y < 18446744073709551616 := by rw [hy']; exact hyd.getD (by decide) _
      have hki : (k : Int) < (n : Int) := by omega
      have HB := (show Hid _ from hbM.set (o + k) (lo (x - y - bw)))
      have HG := (show Hid _ from grown_trans hgr (grown_set wr g (o + k) (.int .u64 (lo (x - y - bw)))))
      clear hx hy' hml hmd hsame hv R hbM hbM' hL hon hyd hblk hgr
      go_wp2_with fail
      go_region_with (first | (go_at_call 101; refine (limb_any b lb cb ys (k : Int) _ ?_).mono ?_; (exact ⟨hyn.hlen, hyn.hcap, hyn.hmax, hyn.cells, hyn.word⟩); rintro e w' ⟨rfl, rfl⟩; rw [hlz]) | simp only [sub64 x y bw bx.1 by'.1 by'.2 hcy.1 hcy.2])
      all_goals
        go_wp2
        go_roundw
        case rel => exact ⟨k + 1, by omega, by go_num, _, _, rfl, fun _ => HB.out, HR.out.1, HR.out.2.1, HR.out.2.2.1, HR.out.2.2.2.1, HR.out.2.2.2.2, grown_trans HG.out ⟨rfl, rfl, rfl, Nat.le_refl _, fun _ _ _ => rfl⟩⟩
        case measure => simp [intOf]; omega
    · obtain rfl : k = n := by omega
      go_wp2
      go_end0
      exact ⟨M, bw, rfl, hbM', hmd, hml, hsame, hcy, hv, hgr⟩
end Go.Proofs.Ytaipkganijofjab
