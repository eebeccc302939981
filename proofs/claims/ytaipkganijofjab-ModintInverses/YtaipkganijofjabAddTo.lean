/-
  Contracts of addTo and takeFrom: sums and differences of limbs, in their place.
-/
import Derived.Test.YtaipkganijofjabCarry
namespace Go.Proofs.Ytaipkganijofjab
open Go.RowKit

theorem add64 (x y c : Int) (hx : 0 ≤ x) (hy : 0 ≤ y) (hc0 : 0 ≤ c) (hc : c ≤ 1) (w : World) : (callFunc 107 #[.int .u64 x, .int .u64 y, .int .u64 c]).run Try.prog w =
    .ok (.value (.tuple #[.int .u64 (lo (x + y + c)), .int .u64 (hi (x + y + c))])) w := by
  rw [run_callFunc_extern Try.func107 (by kernel_rfl) (by kernel_rfl) (by kernel_rfl) (e := add64Entry) (by kernel_rfl), run_add64 x y c hx hy hc0 hc]
  rfl

theorem getD_set_ne {L : List Int} {i j : Nat} {x : Int} (h : i ≠ j) : (L.set i x).getD j 0 = L.getD j 0 := by
  simp [List.getD, List.getElem?_set_ne h]
theorem getD_set_self {L : List Int} {i : Nat} {x : Int} (h : i < L.length) : (L.set i x).getD i 0 = x := by
  simp [List.getD, h]
theorem Digs.set {B : Int} {L : List Int} (h : Digs B L) (i : Nat) {x : Int} (hx : 0 ≤ x ∧ x < B) : Digs B (L.set i x) := by
  intro y hy
  rcases List.mem_or_eq_of_mem_set hy with hy | rfl
  · exact h y hy
  · exact hx

theorem limbZ_nat (zs : List Int) (k : Nat) : limbZ zs (k : Int) = zs.getD k 0 := by rw [limbZ, if_neg (by omega)]; simp

/-- What a round of the sum leaves. -/
theorem add_step {L M : List Int} {o n k : Nat} {ys : List Int} {cy : Int} (hk : k < n) (hon : o + n ≤ L.length) (hml : M.length = L.length) (hmd : Digs 18446744073709551616 M) (hyd : Digs 18446744073709551616 ys)
    (hsame : ∀ j, j < o ∨ o + k ≤ j → M.getD j 0 = L.getD j 0) (hc : 0 ≤ cy ∧ cy ≤ 1)
    (hv : vs 18446744073709551616 (fun i => M.getD (o + i) 0) k + 18446744073709551616 ^ k * cy = vs 18446744073709551616 (fun i => L.getD (o + i) 0) k + vs 18446744073709551616 (fun i => ys.getD i 0) k)
    (x y : Int) (hx : x = M.getD (o + k) 0) (hy : y = ys.getD k 0) :
    (M.set (o + k) (lo (x + y + cy))).length = L.length ∧ Digs 18446744073709551616 (M.set (o + k) (lo (x + y + cy))) ∧
    (∀ j, j < o ∨ o + (k + 1) ≤ j → (M.set (o + k) (lo (x + y + cy))).getD j 0 = L.getD j 0) ∧ (0 ≤ hi (x + y + cy) ∧ hi (x + y + cy) ≤ 1) ∧
    vs 18446744073709551616 (fun i => (M.set (o + k) (lo (x + y + cy))).getD (o + i) 0) (k + 1) + 18446744073709551616 ^ (k + 1) * hi (x + y + cy) = vs 18446744073709551616 (fun i => L.getD (o + i) 0) (k + 1) + vs 18446744073709551616 (fun i => ys.getD i 0) (k + 1) := by
  have bx : 0 ≤ x ∧ x < 18446744073709551616 := by rw [hx]; exact hmd.getD (by decide) _
  have by' : 0 ≤ y ∧ y < 18446744073709551616 := by rw [hy]; exact hyd.getD (by decide) _
  refine ⟨by simpa using hml, hmd.set _ (lo_bd _), fun j hj => ?_, hi_carry bx by' hc, ?_⟩
  · rw [getD_set_ne (by omega)]; exact hsame j (by omega)
  · have e1 : vs 18446744073709551616 (fun i => (M.set (o + k) (lo (x + y + cy))).getD (o + i) 0) k = vs 18446744073709551616 (fun i => M.getD (o + i) 0) k :=
      vs_congr (fun i hi => getD_set_ne (by omega))
    have e2 : (M.set (o + k) (lo (x + y + cy))).getD (o + k) 0 = lo (x + y + cy) := getD_set_self (by omega)
    have e3 := hsame (o + k) (by omega)
    simp only [vs]
    rw [e1, e2, ← e3, ← hx, ← hy]
    generalize hP : (18446744073709551616 : Int) ^ k = P at hv ⊢
    have e4 : (18446744073709551616 : Int) ^ (k + 1) = P * 18446744073709551616 := by rw [Int.pow_succ, hP]
    rw [e4, Int.mul_assoc]
    have e5 := lo_hi (x + y + cy)
    have e6 : P * lo (x + y + cy) + P * (18446744073709551616 * hi (x + y + cy)) = P * (x + y + cy) := by rw [← Int.mul_add, e5]
    rw [Int.mul_add, Int.mul_add] at e6
    omega

set_option maxHeartbeats 800000 in
theorem addTo_any (s : Option Addr) (g o n c : Nat) (L : List Int) (b : Option Addr) (lb cb : Nat) (ys : List Int) (w : World) (hs : 0 < n → s = some ⟨g, o, none⟩)
    (hblk : Blk w g L) (hL : Digs 18446744073709551616 L) (hon : o + n ≤ L.length) (hn : n ≤ 100000) (hy : Nums w b lb cb ys) (hap : 0 < lb → Apart b g) :
    Calls Try.prog 98 #[.slice s n c, .slice b lb cb] w fun e w' => ∃ M cy, e = .returned (.int .u64 cy) ∧ Blk w' g M ∧ Digs 18446744073709551616 M ∧ M.length = L.length ∧
      (∀ j, j < o ∨ o + n ≤ j → M.getD j 0 = L.getD j 0) ∧ (0 ≤ cy ∧ cy ≤ 1) ∧
      vs 18446744073709551616 (fun i => M.getD (o + i) 0) n + 18446744073709551616 ^ n * cy = vs 18446744073709551616 (fun i => L.getD (o + i) 0) n + vs 18446744073709551616 (fun i => ys.getD i 0) n ∧
      w.grownBy w' (some g) := by
  have hyd := hy.digs
  go_enter Try.func98, Try.ntmps98
  go_wp2
  go_loopw [5, 9] (fun cv i wr => ∃ k : Nat, k ≤ n ∧ i = .int .i64 k ∧ ∃ M cy, cv = .int .u64 cy ∧ Blk wr g M ∧ M.length = L.length ∧ Digs 18446744073709551616 M ∧
      (∀ j, j < o ∨ o + k ≤ j → M.getD j 0 = L.getD j 0) ∧ (0 ≤ cy ∧ cy ≤ 1) ∧
      vs 18446744073709551616 (fun i => M.getD (o + i) 0) k + 18446744073709551616 ^ k * cy = vs 18446744073709551616 (fun i => L.getD (o + i) 0) k + vs 18446744073709551616 (fun i => ys.getD i 0) k ∧
      w.grownBy wr (some g)) (fun _ i _ => n - (intOf i).toNat)
  case atStart => exact ⟨0, Nat.zero_le _, rfl, L, 0, rfl, hblk, rfl, hL, fun _ _ => rfl, by omega, by simp [vs], World.grownBy.refl _ _⟩
  case round =>
    obtain ⟨k, hk, rfl, M, cy, rfl, hbM, hml, hmd, hsame, hcy, hv, hgr⟩ := hrel
    by_cases hlt : k < n
    · obtain rfl := hs (by omega)
      obtain ⟨x, hx⟩ : ∃ x, x = M.getD (o + k) 0 := ⟨_, rfl⟩
      obtain ⟨y, hy'⟩ : ∃ y, y = ys.getD k 0 := ⟨_, rfl⟩
      have hc1 : wr.cell? ⟨g, o + k, none⟩ = some (.int .u64 x) := by rw [hx]; exact hbM.cell (by omega)
      have hf1 : wr.frozen? ⟨g, o + k, none⟩ = false := hbM.frozen _
      have R := add_step hlt hon hml hmd hyd hsame hcy hv x y hx hy'
      have HR := (show Hid _ from R)
      have hyn := hy.grown hgr hap
      have hlz : limbZ ys (k : Int) = y := by rw [limbZ_nat, hy']
      have bx : 0 ≤ x ∧ x < 18446744073709551616 := by rw [hx]; exact hmd.getD (by decide) _
      have by' : 0 ≤ y ∧ y < 18446744073709551616 := by rw [hy']; exact hyd.getD (by decide) _
      have HS := (show Hid _ from And.intro hml hv)
      have HA := (show Hid _ from add64 x y cy bx.1 by'.1 hcy.1 hcy.2)
      have hki : (k : Int) < (n : Int) := by omega
      have HB := (show Hid _ from hbM.set (o + k) (lo (x + y + cy)))
      have HG := (show Hid _ from grown_trans hgr (grown_set wr g (o + k) (.int .u64 (lo (x + y + cy)))))
      clear hx hy' hml hmd hsame hv R hbM hL hon hyd hblk hgr
      go_wp2_with fail
      go_region_with (first | (go_at_call 101; refine (limb_any b lb cb ys (k : Int) _ ?_).mono ?_; (exact ⟨hyn.hlen, hyn.hcap, hyn.hmax, hyn.cells, hyn.word⟩); rintro e w' ⟨rfl, rfl⟩; rw [hlz]) | simp only [add64 x y cy bx.1 by'.1 hcy.1 hcy.2])
      all_goals
        go_wp2
        go_roundw
        case rel => exact ⟨k + 1, by omega, by go_num, _, _, rfl, HB.out, HR.out.1, HR.out.2.1, HR.out.2.2.1, HR.out.2.2.2.1, HR.out.2.2.2.2, grown_trans HG.out ⟨rfl, rfl, rfl, Nat.le_refl _, fun _ _ _ => rfl⟩⟩
        case measure => simp [intOf]; omega
    · obtain rfl : k = n := by omega
      go_wp2
      go_ret
      exact ⟨M, cy, rfl, hbM, hmd, hml, hsame, hcy, hv, hgr⟩
end Go.Proofs.Ytaipkganijofjab
