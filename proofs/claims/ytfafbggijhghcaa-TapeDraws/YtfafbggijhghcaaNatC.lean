/-
  The contract of addTimes: a number times a word, added in its place.
  The contract of longhand: a product limb by limb.
  The contract of parted: a number's limbs below a place, and those from it on.
  The contract of takeFrom: the difference of limbs, in its place.
  The contract of product: Karatsuba's product by a recursive closure.
  The contract of nat.Mul.
  Contracts of slices.Clone and nat.Sub: a copy in new memory; the difference of two numbers.
-/
import Derived.Test.YtfafbggijhghcaaNatB
import Derived.Shelf.Spec.BitsCarry
import Derived.Laws.EntriesVeiled
import Derived.Deep.DeepCutAuto
import Derived.Lib.SliceRun
namespace Go.Proofs.Ytfafbggijhghcaa
open Go.RowKit

theorem at_step {L M : List Int} {o n k : Nat} {ys : List Int} {cy m x y : Int} (hk : k < n) (hon : o + n ≤ L.length) (hml : M.length = L.length) (hmd : Digs 18446744073709551616 M) (hyd : Digs 18446744073709551616 ys) (hm : 0 ≤ m ∧ m < 18446744073709551616)
    (hsame : ∀ j, j < o ∨ o + k ≤ j → M.getD j 0 = L.getD j 0) (hc : 0 ≤ cy ∧ cy < 18446744073709551616)
    (hv : vs 18446744073709551616 (fun i => M.getD (o + i) 0) k + 18446744073709551616 ^ k * cy = vs 18446744073709551616 (fun i => L.getD (o + i) 0) k + m * vs 18446744073709551616 (fun i => ys.getD i 0) k)
    (hx : x = M.getD (o + k) 0) (hy : y = ys.getD k 0) {h l r s t : Int} (e1 : l + 18446744073709551616 * h = y * m) (e2 : s + 18446744073709551616 * r = l + x) (h2 : hi (s + cy) = t) (bs : 0 ≤ s ∧ s < 18446744073709551616) (_b1 : 0 ≤ h) (_b2 : 0 ≤ r) :
    (M.set (o + k) (lo (s + cy))).length = L.length ∧ Digs 18446744073709551616 (M.set (o + k) (lo (s + cy))) ∧
    (∀ j, j < o ∨ o + (k + 1) ≤ j → (M.set (o + k) (lo (s + cy))).getD j 0 = L.getD j 0) ∧ (0 ≤ h + r + t ∧ h + r + t < 18446744073709551616) ∧
    vs 18446744073709551616 (fun i => (M.set (o + k) (lo (s + cy))).getD (o + i) 0) (k + 1) + 18446744073709551616 ^ (k + 1) * (h + r + t) = vs 18446744073709551616 (fun i => L.getD (o + i) 0) (k + 1) + m * vs 18446744073709551616 (fun i => ys.getD i 0) (k + 1) := by
  have bx : 0 ≤ x ∧ x < 18446744073709551616 := by rw [hx]; exact hmd.getD (by decide) _
  have by' : 0 ≤ y ∧ y < 18446744073709551616 := by rw [hy]; exact hyd.getD (by decide) _
  have hp := hi_mul_bd by' hm
  have e3 := lo_hi (s + cy)
  have bl := lo_bd (s + cy)
  rw [h2] at e3
  have bt : 0 ≤ t := by rw [← h2]; unfold hi; omega
  generalize hz : lo (s + cy) = z at e3 bl ⊢
  have et : z + 18446744073709551616 * (h + r + t) = y * m + x + cy := by omega
  refine ⟨by simpa using hml, hmd.set _ bl, fun j hj => ?_, ⟨by omega, by omega⟩, ?_⟩
  · rw [getD_set_ne (by omega)]; exact hsame j (by omega)
  · have f1 : vs 18446744073709551616 (fun i => (M.set (o + k) z).getD (o + i) 0) k = vs 18446744073709551616 (fun i => M.getD (o + i) 0) k :=
      vs_congr (fun i hi => getD_set_ne (by omega))
    have f2 : (M.set (o + k) z).getD (o + k) 0 = z := getD_set_self (by omega)
    have f3 := hsame (o + k) (by omega)
    simp only [vs]
    rw [f1, f2, ← f3, ← hx, ← hy, Int.pow_succ, Int.mul_assoc, Int.mul_add m]
    generalize (18446744073709551616 : Int) ^ k = P at hv ⊢
    have e6 : P * z + P * (18446744073709551616 * (h + r + t)) = P * (y * m) + P * x + P * cy := by rw [← Int.mul_add, et, Int.mul_add, Int.mul_add]
    have e7 : m * (P * y) = P * (y * m) := by rw [Int.mul_left_comm, Int.mul_comm m y]
    omega

end Go.Proofs.Ytfafbggijhghcaa

namespace Go.Proofs.Ytfafbggijhghcaa
open Go.RowKit

theorem long_step {M N xs ys : List Int} {i n : Nat} {x cy : Int} (hN : N.length = n) (hi : i < xs.length) (hlt : i + ys.length < n) (hx : x = xs.getD i 0) (hz : M.getD (i + ys.length) 0 = 0)
    (hs : ∀ j, j < i ∨ i + ys.length ≤ j → N.getD j 0 = M.getD j 0) (hM : vs 18446744073709551616 (fun j => M.getD j 0) n = val 18446744073709551616 (xs.take i) * val 18446744073709551616 ys)
    (hv : vs 18446744073709551616 (fun t => N.getD (i + t) 0) ys.length + 18446744073709551616 ^ ys.length * cy = vs 18446744073709551616 (fun t => M.getD (i + t) 0) ys.length + x * vs 18446744073709551616 (fun t => ys.getD t 0) ys.length) :
    vs 18446744073709551616 (fun j => (N.set (i + ys.length) cy).getD j 0) n = val 18446744073709551616 (xs.take (i + 1)) * val 18446744073709551616 ys := by
  rw [vs_set hlt (by omega), hs (i + ys.length) (by omega), hz, vs_seg (o := i) (m := ys.length) (by omega) hs, hM, val_take_succ _ _ _ hi, ← hx, Int.add_mul, Int.mul_assoc, Int.sub_zero, Int.pow_add]
  rw [vs_all _ ys (Nat.le_refl _)] at hv
  have e : vs 18446744073709551616 (fun t => N.getD (i + t) 0) ys.length - vs 18446744073709551616 (fun t => M.getD (i + t) 0) ys.length + 18446744073709551616 ^ ys.length * cy = x * val 18446744073709551616 ys := by omega
  rw [← e, Int.mul_add, Int.mul_assoc]
  omega

end Go.Proofs.Ytfafbggijhghcaa

namespace Go.Proofs.Ytfafbggijhghcaa
open Go.RowKit

theorem Nums.drop {w : World} {b off len cap : Nat} {zs : List Int} (h : Nums w (some ⟨b, off, none⟩) len cap zs) {k : Nat} (hk : k ≤ len) {a' : Option Addr} {cap' : Nat} (hc' : len - k ≤ cap') (hm : cap' ≤ maxLen) (ha : k < len → a' = some ⟨b, off + k, none⟩) :
    Nums w a' (len - k) cap' (zs.drop k) := by
  have hl := h.hlen
  refine ⟨by simp; omega, hc', hm, fun hp => ⟨b, off + k, ha (by omega), fun i hi => ?_⟩, fun x hx => h.word x (List.mem_of_mem_drop hx)⟩
  obtain ⟨b1, o1, e, hc⟩ := h.cells (by omega)
  simp only [Option.some.injEq, Addr.mk.injEq, and_true] at e
  obtain ⟨rfl, rfl⟩ := e
  have := hc (k + i) (by omega)
  rw [← Nat.add_assoc] at this
  rw [this]
  simp [List.getD]

theorem below_draw (w : World) (n : Nat) : Below w.heap.size w (w.drewN n) := below_drewN (Below.refl _ _) n

end Go.Proofs.Ytfafbggijhghcaa

namespace Go.Proofs.Ytfafbggijhghcaa
open Go.RowKit

theorem sub64 (x y b : Int) (hx : 0 ≤ x) (hy : 0 ≤ y) (hy' : y < 18446744073709551616) (hb0 : 0 ≤ b) (hb : b ≤ 1) (w : World) : (callFunc 57 #[.int .u64 x, .int .u64 y, .int .u64 b]).run Try.prog w =
    .ok (.value (.tuple #[.int .u64 (lo (x - y - b)), .int .u64 (bor x y b)])) w := by
  obtain ⟨x, rfl⟩ := Int.eq_ofNat_of_zero_le hx
  obtain ⟨y, rfl⟩ := Int.eq_ofNat_of_zero_le hy
  obtain ⟨b, rfl⟩ := Int.eq_ofNat_of_zero_le hb0
  have e1 : (((x + 18446744073709551616 - y - b) % 18446744073709551616 : Nat) : Int) = lo ((x : Int) - y - b) := by unfold lo; omega
  have e2 : ((if x < y + b then 1 else 0 : Nat) : Int) = bor x y b := by unfold bor; split <;> split <;> omega
  rw [← e1, ← e2, run_callFunc_extern Try.func57 (by kernel_rfl) (by kernel_rfl) (by kernel_rfl) (e := sub64Entry) (by kernel_rfl), run_sub64 x y b (by omega)]
  rfl

theorem take_step {L M : List Int} {o n k : Nat} {ys : List Int} {bw : Int} (hk : k < n) (hon : o + n ≤ L.length) (hml : M.length = L.length) (hmd : Digs 18446744073709551616 M) (hyd : Digs 18446744073709551616 ys)
    (hsame : ∀ j, j < o ∨ o + k ≤ j → M.getD j 0 = L.getD j 0) (hb : 0 ≤ bw ∧ bw ≤ 1)
    (hv : vs 18446744073709551616 (fun i => M.getD (o + i) 0) k - 18446744073709551616 ^ k * bw = vs 18446744073709551616 (fun i => L.getD (o + i) 0) k - vs 18446744073709551616 (fun i => ys.getD i 0) k)
    (x y : Int) (hx : x = M.getD (o + k) 0) (hy : y = ys.getD k 0) :
    (M.set (o + k) (lo (x - y - bw))).length = L.length ∧ Digs 18446744073709551616 (M.set (o + k) (lo (x - y - bw))) ∧
    (∀ j, j < o ∨ o + (k + 1) ≤ j → (M.set (o + k) (lo (x - y - bw))).getD j 0 = L.getD j 0) ∧ (0 ≤ bor x y bw ∧ bor x y bw ≤ 1) ∧
    vs 18446744073709551616 (fun i => (M.set (o + k) (lo (x - y - bw))).getD (o + i) 0) (k + 1) - 18446744073709551616 ^ (k + 1) * bor x y bw = vs 18446744073709551616 (fun i => L.getD (o + i) 0) (k + 1) - vs 18446744073709551616 (fun i => ys.getD i 0) (k + 1) := by
  have bx : 0 ≤ x ∧ x < 18446744073709551616 := by rw [hx]; exact hmd.getD (by decide) _
  have by' : 0 ≤ y ∧ y < 18446744073709551616 := by rw [hy]; exact hyd.getD (by decide) _
  refine ⟨by simpa using hml, hmd.set _ (lo_bd _), fun j hj => ?_, bor_bd _ _ _, ?_⟩
  · rw [getD_set_ne (by omega)]; exact hsame j (by omega)
  · have e1 : vs 18446744073709551616 (fun i => (M.set (o + k) (lo (x - y - bw))).getD (o + i) 0) k = vs 18446744073709551616 (fun i => M.getD (o + i) 0) k :=
      vs_congr (fun i hi => getD_set_ne (by omega))
    have e2 : (M.set (o + k) (lo (x - y - bw))).getD (o + k) 0 = lo (x - y - bw) := getD_set_self (by omega)
    have e3 := hsame (o + k) (by omega)
    simp only [vs]
    rw [e1, e2, ← e3, ← hx, ← hy]
    generalize hP : (18446744073709551616 : Int) ^ k = P at hv ⊢
    have e4 : (18446744073709551616 : Int) ^ (k + 1) = P * 18446744073709551616 := by rw [Int.pow_succ, hP]
    rw [e4, Int.mul_assoc]
    have e5 := lo_bor bx by' hb
    have e6 : P * lo (x - y - bw) - P * (18446744073709551616 * bor x y bw) = P * (x - y - bw) := by rw [← Int.mul_sub, e5]
    rw [Int.mul_sub, Int.mul_sub] at e6
    omega

set_option maxHeartbeats 800000 in
theorem takeFrom_any (s : Option Addr) (g o n c : Nat) (L : List Int) (b : Option Addr) (lb cb : Nat) (ys : List Int) (w : World) (hs : 0 < n → s = some ⟨g, o, none⟩)
    (hblk : 0 < n → Blk w g L) (hL : Digs 18446744073709551616 L) (hon : o + n ≤ L.length) (hn : n ≤ 100000) (hy : Nums w b lb cb ys) (hap : 0 < lb → Apart b g) :
    Calls Try.prog 49 #[.slice s n c, .slice b lb cb] w fun e w' => ∃ M bw, e = .returned (.tuple #[]) ∧ (0 < n → Blk w' g M) ∧ Digs 18446744073709551616 M ∧ M.length = L.length ∧
      (∀ j, j < o ∨ o + n ≤ j → M.getD j 0 = L.getD j 0) ∧ (0 ≤ bw ∧ bw ≤ 1) ∧
      vs 18446744073709551616 (fun i => M.getD (o + i) 0) n - 18446744073709551616 ^ n * bw = vs 18446744073709551616 (fun i => L.getD (o + i) 0) n - vs 18446744073709551616 (fun i => ys.getD i 0) n ∧
      w.grownBy w' (some g) := by
  have hyd := hy.digs
  go_enter Try.func49, Try.ntmps49
  go_wp2
  go_loopw [4, 8] (fun cv i wr => ∃ k : Nat, k ≤ n ∧ i = .int .i64 k ∧ ∃ M bw, cv = .int .u64 bw ∧ (0 < n → Blk wr g M) ∧ M.length = L.length ∧ Digs 18446744073709551616 M ∧
      (∀ j, j < o ∨ o + k ≤ j → M.getD j 0 = L.getD j 0) ∧ (0 ≤ bw ∧ bw ≤ 1) ∧
      vs 18446744073709551616 (fun i => M.getD (o + i) 0) k - 18446744073709551616 ^ k * bw = vs 18446744073709551616 (fun i => L.getD (o + i) 0) k - vs 18446744073709551616 (fun i => ys.getD i 0) k ∧
      w.grownBy wr (some g)) (fun _ i _ => n - (intOf i).toNat)
  case atStart => exact ⟨0, Nat.zero_le _, rfl, L, 0, rfl, hblk, rfl, hL, fun _ _ => rfl, by omega, by simp [vs], World.grownBy.refl _ _⟩
  case round =>
    obtain ⟨k, hk, rfl, M, bw, rfl, hbM', hml, hmd, hsame, hcy, hv, hgr⟩ := hrel
    by_cases hlt : k < n
    · have hbM := hbM' (by omega)
      obtain rfl := hs (by omega)
      obtain ⟨x, hx⟩ : ∃ x, x = M.getD (o + k) 0 := ⟨_, rfl⟩
      obtain ⟨y, hy'⟩ : ∃ y, y = ys.getD k 0 := ⟨_, rfl⟩
      have hc1 : wr.cell? ⟨g, o + k, none⟩ = some (.int .u64 x) := by rw [hx]; exact hbM.cell (by omega)
      have hf1 : wr.frozen? ⟨g, o + k, none⟩ = false := hbM.frozen _
      have R := take_step hlt hon hml hmd hyd hsame hcy hv x y hx hy'
      have HR := (show Hid _ from R)
      have hyn := hy.grown hgr hap
      have hlz : limbZ ys (k : Int) = y := by rw [limbZ_nat, hy']
      have bx : 0 ≤ x ∧ x < 18446744073709551616 := by rw [hx]; exact hmd.getD (by decide) _
      have by' : 0 ≤ y ∧ y < 18446744073709551616 := by rw [hy']; exact hyd.getD (by decide) _
      have hki : (k : Int) < (n : Int) := by omega
      have HB := (show Hid _ from hbM.set (o + k) (lo (x - y - bw)))
      have HG := (show Hid _ from grown_trans hgr (grown_set wr g (o + k) (.int .u64 (lo (x - y - bw)))))
      clear hx hy' hml hmd hsame hv R hbM hbM' hL hon hyd hblk hgr
      go_wp2_with fail
      go_region_with (first | (go_at_call 35; refine (limb_any b lb cb ys (k : Int) _ ?_).mono ?_; (exact ⟨hyn.hlen, hyn.hcap, hyn.hmax, hyn.cells, hyn.word⟩); rintro e w' ⟨rfl, rfl⟩; rw [hlz]) | simp only [sub64 x y bw bx.1 by'.1 by'.2 hcy.1 hcy.2])
      all_goals
        go_wp2
        go_roundw
        case rel => exact ⟨k + 1, by omega, by go_num, _, _, rfl, fun _ => HB.out, HR.out.1, HR.out.2.1, HR.out.2.2.1, HR.out.2.2.2.1, HR.out.2.2.2.2, grown_trans HG.out ⟨rfl, rfl, rfl, Nat.le_refl _, fun _ _ _ => rfl⟩⟩
        case measure => simp [intOf]; omega
    · obtain rfl : k = n := by omega
      go_wp2
      go_end0
      exact ⟨M, bw, rfl, hbM', hmd, hml, hsame, hcy, hv, hgr⟩
end Go.Proofs.Ytfafbggijhghcaa

namespace Go.Proofs.Ytfafbggijhghcaa
open Go.RowKit

theorem kara (xl xh yl yh H : Int) : (xl + H * xh) * (yl + H * yh) = xl * yl + H * ((xl + xh) * (yl + yh) - xl * yl - xh * yh) + H * (H * (xh * yh)) := by
  have e1 : (xl + xh) * (yl + yh) - xl * yl - xh * yh = xl * yh + xh * yl := by rw [Int.add_mul, Int.mul_add, Int.mul_add]; omega
  rw [e1, Int.add_mul, Int.mul_add, Int.mul_add, Int.mul_add]
  have f1 : xl * (H * yh) = H * (xl * yh) := Int.mul_left_comm ..
  have f2 : H * xh * yl = H * (xh * yl) := Int.mul_assoc ..
  have f3 : H * xh * (H * yh) = H * (H * (xh * yh)) := by rw [Int.mul_assoc, Int.mul_left_comm xh]
  omega

theorem val_split' (B : Int) (zs : List Int) (k : Nat) : val B zs = val B (zs.take k) + B ^ k * val B (zs.drop k) := by
  by_cases h : k ≤ zs.length
  · exact val_split B zs k h
  · rw [List.take_of_length_le (by omega), List.drop_eq_nil_of_le (by omega)]; simp [val]

theorem val_trunc {B : Int} (hB : 0 < B) {D : List Int} (hD : Digs B D) {n : Nat} (h : val B D < B ^ n) : vs B (fun i => D.getD i 0) n = val B D := by
  rw [vs_val]
  have e := val_split' B D n
  have h1 := val_nonneg hB (hD.take n)
  have h2 := val_nonneg hB (hD.drop n)
  have h3 := pow_pos' hB n
  by_cases h0 : val B (D.drop n) = 0
  · rw [h0] at e; omega
  · have h4 : B ^ n * 1 ≤ B ^ n * val B (D.drop n) := Int.mul_le_mul_of_nonneg_left (by omega) (by omega)
    omega

theorem take_end {B : Int} (hB : 0 < B) {L M ys : List Int} {n : Nat} {bw : Int} (hM : Digs B M) (hLl : L.length = n) (hMl : M.length = L.length) (hy : ys.length ≤ n) (hge : val B ys ≤ val B L) (hbw : 0 ≤ bw ∧ bw ≤ 1)
    (hv : vs B (fun i => M.getD (0 + i) 0) n - B ^ n * bw = vs B (fun i => L.getD (0 + i) 0) n - vs B (fun i => ys.getD i 0) n) : val B M = val B L - val B ys := by
  simp only [Nat.zero_add] at hv
  rw [vs_all _ M (by omega), vs_all _ L (by omega), vs_all _ ys hy] at hv
  have b1 := val_lt hB hM
  rw [hMl, hLl] at b1
  have hc : bw = 0 ∨ bw = 1 := by omega
  rcases hc with rfl | rfl <;> omega

theorem add_end {B : Int} (hB : 0 < B) {L M D : List Int} {o n : Nat} {cy : Int} (hM : Digs B M) (hD : Digs B D) (hLl : L.length = o + n) (hMl : M.length = L.length) (hs : ∀ j, j < o ∨ o + n ≤ j → M.getD j 0 = L.getD j 0) (hcy : 0 ≤ cy ∧ cy ≤ 1)
    (hv : vs B (fun i => M.getD (o + i) 0) n + B ^ n * cy = vs B (fun i => L.getD (o + i) 0) n + vs B (fun i => D.getD i 0) n) (hlt : val B L + B ^ o * val B D < B ^ (o + n)) (hL : 0 ≤ val B L) : val B M = val B L + B ^ o * val B D := by
  have p1 := pow_pos' hB o
  have hDn : val B D < B ^ n := by
    rw [Int.pow_add] at hlt
    by_cases h : val B D < B ^ n
    · exact h
    · have : B ^ o * B ^ n ≤ B ^ o * val B D := Int.mul_le_mul_of_nonneg_left (by omega) (by omega)
      omega
  rw [val_trunc hB hD hDn] at hv
  have e := vs_seg (B := B) (N := M) (M := L) (n := o + n) (Nat.le_refl _) hs
  rw [vs_all _ M (by omega), vs_all _ L (by omega)] at e
  have e2 : vs B (fun i => M.getD (o + i) 0) n - vs B (fun i => L.getD (o + i) 0) n = val B D - B ^ n * cy := by omega
  rw [e2, Int.mul_sub, ← Int.mul_assoc, ← Int.pow_add] at e
  have b1 := val_nonneg hB hM
  have hc : cy = 0 ∨ cy = 1 := by omega
  rcases hc with rfl | rfl
  · omega
  · omega

theorem mul_nn {a b : Int} (ha : 0 ≤ a) (hb : 0 ≤ b) : 0 ≤ a * b := Int.mul_nonneg ha hb

end Go.Proofs.Ytfafbggijhghcaa

namespace Go.Proofs.Ytfafbggijhghcaa
open Go.RowKit

/-- Each number has its list of digits. -/
theorem digs_exist {B : Int} (hB : 1 < B) : ∀ (n : Nat) (v : Int), 0 ≤ v → v ≤ n → ∃ zs, Digs B zs ∧ Top zs ∧ val B zs = v
  | 0, v, h0, hn => ⟨[], Digs.nil _, .inl rfl, by simp [val]; omega⟩
  | n + 1, v, h0, hn => by
    by_cases hv : v = 0
    · exact ⟨[], Digs.nil _, .inl rfl, by simp [val, hv]⟩
    · have hq0 : 0 ≤ v / B := Int.ediv_nonneg h0 (by omega)
      have hq1 : v / B < v := Int.ediv_lt_self_of_pos_of_ne_one (by omega) (by omega)
      obtain ⟨r, hd, ht, hval⟩ := digs_exist hB n (v / B) hq0 (by omega)
      have hm0 : 0 ≤ v % B := Int.emod_nonneg _ (by omega)
      have hm1 : v % B < B := Int.emod_lt_of_pos _ (by omega)
      have e := Int.emod_add_mul_ediv v B
      refine ⟨v % B :: r, fun x hx => ?_, ?_, by rw [val, hval]; exact e⟩
      · rcases List.mem_cons.1 hx with rfl | hx
        · exact ⟨hm0, hm1⟩
        · exact hd x hx
      · right
        rcases ht with rfl | ht
        · simp [val] at hval
          rw [← hval] at e
          simp; omega
        · have hr : r ≠ [] := by intro e; subst e; simp at ht
          have hl : 0 < r.length := by cases r <;> simp_all
          obtain ⟨k, hk⟩ : ∃ k, r.length = k + 1 := ⟨r.length - 1, by omega⟩
          rw [hk] at ht
          simp only [Nat.add_sub_cancel] at ht
          simpa [hk] using ht

theorem long_mk {v : Int} (h0 : 0 ≤ v) {k : Nat} (hk : 64 ≤ k) (hv : 18446744073709551616 ^ k ≤ v) : Res v [] 4 := by
  obtain ⟨zs, hd, ht, e⟩ := digs_exist (B := 18446744073709551616) (by decide) v.toNat v h0 (by omega)
  refine .inr ⟨rfl, rfl, zs, hd, ht, e, ?_⟩
  have h1 := val_lt (B := 18446744073709551616) (by decide) hd
  rw [e] at h1
  by_cases hl : 64 < zs.length
  · exact hl
  · have h2 := pow_mono (B := 18446744073709551616) (by decide) (show zs.length ≤ k by omega)
    omega

theorem mul_long {xs ys : List Int} (hx : Digs 18446744073709551616 xs) (hy : Digs 18446744073709551616 ys) (tx : Top xs) (ty : Top ys) (h1 : 0 < xs.length) (h2 : 0 < ys.length) (h : 64 < xs.length + ys.length - 1) :
    Res (val 18446744073709551616 xs * val 18446744073709551616 ys) [] 4 := by
  have a1 := val_ge (B := 18446744073709551616) (by decide) hx tx (by intro e; subst e; simp at h1)
  have a2 := val_ge (B := 18446744073709551616) (by decide) hy ty (by intro e; subst e; simp at h2)
  have p1 := pow_pos' (B := 18446744073709551616) (by decide) (xs.length - 1)
  have p2 := pow_pos' (B := 18446744073709551616) (by decide) (ys.length - 1)
  refine long_mk (mul_nn (by omega) (by omega)) (k := (xs.length - 1) + (ys.length - 1)) (by omega) ?_
  rw [Int.pow_add]
  exact Int.mul_le_mul a1 a2 (by omega) (by omega)

theorem res_zero {v : Int} (h : v = 0) : Res v [] 0 := by
  subst h; exact .inl ⟨rfl, Digs.nil _, .inl rfl, by decide, rfl⟩

end Go.Proofs.Ytfafbggijhghcaa

namespace Go.Proofs.Ytfafbggijhghcaa
open Go.RowKit

theorem Own.fresh {w : World} {base : Nat} {v : Value} {zs : List Int} (h : Own w base v zs) (hd : Digs 18446744073709551616 zs) :
    ∃ a n cap, v = .slice a n cap ∧ Nums w a n cap zs ∧ (0 < n → ∃ g, a = some ⟨g, 0, none⟩ ∧ base ≤ g ∧ Blk w g zs) := by
  obtain ⟨h1, h2⟩ := h
  rcases h2 with ⟨rfl, hn⟩ | ⟨g, cap, cur, rfl, hb, hg, hnc, hcm, hcs, htk⟩
  · have e : zs = [] := List.eq_nil_of_length_eq_zero hn
    subst e
    exact ⟨none, 0, 0, rfl, Nums.nil _, fun h => absurd h (Nat.lt_irrefl _)⟩
  · have hblk : Blk w g zs := ⟨cur, hg, by simpa using htk⟩
    refine ⟨some ⟨g, 0, none⟩, zs.length, cap, rfl, ⟨rfl, hnc, hcm, fun _ => ⟨g, 0, rfl, fun i hi => ?_⟩, hd⟩, fun _ => ⟨g, rfl, hb, hblk⟩⟩
    rw [Nat.zero_add]; exact hblk.cell hi

set_option maxHeartbeats 400000 in
theorem clone_any (a : Option Addr) (len cap : Nat) (zs : List Int) (w : World) (h : Nums w a len cap zs) (hn : len ≤ 100000) :
    Calls Try.prog 48 #[.slice a len cap] w fun e w' => ∃ a' n cap', e = .returned (.slice a' n cap') ∧ Nums w' a' n cap' zs ∧ (0 < n → ∃ g, a' = some ⟨g, 0, none⟩ ∧ w.heap.size ≤ g ∧ Blk w' g zs) ∧ Below w.heap.size w w' := by
  have hd := h.digs
  cases a with
  | none =>
    have hm : len = 0 := by
      rcases Nat.eq_zero_or_pos len with h0 | h0
      · exact h0
      · obtain ⟨b, off, e, _⟩ := h.cells h0; cases e
    subst hm
    have e : zs = [] := List.eq_nil_of_length_eq_zero h.hlen
    subst e
    have heq := fun wx => Lib.run_eql_slice_nil (P := Try.prog) wx 41 57 none 0 cap 0 0 Try.underlying41
    go_enter Try.func48, Try.ntmps48
    go_wp2
    go_ret
    exact ⟨none, 0, 0, rfl, Nums.nil _, fun h => absurd h (Nat.lt_irrefl _), Below.refl _ _⟩
  | some x =>
    have heq := fun wx => Lib.run_eql_slice_nil (P := Try.prog) wx 41 57 (some x) len cap 0 0 Try.underlying41
    go_enter Try.func48, Try.ntmps48
    have hown := Own.empty w
    have hb0 := (Below.refl w.heap.size w).alloc (Nat.le_refl _) (.cells #[] 57)
    have h1 := h.below hb0
    go_wp2_with (at_builtin; refine wpList_appN _ rfl _ _ 41 rfl Try.underlying41 w.heap.size _ [] rfl hown (some x) len cap zs rfl h1 ?_ ?_ w ?_ hb0 ?_)
    · intro e; cases e
    · simp; omega
    · simp
    · intro v' w2 hown1 hb1
      obtain ⟨a1, n1, cap1, rfl, hn1, hfr⟩ := hown1.fresh hd
      clear hown1 hown h1 hb0
      go_wp2
      go_ret
      exact ⟨_, _, _, rfl, hn1, hfr, hb1⟩

/-- What is told of a difference. -/
def ResSub (zs ys : List Int) (ls : List Int) (err : Int) : Prop :=
  if rightB zs && rightB ys then (if val 18446744073709551616 zs < val 18446744073709551616 ys then err = 2 ∧ ls = [] else Res (val 18446744073709551616 zs - val 18446744073709551616 ys) ls err) else err = 1 ∧ ls = []

theorem ResSub.unique {zs ys : List Int} {ls ks : List Int} {e f : Int} (h : ResSub zs ys ls e) (h' : ResSub zs ys ks f) : ls = ks ∧ e = f := by
  unfold ResSub at h h'
  split at h
  · rename_i hc
    rw [if_pos hc] at h'
    split at h
    · rename_i hc2
      rw [if_pos hc2] at h'
      obtain ⟨rfl, rfl⟩ := h
      obtain ⟨rfl, rfl⟩ := h'
      exact ⟨rfl, rfl⟩
    · rename_i hc2
      rw [if_neg hc2] at h'
      exact h.unique h'
  · rename_i hc
    rw [if_neg hc] at h'
    obtain ⟨rfl, rfl⟩ := h
    obtain ⟨rfl, rfl⟩ := h'
    exact ⟨rfl, rfl⟩

theorem sub_end {B : Int} (hB : 0 < B) {zs ys M : List Int} {n : Nat} {bw : Int} (hz : Digs B zs) (hy : Digs B ys) (ty : Top ys) (hge : val B ys ≤ val B zs) (hM : Digs B M) (hzl : zs.length = n) (hMl : M.length = zs.length) (hbw : 0 ≤ bw ∧ bw ≤ 1)
    (hv : vs B (fun i => M.getD (0 + i) 0) n - B ^ n * bw = vs B (fun i => zs.getD (0 + i) 0) n - vs B (fun i => ys.getD i 0) n) : val B M = val B zs - val B ys := by
  have hle : ys.length ≤ n := by
    by_cases h : ys.length ≤ n
    · exact h
    · have := val_lt_of_len hB hz hy ty (by omega); omega
  simp only [Nat.zero_add] at hv
  rw [vs_all _ M (by omega), vs_all _ zs (by omega), vs_all _ ys hle] at hv
  have b1 := val_lt hB hM
  rw [hMl, hzl] at b1
  have hc : bw = 0 ∨ bw = 1 := by omega
  rcases hc with rfl | rfl <;> omega

set_option maxHeartbeats 800000 in
theorem sub_any (a b : Option Addr) (la ca lb cb : Nat) (zs ys : List Int) (w : World) (h : Nums w a la ca zs) (h' : Nums w b lb cb ys) :
    Calls Try.prog 36 #[.slice a la ca, .slice b lb cb] w fun e w' => ∃ a' n cap' ls err, e = .returned (.tuple #[.slice a' n cap', .int .i64 err]) ∧ Nums w' a' n cap' ls ∧
      ResSub zs ys ls err ∧ Fresh w w' a' n ∧ Below w.heap.size w w' := by
  have nothing : Fresh w w none 0 := fun hp => absurd hp (Nat.lt_irrefl _)
  cases hr : rightB zs with
  | false =>
    go_enter Try.func36, Try.ntmps36
    go_wp2_with fail
    refine (right_any _ _ _ _ _ h).mono ?_
    rintro e w' ⟨rfl, rfl⟩
    go_wp2_with fail
    go_ret2
    exact ⟨none, 0, 0, [], 1, rfl, Nums.nil _, by simp [ResSub, hr], fun hp => absurd hp (Nat.lt_irrefl _), Below.refl _ _⟩
  | true =>
  cases hr' : rightB ys with
  | false =>
    go_enter Try.func36, Try.ntmps36
    go_wp2_with fail
    refine (right_any _ _ _ _ _ h).mono ?_
    rintro e w' ⟨rfl, rfl⟩
    go_wp2_with fail
    refine (right_any _ _ _ _ _ h').mono ?_
    rintro e w' ⟨rfl, rfl⟩
    go_wp2_with fail
    go_ret2
    exact ⟨none, 0, 0, [], 1, rfl, Nums.nil _, by simp [ResSub, hr'], fun hp => absurd hp (Nat.lt_irrefl _), Below.refl _ _⟩
  | true =>
    have hla : la ≤ 64 := by have := right_len hr; have := h.hlen; omega
    have hlb : lb ≤ 64 := by have := right_len hr'; have := h'.hlen; omega
    have hcn : cmpN zs ys = cmpZ (val 18446744073709551616 zs) (val 18446744073709551616 ys) := by simp [cmpN, hr, hr']
    by_cases hlt : val 18446744073709551616 zs < val 18446744073709551616 ys
    · have hc1 : cmpN zs ys = -1 := by rw [hcn, cmpZ_lt hlt]
      clear hcn
      have HP : Hid (ResSub zs ys [] 2) := (show ResSub zs ys [] 2 by simp [ResSub, hr, hr', hlt])
      clear hlt
      go_enter Try.func36, Try.ntmps36
      go_wp2_with fail
      refine (right_any _ _ _ _ _ h).mono ?_
      rintro e w' ⟨rfl, rfl⟩
      go_wp2_with fail
      refine (right_any _ _ _ _ _ h').mono ?_
      rintro e w0 ⟨rfl, rfl⟩
      go_wp2_with fail
      refine (cmp_any _ _ _ _ _ _ _ _ _ h h').mono ?_
      rintro e w1 ⟨rfl, hb1⟩
      rw [hc1]
      clear hc1
      go_wp2_with fail
      go_ret2
      exact ⟨none, 0, 0, [], 2, rfl, Nums.nil _, HP.out, fun hp => absurd hp (Nat.lt_irrefl _), hb1⟩
    · have hc1 : ¬ cmpN zs ys < 0 := by rw [hcn]; unfold cmpZ; rw [if_neg hlt]; split <;> omega
      clear hcn
      have HG : Hid (¬ val 18446744073709551616 zs < val 18446744073709551616 ys) := hlt
      clear hlt
      obtain ⟨cc, hcc⟩ : ∃ cc, cc = cmpN zs ys := ⟨_, rfl⟩
      rw [← hcc] at hc1
      have HC : Hid (cc = cmpN zs ys) := hcc
      clear hcc
      go_enter Try.func36, Try.ntmps36
      go_wp2_with fail
      refine (right_any _ _ _ _ _ h).mono ?_
      rintro e w' ⟨rfl, rfl⟩
      go_wp2_with fail
      refine (right_any _ _ _ _ _ h').mono ?_
      rintro e w0 ⟨rfl, rfl⟩
      go_wp2_with fail
      refine (cmp_any _ _ _ _ _ _ _ _ _ h h').mono ?_
      rintro e w1 ⟨rfl, hb1⟩
      rw [← HC.out]
      go_wp2_with fail
      refine (clone_any _ _ _ _ _ (h.below hb1) (by omega)).mono ?_
      rintro e w2 ⟨da, dn, dc, rfl, hd, hfr, hb2⟩
      have hb12 := hb1.trans (hb2.mono hb1.size)
      have hdl := hd.hlen
      have hzl := h.hlen
      obtain rfl : la = dn := by omega
      have hy2 := h'.below hb12
      have HD : Hid (zs.length = la) := hdl
      clear hdl hzl
      obtain ⟨g, hs, hblk, hgge⟩ : ∃ g, (0 < la → da = some ⟨g, 0, none⟩) ∧ (0 < la → Blk w2 g zs) ∧ w0.heap.size ≤ g := by
        rcases Nat.eq_zero_or_pos la with h0 | h0
        · exact ⟨w0.heap.size, fun hp => absurd hp (by omega), fun hp => absurd hp (by omega), Nat.le_refl _⟩
        · obtain ⟨g', e, hge, hbk⟩ := hfr h0
          exact ⟨g', fun _ => e, fun _ => hbk, by have := hb1.size; omega⟩
      have hap : 0 < lb → Apart b g := fun hp x hx => by
        obtain ⟨b1, o1, rfl, hc⟩ := h'.cells hp
        have := World.block_lt_of_cell? w0 _ (hc 0 hp)
        cases hx
        simp at this ⊢; omega
      have hzd := h.digs
      have hyd := h'.digs
      have hty := right_top hr'
      have hdm := hd.hmax
      have hdc := hd.hcap
      clear hfr
      go_wp2_with fail
      refine (takeFrom_any da g 0 la dc zs b lb cb ys _ hs hblk hzd (by have := HD.out; omega) (by omega) hy2 hap).mono ?_
      rintro e w3 ⟨M, bw, rfl, hbM, hMd, hMl, -, hbw, hv, hg3⟩
      have hval := sub_end (by decide) hzd hyd hty (by have := HG.out; omega) hMd HD.out hMl hbw hv
      have hb3 := hb12.trans (below_of_grown hg3 hgge hb12.size)
      have hM : Nums w3 da la dc M := ⟨by rw [hMl]; exact HD.out, hdc, hdm, fun hp => ⟨g, 0, hs hp, fun i hi => by rw [Nat.zero_add]; exact (hbM hp).cell (by have := HD.out; omega)⟩, hMd⟩
      have HV : Hid (val 18446744073709551616 M = val 18446744073709551616 zs - val 18446744073709551616 ys ∧ M.length = zs.length) := ⟨hval, hMl⟩
      clear hv hval hMl
      go_wp2_with fail
      refine (trimmed_any _ _ _ _ _ hM).mono ?_
      rintro e w4 ⟨a', k, cap', rfl, htr, hk, rfl⟩
      have hkl : k ≤ la := by have := htr.le; have := hM.hlen; omega
      have hn4 : Nums w4 a' k cap' (M.take k) := by
        rcases hk with ⟨rfl, rfl, rfl⟩ | ⟨_, rfl, rfl⟩
        · simpa using Nums.nil w4
        · exact hM.take hkl
      have hfr4 : Fresh w0 w4 a' k := fun hp => by
        rcases hk with ⟨rfl, _, _⟩ | ⟨_, rfl, _⟩
        · exact absurd hp (Nat.lt_irrefl _)
        · exact ⟨g, M, hs (by omega), hgge, hbM (by omega), by have := HV.out.2; have := HD.out; omega⟩
      have hres : Res (val 18446744073709551616 zs - val 18446744073709551616 ys) (M.take k) 0 := .inl ⟨rfl, hMd.take k, htr.Top, by rw [hn4.hlen]; omega, htr.val.trans HV.out.1⟩
      have HR : Hid (ResSub zs ys (M.take k) 0) := (show ResSub zs ys (M.take k) 0 by rw [ResSub, hr, hr', Bool.and_true, if_pos rfl, if_neg (Int.not_lt.2 HG.out)]; exact hres)
      clear hres htr hk
      go_wp2_with fail
      go_ret2
      exact ⟨_, _, _, _, _, rfl, hn4, HR.out, hfr4, hb3⟩
end Go.Proofs.Ytfafbggijhghcaa
