/-
  The contract of addTimes: a number times a word, added in its place.
  The contract of longhand: a product limb by limb.
  The contract of parted: a number's limbs below a place, and those from it on.
  The contract of takeFrom: the difference of limbs, in its place.
  The contract of product: Karatsuba's product by a recursive closure.
  The contract of nat.Mul.
  Contracts of slices.Clone and nat.Sub: a copy in new memory; the difference of two numbers.
-/
import Derived.Test.YtaiikhbfnfcalaaNatB
import Derived.Shelf.Spec.BitsCarry
import Derived.Laws.EntriesVeiled
import Derived.Deep.DeepCutAuto
import Derived.Lib.SliceRun
namespace Go.Proofs.Ytaiikhbfnfcalaa
open Go.RowKit

theorem at_step {L M : List Int} {o n k : Nat} {ys : List Int} {cy m x y : Int} (hk : k < n) (hon : o + n ≤ L.length) (hml : M.length = L.length) (hmd : Digs 18446744073709551616 M) (hyd : Digs 18446744073709551616 ys) (hm : 0 ≤ m ∧ m < 18446744073709551616)
    (hsame : ∀ j, j < o ∨ o + k ≤ j → M.getD j 0 = L.getD j 0) (hc : 0 ≤ cy ∧ cy < 18446744073709551616)
    (hv : vs 18446744073709551616 (fun i => M.getD (o + i) 0) k + 18446744073709551616 ^ k * cy = vs 18446744073709551616 (fun i => L.getD (o + i) 0) k + m * vs 18446744073709551616 (fun i => ys.getD i 0) k)
    (hx : x = M.getD (o + k) 0) (hy : y = ys.getD k 0) {h l r s t : Int} (e1 : l + 18446744073709551616 * h = y * m) (e2 : s + 18446744073709551616 * r = l + x) (h2 : hi (s + cy) = t) (bs : 0 ≤ s ∧ s < 18446744073709551616) (_b1 : 0 ≤ h) (_b2 : 0 ≤ r) :
    (M.set (o + k) (lo (s + cy))).length = L.length ∧ Digs 18446744073709551616 (M.set (o + k) (lo (s + cy))) ∧
    (∀ j, j < o ∨ o + (k + 1) ≤ j → (M.set (o + k) (lo (s + cy))).getD j 0 = L.getD j 0) ∧ (0 ≤ h + r + t ∧ h + r + t < 18446744073709551616) ∧
    vs 18446744073709551616 (fun i => (M.set (o + k) (lo (s + cy))).getD (o + i) 0) (k + 1) + 18446744073709551616 ^ (k + 1) * (h + r + t) = vs 18446744073709551616 (fun i => L.getD (o + i) 0) (k + 1) + m * vs 18446744073709551616 (fun i => ys.getD i 0) (k + 1) := by
  have bx : 0 ≤ x ∧ x < 18446744073709551616 := by rw [hx]; exact hmd.getD (by decide) _
  have by' : 0 ≤ y ∧ y < 18446744073709551616 := by rw [hy]; exact hyd.getD (by decide) _
  have hp := hi_mul_bd by' hm
  have e3 := lo_hi (s + cy)
  have bl := lo_bd (s + cy)
  rw [h2] at e3
  have bt : 0 ≤ t := by rw [← h2]; unfold hi; omega
  generalize hz : lo (s + cy) = z at e3 bl ⊢
  have et : z + 18446744073709551616 * (h + r + t) = y * m + x + cy := by omega
  refine ⟨by simpa using hml, hmd.set _ bl, fun j hj => ?_, ⟨by omega, by omega⟩, ?_⟩
  · rw [getD_set_ne (by omega)]; exact hsame j (by omega)
  · have f1 : vs 18446744073709551616 (fun i => (M.set (o + k) z).getD (o + i) 0) k = vs 18446744073709551616 (fun i => M.getD (o + i) 0) k :=
      vs_congr (fun i hi => getD_set_ne (by omega))
    have f2 : (M.set (o + k) z).getD (o + k) 0 = z := getD_set_self (by omega)
    have f3 := hsame (o + k) (by omega)
    simp only [vs]
    rw [f1, f2, ← f3, ← hx, ← hy, Int.pow_succ, Int.mul_assoc, Int.mul_add m]
    generalize (18446744073709551616 : Int) ^ k = P at hv ⊢
    have e6 : P * z + P * (18446744073709551616 * (h + r + t)) = P * (y * m) + P * x + P * cy := by rw [← Int.mul_add, et, Int.mul_add, Int.mul_add]
    have e7 : m * (P * y) = P * (y * m) := by rw [Int.mul_left_comm, Int.mul_comm m y]
    omega

end Go.Proofs.Ytaiikhbfnfcalaa

namespace Go.Proofs.Ytaiikhbfnfcalaa
open Go.RowKit

theorem long_step {M N xs ys : List Int} {i n : Nat} {x cy : Int} (hN : N.length = n) (hi : i < xs.length) (hlt : i + ys.length < n) (hx : x = xs.getD i 0) (hz : M.getD (i + ys.length) 0 = 0)
    (hs : ∀ j, j < i ∨ i + ys.length ≤ j → N.getD j 0 = M.getD j 0) (hM : vs 18446744073709551616 (fun j => M.getD j 0) n = val 18446744073709551616 (xs.take i) * val 18446744073709551616 ys)
    (hv : vs 18446744073709551616 (fun t => N.getD (i + t) 0) ys.length + 18446744073709551616 ^ ys.length * cy = vs 18446744073709551616 (fun t => M.getD (i + t) 0) ys.length + x * vs 18446744073709551616 (fun t => ys.getD t 0) ys.length) :
    vs 18446744073709551616 (fun j => (N.set (i + ys.length) cy).getD j 0) n = val 18446744073709551616 (xs.take (i + 1)) * val 18446744073709551616 ys := by
  rw [vs_set hlt (by omega), hs (i + ys.length) (by omega), hz, vs_seg (o := i) (m := ys.length) (by omega) hs, hM, val_take_succ _ _ _ hi, ← hx, Int.add_mul, Int.mul_assoc, Int.sub_zero, Int.pow_add]
  rw [vs_all _ ys (Nat.le_refl _)] at hv
  have e : vs 18446744073709551616 (fun t => N.getD (i + t) 0) ys.length - vs 18446744073709551616 (fun t => M.getD (i + t) 0) ys.length + 18446744073709551616 ^ ys.length * cy = x * val 18446744073709551616 ys := by omega
  rw [← e, Int.mul_add, Int.mul_assoc]
  omega

end Go.Proofs.Ytaiikhbfnfcalaa

namespace Go.Proofs.Ytaiikhbfnfcalaa
open Go.RowKit

theorem Nums.drop {w : World} {b off len cap : Nat} {zs : List Int} (h : Nums w (some ⟨b, off, none⟩) len cap zs) {k : Nat} (hk : k ≤ len) {a' : Option Addr} {cap' : Nat} (hc' : len - k ≤ cap') (hm : cap' ≤ maxLen) (ha : k < len → a' = some ⟨b, off + k, none⟩) :
    Nums w a' (len - k) cap' (zs.drop k) := by
  have hl := h.hlen
  refine ⟨by simp; omega, hc', hm, fun hp => ⟨b, off + k, ha (by omega), fun i hi => ?_⟩, fun x hx => h.word x (List.mem_of_mem_drop hx)⟩
  obtain ⟨b1, o1, e, hc⟩ := h.cells (by omega)
  simp only [Option.some.injEq, Addr.mk.injEq, and_true] at e
  obtain ⟨rfl, rfl⟩ := e
  have := hc (k + i) (by omega)
  rw [← Nat.add_assoc] at this
  rw [this]
  simp [List.getD]

theorem below_draw (w : World) (n : Nat) : Below w.heap.size w (w.drewN n) := below_drewN (Below.refl _ _) n

end Go.Proofs.Ytaiikhbfnfcalaa

namespace Go.Proofs.Ytaiikhbfnfcalaa
open Go.RowKit

theorem take_step {L M : List Int} {o n k : Nat} {ys : List Int} {bw : Int} (hk : k < n) (hon : o + n ≤ L.length) (hml : M.length = L.length) (hmd : Digs 18446744073709551616 M) (hyd : Digs 18446744073709551616 ys)
    (hsame : ∀ j, j < o ∨ o + k ≤ j → M.getD j 0 = L.getD j 0) (hb : 0 ≤ bw ∧ bw ≤ 1)
    (hv : vs 18446744073709551616 (fun i => M.getD (o + i) 0) k - 18446744073709551616 ^ k * bw = vs 18446744073709551616 (fun i => L.getD (o + i) 0) k - vs 18446744073709551616 (fun i => ys.getD i 0) k)
    (x y : Int) (hx : x = M.getD (o + k) 0) (hy : y = ys.getD k 0) :
    (M.set (o + k) (lo (x - y - bw))).length = L.length ∧ Digs 18446744073709551616 (M.set (o + k) (lo (x - y - bw))) ∧
    (∀ j, j < o ∨ o + (k + 1) ≤ j → (M.set (o + k) (lo (x - y - bw))).getD j 0 = L.getD j 0) ∧ (0 ≤ bor x y bw ∧ bor x y bw ≤ 1) ∧
    vs 18446744073709551616 (fun i => (M.set (o + k) (lo (x - y - bw))).getD (o + i) 0) (k + 1) - 18446744073709551616 ^ (k + 1) * bor x y bw = vs 18446744073709551616 (fun i => L.getD (o + i) 0) (k + 1) - vs 18446744073709551616 (fun i => ys.getD i 0) (k + 1) := by
  have bx : 0 ≤ x ∧ x < 18446744073709551616 := by rw [hx]; exact hmd.getD (by decide) _
  have by' : 0 ≤ y ∧ y < 18446744073709551616 := by rw [hy]; exact hyd.getD (by decide) _
  refine ⟨by simpa using hml, hmd.set _ (lo_bd _), fun j hj => ?_, bor_bd _ _ _, ?_⟩
  · rw [getD_set_ne (by omega)]; exact hsame j (by omega)
  · have e1 : vs 18446744073709551616 (fun i => (M.set (o + k) (lo (x - y - bw))).getD (o + i) 0) k = vs 18446744073709551616 (fun i => M.getD (o + i) 0) k :=
      vs_congr (fun i hi => getD_set_ne (by omega))
    have e2 : (M.set (o + k) (lo (x - y - bw))).getD (o + k) 0 = lo (x - y - bw) := getD_set_self (by omega)
    have e3 := hsame (o + k) (by omega)
    simp only [vs]
    rw [e1, e2, ← e3, ← hx, ← hy]
    generalize hP : (18446744073709551616 : Int) ^ k = P at hv ⊢
    have e4 : (18446744073709551616 : Int) ^ (k + 1) = P * 18446744073709551616 := by rw [Int.pow_succ, hP]
    rw [e4, Int.mul_assoc]
    have e5 := lo_bor bx by' hb
    have e6 : P * lo (x - y - bw) - P * (18446744073709551616 * bor x y bw) = P * (x - y - bw) := by rw [← Int.mul_sub, e5]
    rw [Int.mul_sub, Int.mul_sub] at e6
    omega

end Go.Proofs.Ytaiikhbfnfcalaa

namespace Go.Proofs.Ytaiikhbfnfcalaa
open Go.RowKit

theorem kara (xl xh yl yh H : Int) : (xl + H * xh) * (yl + H * yh) = xl * yl + H * ((xl + xh) * (yl + yh) - xl * yl - xh * yh) + H * (H * (xh * yh)) := by
  have e1 : (xl + xh) * (yl + yh) - xl * yl - xh * yh = xl * yh + xh * yl := by rw [Int.add_mul, Int.mul_add, Int.mul_add]; omega
  rw [e1, Int.add_mul, Int.mul_add, Int.mul_add, Int.mul_add]
  have f1 : xl * (H * yh) = H * (xl * yh) := Int.mul_left_comm ..
  have f2 : H * xh * yl = H * (xh * yl) := Int.mul_assoc ..
  have f3 : H * xh * (H * yh) = H * (H * (xh * yh)) := by rw [Int.mul_assoc, Int.mul_left_comm xh]
  omega

theorem val_split' (B : Int) (zs : List Int) (k : Nat) : val B zs = val B (zs.take k) + B ^ k * val B (zs.drop k) := by
  by_cases h : k ≤ zs.length
  · exact val_split B zs k h
  · rw [List.take_of_length_le (by omega), List.drop_eq_nil_of_le (by omega)]; simp [val]

theorem val_trunc {B : Int} (hB : 0 < B) {D : List Int} (hD : Digs B D) {n : Nat} (h : val B D < B ^ n) : vs B (fun i => D.getD i 0) n = val B D := by
  rw [vs_val]
  have e := val_split' B D n
  have h1 := val_nonneg hB (hD.take n)
  have h2 := val_nonneg hB (hD.drop n)
  have h3 := pow_pos' hB n
  by_cases h0 : val B (D.drop n) = 0
  · rw [h0] at e; omega
  · have h4 : B ^ n * 1 ≤ B ^ n * val B (D.drop n) := Int.mul_le_mul_of_nonneg_left (by omega) (by omega)
    omega

theorem take_end {B : Int} (hB : 0 < B) {L M ys : List Int} {n : Nat} {bw : Int} (hM : Digs B M) (hLl : L.length = n) (hMl : M.length = L.length) (hy : ys.length ≤ n) (hge : val B ys ≤ val B L) (hbw : 0 ≤ bw ∧ bw ≤ 1)
    (hv : vs B (fun i => M.getD (0 + i) 0) n - B ^ n * bw = vs B (fun i => L.getD (0 + i) 0) n - vs B (fun i => ys.getD i 0) n) : val B M = val B L - val B ys := by
  simp only [Nat.zero_add] at hv
  rw [vs_all _ M (by omega), vs_all _ L (by omega), vs_all _ ys hy] at hv
  have b1 := val_lt hB hM
  rw [hMl, hLl] at b1
  have hc : bw = 0 ∨ bw = 1 := by omega
  rcases hc with rfl | rfl <;> omega

theorem add_end {B : Int} (hB : 0 < B) {L M D : List Int} {o n : Nat} {cy : Int} (hM : Digs B M) (hD : Digs B D) (hLl : L.length = o + n) (hMl : M.length = L.length) (hs : ∀ j, j < o ∨ o + n ≤ j → M.getD j 0 = L.getD j 0) (hcy : 0 ≤ cy ∧ cy ≤ 1)
    (hv : vs B (fun i => M.getD (o + i) 0) n + B ^ n * cy = vs B (fun i => L.getD (o + i) 0) n + vs B (fun i => D.getD i 0) n) (hlt : val B L + B ^ o * val B D < B ^ (o + n)) (hL : 0 ≤ val B L) : val B M = val B L + B ^ o * val B D := by
  have p1 := pow_pos' hB o
  have hDn : val B D < B ^ n := by
    rw [Int.pow_add] at hlt
    by_cases h : val B D < B ^ n
    · exact h
    · have : B ^ o * B ^ n ≤ B ^ o * val B D := Int.mul_le_mul_of_nonneg_left (by omega) (by omega)
      omega
  rw [val_trunc hB hD hDn] at hv
  have e := vs_seg (B := B) (N := M) (M := L) (n := o + n) (Nat.le_refl _) hs
  rw [vs_all _ M (by omega), vs_all _ L (by omega)] at e
  have e2 : vs B (fun i => M.getD (o + i) 0) n - vs B (fun i => L.getD (o + i) 0) n = val B D - B ^ n * cy := by omega
  rw [e2, Int.mul_sub, ← Int.mul_assoc, ← Int.pow_add] at e
  have b1 := val_nonneg hB hM
  have hc : cy = 0 ∨ cy = 1 := by omega
  rcases hc with rfl | rfl
  · omega
  · omega

theorem mul_nn {a b : Int} (ha : 0 ≤ a) (hb : 0 ≤ b) : 0 ≤ a * b := Int.mul_nonneg ha hb

end Go.Proofs.Ytaiikhbfnfcalaa

namespace Go.Proofs.Ytaiikhbfnfcalaa
open Go.RowKit

/-- Each number has its list of digits. -/
theorem digs_exist {B : Int} (hB : 1 < B) : ∀ (n : Nat) (v : Int), 0 ≤ v → v ≤ n → ∃ zs, Digs B zs ∧ Top zs ∧ val B zs = v
  | 0, v, h0, hn => ⟨[], Digs.nil _, .inl rfl, by simp [val]; omega⟩
  | n + 1, v, h0, hn => by
    by_cases hv : v = 0
    · exact ⟨[], Digs.nil _, .inl rfl, by simp [val, hv]⟩
    · have hq0 : 0 ≤ v / B := Int.ediv_nonneg h0 (by omega)
      have hq1 : v / B < v := Int.ediv_lt_self_of_pos_of_ne_one (by omega) (by omega)
      obtain ⟨r, hd, ht, hval⟩ := digs_exist hB n (v / B) hq0 (by omega)
      have hm0 : 0 ≤ v % B := Int.emod_nonneg _ (by omega)
      have hm1 : v % B < B := Int.emod_lt_of_pos _ (by omega)
      have e := Int.emod_add_mul_ediv v B
      refine ⟨v % B :: r, fun x hx => ?_, ?_, by rw [val, hval]; exact e⟩
      · rcases List.mem_cons.1 hx with rfl | hx
        · exact ⟨hm0, hm1⟩
        · exact hd x hx
      · right
        rcases ht with rfl | ht
        · simp [val] at hval
          rw [← hval] at e
          simp; omega
        · have hr : r ≠ [] := by intro e; subst e; simp at ht
          have hl : 0 < r.length := by cases r <;> simp_all
          obtain ⟨k, hk⟩ : ∃ k, r.length = k + 1 := ⟨r.length - 1, by omega⟩
          rw [hk] at ht
          simp only [Nat.add_sub_cancel] at ht
          simpa [hk] using ht

theorem long_mk {v : Int} (h0 : 0 ≤ v) {k : Nat} (hk : 64 ≤ k) (hv : 18446744073709551616 ^ k ≤ v) : Res v [] 4 := by
  obtain ⟨zs, hd, ht, e⟩ := digs_exist (B := 18446744073709551616) (by decide) v.toNat v h0 (by omega)
  refine .inr ⟨rfl, rfl, zs, hd, ht, e, ?_⟩
  have h1 := val_lt (B := 18446744073709551616) (by decide) hd
  rw [e] at h1
  by_cases hl : 64 < zs.length
  · exact hl
  · have h2 := pow_mono (B := 18446744073709551616) (by decide) (show zs.length ≤ k by omega)
    omega

theorem mul_long {xs ys : List Int} (hx : Digs 18446744073709551616 xs) (hy : Digs 18446744073709551616 ys) (tx : Top xs) (ty : Top ys) (h1 : 0 < xs.length) (h2 : 0 < ys.length) (h : 64 < xs.length + ys.length - 1) :
    Res (val 18446744073709551616 xs * val 18446744073709551616 ys) [] 4 := by
  have a1 := val_ge (B := 18446744073709551616) (by decide) hx tx (by intro e; subst e; simp at h1)
  have a2 := val_ge (B := 18446744073709551616) (by decide) hy ty (by intro e; subst e; simp at h2)
  have p1 := pow_pos' (B := 18446744073709551616) (by decide) (xs.length - 1)
  have p2 := pow_pos' (B := 18446744073709551616) (by decide) (ys.length - 1)
  refine long_mk (mul_nn (by omega) (by omega)) (k := (xs.length - 1) + (ys.length - 1)) (by omega) ?_
  rw [Int.pow_add]
  exact Int.mul_le_mul a1 a2 (by omega) (by omega)

theorem res_zero {v : Int} (h : v = 0) : Res v [] 0 := by
  subst h; exact .inl ⟨rfl, Digs.nil _, .inl rfl, by decide, rfl⟩

end Go.Proofs.Ytaiikhbfnfcalaa

namespace Go.Proofs.Ytaiikhbfnfcalaa
open Go.RowKit

theorem Own.fresh {w : World} {base : Nat} {v : Value} {zs : List Int} (h : Own w base v zs) (hd : Digs 18446744073709551616 zs) :
    ∃ a n cap, v = .slice a n cap ∧ Nums w a n cap zs ∧ (0 < n → ∃ g, a = some ⟨g, 0, none⟩ ∧ base ≤ g ∧ Blk w g zs) := by
  obtain ⟨h1, h2⟩ := h
  rcases h2 with ⟨rfl, hn⟩ | ⟨g, cap, cur, rfl, hb, hg, hnc, hcm, hcs, htk⟩
  · have e : zs = [] := List.eq_nil_of_length_eq_zero hn
    subst e
    exact ⟨none, 0, 0, rfl, Nums.nil _, fun h => absurd h (Nat.lt_irrefl _)⟩
  · have hblk : Blk w g zs := ⟨cur, hg, by simpa using htk⟩
    refine ⟨some ⟨g, 0, none⟩, zs.length, cap, rfl, ⟨rfl, hnc, hcm, fun _ => ⟨g, 0, rfl, fun i hi => ?_⟩, hd⟩, fun _ => ⟨g, rfl, hb, hblk⟩⟩
    rw [Nat.zero_add]; exact hblk.cell hi

/-- What is told of a difference. -/
def ResSub (zs ys : List Int) (ls : List Int) (err : Int) : Prop :=
  if rightB zs && rightB ys then (if val 18446744073709551616 zs < val 18446744073709551616 ys then err = 2 ∧ ls = [] else Res (val 18446744073709551616 zs - val 18446744073709551616 ys) ls err) else err = 1 ∧ ls = []

theorem ResSub.unique {zs ys : List Int} {ls ks : List Int} {e f : Int} (h : ResSub zs ys ls e) (h' : ResSub zs ys ks f) : ls = ks ∧ e = f := by
  unfold ResSub at h h'
  split at h
  · rename_i hc
    rw [if_pos hc] at h'
    split at h
    · rename_i hc2
      rw [if_pos hc2] at h'
      obtain ⟨rfl, rfl⟩ := h
      obtain ⟨rfl, rfl⟩ := h'
      exact ⟨rfl, rfl⟩
    · rename_i hc2
      rw [if_neg hc2] at h'
      exact h.unique h'
  · rename_i hc
    rw [if_neg hc] at h'
    obtain ⟨rfl, rfl⟩ := h
    obtain ⟨rfl, rfl⟩ := h'
    exact ⟨rfl, rfl⟩

theorem sub_end {B : Int} (hB : 0 < B) {zs ys M : List Int} {n : Nat} {bw : Int} (hz : Digs B zs) (hy : Digs B ys) (ty : Top ys) (hge : val B ys ≤ val B zs) (hM : Digs B M) (hzl : zs.length = n) (hMl : M.length = zs.length) (hbw : 0 ≤ bw ∧ bw ≤ 1)
    (hv : vs B (fun i => M.getD (0 + i) 0) n - B ^ n * bw = vs B (fun i => zs.getD (0 + i) 0) n - vs B (fun i => ys.getD i 0) n) : val B M = val B zs - val B ys := by
  have hle : ys.length ≤ n := by
    by_cases h : ys.length ≤ n
    · exact h
    · have := val_lt_of_len hB hz hy ty (by omega); omega
  simp only [Nat.zero_add] at hv
  rw [vs_all _ M (by omega), vs_all _ zs (by omega), vs_all _ ys hle] at hv
  have b1 := val_lt hB hM
  rw [hMl, hzl] at b1
  have hc : bw = 0 ∨ bw = 1 := by omega
  rcases hc with rfl | rfl <;> omega

end Go.Proofs.Ytaiikhbfnfcalaa
