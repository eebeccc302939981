/-
  The contract of mont.New: of which moduli there is a ring, and what it holds.
  The contracts of the document's May, and of the law's fresh.
  Contracts of a ring's product, In, Out and Mul.
  Contracts of the document's answers for layer 2: Below, Rest, Times, In, half, Out, Mul.
-/
import Derived.Test.YtchmlfjjgehbkaaMontA
import Derived.Test.YtchmlfjjgehbkaaShift
import Derived.Test.YtchmlfjjgehbkaaNatE
import Derived.BigRegion
import Derived.Test.YtchmlfjjgehbkaaReduceA
import Derived.Test.YtchmlfjjgehbkaaRefB
import Derived.Test.YtchmlfjjgehbkaaRefA
import Derived.Test.YtchmlfjjgehbkaaNatA
namespace Go.Proofs.Ytchmlfjjgehbkaa
open Go.RowKit

/-- May a modulus be? -/
def mayB (zs : List Int) : Bool := rightB zs && (decide (0 < zs.length) && (decide (zs.length ≤ 8) && (decide (zs.getD 0 0 % 2 = 1) && (decide (1 < zs.length) || decide (1 < zs.getD 0 0)))))

theorem may_right {zs : List Int} (h : mayB zs = true) : rightB zs = true := by simp [mayB] at h; exact h.1

theorem val_low (zs : List Int) (h : 0 < zs.length) : ∃ t, val 18446744073709551616 zs = zs.getD 0 0 + 18446744073709551616 * t ∧ t = val 18446744073709551616 (zs.drop 1) := by
  cases zs with
  | nil => simp at h
  | cons x r => exact ⟨_, rfl, rfl⟩

theorem may_three {zs : List Int} (hd : Digs 18446744073709551616 zs) (hr : rightB zs = true) (hp : 0 < zs.length) (ho : zs.getD 0 0 % 2 = 1) : (1 < zs.length ∨ 1 < zs.getD 0 0) ↔ 3 ≤ val 18446744073709551616 zs := by
  obtain ⟨t, e, ht⟩ := val_low zs hp
  have h0 := hd.getD (by decide) 0
  have hn := val_nonneg (B := 18446744073709551616) (by decide) (hd.drop 1)
  rw [← ht] at hn
  by_cases hl : 1 < zs.length
  · have := val_ge (B := 18446744073709551616) (by decide) hd (right_top hr) (by intro e; subst e; simp at hl)
    have h2 := pow_mono (B := 18446744073709551616) (by decide) (show 1 ≤ zs.length - 1 by omega)
    rw [Int.pow_one] at h2
    constructor
    · intro _; omega
    · intro _; exact .inl hl
  · have : zs.drop 1 = [] := List.drop_eq_nil_of_le (by omega)
    rw [this, val_nil] at ht
    subst ht
    constructor
    · rintro (h | h)
      · omega
      · omega
    · intro h; right; omega

theorem bit0 {zs : List Int} (hr : rightB zs = true) : bitB zs 0 = (decide (0 < zs.length) && decide (zs.getD 0 0 % 2 = 1)) := by
  simp [bitB, hr]

theorem three_lt {zs : List Int} (hr : rightB zs = true) : (cmpN zs (ofZ 3) < 0) ↔ val 18446744073709551616 zs < 3 := by
  have e : cmpN zs (ofZ 3) = cmpZ (val 18446744073709551616 zs) 3 := by
    simp only [cmpN, hr, show rightB (ofZ 3) = true by decide, show val 18446744073709551616 (ofZ 3) = 3 by decide, Bool.and_self, if_true]
  rw [e]
  unfold cmpZ
  split
  · simp_all
  · split <;> simp_all

theorem may_false {zs : List Int} (hd : Digs 18446744073709551616 zs) (h : rightB zs = false ∨ rightB zs = true ∧ bitB zs 0 = false ∨ rightB zs = true ∧ bitB zs 0 = true ∧ cmpN zs (ofZ 3) < 0 ∨ 8 < zs.length) : mayB zs = false := by
  cases hm : mayB zs with
  | false => rfl
  | true =>
    exfalso
    simp only [mayB, Bool.and_eq_true, Bool.or_eq_true, decide_eq_true_eq] at hm
    obtain ⟨m1, m2, m3, m4, m5⟩ := hm
    rcases h with h | ⟨h, h'⟩ | ⟨h, h', h''⟩ | h
    · rw [m1] at h; cases h
    · rw [bit0 h, decide_eq_true m2, decide_eq_true m4] at h'; cases h'
    · have := (may_three hd h m2 m4).1 m5
      have := (three_lt h).1 h''
      omega
    · omega

theorem may_true {zs : List Int} (hd : Digs 18446744073709551616 zs) (h1 : rightB zs = true) (h2 : bitB zs 0 = true) (h3 : ¬ cmpN zs (ofZ 3) < 0) (h4 : zs.length ≤ 8) :
    mayB zs = true ∧ 0 < zs.length ∧ zs.getD 0 0 % 2 = 1 ∧ 3 ≤ val 18446744073709551616 zs := by
  rw [bit0 h1] at h2
  simp only [Bool.and_eq_true, decide_eq_true_eq] at h2
  have e3 : 3 ≤ val 18446744073709551616 zs := by
    have := mt (three_lt h1).2 h3; omega
  have := (may_three hd h1 h2.1 h2.2).2 e3
  refine ⟨?_, h2.1, h2.2, e3⟩
  simp only [mayB, Bool.and_eq_true, Bool.or_eq_true, decide_eq_true_eq]
  exact ⟨h1, h2.1, h4, h2.2, this⟩

theorem neg_fac {y z : Int} (h : (z * y) % 18446744073709551616 = 1) : (1 + IntKind.u64.wrap (-y) * z) % 18446744073709551616 = 0 := by
  rw [wrap64, Int.add_emod, Int.mul_emod, Int.emod_emod, ← Int.mul_emod, Int.neg_mul, Int.mul_comm y z]
  generalize z * y = u at h
  omega

theorem shl_all {n : Nat} {ls : List Int} {err : Int} (hn : n ≤ 8) (h : ResShl (ofZ 1) (128 * (n : Int)) ls err) : Digs 18446744073709551616 ls ∧ rightB ls = true ∧ val 18446744073709551616 ls = 18446744073709551616 ^ n * 18446744073709551616 ^ n := by
  have e1 : rightB (ofZ 1) = true := by decide
  have e2 : (ofZ 1).length ≠ 0 := by decide
  unfold ResShl at h
  rw [e1, if_pos (by simp; omega), if_neg e2, if_neg (by omega)] at h
  have e3 : val 18446744073709551616 (ofZ 1) * 2 ^ (128 * (n : Int)).toNat = 18446744073709551616 ^ n * 18446744073709551616 ^ n := by
    rw [show val 18446744073709551616 (ofZ 1) = 1 by decide, Int.one_mul, ← Int.pow_add, pow64]
    congr 1
    omega
  rw [e3] at h
  have := res_fits h (by
    rw [← Int.pow_add]
    have := pow_mono (B := 18446744073709551616) (by decide) (show n + n ≤ 16 by omega)
    have h2 : (18446744073709551616 : Int) ^ 16 < 18446744073709551616 ^ 64 := by decide
    omega)
  exact ⟨this.2.1, this.2.2.1, this.2.2.2⟩

theorem RingAt.made {w : World} {ka ra : Option Addr} {kn kc rn rc : Nat} {zs rs : List Int} (f : Int) (t : TypeId) (hk : Nums w ka kn kc zs) (hr : Nums w ra rn rc rs) :
    RingAt (w.alloc (.cells #[.slice ka kn kc, .int .u64 f, .slice ra rn rc] t)) (some ⟨w.heap.size, 0, none⟩) zs f rs := by
  have hb := (Below.refl w.heap.size w).alloc (Nat.le_refl _) (.cells #[.slice ka kn kc, .int .u64 f, .slice ra rn rc] t)
  exact ⟨_, ka, kn, kc, ra, rn, rc, rfl, by simp, by simp, by simp, hk.below hb, hr.below hb⟩

end Go.Proofs.Ytchmlfjjgehbkaa

namespace Go.Proofs.Ytchmlfjjgehbkaa
open Go.RowKit

end Go.Proofs.Ytchmlfjjgehbkaa

namespace Go.Proofs.Ytchmlfjjgehbkaa
open Go.RowKit

theorem two_cancel {n u v : Int} (ho : n % 2 = 1) (h : (2 * u) % n = (2 * v) % n) : u % n = v % n := by
  obtain ⟨t, ht⟩ : ∃ t, n = 2 * t + 1 := ⟨n / 2, by omega⟩
  obtain ⟨c, hc⟩ := Int.dvd_of_emod_eq_zero (Int.emod_eq_emod_iff_emod_sub_eq_zero.1 h)
  refine Int.emod_eq_emod_iff_emod_sub_eq_zero.2 (Int.emod_eq_zero_of_dvd ⟨u - v - t * c, ?_⟩)
  rw [Int.mul_sub, Int.mul_left_comm n t c, ← hc, ht]
  have e1 : t * (2 * u - 2 * v) = 2 * (t * (u - v)) := by rw [← Int.mul_sub, Int.mul_left_comm]
  have e2 : (2 * t + 1) * (u - v) = 2 * (t * (u - v)) + (u - v) := by rw [Int.add_mul, Int.mul_assoc, Int.one_mul]
  omega

theorem pow_cancel {n : Int} (ho : n % 2 = 1) : ∀ (j : Nat) {u v : Int}, (2 ^ j * u) % n = (2 ^ j * v) % n → u % n = v % n
  | 0, u, v, h => by simpa using h
  | j + 1, u, v, h => by
    rw [Int.pow_succ, Int.mul_comm (2 ^ j) 2, Int.mul_assoc, Int.mul_assoc] at h
    exact pow_cancel ho j (two_cancel ho h)

theorem RingOk.oddN {zs qs : List Int} {f : Int} (h : RingOk zs f qs) : val 18446744073709551616 zs % 2 = 1 := by
  have h1 := h.odd
  have h2 := h.len
  cases zs with
  | nil => simp at h2
  | cons x r => simp [val] at h1 ⊢; omega

theorem Red.unique {zs : List Int} {v : Int} {ls ks : List Int} (ho : val 18446744073709551616 zs % 2 = 1) (h : Red zs v ls) (h' : Red zs v ks) : ls = ks := by
  obtain ⟨d1, t1, l1, e1⟩ := h
  obtain ⟨d2, t2, l2, e2⟩ := h'
  refine val_inj (by decide) d1 d2 t1 t2 ?_
  have n1 := val_nonneg (B := 18446744073709551616) (by decide) d1
  have n2 := val_nonneg (B := 18446744073709551616) (by decide) d2
  have e3 := e1.trans e2.symm
  rw [pow64] at e3
  have e4 := pow_cancel ho _ e3
  rw [Int.emod_eq_of_lt n1 l1, Int.emod_eq_of_lt n2 l2] at e4
  exact e4

theorem Red.mod {zs : List Int} {v u : Int} {ls : List Int} (h : Red zs v ls) (e : v % val 18446744073709551616 zs = u % val 18446744073709551616 zs) : Red zs u ls := ⟨h.1, h.2.1, h.2.2.1, h.2.2.2.trans e⟩

/-- What a ring's call tells: the error 1, where an argument may not be or is not below the modulus. -/
def ResRing (ok : Bool) (zs : List Int) (v : Int) (ls : List Int) (err : Int) : Prop := if ok = true then err = 0 ∧ Red zs v ls else err = 1 ∧ ls = []

theorem ResRing.bad (zs : List Int) (v : Int) : ResRing false zs v [] 1 := by simp [ResRing]
theorem ResRing.ok {zs : List Int} {v : Int} {ls : List Int} (h : Red zs v ls) : ResRing true zs v ls 0 := by simp [ResRing, h]
theorem ResRing.unique {ok : Bool} {zs : List Int} {v : Int} {ls ks : List Int} {e f : Int} (ho : val 18446744073709551616 zs % 2 = 1) (h : ResRing ok zs v ls e) (h' : ResRing ok zs v ks f) : ls = ks ∧ e = f := by
  cases ok with
  | false => simp [ResRing] at h h'; exact ⟨h.2.trans h'.2.symm, h.1.trans h'.1.symm⟩
  | true => simp [ResRing] at h h'; exact ⟨h.2.unique ho h'.2, h.1.trans h'.1.symm⟩

theorem below_parts {xs zs : List Int} (h : belowB xs zs = true) : rightB xs = true ∧ val 18446744073709551616 xs < val 18446744073709551616 zs := by simpa [belowB] using h
theorem below_mk {xs zs : List Int} (h : rightB xs = true) (h' : val 18446744073709551616 xs < val 18446744073709551616 zs) : belowB xs zs = true := by simp [belowB, h, h']

theorem RingOk.sqB {zs qs : List Int} {f : Int} (h : RingOk zs f qs) (hd : Digs 18446744073709551616 zs) (hq : Digs 18446744073709551616 qs) : belowB qs zs = true := by
  have h1 : val 18446744073709551616 qs < val 18446744073709551616 zs := by rw [h.sq]; exact Int.emod_lt_of_pos _ (by have := h.three; omega)
  refine below_mk (right_mk ?_ h.top) h1
  have := len_le (B := 18446744073709551616) (by decide) hq h.top (k := 8) (by
    have := val_lt_pow (B := 18446744073709551616) (by decide) hd h.len.2
    omega)
  omega

theorem prod_bd {xs ys zs : List Int} {k : Nat} (hx : Digs 18446744073709551616 xs) (hy : Digs 18446744073709551616 ys) (hz : Digs 18446744073709551616 zs) (hk : zs.length = k) (h8 : k ≤ 8) (h1 : val 18446744073709551616 xs < val 18446744073709551616 zs) (h2 : val 18446744073709551616 ys < val 18446744073709551616 zs) :
    val 18446744073709551616 xs * val 18446744073709551616 ys < val 18446744073709551616 zs * 18446744073709551616 ^ k ∧ val 18446744073709551616 xs * val 18446744073709551616 ys < 18446744073709551616 ^ 64 := by
  have nx := val_nonneg (B := 18446744073709551616) (by decide) hx
  have ny := val_nonneg (B := 18446744073709551616) (by decide) hy
  have lz := val_lt (B := 18446744073709551616) (by decide) hz
  rw [hk] at lz
  have pk := pow_pos' (B := 18446744073709551616) (by decide) k
  generalize val 18446744073709551616 xs = x at *
  generalize val 18446744073709551616 ys = y at *
  generalize val 18446744073709551616 zs = z at *
  have a1 : x * y ≤ z * y := Int.mul_le_mul_of_nonneg_right (by omega) ny
  have a2 : z * y < z * 18446744073709551616 ^ k := Int.mul_lt_mul_of_pos_left (by omega) (by omega)
  have a3 : z * 18446744073709551616 ^ k ≤ 18446744073709551616 ^ k * 18446744073709551616 ^ k := Int.mul_le_mul_of_nonneg_right (by omega) (by omega)
  rw [← Int.pow_add] at a3
  have a4 := pow_mono (B := 18446744073709551616) (by decide) (show k + k ≤ 16 by omega)
  have a5 : (18446744073709551616 : Int) ^ 16 < 18446744073709551616 ^ 64 := by decide
  omega

end Go.Proofs.Ytchmlfjjgehbkaa

namespace Go.Proofs.Ytchmlfjjgehbkaa
open Go.RowKit


set_option maxHeartbeats 800000 in
theorem rest_any (a b : Option Addr) (la ca lb cb : Nat) (xs zs : List Int) (w : World) (ha : Nums w a la ca xs) (hb : Nums w b lb cb zs) (hx : rightB xs = true) (hz : rightB zs = true) (h0 : zs.length ≠ 0) :
    Calls Try.prog 56 #[.slice a la ca, .slice b lb cb] w fun e w' => ∃ a' n c' ls, e = .returned (.slice a' n c') ∧ Nums w' a' n c' ls ∧ rightB ls = true ∧ val 18446744073709551616 ls = val 18446744073709551616 xs % val 18446744073709551616 zs ∧ Below w.heap.size w w' := by
  go_enter Try.func56, Try.ntmps56
  go_wp2_with fail
  refine (refDiv_any _ _ _ _ _ _ _ _ _ ha hb).mono ?_
  rintro e w1 ⟨qa, qn, qc, qs, ra, rn, rc, rs, re, rfl, hq, hrs, hdr, hb1⟩
  have HQ : Hid (rightB rs = true ∧ val 18446744073709551616 rs = val 18446744073709551616 xs % val 18446744073709551616 zs) := by
    unfold ResDiv at hdr
    rw [hx, hz, if_pos (show (true && true) = true from rfl), if_neg h0] at hdr
    obtain ⟨_, d1, d2, d3, d4, d5, d6⟩ := hdr
    exact ⟨d4, d6⟩
  clear hdr hq
  go_wp2_with fail
  go_ret
  exact ⟨_, _, _, _, rfl, hrs, HQ.out.1, HQ.out.2, hb1⟩

/-- What a modulus is, as its laws need it. -/
structure ModOk (zs : List Int) : Prop where
  right : rightB zs = true
  len : 0 < zs.length ∧ zs.length ≤ 8
  odd : val 18446744073709551616 zs % 2 = 1
  three : 3 ≤ val 18446744073709551616 zs

theorem RingOk.modOk {zs qs : List Int} {f : Int} (h : RingOk zs f qs) : ModOk zs := ⟨h.right, h.len, h.oddN, h.three⟩

theorem Red.belowB {zs : List Int} {v : Int} {ls : List Int} (h : Red zs v ls) (hm : ModOk zs) (hd : Digs 18446744073709551616 zs) : belowB ls zs = true := by
  refine below_mk (right_mk ?_ h.2.1) h.2.2.1
  have := len_le (B := 18446744073709551616) (by decide) h.1 h.2.1 (k := 8) (by
    have := val_lt_pow (B := 18446744073709551616) (by decide) hd hm.len.2
    have := h.2.2.1
    omega)
  omega

theorem red_in {zs ls : List Int} {a : Int} (hm : ModOk zs) (h : Red zs (a * (18446744073709551616 ^ zs.length * 18446744073709551616 ^ zs.length)) ls) : val 18446744073709551616 ls % val 18446744073709551616 zs = (a * 18446744073709551616 ^ zs.length) % val 18446744073709551616 zs := by
  have e := h.2.2.2
  rw [← Int.mul_assoc, Int.mul_comm (a * _)] at e
  rw [pow64] at e ⊢
  exact pow_cancel hm.odd _ e

theorem red_prod {zs ps : List Int} {x y a b : Int} (hm : ModOk zs) (h : Red zs (x * y) ps) (hx : x % val 18446744073709551616 zs = (a * 18446744073709551616 ^ zs.length) % val 18446744073709551616 zs) (hy : y % val 18446744073709551616 zs = (b * 18446744073709551616 ^ zs.length) % val 18446744073709551616 zs) :
    val 18446744073709551616 ps % val 18446744073709551616 zs = (a * b * 18446744073709551616 ^ zs.length) % val 18446744073709551616 zs := by
  have e := h.2.2.2
  rw [Int.mul_emod x y, hx, hy, ← Int.mul_emod] at e
  have e2 : a * 18446744073709551616 ^ zs.length * (b * 18446744073709551616 ^ zs.length) = 18446744073709551616 ^ zs.length * (a * b * 18446744073709551616 ^ zs.length) := by
    generalize (18446744073709551616 : Int) ^ zs.length = r
    rw [Int.mul_comm a r, Int.mul_assoc, Int.mul_assoc]
  rw [e2, pow64] at e
  rw [pow64]
  exact pow_cancel hm.odd _ e

/-- What comes back out of the form is the number whose rest went in. -/
theorem red_out {zs ls ks : List Int} {x a : Int} (hm : ModOk zs) (h : Red zs x ls) (hx : x % val 18446744073709551616 zs = (a * 18446744073709551616 ^ zs.length) % val 18446744073709551616 zs) (hd : Digs 18446744073709551616 ks) (ha : belowB ks zs = true) (hv : val 18446744073709551616 ks = a % val 18446744073709551616 zs) : ls = ks := by
  refine h.unique hm.odd ⟨hd, right_top (below_parts ha).1, (below_parts ha).2, ?_⟩
  rw [hv, hx, Int.mul_emod, Int.emod_emod, ← Int.mul_emod, Int.mul_comm]
end Go.Proofs.Ytchmlfjjgehbkaa
