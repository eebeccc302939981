/-
  Contracts of a ring's product, In, Out and Mul.
-/
import Derived.Test.YtnioobiodiofiabReduceA
import Derived.Test.YtnioobiodiofiabDiv
import Derived.Test.YtnioobiodiofiabShift
namespace Go.Proofs.Ytnioobiodiofiab
open Go.RowKit

theorem two_cancel {n u v : Int} (ho : n % 2 = 1) (h : (2 * u) % n = (2 * v) % n) : u % n = v % n := by
  obtain ⟨t, ht⟩ : ∃ t, n = 2 * t + 1 := ⟨n / 2, by omega⟩
  obtain ⟨c, hc⟩ := Int.dvd_of_emod_eq_zero (Int.emod_eq_emod_iff_emod_sub_eq_zero.1 h)
  refine Int.emod_eq_emod_iff_emod_sub_eq_zero.2 (Int.emod_eq_zero_of_dvd ⟨u - v - t * c, ?_⟩)
  rw [Int.mul_sub, Int.mul_left_comm n t c, ← hc, ht]
  have e1 : t * (2 * u - 2 * v) = 2 * (t * (u - v)) := by rw [← Int.mul_sub, Int.mul_left_comm]
  have e2 : (2 * t + 1) * (u - v) = 2 * (t * (u - v)) + (u - v) := by rw [Int.add_mul, Int.mul_assoc, Int.one_mul]
  omega

theorem pow_cancel {n : Int} (ho : n % 2 = 1) : ∀ (j : Nat) {u v : Int}, (2 ^ j * u) % n = (2 ^ j * v) % n → u % n = v % n
  | 0, u, v, h => by simpa using h
  | j + 1, u, v, h => by
    rw [Int.pow_succ, Int.mul_comm (2 ^ j) 2, Int.mul_assoc, Int.mul_assoc] at h
    exact pow_cancel ho j (two_cancel ho h)

theorem RingOk.oddN {zs qs : List Int} {f : Int} (h : RingOk zs f qs) : val 18446744073709551616 zs % 2 = 1 := by
  have h1 := h.odd
  have h2 := h.len
  cases zs with
  | nil => simp at h2
  | cons x r => simp [val] at h1 ⊢; omega

theorem Red.unique {zs : List Int} {v : Int} {ls ks : List Int} (ho : val 18446744073709551616 zs % 2 = 1) (h : Red zs v ls) (h' : Red zs v ks) : ls = ks := by
  obtain ⟨d1, t1, l1, e1⟩ := h
  obtain ⟨d2, t2, l2, e2⟩ := h'
  refine val_inj (by decide) d1 d2 t1 t2 ?_
  have n1 := val_nonneg (B := 18446744073709551616) (by decide) d1
  have n2 := val_nonneg (B := 18446744073709551616) (by decide) d2
  have e3 := e1.trans e2.symm
  rw [pow64] at e3
  have e4 := pow_cancel ho _ e3
  rw [Int.emod_eq_of_lt n1 l1, Int.emod_eq_of_lt n2 l2] at e4
  exact e4

theorem Red.mod {zs : List Int} {v u : Int} {ls : List Int} (h : Red zs v ls) (e : v % val 18446744073709551616 zs = u % val 18446744073709551616 zs) : Red zs u ls := ⟨h.1, h.2.1, h.2.2.1, h.2.2.2.trans e⟩

/-- What a ring's call tells: the error 1, where an argument may not be or is not below the modulus. -/
def ResRing (ok : Bool) (zs : List Int) (v : Int) (ls : List Int) (err : Int) : Prop := if ok = true then err = 0 ∧ Red zs v ls else err = 1 ∧ ls = []

theorem ResRing.bad (zs : List Int) (v : Int) : ResRing false zs v [] 1 := by simp [ResRing]
theorem ResRing.ok {zs : List Int} {v : Int} {ls : List Int} (h : Red zs v ls) : ResRing true zs v ls 0 := by simp [ResRing, h]
theorem ResRing.unique {ok : Bool} {zs : List Int} {v : Int} {ls ks : List Int} {e f : Int} (ho : val 18446744073709551616 zs % 2 = 1) (h : ResRing ok zs v ls e) (h' : ResRing ok zs v ks f) : ls = ks ∧ e = f := by
  cases ok with
  | false => simp [ResRing] at h h'; exact ⟨h.2.trans h'.2.symm, h.1.trans h'.1.symm⟩
  | true => simp [ResRing] at h h'; exact ⟨h.2.unique ho h'.2, h.1.trans h'.1.symm⟩

theorem below_parts {xs zs : List Int} (h : belowB xs zs = true) : rightB xs = true ∧ val 18446744073709551616 xs < val 18446744073709551616 zs := by simpa [belowB] using h
theorem below_mk {xs zs : List Int} (h : rightB xs = true) (h' : val 18446744073709551616 xs < val 18446744073709551616 zs) : belowB xs zs = true := by simp [belowB, h, h']

theorem RingOk.sqB {zs qs : List Int} {f : Int} (h : RingOk zs f qs) (hd : Digs 18446744073709551616 zs) (hq : Digs 18446744073709551616 qs) : belowB qs zs = true := by
  have h1 : val 18446744073709551616 qs < val 18446744073709551616 zs := by rw [h.sq]; exact Int.emod_lt_of_pos _ (by have := h.three; omega)
  refine below_mk (right_mk ?_ h.top) h1
  have := len_le (B := 18446744073709551616) (by decide) hq h.top (k := 8) (by
    have := val_lt_pow (B := 18446744073709551616) (by decide) hd h.len.2
    omega)
  omega

theorem prod_bd {xs ys zs : List Int} {k : Nat} (hx : Digs 18446744073709551616 xs) (hy : Digs 18446744073709551616 ys) (hz : Digs 18446744073709551616 zs) (hk : zs.length = k) (h8 : k ≤ 8) (h1 : val 18446744073709551616 xs < val 18446744073709551616 zs) (h2 : val 18446744073709551616 ys < val 18446744073709551616 zs) :
    val 18446744073709551616 xs * val 18446744073709551616 ys < val 18446744073709551616 zs * 18446744073709551616 ^ k ∧ val 18446744073709551616 xs * val 18446744073709551616 ys < 18446744073709551616 ^ 64 := by
  have nx := val_nonneg (B := 18446744073709551616) (by decide) hx
  have ny := val_nonneg (B := 18446744073709551616) (by decide) hy
  have lz := val_lt (B := 18446744073709551616) (by decide) hz
  rw [hk] at lz
  have pk := pow_pos' (B := 18446744073709551616) (by decide) k
  generalize val 18446744073709551616 xs = x at *
  generalize val 18446744073709551616 ys = y at *
  generalize val 18446744073709551616 zs = z at *
  have a1 : x * y ≤ z * y := Int.mul_le_mul_of_nonneg_right (by omega) ny
  have a2 : z * y < z * 18446744073709551616 ^ k := Int.mul_lt_mul_of_pos_left (by omega) (by omega)
  have a3 : z * 18446744073709551616 ^ k ≤ 18446744073709551616 ^ k * 18446744073709551616 ^ k := Int.mul_le_mul_of_nonneg_right (by omega) (by omega)
  rw [← Int.pow_add] at a3
  have a4 := pow_mono (B := 18446744073709551616) (by decide) (show k + k ≤ 16 by omega)
  have a5 : (18446744073709551616 : Int) ^ 16 < 18446744073709551616 ^ 64 := by decide
  omega

set_option maxHeartbeats 800000 in
theorem mprod_any (p : Option Addr) (zs : List Int) (f : Int) (qs : List Int) (a b : Option Addr) (la ca lb cb : Nat) (xs ys : List Int) (w : World) (h : RingAt w p zs f qs) (hR : RingOk zs f qs) (ha : Nums w a la ca xs) (hb : Nums w b lb cb ys) (hx : belowB xs zs = true) (hy : belowB ys zs = true) :
    Calls Try.prog 32 #[.pointer p, .slice a la ca, .slice b lb cb] w fun e w' => ∃ a' n c' ls, e = .returned (.slice a' n c') ∧ Nums w' a' n c' ls ∧ Red zs (val 18446744073709551616 xs * val 18446744073709551616 ys) ls ∧ Below w.heap.size w w' := by
  obtain ⟨hx1, hx2⟩ := below_parts hx
  obtain ⟨hy1, hy2⟩ := below_parts hy
  have hzd : Digs 18446744073709551616 zs := by obtain ⟨g, na, n, nc, q, m, cq, -, -, -, -, hn, -⟩ := h; exact hn.digs
  have HB := (show Hid _ from prod_bd ha.digs hb.digs hzd rfl hR.len.2 hx2 hy2)
  clear hx2 hy2 hx hy
  go_enter Try.func32, Try.ntmps32
  go_wp2_with fail
  refine (mul_any _ _ _ _ _ _ _ _ _ ha hb).mono ?_
  rintro e w1 ⟨a1, k1, c1, ps, e1, rfl, hp, hres, -, hb1⟩
  have hq : Digs 18446744073709551616 ps ∧ rightB ps = true ∧ val 18446744073709551616 ps = val 18446744073709551616 xs * val 18446744073709551616 ys := by
    unfold Res2 at hres
    rw [hx1, hy1, if_pos (show (true && true) = true from rfl)] at hres
    exact (res_fits hres HB.out.2).2
  have HV : Hid (val 18446744073709551616 ps = val 18446744073709551616 xs * val 18446744073709551616 ys) := hq.2.2
  have hpr := hq.2.1
  clear hres hq
  go_wp2_with fail
  refine (reduced_any _ _ _ _ _ _ _ _ _ (h.below hb1) hR hp hpr (by rw [HV.out]; exact HB.out.1)).mono ?_
  rintro e w2 ⟨a2, k2, c2, ls, rfl, hl, hred, hb2⟩
  have HQ : Hid (Red zs (val 18446744073709551616 xs * val 18446744073709551616 ys) ls) := by have := hred; rw [HV.out] at this; exact this
  have hB := hb1.trans (hb2.mono hb1.size)
  clear hred
  go_wp2_with fail
  go_ret
  exact ⟨_, _, _, _, rfl, hl, HQ.out, hB⟩



end Go.Proofs.Ytnioobiodiofiab
