/-
  Contracts of the document's answers for layer 2: Below, Rest, Times, In, half, Out, Mul.
-/
import Derived.Test.YtnioobiodiofiabMOps
import Derived.Test.YtnioobiodiofiabMFresh
import Derived.Test.YtnioobiodiofiabRefDivA
import Derived.Test.YtnioobiodiofiabRefMulA
import Derived.Test.YtnioobiodiofiabOut
import Derived.Test.YtnioobiodiofiabRefCmp
namespace Go.Proofs.Ytnioobiodiofiab
open Go.RowKit


set_option maxHeartbeats 800000 in
theorem rest_any (a b : Option Addr) (la ca lb cb : Nat) (xs zs : List Int) (w : World) (ha : Nums w a la ca xs) (hb : Nums w b lb cb zs) (hx : rightB xs = true) (hz : rightB zs = true) (h0 : zs.length ≠ 0) :
    Calls Try.prog 35 #[.slice a la ca, .slice b lb cb] w fun e w' => ∃ a' n c' ls, e = .returned (.slice a' n c') ∧ Nums w' a' n c' ls ∧ rightB ls = true ∧ val 18446744073709551616 ls = val 18446744073709551616 xs % val 18446744073709551616 zs ∧ Below w.heap.size w w' := by
  go_enter Try.func35, Try.ntmps35
  go_wp2_with fail
  refine (refDiv_any _ _ _ _ _ _ _ _ _ ha hb).mono ?_
  rintro e w1 ⟨qa, qn, qc, qs, ra, rn, rc, rs, re, rfl, hq, hrs, hdr, hb1⟩
  have HQ : Hid (rightB rs = true ∧ val 18446744073709551616 rs = val 18446744073709551616 xs % val 18446744073709551616 zs) := by
    unfold ResDiv at hdr
    rw [hx, hz, if_pos (show (true && true) = true from rfl), if_neg h0] at hdr
    obtain ⟨_, d1, d2, d3, d4, d5, d6⟩ := hdr
    exact ⟨d4, d6⟩
  clear hdr hq
  go_wp2_with fail
  go_ret
  exact ⟨_, _, _, _, rfl, hrs, HQ.out.1, HQ.out.2, hb1⟩

/-- What a modulus is, as its laws need it. -/
structure ModOk (zs : List Int) : Prop where
  right : rightB zs = true
  len : 0 < zs.length ∧ zs.length ≤ 8
  odd : val 18446744073709551616 zs % 2 = 1
  three : 3 ≤ val 18446744073709551616 zs

theorem RingOk.modOk {zs qs : List Int} {f : Int} (h : RingOk zs f qs) : ModOk zs := ⟨h.right, h.len, h.oddN, h.three⟩

set_option maxHeartbeats 800000 in
theorem mtimes_any (a b c : Option Addr) (la ca lb cb lc cc : Nat) (xs ys zs : List Int) (w : World) (ha : Nums w a la ca xs) (hb : Nums w b lb cb ys) (hc : Nums w c lc cc zs) (hm : ModOk zs) (hx : belowB xs zs = true) (hy : belowB ys zs = true) :
    Calls Try.prog 12 #[.slice a la ca, .slice b lb cb, .slice c lc cc] w fun e w' => ∃ a' n c' ls, e = .returned (.slice a' n c') ∧ Nums w' a' n c' ls ∧ belowB ls zs = true ∧ val 18446744073709551616 ls = (val 18446744073709551616 xs * val 18446744073709551616 ys) % val 18446744073709551616 zs ∧ Below w.heap.size w w' := by
  obtain ⟨hx1, hx2⟩ := below_parts hx
  obtain ⟨hy1, hy2⟩ := below_parts hy
  have HB := (show Hid _ from prod_bd ha.digs hb.digs hc.digs rfl hm.len.2 hx2 hy2)
  have h0 : zs.length ≠ 0 := by have := hm.len; omega
  clear hx2 hy2 hx hy
  go_enter Try.func12, Try.ntmps12
  go_wp2_with fail
  refine (refMul_any _ _ _ _ _ _ _ _ _ ha hb).mono ?_
  rintro e w1 ⟨a1, k1, c1, ps, e1, rfl, hp, hres, hb1⟩
  have hq : Digs 18446744073709551616 ps ∧ rightB ps = true ∧ val 18446744073709551616 ps = val 18446744073709551616 xs * val 18446744073709551616 ys := by
    unfold Res2 at hres
    rw [hx1, hy1, if_pos (show (true && true) = true from rfl)] at hres
    exact (res_fits hres HB.out.2).2
  have HV : Hid (val 18446744073709551616 ps = val 18446744073709551616 xs * val 18446744073709551616 ys) := hq.2.2
  have hpr := hq.2.1
  clear hres hq
  go_wp2_with fail
  refine (rest_any _ _ _ _ _ _ _ _ _ hp (hc.below hb1) hpr hm.right h0).mono ?_
  rintro e w2 ⟨a2, k2, c2, ls, rfl, hl, hlr, hlv, hb2⟩
  have HQ : Hid (belowB ls zs = true ∧ val 18446744073709551616 ls = (val 18446744073709551616 xs * val 18446744073709551616 ys) % val 18446744073709551616 zs) := by
    have e : val 18446744073709551616 ls = (val 18446744073709551616 xs * val 18446744073709551616 ys) % val 18446744073709551616 zs := by rw [hlv, HV.out]
    refine ⟨below_mk hlr ?_, e⟩
    rw [e]
    exact Int.emod_lt_of_pos _ (by have := hm.three; omega)
  have hB := hb1.trans (hb2.mono hb1.size)
  clear hlv hlr
  go_wp2_with fail
  go_ret
  exact ⟨_, _, _, _, rfl, hl, HQ.out.1, HQ.out.2, hB⟩




theorem Red.belowB {zs : List Int} {v : Int} {ls : List Int} (h : Red zs v ls) (hm : ModOk zs) (hd : Digs 18446744073709551616 zs) : belowB ls zs = true := by
  refine below_mk (right_mk ?_ h.2.1) h.2.2.1
  have := len_le (B := 18446744073709551616) (by decide) h.1 h.2.1 (k := 8) (by
    have := val_lt_pow (B := 18446744073709551616) (by decide) hd hm.len.2
    have := h.2.2.1
    omega)
  omega

theorem red_in {zs ls : List Int} {a : Int} (hm : ModOk zs) (h : Red zs (a * (18446744073709551616 ^ zs.length * 18446744073709551616 ^ zs.length)) ls) : val 18446744073709551616 ls % val 18446744073709551616 zs = (a * 18446744073709551616 ^ zs.length) % val 18446744073709551616 zs := by
  have e := h.2.2.2
  rw [← Int.mul_assoc, Int.mul_comm (a * _)] at e
  rw [pow64] at e ⊢
  exact pow_cancel hm.odd _ e

theorem red_prod {zs ps : List Int} {x y a b : Int} (hm : ModOk zs) (h : Red zs (x * y) ps) (hx : x % val 18446744073709551616 zs = (a * 18446744073709551616 ^ zs.length) % val 18446744073709551616 zs) (hy : y % val 18446744073709551616 zs = (b * 18446744073709551616 ^ zs.length) % val 18446744073709551616 zs) :
    val 18446744073709551616 ps % val 18446744073709551616 zs = (a * b * 18446744073709551616 ^ zs.length) % val 18446744073709551616 zs := by
  have e := h.2.2.2
  rw [Int.mul_emod x y, hx, hy, ← Int.mul_emod] at e
  have e2 : a * 18446744073709551616 ^ zs.length * (b * 18446744073709551616 ^ zs.length) = 18446744073709551616 ^ zs.length * (a * b * 18446744073709551616 ^ zs.length) := by
    generalize (18446744073709551616 : Int) ^ zs.length = r
    rw [Int.mul_comm a r, Int.mul_assoc, Int.mul_assoc]
  rw [e2, pow64] at e
  rw [pow64]
  exact pow_cancel hm.odd _ e

/-- What comes back out of the form is the number whose rest went in. -/
theorem red_out {zs ls ks : List Int} {x a : Int} (hm : ModOk zs) (h : Red zs x ls) (hx : x % val 18446744073709551616 zs = (a * 18446744073709551616 ^ zs.length) % val 18446744073709551616 zs) (hd : Digs 18446744073709551616 ks) (ha : belowB ks zs = true) (hv : val 18446744073709551616 ks = a % val 18446744073709551616 zs) : ls = ks := by
  refine h.unique hm.odd ⟨hd, right_top (below_parts ha).1, (below_parts ha).2, ?_⟩
  rw [hv, hx, Int.mul_emod, Int.emod_emod, ← Int.mul_emod, Int.mul_comm]
end Go.Proofs.Ytnioobiodiofiab
