/-
  The contract of the document's Mul.
-/
import Derived.Test.YtaipkganijofjabRefMul
import Derived.Test.YtaipkganijofjabOut
namespace Go.Proofs.Ytaipkganijofjab
open Go.RowKit

set_option maxHeartbeats 400000 in
theorem refMul_any (a b : Option Addr) (la ca lb cb : Nat) (zs ys : List Int) (w : World) (h : Nums w a la ca zs) (h' : Nums w b lb cb ys) :
    Calls Try.prog 21 #[.slice a la ca, .slice b lb cb] w fun e w' => ∃ a' n cap' ls err, e = .returned (.tuple #[.slice a' n cap', .int .i64 err]) ∧ Nums w' a' n cap' ls ∧
      Res2 zs ys (val 18446744073709551616 zs * val 18446744073709551616 ys) ls err ∧ Below w.heap.size w w' := by
  cases hr : rightB zs with
  | false =>
    go_enter Try.func21, Try.ntmps21
    go_wp2_with fail
    refine (refRight_any _ _ _ _ _ h).mono ?_
    rintro e w' ⟨rfl, rfl⟩
    go_wp2_with fail
    refine (refRight_any _ _ _ _ _ h').mono ?_
    rintro e w' ⟨rfl, rfl⟩
    go_wp2_with fail
    go_ret2
    exact ⟨none, 0, 0, [], 1, rfl, Nums.nil _, by simp [Res2, hr], Below.refl _ _⟩
  | true =>
  cases hr' : rightB ys with
  | false =>
    go_enter Try.func21, Try.ntmps21
    go_wp2_with fail
    refine (refRight_any _ _ _ _ _ h).mono ?_
    rintro e w' ⟨rfl, rfl⟩
    go_wp2_with fail
    refine (refRight_any _ _ _ _ _ h').mono ?_
    rintro e w' ⟨rfl, rfl⟩
    go_wp2_with fail
    go_ret2
    exact ⟨none, 0, 0, [], 1, rfl, Nums.nil _, by simp [Res2, hr'], Below.refl _ _⟩
  | true =>
    have hla : la ≤ 64 := by have := right_len hr; have := h.hlen; omega
    have hlb : lb ≤ 64 := by have := right_len hr'; have := h'.hlen; omega
    have hzd := h.digs
    have hyd := h'.digs
    have hzl := right_len hr
    have hyl := right_len hr'
    go_enter Try.func21, Try.ntmps21
    go_wp2_with fail
    refine (refRight_any _ _ _ _ _ h).mono ?_
    rintro e w' ⟨rfl, rfl⟩
    go_wp2_with fail
    refine (refRight_any _ _ _ _ _ h').mono ?_
    rintro e w0 ⟨rfl, rfl⟩
    go_wp2_with fail
    refine (in_any _ _ _ _ _ h (by omega)).mono ?_
    rintro e w1 ⟨a1, n1, c1, ds, rfl, hn1, hd1, ht1, hv1, hb1⟩
    have hl1 := in_len hd1 ht1 hv1 hzd hzl
    have hl1' : n1 ≤ 256 := by have := hn1.hlen; omega
    have HV1 : Hid (val 65536 ds = val 18446744073709551616 zs) := hv1
    clear hv1 hl1
    go_wp2_with fail
    refine (in_any _ _ _ _ _ (h'.below hb1) (by omega)).mono ?_
    rintro e w2 ⟨a2, n2, c2, es, rfl, hn2, hd2, ht2, hv2, hb2⟩
    have hl2 := in_len hd2 ht2 hv2 hyd hyl
    have hl2' : n2 ≤ 256 := by have := hn2.hlen; omega
    have HV2 : Hid (val 65536 es = val 18446744073709551616 ys) := hv2
    clear hv2 hl2
    have hb12 := hb1.trans (hb2.mono hb1.size)
    go_wp2_with fail
    refine (rmul_any _ _ _ _ _ _ _ _ _ (hn1.below hb2) hn2 hd1 hd2 (by omega) (by omega)).mono ?_
    rintro e w3 ⟨a3, n3, c3, fs, rfl, hn3, hd3, ht3, hl3, hv3, hb3⟩
    have HV3 : Hid (val 65536 fs = val 65536 ds * val 65536 es) := hv3
    clear hv3
    have hb13 := hb12.trans (hb3.mono hb12.size)
    go_wp2_with fail
    refine (told_any _ _ _ _ _ hn3 hd3 ht3 (by omega)).mono ?_
    rintro e w4 ⟨a4, n4, c4, ls, err, rfl, hn4, hres, hb4⟩
    rw [HV3.out, HV1.out, HV2.out] at hres
    have HR : Hid (Res (val 18446744073709551616 zs * val 18446744073709551616 ys) ls err) := hres
    clear hres
    have hb14 := hb13.trans (hb4.mono hb13.size)
    go_wp2_with fail
    go_ret2
    exact ⟨_, _, _, _, _, rfl, hn4, by simp only [Res2, hr, hr']; exact HR.out, hb14⟩
end Go.Proofs.Ytaipkganijofjab
