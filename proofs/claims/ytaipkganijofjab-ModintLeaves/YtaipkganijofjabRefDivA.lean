/-
  The contract of the document's own division of two numbers.
-/
import Derived.Test.YtaipkganijofjabRefDiv
namespace Go.Proofs.Ytaipkganijofjab
open Go.RowKit

set_option maxHeartbeats 800000 in
theorem refDiv_any (a b : Option Addr) (la ca lb cb : Nat) (zs ys : List Int) (w : World) (h : Nums w a la ca zs) (h' : Nums w b lb cb ys) :
    Calls Try.prog 35 #[.slice a la ca, .slice b lb cb] w fun e w' => ∃ a1 k1 c1 qs a2 k2 c2 rs err, e = .returned (.tuple #[.slice a1 k1 c1, .slice a2 k2 c2, .int .i64 err]) ∧ Nums w' a1 k1 c1 qs ∧ Nums w' a2 k2 c2 rs ∧
      ResDiv zs ys qs rs err ∧ Below w.heap.size w w' := by
  cases hr : rightB zs with
  | false =>
    go_enter Try.func35, Try.ntmps35
    go_wp2_with fail
    refine (refRight_any _ _ _ _ _ h).mono ?_
    rintro e w' ⟨rfl, rfl⟩
    go_wp2_with fail
    refine (refRight_any _ _ _ _ _ h').mono ?_
    rintro e w0 ⟨rfl, rfl⟩
    go_wp2_with fail
    go_ret3
    exact ⟨none, 0, 0, [], none, 0, 0, [], 1, rfl, Nums.nil _, Nums.nil _, by simp [ResDiv, hr], Below.refl _ _⟩
  | true =>
  cases hr' : rightB ys with
  | false =>
    go_enter Try.func35, Try.ntmps35
    go_wp2_with fail
    refine (refRight_any _ _ _ _ _ h).mono ?_
    rintro e w' ⟨rfl, rfl⟩
    go_wp2_with fail
    refine (refRight_any _ _ _ _ _ h').mono ?_
    rintro e w0 ⟨rfl, rfl⟩
    go_wp2_with fail
    go_ret3
    exact ⟨none, 0, 0, [], none, 0, 0, [], 1, rfl, Nums.nil _, Nums.nil _, by simp [ResDiv, hr'], Below.refl _ _⟩
  | true =>
  have hyl' := h'.hlen
  by_cases h0 : lb = 0
  · subst h0
    have HP : Hid (ResDiv zs ys [] [] 3) := (show ResDiv zs ys [] [] 3 by simp [ResDiv, hr, hr', hyl'])
    clear hyl'
    go_enter Try.func35, Try.ntmps35
    go_wp2_with fail
    refine (refRight_any _ _ _ _ _ h).mono ?_
    rintro e w' ⟨rfl, rfl⟩
    go_wp2_with fail
    refine (refRight_any _ _ _ _ _ h').mono ?_
    rintro e w0 ⟨rfl, rfl⟩
    go_wp2_with fail
    go_ret3
    exact ⟨none, 0, 0, [], none, 0, 0, [], 3, rfl, Nums.nil _, Nums.nil _, HP.out, Below.refl _ _⟩
  · have hla : la ≤ 64 := by have := right_len hr; have := h.hlen; omega
    have hlb : lb ≤ 64 := by have := right_len hr'; have := h'.hlen; omega
    have hzd := h.digs
    have hyd := h'.digs
    have hzl := right_len hr
    have hyl := right_len hr'
    have hb0 : ((lb : Int) == 0) = false := by simp; omega
    have HMK : Hid (∀ qs rs : List Int, Digs 18446744073709551616 qs → Digs 18446744073709551616 rs → Top qs → Top rs → val 18446744073709551616 zs = val 18446744073709551616 qs * val 18446744073709551616 ys + val 18446744073709551616 rs → val 18446744073709551616 rs < val 18446744073709551616 ys → ResDiv zs ys qs rs 0) :=
      fun qs rs => resdiv_mk hzd hyd hr hr' (by omega)
    have HP : Hid (0 < val 18446744073709551616 ys) := right_pos hyd hr' (by omega)
    clear hyl' h0
    go_enter Try.func35, Try.ntmps35
    go_wp2_with fail
    refine (refRight_any _ _ _ _ _ h).mono ?_
    rintro e w' ⟨rfl, rfl⟩
    go_wp2_with fail
    refine (refRight_any _ _ _ _ _ h').mono ?_
    rintro e w0 ⟨rfl, rfl⟩
    go_wp2_with fail
    refine (in_any _ _ _ _ _ h (by omega)).mono ?_
    rintro e w1 ⟨a1, n1, c1, ds, rfl, hn1, hd1, ht1, hv1, hb1⟩
    have hl1 := in_len hd1 ht1 hv1 hzd hzl
    have hl1' : n1 ≤ 256 := by have := hn1.hlen; omega
    have HV1 : Hid (val 65536 ds = val 18446744073709551616 zs) := hv1
    clear hv1 hl1
    go_wp2_with fail
    refine (in_any _ _ _ _ _ (h'.below hb1) (by omega)).mono ?_
    rintro e w2 ⟨a2, n2, c2, es, rfl, hn2, hd2, ht2, hv2, hb2⟩
    have hl2 := in_len hd2 ht2 hv2 hyd hyl
    have hl2' : n2 ≤ 256 := by have := hn2.hlen; omega
    have HV2 : Hid (val 65536 es = val 18446744073709551616 ys) := hv2
    clear hv2 hl2
    have hb12 := hb1.trans (hb2.mono hb1.size)
    go_wp2_with fail
    refine (rdiv_any _ _ _ _ _ _ _ _ _ (hn1.below hb2) hn2 hd1 hd2 (by rw [HV2.out]; exact HP.out) (by omega) (by omega)).mono ?_
    rintro e w3 ⟨a3, n3, c3, qs, a4, n4, c4, rs, rfl, hq, hrn, hz, hb3⟩
    have hb13 := hb12.trans (hb3.mono hb12.size)
    have hn3' : n3 ≤ 256 := by have := hz.2.2.2.2.1; omega
    have hn4' : n4 ≤ 256 := by have := hz.2.2.2.2.2.1; omega
    have HZ : Hid (Digs 65536 qs ∧ Top qs ∧ Digs 65536 rs ∧ Top rs ∧ val 65536 ds = val 65536 qs * val 65536 es + val 65536 rs ∧ val 65536 rs < val 65536 es) := ⟨hz.1, hz.2.1, hz.2.2.1, hz.2.2.2.1, hz.2.2.2.2.2.2.1, hz.2.2.2.2.2.2.2⟩
    clear hz hb1 hb2 hb12 hb3 hn1 hn2
    go_wp2_with fail
    refine (out_any _ _ _ _ _ hq HZ.out.1 HZ.out.2.1 (by omega)).mono ?_
    rintro e w4 ⟨a5, n5, c5, us, rfl, hn5, hd5, ht5, hv5, hb4⟩
    have hb14 := hb13.trans (hb4.mono hb13.size)
    have hr4 := hrn.below hb4
    clear hb13 hb4 hrn hq
    go_wp2_with fail
    refine (out_any _ _ _ _ _ hr4 HZ.out.2.2.1 HZ.out.2.2.2.1 (by omega)).mono ?_
    rintro e w5 ⟨a6, n6, c6, vs', rfl, hn6, hd6, ht6, hv6, hb5⟩
    have hb15 := hb14.trans (hb5.mono hb14.size)
    have hn5' := hn5.below hb5
    have HR : Hid (ResDiv zs ys us vs' 0) := HMK.out us vs' hd5 hd6 ht5 ht6 (by rw [← HV1.out, ← HV2.out, hv5, hv6]; exact HZ.out.2.2.2.2.1) (by rw [← HV2.out, hv6]; exact HZ.out.2.2.2.2.2)
    clear hv5 hv6 hb14 hb5 hr4 hn5
    go_wp2_with fail
    go_ret3
    exact ⟨_, _, _, _, _, _, _, _, _, rfl, hn5', hn6, HR.out, hb15⟩
end Go.Proofs.Ytaipkganijofjab
