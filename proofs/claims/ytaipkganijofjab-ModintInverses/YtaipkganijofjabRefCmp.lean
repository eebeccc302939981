/-
  The contract of the document's Cmp: it tells what nat.Cmp tells.
-/
import Derived.Test.YtaipkganijofjabIn
namespace Go.Proofs.Ytaipkganijofjab
open Go.RowKit

set_option maxHeartbeats 800000 in
theorem refCmp_any (a b : Option Addr) (la ca lb cb : Nat) (zs ys : List Int) (w : World) (h : Nums w a la ca zs) (h' : Nums w b lb cb ys) :
    Calls Try.prog 19 #[.slice a la ca, .slice b lb cb] w fun e w' => e = .returned (.int .i64 (cmpN zs ys)) ∧ Below w.heap.size w w' := by
  cases hr : rightB zs with
  | false =>
    have e1 : cmpN zs ys = 0 := by simp [cmpN, hr]
    rw [e1]
    go_enter Try.func19, Try.ntmps19
    go_wp2_with fail
    refine (refRight_any _ _ _ _ _ h).mono ?_
    rintro e w' ⟨rfl, rfl⟩
    go_wp2_with fail
    refine (refRight_any _ _ _ _ _ h').mono ?_
    rintro e w' ⟨rfl, rfl⟩
    go_wp2_with fail
    go_ret
    exact ⟨rfl, Below.refl _ _⟩
  | true =>
  cases hr' : rightB ys with
  | false =>
    have e1 : cmpN zs ys = 0 := by simp [cmpN, hr']
    rw [e1]
    go_enter Try.func19, Try.ntmps19
    go_wp2_with fail
    refine (refRight_any _ _ _ _ _ h).mono ?_
    rintro e w' ⟨rfl, rfl⟩
    go_wp2_with fail
    refine (refRight_any _ _ _ _ _ h').mono ?_
    rintro e w' ⟨rfl, rfl⟩
    go_wp2_with fail
    go_ret
    exact ⟨rfl, Below.refl _ _⟩
  | true =>
  have e1 : cmpN zs ys = cmpZ (val 18446744073709551616 zs) (val 18446744073709551616 ys) := by simp [cmpN, hr, hr']
  rw [e1]
  have hla : la ≤ 1000 := by have := right_len hr; have := h.hlen; omega
  have hlb : lb ≤ 1000 := by have := right_len hr'; have := h'.hlen; omega
  clear e1
  go_enter Try.func19, Try.ntmps19
  go_wp2_with fail
  refine (refRight_any _ _ _ _ _ h).mono ?_
  rintro e w' ⟨rfl, rfl⟩
  go_wp2_with fail
  refine (refRight_any _ _ _ _ _ h').mono ?_
  rintro e w0 ⟨rfl, rfl⟩
  go_wp2_with fail
  refine (in_any _ _ _ _ _ h hla).mono ?_
  rintro e w1 ⟨a1, n1, c1, ds, rfl, hn1, hd1, ht1, hv1, hb1⟩
  have HV1 := (show Hid _ from hv1)
  clear hv1
  go_wp2_with fail
  refine (in_any _ _ _ _ _ (h'.below hb1) hlb).mono ?_
  rintro e w2 ⟨a2, n2, c2, es, rfl, hn2, hd2, ht2, hv2, hb2⟩
  have HV2 := (show Hid _ from hv2)
  clear hv2
  go_wp2_with fail
  refine (compare_any 65536 (by decide) _ _ _ _ _ _ _ _ _ (hn1.below hb2) hn2 hd1 hd2 ht1 ht2).mono ?_
  rintro e w3 ⟨rfl, hb3⟩
  have hb12 := hb1.trans (hb2.mono hb1.size)
  have hb13 := hb12.trans (hb3.mono hb12.size)
  go_wp2_with fail
  go_ret
  exact ⟨ret_int (by rw [HV1.out, HV2.out]), hb13⟩
end Go.Proofs.Ytaipkganijofjab
