/-
  Contracts of the document's sub and Sub.
-/
import Derived.Test.YtaipkganijofjabSub
import Derived.Test.YtaipkganijofjabOut
namespace Go.Proofs.Ytaipkganijofjab
open Go.RowKit

theorem rsub_step {os : List Int} {zs ys : List Int} {k : Nat} {bw x y : Int} (hol : os.length = k) (hod : Digs 65536 os) (hzd : Digs 65536 zs) (hyd : Digs 65536 ys) (hb : 0 ≤ bw ∧ bw ≤ 1)
    (hv : val 65536 os - 65536 ^ k * bw = vs 65536 (fun i => zs.getD i 0) k - vs 65536 (fun i => ys.getD i 0) k) (hx : x = zs.getD k 0) (hy : y = ys.getD k 0) :
    (os ++ [(65536 + x - y - bw) % 65536]).length = k + 1 ∧ Digs 65536 (os ++ [(65536 + x - y - bw) % 65536]) ∧ (0 ≤ 1 - (65536 + x - y - bw) / 65536 ∧ 1 - (65536 + x - y - bw) / 65536 ≤ 1) ∧
    val 65536 (os ++ [(65536 + x - y - bw) % 65536]) - 65536 ^ (k + 1) * (1 - (65536 + x - y - bw) / 65536) = vs 65536 (fun i => zs.getD i 0) (k + 1) - vs 65536 (fun i => ys.getD i 0) (k + 1) := by
  have bx : 0 ≤ x ∧ x < 65536 := by rw [hx]; exact hzd.getD (by decide) _
  have by' : 0 ≤ y ∧ y < 65536 := by rw [hy]; exact hyd.getD (by decide) _
  refine ⟨by simp [hol], hod.snoc ⟨by omega, by omega⟩, ⟨by omega, by omega⟩, ?_⟩
  simp only [vs]
  rw [val_snoc, hol, ← hx, ← hy, Int.pow_succ, Int.mul_assoc]
  generalize (65536 : Int) ^ k = P at hv ⊢
  have e0 : (65536 + x - y - bw) % 65536 - 65536 * (1 - (65536 + x - y - bw) / 65536) = x - y - bw := by omega
  generalize (65536 + x - y - bw) % 65536 = r at e0 ⊢
  generalize 1 - (65536 + x - y - bw) / 65536 = t at e0 ⊢
  have e : P * r - P * (65536 * t) = P * x - P * y - P * bw := by rw [← Int.mul_sub, e0, Int.mul_sub, Int.mul_sub]
  omega

set_option maxHeartbeats 800000 in
theorem rsub_any (a b : Option Addr) (la ca lb cb : Nat) (zs ys : List Int) (w : World) (h : Nums w a la ca zs) (h' : Nums w b lb cb ys) (dz : Digs 65536 zs) (dy : Digs 65536 ys) (ty : Top ys) (hge : val 65536 ys ≤ val 65536 zs) (hla : la ≤ 100000) :
    Calls Try.prog 92 #[.slice a la ca, .slice b lb cb] w fun e w' => ∃ a' n cap' ds, e = .returned (.slice a' n cap') ∧ Nums w' a' n cap' ds ∧ Digs 65536 ds ∧ Top ds ∧ n ≤ la ∧
      (a' = none → cap' = 0) ∧ val 65536 ds = val 65536 zs - val 65536 ys ∧ Below w.heap.size w w' := by
  have HL : Hid (zs.length = la ∧ ys.length = lb) := ⟨h.hlen, h'.hlen⟩
  have HG : Hid (val 65536 ys ≤ val 65536 zs) := hge
  clear hge
  go_enter Try.func92, Try.ntmps92
  go_wp2
  go_loopw [5, 6, 7] (fun v cv i wr => ∃ k : Nat, k ≤ la ∧ i = .int .i64 k ∧ ∃ os bw, cv = .int .u64 bw ∧ Own wr w.heap.size v os ∧ os.length = k ∧ Digs 65536 os ∧ (0 ≤ bw ∧ bw ≤ 1) ∧
      val 65536 os - 65536 ^ k * bw = vs 65536 (fun i => zs.getD i 0) k - vs 65536 (fun i => ys.getD i 0) k ∧ Below w.heap.size w wr) (fun _ _ i _ => la - (intOf i).toNat)
  case atStart => exact ⟨0, Nat.zero_le _, rfl, [], 0, rfl, Own.nil _ _, rfl, Digs.nil _, by omega, by simp [vs, val], Below.refl _ _⟩
  case round =>
    obtain ⟨k, hk, rfl, os, bw, rfl, hown, hol, hod, hbw, hv, hb⟩ := hrel
    obtain ⟨x, hx⟩ : ∃ x, x = zs.getD k 0 := ⟨_, rfl⟩
    obtain ⟨y, hy⟩ : ∃ y, y = ys.getD k 0 := ⟨_, rfl⟩
    have bx : 0 ≤ x ∧ x < 65536 := by rw [hx]; exact dz.getD (by decide) _
    have by' : 0 ≤ y ∧ y < 65536 := by rw [hy]; exact dy.getD (by decide) _
    have R := rsub_step hol hod dz dy hbw hv hx hy
    have HR : Hid ((os ++ [(65536 + x - y - bw) % 65536]).length = k + 1 ∧ Digs 65536 (os ++ [(65536 + x - y - bw) % 65536]) ∧ (0 ≤ 1 - (65536 + x - y - bw) / 65536 ∧ 1 - (65536 + x - y - bw) / 65536 ≤ 1) ∧
      val 65536 (os ++ [(65536 + x - y - bw) % 65536]) - 65536 ^ (k + 1) * (1 - (65536 + x - y - bw) / 65536) = vs 65536 (fun i => zs.getD i 0) (k + 1) - vs 65536 (fun i => ys.getD i 0) (k + 1)) := R
    have HX : Hid (x = zs.getD k 0 ∧ y = ys.getD k 0) := ⟨hx, hy⟩
    have HV : Hid (os.length = k ∧ Digs 65536 os ∧ val 65536 os - 65536 ^ k * bw = vs 65536 (fun i => zs.getD i 0) k - vs 65536 (fun i => ys.getD i 0) k) := ⟨hol, hod, hv⟩
    have holb : os.length < 1000000 := by omega
    have hz1 := h.below hb
    have hy1 := h'.below hb
    clear R hx hy hol hod hv
    by_cases hlt1 : k < la
    · have hi1 : (k : Int) < (la : Int) := by omega
      obtain ⟨b1, o1, rfl, hc⟩ := hz1.cells (by omega)
      have c1 : wr.cell? ⟨b1, o1 + k, none⟩ = some (.int .u64 x) := by rw [HX.out.1]; exact hc k hlt1
      clear hc
      have hdg := fun wx (hn : Nums wx b lb cb ys) => digit_any b lb cb ys k wx hn
      rw [← HX.out.2] at hdg
      have HDG : Hid (∀ wx, Nums wx b lb cb ys → Calls Try.prog 99 #[.slice b lb cb, .int .i64 (k : Int)] wx fun e w' => e = .returned (.int .u64 y) ∧ w' = wx) := hdg
      clear hdg
      go_wp2_with fail
      go_quiet ((go_at_call 99; exact Calls.quiet_of_same (HDG.out _ ⟨hy1.hlen, hy1.hcap, hy1.hmax, hy1.cells, hy1.word⟩)))
      have hown1 := hown.drewN nq
      have hb1 := below_drewN hb nq
      generalize wr.drewN nq = w1 at hown1 hb1 ⊢
      clear hown hb c1 hz1 hy1
      go_wp2_with (at_builtin; refine wpList_app1 _ rfl _ _ 62 rfl Try.underlying62 w.heap.size _ os rfl (hown1.alloc _) ⟨w1.heap.size, 0, none⟩ ((65536 + x - y - bw) % 65536) rfl ?c1 holb w ?c2 ?c3 ?_)
      try (case c1 => simp)
      case c2 => have := hb1.size; simp; omega
      case c3 => exact hb1.alloc hb1.size _
      intro v' w2 hown2 hb2
      clear hown1 hb1
      go_wp2
      go_roundw
      case rel => exact ⟨k + 1, by omega, by go_num, _, _, rfl, hown2, HR.out.1, HR.out.2.1, HR.out.2.2.1, HR.out.2.2.2, hb2⟩
      case measure => simp [intOf]; omega
    · obtain rfl : k = la := by omega
      have hfin := sub_end (M := os) (B := 65536) (by decide) dz dy ty HG.out HV.out.2.1 HL.out.1 (by have := HL.out; have := HV.out.1; omega) hbw (by
        simp only [Nat.zero_add]
        rw [vs_all _ os (by have := HV.out.1; omega)]; exact HV.out.2.2)
      have HF : Hid (val 65536 os = val 65536 zs - val 65536 ys) := hfin
      clear hfin
      obtain ⟨a1, n1, cap1, rfl, hnums, hz⟩ := hown.numsZ HV.out.2.1.wide
      clear hown
      go_wp2_with fail
      refine (cut_any _ _ _ _ _ hnums).mono ?_
      rintro e w' ⟨q, rfl, htr, rfl⟩
      have hq : q ≤ n1 := by have := htr.le; have := hnums.hlen; omega
      have hn1 : n1 = k := by have := hnums.hlen; have := HV.out.1; omega
      have HT : Hid (Trim os q ∧ q ≤ k) := ⟨htr, by omega⟩
      clear htr hn1
      go_wp2_with fail
      go_ret
      exact ⟨_, _, _, os.take q, rfl, hnums.take hq, HV.out.2.1.take q, HT.out.1.Top, HT.out.2, hz, by rw [HT.out.1.val]; exact HF.out, hb⟩
set_option maxHeartbeats 400000 in
theorem refSub_any (a b : Option Addr) (la ca lb cb : Nat) (zs ys : List Int) (w : World) (h : Nums w a la ca zs) (h' : Nums w b lb cb ys) :
    Calls Try.prog 69 #[.slice a la ca, .slice b lb cb] w fun e w' => ∃ a' n cap' ls err, e = .returned (.tuple #[.slice a' n cap', .int .i64 err]) ∧ Nums w' a' n cap' ls ∧
      ResSub zs ys ls err ∧ Below w.heap.size w w' := by
  cases hr : rightB zs with
  | false =>
    go_enter Try.func69, Try.ntmps69
    go_wp2_with fail
    refine (refRight_any _ _ _ _ _ h).mono ?_
    rintro e w' ⟨rfl, rfl⟩
    go_wp2_with fail
    refine (refRight_any _ _ _ _ _ h').mono ?_
    rintro e w' ⟨rfl, rfl⟩
    go_wp2_with fail
    go_ret2
    exact ⟨none, 0, 0, [], 1, rfl, Nums.nil _, by simp [ResSub, hr], Below.refl _ _⟩
  | true =>
  cases hr' : rightB ys with
  | false =>
    go_enter Try.func69, Try.ntmps69
    go_wp2_with fail
    refine (refRight_any _ _ _ _ _ h).mono ?_
    rintro e w' ⟨rfl, rfl⟩
    go_wp2_with fail
    refine (refRight_any _ _ _ _ _ h').mono ?_
    rintro e w' ⟨rfl, rfl⟩
    go_wp2_with fail
    go_ret2
    exact ⟨none, 0, 0, [], 1, rfl, Nums.nil _, by simp [ResSub, hr'], Below.refl _ _⟩
  | true =>
    have hla : la ≤ 64 := by have := right_len hr; have := h.hlen; omega
    have hlb : lb ≤ 64 := by have := right_len hr'; have := h'.hlen; omega
    have hzd := h.digs
    have hyd := h'.digs
    have hzl := right_len hr
    have hyl := right_len hr'
    go_enter Try.func69, Try.ntmps69
    go_wp2_with fail
    refine (refRight_any _ _ _ _ _ h).mono ?_
    rintro e w' ⟨rfl, rfl⟩
    go_wp2_with fail
    refine (refRight_any _ _ _ _ _ h').mono ?_
    rintro e w0 ⟨rfl, rfl⟩
    go_wp2_with fail
    refine (in_any _ _ _ _ _ h (by omega)).mono ?_
    rintro e w1 ⟨a1, n1, c1, ds, rfl, hn1, hd1, ht1, hv1, hb1⟩
    have hl1 := in_len hd1 ht1 hv1 hzd hzl
    have hl1' : n1 ≤ 256 := by have := hn1.hlen; omega
    have HV1 : Hid (val 65536 ds = val 18446744073709551616 zs) := hv1
    clear hv1 hl1
    go_wp2_with fail
    refine (in_any _ _ _ _ _ (h'.below hb1) (by omega)).mono ?_
    rintro e w2 ⟨a2, n2, c2, es, rfl, hn2, hd2, ht2, hv2, hb2⟩
    have hl2 := in_len hd2 ht2 hv2 hyd hyl
    have hl2' : n2 ≤ 256 := by have := hn2.hlen; omega
    have HV2 : Hid (val 65536 es = val 18446744073709551616 ys) := hv2
    clear hv2 hl2
    have hb12 := hb1.trans (hb2.mono hb1.size)
    have hn1' := hn1.below hb2
    by_cases hlt : val 18446744073709551616 zs < val 18446744073709551616 ys
    · have HP : Hid (ResSub zs ys [] 2) := (show ResSub zs ys [] 2 by simp [ResSub, hr, hr', hlt])
      have hcz : cmpZ (val 65536 ds) (val 65536 es) = -1 := by rw [HV1.out, HV2.out]; exact cmpZ_lt hlt
      clear hlt
      go_wp2_with fail
      refine (compare_any 65536 (by decide) _ _ _ _ _ _ _ _ _ hn1' hn2 hd1 hd2 ht1 ht2).mono ?_
      rintro e w3 ⟨rfl, hb3⟩
      rw [hcz]
      clear hcz
      have hb13 := hb12.trans (hb3.mono hb12.size)
      go_wp2_with fail
      go_ret2
      exact ⟨none, 0, 0, [], 2, rfl, Nums.nil _, HP.out, hb13⟩
    · have hcz : ¬ cmpZ (val 65536 ds) (val 65536 es) < 0 := by rw [HV1.out, HV2.out]; unfold cmpZ; rw [if_neg hlt]; split <;> omega
      have hge : val 65536 es ≤ val 65536 ds := by rw [HV1.out, HV2.out]; omega
      have HG : Hid (val 65536 es ≤ val 65536 ds) := hge
      have HN : Hid (¬ val 18446744073709551616 zs < val 18446744073709551616 ys) := hlt
      clear hge hlt
      obtain ⟨cc, hcc⟩ : ∃ cc, cc = cmpZ (val 65536 ds) (val 65536 es) := ⟨_, rfl⟩
      rw [← hcc] at hcz
      have HC : Hid (cc = cmpZ (val 65536 ds) (val 65536 es)) := hcc
      clear hcc
      go_wp2_with fail
      refine (compare_any 65536 (by decide) _ _ _ _ _ _ _ _ _ hn1' hn2 hd1 hd2 ht1 ht2).mono ?_
      rintro e w3 ⟨rfl, hb3⟩
      rw [← HC.out]
      have hb13 := hb12.trans (hb3.mono hb12.size)
      have hn1'' := hn1'.below hb3
      have hn2'' := hn2.below hb3
      go_wp2_with fail
      refine (rsub_any _ _ _ _ _ _ _ _ _ hn1'' hn2'' hd1 hd2 ht2 HG.out (by omega)).mono ?_
      rintro e w4 ⟨a3, n3, c3, fs, rfl, hn3, hd3, ht3, hl3, -, hv3, hb4⟩
      have HV3 : Hid (val 65536 fs = val 65536 ds - val 65536 es) := hv3
      clear hv3
      have hb14 := hb13.trans (hb4.mono hb13.size)
      go_wp2_with fail
      refine (told_any _ _ _ _ _ hn3 hd3 ht3 (by omega)).mono ?_
      rintro e w5 ⟨a4, n4, c4, ls, err, rfl, hn4, hres, hb5⟩
      rw [HV3.out, HV1.out, HV2.out] at hres
      have HR : Hid (ResSub zs ys ls err) := (show ResSub zs ys ls err by rw [ResSub, hr, hr', Bool.and_true, if_pos rfl, if_neg (Int.not_lt.2 HN.out)]; exact hres)
      clear hres
      have hb15 := hb14.trans (hb5.mono hb14.size)
      go_wp2_with fail
      go_ret2
      exact ⟨_, _, _, _, _, rfl, hn4, HR.out, hb15⟩
end Go.Proofs.Ytaipkganijofjab
