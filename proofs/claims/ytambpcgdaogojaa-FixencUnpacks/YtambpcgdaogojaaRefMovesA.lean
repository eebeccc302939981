/-
  Contracts of the document's own Shl and Shr.
-/
import Derived.Test.YtambpcgdaogojaaRefMoves
namespace Go.Proofs.Ytambpcgdaogojaa
open Go.RowKit

theorem power_z (n : Int) (k : Nat) (hn : n = (k : Int)) (hk : k ≤ 5000) (w : World) :
    Calls Try.prog 87 #[.int .i64 n] w fun e w' => ∃ a n c ds, e = .returned (.slice a n c) ∧ Nums w' a n c ds ∧ Digs 65536 ds ∧ Top ds ∧ n ≤ 500 ∧ val 65536 ds = 2 ^ k ∧ Below w.heap.size w w' := by
  subst hn; exact power_any k hk w

set_option maxHeartbeats 800000 in
theorem refShl_any (a : Option Addr) (la ca : Nat) (zs : List Int) (n : Int) (w : World) (h : Nums w a la ca zs) :
    Calls Try.prog 69 #[.slice a la ca, .int .i64 n] w fun e w' => ∃ a' k cap' ls err, e = .returned (.tuple #[.slice a' k cap', .int .i64 err]) ∧ Nums w' a' k cap' ls ∧ ResShl zs n ls err ∧ Below w.heap.size w w' := by
  have hzd := h.digs
  have hzl := h.hlen
  cases hr : rightB zs with
  | false =>
    clear hzl
    go_enter Try.func69, Try.ntmps69
    go_wp2_with fail
    refine (refRight_any _ _ _ _ _ h).mono ?_
    rintro e w0 ⟨rfl, rfl⟩
    go_wp2_with fail
    go_ret2
    exact ⟨none, 0, 0, [], 1, rfl, Nums.nil _, by simp [ResShl, hr], Below.refl _ _⟩
  | true =>
    by_cases hneg : n < 0
    · have HP : Hid (ResShl zs n [] 1) := (show ResShl zs n [] 1 by rw [ResShl, if_neg (by simp; omega)]; exact ⟨rfl, rfl⟩)
      clear hzl
      go_enter Try.func69, Try.ntmps69
      go_wp2_with fail
      refine (refRight_any _ _ _ _ _ h).mono ?_
      rintro e w0 ⟨rfl, rfl⟩
      go_wp2_with fail
      go_ret2
      exact ⟨none, 0, 0, [], 1, rfl, Nums.nil _, HP.out, Below.refl _ _⟩
    · obtain ⟨k, rfl⟩ := Int.eq_ofNat_of_zero_le (show 0 ≤ n by omega)
      have h64 := right_len hr
      have hla : la ≤ 64 := by omega
      by_cases h0 : la = 0
      · subst h0
        have HP : Hid (ResShl zs k [] 0) := (show ResShl zs k [] 0 by rw [ResShl, hr, Bool.true_and, if_pos (by simp), if_pos hzl]; exact ⟨rfl, rfl⟩)
        clear hzl
        go_enter Try.func69, Try.ntmps69
        go_wp2_with fail
        refine (refRight_any _ _ _ _ _ h).mono ?_
        rintro e w0 ⟨rfl, rfl⟩
        go_wp2_with fail
        go_ret2
        exact ⟨none, 0, 0, [], 0, rfl, Nums.nil _, HP.out, Below.refl _ _⟩
      · have hne : ((la : Int) == 0) = false := by simp; omega
        by_cases hbig : 4096 < (k : Int)
        · have HP : Hid (ResShl zs k [] 4) := (show ResShl zs k [] 4 by rw [ResShl, hr, Bool.true_and, if_pos (by simp), if_neg (by omega), if_pos hbig]; exact ⟨rfl, rfl⟩)
          clear hzl
          go_enter Try.func69, Try.ntmps69
          go_wp2_with fail
          refine (refRight_any _ _ _ _ _ h).mono ?_
          rintro e w0 ⟨rfl, rfl⟩
          go_wp2_with fail
          go_ret2
          exact ⟨none, 0, 0, [], 4, rfl, Nums.nil _, HP.out, Below.refl _ _⟩
        · have HR : Hid (∀ ls err, Res (val 18446744073709551616 zs * 2 ^ k) ls err → ResShl zs k ls err) := fun ls err hx => (show ResShl zs k ls err by rw [ResShl, hr, Bool.true_and, if_pos (by simp), if_neg (by omega), if_neg (by omega)]; exact hx)
          clear hzl
          go_enter Try.func69, Try.ntmps69
          go_wp2_with fail
          refine (refRight_any _ _ _ _ _ h).mono ?_
          rintro e w0 ⟨rfl, rfl⟩
          go_wp2_with fail
          refine (in_any _ _ _ _ _ h (by omega)).mono ?_
          rintro e w1 ⟨a1, n1, c1, ds, rfl, hn1, hd1, ht1, hv1, hb1⟩
          have hl1 := in_len hd1 ht1 hv1 hzd h64
          have hl1' : n1 ≤ 256 := by have := hn1.hlen; omega
          have HV1 : Hid (val 65536 ds = val 18446744073709551616 zs) := hv1
          clear hv1 hl1
          go_wp2_with fail
          refine (power_any k (by omega) _).mono ?_
          rintro e w2 ⟨a2, n2, c2, es, rfl, hn2, hd2, ht2, hl2, hv2, hb2⟩
          have HV2 : Hid (val 65536 es = 2 ^ k) := hv2
          clear hv2
          have hb12 := hb1.trans (hb2.mono hb1.size)
          go_wp2_with fail
          refine (rmul_any _ _ _ _ _ _ _ _ _ (hn1.below hb2) hn2 hd1 hd2 (by omega) (by omega)).mono ?_
          rintro e w3 ⟨a3, n3, c3, fs, rfl, hn3, hd3, ht3, hl3, hv3, hb3⟩
          have HV3 : Hid (val 65536 fs = val 65536 ds * val 65536 es) := hv3
          clear hv3
          have hb13 := hb12.trans (hb3.mono hb12.size)
          go_wp2_with fail
          refine (told_any _ _ _ _ _ hn3 hd3 ht3 (by omega)).mono ?_
          rintro e w4 ⟨a4, n4, c4, ls, err, rfl, hn4, hres, hb4⟩
          rw [HV3.out, HV1.out, HV2.out] at hres
          have HZ : Hid (ResShl zs k ls err) := HR.out ls err hres
          clear hres
          have hb14 := hb13.trans (hb4.mono hb13.size)
          clear hb1 hb2 hb3 hb4 hb12 hb13 hn1 hn2 hn3
          go_wp2_with fail
          go_ret2
          exact ⟨_, _, _, _, _, rfl, hn4, HZ.out, hb14⟩

set_option maxHeartbeats 800000 in
theorem refShr_any (a : Option Addr) (la ca : Nat) (zs : List Int) (n : Int) (w : World) (h : Nums w a la ca zs) :
    Calls Try.prog 62 #[.slice a la ca, .int .i64 n] w fun e w' => ∃ a' k cap' ls err, e = .returned (.tuple #[.slice a' k cap', .int .i64 err]) ∧ Nums w' a' k cap' ls ∧ ResShr zs n ls err ∧ Below w.heap.size w w' := by
  have hzd := h.digs
  have hzl := h.hlen
  cases hr : rightB zs with
  | false =>
    clear hzl
    go_enter Try.func62, Try.ntmps62
    go_wp2_with fail
    refine (refRight_any _ _ _ _ _ h).mono ?_
    rintro e w0 ⟨rfl, rfl⟩
    go_wp2_with fail
    go_ret2
    exact ⟨none, 0, 0, [], 1, rfl, Nums.nil _, by simp [ResShr, hr], Below.refl _ _⟩
  | true =>
    by_cases hneg : n < 0
    · have HP : Hid (ResShr zs n [] 1) := (show ResShr zs n [] 1 by rw [ResShr, if_neg (by simp; omega)]; exact ⟨rfl, rfl⟩)
      clear hzl
      go_enter Try.func62, Try.ntmps62
      go_wp2_with fail
      refine (refRight_any _ _ _ _ _ h).mono ?_
      rintro e w0 ⟨rfl, rfl⟩
      go_wp2_with fail
      go_ret2
      exact ⟨none, 0, 0, [], 1, rfl, Nums.nil _, HP.out, Below.refl _ _⟩
    · obtain ⟨k, rfl⟩ := Int.eq_ofNat_of_zero_le (show 0 ≤ n by omega)
      have h64 := right_len hr
      have hla : la ≤ 64 := by omega
      have hn0 := val_nonneg (B := 18446744073709551616) (by decide) hzd
      have hlz := val_lt_pow (B := 18446744073709551616) (by decide) hzd h64
      have hres : ∀ ls, Digs 18446744073709551616 ls → Top ls → ls.length ≤ 64 → val 18446744073709551616 ls = val 18446744073709551616 zs / 2 ^ k → ResShr zs k ls 0 := by
        intro ls h1 h2 h3 h4
        rw [ResShr, hr, Bool.true_and, if_pos (by simp)]
        exact ⟨rfl, h1, h2, h3, h4⟩
      by_cases hbig : 4096 ≤ (k : Int)
      · have hz : val 18446744073709551616 zs / 2 ^ k = 0 := by
          refine Int.ediv_eq_zero_of_lt hn0 ?_
          have : (18446744073709551616 : Int) ^ 64 ≤ 2 ^ k := by rw [pow64]; exact pow_mono (by decide) (by omega)
          omega
        have HP : Hid (ResShr zs k [] 0) := hres [] (Digs.nil _) (.inl rfl) (by simp) (by rw [val_nil, hz])
        clear hzl hres hz hlz hn0
        go_enter Try.func62, Try.ntmps62
        go_wp2_with fail
        refine (refRight_any _ _ _ _ _ h).mono ?_
        rintro e w0 ⟨rfl, rfl⟩
        go_wp2_with fail
        go_ret2
        exact ⟨none, 0, 0, [], 0, rfl, Nums.nil _, HP.out, Below.refl _ _⟩
      · have hp := pow_pos' (B := 2) (by decide) k
        have hfit : val 18446744073709551616 zs / 2 ^ k < 18446744073709551616 ^ 64 := by
          have := Int.ediv_le_self (2 ^ k) hn0
          omega
        have HR : Hid (∀ ls err, Res (val 18446744073709551616 zs / 2 ^ k) ls err → err = 0 ∧ ResShr zs (k : Int) ls 0) := fun ls err hx => by
          obtain ⟨e1, e2, e3, e4⟩ := res_fits hx hfit
          exact ⟨e1, hres ls e2 (right_top e3) (right_len e3) e4⟩
        have HPP : Hid ((0 : Int) < 2 ^ k) := hp
        have hkb : k ≤ 5000 := by omega
        obtain ⟨n, hn⟩ : ∃ n : Int, n = (k : Int) := ⟨_, rfl⟩
        rw [← hn]
        rw [← hn] at HR
        have hbl : n < 4096 := by omega
        have hk0 : 0 ≤ n := by omega
        have HN : Hid (n = (k : Int)) := hn
        clear hzl hres hfit hlz hp hn0 hbig hneg hn
        go_enter Try.func62, Try.ntmps62
        go_wp2_with fail
        refine (refRight_any _ _ _ _ _ h).mono ?_
        rintro e w0 ⟨rfl, rfl⟩
        go_wp2_with fail
        refine (in_any _ _ _ _ _ h (by omega)).mono ?_
        rintro e w1 ⟨a1, n1, c1, ds, rfl, hn1, hd1, ht1, hv1, hb1⟩
        have hl1 := in_len hd1 ht1 hv1 hzd h64
        have hl1' : n1 ≤ 256 := by have := hn1.hlen; omega
        have HV1 : Hid (val 65536 ds = val 18446744073709551616 zs) := hv1
        clear hv1 hl1
        go_wp2_with fail
        refine (power_z n k HN.out hkb _).mono ?_
        rintro e w2 ⟨a2, n2, c2, es, rfl, hn2, hd2, ht2, hl2, hv2, hb2⟩
        have HV2 : Hid (val 65536 es = 2 ^ k) := hv2
        clear hv2
        have hb12 := hb1.trans (hb2.mono hb1.size)
        go_wp2_with fail
        refine (rdiv_any _ _ _ _ _ _ _ _ _ (hn1.below hb2) hn2 hd1 hd2 (by rw [HV2.out]; exact HPP.out) (by omega) (by omega)).mono ?_
        rintro e w3 ⟨a3, n3, c3, qs, a4, n4, c4, rs, rfl, hq, hrn, hz, hb3⟩
        have hb13 := hb12.trans (hb3.mono hb12.size)
        have hn3' : n3 ≤ 256 := by have := hz.2.2.2.2.1; omega
        have hqv : val 65536 qs = val 18446744073709551616 zs / 2 ^ k := by
          have e1 := hz.2.2.2.2.2.2.1
          have e2 := hz.2.2.2.2.2.2.2
          have e3 := val_nonneg (B := 65536) (by decide) hz.2.2.1
          rw [HV1.out, HV2.out] at e1
          rw [HV2.out] at e2
          rw [e1, Int.add_comm, Int.add_mul_ediv_right _ _ (by have := HPP.out; omega), Int.ediv_eq_zero_of_lt e3 e2, Int.zero_add]
        have HQ : Hid (Digs 65536 qs ∧ Top qs ∧ val 65536 qs = val 18446744073709551616 zs / 2 ^ k) := ⟨hz.1, hz.2.1, hqv⟩
        clear hz hqv hb1 hb2 hb3 hb12 hn1 hn2 hrn
        go_wp2_with fail
        refine (told_any _ _ _ _ _ hq HQ.out.1 HQ.out.2.1 (by omega)).mono ?_
        rintro e w4 ⟨a5, n5, c5, ls, err, rfl, hn5, hres, hb4⟩
        rw [HQ.out.2.2] at hres
        obtain ⟨e1, e2⟩ := HR.out ls err hres
        subst e1
        have HZ : Hid (ResShr zs n ls 0) := e2
        have hb14 := hb13.trans (hb4.mono hb13.size)
        clear hres e2 hb4 hb13 hq
        go_wp2_with fail
        go_ret2
        exact ⟨_, _, _, _, _, rfl, hn5, HZ.out, hb14⟩

theorem shl_one {ls : List Int} {e : Int} (h : ResShl [1] 0 ls e) : ls.length = 1 := by
  have h2 : ResShl [1] 0 [1] 0 := by
    rw [ResShl, if_pos (by decide), if_neg (by decide), if_neg (by decide)]
    exact .inl ⟨rfl, by intro x hx; simp at hx; omega, by simp [Top], by simp, by simp [val]⟩
  rw [(h.unique h2).1]; rfl
end Go.Proofs.Ytambpcgdaogojaa
