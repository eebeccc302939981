/-
  Contracts of the document's Out and told: digits of base 65536 as limbs, of the same value.
-/
import Derived.Test.YtaipkganijofjabRefAdd
namespace Go.Proofs.Ytaipkganijofjab
open Go.RowKit

/-- The digits from place 4 q + j on, up to the end of their limb. -/
def sg (ds : List Int) (q j : Nat) : Int := vs 65536 (fun t => ds.getD (4 * q + j + t) 0) (4 - j)

theorem sg_bd {ds : List Int} (hd : Digs 65536 ds) (q j : Nat) : 0 ≤ sg ds q j ∧ sg ds q j < 65536 ^ (4 - j) :=
  ⟨vs_nonneg (by decide) (fun i _ => (hd.getD (by decide) _).1), vs_lt (by decide) (fun i _ => hd.getD (by decide) _)⟩

theorem sg_step (ds : List Int) (q j : Nat) (h1 : 1 ≤ j) (h4 : j ≤ 4) : sg ds q (j - 1) = sg ds q j * 65536 + ds.getD (4 * q + (j - 1)) 0 := by
  unfold sg
  rw [show 4 - (j - 1) = 1 + (4 - j) by omega, vs_add]
  have e : vs 65536 (fun i => ds.getD (4 * q + (j - 1) + (1 + i)) 0) (4 - j) = vs 65536 (fun t => ds.getD (4 * q + j + t) 0) (4 - j) :=
    vs_congr (fun i _ => by rw [show 4 * q + (j - 1) + (1 + i) = 4 * q + j + i by omega])
  rw [e]
  simp only [vs, Int.pow_zero, Nat.add_zero]
  omega

theorem sg_small {ds : List Int} (hd : Digs 65536 ds) (q j : Nat) (h1 : 1 ≤ j) : sg ds q j < 281474976710656 := by
  have h := (sg_bd hd q j).2
  have h2 := pow_mono (B := 65536) (by decide) (show 4 - j ≤ 3 by omega)
  have e : (65536 : Int) ^ 3 = 281474976710656 := by decide
  omega

theorem out_step {ds ls : List Int} {q : Nat} (hd : Digs 65536 ds) (hl : ls.length = q) (hld : Digs 18446744073709551616 ls) (hv : val 18446744073709551616 ls = val 65536 (ds.take (4 * q))) :
    (ls ++ [sg ds q 0]).length = q + 1 ∧ Digs 18446744073709551616 (ls ++ [sg ds q 0]) ∧ val 18446744073709551616 (ls ++ [sg ds q 0]) = val 65536 (ds.take (4 * (q + 1))) := by
  have b := sg_bd hd q 0
  have e4 : (65536 : Int) ^ (4 - 0) = 18446744073709551616 := by decide
  rw [e4] at b
  refine ⟨by simp [hl], hld.snoc b, ?_⟩
  rw [val_snoc, hl, hv, ← vs_val, ← vs_val, show 4 * (q + 1) = 4 * q + 4 by omega, vs_add]
  have e : (18446744073709551616 : Int) ^ q = 65536 ^ (4 * q) := by rw [Int.pow_mul]; congr 1
  rw [e]
  rfl

theorem out_top {ds ls : List Int} {q : Nat} (hd : Digs 65536 ds) (ht : Top ds) (hl : ls.length = q) (hld : Digs 18446744073709551616 ls) (hv : val 18446744073709551616 ls = val 65536 ds) (hq : q = 0 ∨ 4 * (q - 1) < ds.length) : Top ls := by
  by_cases h0 : q = 0
  · left; exact List.eq_nil_of_length_eq_zero (by omega)
  · right
    intro hz
    rw [hl] at hz
    have h1 := val_take_succ 18446744073709551616 ls (q - 1) (by omega)
    rw [show q - 1 + 1 = q by omega, List.take_of_length_le (by omega), hz] at h1
    have h2 := val_lt (B := 18446744073709551616) (by decide) (hld.take (q - 1))
    rw [List.length_take, Nat.min_eq_left (by omega)] at h2
    have h3 := val_ge (B := 65536) (by decide) hd ht (by intro e; subst e; simp at hq; omega)
    have h4 := pow_mono (B := 65536) (by decide) (show 4 * (q - 1) ≤ ds.length - 1 by omega)
    have e : (18446744073709551616 : Int) ^ (q - 1) = 65536 ^ (4 * (q - 1)) := by rw [Int.pow_mul]; congr 1
    rw [e] at h2
    omega

set_option maxHeartbeats 800000 in
theorem out_any (a : Option Addr) (len cap : Nat) (ds : List Int) (w : World) (h : Nums w a len cap ds) (hd : Digs 65536 ds) (ht : Top ds) (hn : len ≤ 100000) :
    Calls Try.prog 65 #[.slice a len cap] w fun e w' => ∃ a' n cap' ls, e = .returned (.tuple #[.slice a' n cap', .bool (decide ((n : Int) ≤ 64))]) ∧ Nums w' a' n cap' ls ∧ Digs 18446744073709551616 ls ∧ Top ls ∧ val 18446744073709551616 ls = val 65536 ds ∧ Below w.heap.size w w' := by
  have HL : Hid (ds.length = len) := h.hlen
  go_enter Try.func65, Try.ntmps65
  go_wp2
  go_loopw [4, 5] (fun v i wr => ∃ q : Nat, i = .int .i64 (4 * (q : Int)) ∧ (q = 0 ∨ 4 * (q - 1) < len) ∧ ∃ ls, Own wr w.heap.size v ls ∧ ls.length = q ∧ Digs 18446744073709551616 ls ∧ val 18446744073709551616 ls = val 65536 (ds.take (4 * q)) ∧ Below w.heap.size w wr) (fun _ i _ => len + 4 - (intOf i).toNat)
  case atStart => exact ⟨0, rfl, .inl rfl, [], Own.nil _ _, rfl, Digs.nil _, by simp [val], Below.refl _ _⟩
  case round =>
    obtain ⟨q, rfl, hq, ls, hown, hll, hld, hlv, hb⟩ := hrel
    have HV : Hid (ls.length = q ∧ Digs 18446744073709551616 ls ∧ val 18446744073709551616 ls = val 65536 (ds.take (4 * q))) := ⟨hll, hld, hlv⟩
    have hq5 : q ≤ 50000 := by omega
    have hlb : ls.length < 1000000 := by omega
    have HQ : Hid (q = 0 ∨ 4 * (q - 1) < len) := hq
    have R := out_step hd hll hld hlv
    have HR : Hid ((ls ++ [sg ds q 0]).length = q + 1 ∧ Digs 18446744073709551616 (ls ++ [sg ds q 0]) ∧ val 18446744073709551616 (ls ++ [sg ds q 0]) = val 65536 (ds.take (4 * (q + 1)))) := R
    clear hll hld hlv R hq
    by_cases hlt : 4 * q < len
    · have hlti : 4 * (q : Int) < (len : Int) := by omega
      obtain ⟨b, off, rfl, hcell⟩ := h.cells (by omega)
      have hlt1 := World.block_lt_of_cell? w _ (hcell 0 (by omega))
      have hcw : ∀ i, i < len → wr.cell? ⟨b, off + i, none⟩ = some (.int .u64 (ds.getD i 0)) := fun i hi => (hb.cell (p := ⟨b, off + i, none⟩) hlt1).trans (hcell i hi)
      have HC : Hid (∀ i, i < len → wr.cell? ⟨b, off + i, none⟩ = some (.int .u64 (ds.getD i 0))) := hcw
      clear hcw hcell
      go_wp2
      go_loop [6, 7] (fun xv kk => ∃ j : Nat, j ≤ 4 ∧ kk = .int .i64 ((j : Int) - 1) ∧ xv = .int .u64 (sg ds q j)) (fun _ kk => (intOf kk + 1).toNat)
      case atStart => exact ⟨4, by omega, rfl, by simp [sg, vs]⟩
      case round =>
        obtain ⟨j, hj4, rfl, rfl⟩ := hrel
        by_cases hj0 : j = 0
        · subst hj0
          have hs := sg_bd hd q 0
          obtain ⟨X, hX⟩ : ∃ X, X = sg ds q 0 := ⟨_, rfl⟩
          have HX : Hid (X = sg ds q 0) := hX
          rw [← hX] at hs ⊢
          clear hX
          go_wp2_with (at_builtin; refine wpList_app1 _ rfl _ _ 23 rfl Try.underlying23 w.heap.size _ ls rfl (hown.alloc _) ⟨wr.heap.size, 0, none⟩ X rfl ?c1 hlb w ?c2 ?c3 ?_)
          case c2 => have := hb.size; simp; omega
          case c3 => exact hb.alloc hb.size _
          intro v' w2 hown1 hb1
          clear hown hb
          go_wp2
          go_roundw
          case rel =>
            refine ⟨q + 1, by go_num, .inr (by simpa using hlt), ls ++ [X], hown1, ?_, ?_, ?_, hb1⟩
            · rw [HX.out]; exact HR.out.1
            · rw [HX.out]; exact HR.out.2.1
            · rw [HX.out]; exact HR.out.2.2
          case measure => simp [intOf]; omega
        · have hs0 := (sg_bd hd q j).1
          have hs1 := sg_small hd q j (by omega)
          obtain ⟨X, hX⟩ : ∃ X, X = sg ds q j := ⟨_, rfl⟩
          have hst := sg_step ds q j (by omega) hj4
          rw [← hX] at hs0 hs1 hst ⊢
          have HS : Hid (sg ds q (j - 1) = X * 65536 + ds.getD (4 * q + (j - 1)) 0) := hst
          clear hst hX
          have hj1 : 0 ≤ (j : Int) - 1 := by omega
          by_cases hin : 4 * q + (j - 1) < len
          · have hini : 4 * (q : Int) + ((j : Int) - 1) < (len : Int) := by omega
            have c1 := HC.out _ hin
            have hyb := hd.getD (by decide) (4 * q + (j - 1))
            obtain ⟨y, hy⟩ : ∃ y, y = ds.getD (4 * q + (j - 1)) 0 := ⟨_, rfl⟩
            rw [← hy] at c1 hyb
            have HY : Hid (y = ds.getD (4 * q + (j - 1)) 0) := hy
            clear hy
            go_wp2
            go_round
            case rel => exact ⟨j - 1, by omega, by go_num, by rw [HS.out, ← HY.out]⟩
            case measure => simp [intOf]; omega
          · have hini : decide (4 * (q : Int) + ((j : Int) - 1) < (len : Int)) = false := by simp; omega
            go_wp2
            go_round
            case rel =>
              refine ⟨j - 1, by omega, by go_num, ?_⟩
              have e : ds.getD (4 * q + (j - 1)) 0 = 0 := by simp only [List.getD]; rw [List.getElem?_eq_none (by have := HL.out; omega)]; rfl
              rw [HS.out, e]; simp
            case measure => simp [intOf]; omega
    · have hlti : decide (4 * (q : Int) < (len : Int)) = false := by simp; omega
      obtain ⟨a1, n1, cap1, rfl, hnums⟩ := hown.numsN HV.out.2.1
      have hv : val 18446744073709551616 ls = val 65536 ds := by rw [HV.out.2.2, List.take_of_length_le (by have := HL.out; omega)]
      have htop := out_top hd ht HV.out.1 HV.out.2.1 hv (by have := HL.out; have := HQ.out; omega)
      have HF : Hid (val 18446744073709551616 ls = val 65536 ds ∧ Top ls) := ⟨hv, htop⟩
      clear hv htop hown
      go_wp2
      go_ret2
      exact ⟨_, _, _, _, rfl, hnums, HV.out.2.1, HF.out.2, HF.out.1, hb⟩

set_option maxHeartbeats 400000 in
theorem told_any (a : Option Addr) (len cap : Nat) (ds : List Int) (w : World) (h : Nums w a len cap ds) (hd : Digs 65536 ds) (ht : Top ds) (hn : len ≤ 100000) :
    Calls Try.prog 49 #[.slice a len cap] w fun e w' => ∃ a' n cap' ls err, e = .returned (.tuple #[.slice a' n cap', .int .i64 err]) ∧ Nums w' a' n cap' ls ∧ Res (val 65536 ds) ls err ∧ Below w.heap.size w w' := by
  go_enter Try.func49, Try.ntmps49
  go_wp2_with fail
  refine (out_any _ _ _ _ _ h hd ht hn).mono ?_
  rintro e w1 ⟨a', n, cap', ls, rfl, hls, hld, hlt, hv, hb⟩
  have hll := hls.hlen
  by_cases h64 : n ≤ 64
  · have hdc : decide ((n : Int) ≤ 64) = true := by simp; omega
    have hres : Res (val 65536 ds) ls 0 := .inl ⟨rfl, hld, hlt, by omega, hv⟩
    have HH : Hid (Res (val 65536 ds) ls 0) := hres
    rw [hdc]
    clear hres hv hll hdc
    go_wp2_with fail
    go_ret2
    exact ⟨_, _, _, _, _, rfl, hls, HH.out, hb⟩
  · have hdc : decide ((n : Int) ≤ 64) = false := by simp; omega
    have hres : Res (val 65536 ds) [] 4 := .inr ⟨rfl, rfl, ls, hld, hlt, hv, by omega⟩
    have HH : Hid (Res (val 65536 ds) [] 4) := hres
    rw [hdc]
    clear hres hv hll hdc
    go_wp2_with fail
    go_ret2
    exact ⟨none, 0, 0, [], 4, rfl, Nums.nil _, HH.out, hb⟩

theorem in_len {ds zs : List Int} {k : Nat} (hd : Digs 65536 ds) (ht : Top ds) (hv : val 65536 ds = val 18446744073709551616 zs) (hz : Digs 18446744073709551616 zs) (hl : zs.length ≤ k) : ds.length ≤ 4 * k := by
  refine len_le (B := 65536) (by decide) hd ht ?_
  have e : (65536 : Int) ^ (4 * k) = 18446744073709551616 ^ k := by rw [Int.pow_mul]; congr 1
  rw [hv, e]
  exact val_lt_pow (by decide) hz hl

set_option maxHeartbeats 400000 in
theorem refAdd_any (a b : Option Addr) (la ca lb cb : Nat) (zs ys : List Int) (w : World) (h : Nums w a la ca zs) (h' : Nums w b lb cb ys) :
    Calls Try.prog 46 #[.slice a la ca, .slice b lb cb] w fun e w' => ∃ a' n cap' ls err, e = .returned (.tuple #[.slice a' n cap', .int .i64 err]) ∧ Nums w' a' n cap' ls ∧
      Res2 zs ys (val 18446744073709551616 zs + val 18446744073709551616 ys) ls err ∧ Below w.heap.size w w' := by
  cases hr : rightB zs with
  | false =>
    go_enter Try.func46, Try.ntmps46
    go_wp2_with fail
    refine (refRight_any _ _ _ _ _ h).mono ?_
    rintro e w' ⟨rfl, rfl⟩
    go_wp2_with fail
    refine (refRight_any _ _ _ _ _ h').mono ?_
    rintro e w' ⟨rfl, rfl⟩
    go_wp2_with fail
    go_ret2
    exact ⟨none, 0, 0, [], 1, rfl, Nums.nil _, by simp [Res2, hr], Below.refl _ _⟩
  | true =>
  cases hr' : rightB ys with
  | false =>
    go_enter Try.func46, Try.ntmps46
    go_wp2_with fail
    refine (refRight_any _ _ _ _ _ h).mono ?_
    rintro e w' ⟨rfl, rfl⟩
    go_wp2_with fail
    refine (refRight_any _ _ _ _ _ h').mono ?_
    rintro e w' ⟨rfl, rfl⟩
    go_wp2_with fail
    go_ret2
    exact ⟨none, 0, 0, [], 1, rfl, Nums.nil _, by simp [Res2, hr'], Below.refl _ _⟩
  | true =>
    have hla : la ≤ 64 := by have := right_len hr; have := h.hlen; omega
    have hlb : lb ≤ 64 := by have := right_len hr'; have := h'.hlen; omega
    have hzd := h.digs
    have hyd := h'.digs
    have hzl := right_len hr
    have hyl := right_len hr'
    go_enter Try.func46, Try.ntmps46
    go_wp2_with fail
    refine (refRight_any _ _ _ _ _ h).mono ?_
    rintro e w' ⟨rfl, rfl⟩
    go_wp2_with fail
    refine (refRight_any _ _ _ _ _ h').mono ?_
    rintro e w0 ⟨rfl, rfl⟩
    go_wp2_with fail
    refine (in_any _ _ _ _ _ h (by omega)).mono ?_
    rintro e w1 ⟨a1, n1, c1, ds, rfl, hn1, hd1, ht1, hv1, hb1⟩
    have hl1 := in_len hd1 ht1 hv1 hzd hzl
    have hl1' : n1 ≤ 256 := by have := hn1.hlen; omega
    have HV1 : Hid (val 65536 ds = val 18446744073709551616 zs) := hv1
    clear hv1 hl1
    go_wp2_with fail
    refine (in_any _ _ _ _ _ (h'.below hb1) (by omega)).mono ?_
    rintro e w2 ⟨a2, n2, c2, es, rfl, hn2, hd2, ht2, hv2, hb2⟩
    have hl2 := in_len hd2 ht2 hv2 hyd hyl
    have hl2' : n2 ≤ 256 := by have := hn2.hlen; omega
    have HV2 : Hid (val 65536 es = val 18446744073709551616 ys) := hv2
    clear hv2 hl2
    have hb12 := hb1.trans (hb2.mono hb1.size)
    go_wp2_with fail
    refine (radd_any _ _ _ _ _ _ _ _ _ (hn1.below hb2) hn2 hd1 hd2 (by omega) (by omega)).mono ?_
    rintro e w3 ⟨a3, n3, c3, fs, rfl, hn3, hd3, ht3, hl3, hv3, hb3⟩
    have hm : Nat.max n1 n2 ≤ 256 := Nat.max_le.2 ⟨hl1', hl2'⟩
    have HV3 : Hid (val 65536 fs = val 65536 ds + val 65536 es) := hv3
    clear hv3
    have hb13 := hb12.trans (hb3.mono hb12.size)
    go_wp2_with fail
    refine (told_any _ _ _ _ _ hn3 hd3 ht3 (by omega)).mono ?_
    rintro e w4 ⟨a4, n4, c4, ls, err, rfl, hn4, hres, hb4⟩
    rw [HV3.out, HV1.out, HV2.out] at hres
    have HR : Hid (Res (val 18446744073709551616 zs + val 18446744073709551616 ys) ls err) := hres
    clear hres
    have hb14 := hb13.trans (hb4.mono hb13.size)
    go_wp2_with fail
    go_ret2
    exact ⟨_, _, _, _, _, rfl, hn4, by simp only [Res2, hr, hr']; exact HR.out, hb14⟩
end Go.Proofs.Ytaipkganijofjab
