/-
  Contracts of the document's digit, add, Out, told and Add.
  Contracts of the document's Out and told: digits of base 65536 as limbs, of the same value.
  Contracts of the document's sub and Sub.
  The contract of the document's Mul.
-/
import Derived.Test.YtchmlfjjgehbkaaNatB
import Derived.Test.YtchmlfjjgehbkaaNatA
import Derived.Test.YtchmlfjjgehbkaaNatC
namespace Go.Proofs.Ytchmlfjjgehbkaa
open Go.RowKit

set_option maxHeartbeats 400000 in
theorem digit_any (a : Option Addr) (len cap : Nat) (zs : List Int) (k : Nat) (w : World) (h : Nums w a len cap zs) :
    Calls Try.prog 88 #[.slice a len cap, .int .i64 (k : Int)] w fun e w' => e = .returned (.int .u64 (zs.getD k 0)) ∧ w' = w := by
  obtain ⟨hl, hcp, hm, hcells, hw⟩ := h
  by_cases h1 : k < len
  · obtain ⟨b, off, rfl, hc⟩ := hcells (by omega)
    have hlt : (k : Int) < (len : Int) := by omega
    have hcl := hc k h1
    obtain ⟨x, hx⟩ : ∃ x, x = zs.getD k 0 := ⟨_, rfl⟩
    rw [← hx] at hcl ⊢
    clear hx hc hcells
    go_enter Try.func88, Try.ntmps88
    go_wp2
    go_ret
    exact ⟨rfl, rfl⟩
  · have e : zs.getD k 0 = 0 := by simp only [List.getD]; rw [List.getElem?_eq_none (by omega)]; rfl
    rw [e]
    have hd : decide ((k : Int) < (len : Int)) = false := by simp; omega
    go_enter Try.func88, Try.ntmps88
    go_wp2
    go_ret
    exact ⟨rfl, rfl⟩

theorem radd_step {os : List Int} {zs ys : List Int} {k : Nat} {cy x y : Int} (hol : os.length = k) (hod : Digs 65536 os) (hzd : Digs 65536 zs) (hyd : Digs 65536 ys) (hc : 0 ≤ cy ∧ cy ≤ 1)
    (hv : val 65536 os + 65536 ^ k * cy = vs 65536 (fun i => zs.getD i 0) k + vs 65536 (fun i => ys.getD i 0) k) (hx : x = zs.getD k 0) (hy : y = ys.getD k 0) :
    (os ++ [(x + y + cy) % 65536]).length = k + 1 ∧ Digs 65536 (os ++ [(x + y + cy) % 65536]) ∧ (0 ≤ (x + y + cy) / 65536 ∧ (x + y + cy) / 65536 ≤ 1) ∧
    val 65536 (os ++ [(x + y + cy) % 65536]) + 65536 ^ (k + 1) * ((x + y + cy) / 65536) = vs 65536 (fun i => zs.getD i 0) (k + 1) + vs 65536 (fun i => ys.getD i 0) (k + 1) := by
  have bx : 0 ≤ x ∧ x < 65536 := by rw [hx]; exact hzd.getD (by decide) _
  have by' : 0 ≤ y ∧ y < 65536 := by rw [hy]; exact hyd.getD (by decide) _
  refine ⟨by simp [hol], hod.snoc ⟨by omega, by omega⟩, ⟨by omega, by omega⟩, ?_⟩
  simp only [vs]
  rw [val_snoc, hol, ← hx, ← hy, Int.pow_succ, Int.mul_assoc]
  generalize (65536 : Int) ^ k = P at hv ⊢
  have e : P * ((x + y + cy) % 65536) + P * (65536 * ((x + y + cy) / 65536)) = P * (x + y + cy) := by rw [← Int.mul_add]; congr 1; omega
  rw [Int.mul_add, Int.mul_add] at e
  omega

theorem radd_end {os zs ys : List Int} {k : Nat} {cy : Int} (hol : os.length = k) (hz : zs.length ≤ k) (hy : ys.length ≤ k)
    (hv : val 65536 os + 65536 ^ k * cy = vs 65536 (fun i => zs.getD i 0) k + vs 65536 (fun i => ys.getD i 0) k) : val 65536 (os ++ [cy]) = val 65536 zs + val 65536 ys := by
  rw [val_snoc, hol, hv, vs_all _ _ hz, vs_all _ _ hy]

end Go.Proofs.Ytchmlfjjgehbkaa

namespace Go.Proofs.Ytchmlfjjgehbkaa
open Go.RowKit

/-- The digits from place 4 q + j on, up to the end of their limb. -/
def sg (ds : List Int) (q j : Nat) : Int := vs 65536 (fun t => ds.getD (4 * q + j + t) 0) (4 - j)

theorem sg_bd {ds : List Int} (hd : Digs 65536 ds) (q j : Nat) : 0 ≤ sg ds q j ∧ sg ds q j < 65536 ^ (4 - j) :=
  ⟨vs_nonneg (by decide) (fun i _ => (hd.getD (by decide) _).1), vs_lt (by decide) (fun i _ => hd.getD (by decide) _)⟩

theorem sg_step (ds : List Int) (q j : Nat) (h1 : 1 ≤ j) (h4 : j ≤ 4) : sg ds q (j - 1) = sg ds q j * 65536 + ds.getD (4 * q + (j - 1)) 0 := by
  unfold sg
  rw [show 4 - (j - 1) = 1 + (4 - j) by omega, vs_add]
  have e : vs 65536 (fun i => ds.getD (4 * q + (j - 1) + (1 + i)) 0) (4 - j) = vs 65536 (fun t => ds.getD (4 * q + j + t) 0) (4 - j) :=
    vs_congr (fun i _ => by rw [show 4 * q + (j - 1) + (1 + i) = 4 * q + j + i by omega])
  rw [e]
  simp only [vs, Int.pow_zero, Nat.add_zero]
  omega

theorem sg_small {ds : List Int} (hd : Digs 65536 ds) (q j : Nat) (h1 : 1 ≤ j) : sg ds q j < 281474976710656 := by
  have h := (sg_bd hd q j).2
  have h2 := pow_mono (B := 65536) (by decide) (show 4 - j ≤ 3 by omega)
  have e : (65536 : Int) ^ 3 = 281474976710656 := by decide
  omega

theorem out_step {ds ls : List Int} {q : Nat} (hd : Digs 65536 ds) (hl : ls.length = q) (hld : Digs 18446744073709551616 ls) (hv : val 18446744073709551616 ls = val 65536 (ds.take (4 * q))) :
    (ls ++ [sg ds q 0]).length = q + 1 ∧ Digs 18446744073709551616 (ls ++ [sg ds q 0]) ∧ val 18446744073709551616 (ls ++ [sg ds q 0]) = val 65536 (ds.take (4 * (q + 1))) := by
  have b := sg_bd hd q 0
  have e4 : (65536 : Int) ^ (4 - 0) = 18446744073709551616 := by decide
  rw [e4] at b
  refine ⟨by simp [hl], hld.snoc b, ?_⟩
  rw [val_snoc, hl, hv, ← vs_val, ← vs_val, show 4 * (q + 1) = 4 * q + 4 by omega, vs_add]
  have e : (18446744073709551616 : Int) ^ q = 65536 ^ (4 * q) := by rw [Int.pow_mul]; congr 1
  rw [e]
  rfl

theorem out_top {ds ls : List Int} {q : Nat} (hd : Digs 65536 ds) (ht : Top ds) (hl : ls.length = q) (hld : Digs 18446744073709551616 ls) (hv : val 18446744073709551616 ls = val 65536 ds) (hq : q = 0 ∨ 4 * (q - 1) < ds.length) : Top ls := by
  by_cases h0 : q = 0
  · left; exact List.eq_nil_of_length_eq_zero (by omega)
  · right
    intro hz
    rw [hl] at hz
    have h1 := val_take_succ 18446744073709551616 ls (q - 1) (by omega)
    rw [show q - 1 + 1 = q by omega, List.take_of_length_le (by omega), hz] at h1
    have h2 := val_lt (B := 18446744073709551616) (by decide) (hld.take (q - 1))
    rw [List.length_take, Nat.min_eq_left (by omega)] at h2
    have h3 := val_ge (B := 65536) (by decide) hd ht (by intro e; subst e; simp at hq; omega)
    have h4 := pow_mono (B := 65536) (by decide) (show 4 * (q - 1) ≤ ds.length - 1 by omega)
    have e : (18446744073709551616 : Int) ^ (q - 1) = 65536 ^ (4 * (q - 1)) := by rw [Int.pow_mul]; congr 1
    rw [e] at h2
    omega

set_option maxHeartbeats 800000 in
theorem out_new (a : Option Addr) (len cap : Nat) (ds : List Int) (w : World) (h : Nums w a len cap ds) (hd : Digs 65536 ds) (ht : Top ds) (hn : len ≤ 100000) :
    Calls Try.prog 58 #[.slice a len cap] w fun e w' => ∃ a' n cap' ls, e = .returned (.tuple #[.slice a' n cap', .bool (decide ((n : Int) ≤ 64))]) ∧ Nums w' a' n cap' ls ∧ Digs 18446744073709551616 ls ∧ Top ls ∧ val 18446744073709551616 ls = val 65536 ds ∧ (∀ ad, a' = some ad → w.heap.size ≤ ad.block ∧ ∃ cur, w'.heap[ad.block]? = some (.cells cur 45 (0, 0))) ∧ Below w.heap.size w w' := by
  have HL : Hid (ds.length = len) := h.hlen
  go_enter Try.func58, Try.ntmps58
  go_wp2
  go_loopw [4, 5] (fun v i wr => ∃ q : Nat, i = .int .i64 (4 * (q : Int)) ∧ (q = 0 ∨ 4 * (q - 1) < len) ∧ ∃ ls, Own wr w.heap.size v ls ∧ ls.length = q ∧ Digs 18446744073709551616 ls ∧ val 18446744073709551616 ls = val 65536 (ds.take (4 * q)) ∧ Below w.heap.size w wr) (fun _ i _ => len + 4 - (intOf i).toNat)
  case atStart => exact ⟨0, rfl, .inl rfl, [], Own.nil _ _, rfl, Digs.nil _, by simp [val], Below.refl _ _⟩
  case round =>
    obtain ⟨q, rfl, hq, ls, hown, hll, hld, hlv, hb⟩ := hrel
    have HV : Hid (ls.length = q ∧ Digs 18446744073709551616 ls ∧ val 18446744073709551616 ls = val 65536 (ds.take (4 * q))) := ⟨hll, hld, hlv⟩
    have hq5 : q ≤ 50000 := by omega
    have hlb : ls.length < 1000000 := by omega
    have HQ : Hid (q = 0 ∨ 4 * (q - 1) < len) := hq
    have R := out_step hd hll hld hlv
    have HR : Hid ((ls ++ [sg ds q 0]).length = q + 1 ∧ Digs 18446744073709551616 (ls ++ [sg ds q 0]) ∧ val 18446744073709551616 (ls ++ [sg ds q 0]) = val 65536 (ds.take (4 * (q + 1)))) := R
    clear hll hld hlv R hq
    by_cases hlt : 4 * q < len
    · have hlti : 4 * (q : Int) < (len : Int) := by omega
      obtain ⟨b, off, rfl, hcell⟩ := h.cells (by omega)
      have hlt1 := World.block_lt_of_cell? w _ (hcell 0 (by omega))
      have hcw : ∀ i, i < len → wr.cell? ⟨b, off + i, none⟩ = some (.int .u64 (ds.getD i 0)) := fun i hi => (hb.cell (p := ⟨b, off + i, none⟩) hlt1).trans (hcell i hi)
      have HC : Hid (∀ i, i < len → wr.cell? ⟨b, off + i, none⟩ = some (.int .u64 (ds.getD i 0))) := hcw
      clear hcw hcell
      go_wp2
      go_loop [6, 7] (fun xv kk => ∃ j : Nat, j ≤ 4 ∧ kk = .int .i64 ((j : Int) - 1) ∧ xv = .int .u64 (sg ds q j)) (fun _ kk => (intOf kk + 1).toNat)
      case atStart => exact ⟨4, by omega, rfl, by simp [sg, vs]⟩
      case round =>
        obtain ⟨j, hj4, rfl, rfl⟩ := hrel
        by_cases hj0 : j = 0
        · subst hj0
          have hs := sg_bd hd q 0
          obtain ⟨X, hX⟩ : ∃ X, X = sg ds q 0 := ⟨_, rfl⟩
          have HX : Hid (X = sg ds q 0) := hX
          rw [← hX] at hs ⊢
          clear hX
          go_wp2_with (at_builtin; refine wpList_app1 _ rfl _ _ 26 rfl Try.underlying26 w.heap.size _ ls rfl (hown.alloc _) ⟨wr.heap.size, 0, none⟩ X rfl ?c1 hlb w ?c2 ?c3 ?_)
          case c2 => have := hb.size; simp; omega
          case c3 => exact hb.alloc hb.size _
          intro v' w2 hown1 hb1
          clear hown hb
          go_wp2
          go_roundw
          case rel =>
            refine ⟨q + 1, by go_num, .inr (by simpa using hlt), ls ++ [X], hown1, ?_, ?_, ?_, hb1⟩
            · rw [HX.out]; exact HR.out.1
            · rw [HX.out]; exact HR.out.2.1
            · rw [HX.out]; exact HR.out.2.2
          case measure => simp [intOf]; omega
        · have hs0 := (sg_bd hd q j).1
          have hs1 := sg_small hd q j (by omega)
          obtain ⟨X, hX⟩ : ∃ X, X = sg ds q j := ⟨_, rfl⟩
          have hst := sg_step ds q j (by omega) hj4
          rw [← hX] at hs0 hs1 hst ⊢
          have HS : Hid (sg ds q (j - 1) = X * 65536 + ds.getD (4 * q + (j - 1)) 0) := hst
          clear hst hX
          have hj1 : 0 ≤ (j : Int) - 1 := by omega
          by_cases hin : 4 * q + (j - 1) < len
          · have hini : 4 * (q : Int) + ((j : Int) - 1) < (len : Int) := by omega
            have c1 := HC.out _ hin
            have hyb := hd.getD (by decide) (4 * q + (j - 1))
            obtain ⟨y, hy⟩ : ∃ y, y = ds.getD (4 * q + (j - 1)) 0 := ⟨_, rfl⟩
            rw [← hy] at c1 hyb
            have HY : Hid (y = ds.getD (4 * q + (j - 1)) 0) := hy
            clear hy
            go_wp2
            go_round
            case rel => exact ⟨j - 1, by omega, by go_num, by rw [HS.out, ← HY.out]⟩
            case measure => simp [intOf]; omega
          · have hini : decide (4 * (q : Int) + ((j : Int) - 1) < (len : Int)) = false := by simp; omega
            go_wp2
            go_round
            case rel =>
              refine ⟨j - 1, by omega, by go_num, ?_⟩
              have e : ds.getD (4 * q + (j - 1)) 0 = 0 := by simp only [List.getD]; rw [List.getElem?_eq_none (by have := HL.out; omega)]; rfl
              rw [HS.out, e]; simp
            case measure => simp [intOf]; omega
    · have hlti : decide (4 * (q : Int) < (len : Int)) = false := by simp; omega
      obtain ⟨a1, n1, cap1, rfl, hnums⟩ := hown.numsN HV.out.2.1
      have HFR : Hid (∀ ad, a1 = some ad → w.heap.size ≤ ad.block ∧ ∃ cur, wr.heap[ad.block]? = some (.cells cur 45 (0, 0))) := fun ad e => ⟨(World.ownsRow.lt hown ad.block (by rw [e]; rfl)).1, by
        obtain ⟨_, ⟨e2, _⟩ | ⟨g, cap, cur, e2, _, e3, _⟩⟩ := hown
        · rw [e] at e2
          simp at e2
        · rw [e] at e2
          simp at e2
          rw [e2.1]
          exact ⟨cur, e3⟩⟩
      have hv : val 18446744073709551616 ls = val 65536 ds := by rw [HV.out.2.2, List.take_of_length_le (by have := HL.out; omega)]
      have htop := out_top hd ht HV.out.1 HV.out.2.1 hv (by have := HL.out; have := HQ.out; omega)
      have HF : Hid (val 18446744073709551616 ls = val 65536 ds ∧ Top ls) := ⟨hv, htop⟩
      clear hv htop hown
      go_wp2
      go_ret2
      exact ⟨_, _, _, _, rfl, hnums, HV.out.2.1, HF.out.2, HF.out.1, HFR.out, hb⟩
theorem out_any (a : Option Addr) (len cap : Nat) (ds : List Int) (w : World) (h : Nums w a len cap ds) (hd : Digs 65536 ds) (ht : Top ds) (hn : len ≤ 100000) :
    Calls Try.prog 58 #[.slice a len cap] w fun e w' => ∃ a' n cap' ls, e = .returned (.tuple #[.slice a' n cap', .bool (decide ((n : Int) ≤ 64))]) ∧ Nums w' a' n cap' ls ∧ Digs 18446744073709551616 ls ∧ Top ls ∧ val 18446744073709551616 ls = val 65536 ds ∧ Below w.heap.size w w' :=
  (out_new a len cap ds w h hd ht hn).mono fun _ _ ⟨a', n, c', ls, h1, h2, h3, h4, h5, _, h6⟩ => ⟨a', n, c', ls, h1, h2, h3, h4, h5, h6⟩

set_option maxHeartbeats 400000 in
theorem told_new (a : Option Addr) (len cap : Nat) (ds : List Int) (w : World) (h : Nums w a len cap ds) (hd : Digs 65536 ds) (ht : Top ds) (hn : len ≤ 100000) :
    Calls Try.prog 53 #[.slice a len cap] w fun e w' => ∃ a' n cap' ls err, e = .returned (.tuple #[.slice a' n cap', .int .i64 err]) ∧ Nums w' a' n cap' ls ∧ Res (val 65536 ds) ls err ∧ (∀ ad, a' = some ad → w.heap.size ≤ ad.block ∧ ∃ cur, w'.heap[ad.block]? = some (.cells cur 45 (0, 0))) ∧ Below w.heap.size w w' := by
  go_enter Try.func53, Try.ntmps53
  go_wp2_with fail
  refine (out_new _ _ _ _ _ h hd ht hn).mono ?_
  rintro e w1 ⟨a', n, cap', ls, rfl, hls, hld, hlt, hv, hfr, hb⟩
  have HFR : Hid (∀ ad, a' = some ad → w.heap.size ≤ ad.block ∧ ∃ cur, w1.heap[ad.block]? = some (.cells cur 45 (0, 0))) := hfr
  clear hfr
  have hll := hls.hlen
  by_cases h64 : n ≤ 64
  · have hdc : decide ((n : Int) ≤ 64) = true := by simp; omega
    have hres : Res (val 65536 ds) ls 0 := .inl ⟨rfl, hld, hlt, by omega, hv⟩
    have HH : Hid (Res (val 65536 ds) ls 0) := hres
    rw [hdc]
    clear hres hv hll hdc
    go_wp2_with fail
    go_ret2
    exact ⟨_, _, _, _, _, rfl, hls, HH.out, HFR.out, hb⟩
  · have hdc : decide ((n : Int) ≤ 64) = false := by simp; omega
    have hres : Res (val 65536 ds) [] 4 := .inr ⟨rfl, rfl, ls, hld, hlt, hv, by omega⟩
    have HH : Hid (Res (val 65536 ds) [] 4) := hres
    rw [hdc]
    clear hres hv hll hdc
    go_wp2_with fail
    go_ret2
    exact ⟨none, 0, 0, [], 4, rfl, Nums.nil _, HH.out, fun _ e => (by cases e), hb⟩
theorem told_any (a : Option Addr) (len cap : Nat) (ds : List Int) (w : World) (h : Nums w a len cap ds) (hd : Digs 65536 ds) (ht : Top ds) (hn : len ≤ 100000) :
    Calls Try.prog 53 #[.slice a len cap] w fun e w' => ∃ a' n cap' ls err, e = .returned (.tuple #[.slice a' n cap', .int .i64 err]) ∧ Nums w' a' n cap' ls ∧ Res (val 65536 ds) ls err ∧ Below w.heap.size w w' :=
  (told_new a len cap ds w h hd ht hn).mono fun _ _ ⟨a', n, c', ls, err, h1, h2, h3, _, h4⟩ => ⟨a', n, c', ls, err, h1, h2, h3, h4⟩

theorem in_len {ds zs : List Int} {k : Nat} (hd : Digs 65536 ds) (ht : Top ds) (hv : val 65536 ds = val 18446744073709551616 zs) (hz : Digs 18446744073709551616 zs) (hl : zs.length ≤ k) : ds.length ≤ 4 * k := by
  refine len_le (B := 65536) (by decide) hd ht ?_
  have e : (65536 : Int) ^ (4 * k) = 18446744073709551616 ^ k := by rw [Int.pow_mul]; congr 1
  rw [hv, e]
  exact val_lt_pow (by decide) hz hl

end Go.Proofs.Ytchmlfjjgehbkaa

namespace Go.Proofs.Ytchmlfjjgehbkaa
open Go.RowKit

theorem rsub_step {os : List Int} {zs ys : List Int} {k : Nat} {bw x y : Int} (hol : os.length = k) (hod : Digs 65536 os) (hzd : Digs 65536 zs) (hyd : Digs 65536 ys) (hb : 0 ≤ bw ∧ bw ≤ 1)
    (hv : val 65536 os - 65536 ^ k * bw = vs 65536 (fun i => zs.getD i 0) k - vs 65536 (fun i => ys.getD i 0) k) (hx : x = zs.getD k 0) (hy : y = ys.getD k 0) :
    (os ++ [(65536 + x - y - bw) % 65536]).length = k + 1 ∧ Digs 65536 (os ++ [(65536 + x - y - bw) % 65536]) ∧ (0 ≤ 1 - (65536 + x - y - bw) / 65536 ∧ 1 - (65536 + x - y - bw) / 65536 ≤ 1) ∧
    val 65536 (os ++ [(65536 + x - y - bw) % 65536]) - 65536 ^ (k + 1) * (1 - (65536 + x - y - bw) / 65536) = vs 65536 (fun i => zs.getD i 0) (k + 1) - vs 65536 (fun i => ys.getD i 0) (k + 1) := by
  have bx : 0 ≤ x ∧ x < 65536 := by rw [hx]; exact hzd.getD (by decide) _
  have by' : 0 ≤ y ∧ y < 65536 := by rw [hy]; exact hyd.getD (by decide) _
  refine ⟨by simp [hol], hod.snoc ⟨by omega, by omega⟩, ⟨by omega, by omega⟩, ?_⟩
  simp only [vs]
  rw [val_snoc, hol, ← hx, ← hy, Int.pow_succ, Int.mul_assoc]
  generalize (65536 : Int) ^ k = P at hv ⊢
  have e0 : (65536 + x - y - bw) % 65536 - 65536 * (1 - (65536 + x - y - bw) / 65536) = x - y - bw := by omega
  generalize (65536 + x - y - bw) % 65536 = r at e0 ⊢
  generalize 1 - (65536 + x - y - bw) / 65536 = t at e0 ⊢
  have e : P * r - P * (65536 * t) = P * x - P * y - P * bw := by rw [← Int.mul_sub, e0, Int.mul_sub, Int.mul_sub]
  omega

set_option maxHeartbeats 800000 in
theorem rsub_any (a b : Option Addr) (la ca lb cb : Nat) (zs ys : List Int) (w : World) (h : Nums w a la ca zs) (h' : Nums w b lb cb ys) (dz : Digs 65536 zs) (dy : Digs 65536 ys) (ty : Top ys) (hge : val 65536 ys ≤ val 65536 zs) (hla : la ≤ 100000) :
    Calls Try.prog 72 #[.slice a la ca, .slice b lb cb] w fun e w' => ∃ a' n cap' ds, e = .returned (.slice a' n cap') ∧ Nums w' a' n cap' ds ∧ Digs 65536 ds ∧ Top ds ∧ n ≤ la ∧
      (a' = none → cap' = 0) ∧ val 65536 ds = val 65536 zs - val 65536 ys ∧ Below w.heap.size w w' := by
  have HL : Hid (zs.length = la ∧ ys.length = lb) := ⟨h.hlen, h'.hlen⟩
  have HG : Hid (val 65536 ys ≤ val 65536 zs) := hge
  clear hge
  go_enter Try.func72, Try.ntmps72
  go_wp2
  go_loopw [5, 6, 7] (fun v cv i wr => ∃ k : Nat, k ≤ la ∧ i = .int .i64 k ∧ ∃ os bw, cv = .int .u64 bw ∧ Own wr w.heap.size v os ∧ os.length = k ∧ Digs 65536 os ∧ (0 ≤ bw ∧ bw ≤ 1) ∧
      val 65536 os - 65536 ^ k * bw = vs 65536 (fun i => zs.getD i 0) k - vs 65536 (fun i => ys.getD i 0) k ∧ Below w.heap.size w wr) (fun _ _ i _ => la - (intOf i).toNat)
  case atStart => exact ⟨0, Nat.zero_le _, rfl, [], 0, rfl, Own.nil _ _, rfl, Digs.nil _, by omega, by simp [vs, val], Below.refl _ _⟩
  case round =>
    obtain ⟨k, hk, rfl, os, bw, rfl, hown, hol, hod, hbw, hv, hb⟩ := hrel
    obtain ⟨x, hx⟩ : ∃ x, x = zs.getD k 0 := ⟨_, rfl⟩
    obtain ⟨y, hy⟩ : ∃ y, y = ys.getD k 0 := ⟨_, rfl⟩
    have bx : 0 ≤ x ∧ x < 65536 := by rw [hx]; exact dz.getD (by decide) _
    have by' : 0 ≤ y ∧ y < 65536 := by rw [hy]; exact dy.getD (by decide) _
    have R := rsub_step hol hod dz dy hbw hv hx hy
    have HR : Hid ((os ++ [(65536 + x - y - bw) % 65536]).length = k + 1 ∧ Digs 65536 (os ++ [(65536 + x - y - bw) % 65536]) ∧ (0 ≤ 1 - (65536 + x - y - bw) / 65536 ∧ 1 - (65536 + x - y - bw) / 65536 ≤ 1) ∧
      val 65536 (os ++ [(65536 + x - y - bw) % 65536]) - 65536 ^ (k + 1) * (1 - (65536 + x - y - bw) / 65536) = vs 65536 (fun i => zs.getD i 0) (k + 1) - vs 65536 (fun i => ys.getD i 0) (k + 1)) := R
    have HX : Hid (x = zs.getD k 0 ∧ y = ys.getD k 0) := ⟨hx, hy⟩
    have HV : Hid (os.length = k ∧ Digs 65536 os ∧ val 65536 os - 65536 ^ k * bw = vs 65536 (fun i => zs.getD i 0) k - vs 65536 (fun i => ys.getD i 0) k) := ⟨hol, hod, hv⟩
    have holb : os.length < 1000000 := by omega
    have hz1 := h.below hb
    have hy1 := h'.below hb
    clear R hx hy hol hod hv
    by_cases hlt1 : k < la
    · have hi1 : (k : Int) < (la : Int) := by omega
      obtain ⟨b1, o1, rfl, hc⟩ := hz1.cells (by omega)
      have c1 : wr.cell? ⟨b1, o1 + k, none⟩ = some (.int .u64 x) := by rw [HX.out.1]; exact hc k hlt1
      clear hc
      have hdg := fun wx (hn : Nums wx b lb cb ys) => digit_any b lb cb ys k wx hn
      rw [← HX.out.2] at hdg
      have HDG : Hid (∀ wx, Nums wx b lb cb ys → Calls Try.prog 88 #[.slice b lb cb, .int .i64 (k : Int)] wx fun e w' => e = .returned (.int .u64 y) ∧ w' = wx) := hdg
      clear hdg
      go_wp2_with fail
      go_quiet ((go_at_call 88; exact Calls.quiet_of_same (HDG.out _ ⟨hy1.hlen, hy1.hcap, hy1.hmax, hy1.cells, hy1.word⟩)))
      have hown1 := hown.drewN nq
      have hb1 := below_drewN hb nq
      generalize wr.drewN nq = w1 at hown1 hb1 ⊢
      clear hown hb c1 hz1 hy1
      go_wp2_with (at_builtin; refine wpList_app1 _ rfl _ _ 81 rfl Try.underlying81 w.heap.size _ os rfl (hown1.alloc _) ⟨w1.heap.size, 0, none⟩ ((65536 + x - y - bw) % 65536) rfl ?c1 holb w ?c2 ?c3 ?_)
      try (case c1 => simp)
      case c2 => have := hb1.size; simp; omega
      case c3 => exact hb1.alloc hb1.size _
      intro v' w2 hown2 hb2
      clear hown1 hb1
      go_wp2
      go_roundw
      case rel => exact ⟨k + 1, by omega, by go_num, _, _, rfl, hown2, HR.out.1, HR.out.2.1, HR.out.2.2.1, HR.out.2.2.2, hb2⟩
      case measure => simp [intOf]; omega
    · obtain rfl : k = la := by omega
      have hfin := sub_end (M := os) (B := 65536) (by decide) dz dy ty HG.out HV.out.2.1 HL.out.1 (by have := HL.out; have := HV.out.1; omega) hbw (by
        simp only [Nat.zero_add]
        rw [vs_all _ os (by have := HV.out.1; omega)]; exact HV.out.2.2)
      have HF : Hid (val 65536 os = val 65536 zs - val 65536 ys) := hfin
      clear hfin
      obtain ⟨a1, n1, cap1, rfl, hnums, hz⟩ := hown.numsZ HV.out.2.1.wide
      clear hown
      go_wp2_with fail
      refine (cut_any _ _ _ _ _ hnums).mono ?_
      rintro e w' ⟨q, rfl, htr, rfl⟩
      have hq : q ≤ n1 := by have := htr.le; have := hnums.hlen; omega
      have hn1 : n1 = k := by have := hnums.hlen; have := HV.out.1; omega
      have HT : Hid (Trim os q ∧ q ≤ k) := ⟨htr, by omega⟩
      clear htr hn1
      go_wp2_with fail
      go_ret
      exact ⟨_, _, _, os.take q, rfl, hnums.take hq, HV.out.2.1.take q, HT.out.1.Top, HT.out.2, hz, by rw [HT.out.1.val]; exact HF.out, hb⟩
end Go.Proofs.Ytchmlfjjgehbkaa

namespace Go.Proofs.Ytchmlfjjgehbkaa
open Go.RowKit

theorem rmul_step {M ys : List Int} {i k n : Nat} {x y m c V0 : Int} (hlt : i + k < n) (hM : Digs 65536 M) (hx : 0 ≤ x ∧ x < 65536) (hyd : Digs 65536 ys) (hn : M.length = n) (hc : 0 ≤ c ∧ c < 65536) (hm : m = M.getD (i + k) 0) (hy : y = ys.getD k 0)
    (hv : vs 65536 (fun j => M.getD j 0) n + 65536 ^ (i + k) * c = V0 + 65536 ^ i * (x * vs 65536 (fun j => ys.getD j 0) k)) :
    (M.set (i + k) ((m + x * y + c) % 65536)).length = n ∧ Digs 65536 (M.set (i + k) ((m + x * y + c) % 65536)) ∧ (0 ≤ (m + x * y + c) / 65536 ∧ (m + x * y + c) / 65536 < 65536) ∧
    vs 65536 (fun j => (M.set (i + k) ((m + x * y + c) % 65536)).getD j 0) n + 65536 ^ (i + (k + 1)) * ((m + x * y + c) / 65536) = V0 + 65536 ^ i * (x * vs 65536 (fun j => ys.getD j 0) (k + 1)) := by
  have bm : 0 ≤ m ∧ m < 65536 := by rw [hm]; exact hM.getD (by decide) _
  have by' : 0 ≤ y ∧ y < 65536 := by rw [hy]; exact hyd.getD (by decide) _
  have p0 : 0 ≤ x * y := Int.mul_nonneg hx.1 by'.1
  have p1 : x * y ≤ 65535 * y := Int.mul_le_mul_of_nonneg_right (by omega) by'.1
  refine ⟨by simpa using hn, hM.set _ ⟨by omega, by omega⟩, ⟨by omega, by omega⟩, ?_⟩
  rw [vs_set hlt (by omega), ← hm]
  simp only [vs]
  rw [← hy, show i + (k + 1) = (i + k) + 1 by omega, Int.pow_succ, Int.mul_assoc]
  have e1 : (65536 : Int) ^ i * (x * (vs 65536 (fun j => ys.getD j 0) k + 65536 ^ k * y)) = 65536 ^ i * (x * vs 65536 (fun j => ys.getD j 0) k) + 65536 ^ (i + k) * (x * y) := by
    rw [Int.mul_add, Int.mul_add, Int.pow_add, Int.mul_assoc (65536 ^ i), Int.mul_left_comm x]
  rw [e1]
  generalize (65536 : Int) ^ (i + k) = P at hv ⊢
  have e0 : (m + x * y + c) % 65536 + 65536 * ((m + x * y + c) / 65536) = m + x * y + c := by omega
  generalize (m + x * y + c) % 65536 = r at e0 ⊢
  generalize (m + x * y + c) / 65536 = t at e0 ⊢
  have e2 : P * (r - m) + P * (65536 * t) = P * (x * y) + P * c := by rw [← Int.mul_add, ← Int.mul_add]; congr 1; omega
  omega

theorem rmul_end {M zs ys : List Int} {i n : Nat} {x c : Int} (hn : M.length = n) (hi : i < zs.length) (hlt : i + ys.length < n) (hx : x = zs.getD i 0) (hz : M.getD (i + ys.length) 0 = 0)
    (hv : vs 65536 (fun j => M.getD j 0) n + 65536 ^ (i + ys.length) * c = val 65536 (zs.take i) * val 65536 ys + 65536 ^ i * (x * vs 65536 (fun j => ys.getD j 0) ys.length)) :
    vs 65536 (fun j => (M.set (i + ys.length) c).getD j 0) n = val 65536 (zs.take (i + 1)) * val 65536 ys := by
  rw [vs_set hlt (by omega), hz, val_take_succ _ _ _ hi, ← hx, Int.add_mul, Int.mul_assoc, Int.sub_zero, hv, vs_all _ ys (Nat.le_refl _)]

set_option maxHeartbeats 1600000 in
theorem rmul_any (a b : Option Addr) (la ca lb cb : Nat) (zs ys : List Int) (w : World) (h : Nums w a la ca zs) (h' : Nums w b lb cb ys) (dz : Digs 65536 zs) (dy : Digs 65536 ys) (hla : la ≤ 10000) (hlb : lb ≤ 10000) :
    Calls Try.prog 54 #[.slice a la ca, .slice b lb cb] w fun e w' => ∃ a' n cap' ds, e = .returned (.slice a' n cap') ∧ Nums w' a' n cap' ds ∧ Digs 65536 ds ∧ Top ds ∧ n ≤ la + lb ∧
      val 65536 ds = val 65536 zs * val 65536 ys ∧ Below w.heap.size w w' := by
  have HL : Hid (zs.length = la ∧ ys.length = lb) := ⟨h.hlen, h'.hlen⟩
  go_enter Try.func54, Try.ntmps54
  go_wp2_with (at_make; refine wpList_mk _ rfl _ _ 81 rfl Try.underlying81 .i64 .i64 _ _ (la + lb) rfl rfl (by omega) (by omega) (by omega) ?_)
  intro w1 hb1 hbel hsz
  have h1 := h.below hbel
  have h1' := h'.below hbel
  have hz0 : vs 65536 (fun j => (noughts (la + lb)).getD j 0) (la + lb) = val 65536 (zs.take 0) * val 65536 ys := by
    rw [vs_zero _ (fun i hi => by simp [noughts, List.getD, hi])]; simp [val]
  have HN : Hid (vs 65536 (fun j => (noughts (la + lb)).getD j 0) (la + lb) = val 65536 (zs.take 0) * val 65536 ys ∧ (noughts (la + lb)).length = la + lb ∧ Digs 65536 (noughts (la + lb)) ∧ ∀ j, (noughts (la + lb)).getD j 0 = 0) :=
    ⟨hz0, length_noughts _, fun x hx => by rw [(List.mem_replicate.1 hx).2]; omega, fun j => by simp only [noughts, List.getD, List.getElem?_replicate]; split <;> rfl⟩
  clear hz0
  go_wp2
  go_loopw [6] (fun iv wr => ∃ i : Nat, i ≤ la ∧ iv = .int .i64 i ∧ ∃ M, Blk wr w.heap.size M ∧ M.length = la + lb ∧ Digs 65536 M ∧ (∀ j, i + lb ≤ j → M.getD j 0 = 0) ∧
      vs 65536 (fun j => M.getD j 0) (la + lb) = val 65536 (zs.take i) * val 65536 ys ∧ Below w.heap.size w wr) (fun iv _ => la - (intOf iv).toNat)
  case atStart => exact ⟨0, Nat.zero_le _, rfl, _, hb1, HN.out.2.1, HN.out.2.2.1, fun j _ => HN.out.2.2.2 j, HN.out.1, hbel⟩
  case round =>
    obtain ⟨i, hi, rfl, M, hbM, hMl, hMd, hMz, hMv, hb⟩ := hrel
    have HM : Hid (M.length = la + lb ∧ Digs 65536 M ∧ (∀ j, i + lb ≤ j → M.getD j 0 = 0) ∧ vs 65536 (fun j => M.getD j 0) (la + lb) = val 65536 (zs.take i) * val 65536 ys) := ⟨hMl, hMd, hMz, hMv⟩
    clear hMl hMd hMz hMv
    have hz2 := h.below hb
    by_cases hlt : i < la
    · obtain ⟨b1, o1, rfl, hc⟩ := hz2.cells (by omega)
      obtain ⟨b1', o1', e', hc'⟩ := h.cells (by omega)
      cases e'
      have hlt1 := World.block_lt_of_cell? w _ (hc' 0 (by omega))
      obtain ⟨x, hx⟩ : ∃ x, x = zs.getD i 0 := ⟨_, rfl⟩
      have c1 : ∀ wx, Below w.heap.size w wx → wx.cell? ⟨b1, o1 + i, none⟩ = some (.int .u64 x) := fun wx hbx => by rw [hx]; exact (hbx.cell (p := ⟨b1, o1 + i, none⟩) hlt1).trans (hc' i hlt)
      have HC : Hid (∀ wx, Below w.heap.size w wx → wx.cell? ⟨b1, o1 + i, none⟩ = some (.int .u64 x)) := c1
      have bx : 0 ≤ x ∧ x < 65536 := by rw [hx]; exact dz.getD (by decide) _
      have HX : Hid (x = zs.getD i 0) := hx
      clear hx c1 hc hc'
      have hlti : (i : Int) < (la : Int) := by omega
      go_wp2
      go_loopw [7, 8] (fun cv kv wq => ∃ k : Nat, k ≤ lb ∧ kv = .int .i64 k ∧ ∃ N c, cv = .int .u64 c ∧ Blk wq w.heap.size N ∧ N.length = la + lb ∧ Digs 65536 N ∧ (0 ≤ c ∧ c < 65536) ∧ (∀ j, i + lb ≤ j → N.getD j 0 = 0) ∧
          vs 65536 (fun j => N.getD j 0) (la + lb) + 65536 ^ (i + k) * c = val 65536 (zs.take i) * val 65536 ys + 65536 ^ i * (x * vs 65536 (fun j => ys.getD j 0) k) ∧ Below w.heap.size w wq) (fun _ kv _ => lb - (intOf kv).toNat)
      case atStart => exact ⟨0, Nat.zero_le _, rfl, M, 0, rfl, hbM, HM.out.1, HM.out.2.1, by omega, HM.out.2.2.1, by rw [HM.out.2.2.2]; simp [vs], hb⟩
      case round =>
        obtain ⟨k, hk, rfl, N, c, rfl, hbN, hNl, hNd, hcb, hNz, hNv, hbq⟩ := hrel
        have HNN : Hid (N.length = la + lb ∧ Digs 65536 N ∧ (∀ j, i + lb ≤ j → N.getD j 0 = 0) ∧ vs 65536 (fun j => N.getD j 0) (la + lb) + 65536 ^ (i + k) * c = val 65536 (zs.take i) * val 65536 ys + 65536 ^ i * (x * vs 65536 (fun j => ys.getD j 0) k)) := ⟨hNl, hNd, hNz, hNv⟩
        have hNl' : N.length ≤ 20000 := by omega
        clear hNl hNd hNz hNv
        by_cases hltk : k < lb
        · have hltki : (k : Int) < (lb : Int) := by omega
          have hik : (i : Int) + (k : Int) < ((la : Int) + (lb : Int)) := by omega
          obtain ⟨b2, o2, rfl, hc2⟩ := h'.cells (by omega)
          have hlt2 := World.block_lt_of_cell? w _ (hc2 0 (by omega))
          obtain ⟨y, hy⟩ : ∃ y, y = ys.getD k 0 := ⟨_, rfl⟩
          obtain ⟨m, hm⟩ : ∃ m, m = N.getD (i + k) 0 := ⟨_, rfl⟩
          have d1 := HC.out wr hbq
          have d2 : wr.cell? ⟨b2, o2 + k, none⟩ = some (.int .u64 y) := by rw [hy]; exact (hbq.cell (p := ⟨b2, o2 + k, none⟩) hlt2).trans (hc2 k hltk)
          have d3 : wr.cell? ⟨w.heap.size, i + k, none⟩ = some (.int .u64 m) := by rw [hm]; exact hbN.cell (by have := HNN.out.1; omega)
          have R := rmul_step (V0 := val 65536 (zs.take i) * val 65536 ys) (show i + k < la + lb by omega) HNN.out.2.1 bx dy HNN.out.1 hcb hm hy HNN.out.2.2.2
          have bm : 0 ≤ m ∧ m < 65536 := by rw [hm]; exact HNN.out.2.1.getD (by decide) _
          have by' : 0 ≤ y ∧ y < 65536 := by rw [hy]; exact dy.getD (by decide) _
          have p0 : 0 ≤ x * y := Int.mul_nonneg bx.1 by'.1
          have p1 : x * y ≤ 65535 * y := Int.mul_le_mul_of_nonneg_right (by omega) by'.1
          have p2 : x * y ≤ 4294836225 := by omega
          have HR := (show Hid _ from R)
          have HB := (show Hid _ from hbN.set (i + k) ((m + x * y + c) % 65536))
          have HG : Hid (Below w.heap.size w (wr.setCell ⟨w.heap.size, i + k, none⟩ (.int .u64 ((m + x * y + c) % 65536)))) := hbq.setCell (Nat.le_refl _) _
          have HZ : Hid (∀ j, i + lb ≤ j → (N.set (i + k) ((m + x * y + c) % 65536)).getD j 0 = 0) := fun j hj => by rw [getD_set_ne (by omega)]; exact HNN.out.2.2.1 j hj
          have hf1 : wr.frozen? ⟨w.heap.size, i + k, none⟩ = false := hbN.frozen _
          clear R hy hm hc2 p1 hbN hbq
          go_wp2
          go_quiet (fail)
          go_wp2
          go_roundw
          case rel => exact ⟨k + 1, by omega, by go_num, _, _, rfl, HB.out, HR.out.1, HR.out.2.1, HR.out.2.2.1, HZ.out, HR.out.2.2.2, below_drewN HG.out _⟩
          case measure => simp [intOf]; omega
        · obtain rfl : k = lb := by omega
          have hbb : (i : Int) + (k : Int) < ((la : Int) + (k : Int)) := by omega
          have hf1 : wr.frozen? ⟨w.heap.size, i + k, none⟩ = false := hbN.frozen _
          have R := rmul_end (c := c) (x := x) (M := N) (zs := zs) (ys := ys) (i := i) (n := la + k) HNN.out.1 (by have := HL.out; omega) (by have := HL.out; omega) HX.out (HNN.out.2.2.1 _ (by have := HL.out; omega)) (by rw [HL.out.2]; exact HNN.out.2.2.2)
          rw [HL.out.2] at R
          have HR : Hid (vs 65536 (fun j => (N.set (i + k) c).getD j 0) (la + k) = val 65536 (zs.take (i + 1)) * val 65536 ys) := R
          have hcc : ∃ v, wr.cell? ⟨w.heap.size, i + k, none⟩ = some v := ⟨_, hbN.cell (by have := HNN.out.1; omega)⟩
          obtain ⟨v0, hcc⟩ := hcc
          have HB := (show Hid _ from hbN.set (i + k) c)
          have HG : Hid (Below w.heap.size w (wr.setCell ⟨w.heap.size, i + k, none⟩ (.int .u64 c))) := hbq.setCell (Nat.le_refl _) _
          have HZ : Hid (∀ j, i + 1 + k ≤ j → (N.set (i + k) c).getD j 0 = 0) := fun j hj => by rw [getD_set_ne (by omega)]; exact HNN.out.2.2.1 j (by omega)
          clear R hbN hbq
          go_wp2
          go_roundw
          case rel => exact ⟨i + 1, by omega, by go_num, _, HB.out, by simpa using HNN.out.1, HNN.out.2.1.set _ hcb, HZ.out, HR.out, HG.out⟩
          case measure => simp [intOf]; omega
    · obtain rfl : i = la := by omega
      have hnum : Nums wr (some ⟨w.heap.size, 0, none⟩) (i + lb) (i + lb) M := by
        refine ⟨HM.out.1, Nat.le_refl _, by unfold maxLen; omega, fun _ => ⟨_, 0, rfl, fun j hj => ?_⟩, HM.out.2.1.wide⟩
        rw [Nat.zero_add]; exact hbM.cell (by have := HM.out.1; omega)
      have hfin : val 65536 M = val 65536 zs * val 65536 ys := by
        have := HM.out.2.2.2
        rw [vs_all _ M (by have := HM.out.1; omega), List.take_of_length_le (by have := HL.out; omega)] at this
        exact this
      have HF : Hid (val 65536 M = val 65536 zs * val 65536 ys) := hfin
      clear hfin
      go_wp2_with fail
      refine (cut_any _ _ _ _ _ hnum).mono ?_
      rintro e w' ⟨q, rfl, htr, rfl⟩
      have HT : Hid (Trim M q) := htr
      have hq : q ≤ i + lb := by have := htr.le; have := hnum.hlen; omega
      clear htr
      go_wp2_with fail
      go_ret
      exact ⟨_, _, _, M.take q, rfl, hnum.take hq, HM.out.2.1.take q, HT.out.Top, hq, by rw [HT.out.val]; exact HF.out, hb⟩
end Go.Proofs.Ytchmlfjjgehbkaa

namespace Go.Proofs.Ytchmlfjjgehbkaa
open Go.RowKit

set_option maxHeartbeats 400000 in
theorem refMul_any (a b : Option Addr) (la ca lb cb : Nat) (zs ys : List Int) (w : World) (h : Nums w a la ca zs) (h' : Nums w b lb cb ys) :
    Calls Try.prog 35 #[.slice a la ca, .slice b lb cb] w fun e w' => ∃ a' n cap' ls err, e = .returned (.tuple #[.slice a' n cap', .int .i64 err]) ∧ Nums w' a' n cap' ls ∧
      Res2 zs ys (val 18446744073709551616 zs * val 18446744073709551616 ys) ls err ∧ Below w.heap.size w w' := by
  cases hr : rightB zs with
  | false =>
    go_enter Try.func35, Try.ntmps35
    go_wp2_with fail
    refine (refRight_any _ _ _ _ _ h).mono ?_
    rintro e w' ⟨rfl, rfl⟩
    go_wp2_with fail
    refine (refRight_any _ _ _ _ _ h').mono ?_
    rintro e w' ⟨rfl, rfl⟩
    go_wp2_with fail
    go_ret2
    exact ⟨none, 0, 0, [], 1, rfl, Nums.nil _, by simp [Res2, hr], Below.refl _ _⟩
  | true =>
  cases hr' : rightB ys with
  | false =>
    go_enter Try.func35, Try.ntmps35
    go_wp2_with fail
    refine (refRight_any _ _ _ _ _ h).mono ?_
    rintro e w' ⟨rfl, rfl⟩
    go_wp2_with fail
    refine (refRight_any _ _ _ _ _ h').mono ?_
    rintro e w' ⟨rfl, rfl⟩
    go_wp2_with fail
    go_ret2
    exact ⟨none, 0, 0, [], 1, rfl, Nums.nil _, by simp [Res2, hr'], Below.refl _ _⟩
  | true =>
    have hla : la ≤ 64 := by have := right_len hr; have := h.hlen; omega
    have hlb : lb ≤ 64 := by have := right_len hr'; have := h'.hlen; omega
    have hzd := h.digs
    have hyd := h'.digs
    have hzl := right_len hr
    have hyl := right_len hr'
    go_enter Try.func35, Try.ntmps35
    go_wp2_with fail
    refine (refRight_any _ _ _ _ _ h).mono ?_
    rintro e w' ⟨rfl, rfl⟩
    go_wp2_with fail
    refine (refRight_any _ _ _ _ _ h').mono ?_
    rintro e w0 ⟨rfl, rfl⟩
    go_wp2_with fail
    refine (in_any _ _ _ _ _ h (by omega)).mono ?_
    rintro e w1 ⟨a1, n1, c1, ds, rfl, hn1, hd1, ht1, hv1, hb1⟩
    have hl1 := in_len hd1 ht1 hv1 hzd hzl
    have hl1' : n1 ≤ 256 := by have := hn1.hlen; omega
    have HV1 : Hid (val 65536 ds = val 18446744073709551616 zs) := hv1
    clear hv1 hl1
    go_wp2_with fail
    refine (in_any _ _ _ _ _ (h'.below hb1) (by omega)).mono ?_
    rintro e w2 ⟨a2, n2, c2, es, rfl, hn2, hd2, ht2, hv2, hb2⟩
    have hl2 := in_len hd2 ht2 hv2 hyd hyl
    have hl2' : n2 ≤ 256 := by have := hn2.hlen; omega
    have HV2 : Hid (val 65536 es = val 18446744073709551616 ys) := hv2
    clear hv2 hl2
    have hb12 := hb1.trans (hb2.mono hb1.size)
    go_wp2_with fail
    refine (rmul_any _ _ _ _ _ _ _ _ _ (hn1.below hb2) hn2 hd1 hd2 (by omega) (by omega)).mono ?_
    rintro e w3 ⟨a3, n3, c3, fs, rfl, hn3, hd3, ht3, hl3, hv3, hb3⟩
    have HV3 : Hid (val 65536 fs = val 65536 ds * val 65536 es) := hv3
    clear hv3
    have hb13 := hb12.trans (hb3.mono hb12.size)
    go_wp2_with fail
    refine (told_any _ _ _ _ _ hn3 hd3 ht3 (by omega)).mono ?_
    rintro e w4 ⟨a4, n4, c4, ls, err, rfl, hn4, hres, hb4⟩
    rw [HV3.out, HV1.out, HV2.out] at hres
    have HR : Hid (Res (val 18446744073709551616 zs * val 18446744073709551616 ys) ls err) := hres
    clear hres
    have hb14 := hb13.trans (hb4.mono hb13.size)
    go_wp2_with fail
    go_ret2
    exact ⟨_, _, _, _, _, rfl, hn4, by simp only [Res2, hr, hr']; exact HR.out, hb14⟩
end Go.Proofs.Ytchmlfjjgehbkaa
