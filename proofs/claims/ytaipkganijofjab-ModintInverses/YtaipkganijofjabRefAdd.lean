/-
  Contracts of the document's digit, add, Out, told and Add.
-/
import Derived.Test.YtaipkganijofjabAdd
import Derived.Test.YtaipkganijofjabRefCmp
namespace Go.Proofs.Ytaipkganijofjab
open Go.RowKit

set_option maxHeartbeats 400000 in
theorem digit_any (a : Option Addr) (len cap : Nat) (zs : List Int) (k : Nat) (w : World) (h : Nums w a len cap zs) :
    Calls Try.prog 99 #[.slice a len cap, .int .i64 (k : Int)] w fun e w' => e = .returned (.int .u64 (zs.getD k 0)) ∧ w' = w := by
  obtain ⟨hl, hcp, hm, hcells, hw⟩ := h
  by_cases h1 : k < len
  · obtain ⟨b, off, rfl, hc⟩ := hcells (by omega)
    have hlt : (k : Int) < (len : Int) := by omega
    have hcl := hc k h1
    obtain ⟨x, hx⟩ : ∃ x, x = zs.getD k 0 := ⟨_, rfl⟩
    rw [← hx] at hcl ⊢
    clear hx hc hcells
    go_enter Try.func99, Try.ntmps99
    go_wp2
    go_ret
    exact ⟨rfl, rfl⟩
  · have e : zs.getD k 0 = 0 := by simp only [List.getD]; rw [List.getElem?_eq_none (by omega)]; rfl
    rw [e]
    have hd : decide ((k : Int) < (len : Int)) = false := by simp; omega
    go_enter Try.func99, Try.ntmps99
    go_wp2
    go_ret
    exact ⟨rfl, rfl⟩

theorem radd_step {os : List Int} {zs ys : List Int} {k : Nat} {cy x y : Int} (hol : os.length = k) (hod : Digs 65536 os) (hzd : Digs 65536 zs) (hyd : Digs 65536 ys) (hc : 0 ≤ cy ∧ cy ≤ 1)
    (hv : val 65536 os + 65536 ^ k * cy = vs 65536 (fun i => zs.getD i 0) k + vs 65536 (fun i => ys.getD i 0) k) (hx : x = zs.getD k 0) (hy : y = ys.getD k 0) :
    (os ++ [(x + y + cy) % 65536]).length = k + 1 ∧ Digs 65536 (os ++ [(x + y + cy) % 65536]) ∧ (0 ≤ (x + y + cy) / 65536 ∧ (x + y + cy) / 65536 ≤ 1) ∧
    val 65536 (os ++ [(x + y + cy) % 65536]) + 65536 ^ (k + 1) * ((x + y + cy) / 65536) = vs 65536 (fun i => zs.getD i 0) (k + 1) + vs 65536 (fun i => ys.getD i 0) (k + 1) := by
  have bx : 0 ≤ x ∧ x < 65536 := by rw [hx]; exact hzd.getD (by decide) _
  have by' : 0 ≤ y ∧ y < 65536 := by rw [hy]; exact hyd.getD (by decide) _
  refine ⟨by simp [hol], hod.snoc ⟨by omega, by omega⟩, ⟨by omega, by omega⟩, ?_⟩
  simp only [vs]
  rw [val_snoc, hol, ← hx, ← hy, Int.pow_succ, Int.mul_assoc]
  generalize (65536 : Int) ^ k = P at hv ⊢
  have e : P * ((x + y + cy) % 65536) + P * (65536 * ((x + y + cy) / 65536)) = P * (x + y + cy) := by rw [← Int.mul_add]; congr 1; omega
  rw [Int.mul_add, Int.mul_add] at e
  omega

theorem radd_end {os zs ys : List Int} {k : Nat} {cy : Int} (hol : os.length = k) (hz : zs.length ≤ k) (hy : ys.length ≤ k)
    (hv : val 65536 os + 65536 ^ k * cy = vs 65536 (fun i => zs.getD i 0) k + vs 65536 (fun i => ys.getD i 0) k) : val 65536 (os ++ [cy]) = val 65536 zs + val 65536 ys := by
  rw [val_snoc, hol, hv, vs_all _ _ hz, vs_all _ _ hy]

set_option maxHeartbeats 800000 in
theorem radd_any (a b : Option Addr) (la ca lb cb : Nat) (zs ys : List Int) (w : World) (h : Nums w a la ca zs) (h' : Nums w b lb cb ys) (dz : Digs 65536 zs) (dy : Digs 65536 ys) (hla : la ≤ 100000) (hlb : lb ≤ 100000) :
    Calls Try.prog 77 #[.slice a la ca, .slice b lb cb] w fun e w' => ∃ a' n cap' ds, e = .returned (.slice a' n cap') ∧ Nums w' a' n cap' ds ∧ Digs 65536 ds ∧ Top ds ∧ n ≤ Nat.max la lb + 1 ∧
      val 65536 ds = val 65536 zs + val 65536 ys ∧ Below w.heap.size w w' := by
  have HL : Hid (zs.length = la ∧ ys.length = lb) := ⟨h.hlen, h'.hlen⟩
  have hm1 : la ≤ Nat.max la lb := Nat.le_max_left ..
  have hm2 : lb ≤ Nat.max la lb := Nat.le_max_right ..
  have hm3 : Nat.max la lb ≤ 100000 := Nat.max_le.2 ⟨hla, hlb⟩
  obtain ⟨m, hm⟩ : ∃ m, m = Nat.max la lb := ⟨_, rfl⟩
  have hcase : m = la ∨ m = lb := by rw [hm]; rcases Nat.le_total la lb with q | q; exact .inr (Nat.max_eq_right q); exact .inl (Nat.max_eq_left q)
  rw [← hm] at hm1 hm2 hm3 ⊢
  clear hm
  go_enter Try.func77, Try.ntmps77
  go_wp2
  go_loopw [5, 6, 7] (fun v cv i wr => ∃ k : Nat, k ≤ m ∧ i = .int .i64 k ∧ ∃ os cy, cv = .int .u64 cy ∧ Own wr w.heap.size v os ∧ os.length = k ∧ Digs 65536 os ∧ (0 ≤ cy ∧ cy ≤ 1) ∧
      val 65536 os + 65536 ^ k * cy = vs 65536 (fun i => zs.getD i 0) k + vs 65536 (fun i => ys.getD i 0) k ∧ Below w.heap.size w wr) (fun _ _ i _ => m - (intOf i).toNat)
  case atStart => exact ⟨0, Nat.zero_le _, rfl, [], 0, rfl, Own.nil _ _, rfl, Digs.nil _, by omega, by simp [vs, val], Below.refl _ _⟩
  case round =>
    obtain ⟨k, hk, rfl, os, cy, rfl, hown, hol, hod, hcy, hv, hb⟩ := hrel
    obtain ⟨x, hx⟩ : ∃ x, x = zs.getD k 0 := ⟨_, rfl⟩
    obtain ⟨y, hy⟩ : ∃ y, y = ys.getD k 0 := ⟨_, rfl⟩
    have bx : 0 ≤ x ∧ x < 65536 := by rw [hx]; exact dz.getD (by decide) _
    have by' : 0 ≤ y ∧ y < 65536 := by rw [hy]; exact dy.getD (by decide) _
    have R := radd_step hol hod dz dy hcy hv hx hy
    have HR : Hid ((os ++ [(x + y + cy) % 65536]).length = k + 1 ∧ Digs 65536 (os ++ [(x + y + cy) % 65536]) ∧ (0 ≤ (x + y + cy) / 65536 ∧ (x + y + cy) / 65536 ≤ 1) ∧
      val 65536 (os ++ [(x + y + cy) % 65536]) + 65536 ^ (k + 1) * ((x + y + cy) / 65536) = vs 65536 (fun i => zs.getD i 0) (k + 1) + vs 65536 (fun i => ys.getD i 0) (k + 1)) := R
    have HX : Hid (x = zs.getD k 0 ∧ y = ys.getD k 0) := ⟨hx, hy⟩
    have HV : Hid (os.length = k ∧ Digs 65536 os ∧ val 65536 os + 65536 ^ k * cy = vs 65536 (fun i => zs.getD i 0) k + vs 65536 (fun i => ys.getD i 0) k) := ⟨hol, hod, hv⟩
    have holb : os.length < 1000000 := by omega
    have hz1 := h.below hb
    have hy1 := h'.below hb
    clear R hx hy hol hod hv
    by_cases hlt1 : k < la
    · have hi1 : (k : Int) < (la : Int) := by omega
      go_wp2_with fail
      refine (digit_any _ _ _ zs k _ hz1).mono ?_
      rintro e w' ⟨rfl, rfl⟩
      rw [← HX.out.1]
      go_wp2_with fail
      refine (digit_any _ _ _ ys k _ hy1).mono ?_
      rintro e w1 ⟨rfl, rfl⟩
      rw [← HX.out.2]
      go_wp2_with (at_builtin; refine wpList_app1 _ rfl _ _ 62 rfl Try.underlying62 w.heap.size _ os rfl (hown.alloc _) ⟨w1.heap.size, 0, none⟩ ((x + y + cy) % 65536) rfl ?c1 holb w ?c2 ?c3 ?_)
      case c1 => simp
      case c2 => have := hb.size; simp; omega
      case c3 => exact hb.alloc hb.size _
      intro v' w2 hown1 hb1
      clear hown hb hz1 hy1
      go_wp2
      go_roundw
      case rel => exact ⟨k + 1, by omega, by go_num, _, _, rfl, hown1, HR.out.1, HR.out.2.1, HR.out.2.2.1, HR.out.2.2.2, hb1⟩
      case measure => simp [intOf]; omega
    · have hi1 : decide ((k : Int) < (la : Int)) = false := by simp; omega
      by_cases hlt2 : k < lb
      · have hi2 : (k : Int) < (lb : Int) := by omega
        go_wp2_with fail
        refine (digit_any _ _ _ zs k _ hz1).mono ?_
        rintro e w' ⟨rfl, rfl⟩
        rw [← HX.out.1]
        go_wp2_with fail
        refine (digit_any _ _ _ ys k _ hy1).mono ?_
        rintro e w1 ⟨rfl, rfl⟩
        rw [← HX.out.2]
        go_wp2_with (at_builtin; refine wpList_app1 _ rfl _ _ 62 rfl Try.underlying62 w.heap.size _ os rfl (hown.alloc _) ⟨w1.heap.size, 0, none⟩ ((x + y + cy) % 65536) rfl ?c1 holb w ?c2 ?c3 ?_)
        case c1 => simp
        case c2 => have := hb.size; simp; omega
        case c3 => exact hb.alloc hb.size _
        intro v' w2 hown1 hb1
        clear hown hb hz1 hy1
        go_wp2
        go_roundw
        case rel => exact ⟨k + 1, by omega, by go_num, _, _, rfl, hown1, HR.out.1, HR.out.2.1, HR.out.2.2.1, HR.out.2.2.2, hb1⟩
        case measure => simp [intOf]; omega
      · have hi2 : decide ((k : Int) < (lb : Int)) = false := by simp; omega
        have hcd : 0 ≤ cy ∧ cy < 65536 := by omega
        have hfin := radd_end HV.out.1 (by have := HL.out; omega) (by have := HL.out; omega) HV.out.2.2
        have hdf : Digs 65536 (os ++ [cy]) := HV.out.2.1.snoc hcd
        have HF : Hid (val 65536 (os ++ [cy]) = val 65536 zs + val 65536 ys ∧ Digs 65536 (os ++ [cy])) := ⟨hfin, hdf⟩
        clear hfin hdf
        go_wp2_with (at_builtin; refine wpList_app1 _ rfl _ _ 62 rfl Try.underlying62 w.heap.size _ os rfl (hown.alloc _) ⟨wr.heap.size, 0, none⟩ cy rfl ?c1 holb w ?c2 ?c3 ?_)
        case c1 => simp
        case c2 => have := hb.size; simp; omega
        case c3 => exact hb.alloc hb.size _
        intro v' w2 hown1 hb1
        obtain ⟨a1, n1, cap1, rfl, hnums⟩ := hown1.numsN HF.out.2.wide
        clear hown1 hown
        go_wp2_with fail
        refine (cut_any _ _ _ _ _ hnums).mono ?_
        rintro e w' ⟨q, rfl, htr, rfl⟩
        have HT : Hid (Trim (os ++ [cy]) q) := htr
        clear htr
        go_wp2_with fail
        go_ret
        refine ⟨_, _, _, (os ++ [cy]).take q, rfl, hnums.take (by have := HT.out.le; have := hnums.hlen; omega), HF.out.2.take q, HT.out.Top, ?_, by rw [HT.out.val]; exact HF.out.1, hb1⟩
        have h1 := HT.out.le
        rw [List.length_append, HV.out.1] at h1
        simp at h1; omega
end Go.Proofs.Ytaipkganijofjab
