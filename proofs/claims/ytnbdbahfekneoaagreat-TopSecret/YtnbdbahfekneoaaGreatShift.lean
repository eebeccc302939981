/-
  Contracts of nat.Shl and nat.Shr: a number's bits, moved up and down.
-/
import Derived.Test.YtnbdbahfekneoaaGreatNatC
import Derived.Test.YtnbdbahfekneoaaGreatNatE
namespace Go.Proofs.YtnbdbahfekneoaaGreat
open Go.RowKit

/-- What is told of a number whose bits are moved up. -/
def ResShl (zs : List Int) (n : Int) (ls : List Int) (err : Int) : Prop :=
  if rightB zs && decide (0 ≤ n) then (if zs.length = 0 then err = 0 ∧ ls = [] else if n > 4096 then err = 4 ∧ ls = [] else Res (val 18446744073709551616 zs * 2 ^ n.toNat) ls err) else err = 1 ∧ ls = []

/-- What is told of a number whose bits are moved down. -/
def ResShr (zs : List Int) (n : Int) (ls : List Int) (err : Int) : Prop :=
  if rightB zs && decide (0 ≤ n) then err = 0 ∧ Digs 18446744073709551616 ls ∧ Top ls ∧ ls.length ≤ 64 ∧ val 18446744073709551616 ls = val 18446744073709551616 zs / 2 ^ n.toNat else err = 1 ∧ ls = []

theorem ResShl.unique {zs : List Int} {n : Int} {ls ks : List Int} {e f : Int} (h : ResShl zs n ls e) (h' : ResShl zs n ks f) : ls = ks ∧ e = f := by
  unfold ResShl at h h'
  split at h
  · rename_i hc
    rw [if_pos hc] at h'
    split at h
    · rename_i hc2
      rw [if_pos hc2] at h'
      exact ⟨h.2.trans h'.2.symm, h.1.trans h'.1.symm⟩
    · rename_i hc2
      rw [if_neg hc2] at h'
      split at h
      · rename_i hc3
        rw [if_pos hc3] at h'
        exact ⟨h.2.trans h'.2.symm, h.1.trans h'.1.symm⟩
      · rename_i hc3
        rw [if_neg hc3] at h'
        exact h.unique h'
  · rename_i hc
    rw [if_neg hc] at h'
    exact ⟨h.2.trans h'.2.symm, h.1.trans h'.1.symm⟩

theorem ResShr.unique {zs : List Int} {n : Int} {ls ks : List Int} {e f : Int} (h : ResShr zs n ls e) (h' : ResShr zs n ks f) : ls = ks ∧ e = f := by
  unfold ResShr at h h'
  split at h
  · rename_i hc
    rw [if_pos hc] at h'
    obtain ⟨rfl, d1, t1, _, v1⟩ := h
    obtain ⟨rfl, d2, t2, _, v2⟩ := h'
    exact ⟨val_inj (by decide) d1 d2 t1 t2 (v1.trans v2.symm), rfl⟩
  · rename_i hc
    rw [if_neg hc] at h'
    exact ⟨h.2.trans h'.2.symm, h.1.trans h'.1.symm⟩

theorem pow64 (m : Nat) : (18446744073709551616 : Int) ^ m = 2 ^ (64 * m) := by rw [Int.pow_mul]; congr 1

theorem exists_digs : ∀ (v : Nat), ∃ zs, Digs 18446744073709551616 zs ∧ Top zs ∧ val 18446744073709551616 zs = (v : Int) := by
  intro v
  induction v using Nat.strongRecOn with
  | ind v ih =>
    by_cases h0 : v = 0
    · subst h0; exact ⟨[], Digs.nil _, .inl rfl, rfl⟩
    · obtain ⟨zs, hd, ht, hv⟩ := ih (v / 18446744073709551616) (by omega)
      refine ⟨((v : Int) % 18446744073709551616) :: zs, ?_, ?_, ?_⟩
      · intro x hx
        rcases List.mem_cons.1 hx with h1 | h1
        · omega
        · exact hd x h1
      · right
        rcases ht with rfl | ht
        · rw [val_nil] at hv
          simp only [List.length_cons, List.length_nil, Nat.zero_add, Nat.sub_self, List.getD_cons_zero]
          omega
        · by_cases hz : zs = []
          · subst hz
            rw [val_nil] at hv
            simp only [List.length_cons, List.length_nil, Nat.zero_add, Nat.sub_self, List.getD_cons_zero]
            omega
          · have hl : 0 < zs.length := List.length_pos_iff.2 hz
            obtain ⟨k, hk⟩ : ∃ k, zs.length = k + 1 := ⟨zs.length - 1, by omega⟩
            rw [List.length_cons, hk, Nat.add_sub_cancel, List.getD_cons_succ]
            rw [hk, Nat.add_sub_cancel] at ht
            exact ht
      · rw [val_cons, hv]; omega

theorem res_big {v : Int} (h : (18446744073709551616 : Int) ^ 64 ≤ v) : Res v [] 4 := by
  have hp := pow_pos' (B := 18446744073709551616) (by decide) 64
  obtain ⟨zs, hd, ht, hv⟩ := exists_digs v.toNat
  rw [Int.toNat_of_nonneg (by omega)] at hv
  refine .inr ⟨rfl, rfl, zs, hd, ht, hv, ?_⟩
  by_cases hl : 64 < zs.length
  · exact hl
  · have := val_lt_pow (B := 18446744073709551616) (by decide) hd (k := 64) (by omega)
    omega

/-- A number's bits: moved up by s, it fills all its limbs. -/
theorem bits_norm {zs : List Int} (hd : Digs 18446744073709551616 zs) (hr : rightB zs = true) (h0 : zs.length ≠ 0) : ∃ s : Nat, s ≤ 63 ∧ bitsZ zs = 64 * (zs.length : Int) - s ∧
    18446744073709551616 ^ (zs.length - 1) * 9223372036854775808 ≤ val 18446744073709551616 zs * 2 ^ s ∧ val 18446744073709551616 zs * 2 ^ s < 18446744073709551616 ^ zs.length := by
  obtain ⟨m, hm⟩ : ∃ m, zs.length = m + 1 := ⟨zs.length - 1, by omega⟩
  have htop : zs.getD m 0 ≠ 0 := by
    rcases right_top hr with e | e
    · rw [e] at h0; exact absurd rfl h0
    · rw [hm] at e; exact e
  have hy := hd.getD (by decide) m
  obtain ⟨s, hs, hs63, hn1, hn2⟩ := norm_of (show 0 < zs.getD m 0 by omega) hy.2
  refine ⟨s, hs63, ?_, ?_, ?_⟩
  · have e : bitsZ zs = (((m + 1 : Nat) : Int) - 1) * 64 + bl (zs.getD m 0) := by
      unfold bitsZ
      rw [hr, hm, Nat.add_sub_cancel, Bool.true_and, if_pos (by simp)]
    rw [e, hm]
    omega
  · rw [hm, Nat.add_sub_cancel]
    have e := val_take_succ 18446744073709551616 zs m (by omega)
    rw [List.take_of_length_le (by omega)] at e
    have t := val_nonneg (B := 18446744073709551616) (by decide) (hd.take m)
    have pm := pow_pos' (B := 18446744073709551616) (by decide) m
    have p2 := pow_pos' (B := 2) (by decide) s
    have f1 : 18446744073709551616 ^ m * 9223372036854775808 ≤ 18446744073709551616 ^ m * (zs.getD m 0 * 2 ^ s) := Int.mul_le_mul_of_nonneg_left hn1 (by omega)
    have f2 : 18446744073709551616 ^ m * zs.getD m 0 * 2 ^ s ≤ val 18446744073709551616 zs * 2 ^ s := Int.mul_le_mul_of_nonneg_right (by omega) (by omega)
    rw [Int.mul_assoc] at f2
    omega
  · rw [hm]
    have p2 := pow_pos' (B := 2) (by decide) s
    have pm := pow_pos' (B := 18446744073709551616) (by decide) m
    have e := val_take_succ 18446744073709551616 zs m (by omega)
    rw [List.take_of_length_le (by omega)] at e
    have t := val_lt (B := 18446744073709551616) (by decide) (hd.take m)
    rw [List.length_take, Nat.min_eq_left (by omega)] at t
    have hpr := pr_eq (p := s) (by omega)
    have hd1 : zs.getD m 0 < 2 ^ (64 - s) := by
      by_cases hc : zs.getD m 0 < 2 ^ (64 - s)
      · exact hc
      · have : 2 ^ (64 - s) * 2 ^ s ≤ zs.getD m 0 * 2 ^ s := Int.mul_le_mul_of_nonneg_right (by omega) (by omega)
        rw [Int.mul_comm (2 ^ (64 - s)), hpr] at this
        omega
    have f1 : 18446744073709551616 ^ m * (zs.getD m 0 + 1) ≤ 18446744073709551616 ^ m * 2 ^ (64 - s) := Int.mul_le_mul_of_nonneg_left (by omega) (by omega)
    rw [Int.mul_add] at f1
    have f2 : val 18446744073709551616 zs * 2 ^ s < 18446744073709551616 ^ m * 2 ^ (64 - s) * 2 ^ s := Int.mul_lt_mul_of_pos_right (by omega) p2
    rw [Int.mul_assoc, Int.mul_comm (2 ^ (64 - s)), hpr] at f2
    rw [Int.pow_succ]; exact f2

theorem shl_fits {zs : List Int} {n : Nat} (hd : Digs 18446744073709551616 zs) (hr : rightB zs = true) (h0 : zs.length ≠ 0) (h : (n : Int) ≤ 4096 - bitsZ zs) : val 18446744073709551616 zs * 2 ^ n < 18446744073709551616 ^ 64 := by
  obtain ⟨s, hs, hb, h1, h2⟩ := bits_norm hd hr h0
  have p2 := pow_pos' (B := 2) (by decide) s
  have pn := pow_pos' (B := 2) (by decide) n
  have f1 : val 18446744073709551616 zs * 2 ^ s * 2 ^ n < 18446744073709551616 ^ zs.length * 2 ^ n := Int.mul_lt_mul_of_pos_right h2 pn
  have f2 : (18446744073709551616 : Int) ^ zs.length * 2 ^ n ≤ 18446744073709551616 ^ 64 * 2 ^ s := by
    rw [pow64, pow64, ← Int.pow_add, ← Int.pow_add]
    exact pow_mono (by decide) (by omega)
  by_cases hc : val 18446744073709551616 zs * 2 ^ n < 18446744073709551616 ^ 64
  · exact hc
  · have f3 : 18446744073709551616 ^ 64 * 2 ^ s ≤ val 18446744073709551616 zs * 2 ^ n * 2 ^ s := Int.mul_le_mul_of_nonneg_right (Int.not_lt.1 hc) (by omega)
    rw [Int.mul_right_comm] at f3
    omega

theorem shl_big {zs : List Int} {n : Nat} (hd : Digs 18446744073709551616 zs) (hr : rightB zs = true) (h0 : zs.length ≠ 0) (h : 4096 - bitsZ zs < (n : Int)) : 18446744073709551616 ^ 64 ≤ val 18446744073709551616 zs * 2 ^ n := by
  obtain ⟨s, hs, hb, h1, h2⟩ := bits_norm hd hr h0
  have p2 := pow_pos' (B := 2) (by decide) s
  have pn := pow_pos' (B := 2) (by decide) n
  have f1 : 18446744073709551616 ^ (zs.length - 1) * 9223372036854775808 * 2 ^ n ≤ val 18446744073709551616 zs * 2 ^ s * 2 ^ n := Int.mul_le_mul_of_nonneg_right h1 (by omega)
  have f2 : (18446744073709551616 : Int) ^ 64 * 2 ^ s ≤ 18446744073709551616 ^ (zs.length - 1) * 9223372036854775808 * 2 ^ n := by
    rw [pow64, pow64, show (9223372036854775808 : Int) = 2 ^ 63 by decide, ← Int.pow_add, ← Int.pow_add, ← Int.pow_add]
    exact pow_mono (by decide) (by omega)
  by_cases hc : 18446744073709551616 ^ 64 ≤ val 18446744073709551616 zs * 2 ^ n
  · exact hc
  · have f3 : val 18446744073709551616 zs * 2 ^ n * 2 ^ s < 18446744073709551616 ^ 64 * 2 ^ s := Int.mul_lt_mul_of_pos_right (Int.not_le.1 hc) p2
    rw [Int.mul_right_comm] at f3
    omega

theorem shr_none {zs : List Int} {n : Nat} (hd : Digs 18446744073709551616 zs) (hr : rightB zs = true) (h : bitsZ zs ≤ (n : Int)) : val 18446744073709551616 zs / 2 ^ n = 0 := by
  have hn := val_nonneg (B := 18446744073709551616) (by decide) hd
  by_cases h0 : zs.length = 0
  · rw [List.eq_nil_of_length_eq_zero h0, val_nil, Int.zero_ediv]
  · obtain ⟨s, hs, hb, h1, h2⟩ := bits_norm hd hr h0
    have p2 := pow_pos' (B := 2) (by decide) s
    refine Int.ediv_eq_zero_of_lt hn ?_
    by_cases hc : val 18446744073709551616 zs < 2 ^ n
    · exact hc
    · have f3 : 2 ^ n * 2 ^ s ≤ val 18446744073709551616 zs * 2 ^ s := Int.mul_le_mul_of_nonneg_right (Int.not_lt.1 hc) (by omega)
      have f2 : (18446744073709551616 : Int) ^ zs.length ≤ 2 ^ n * 2 ^ s := by
        rw [pow64, ← Int.pow_add]
        exact pow_mono (by decide) (by omega)
      omega

theorem up_room2 {xs : List Int} {la n : Nat} (hx : Digs 18446744073709551616 xs) (hxl : xs.length = la) : val 18446744073709551616 xs * 2 ^ n < 18446744073709551616 ^ (la + n / 64 + 1) := by
  have p1 := pow_pos' (B := 2) (by decide) n
  have f2 := val_lt (B := 18446744073709551616) (by decide) hx
  have f3 : val 18446744073709551616 xs * 2 ^ n < 18446744073709551616 ^ xs.length * 2 ^ n := Int.mul_lt_mul_of_pos_right f2 p1
  have f4 : (18446744073709551616 : Int) ^ xs.length * 2 ^ n ≤ 18446744073709551616 ^ (la + n / 64 + 1) := by
    rw [pow64, pow64, ← Int.pow_add]
    exact pow_mono (by decide) (by omega)
  omega


set_option maxHeartbeats 800000 in
theorem shl_any (a : Option Addr) (la ca : Nat) (zs : List Int) (n : Int) (w : World) (h : Nums w a la ca zs) (hn : -9223372036854775808 ≤ n ∧ n < 9223372036854775808) :
    Calls Tryz.prog 109 #[.slice a la ca, .int .i64 n] w fun e w' => ∃ a' k cap' ls err, e = .returned (.tuple #[.slice a' k cap', .int .i64 err]) ∧ Nums w' a' k cap' ls ∧ ResShl zs n ls err ∧ Fresh w w' a' k ∧ Below w.heap.size w w' := by
  have hzd := h.digs
  have hzl := h.hlen
  have nothing : ∀ w', Fresh w w' none 0 := fun w' hp => absurd hp (Nat.lt_irrefl _)
  cases hr : rightB zs with
  | false =>
    clear hzl
    go_enter Tryz.func109, Tryz.ntmps109
    go_wp2_with fail
    refine (right_any _ _ _ _ _ h).mono ?_
    rintro e w' ⟨rfl, rfl⟩
    go_wp2_with fail
    go_ret2
    exact ⟨none, 0, 0, [], 1, rfl, Nums.nil _, by simp [ResShl, hr], nothing _, Below.refl _ _⟩
  | true =>
    by_cases hneg : n < 0
    · have HP : Hid (ResShl zs n [] 1) := (show ResShl zs n [] 1 by rw [ResShl, if_neg (by simp; omega)]; exact ⟨rfl, rfl⟩)
      clear hzl
      go_enter Tryz.func109, Tryz.ntmps109
      go_wp2_with fail
      refine (right_any _ _ _ _ _ h).mono ?_
      rintro e w' ⟨rfl, rfl⟩
      go_wp2_with fail
      go_ret2
      exact ⟨none, 0, 0, [], 1, rfl, Nums.nil _, HP.out, nothing _, Below.refl _ _⟩
    · obtain ⟨k, rfl⟩ := Int.eq_ofNat_of_zero_le (show 0 ≤ n by omega)
      have hla : la ≤ 64 := by have := right_len hr; omega
      have hres : ∀ ls err, (zs.length = 0 → err = 0 ∧ ls = []) → (zs.length ≠ 0 → (k : Int) > 4096 → err = 4 ∧ ls = []) → (zs.length ≠ 0 → ¬ (k : Int) > 4096 → Res (val 18446744073709551616 zs * 2 ^ k) ls err) → ResShl zs k ls err := by
        intro ls err h1 h2 h3
        rw [ResShl, hr, Bool.true_and, if_pos (by simp)]
        split
        · rename_i hc; exact h1 hc
        · rename_i hc
          split
          · rename_i hc2; exact h2 hc hc2
          · rename_i hc2; exact h3 hc hc2
      by_cases h0 : la = 0
      · subst h0
        have HP : Hid (ResShl zs k [] 0) := hres [] 0 (fun _ => ⟨rfl, rfl⟩) (fun hc => absurd hzl hc) (fun hc => absurd hzl hc)
        clear hzl hres
        go_enter Tryz.func109, Tryz.ntmps109
        go_wp2_with fail
        refine (right_any _ _ _ _ _ h).mono ?_
        rintro e w' ⟨rfl, rfl⟩
        go_wp2_with fail
        go_ret2
        exact ⟨none, 0, 0, [], 0, rfl, Nums.nil _, HP.out, nothing _, Below.refl _ _⟩
      · obtain ⟨s, hs, hbz, hb1, hb2⟩ := bits_norm hzd hr (by omega)
        clear hb1 hb2
        have hne : ((la : Int) == 0) = false := by simp; omega
        obtain ⟨bz, hbze⟩ : ∃ bz, bz = bitsZ zs := ⟨_, rfl⟩
        have hbb : 0 ≤ bz ∧ bz ≤ 4096 := by rw [hbze, hbz, hzl]; omega
        by_cases hbig : 4096 - bz < (k : Int)
        · have HP : Hid (ResShl zs k [] 4) := hres [] 4 (fun hc => absurd hc (by omega)) (fun _ _ => ⟨rfl, rfl⟩) (fun hc _ => res_big (shl_big hzd hr hc (by rw [← hbze]; exact hbig)))
          have HBZ : Hid (bz = bitsZ zs) := hbze
          clear hzl hres hbz hbze
          go_enter Tryz.func109, Tryz.ntmps109
          go_wp2_with fail
          refine (right_any _ _ _ _ _ h).mono ?_
          rintro e w' ⟨rfl, rfl⟩
          go_wp2_with fail
          refine (bits_any _ _ _ _ _ h).mono ?_
          rintro e w' ⟨rfl, rfl⟩
          rw [← HBZ.out]
          go_wp2_with fail
          go_ret2
          exact ⟨none, 0, 0, [], 4, rfl, Nums.nil _, HP.out, nothing _, Below.refl _ _⟩
        · have hk : k ≤ 4096 := by omega
          have hft := shl_fits (n := k) hzd hr (by omega) (by rw [← hbze]; omega)
          have HF : Hid (val 18446744073709551616 zs * 2 ^ k < 18446744073709551616 ^ 64) := hft
          have HU : Hid (val 18446744073709551616 zs * 2 ^ k < 18446744073709551616 ^ (la + k / 64 + 1)) := up_room2 hzd hzl
          have HR : Hid (∀ ls err, Res (val 18446744073709551616 zs * 2 ^ k) ls err → ResShl zs k ls err) := fun ls err hx => hres ls err (fun hc => absurd hc (by omega)) (fun _ hc => absurd hc (by omega)) (fun _ _ => hx)
          have HBZ : Hid (bz = bitsZ zs) := hbze
          clear hzl hres hbz hbze hft
          go_enter Tryz.func109, Tryz.ntmps109
          go_wp2_with fail
          refine (right_any _ _ _ _ _ h).mono ?_
          rintro e w' ⟨rfl, rfl⟩
          go_wp2_with fail
          refine (bits_any _ _ _ _ _ h).mono ?_
          rintro e w0 ⟨rfl, rfl⟩
          rw [← HBZ.out]
          go_wp2_with fail
          refine (movedUp_z _ _ _ k (la + k / 64 + 1) _ _ zs _ h (by omega) (by omega) (by omega) HU.out (by first | rfl | omega) (by omega)).mono ?_
          rintro e w1 ⟨M, rfl, hMl, hbM, hMd, hMv, hB1⟩
          have hnM := hbM.nums hMd hMl (by omega)
          have HM : Hid (M.length = la + k / 64 + 1 ∧ Digs 18446744073709551616 M ∧ val 18446744073709551616 M = val 18446744073709551616 zs * 2 ^ k) := ⟨hMl, hMd, hMv⟩
          clear hMl hMd hMv
          go_wp2_with fail
          refine (trimmed_any _ _ _ _ _ hnM).mono ?_
          rintro e w4 ⟨a', m, cap', rfl, htr, hk', hw4⟩
          subst hw4
          have hml : m ≤ la + k / 64 + 1 := by have := htr.le; have := HM.out.1; omega
          have hn4 : Nums w4 a' m cap' (M.take m) := by
            rcases hk' with ⟨rfl, rfl, rfl⟩ | ⟨_, rfl, rfl⟩
            · simpa using Nums.nil w4
            · exact hnM.take hml
          have hfr : Fresh w0 w4 a' m := fun hp => by
            rcases hk' with ⟨rfl, _, _⟩ | ⟨_, rfl, _⟩
            · exact absurd hp (Nat.lt_irrefl _)
            · exact ⟨_, M, rfl, Nat.le_refl _, hbM, by have := HM.out.1; omega⟩
          have hv' := htr.val (B := 18446744073709551616)
          have hl64 := len_le (B := 18446744073709551616) (by decide) (HM.out.2.1.take m) htr.Top (k := 64) (by rw [hv', HM.out.2.2]; exact HF.out)
          have HZ : Hid (ResShl zs k (M.take m) 0) := HR.out _ _ (.inl ⟨rfl, HM.out.2.1.take m, htr.Top, hl64, by rw [hv', HM.out.2.2]⟩)
          clear htr hk' hnM hv' hl64
          go_wp2_with fail
          go_ret2
          exact ⟨_, _, _, _, _, rfl, hn4, HZ.out, hfr, hB1⟩

end Go.Proofs.YtnbdbahfekneoaaGreat
