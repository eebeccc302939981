/-
  Contracts of Bits and Bit, the program's and the document's: how many bits a number has, and which.
-/
import Derived.Test.YtaipkganijofjabCarry
import Derived.Shelf.Small.Bits
namespace Go.Proofs.Ytaipkganijofjab
open Go.RowKit Go.Shelf

def len64_ren : Go.Shelf.Ren := ⟨fun | 129 => 100 | n => n, fun | 53 => 29 | 3 => 3 | 4 => 4 | 46 => 104 | 5 => 5 | 9 => 9 | n => n, fun n => n⟩
theorem len64_lays : Lays.n129 Try.prog len64_ren :=
  { mixed := by kernel_rfl, f129 := Try.func100.trans (by kernel_rfl),
    t3 := Try.underlying3, a3 := Try.isAgg3, z3 := Try.sizeOf3, v3 := Try.zeroValue3,
    t4 := Try.underlying4, a4 := Try.isAgg4, z4 := Try.sizeOf4, v4 := Try.zeroValue4,
    t5 := Try.underlying5, a5 := Try.isAgg5, z5 := Try.sizeOf5, v5 := Try.zeroValue5,
    t9 := Try.underlying9, a9 := Try.isAgg9, z9 := Try.sizeOf9, v9 := Try.zeroValue9,
    t46 := Try.underlying104, a46 := Try.isAgg104, z46 := Try.sizeOf104, v46 := Try.zeroValue104,
    t53 := Try.underlying29, a53 := Try.isAgg29, z53 := Try.sizeOf29, v53 := Try.zeroValue29 }

/-- How many bits a word has. -/
def bl (x : Int) : Int := (Lib.bitLen x.toNat : Int)

theorem len64_any (x : Int) (hx : 0 ≤ x ∧ x < 18446744073709551616) (w : World) :
    Calls Try.prog 100 #[.int .u64 x] w fun e w' => e = .returned (.int .i64 (bl x)) ∧ w' = w :=
  Any.bits_Len64 len64_lays x w hx.1 (by omega)

theorem bl_zero : bl 0 = 0 := by decide
theorem bl_half {x : Int} (h0 : 0 < x) (h : x < 18446744073709551616) : bl x = 1 + bl (x / 2) := by
  unfold bl
  rw [Lib.bitLen_half x.toNat (by omega) (by omega), show (x / 2).toNat = x.toNat / 2 by omega]
  omega
theorem bl_bd {x : Int} (h0 : 0 ≤ x) (h : x < 18446744073709551616) : 0 ≤ bl x ∧ bl x ≤ 64 := by
  unfold bl
  have := Lib.bitLen_le x.toNat 64 (by omega) (by omega)
  omega

theorem lt_bitLenAux : ∀ (f x : Nat), x < 2 ^ f → x < 2 ^ (Lib.bitLenAux f x)
  | 0, x, h => by simp at h; subst h; simp [Lib.bitLenAux]
  | f + 1, x, h => by
    simp only [Lib.bitLenAux]
    split
    · rename_i h0; subst h0; simp
    · have := lt_bitLenAux f (x / 2) (by rw [Nat.pow_succ] at h; omega)
      rw [Nat.add_comm, Nat.pow_succ]; omega
theorem lt_bl (x : Nat) (h : x < 18446744073709551616) : x < 2 ^ Lib.bitLen x := lt_bitLenAux 64 x (by omega)
theorem le_bitLenAux : ∀ (f x : Nat), x < 2 ^ f → 0 < x → 2 ^ (Lib.bitLenAux f x - 1) ≤ x
  | 0, x, h, h0 => by simp at h; omega
  | f + 1, x, h, h0 => by
    simp only [Lib.bitLenAux]
    rw [if_neg (by omega)]
    by_cases h1 : x / 2 = 0
    · rw [h1]; cases f <;> simp [Lib.bitLenAux] <;> omega
    · have h2 := le_bitLenAux f (x / 2) (by rw [Nat.pow_succ] at h; omega) (by omega)
      have h3 : 0 < Lib.bitLenAux f (x / 2) := by
        cases f with
        | zero => rw [Nat.pow_succ] at h; simp at h; omega
        | succ f => simp only [Lib.bitLenAux]; rw [if_neg h1]; omega
      rw [show 1 + Lib.bitLenAux f (x / 2) - 1 = (Lib.bitLenAux f (x / 2) - 1) + 1 by omega, Nat.pow_succ]
      omega
theorem le_bl (x : Nat) (h : x < 18446744073709551616) (h0 : 0 < x) : 2 ^ (Lib.bitLen x - 1) ≤ x := le_bitLenAux 64 x (by omega) h0

/-- How many bits a number has; which they are. -/
def bitsZ (zs : List Int) : Int := if rightB zs && decide (0 < zs.length) then ((zs.length : Int) - 1) * 64 + bl (zs.getD (zs.length - 1) 0) else 0
def bitB (zs : List Int) (i : Int) : Bool := rightB zs && (decide (0 ≤ i) && (decide (i / 64 < (zs.length : Int)) && decide (zs.getD (i / 64).toNat 0 / 2 ^ (i % 64).toNat % 2 = 1)))

set_option maxHeartbeats 400000 in
theorem bits_any (a : Option Addr) (len cap : Nat) (zs : List Int) (w : World) (h : Nums w a len cap zs) :
    Calls Try.prog 79 #[.slice a len cap] w fun e w' => e = .returned (.int .i64 (bitsZ zs)) ∧ w' = w := by
  have hl := h.hlen
  cases hr : rightB zs with
  | false =>
    have e1 : bitsZ zs = 0 := by simp [bitsZ, hr]
    rw [e1]
    go_enter Try.func79, Try.ntmps79
    go_wp2_with fail
    refine (right_any _ _ _ _ _ h).mono ?_
    rintro e w' ⟨rfl, rfl⟩
    go_wp2_with fail
    go_ret
    exact ⟨rfl, rfl⟩
  | true =>
    have h64 := right_len hr
    by_cases h0 : len = 0
    · have e1 : bitsZ zs = 0 := by simp [bitsZ, hl, h0]
      rw [e1]
      subst h0
      go_enter Try.func79, Try.ntmps79
      go_wp2_with fail
      refine (right_any _ _ _ _ _ h).mono ?_
      rintro e w' ⟨rfl, rfl⟩
      go_wp2_with fail
      go_ret
      exact ⟨rfl, rfl⟩
    · obtain ⟨b, off, rfl, hc⟩ := h.cells (by omega)
      have hcl := hc (len - 1) (by omega)
      have hne : ((len : Int) == 0) = false := by simp; omega
      have hw := h.digs.getD (by decide) (len - 1)
      obtain ⟨x, hx⟩ : ∃ x, x = zs.getD (len - 1) 0 := ⟨_, rfl⟩
      have e1 : bitsZ zs = ((len : Int) - 1) * 64 + bl x := by simp [bitsZ, hr, hl, hx]; omega
      rw [e1]
      rw [← hx] at hcl hw
      have hb := bl_bd hw.1 hw.2
      have hlen : len ≤ 64 := by omega
      clear hx hc e1
      go_enter Try.func79, Try.ntmps79
      go_wp2_with fail
      refine (right_any _ _ _ _ _ h).mono ?_
      rintro e w' ⟨rfl, rfl⟩
      rw [hr]
      go_wp2_with fail
      refine (len64_any _ hw _).mono ?_
      rintro e w' ⟨rfl, rfl⟩
      go_wp2_with fail
      go_ret
      exact ⟨rfl, rfl⟩


theorem bitsZ_pos {zs : List Int} (hr : rightB zs = true) (hp : 0 < zs.length) : bitsZ zs = ((zs.length : Int) - 1) * 64 + bl (zs.getD (zs.length - 1) 0) := by
  unfold bitsZ; rw [if_pos (by simp [hr, hp])]
theorem bitB_in {zs : List Int} {i : Int} (hr : rightB zs = true) (h0 : 0 ≤ i) (h1 : i / 64 < (zs.length : Int)) : bitB zs i = decide (zs.getD (i / 64).toNat 0 / 2 ^ (i % 64).toNat % 2 = 1) := by
  unfold bitB; rw [hr, decide_eq_true h0, decide_eq_true h1]; rfl

theorem bitB_top {zs : List Int} {i : Int} (hd : Digs 18446744073709551616 zs) (hi : 0 ≤ i) (hge : bitsZ zs ≤ i) : bitB zs i = false := by
  cases hr : rightB zs with
  | false => simp [bitB, hr]
  | true =>
    by_cases h1 : i / 64 < (zs.length : Int)
    · have hlen : 0 < zs.length := by omega
      have hw := hd.getD (by decide) (zs.length - 1)
      have hb := bl_bd hw.1 hw.2
      have e1 := bitsZ_pos hr hlen
      rw [e1] at hge
      have e2 : (i / 64).toNat = zs.length - 1 := by omega
      have e3 : zs.getD (zs.length - 1) 0 / 2 ^ (i % 64).toNat = 0 := by
        refine Int.ediv_eq_zero_of_lt hw.1 ?_
        obtain ⟨n, hn⟩ := Int.eq_ofNat_of_zero_le hw.1
        rw [hn] at hw hge hb ⊢
        have h2 := lt_bl n (by omega)
        have h3 : Lib.bitLen n ≤ (i % 64).toNat := by unfold bl at hge hb; simp at hge hb; omega
        have h4 := Nat.pow_le_pow_right (n := 2) (by omega) h3
        have h5 : ((2 ^ (i % 64).toNat : Nat) : Int) = (2 : Int) ^ (i % 64).toNat := by simp
        rw [← h5]; omega
      rw [bitB_in hr hi h1, e2, e3]; decide
    · simp [bitB, h1]

set_option maxHeartbeats 400000 in
theorem bit_any (a : Option Addr) (len cap : Nat) (zs : List Int) (i : Int) (w : World) (h : Nums w a len cap zs) (hi : i < 9223372036854775808) :
    Calls Try.prog 51 #[.slice a len cap, .int .i64 i] w fun e w' => e = .returned (.bool (bitB zs i)) ∧ w' = w := by
  have hl := h.hlen
  by_cases h0 : i < 0
  · have e1 : bitB zs i = false := by simp [bitB, show ¬ 0 ≤ i by omega]
    rw [e1]
    go_enter Try.func51, Try.ntmps51
    go_wp2_with fail
    go_ret
    exact ⟨rfl, rfl⟩
  · have hd0 : decide (i < 0) = false := by simp; omega
    by_cases hge : bitsZ zs ≤ i
    · have e1 := bitB_top h.digs (by omega) hge
      rw [e1]
      clear e1
      go_enter Try.func51, Try.ntmps51
      go_wp2_with fail
      refine (bits_any _ _ _ _ _ h).mono ?_
      rintro e w' ⟨rfl, rfl⟩
      go_wp2_with fail
      go_ret
      exact ⟨rfl, rfl⟩
    · have hdg : decide (bitsZ zs ≤ i) = false := by simp; omega
      have hr : rightB zs = true ∧ 0 < zs.length := by
        cases hr : rightB zs with
        | false => exact absurd (show bitsZ zs ≤ i by simp [bitsZ, hr]; omega) hge
        | true =>
          refine ⟨rfl, ?_⟩
          by_cases hp : 0 < zs.length
          · exact hp
          · exact absurd (show bitsZ zs ≤ i by simp [bitsZ, hp]; omega) hge
      have h64 := right_len hr.1
      have hw := h.digs.getD (by decide) (zs.length - 1)
      have hb := bl_bd hw.1 hw.2
      have e1 := bitsZ_pos hr.1 hr.2
      have hq : i / 64 < (len : Int) := by omega
      have hq0 : 0 ≤ i / 64 := by omega
      obtain ⟨b, off, rfl, hc⟩ := h.cells (by omega)
      have hcl := hc (i / 64).toNat (by omega)
      have hxw := h.digs.getD (by decide) (i / 64).toNat
      obtain ⟨x, hx⟩ : ∃ x, x = zs.getD (i / 64).toNat 0 := ⟨_, rfl⟩
      have e2 : bitB zs i = decide (x / 2 ^ (i % 64).toNat % 2 = 1) := by rw [bitB_in hr.1 (by omega) (by omega), hx]
      rw [e2]
      rw [← hx] at hcl hxw
      obtain ⟨bz, hbz⟩ : ∃ bz, bz = bitsZ zs := ⟨_, rfl⟩
      rw [← hbz] at hge hdg
      have HB : Hid (bz = bitsZ zs) := hbz
      have hi64 : 0 ≤ i ∧ i < 4096 := by omega
      clear hx hc e1 e2 hbz hr hb hw
      go_enter Try.func51, Try.ntmps51
      go_wp2_with fail
      refine (bits_any _ _ _ _ _ h).mono ?_
      rintro e w' ⟨rfl, rfl⟩
      rw [← HB.out]
      go_wp2_with fail
      go_ret
      have hp : (0 : Int) < 2 ^ (i % 64).toNat := pow_pos' (by decide) _
      have hq1 : 0 ≤ x / 2 ^ (i % 64).toNat := Int.ediv_nonneg hxw.1 (Int.le_of_lt hp)
      have hq2 : x / 2 ^ (i % 64).toNat ≤ x := Int.ediv_le_self _ hxw.1
      exact ⟨ret_bool (by rw [and_one_u64 _ hq1 (by omega)]; rfl), rfl⟩

end Go.Proofs.Ytaipkganijofjab
