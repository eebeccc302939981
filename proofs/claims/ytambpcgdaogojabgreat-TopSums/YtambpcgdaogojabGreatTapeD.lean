/-
  The contract of lowest: the lowest bits of some bytes, as a number.
-/
import Derived.Test.YtambpcgdaogojabGreatTapeC
import Derived.BigRegion
namespace Go.Proofs.YtambpcgdaogojabGreat
open Go.RowKit

theorem res_fits0 {v : Int} {ls : List Int} {e : Int} (h : Res v ls e) (hv : v < 18446744073709551616 ^ 64) : Res v ls 0 ∧ e = 0 := by
  rcases h with h | ⟨rfl, rfl, zs, d, t, hz, hl⟩
  · obtain ⟨rfl, h⟩ := h
    exact ⟨.inl ⟨rfl, h⟩, rfl⟩
  · have h1 := val_ge (B := 18446744073709551616) (by decide) d t (by intro e; subst e; simp at hl)
    have h2 := pow_mono (B := 18446744073709551616) (by decide) (show 64 ≤ zs.length - 1 by omega)
    omega

theorem byte_mask (y : Int) (s : Nat) (hy : 0 ≤ y ∧ y < 256) (hs : s < 8) : bits .and .u8 y (255 / 2 ^ s) = y % 2 ^ (8 - s) := by
  obtain ⟨h0, h1⟩ := hy
  have : s = 0 ∨ s = 1 ∨ s = 2 ∨ s = 3 ∨ s = 4 ∨ s = 5 ∨ s = 6 ∨ s = 7 := by omega
  rcases this with rfl | rfl | rfl | rfl | rfl | rfl | rfl | rfl <;> (simp; go_bits2)

theorem bytes_lt {bs : List Int} {k : Nat} (h : Digs 256 bs) (hk : bs.length ≤ k) : 0 ≤ val 256 bs.reverse ∧ val 256 bs.reverse < 256 ^ k := by
  have hr : Digs 256 bs.reverse := fun x hx => h x (List.mem_reverse.1 hx)
  exact ⟨val_nonneg (by decide) hr, val_lt_pow (by decide) hr (by simpa using hk)⟩

theorem BBlk.bytsC {w : World} {g n c : Nat} {L : List Int} (h : BBlk w g L) (hd : Digs 256 L) (hl : L.length = n) (hn : n ≤ c) (hc : c ≤ maxLen) : Byts w (some ⟨g, 0, none⟩) n c L := by
  subst hl
  refine ⟨rfl, hn, hc, fun _ => ⟨g, 0, rfl, fun i hi => ?_⟩, hd⟩
  rw [Nat.zero_add]; exact h.cell hi

set_option maxHeartbeats 800000 in
theorem lowest_any (g k c : Nat) (bs : List Int) (W : Nat) (w : World) (hb : BBlk w g bs) (hd : Digs 256 bs) (hk : bs.length = k) (hkc : k ≤ c) (hcm : c ≤ maxLen) (h5 : k ≤ 512) (hW1 : 8 * k < W + 8) (hW2 : W ≤ 8 * k) (hW0 : 0 < W) :
    Calls Tryz.prog 112 #[.slice (some ⟨g, 0, none⟩) k c, .int .i64 W] w fun e w' => ∃ a n c' ls, e = .returned (.slice a n c') ∧ Nums w' a n c' ls ∧ Res (val 256 bs.reverse % 2 ^ W) ls 0 ∧ w.grownBy w' (some g) := by
  have hk0 : 0 < k := by omega
  obtain ⟨y, r, rfl⟩ : ∃ y r, bs = y :: r := by
    cases bs with
    | nil => simp at hk; omega
    | cons y r => exact ⟨y, r, rfl⟩
  have by' := hd y (List.mem_cons_self ..)
  have hr : Digs 256 r := fun x hx => hd x (List.mem_cons_of_mem _ hx)
  have hc : w.cell? ⟨g, 0, none⟩ = some (.int .u8 y) := by have := hb.cell (j := 0) (by simp); simpa using this
  have hf : w.frozen? ⟨g, 0, none⟩ = false := hb.frozen 0
  obtain ⟨s, hs1, hs2⟩ : ∃ s : Nat, s + W = 8 * k ∧ s < 8 := ⟨8 * k - W, by omega, by omega⟩
  have hgl := hb.lt
  have hm := byte_mask y s by' hs2
  have hsi : (8 : Int) * (k : Int) - (W : Int) = (s : Int) := by omega
  have HB : Hid (∀ z, BBlk (w.setCell ⟨g, 0, none⟩ (.int .u8 z)).drew g (z :: r)) := fun z => hb.set 0 z
  simp only [List.length_cons] at hk
  clear hb hd
  go_enter Tryz.func112, Tryz.ntmps112
  go_wp2_with fail
  go_region
  have bz : 0 ≤ y % 2 ^ (8 - s) ∧ y % 2 ^ (8 - s) < 256 := by
    have h1 := Int.emod_nonneg y (show (2 : Int) ^ (8 - s) ≠ 0 by have := pow_pos' (B := 2) (by decide) (8 - s); omega)
    have h2 := Int.emod_lt_of_pos y (pow_pos' (B := 2) (by decide) (8 - s))
    have h3 := pow_mono (B := 2) (by decide) (show 8 - s ≤ 8 by omega)
    exact ⟨h1, by omega⟩
  have HV : Hid (val 256 (y % 2 ^ (8 - s) :: r).reverse = val 256 (y :: r).reverse % 2 ^ W) := by
    show _ = _
    rw [low_bits hr]; congr 2; omega
  have hB2 := HB.out (y % 2 ^ (8 - s))
  have hlow : Digs 256 (y % 2 ^ (8 - s) :: r) := fun x hx => by
    rcases List.mem_cons.1 hx with rfl | hx
    · exact bz
    · exact hr x hx
  have hby := hB2.bytsC hlow (show _ = k by simpa using hk) hkc hcm
  have hb2 : w.grownBy (w.setCell ⟨g, 0, none⟩ (.int .u8 (y % 2 ^ (8 - s)))).drew (some g) := by
    have q := grown_set w g 0 (.int .u8 (y % 2 ^ (8 - s)))
    exact ⟨q.os, q.tape, q.output, q.size, q.block⟩
  have HL : Hid (val 256 (y :: r).reverse % 2 ^ W < 18446744073709551616 ^ 64) := by
    show _ < _
    rw [← HV.out]
    have := (bytes_lt hlow (k := 512) (by simp; omega)).2
    have e : (18446744073709551616 : Int) ^ 64 = 256 ^ 512 := by rw [show (18446744073709551616 : Int) = 256 ^ 8 by decide, ← Int.pow_mul]
    omega
  generalize hw1 : (w.setCell ⟨g, 0, none⟩ (.int .u8 (y % 2 ^ (8 - s)))).drew = w1 at *
  clear hw1 hB2 hlow HB hc hf hm hsi by'
  go_wp2_with fail
  refine (read_any _ _ _ _ _ hby).mono ?_
  rintro e w2 ⟨xa, xn, xc, xs, xe, rfl, hx, hxr, hb3⟩
  have HR : Hid (Res (val 256 (y :: r).reverse % 2 ^ W) xs 0) := by
    have h1 := hxr
    rw [HV.out] at h1
    exact (res_fits0 h1 HL.out).1
  have hB := grown_trans hb2 (grown_of_below hb3 _)
  clear hxr hb3 hb2 hby
  go_wp2
  go_ret
  exact ⟨_, _, _, _, rfl, hx, HR.out, hB⟩
end Go.Proofs.YtambpcgdaogojabGreat
