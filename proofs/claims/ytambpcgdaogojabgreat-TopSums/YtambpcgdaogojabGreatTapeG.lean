/-
  Contracts of Below and Small of the program's tapes.
-/
import Derived.Test.YtambpcgdaogojabGreatTapeE
namespace Go.Proofs.YtambpcgdaogojabGreat
open Go.RowKit

theorem resBelow_wrong {zs L : List Int} (h : ¬ (rightB zs = true ∧ 0 < zs.length)) : ResBelow zs L [] 1 L := by
  unfold ResBelow
  rw [if_neg h]
  exact ⟨rfl, rfl, rfl⟩

set_option maxHeartbeats 400000 in
theorem tbelow_any (a : Option Addr) (la ca : Nat) (zs : List Int) (g : Nat) (L : List Int) (w : World) (h : Nums w a la ca zs) (hT : TapeAt w g L) :
    Calls Tryz.prog 51 #[.pointer (some ⟨g, 0, none⟩), .slice a la ca] w fun e w' => BelowT TapeAt w g zs L e w' := by
  have hzl := h.hlen
  have hcm := h.hmax
  have hcp := h.hcap
  unfold maxLen at hcm
  cases hr : rightB zs with
  | false =>
    have HR : Hid (ResBelow zs L [] 1 L) := resBelow_wrong (by rw [hr]; simp)
    go_enter Tryz.func51, Tryz.ntmps51
    go_wp2_with fail
    refine (right_any _ _ _ _ _ h).mono ?_
    rintro e w1 ⟨rfl, rfl⟩
    rw [hr]
    go_wp2
    go_ret2
    exact ⟨none, 0, 0, [], 1, L, rfl, Nums.nil _, HR.out, hT, World.grownBy.refl _ _⟩
  | true =>
    by_cases h0 : la = 0
    · have HR : Hid (ResBelow zs L [] 1 L) := resBelow_wrong (by omega)
      subst h0
      go_enter Tryz.func51, Tryz.ntmps51
      go_wp2_with fail
      refine (right_any _ _ _ _ _ h).mono ?_
      rintro e w1 ⟨rfl, rfl⟩
      rw [hr]
      go_wp2
      go_ret2
      exact ⟨none, 0, 0, [], 1, L, rfl, Nums.nil _, HR.out, hT, World.grownBy.refl _ _⟩
    · have hne : ((la : Int) == 0) = false := by simp; omega
      have hmf : ∀ (fn : Fn) (first cap : Array Value) (w : World), (Instr.makeFunc fn first cap).run Tryz.prog w = .ok (.func fn first cap) w := fun _ _ _ _ => rfl
      clear hzl
      go_enter Tryz.func51, Tryz.ntmps51
      go_wp2_with fail
      refine (right_any _ _ _ _ _ h).mono ?_
      rintro e w1 ⟨rfl, rfl⟩
      rw [hr]
      go_wp2_with fail
      refine (drawn_any _ _ _ _ _ _ _ h hr (by omega) hT).mono ?_
      rintro e w2 ⟨xa, xn, xc, xs, xe, R, rfl, hx, hxr, hT2, hg2⟩
      have HR : Hid (ResBelow zs L xs xe R) := hxr
      clear hxr
      go_wp2
      go_ret2
      exact ⟨_, _, _, _, _, _, rfl, hx, HR.out, hT2, hg2⟩

/-- What is told of a small draw. -/
def ResSmall (n : Int) (L : List Int) (v err : Int) (R : List Int) : Prop := if n < 1 then v = 0 ∧ err = 1 ∧ R = L else ∃ ls, ResBelow (ofZ n) L ls err R ∧ v = smallZ ls

theorem ResSmall.unique {n : Int} {L : List Int} {v u e f : Int} {R S : List Int} (h : ResSmall n L v e R) (h' : ResSmall n L u f S) : v = u ∧ e = f ∧ R = S := by
  unfold ResSmall at h h'
  split at h
  · rename_i hc
    rw [if_pos hc] at h'
    obtain ⟨rfl, rfl, rfl⟩ := h
    obtain ⟨rfl, rfl, rfl⟩ := h'
    exact ⟨rfl, rfl, rfl⟩
  · rename_i hc
    rw [if_neg hc] at h'
    obtain ⟨ls, h1, rfl⟩ := h
    obtain ⟨ks, h2, rfl⟩ := h'
    obtain ⟨rfl, rfl, rfl⟩ := h1.unique h2
    exact ⟨rfl, rfl, rfl⟩

/-- How many bits the number ahead of n has. -/
def widthZ (n : Int) : Nat := (bitsZ (ofZ (n - 1))).toNat

theorem ofZ_word {n : Int} (h : 0 ≤ n ∧ n < 18446744073709551616) : Digs 18446744073709551616 (ofZ n) ∧ rightB (ofZ n) = true ∧ val 18446744073709551616 (ofZ n) = n := by
  unfold ofZ
  split
  · subst n; exact ⟨Digs.nil _, rfl, rfl⟩
  · refine ⟨fun x hx => ?_, ?_, ?_⟩
    · simp at hx; subst hx; exact h
    · simp [rightB]; assumption
    · simp [val]

theorem small_val {ls : List Int} {x : Int} (hd : Digs 18446744073709551616 ls) (hr : rightB ls = true) (hv : val 18446744073709551616 ls = x) (hx : x < 18446744073709551616) : smallZ ls = x := by
  have hl : ls.length ≤ 1 := len_le (B := 18446744073709551616) (by decide) hd (right_top hr) (by rw [hv]; omega)
  unfold smallZ
  rw [hr, if_pos (by simpa using hl)]
  match ls, hl with
  | [], _ => simpa [val] using hv
  | [y], _ => simpa [val] using hv

theorem small_out {n : Int} {L : List Int} {v err : Int} {R : List Int} (h : ResSmall n L v err R) (h1 : 1 ≤ n) (h2 : n < 9223372036854775808) :
    (widthZ n = 0 ∧ v = 0 ∧ err = 0 ∧ R = L) ∨ (0 < widthZ n ∧ ((Drawn ((widthZ n + 7) / 8) (2 ^ widthZ n) n L none R ∧ v = 0 ∧ err = 7) ∨ (Drawn ((widthZ n + 7) / 8) (2 ^ widthZ n) n L (some v) R ∧ err = 0 ∧ 0 ≤ v ∧ v < n))) := by
  unfold ResSmall at h
  rw [if_neg (by omega)] at h
  obtain ⟨ls, h, rfl⟩ := h
  obtain ⟨od, or', ov⟩ := ofZ_word (n := n) (by omega)
  have ol : 0 < (ofZ n).length := by unfold ofZ; rw [if_neg (by omega)]; simp
  unfold ResBelow at h
  rw [if_pos ⟨or', ol⟩, ov] at h
  obtain ⟨ms, md, mt, mv, h⟩ := h
  obtain ⟨pd, pr, pv⟩ := ofZ_word (n := n - 1) (by omega)
  have em : ms = ofZ (n - 1) := val_inj (by decide) md pd mt (right_top pr) (mv.trans pv.symm)
  subst em
  have hw0 : 0 ≤ bitsZ (ofZ (n - 1)) := (bits_lt pd pr (E := (n - 1).toNat) (by rw [pv]; omega)).1
  split at h
  · rename_i hc
    obtain ⟨rfl, rfl, rfl⟩ := h
    left
    exact ⟨by unfold widthZ; omega, by decide, rfl, rfl⟩
  · rename_i hc
    right
    have ew : ((bitsZ (ofZ (n - 1)) + 7) / 8).toNat = (widthZ n + 7) / 8 := by unfold widthZ; omega
    rw [ew] at h
    obtain ⟨r, hd, h⟩ := h
    refine ⟨by unfold widthZ; omega, ?_⟩
    rcases h with ⟨rfl, rfl, rfl⟩ | ⟨x, rfl, hx⟩
    · left; exact ⟨hd, by decide, rfl⟩
    · right
      have hb := hd.told (pow_pos' (by decide) _) x rfl
      have hp := pow_mono (B := 18446744073709551616) (by decide) (show 1 ≤ 64 by omega)
      rw [Int.pow_succ, Int.pow_zero, Int.one_mul] at hp
      obtain ⟨e0, xd, xr, xv⟩ := res_fits hx (by omega)
      have := small_val xd xr xv (by omega)
      rw [this]
      exact ⟨hd, e0, hb.1, hb.2⟩

theorem small_bd {n : Int} {L : List Int} {v err : Int} {R : List Int} (h : ResSmall n L v err R) (h1 : 1 ≤ n) (h2 : n < 9223372036854775808) : 0 ≤ v ∧ v < n := by
  rcases small_out h h1 h2 with ⟨_, rfl, _⟩ | ⟨_, ⟨_, rfl, _⟩ | ⟨_, _, h3⟩⟩
  · omega
  · omega
  · exact h3

/-- What a small draw makes of a tape. -/
def SmallT (At : World → Nat → List Int → Prop) (w : World) (g : Nat) (n : Int) (L : List Int) (e : Ending) (w' : World) : Prop :=
  ∃ v err R, e = .returned (.tuple #[.int .i64 v, .int .i64 err]) ∧ ResSmall n L v err R ∧ At w' g R ∧ w.grownBy w' (some g)

end Go.Proofs.YtambpcgdaogojabGreat
