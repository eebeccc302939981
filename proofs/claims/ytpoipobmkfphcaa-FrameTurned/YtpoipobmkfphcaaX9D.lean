/-
  The program's reader: Bytes; and that the reader is as the laws ask.
-/
import Derived.Test.YtpoipobmkfphcaaX9C
import Derived.Deep.RegionWith
import Derived.BigRegion
namespace Go.Proofs.Ytpoipobmkfphcaa
open Go.RowKit

set_option maxRecDepth 20000 in
set_option maxHeartbeats 3200000 in
theorem c9rbyt_any (g : Nat) (L : List Int) (most : Int) (w : World) (h : CRdAt w g L) (hmost : -9223372036854775808 ≤ most ∧ most < 9223372036854775808) :
    Calls Try.prog 36 #[.pointer (some ⟨g, 0, none⟩), .int .i64 most] w fun e w' => BytT CRdAt w g L most e w' := by
  have HT : Hid (CRdAt w g L) := h
  obtain ⟨a, l, c, h0, h1, h2, h3⟩ := h
  have hc0 : w.cell? ⟨g, 0, none⟩ = some (.slice a l c) := by rw [cell_of_row w g 0 _ _ _ h1]; rfl
  go_enter Try.func36, Try.ntmps36
  go_wp2_with fail
  refine (c9rest_any g a l c _ hc0).mono ?_
  rintro e w1 ⟨rfl, rfl⟩
  go_wp2_with fail
  refine (c9first_any a l c L _ h2).mono ?_
  rintro e w1 ⟨n, k, rfl, hN, rfl⟩
  have sn : (k = 0 ∨ most < 0 ∨ most < (n : Int) ∨ L.length - k < n) → Hid (BytT CRdAt w g L most (.returned (.tuple #[.slice none 0 0, .int .i64 13])) w) := fun hc =>
    ⟨none, 0, 0, [], 13, L, rfl, ⟨Byts.nil _, fun _ => rfl, fun _ e => (by cases e)⟩, ⟨n, k, hN, .inl ⟨hc, rfl, rfl, rfl⟩⟩, HT.out, World.grownBy.refl _ _⟩
  by_cases hk0 : k = 0
  · have HR := sn (.inl hk0)
    have hki : ((k : Int) == 0) = true := by simp; omega
    clear hN HT h1 h2 h3 hk0 sn
    go_wp2
    go_ret2
    exact HR.out
  obtain ⟨n1, n2, -⟩ := hN.pos hk0
  have hki : ((k : Int) == 0) = false := by simp; omega
  by_cases hm0 : most < 0
  · have HR := sn (.inr (.inl hm0))
    clear hN HT h1 h2 h3 hk0 sn
    go_wp2
    go_ret2
    exact HR.out
  have hm0i : decide (most < 0) = false := decide_eq_false hm0
  obtain ⟨M, rfl⟩ : ∃ M : Nat, most = (M : Int) := ⟨most.toNat, by omega⟩
  by_cases hm1 : (M : Int) < (n : Int)
  · have HR := sn (.inr (.inr (.inl hm1)))
    have hm1i : M < n := by omega
    clear hN HT h1 h2 h3 hk0 sn hm0 hm1
    go_wp2
    go_ret2
    exact HR.out
  have hm1i : decide (M < n) = false := decide_eq_false (by omega)
  have hl := h2.hlen
  have hmx := h2.hmax
  have hcp := h2.hcap
  unfold maxLen at hmx
  obtain ⟨q, hq⟩ : ∃ q : Nat, q = L.length - k := ⟨_, rfl⟩
  have hqi : (L.length : Int) - (k : Int) = (q : Int) := by omega
  have hLb : L.length ≤ 140737488355300 := by omega
  by_cases hm2 : q < n
  · have HR := sn (.inr (.inr (.inr (by omega))))
    have hm2i : decide (q < n) = true := decide_eq_true hm2
    clear hN h1 h2 h3 hk0 sn hm0 hm1 hq hl
    go_wp2_with fail
    refine (c9left_any g L _ HT.out).mono ?_
    rintro e w1 ⟨rfl, rfl⟩
    clear HT
    go_wp2
    go_ret2
    exact HR.out
  have hm2i : decide (q < n) = false := decide_eq_false hm2
  obtain ⟨b, off, rfl, -⟩ := h2.cells (by omega)
  obtain ⟨t, ht⟩ : ∃ t : Nat, t = k + n := ⟨_, rfl⟩
  have hti : (k : Int) + (n : Int) = (t : Int) := by omega
  have htl : t ≤ l := by omega
  have hkt : k ≤ t := by omega
  have HD : Hid (∀ (a' : Option Addr), (0 < n → a' = some ⟨b, off + k, none⟩) → Byts w a' n (c - k) ((L.drop k).take n)) := fun a' ha => h2.part (by omega) ha
  have HB : Hid (∀ (a1 : Option Addr) (l1 c1 : Nat) (w2 : World), (Byts w2 a1 l1 c1 ((L.drop k).take n) ∧ (a1 = none → c1 = 0) ∧ ∀ ad, a1 = some ad → 0 < l1 → w.heap.size ≤ ad.block ∧ IsB w2 ad.block) → Below w.heap.size w w2 →
      w2.cell? ⟨g, 0, none⟩ = some (.slice (some ⟨b, off, none⟩) l c) ∧ w2.frozen? ⟨g, 0, none⟩ = false ∧
      ∀ a', (t < c → a' = some ⟨b, off + t, none⟩) → a' ≠ none → BytT CRdAt w g L (M : Int) (.returned (.tuple #[.slice a1 l1 c1, .int .i64 0])) (w2.setCell ⟨g, 0, none⟩ (.slice a' (l - t) (c - t)))) := fun a1 l1 c1 w2 ⟨y1, y2, y3⟩ hb => by
    have z1 := (hb.block g HT.out.lt).trans h1
    refine ⟨by rw [cell_of_row w2 g 0 _ _ _ z1]; rfl, frozen_of_row w2 g 0 _ _ z1, fun a' ha hn => ?_⟩
    obtain ⟨f2, f3⟩ := crd_put h0 htl (h2.below hb) z1 hb a' ha hn
    have hh : Head w2 g := ⟨_, _, z1, fun j x => by match j with | 0 => simp | j + 1 => simp⟩
    exact ⟨a1, l1, c1, _, 0, _, rfl, ⟨y1.head (grown_set w2 g 0 _) hh, y2, fun ad e h0 => by
      obtain ⟨k1, k2⟩ := y3 ad e h0
      exact ⟨k1, k2.kept ((grown_set w2 g 0 _).block ad.block k2.lt (by have := HT.out.lt; simp; omega))⟩⟩, ⟨n, k, hN, .inr ⟨by omega, rfl, rfl, rfl⟩⟩, by rw [← ht]; exact f2, f3⟩
  have hnl : n ≤ 140737488355300 := by omega
  have htk : t - k = n := by omega
  clear hN h1 h2 h3 hk0 sn hm0 hm1 hl hq
  go_wp2_with fail
  refine (c9left_any g L _ HT.out).mono ?_
  rintro e w1 ⟨rfl, rfl⟩
  clear HT
  by_cases hck : c = k
  · have hn0 : n = 0 := by omega
    have hct : t = c := by omega
    have hlc : l = c := by omega
    subst hn0
    subst hck
    subst hct
    subst hlc
    clear htl hkt ht hcp
    go_wp2_with fail
    have hD := HD.out (some ⟨b, off, none⟩) (fun h => absurd h (Nat.lt_irrefl _))
    rw [Nat.sub_self] at hD
    refine (clone9_any _ _ _ _ _ hD (by omega)).mono ?_
    rintro e w2 ⟨a1, l1, c1, rfl, hy, kb⟩
    obtain ⟨z0, zf, zR⟩ := HB.out a1 l1 c1 w2 hy kb
    have HR := (show Hid _ from zR)
    clear zR hy kb hD HD HB
    go_wp2
    go_ret2
    have hT := HR.out
    simp only [Nat.sub_self] at hT
    exact hT _ (fun h => absurd h (Nat.lt_irrefl _)) (by simp)
  · have hck' : k < c := by omega
    clear ht
    go_wp2_with fail
    have hD := HD.out (some ⟨b, off + k, none⟩) (fun _ => rfl)
    refine (clone9_any _ _ _ _ _ hD hnl).mono ?_
    rintro e w2 ⟨a1, l1, c1, rfl, hy, kb⟩
    obtain ⟨z0, zf, zR⟩ := HB.out a1 l1 c1 w2 hy kb
    have HR := (show Hid _ from zR)
    clear zR hy kb hD HD HB
    by_cases hct : c = t
    · subst hct
      obtain rfl : l = c := by omega
      clear hcp htl
      go_wp2
      go_ret2
      have hT := HR.out
      simp only [Nat.sub_self] at hT
      exact hT _ (fun h => absurd h (Nat.lt_irrefl _)) (by simp)
    · have hct' : t < c := by omega
      go_wp2
      go_ret2
      exact HR.out _ (fun _ => rfl) (by simp)

theorem rd_n9 : RdN9 CRdAt where
  lt := CRdAt.lt
  head := CRdAt.head
  below := CRdAt.below
  apart := CRdAt.apart
  new := fun a l c bs w h _ hl => c9new_any a l c bs w h hl
  left := fun g L w h => (c9left_any g L w h).mono fun e w' ⟨he, hw⟩ => ⟨he, by subst hw; exact Below.refl _ _⟩
  num := fun g L most w h _ => c9rnum_any g L most w h
end Go.Proofs.Ytpoipobmkfphcaa
