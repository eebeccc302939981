/-
  The program's reader: Number and Int.
-/
import Derived.Test.YtpoipobmkfphcaaX9B
namespace Go.Proofs.Ytpoipobmkfphcaa
open Go.RowKit

/-- The reader goes on. -/
theorem crd_put {w wz : World} {g l c k b off : Nat} {L : List Int} (hl : l ≤ 140737488355300) (hk : k ≤ l) (hF : Byts wz (some ⟨b, off, none⟩) l c L)
    (hz : wz.heap[g]? = some (.cells #[.slice (some ⟨b, off, none⟩) l c] 61 (0, 0))) (hb : Below w.heap.size w wz) (a' : Option Addr) (ha : k < c → a' = some ⟨b, off + k, none⟩) (hn : a' ≠ none) :
    CRdAt (wz.setCell ⟨g, 0, none⟩ (.slice a' (l - k) (c - k))) g (L.drop k) ∧ w.grownBy (wz.setCell ⟨g, 0, none⟩ (.slice a' (l - k) (c - k))) (some g) := by
  have q := grown_set wz g 0 (.slice a' (l - k) (c - k))
  have hh : Head wz g := ⟨_, _, hz, fun j x => by match j with | 0 => simp | j + 1 => simp⟩
  have hcp := hF.hcap
  have hd := hF.drop hk
  have hd' : Byts wz a' (l - k) (c - k) (L.drop k) := by
    by_cases hc : k < c
    · rw [ha hc]; exact hd
    · exact hd.moved (by omega)
  refine ⟨⟨a', l - k, c - k, by omega, ?_, hd'.head q hh, fun e => absurd e hn⟩, ?_⟩
  · have := heap_setCell_same wz g 0 _ _ (.slice a' (l - k) (c - k)) hz
    simpa using this
  · refine ⟨q.os.trans hb.os, q.tape.trans hb.tape, q.output.trans hb.output, Nat.le_trans hb.size q.size, fun j hj hne => ?_⟩
    rw [q.block j (by have := hb.size; omega) hne, hb.block j hj]

set_option maxRecDepth 20000 in
set_option maxHeartbeats 1600000 in
theorem c9rnum_any (g : Nat) (L : List Int) (most : Nat) (w : World) (h : CRdAt w g L) :
    Calls Try.prog 35 #[.pointer (some ⟨g, 0, none⟩), .int .u64 most] w fun e w' => NumT CRdAt w g L most e w' := by
  have HT : Hid (CRdAt w g L) := h
  obtain ⟨a, l, c, h0, h1, h2, h3⟩ := h
  have hc0 : w.cell? ⟨g, 0, none⟩ = some (.slice a l c) := by rw [cell_of_row w g 0 _ _ _ h1]; rfl
  go_enter Try.func35, Try.ntmps35
  go_wp2_with fail
  refine (c9rest_any g a l c _ hc0).mono ?_
  rintro e w1 ⟨rfl, rfl⟩
  go_wp2_with fail
  refine (c9first_any a l c L _ h2).mono ?_
  rintro e w1 ⟨n, k, rfl, hN, rfl⟩
  by_cases hk0 : k = 0
  · subst hk0
    have HR : Hid (NumT CRdAt w g L most (.returned (.tuple #[.int .u64 0, .int .i64 13])) w) := ⟨0, 13, L, rfl, ⟨n, 0, hN, .inl ⟨.inl rfl, rfl, rfl, rfl⟩⟩, HT.out, World.grownBy.refl _ _⟩
    clear hN HT h1 h2 h3
    go_wp2
    go_ret2
    exact HR.out
  obtain ⟨n1, n2, -⟩ := hN.pos hk0
  have hki : ((k : Int) == 0) = false := by simp; omega
  by_cases hm : most < n
  · have HR : Hid (NumT CRdAt w g L most (.returned (.tuple #[.int .u64 0, .int .i64 13])) w) := ⟨0, 13, L, rfl, ⟨n, k, hN, .inl ⟨.inr hm, rfl, rfl, rfl⟩⟩, HT.out, World.grownBy.refl _ _⟩
    have hmi : (most : Int) < (n : Int) := by omega
    clear hN HT h1 h2 h3
    go_wp2
    go_ret2
    exact HR.out
  · have hmi : decide ((most : Int) < (n : Int)) = false := decide_eq_false (by omega)
    have hl := h2.hlen
    have hmx := h2.hmax
    have hcp := h2.hcap
    unfold maxLen at hmx
    obtain ⟨b, off, rfl, -⟩ := h2.cells (by omega)
    have hkl : k ≤ l := by omega
    have HR : Hid (∀ a', (k < c → a' = some ⟨b, off + k, none⟩) → a' ≠ none → NumT CRdAt w g L most (.returned (.tuple #[.int .u64 n, .int .i64 0])) (w.setCell ⟨g, 0, none⟩ (.slice a' (l - k) (c - k)))) := fun a' ha hn => by
      obtain ⟨f2, f3⟩ := crd_put h0 hkl h2 h1 (Below.refl _ _) a' ha hn
      exact ⟨n, 0, L.drop k, rfl, ⟨n, k, hN, .inr ⟨by omega, rfl, rfl, rfl⟩⟩, f2, f3⟩
    have hf0 : w.frozen? ⟨g, 0, none⟩ = false := frozen_of_row w g 0 _ _ h1
    clear hN HT h1 h2 h3 hl n2
    by_cases hcm : c = k
    · subst hcm
      obtain rfl : l = c := by omega
      clear hcp
      go_wp2
      go_ret2
      have hT := HR.out
      simp only [Nat.sub_self] at hT
      exact hT _ (fun h => absurd h (Nat.lt_irrefl _)) (by simp)
    · have hcm' : k < c := by omega
      go_wp2
      go_ret2
      exact HR.out _ (fun _ => rfl) (by simp)

end Go.Proofs.Ytpoipobmkfphcaa
